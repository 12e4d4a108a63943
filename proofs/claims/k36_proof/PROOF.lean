import PyProof.Rows.All
import Wide.All
import OpenK.AllK
import Wide.FinOn
import Lean
import PyProof.EqAt
import PyProof.EqKinds
import PyProof.TupleCall
import KE.KSortKey
import KE.KLam
import PySem.Challenge.RW_shortrows_k36_whole_run_as_the_rows
namespace PySem.W.Fast
def tw13807020026177227486:=0
def tw10797961930591471268:=0
def tw275453520215245691:=0
def tw5310211618000829754:=0
def tw8372011841007128666:=0
noncomputable def tw2906108617799391259:=0
noncomputable def tw17961533666652698809:=0
noncomputable def tw3057894946131951311:=0
noncomputable def tw11016820754803291893:=0
noncomputable def tw17723743846090607988:=0
noncomputable def tw2711916239168795501:=0
noncomputable def tw16061263654139914535:=0
noncomputable def tw14014502487600589194:=0
noncomputable def tw2370828338281752297:=0
noncomputable def tw6207718315033526448:=0
noncomputable def tw5740932443153185997:=0
noncomputable def tw14928663403738070460:=0
noncomputable def tw10883644375930851708:=0
noncomputable def tw12215874375026996348:=0
noncomputable def tw12985041278208011984:=0
noncomputable def tw3108190331909131347:=0
noncomputable def tw15907895776285521984:=0
noncomputable def tw8230388777774847777:=0
noncomputable def tw4154120184875191795:=0
noncomputable def tw7552291671817396582:=0
noncomputable def tw8093545743326291199:=0
noncomputable def tw4387383934591240039:=0
noncomputable def tw7581106044568892672:=0
noncomputable def tw17729212789689333554:=0
noncomputable def tw13263379806966115284:=0
noncomputable def tw8687170744881992054:=0
noncomputable def tw9004916541530352909:=0
noncomputable def tw8740751373970490097:=0
noncomputable def tw11773664177764671717:=0
noncomputable def tw9166880550767818149:=0
noncomputable def tw9777553272584413377:=0
noncomputable def tw11448168961015178500:=0
noncomputable def tw4991853058377242196:=0
noncomputable def tw11677579848135016519:=0
noncomputable def tw4861286193375102032:=0
noncomputable def tw15102027704899024697:=0
noncomputable def tw208704185304453912:=0
noncomputable def tw6929365517512480533:=0
noncomputable def tw4960203516598183614:=0
noncomputable def tw6209376077782032179:=0
noncomputable def tw15419381225660286655:=0
noncomputable def tw14704263263454162745:=0
noncomputable def tw11944485632185323511:=0
noncomputable def tw6677618107424833451:=0
noncomputable def tw328464856839385812:=0
noncomputable def tw12013039703594351933:=0
noncomputable def tw17967360077268285439:=0
noncomputable def tw421111330349567217:=0
noncomputable def tw15058148072875931507:=0
noncomputable def tw17452404244218441068:=0
noncomputable def tw5141982111628802437:=0
noncomputable def tw12588751585796792794:=0
noncomputable def tw3407948960126165137:=0
noncomputable def tw8887875620652722977:=0
noncomputable def tw14286860575543392407:=0
noncomputable def tw3307503541093749902:=0
noncomputable def tw2451184156968806545:=0
noncomputable def tw3490727086627782281:=0
noncomputable def tw12229424835482869339:=0
noncomputable def tw13798229451516572820:=0
noncomputable def tw9390178685364199489:=0
noncomputable def tw14374391593276379915:=0
noncomputable def tw11227311584577085568:=0
noncomputable def tw18212073811971094119:=0
noncomputable def tw3980659284606054975:=0
noncomputable def tw6125899924172521305:=0
noncomputable def tw744442125019583651:=0
noncomputable def tw16493019292761530274:=0
noncomputable def tw15284191873101510612:=0
noncomputable def tw14481419050162106011:=0
noncomputable def tw8747313306390644776:=0
noncomputable def tw7237248322471451385:=0
noncomputable def tw16760636688936656441:=0
noncomputable def tw12635952930096408807:=0
noncomputable def tw8210548511982871844:=0
noncomputable def tw4977281144132579266:=0
noncomputable def tw8438772513110221324:=0
noncomputable def tw1097841816824885414:=0
noncomputable def tw6285986908934929814:=0
noncomputable def tw11423162216350188164:=0
noncomputable def tw5775458871201978543:=0
noncomputable def tw12155715298375194394:=0
noncomputable def tw9900478667978084133:=0
noncomputable def tw20313978914902647:=0
noncomputable def tw14462526283078178394:=0
noncomputable def tw17481854543905827943:=0
noncomputable def tw13570380757068282533:=0
noncomputable def tw13161942229205327546:=0
noncomputable def tw13474718735940508342:=0
noncomputable def tw3849957869956385599:=0
noncomputable def tw1652235551549816191:=0
noncomputable def tw9454851781522279310:=0
noncomputable def tw7087160094365081714:=0
noncomputable def tw5455064923747172783:=0
noncomputable def tw3389609101548443331:=0
noncomputable def tw9488249585498622111:=0
noncomputable def tw15453844054796887564:=0
noncomputable def tw14697529941475350360:=0
noncomputable def tw11716064474304372116:=0
noncomputable def tw16450352524282626745:=0
noncomputable def tw9434198650096852922:=0
noncomputable def tw13202167190198749880:=0
noncomputable def tw5690118171169139881:=0
noncomputable def tw6314622555820875116:=0
noncomputable def tw7139434667232317177:=0
noncomputable def tw13385849321130218310:=0
noncomputable def tw17778228467191428458:=0
noncomputable def tw1099184621427465520:=0
noncomputable def tw8375829333801206168:=0
noncomputable def tw15894034700182499343:=0
noncomputable def tw3220073637831658775:=0
noncomputable def tw8930475103566097117:=0
noncomputable def tw6553166838745156121:=0
noncomputable def tw7065241406469380231:=0
noncomputable def tw4906389085169974760:=0
noncomputable def tw627335132083044028:=0
noncomputable def tw8997583552514092032:=0
noncomputable def tw14910897684737855972:=0
noncomputable def tw10422640465461571865:=0
noncomputable def tw14454694119030412635:=0
noncomputable def tw485331794511157495:=0
noncomputable def tw16634267828424308312:=0
noncomputable def tw10183930597708852376:=0
noncomputable def tw4254654745509800410:=0
end PySem.W.Fast
set_option Elab.async false
set_option linter.all false
set_option maxRecDepth 100000
set_option maxHeartbeats 4000000
noncomputable section
set_option compiler.extract_closed false
theorem ℜz0(_:True:=by rfl):True:=⟨⟩
def ℜ0:Lean.Syntax:=ℜz0._auto_1
theorem ℜz1(_:True:=by decide):True:=⟨⟩
def ℜ1:Lean.Syntax:=ℜz1._auto_1
theorem ℜz2(_:True:=by first|exact .inl rfl|exact .inr rfl|assumption):True:=⟨⟩
def ℜ2:Lean.Syntax:=ℜz2._auto_1
theorem ℜz3(_:True:=by intro _;rfl):True:=⟨⟩
def ℜ3:Lean.Syntax:=ℜz3._auto_1
theorem ℜz4(_:True:=by first|exact Or.inl rfl|exact Or.inr (Or.inl rfl)|exact Or.inr (Or.inr rfl)):True:=⟨⟩
def ℜ4:Lean.Syntax:=ℜz4._auto_1
theorem ℜz5(_:True:=by with_unfolding_all rfl):True:=⟨⟩
def ℜ5:Lean.Syntax:=ℜz5._auto_1
theorem ℜz6(_:True:=by decide +kernel):True:=⟨⟩
def ℜ6:Lean.Syntax:=ℜz6._auto_1
namespace L2
open PySem PySem.Spec PyProof.Rows
variable{us:List Value}{x:Str}{u:Value}{C a b:Addr}{base h:Heap}{items:Array Value}{P:Program}{w:World}{g':Array GenState}{ch fp:List Addr}{e tg:Expr}{N:List Str}{i j k:Nat}{M:Model}{E Q:Value->Shared->Prop}{s':Shared}{pins:List (Addr×Obj)}{f:Value->Value->Sem Value}{es:List Expr}{g:Int->Int->Int}{body:List Stmt}{pl:Sem Bool}{mA mg:Str->Option Value}{kw:List (Str×Value)}{fd:FuncData}{outer:List Env}{kindOf:Str->Option NameKind}{scope:Scope}
def Ka:=@List.getElem?_eq_getElem
def Kb:=@PySem.wpAny_bind
def Kc:=@List.length_map
def Ke:=@List.length_append
def Kf:=@List.getElem?_eq_some_iff
def Kg:=@PySem.Heap.get?_push_of_some
def Kh:=@List.size_toArray
def Ki:=@if_neg
def Kj:=@if_pos
def Kk:=@Nat.le_refl
def Kl:=@List.mem_cons
def Km:=@List.mem_cons_self
def Kn:=@Nat.le_trans
def Ko:=@List.mem_cons_of_mem
def Kp:=@List.getElem?_map
def Kq:=@List.length_cons
def Ks:=@PySem.wpAny_pure
def Kt:=@List.getD_eq_getElem?_getD
def Ku:=@List.mem_singleton
def Kv:=@List.map_append
def Kw:=@List.length_replicate
def Kx:=@Bool.false_ne_true
def Ky:=@PySem.Heap.get?_push_size
def Kz:=@Nat.zero_le
def K0:=@PySem.Heap.lt_size
def K1:=@List.getElem_mem
def K2:=@List.append_assoc
def K4:=@List.getElem?_append_right
def K6:=@List.mem_append_right
def K7:=@List.not_mem_nil
def K8:=@List.length_take
def K9:=@List.map_cons
def KA:=@Nat.ne_of_lt
def KC:=@List.getElem?_append_left
def KD:=@Option.map_eq_some_iff
def KG:=@decide_eq_true
def KH:=@decide_eq_false
def KI:=@Nat.lt_of_lt_of_le
def KJ:=@List.mem_append
def KL:=@List.flatten_cons
def KN:=@Int.toNat_natCast
def KO:=@beq_eq_false_iff_ne
def KP:=@List.length_drop
def KQ:=@Array.getElem?_toList
def KR:=@PySem.PassesOwn.never
def KU:=@Array.length_toList
def KW:=@List.replicate_succ
def KY:=@List.pairwise_cons
def KZ:=@List.mem_map
def K_:=@congrArg
def La:=@List.take_of_length_le
def Lb:=@List.append_nil
def Lc:=@List.length_range
def Ld:=@List.length_set
def Le:=@List.mem_of_getElem?
def Lf:=@List.lookup_cons
def Lg:=@List.getElem?_cons_succ
def Lh:=@Nat.lt_or_ge
def Li:=@List.take_length
def Lj:=@PyProof.Rows.callWith_type1
def Lk:=@List.take_append_drop
def Ll:=@PySem.wpAny_callSpecial?_slot
def Lm:=@Nat.lt_of_le_of_lt
def Ln:=@Nat.le_succ
def Lo:=@Bool.and_eq_true
def Lp:=@or_false
def Lq:=@List.drop_eq_getElem_cons
def Lr:=@List.mem_or_eq_of_mem_set
def Ls:=@PySem.wpAny_mono
def Lu:=@PySem.Heap.size_push
def Lv:=@List.getElem?_toArray
def Lw:=@List.drop_zero
def Ly:=@List.getElem?_drop
def Lz:=@List.mem_replicate
def L0:=@Ne.symm
def L3:=@beq_self_eq_true
def L4:=@PySem.wpAny_call_entry
def L5:=@List.cons_append
def L6:=@List.pairwise_append
def L7:=@PySem.wpAny_holding
def L8:=@Nat.sub_self
def L9:=@List.take_succ
def LA:=@of_decide_eq_true
def LC:=@PySem.Heap.SameBut.update
def LD:=@List.mem_map_of_mem
def LF:=@List.flatten_append
def LG:=@List.nodup_cons
def LH:=@List.length_nil
def LI:=@List.perm_middle
def LJ:=@List.mem_range
def LK:=@PySem.wpAny_newObj_type
def LL:=@Nat.le_succ_of_le
def LM:=@List.nil_append
def LN:=@Nat.ne_of_gt
def LO:=@PySem.sizeLine_eq
def LP:=@List.map_map
def LQ:=@Nat.lt_irrefl
def LR:=@List.all_eq_true
def LS:=@List.range'_succ
def LU:=@List.getElem?_eq_none_iff
def LV:=@PyProof.Rows.slot_tuple_getitem
def LW:=@List.mem_append_left
def LX:=@List.find?_cons
def LY:=@Nat.pow_le_pow_right
def LZ:=@List.length_dropLast
def L_:=@List.all_cons
def Ma:=@Nat.mul_assoc
def Mb:=@PySem.wpAny_typeNameOfWhole_keyiter
def Mc:=@List.length_eq_zero_iff
def Md:=@List.mem_reverse
def Me:=@PySem.call_meets
def Mf:=@List.getElem_cons_zero
def Mg:=@Nat.le_of_lt
def Mh:=@List.map_nil
def Mi:=@Nat.min_self
def Mj:=@Nat.pow_succ
def Ml:=@Nat.eq_zero_or_pos
def Mm:=@PySem.wpAny_passesOwn
def Mn:=@List.range_succ
def Mo:=@PySem.F.slot_tuple_iterator_next
def Mp:=@Array.getElem?_eq_some_iff
def Mq:=@List.pairwise_iff_getElem
def Mr:=@Nat.succ_mul
def Ms:=@Nat.zero_add
def Mt:=@PySem.F.slot_list_getattribute
def Mv:=@PySem.wpAny_typeNameOf_keyiter
def Mw:=@List.map_set
def Mx:=@List.length_reverse
def My:=@Array.toList_append
def Mz:=@List.prefix_of_prefix_length_le
def M0:=@PySem.wpAny_getItem_str_slice
def M7:=@Option.bind_eq_some_iff
def M8:=@List.sum_cons
def M9:=@Bool.eq_iff_iff
def MB:=@PySem.wpAny_Call_Name_kw
def MC:=@List.forIn_cons
def MD:=@PySem.wpAny_pyIter_tuple
def ME:=@PySem.codeAny_builtin
def MG:=@Nat.not_lt_zero
def MH:=@List.getElem?_take
def MI:=@List.map_replicate
def MJ:=@Int.emod_nonneg
def MK:=@Int.emod_lt_of_pos
def ML:=@List.getElem?_set_self
def MM:=@PySem.wpAny_field
def MN:=@List.sum_replicate_nat
def MO:=@decide_eq_true_eq
def MP:=@PySem.Heap.get?_update_self
def MQ:=@if_true
def MR:=@List.length_singleton
def MT:=@Nat.lt_trans
def MU:=@PySem.wpAny_seqItems
def MV:=@beq_iff_eq
def MW:=@Nat.lt_succ_self
def MX:=@if_false
def MY:=@PySem.Around.under_plainId
def MZ:=@List.getElem?_append
def M_:=@List.reverse_reverse
def Na:=@List.ext_getElem
def Nb:=@Array.toArray_toList
def Nc:=@Option.bind_some
def Nd:=@Nat.add_assoc
def Nf:=@List.filterMap_cons
def Ng:=@List.dropWhile_cons
def Nh:=@PySem.W.KasT.kasWp_bind
def Ni:=@List.mem_filterMap
def Nj:=@List.getElem?_take_of_lt
def Nk:=@Nat.mul_comm
def Nl:=@Bool.false_eq_true
def Nm:=@PySem.Obj.data_mapFields
def Nn:=@Nat.sub_zero
def Np:=@PySem.wpAny_setField_rec
def Nq:=@Nat.add_sub_cancel
def Nr:=@List.prefix_append
def Nt:=@List.pairwise_singleton
def Nu:=@PySem.wpAny_truthy_bool
def Nv:=@PySem.wpAny_pyIter_enum
def Nw:=@PySem.wpAny_pyIter_list
def Nx:=@PySem.wpAny_dictEntries
def Ny:=@Int.emod_eq_of_lt
def Nz:=@Nat.pow_add
def N0:=@List.append_eq_nil_iff
def N1:=@List.dropWhile_sublist
def N2:=@List.any_cons
def N3:=@Bool.and_true
def N4:=@PySem.wpAny_attempt
def N5:=@List.map_take
def N6:=@Nat.succ_le_succ
def N7:=@List.take_succ_eq_append_getElem
def N8:=@List.drop_length
def N9:=@List.pairwise_reverse
def NA:=@List.mem_iff_getElem?
def NB:=@PySem.wpAny_isOneOf_keyiter
def NC:=@List.getElem?_eq_none
def ND:=@List.dropLast_eq_take
def NF:=@List.eraseIdx_eq_take_drop_succ
def NG:=@List.getElem?_set_ne
def NH:=@PySem.wpAny_execs_nil
def NI:=@List.foldl_cons
def NJ:=@PySem.wpAny_loadPart'
def NK:=@PySem.wpAny_typeOf
def NL:=@PyProof.Rows.get?_update_seq
def NM:=@PySem.post_val_or_str
def NN:=@List.range_eq_range'
def NO:=@List.mem_of_mem_take
def NP:=@List.count_cons
def NQ:=@Nat.mul_le_mul_right
def NR:=@Nat.min_eq_left
def NS:=@List.mem_iff_getElem
def NU:=@List.replicate_succ'
def NV:=@List.drop_append_of_le_length
def NW:=@List.takeWhile_cons
def NX:=@List.map_congr_left
def NY:=@List.reverse_append
def NZ:=@List.toList_toArray
def N_:=@List.length_pos_iff
def Oa:=@Bool.false_and
def Ob:=@PySem.F.args_tuple_iterator_next_1
def Oc:=@PySem.wpAny_setField
def Od:=@Nat.mul_le_mul
def Oe:=@List.take_left
def Of:=@PySem.wpAny_fieldsOf
def Og:=@PySem.wpAny_ite_true
def Oh:=@Nat.pow_pos
def Oi:=@Array.append_empty
def Oj:=@PySem.F.entry_tuple_iterator_next
def Ol:=@PySem.SeqAt.EqAt.of_refs
def Om:=@Array.getD_eq_getD_getElem?
def Oo:=@List.set_cons_zero
def Oq:=@Int.natAbs_natCast
def Ot:=@PySem.Calls.Name_function_global
def Ou:=@PySem.wpAny_standAt
def Ov:=@PySem.wpAny_letOwnedTupleGo_enum
def Ow:=@PySem.SeqAt.RcNeAt.lists_lengths
def Ox:=@PySem.wpAny_newList
def Oy:=@Array.getElem?_eq_none_iff
def Oz:=@PySem.slot_list_getitem
def O0:=@Nat.lt_succ_of_lt
def O1:=@List.ext_getElem?
def O2:=@List.pairwise_map
def O3:=@Nat.sub_le
def O4:=@PySem.typeIs_int
def O5:=@PySem.wpAny_binaryOp_repeat_ref
def O6:=@PySem.wpAny_rule
def O7:=@bne_iff_ne
def O8:=@List.extract_eq_take_drop
def O9:=@List.exists_mem_of_ne_nil
def OA:=@Array.getElem?_eq_getElem
def OB:=@List.mem_of_find?_eq_some
def OC:=@PySem.wpAny_eqBool_str
def OD:=@Nat.le_of_eq
def OE:=@Option.isSome_iff_exists
def OF:=@PySem.wpAny_getItem_list_slice
def OG:=@PySem.wpAny_comprehension_free
def OH:=@PySem.callType_new
def OI:=@decide_eq_decide
def OJ:=@PyProof.Rows.listItems_at
def OK:=@PySem.Heap.size_update
def OL:=@Array.toList_inj
def OM:=@List.Pairwise.imp_of_mem
def OO:=@List.zipIdx_cons
def OP:=@List.getElem?_replicate
def OQ:=@PySem.wpAny_pyNext_enum_itemD
def OR:=@PySem.SeqAt.eq_list_lengthsAt
def OS:=@Nat.add_sub_cancel_left
def OT:=@List.of_mem_zip
def OU:=@List.length_zip
def OV:=@PySem.wpAny_dictEpoch
def OW:=@PySem.wpAny_pyNext_list_item
def OY:=@PySem.Heap.get?_update_other
def OZ:=@PySem.Calls.callWith_builtin
def O_:=@PySem.wpAny_pyNext_enum_endD
def Pa:=@Int.le_refl
def Pb:=@List.length_eq_one_iff
def Pc:=@List.pairwise_lt_range
def Pd:=@Int.le_ediv_iff_mul_le
def Pe:=@Array.getElem?_eq_none
def Pg:=@Int.pow_pos
def Ph:=@Int.sub_mul
def Pj:=@Nat.add_mul
def Pm:=@PySem.fitsIndex_both
def Pp:=@Bool.and_false
def Pr:=@List.drop_left
def Pu:=@List.eq_nil_or_concat
def Pw:=@List.drop_drop
def Px:=@List.set_append_right
def Py:=@List.singleton_append
def Pz:=@Int.emod_add_mul_ediv
def P4:=@PySem.typeIs_str
def P5:=@Nat.not_lt
def P6:=@Bool.true_and
def P8:=@PySem.plainId_quiet
def P9:=@Bool.not_true
def PB:=@List.map_drop
def PC:=@PySem.codeAny_mono
def PD:=@PySem.seqIndex_neg
def PF:=@Nat.add_comm
def PH:=@Nat.mul_zero
abbrev PJ:=PySem.W.Frag
variable{K:PJ}
abbrev Key:=Sum Int Str
noncomputable def i9:Key->Value->Bool
 |.inl k,v=>Value.isInt k v
 |.inr x,v=>Value.isStrOf x v
noncomputable def Ja(w:World):Key->Int
 |.inl k=>hashInt k
 |.inr x=>hashStr w x
theorem bY:∀{k:Key} {v:Value},i9 k v=true->(∃i t,k=Sum.inl i/\v=Value.int i t)\/(∃x t,k=Sum.inr x/\v=Value.str x t)
 |.inl i,v,h=>by
  obtain⟨t,e⟩:=Value.isInt_shape (k:=i) (v:=v) h;exact .inl ⟨i,t,rfl,e⟩
 |.inr x,v,h=>by
  obtain⟨t,e⟩:=Value.isStrOf_shape (x:=x) (v:=v) h;exact .inr ⟨x,t,rfl,e⟩
theorem vF(i:Int)(t:Tok):i9 (.inl i) (.int i t)=true:=by simp[i9,Value.isInt]
theorem wM(x:Str)(t:Tok):i9 (.inr x) (.str x t)=true:=by simp[i9,Value.isStrOf]
theorem E1(a b:Int):decide ((Sum.inl a:Key)=Sum.inl b)=(a == b):=by
 by_cases e:a=b
 ·subst e;simp
 ·have h:¬ (Sum.inl a:Key)=Sum.inl b:=λq=>e (Sum.inl.inj q);rw[KH h];exact (KO.mpr e).symm
theorem Gm(a b:Str):decide ((Sum.inr a:Key)=Sum.inr b)=decide (a=b):=by
 by_cases e:a=b
 ·subst e;simp
 ·have h:¬ (Sum.inr a:Key)=Sum.inr b:=λq=>e (Sum.inr.inj q);rw[KH h,KH e]
theorem Ek(a:Int)(b:Str):decide ((Sum.inl a:Key)=Sum.inr b)=false:=KH (λq=>nomatch q)
theorem Gi(a:Str)(b:Int):decide ((Sum.inr a:Key)=Sum.inl b)=false:=KH (λq=>nomatch q)
noncomputable def cz(prog:Program)(w:World):PySem.KeyKind prog w Key where
 is:=i9
 hash:=Ja w
 inj:=λv a b ha hb=>by
  rcases bY ha with ⟨i,t,rfl,rfl⟩|⟨x,t,rfl,rfl⟩
  ·rcases bY hb with ⟨j,u,rfl,e⟩|⟨y,u,rfl,e⟩
   ·injection e with e1 _;rw[e1]
   ·exact nomatch e
  ·rcases bY hb with ⟨j,u,rfl,e⟩|⟨y,u,rfl,e⟩
   ·exact nomatch e
   ·injection e with e1 _;rw[e1]
 byValue:=λk v h=>by
  rcases bY h with ⟨i,t,rfl,rfl⟩|⟨x,t,rfl,rfl⟩<;>rfl
 pyHash:=λhv h=>by
  rcases bY hv with ⟨i,t,rfl,rfl⟩|⟨x,t,rfl,rfl⟩
  ·exact wpAny_pyHash_int h
  ·exact wpAny_pyHash_str h
 eqBool:=λhu hv h=>by
  rcases bY hu with ⟨i,t,rfl,rfl⟩|⟨x,t,rfl,rfl⟩
  ·rcases bY hv with ⟨j,u,rfl,rfl⟩|⟨y,u,rfl,rfl⟩
   ·rw[E1] at h;exact wpAny_eqBool_int h
   ·rw[Ek] at h;exact SeqAt.EqAt.int_str i t y u _ _ _ _ h
  ·rcases bY hv with ⟨j,u,rfl,rfl⟩|⟨y,u,rfl,rfl⟩
   ·rw[Gi] at h;exact SeqAt.EqAt.str_int x t j u _ _ _ _ h
   ·rw[Gm] at h;exact OC h
 «strs»:=λk x t v h=>by
  rcases bY h with ⟨i,u,rfl,e⟩|⟨y,u,rfl,e⟩
  ·exact nomatch e
  ·injection e with e1 _
   subst e1
   cases v<;>rfl
theorem qN(prog:Program)(w:World)(i:Int)(t:Tok):(cz prog w).is (.inl i) (.int i t)=true:=vF i t
theorem qr(prog:Program)(w:World)(x:Str)(t:Tok):(cz prog w).is (.inr x) (.str x t)=true:=wM x t
inductive V where
 |aX|bl (b:Bool)|int (i:Int)|str (x:Str)|qV (b:Array UInt8)|IH (b:UInt64)|ref (a:Addr)|ty (n:String)
 deriving DecidableEq
variable{xs:List V}
noncomputable def RelV:V->Value->Prop
 |.aX,u=>u=Value.none
 |.bl b,u=>u=Value.bool b
 |.int i,u=>∃t,u=Value.int i t
 |.str x,u=>∃t,u=Value.str x t
 |.qV b,u=>∃t,u=Value.bytes b t
 |.IH b,u=>∃t,u=Value.float b t
 |.ref a,u=>u=Value.ref a
 |.ty n,u=>u=Value.type n
abbrev Vals:List V->List Value->Prop:=Paired RelV
theorem Vals.length(r:Vals xs us):xs.length=us.length:=Paired.length r
theorem Vals.get:∀{xs:List V} {us:List Value} {i:Nat} {x:V},Vals xs us->xs[i]?=some x->∃u,us[i]?=some u/\RelV x u
 |_,_,_,_,.nil,e=>by simp at e
 |_,_,0,_,.cons r _,e=>by simp at e;subst e;exact⟨_,rfl,r⟩
 |_,_,i+1,x,.cons _ t,e=>by
  obtain⟨u,h1,h2⟩:=Vals.get (i:=i) (x:=x) t (by simpa using e)
  exact⟨u,by simpa using h1,h2⟩
theorem Vals.set{x:V}(r:RelV x u):∀{xs:List V} {us:List Value} (i:Nat),Vals xs us->Vals (xs.set i x) (us.set i u)
 |_,_,_,.nil=>.nil
 |_,_,0,.cons _ t=>.cons r t
 |_,_,i+1,.cons q t=>.cons q (Vals.set r i t)
theorem Vals.append:∀{xs ys:List V} {us ws:List Value},Vals xs us->Vals ys ws->Vals (xs++ys) (us++ws)
 |_,_,_,_,.nil,s=>s
 |_,_,_,_,.cons r t,s=>.cons r (Vals.append t s)
theorem Vals.take:∀{xs:List V} {us:List Value} (n:Nat),Vals xs us->Vals (xs.take n) (us.take n)
 |_,_,0,_=>.nil
 |_,_,_+1,.nil=>.nil
 |_,_,n+1,.cons r t=>.cons r (Vals.take n t)
theorem Vals.drop:∀{xs:List V} {us:List Value} (n:Nat),Vals xs us->Vals (xs.drop n) (us.drop n)
 |_,_,0,r=>r
 |_,_,_+1,.nil=>.nil
 |_,_,n+1,.cons _ t=>Vals.drop n t
def hJ:Option V->Option Value->Prop
 |some v,some u=>RelV v u
 |none,none=>True
 |_,_=>False
def KV{κ:Type}:List (κ×V)->List (κ×Value)->Prop:=Paired λ(p:κ×V) (q:κ×Value)=>p.1=q.1/\RelV p.2 q.2
noncomputable def kV:Key->V
 |.inl i=>.int i
 |.inr x=>.str x
inductive HO where
 |lst (xs:List V)
 |tup (xs:List V)
 |dK (kvs:List (Key×V))|dT (kvs:List (List Key×V))
 |set (S:Int->Bool) (n:Nat)
 |ins (C dx:Addr) (fs:List (Str×V))
 |own (x:Addr)
 |xd (fs:List (Str×V))
 |met (f x:Addr)
 |mK (lo hi:Int)
 |jG (o:Obj) (u:HO)
 |AD (ps:Array Value)
 |ext (φ:Heap->Prop)
variable{o:HO}
abbrev Hp:=Addr->Option HO
variable{H:Hp}
noncomputable def upd(H:Hp)(a:Addr)(o:HO):Hp:=λb=>if b=a then some o else H b
theorem aa:upd H a o a=some o:=by unfold upd;rw[Kj rfl]
theorem ae(h:b≠a):upd H a o b=H b:=by unfold upd;rw[Ki h]
theorem m_{u:HO}:upd (upd H a o) a u=upd H a u:=by
 funext b;unfold upd;split<;>rfl
theorem Ij{u:HO}(h:H a=some o)(h':H b=some u)(d:o≠u):a≠b:=by
 intro e;subst e;rw[h] at h';exact d (Option.some.inj h')
theorem ao(h:H a=some o)(h':H b=none):a≠b:=by
 intro e;subst e;rw[h] at h';cases h'
noncomputable def Jz:List Value->Str
 |.str q _::_=>q
 |_=>Str.ofString ""
noncomputable def Aw(ps:Array Value):Str:=Jz ps.toList
noncomputable def Dy(H:Hp)(q:Str)(cv:Value):Prop:=∃(c:Addr) (oc:Obj) (vs:Array Value) (t:Tok),cv=.ref c/\H c=some (.jG oc (.own c))/\oc.data=.fields vs/\vs[1]?=some (.str q t)
def eL(h:Heap)(a:Addr)(items:Array Value):Prop:=∃o:Obj,h.get? a=some o/\o.cls=.type "tuple"/\∃n,o.data=.seq items n/\o.dict=none
theorem eL.to(x:eL h a items):IsTup h a items:=let ⟨o,e,c,n,d,_⟩:=x;⟨o,e,c,n,d⟩
theorem eL.new(h:Heap)(items:Array Value):eL (h.push {cls:=.type "tuple",data:=.seq items}) h.objs.size items:=⟨_,Ky h rfl,rfl,_,rfl,rfl⟩
theorem eL.lt(x:eL h a items):a<h.objs.size:=x.to.lt
section
variable (P:Program) (w:World)
noncomputable def bQ(H:Hp)(h:Heap)(a:Addr):HO->Prop
 |.lst xs=>xs.length<=sizeLine/\∃(its:List Value) (n:Nat),Vals xs its/\h.get? a=some {cls:=.type "list",data:=.seq its.toArray n}
 |.tup xs=>xs.length<=sizeLine/\∃its:List Value,Vals xs its/\eL h a its.toArray
 |.dK kvs=>kvs.length<=sizeLine/\(a == sysModules)=false/\∃vs,KV kvs vs/\h.DictOf (cz P w) a vs
 |.dT kvs=>kvs.length<=sizeLine/\(a == sysModules)=false/\∃xs:List (List Key×Addr×Value),
   Paired (λ(p:List Key×V) (q:List Key×Addr×Value)=>p.1=q.1/\H q.2.1=some (.tup (p.1.map kV))/\RelV p.2 q.2.2) kvs xs /\
   ∃o es ep,h.get? a=some o/\o.ExactDict/\o.data=.dict es ep/\es.toList=xs.map (entryOfKey (tupleKind (cz P w)))/\(xs.map (·.1)).Nodup
 |.set S n=>h.SetOf (intKind P w) a S n
 |.ins C dx fs=>H dx=some (.own a)/\fs.length<=1000/\dx≠a/\h.get? a=some (PySem.W.instObj C dx) /\
   ∃mA,h.Ns1 dx mA/\(∀f,hJ (fs.lookup f) (mA f))/\PySem.Within mA (fs.map (·.1))
 |.own _=>∃o,h.get? a=some o
 |.xd fs=>∃mA,h.Ns1 a mA/\∀f,hJ (fs.lookup f) (mA f)
 |.mK lo hi=>∃t u v,h.get? a=some {cls:=.type "range",data:=.fields #[.int lo t,.int hi u,.int 1 v]}
 |.jG o u=>h.get? a=some o/\bQ H h a u
 |.AD ps=>∃qs:Array Value,h.get? a=some {cls:=.none,data:=.fields qs}/\TriplesOk qs.toList/\∀pos cv,codeAmong pos qs.toList=some cv->Dy H (Aw ps) cv
 |.met f x=>h.get? a=some (PySem.W.methodObj (.ref f) (.ref x))
 |.ext φ=>φ h/\(∃o,h.get? a=some o)/\∀h1 h2:Heap,φ h1->(∀o,h1.get? a=some o->h2.get? a=some o)->φ h2
def iz(H:Hp)(h:Heap):Prop:=∀a o,H a=some o->bQ P w H h a o
end
section
variable {P:Program} {w:World} {H H':Hp} {h h':Heap} {a:Addr} {o:HO}
theorem bQ.lt(x:bQ P w H h a o):a<h.objs.size:=by
 cases o with
 |lst xs=>obtain⟨_,_,_,_,e⟩:=x;exact K0 e
 |tup xs=>obtain⟨_,_,_,p⟩:=x;exact p.lt
 |dK kvs=>obtain⟨_,_,_,_,o,_,_,e,_⟩:=x;exact K0 e
 |dT kvs=>obtain⟨_,_,_,_,o,_,_,e,_⟩:=x;exact K0 e
 |set S n=>obtain⟨o,_,_,_,e,_⟩:=x;exact K0 e
 |ins C dx fs=>obtain⟨_,_,_,e,_⟩:=x;exact K0 e
 |own y=>obtain⟨_,e⟩:=x;exact K0 e
 |xd fs=>obtain⟨_,⟨_,_,_,e,_⟩,_⟩:=x;exact K0 e
 |mK lo hi=>obtain⟨_,_,_,e⟩:=x;exact K0 e
 |jG ob u=>obtain⟨e,_⟩:=x;exact K0 e
 |AD ps=>obtain⟨_,e,_⟩:=x;exact K0 e
 |met f y=>exact K0 (show h.get? a=some _ from x)
 |ext φ=>obtain⟨_,⟨_,e⟩,_⟩:=x;exact K0 e
theorem Paired.Fl{α β:Type}{F G:α->β->Prop}:∀{l₁:List α} {l₂:List β},Paired F l₁ l₂->(∀a b,F a b->G a b)->Paired G l₁ l₂
 |_,_,.nil,_=>.nil
 |_,_,.cons r t,f=>.cons (f _ _ r) (Paired.Fl t f)
theorem bQ.ou(x:bQ P w H h a o)(k:∀b u,(b=a\/H b=some (.own a))->h.get? b=some u->h'.get? b=some u)
  (ho:∀b,H b=some (.own a)->H' b=some (.own a)) (ht:∀b xs,H b=some (.tup xs)->H' b=some (.tup xs)) (hz:∀b o u,H b=some (.jG o u)->H' b=some (.jG o u)):bQ P w H' h' a o:=by
 induction o with
 |lst xs=>obtain⟨z,its,n,r,e⟩:=x;exact⟨z,its,n,r,k _ _ (.inl rfl) e⟩
 |tup xs=>obtain⟨z,its,r,ob,e,c⟩:=x;exact⟨z,its,r,ob,k _ _ (.inl rfl) e,c⟩
 |dK kvs=>obtain⟨z,y,vs,r,ob,es,ep,e,c⟩:=x;exact⟨z,y,vs,r,ob,es,ep,k _ _ (.inl rfl) e,c⟩
 |dT kvs =>
  obtain⟨z,y,xs,r,ob,es,ep,e,c⟩:=x;exact⟨z,y,xs,Paired.Fl r λp q z=>⟨z.1,ht _ _ z.2.1,z.2.2⟩,ob,es,ep,k _ _ (.inl rfl) e,c⟩
 |set S n=>obtain⟨ob,es,ep,t,e,c⟩:=x;exact⟨ob,es,ep,t,k _ _ (.inl rfl) e,c⟩
 |ins C dx fs =>
  obtain⟨d,z,ne,e,mA,⟨od,es,ep,e2,c⟩,r⟩:=x;exact⟨ho _ d,z,ne,k _ _ (.inl rfl) e,mA,⟨od,es,ep,k _ _ (.inr d) e2,c⟩,r⟩
 |own y=>obtain⟨ob,e⟩:=x;exact⟨ob,k _ _ (.inl rfl) e⟩
 |xd fs=>obtain⟨mA,⟨od,es,ep,e,c⟩,r⟩:=x;exact⟨mA,⟨od,es,ep,k _ _ (.inl rfl) e,c⟩,r⟩
 |mK lo hi=>obtain⟨t,u,v,e⟩:=x;exact⟨t,u,v,k _ _ (.inl rfl) e⟩
 |jG ob u ih=>obtain⟨e,q⟩:=x;exact⟨k _ _ (.inl rfl) e,ih q⟩
 |AD ps =>
  obtain⟨qs,e,t,f⟩:=x;exact⟨qs,k a _ (.inl rfl) e,t,λpos cv q=>let ⟨c,oc,vs,t',e1,e2,e3⟩:=f pos cv q;⟨c,oc,vs,t',e1,hz _ _ _ e2,e3⟩⟩
 |met f y =>
  have e:h.get? a=some (PySem.W.methodObj (.ref f) (.ref y)):=x;show h'.get? a=some (PySem.W.methodObj (.ref f) (.ref y));exact k a _ (.inl rfl) e
 |ext φ=>obtain⟨p,⟨o,e⟩,st⟩:=x;exact⟨st _ _ p λo q=>k _ _ (.inl rfl) q,⟨o,k _ _ (.inl rfl) e⟩,st⟩
theorem iz.lt(x:iz P w H h)(e:H a=some o):a<h.objs.size:=(x a o e).lt
theorem iz.fresh(x:iz P w H h)(e:h.objs.size<=a):H a=none:=by
 cases q:H a with
 |none=>rfl
 |some u=>exact absurd (KI (x.lt q) e) (LQ _)
theorem iz.kept(x:iz P w H h)(k:∀b u,h.get? b=some u->h'.get? b=some u):iz P w H h':=λa o e =>
 (x a o e).ou (λb u _ q=>k b u q) (λ_ q=>q) (λ_ _ q=>q) λ_ _ _ q=>q
theorem iz.laid(x:iz P w H h)(k:∀b u,h.get? b=some u->h'.get? b=some u)(hp:h.objs.size<=a)(new:bQ P w (upd H a o) h' a o):iz P w (upd H a o) h':=λb u e=>by
 have hn:=x.fresh hp;by_cases hb:b=a
 ·subst hb;rw[aa] at e;cases e;exact new
 ·rw[ae hb] at e;exact (x b u e).ou (λc v _ q=>k c v q) (λc q=>by rw[ae (ao q hn)];exact q) (λc xs q=>by rw[ae (ao q hn)];exact q) λc _ _ q=>by rw[ae (ao q hn)];exact q
end
def Rd(H:Hp)(a:Addr)(u:HO):Prop:=H a=some u\/∃o,H a=some (.jG o u)
theorem Rd.ok{u:HO}(r:Rd H a u)(x:iz P w H h):bQ P w H h a u:=by
 rcases r with r|⟨o,r⟩
 ·exact x a u r
 ·obtain⟨_,q⟩:=x a _ r;exact q
noncomputable def GZ:Option HO->Prop
 |some (.lst _)=>True
 |some (.dK _)=>True
 |some (.dT _)=>True
 |some (.set _ _)=>True
 |some (.ins _ _ _)=>True
 |some (.ext _)=>True
 |_=>False
section
variable {P:Program} {w:World} {H:Hp} {h h':Heap} {x e:Addr} {o':HO}
theorem iz.write(ok:iz P w H h)(mu:GZ (H x))(he:e=x\/H e=some (.own x))(k:∀b u,b≠e->h.get? b=some u->h'.get? b=some u)(heo:∃u,h'.get? e=some u)
  (new:bQ P w (upd H x o') h' x o'):iz P w (upd H x o') h':=λb u q=>by
 have nown:∀c y,H c=some (.own y)->c≠x:=λc y r z=>by subst z;rw[r] at mu;exact mu
 have ntup:∀c xs,H c=some (.tup xs)->c≠x:=λc xs r z=>by subst z;rw[r] at mu;exact mu
 have nfrz:∀c o1 u1,H c=some (.jG o1 u1)->c≠x:=λc _ _ r z=>by subst z;rw[r] at mu;exact mu
 by_cases hb:b=x
 ·subst hb;rw[aa] at q;cases q;exact new
 ·rw[ae hb] at q;by_cases hbe:b=e
  ·have q':H b=some (.own x):=by
    rcases he with z|z
    ·exact absurd (hbe.trans z) hb
    ·rw[hbe];exact z
   rw[q] at q';cases q';obtain⟨v,hv⟩:=heo;exact⟨v,by rw[hbe];exact hv⟩
  ·refine (ok b u q).ou (λc v hc r=>k c v ?_ r) (λc r=>by rw[ae (nown c b r)];exact r) (λc xs r=>by rw[ae (ntup c xs r)];exact r) λc _ _ r=>by rw[ae (nfrz c _ _ r)];exact r
   rcases hc with rfl|hc
   ·exact hbe
   ·rintro rfl;rcases he with z|z
    ·exact nown c b hc z
    ·rw[hc] at z;cases z;exact hb rfl
end
structure Un (fs ex:List Addr) (H H':Hp) (h h':Heap):Prop where
 keep:∀b o,h.get? b=some o->H b=none->b∉fs->b∉ex->h'.get? b=some o
 slot:∀b o,h.get? b=some o->H b=none->b∈fs->b∉ex->∃sl,h'.get? b=some {o with slots:=sl}
 free:∀b o,h.get? b=some o->H b=none->b∉ex->H' b=none
 there:∀b o,h.get? b=some o->b∉ex->∃o',h'.get? b=some o'
 qL:∀b xs,H b=some (.tup xs)->H' b=some (.tup xs)
 nF:∀b o u,H b=some (.jG o u)->H' b=some (.jG o u)
 lY:∀b ps,H b=some (.AD ps)->∃more,H' b=some (.AD (ps++more))
section
variable {fs fs' ex ex':List Addr} {H H1 H2:Hp} {h h1 h2 h':Heap} {a x e:Addr} {o:HO}
theorem Un.any(u:Un fs ex H H1 h h1){ob:Obj}(q:h.get? b=some ob)(n:H b=none)(hx:b∉ex):∃sl,h1.get? b=some {ob with slots:=sl}:=by
 by_cases hb:b∈fs
 ·exact u.slot b ob q n hb hx
 ·exact⟨ob.slots,u.keep b ob q n hb hx⟩
theorem Un.kept(k:∀b u,h.get? b=some u->h'.get? b=some u):Un fs ex H H h h':=
 ⟨λb ob q _ _ _=>k b ob q,λb ob q _ _ _=>⟨ob.slots,k b ob q⟩,λ_ _ _ n _=>n,λb ob q _=>⟨ob,k b ob q⟩,λ_ _ q=>q,λ_ _ _ q=>q,λ_ ps q=>⟨#[],by rw[q];simp⟩⟩
theorem Un.refl:Un fs ex H H h h:=Un.kept λ_ _ q=>q
theorem Un.laid(k:∀b u,h.get? b=some u->h'.get? b=some u)(hp:h.objs.size<=a)(hn:H a=none):Un fs ex H (upd H a o) h h' where
 keep:=λb u q _ _ _=>k b u q
 slot:=λb u q _ _ _=>⟨u.slots,k b u q⟩
 free:=λb u q n _=>by rw[ae (KA (KI (K0 q) hp))];exact n
 there:=λb u q _=>⟨u,k b u q⟩
 qL:=λb xs q=>by rw[ae (ao q hn)];exact q
 nF:=λb u xs q=>by rw[ae (ao q hn)];exact q
 lY:=λb ps q=>⟨#[],by rw[ae (ao q hn),q];simp⟩
theorem Un.write(mu:GZ (H x))(he:e=x\/H e=some (.own x))(k:∀b u,b≠e->h.get? b=some u->h'.get? b=some u)(heo:∃u,h'.get? e=some u):Un fs ex H (upd H x o) h h':=by
 have hx:∀b,H b=none->b≠x:=λb n z=>by subst z;rw[n] at mu;exact mu
 have hb:∀b,H b=none->b≠e:=λb n z=>by
  subst z;rcases he with r|r
  ·exact hx b n r
  ·rw[n] at r;cases r
 have hm:∀b u,H b=some u->¬ GZ (some u)->b≠x:=λb u q nm z=>by subst z;rw[q] at mu;exact nm mu
 refine⟨λb u q n _ _=>k b u (hb b n) q,λb u q n _ _=>⟨u.slots,k b u (hb b n) q⟩,λb u q n _=>by rw[ae (hx b n)];exact n,λb u q _=>?_,
  λb xs q=>by rw[ae (hm b _ q λz=>z)];exact q,λb u xs q=>by rw[ae (hm b _ q λz=>z)];exact q,λb ps q=>⟨#[],by rw[ae (hm b _ q λz=>z),q];simp⟩⟩
 by_cases hbe:b=e
 ·subst hbe;exact heo
 ·exact⟨u,k b u hbe q⟩
end
noncomputable def Hv(h:Heap)(H:Hp):List Addr:=(List.range h.objs.size).filter λa=>(H a).isSome
noncomputable def lW(h:Heap)(H:Hp):Heap:=PySem.W.hideAll h (Hv h H)
theorem vI(h:Heap)(H:Hp):(lW h H).objs.size=h.objs.size:=PySem.W.hideAll_size _ _
theorem iP{o:Obj}(e:h.get? b=some o)(n:H b=none):(lW h H).get? b=some o:=
 PySem.W.hideAll_get _ e λhm=>by
  have q:(H b).isSome=true:=(List.mem_filter.mp hm).2;rw[n] at q;simp at q
theorem Bz{o:Obj}(e:(lW h H).get? b=some o):h.get? b=some o/\H b=none:=by
 have e':h.get? b=some o:=PySem.W.of_hideAll (Hv h H) e;refine⟨e',?_⟩
 cases q:H b with
 |none=>rfl
 |some x =>
  have hm:b∈Hv h H:=List.mem_filter.mpr ⟨LJ.mpr (K0 e'),by simp[q]⟩
  have z:(lW h H).get? b=none:=PySem.W.hideAll_none (Hv h H) hm;rw[z] at e;cases e
noncomputable def Bw(g h:Heap)(L:Addr):List (Addr×Obj):=(List.range h.objs.size).filterMap λa=>if a=L\/(g.get? a).isSome=true then none else (h.get? a).map λo=>(a,o)
noncomputable def rest(g h:Heap)(L d:Addr):List (Addr×Obj):=(Bw g h L).filter λp=>decide (p.1≠d)
noncomputable def dO:List Str:=["by_worth","by_weight","code_of"]
noncomputable def cy(K:PJ):List (Addr×Addr×Str):=dO.filterMap λx=>(PySem.W.tabIn K x).map λp=>(p.1,p.2,(x++".<locals>.")++"<lambda>")
def TabsOk(K:PJ)(H:Hp):Prop:=∀t∈cy K,∃more,H t.2.1=some (.AD (#[.str t.2.2 0]++more))
theorem TabsOk.un{fs ex:List Addr}{H1:Hp}{h1:Heap}(x:TabsOk K H)(u:Un fs ex H H1 h h1):TabsOk K H1:=λt ht=>by
 obtain⟨m,e⟩:=x t ht;obtain⟨m2,e2⟩:=u.lY _ _ e;exact⟨m++m2,by rw[e2,Array.append_assoc]⟩
noncomputable def FD(mg:Str->Option Value)(h:Heap):Prop:=∃bm ob,mg "__builtins__"=some (.ref bm)/\bm≠builtinsNs/\h.get? bm=some ob/\ob.cls=.type "module"/\ob.dict=some builtinsNs/\ob.data=.plain
structure Mod (K:PJ) (mg:Str->Option Value) (base:Heap):Prop where
 Ip:K.In base
 glob:base.Ns mainGlobals mg
 blt:∃mb,base.Ns builtinsNs mb/\∀x:Str,x≠"__name__"->mb x=bootBuiltins x
 nolimit:base.NoLimit
 codes:∀t∈cy K,PySem.W.CodeHd base t.1 t.2.1
 bm:FD mg base
structure Cx where
 prog:Program
 w:World
 K:PJ
 mg:Str->Option Value
 base:Heap
 A:Around
 N:List Str
 s₀:Shared
 H₀:Hp
 env:Env
 outer:List Env
 stack:List Env
 ex:List Addr
 fn:Str->Bool
 calm:Bool
 pn:List (Addr×Obj)
 xe:Value->Shared->Prop
variable{X:Cx}
noncomputable def zT(l:List Env):List Addr:=l.filterMap (·.frame)
abbrev Cx.fs(X:Cx):List Addr:=zT X.outer
def H_(sc:Scope)(x:Str):Prop:=sc.names.lookup x=some .local\/sc.names.lookup x=some .cell\/sc.names.lookup x=some .free
def Loc(sc:Scope)(x:Str):Prop:=sc.names.lookup x=some .local\/sc.names.lookup x=some .cell
noncomputable def Look(env:Env)(h:Heap)(m:Str->Option Value)(x:Str)(u:Value):Prop:=
 (env.kindOf x=some .local/\m x=some u)\/((env.kindOf x=some .cell\/env.kindOf x=some .free)/\∃c,env.cells.lookup x=some c/\h.IsCell c (some u))
structure Cx.Ok (X:Cx):Prop where
 mod:Mod X.K X.mg X.base
 kind:X.env.scope.kind=.function
 glob:X.env.globals=mainGlobals
 blt:X.env.builtins=builtinsNs
 above:X.s₀.heap.objs.size<=X.env.locals
 inj:∀x y c,X.env.cells.lookup x=some c->X.env.cells.lookup y=some c->x=y
 has:∀x,(X.env.kindOf x=some .cell\/X.env.kindOf x=some .free)->∃c,X.env.cells.lookup x=some c
 Hm:∀x c,X.fn x=true->X.env.cells.lookup x=some c->X.s₀.heap.objs.size<=c
 hd:X.calm=true->X.A.handled=none
 frames:X.A.frames=some X.stack
 IL:X.stack=X.outer\/(X.stack=X.env::X.outer/\X.env.frame=some X.env.locals)
 JH:∀b∈X.ex,b≠X.env.locals/\∀x c,X.env.cells.lookup x=some c->c≠b
 bs:∀b o,X.base.get? b=some o->X.s₀.heap.get? b=some o/\X.H₀ b=none
 AV:X.base.objs.size<=X.s₀.heap.objs.size
 zG:∀b o,X.base.get? b=some o->b∉X.ex
 Dg:∀b∈X.ex,b∉X.fs
 jC:X.s₀.heap.FunFrames X.base X.outer
 Fm:∀b∈X.fs,X.H₀ b=none
 tabs:TabsOk X.K X.H₀
structure Inv (X:Cx) (pins:List (Addr×Obj)) (σ:List (Option V)) (H:Hp) (s:Shared):Prop where
 ok:X.Ok
 os:s.os=X.s₀.os
 bare:AllBare s.gens
 base:Un X.fs X.ex X.H₀ H X.s₀.heap s.heap
 loc:∃m,s.heap.Ns X.env.locals m/\∀(i:Nat) (x:Str) (v:V),X.N[i]?=some x->σ[i]?=some (some v)->H_ X.env.scope x->∃u,RelV v u/\Look X.env s.heap m x u
 cell:∀x c,X.env.cells.lookup x=some c->∃v,s.heap.IsCell c v
 free:H X.env.locals=none
 gu:∀x c,X.env.cells.lookup x=some c->H c=none
 pin:∀p∈X.pn++pins,s.heap.get? p.1=some p.2/\H p.1=none/\p.1≠X.env.locals/\p.1∉X.fs/\∀v,p.2.data≠.cell v
 ba:iz X.prog X.w H s.heap
 len:σ.length=X.N.length
section
variable {X:Cx} {pins:List (Addr×Obj)} {σ:List (Option V)} {H H':Hp} {s:Shared} {h':Heap}
theorem Cx.Ok.IX(ok:X.Ok){o:Obj}(e:X.base.get? b=some o):b∉X.fs:=λhb=>by
 have:=(ok.jC.mem hb).1;rw[e] at this;cases this
theorem Inv.bs(I:Inv X pins σ H s):∀b o,X.base.get? b=some o->s.heap.get? b=some o/\H b=none:=λb o e =>
 ⟨I.base.keep b o (I.ok.bs b o e).1 (I.ok.bs b o e).2 (I.ok.IX e) (I.ok.zG b o e),I.base.free b o (I.ok.bs b o e).1 (I.ok.bs b o e).2 (I.ok.zG b o e)⟩
theorem Inv.bk(I:Inv X pins σ H s):∀b o,X.base.get? b=some o->s.heap.get? b=some o:=λb o e=>(I.bs b o e).1
theorem Inv.mod(I:Inv X pins σ H s):Mod X.K X.mg X.base:=I.ok.mod
theorem Inv.pM(I:Inv X pins σ H s):X.K.In s.heap:=I.ok.mod.Ip.keeps I.bk
theorem Inv.nolimit(I:Inv X pins σ H s):s.heap.NoLimit:=I.ok.mod.nolimit.keeps I.bk
theorem Inv.lt(I:Inv X pins σ H s):X.env.locals<s.heap.objs.size:=let ⟨_,hn,_⟩:=I.loc;hn.lt
theorem Inv.sz(I:Inv X pins σ H s):X.s₀.heap.objs.size<=s.heap.objs.size:=Kn I.ok.above (Mg I.lt)
theorem Inv.HH(I:Inv X pins σ H s)(h:s.heap.objs.size<=a):a∉X.fs:=λhb=>by
 obtain⟨_,o,ho,_⟩:=I.ok.jC.mem hb;exact absurd (KI (K0 ho) (Kn I.sz h)) (LQ _)
theorem Inv.EO(I:Inv X pins σ H s):∀x c,X.env.cells.lookup x=some c->c≠X.env.locals:=λx c e z=>by
 obtain⟨v,o,ho,hd⟩:=I.cell x c e;obtain⟨m,⟨o',es,ep,ho',hd',_⟩,_⟩:=I.loc;rw[z,ho'] at ho;cases ho;rw[hd'] at hd;cases hd
theorem Inv.jC(I:Inv X pins σ H s):s.heap.FunFrames X.base X.outer:=by
 have all:∀(l:List Env),(∀b∈zT l,b∈X.fs)->X.s₀.heap.FunFrames X.base l->s.heap.FunFrames X.base l:=by
  intro l
  induction l with
  |nil=>intro _ _;trivial
  |cons env r ih =>
   intro hs hl;obtain⟨hk,⟨L,o,hf,hn,ho,hd⟩,hr⟩:=hl;have hL:L∈X.fs:=hs L (by unfold zT;rw[Nf,hf];exact Km)
   obtain⟨sl,e⟩:=I.base.slot L o ho (I.ok.Fm L hL) hL λz=>I.ok.Dg L z hL;exact⟨hk,⟨L,_,hf,hn,e,hd⟩,ih (λb hb=>hs b (by unfold zT;rw[Nf,hf];exact Ko _ hb)) hr⟩
 exact all X.outer (λ_ hb=>hb) I.ok.jC
theorem Inv.stack(I:Inv X pins σ H s):s.heap.FunFrames X.base X.stack:=by
 rcases I.ok.IL with e|⟨e,hf⟩
 ·rw[e];exact I.jC
 ·rw[e];obtain⟨m,hn,_⟩:=I.loc;refine .cons (by rw[I.ok.kind];decide) hf hn ?_ I.jC
  exact Heap.get?_none_of_le (Kn I.ok.AV I.ok.above)
theorem Inv.oA(I:Inv X pins σ H s):∀b∈zT X.stack,b∈X.env.locals::X.fs:=λb hb=>by
 rcases I.ok.IL with e|⟨e,hf⟩
 ·rw[e] at hb;exact Ko _ hb
 ·rw[e] at hb;unfold zT at hb;rw[Nf,hf] at hb;exact hb
theorem Inv.nK(I:Inv X pins σ H s):∀b∈zT X.stack,H b=none:=λb hb=>by
 rcases Kl.mp (I.oA b hb) with e|hb
 ·rw[e];exact I.free
 ·obtain⟨_,o,ho,_⟩:=I.ok.jC.mem hb;exact I.base.free b o ho (I.ok.Fm b hb) λz=>I.ok.Dg b z hb
theorem Inv.step{t':Nat}{d':Drawn}(I:Inv X pins σ H s)
  (hch:∀b∈ch,(b∈X.ex\/X.s₀.heap.objs.size<=b)/\b≠X.env.locals/\(∀x c,X.env.cells.lookup x=some c->c≠b)/\∀p∈X.pn++pins,p.1≠b)
  (keep:∀b o,b≠X.env.locals->b∉X.fs->b∉ch->s.heap.get? b=some o->H b=none->h'.get? b=some o)
  (slot:∀b o,b≠X.env.locals->b∈X.fs->b∉ch->s.heap.get? b=some o->H b=none->∃sl,h'.get? b=some {o with slots:=sl}) (free:∀b o,b∉ch->s.heap.get? b=some o->H b=none->H' b=none)
  (there:∀b o,b∉ch->s.heap.get? b=some o->∃o',h'.get? b=some o')
  (qL:∀b xs,H b=some (.tup xs)->H' b=some (.tup xs)) (nF:∀b o u,H b=some (.jG o u)->H' b=some (.jG o u)) (lY:∀b ps,H b=some (.AD ps)->∃more,H' b=some (.AD (ps++more)))
  (ns:∀m,s.heap.Ns X.env.locals m->h'.Ns X.env.locals m) (ba:iz X.prog X.w H' h') (hg:AllBare g') :
  Inv X pins σ H' {s with heap:=h',gens:=g',drawn:=d',toks:=t'}:=by
 have neL:∀b o,X.s₀.heap.get? b=some o->b≠X.env.locals:=λb o e=>KA (KI (K0 e) I.ok.above);have neC:∀b o,X.s₀.heap.get? b=some o->b∉X.ex->b∉ch:=λb o e hx hb=>by
  rcases (hch b hb).1 with z|z
  ·exact hx z
  ·exact absurd (KI (K0 e) z) (LQ _)
 have cellK:∀x c,X.env.cells.lookup x=some c->∀v,s.heap.IsCell c v->h'.IsCell c v:=λx c e v ⟨o,ho,hd⟩=>by
  have nch:c∉ch:=λz=>(hch c z).2.2.1 x c e rfl;by_cases hc:c∈X.fs
  ·obtain⟨sl,q⟩:=slot c o (I.EO x c e) hc nch ho (I.gu x c e);exact⟨_,q,hd⟩
  ·exact⟨o,keep c o (I.EO x c e) hc nch ho (I.gu x c e),hd⟩
 refine⟨I.ok,I.os,hg,⟨λb o e n hb hx=>?_,λb o e n hb hx=>?_,λb o e n hx=>?_,λb o e hx=>?_,λb xs e=>qL b xs (I.base.qL b xs e),λb o xs e=>nF b o xs (I.base.nF b o xs e),λb ps e=>?_⟩,?_,λx c e=>?_,?_,λx c e=>?_,λp hp=>?_,ba,I.len⟩
 ·exact keep b o (neL b o e) hb (neC b o e hx) (I.base.keep b o e n hb hx) (I.base.free b o e n hx)
 ·obtain⟨sl,e1⟩:=I.base.slot b o e n hb hx;obtain⟨sl',e2⟩:=slot b _ (neL b o e) hb (neC b o e hx) e1 (I.base.free b o e n hx);exact⟨sl',e2⟩
 ·obtain⟨o',e1⟩:=I.base.there b o e hx;exact free b o' (neC b o e hx) e1 (I.base.free b o e n hx)
 ·obtain⟨o',e1⟩:=I.base.there b o e hx;exact there b o' (neC b o e hx) e1
 ·obtain⟨m1,e1⟩:=I.base.lY b ps e;obtain⟨m2,e2⟩:=lY b _ e1;exact⟨m1++m2,by rw[e2,Array.append_assoc]⟩
 ·obtain⟨m,hn,hl⟩:=I.loc;refine⟨m,ns m hn,λi x v e1 e2 e3=>?_⟩;obtain⟨u,r,l⟩:=hl i x v e1 e2 e3;refine⟨u,r,?_⟩;rcases l with l|⟨k,c,e,z⟩
  ·exact .inl l
  ·exact .inr ⟨k,c,e,cellK x c e _ z⟩
 ·obtain⟨v,z⟩:=I.cell x c e;exact⟨v,cellK x c e v z⟩
 ·obtain⟨m,⟨o,_,_,ho,_⟩,_⟩:=I.loc;exact free _ o (λz=>(hch _ z).2.1 rfl) ho I.free
 ·obtain⟨v,o,ho,hd⟩:=I.cell x c e;exact free c o (λz=>(hch c z).2.2.1 x c e rfl) ho (I.gu x c e)
 ·obtain⟨e,n,ne,nf,d⟩:=I.pin p hp;have nch:p.1∉ch:=λz=>(hch p.1 z).2.2.2 p hp rfl;exact⟨keep p.1 p.2 ne nf nch e n,free p.1 p.2 nch e n,ne,nf,d⟩
theorem Inv.un{t':Nat}(I:Inv X pins σ H s)(u:Un X.fs [] H H' s.heap h')(ba:iz X.prog X.w H' h'):Inv X pins σ H' {s with heap:=h',toks:=t'}:=by
 obtain⟨m,⟨o,es,ep,ho,r⟩,_⟩:=id I.loc;obtain⟨sl,hL⟩:=u.any ho I.free (by simp)
 exact I.step (g':=s.gens) (d':=s.drawn) (ch:=[]) (λ_ z=>nomatch z) (λb o _ hb _ e n=>u.keep b o e n hb (by simp)) (λb o _ hb _ e n=>u.slot b o e n hb (by simp)) (λb o _ e n=>u.free b o e n (by simp)) (λb o _ e=>u.there b o e (by simp)) u.qL u.nF u.lY (λm' hm=>by
  obtain⟨o',es',ep',ho',r'⟩:=hm;rw[ho] at ho';cases ho';exact⟨_,es',ep',hL,r'⟩) ba I.bare
theorem Inv.call{t':Nat}{d':Drawn}{ch:List Addr}(I:Inv X pins σ H s)(u:Un (zT X.stack) ch H H' s.heap h')(ba:iz X.prog X.w H' h')(hg:AllBare g')
  (hch:∀b∈ch,(b∈X.ex\/X.s₀.heap.objs.size<=b)/\b≠X.env.locals/\(∀x c,X.env.cells.lookup x=some c->c≠b)/\∀p∈X.pn++pins,p.1≠b) :
  Inv X pins σ H' {s with heap:=h',gens:=g',drawn:=d',toks:=t'}:=by
 obtain⟨m,⟨o,es,ep,ho,r⟩,_⟩:=id I.loc;obtain⟨sl,hL⟩:=u.any ho I.free λz=>(hch _ z).2.1 rfl;exact I.step (ch:=ch) hch (λb o hL hb hc e n=>u.keep b o e n (λz=>(Kl.mp (I.oA b z)).elim hL hb) hc) (λb o _ _ hc e n=>u.any e n hc) (λb o hc e n=>u.free b o e n hc) (λb o hc e=>u.there b o e hc) u.qL u.nF u.lY (λm' hm=>by
  obtain⟨o',es',ep',ho',r'⟩:=hm;rw[ho] at ho';cases ho';exact⟨_,es',ep',hL,r'⟩) ba hg
theorem Inv.turned{t':Nat}{it:Addr}(I:Inv X pins σ H s)(k:∀b o,b≠it->s.heap.get? b=some o->h'.get? b=some o)(hn:H it=none)(hL:it≠X.env.locals)
  (h1:it∈X.ex\/X.s₀.heap.objs.size<=it) (h2:∀x c,X.env.cells.lookup x=some c->c≠it) (h3:∀p∈X.pn++pins,p.1≠it):Inv X pins σ H {s with heap:=h',toks:=t'}:=by
 have nit:∀b u,H b=some u->b≠it:=λb u e z=>by rw[z,hn] at e;cases e
 refine I.step (g':=s.gens) (d':=s.drawn) (ch:=[it]) (λb hb=>?_) (λb o _ _ hc e _=>k b o (λz=>hc (by simp[z])) e) (λb o _ _ hc e _=>⟨o.slots,k b o (λz=>hc (by simp[z])) e⟩) (λ_ _ _ _ n=>n)
  (λb o hc e=>⟨o,k b o (λz=>hc (by simp[z])) e⟩) (λ_ _ e=>e) (λ_ _ _ e=>e) (λb ps e=>⟨#[],by rw[e];simp⟩) (λm hm=>?_) (λb u e=>?_) I.bare
 ·have e:b=it:=by simpa using hb
  subst e;exact⟨h1,hL,h2,h3⟩
 ·obtain⟨o,es,ep,ho,r⟩:=hm;exact⟨o,es,ep,k _ o (L0 hL) ho,r⟩
 ·refine (I.ba b u e).ou (λc v hc q=>k c v ?_ q) (λ_ q=>q) (λ_ _ q=>q) λ_ _ _ q=>q;rcases hc with z|z
  ·rw[z];exact nit b u e
  ·exact nit c _ z
theorem Inv.tok(I:Inv X pins σ H s)(t:Nat):Inv X pins σ H {s with toks:=t}:=I.un (h':=s.heap) (t':=t) Un.refl I.ba
theorem Inv.kept{t':Nat}(I:Inv X pins σ H s)(k:∀b u,s.heap.get? b=some u->h'.get? b=some u):Inv X pins σ H {s with heap:=h',toks:=t'}:=I.un (Un.kept k) (I.ba.kept k)
theorem Inv.laid{t':Nat}(I:Inv X pins σ H s)(k:∀b u,s.heap.get? b=some u->h'.get? b=some u)(hp:s.heap.objs.size<=a)(new:bQ X.prog X.w (upd H a o) h' a o):
  Inv X pins σ (upd H a o) {s with heap:=h',toks:=t'}:=I.un (Un.laid k hp (I.ba.fresh hp)) (I.ba.laid k hp new)
theorem Inv.write{x e:Addr}{t':Nat}(I:Inv X pins σ H s)(mu:GZ (H x))(he:e=x\/H e=some (.own x))(k:∀b u,b≠e->s.heap.get? b=some u->h'.get? b=some u)(heo:∃u,h'.get? e=some u)
  (new:bQ X.prog X.w (upd H x o) h' x o):Inv X pins σ (upd H x o) {s with heap:=h',toks:=t'}:=I.un (Un.write mu he k heo) (I.ba.write mu he k heo new)
theorem Inv.nB{pins':List (Addr×Obj)}(I:Inv X pins σ H s)(h:∀p∈pins',s.heap.get? p.1=some p.2/\H p.1=none/\p.1≠X.env.locals/\p.1∉X.fs/\∀v,p.2.data≠.cell v):Inv X pins' σ H s:=
 ⟨I.ok,I.os,I.bare,I.base,I.loc,I.cell,I.free,I.gu,λp hp=>(KJ.mp hp).elim (λz=>I.pin p (LW _ z)) (h p),I.ba,I.len⟩
theorem pA(hN:N.Nodup)(a:N[i]?=some x)(b:N[j]?=some x):i=j:=by
 obtain⟨h1,e1⟩:=Kf.mp a;obtain⟨h2,e2⟩:=Kf.mp b;exact (List.getElem_inj hN).mp (e1.trans e2.symm)
theorem mV{A:Around}{v:V}{Q:Unit->Shared->Prop}(I:Inv X pins σ H s)(hN:X.N.Nodup)(hi:X.N[i]?=some x)(hx:Loc X.env.scope x)(r:RelV v u)
  (h:∀s',Inv X pins (σ.set i (some v)) H s'->(∃a,Heap.SameBut a s.heap s'.heap/\(a=X.env.locals\/X.env.cells.lookup x=some a))->Q () s') (hf:autoParam (X.fn x=true\/X.env.scope.names.lookup x=some .local) ℜ2):wpAny M A (storeName X.env x u) Q E s:=by
 obtain⟨m,hn,hl⟩:=id I.loc;have hcls:(X.env.scope.kind == .class || (X.env.scope.kind == .module && X.env.locals != X.env.globals))=false:=by rw[I.ok.kind];rfl
 have hiσ:i<σ.length:=by rw[I.len];exact (Kf.mp hi).1
 have EO:=I.EO;have tracked:∀{a:Addr} {h':Heap},(∃o,s.heap.get? a=some o/\H a=none)->Heap.SameBut a s.heap h'->iz X.prog X.w H h':=λ{a h'} ha hs b ob e=>by
  obtain⟨_,_,hfree⟩:=ha;refine (I.ba b ob e).ou (λc w' hc q=>(hs.2 c ?_).trans q) (λ_ q=>q) (λ_ _ q=>q) λ_ _ _ q=>q;rintro rfl;rcases hc with rfl|hc
  ·rw[hfree] at e;cases e
  ·rw[hfree] at hc;cases hc
 rcases hx with hk|hk
 ·refine wpAny_storeName_local hk hn (λh' hn' hs=>?_) hcls;obtain⟨oL,_,_,hoL,_⟩:=id hn;refine h _ ⟨I.ok,I.os,I.bare,⟨λb o e n hb hx=>?_,λb o e n hb hx=>?_,I.base.free,λb o e hx=>?_,I.base.qL,I.base.nF,I.base.lY⟩,⟨_,hn',λj y v' e1 e2 e3=>?_⟩,λy c e=>?_,I.free,I.gu,λp hp=>?_,tracked ⟨oL,hoL,I.free⟩ hs,by simpa using I.len⟩ ⟨_,hs,.inl rfl⟩
  ·exact (hs.2 b (KA (KI (K0 e) I.ok.above))).trans (I.base.keep b o e n hb hx)
  ·obtain⟨sl,e1⟩:=I.base.slot b o e n hb hx;exact⟨sl,(hs.2 b (KA (KI (K0 e) I.ok.above))).trans e1⟩
  ·obtain⟨o',e1⟩:=I.base.there b o e hx;exact⟨o',(hs.2 b (KA (KI (K0 e) I.ok.above))).trans e1⟩
  ·by_cases hj:j=i
   ·subst hj;rw[hi] at e1;cases e1;rw[ML hiσ] at e2;cases e2;exact⟨u,r,.inl ⟨hk,by simp⟩⟩
   ·rw[NG (L0 hj)] at e2;obtain⟨u',r',q⟩:=hl j y v' e1 e2 e3;refine⟨u',r',?_⟩;rcases q with ⟨k,e⟩|⟨k,c,e,z⟩
    ·refine .inl ⟨k,?_⟩;have:y≠x:=λe=>hj (pA hN e1 (e ▸ hi));simp[this,e]
    ·exact .inr ⟨k,c,e,z.sameBut hs (EO y c e)⟩
  ·obtain⟨w',z⟩:=I.cell y c e;exact⟨w',z.sameBut hs (EO y c e)⟩
  ·obtain⟨e,n,ne,nf,d⟩:=I.pin p hp;exact⟨(hs.2 p.1 ne).trans e,n,ne,nf,d⟩
 ·have hfn:X.fn x=true:=by
   rcases hf with z|z
   ·exact z
   ·rw[z] at hk;cases hk
  obtain⟨c,hc⟩:=I.ok.has x (.inl hk);obtain⟨w',z⟩:=I.cell x c hc;refine wpAny_storeName_cell I.ok.kind hk hc z (λh' hc' hs=>?_);obtain⟨oc,hoc,hocd⟩:=id z;refine h {s with heap:=h'} ⟨I.ok,I.os,I.bare,⟨λb o e n hb hx=>?_,λb o e n hb hx=>?_,I.base.free,λb o e hx=>?_,I.base.qL,I.base.nF,I.base.lY⟩,⟨m,hn.sameBut hs (L0 (EO x c hc)),λj y v' e1 e2 e3=>?_⟩,λy c' e=>?_,I.free,I.gu,λp hp=>?_,tracked ⟨oc,hoc,I.gu x c hc⟩ hs,by simpa using I.len⟩ ⟨c,hs,.inr hc⟩
  ·exact (hs.2 b (KA (KI (K0 e) (I.ok.Hm x c hfn hc)))).trans (I.base.keep b o e n hb hx)
  ·obtain⟨sl,e1⟩:=I.base.slot b o e n hb hx;exact⟨sl,(hs.2 b (KA (KI (K0 e) (I.ok.Hm x c hfn hc)))).trans e1⟩
  ·obtain⟨o',e1⟩:=I.base.there b o e hx;exact⟨o',(hs.2 b (KA (KI (K0 e) (I.ok.Hm x c hfn hc)))).trans e1⟩
  ·by_cases hj:j=i
   ·subst hj;rw[hi] at e1;cases e1;rw[ML hiσ] at e2;cases e2;exact⟨u,r,.inr ⟨.inl hk,c,hc,hc'⟩⟩
   ·rw[NG (L0 hj)] at e2;obtain⟨u',r',q⟩:=hl j y v' e1 e2 e3;refine⟨u',r',?_⟩;rcases q with q|⟨k,c',e,z'⟩
    ·exact .inl q
    ·refine .inr ⟨k,c',e,z'.sameBut hs ?_⟩;rintro rfl;exact hj (pA hN e1 (I.ok.inj _ _ _ e hc ▸ hi))
  ·by_cases hcc:c'=c
   ·subst hcc;exact⟨_,hc'⟩
   ·obtain⟨w2,z2⟩:=I.cell y c' e;exact⟨w2,z2.sameBut hs hcc⟩
  ·obtain⟨e,n,ne,nf,d⟩:=I.pin p hp;refine⟨(hs.2 p.1 ?_).trans e,n,ne,nf,d⟩;intro q;rw[q,hoc] at e;have q':oc=p.2:=Option.some.inj e;exact d w' (by rw[<- q'];exact hocd)
theorem pN{A:Around}{v:V}{Q:Unit->Shared->Prop}(I:Inv X pins σ H s)(hN:X.N.Nodup)(hi:X.N[i]?=some x)(hx:Loc X.env.scope x)(r:RelV v u)
  (h:∀s',Inv X pins (σ.set i (some v)) H s'->Q () s') (hf:autoParam (X.fn x=true\/X.env.scope.names.lookup x=some .local) ℜ2):wpAny M A (storeName X.env x u) Q E s:=
 mV I hN hi hx r (λs' I' _=>h s' I') hf
theorem Inv.HE(I:Inv X pins σ H s)(ho:s'.os=s.os)(u:Un (zT X.stack) ch H H' s.heap s'.heap)(ba:iz X.prog X.w H' s'.heap)(hg:AllBare s'.gens)
  (hch:∀b∈ch,(b∈X.ex\/X.s₀.heap.objs.size<=b)/\b≠X.env.locals/\(∀x c,X.env.cells.lookup x=some c->c≠b)/\∀p∈X.pn++pins,p.1≠b):Inv X pins σ H' s':=by
 obtain⟨h',g',d',t',o'⟩:=s';have e:o'=s.os:=ho;subst e;exact I.call (g':=g') (t':=t') (d':=d') u ba hg hch
end
abbrev XK:=Value->Option Addr->Hp->Prop
abbrev St:=List (Option V)
variable{σ:St}
abbrev VK:=V->Hp->Prop
abbrev TE:=St->Hp->VK->Prop
abbrev TT:=St->Hp->(Bool->Hp->Prop)->Prop
abbrev TA:=St->Hp->(List V->Hp->Prop)->Prop
structure Ends where
 nx:St->Hp->Prop
 rt:VK
 bk:St->Hp->Prop:=λ_ _=>False
 ct:St->Hp->Prop:=λ_ _=>False
variable{D:Ends}
abbrev TS:=Ends->St->Hp->Prop
variable{tb:TS}
def EP(X:Cx)(pins:List (Addr×Obj))(σ:St)(Q:VK)(u:Value)(s':Shared):Prop:=∃v H',Inv X pins σ H' s'/\RelV v u/\Q v H'
def TP(X:Cx)(pins:List (Addr×Obj))(σ:St)(Q:Bool->Hp->Prop)(b:Bool)(s':Shared):Prop:=∃H',Inv X pins σ H' s'/\Q b H'
def AP(X:Cx)(pins:List (Addr×Obj))(σ:St)(Q:List V->Hp->Prop)(us:List Value)(s':Shared):Prop:=∃vs H',Inv X pins σ H' s'/\Vals vs us/\Q vs H'
noncomputable def SP(X:Cx)(pins:List (Addr×Obj))(D:Ends)(f:Flow)(s':Shared):Prop:=
 match f with
 |.next=>∃σ' H',Inv X pins σ' H' s'/\D.nx σ' H'
 |.brk=>∃σ' H',Inv X pins σ' H' s'/\D.bk σ' H'
 |.cont=>∃σ' H',Inv X pins σ' H' s'/\D.ct σ' H'
 |.ret u=>∃v σ' H',Inv X pins σ' H' s'/\RelV v u/\D.rt v H'
noncomputable def PE(X:Cx)(e:Expr)(t:TE):Prop:=
 ∀(pins:List (Addr×Obj)) (s:Shared) (σ:St) (H:Hp) (Q:VK),Inv X pins σ H s->t σ H Q->wpAny (model X.prog X.w) X.A (eval e X.env) (EP X pins σ Q) X.xe s
noncomputable def PT(X:Cx)(e:Expr)(t:TT):Prop:=
 ∀(pins:List (Addr×Obj)) (s:Shared) (σ:St) (H:Hp) (Q:Bool->Hp->Prop),Inv X pins σ H s->t σ H Q->wpAny (model X.prog X.w) X.A (isTrue e X.env (eval e X.env)) (TP X pins σ Q) X.xe s
noncomputable def PW(X:Cx)(e:Expr)(t:TT):Prop:=
 ∀(whole:Sem Value) (pins:List (Addr×Obj)) (s:Shared) (σ:St) (H:Hp) (Q:Bool->Hp->Prop),Inv X pins σ H s->t σ H Q->wpAny (model X.prog X.w) X.A (isTrue e X.env whole) (TP X pins σ Q) X.xe s
theorem PW.pt{t:TT}(h:PW X e t):PT X e t:=h _
noncomputable def PA(X:Cx)(es:List Expr)(t:TA):Prop:=
 ∀(pos:Pos) (pins:List (Addr×Obj)) (s:Shared) (σ:St) (H:Hp) (Q:List V->Hp->Prop),Inv X pins σ H s->t σ H Q->wpAny (model X.prog X.w) X.A (spliced (backTo pos (starEach es X.env))) (AP X pins σ Q) X.xe s
noncomputable def PS(X:Cx)(st:Stmt)(t:TS):Prop:=
 ∀(pins:List (Addr×Obj)) (s:Shared) (σ:St) (H:Hp) (D:Ends),Inv X pins σ H s->t D σ H->wpAny (model X.prog X.w) X.A (exec st X.env) (SP X pins D) X.xe s
noncomputable def rG(X:Cx)(st:List Stmt)(t:TS):Prop:=
 ∀(pins:List (Addr×Obj)) (s:Shared) (σ:St) (H:Hp) (D:Ends),Inv X pins σ H s->t D σ H->wpAny (model X.prog X.w) X.A (execs st X.env) (SP X pins D) X.xe s
theorem bZ{α:Type}{t:Sem α}{Q Q':α->Shared->Prop}{A:Around}{s:Shared}(h:wpAny M A t Q E s)(hQ:∀a s,Q a s->Q' a s):wpAny M A t Q' E s:=Ls h hQ λ_ _ x=>x
section
variable {X:Cx}
def wB(i:Nat):TE:=λσ H Q=>∃v,σ[i]?=some (some v)/\Q v H
def tC(v:V):TE:=λ_ H Q=>Q v H
theorem FG{pos:Pos}(hN:X.N[i]?=some x)(hv:H_ X.env.scope x)(hd:autoParam ((x ==("__debug__":Str))=false) ℜ1)(eW:autoParam ((x ==("__classdict__":Str))=false) ℜ1):PE X (.Name x pos) (wB i):=by
 intro pins s σ H Q I h;obtain⟨v,e,h⟩:=h;obtain⟨m,hn,hl⟩:=I.loc;obtain⟨u,r,l⟩:=hl i x v hN e hv;have fin:EP X pins σ Q u s:=⟨v,H,I,r,h⟩;rcases l with ⟨hk,hm⟩|⟨hk,c,hc,hcell⟩
 ·exact wpAny_Name (wpAny_loadName_local I.ok.kind hk hn hm fin) hd
 ·rcases hk with hk|hk
  ·exact wpAny_Name (wpAny_loadName_cell I.ok.kind hk hc hcell fin) hd
  ·exact wpAny_Name (wpAny_loadName_free I.ok.kind hk hc hcell fin eW) hd
theorem lP{i j pos}:PE X (.Constant (.int i) j pos) (tC (.int i)):=λ_ _ _ H _ I h=>wpAny_Constant_int ⟨.int i,H,I.tok _,⟨_,rfl⟩,h⟩
theorem Eb{b j pos}:PE X (.Constant (.bool b) j pos) (tC (.bl b)):=λ_ _ _ H _ I h=>Constant_bool ⟨.bl b,H,I,rfl,h⟩
theorem yA{j pos}:PE X (.Constant .none j pos) (tC .aX):=λ_ _ _ H _ I h=>Constant_none ⟨.aX,H,I,rfl,h⟩
theorem zP{x j pos}:PE X (.Constant (.str x) j pos) (tC (.str x)):=λ_ _ _ H _ I h=>Calls.Constant_str ⟨.str x,H,I.tok _,⟨_,rfl⟩,h⟩
def Gl(X:Cx)(x:Str):Prop:=X.env.kindOf x=some .globalImplicit
theorem oF{s:Shared}{pos:Pos}(I:Inv X pins σ H s)(hg:Gl X x)(hm:X.mg x=some u)(h:Q u s)
  (hd:autoParam ((x ==("__debug__":Str))=false) ℜ1):wpAny (model X.prog X.w) X.A (eval (.Name x pos) X.env) Q E s:=
 Ot I.ok.kind hg (Calls.loadGlobal_global (by rw[I.ok.glob];exact I.mod.glob.keeps I.bk) hm h) hd
theorem fR{s:Shared}{pos:Pos}(I:Inv X pins σ H s)(hg:Gl X x)(hm:X.mg x=none)(hv:bootBuiltins x=some u)(h:Q u s)
  (hn:autoParam (x≠"__name__") ℜ1) (hd:autoParam ((x ==("__debug__":Str))=false) ℜ1):wpAny (model X.prog X.w) X.A (eval (.Name x pos) X.env) Q E s:=by
 obtain⟨mb,h1,h2⟩:=I.mod.blt;exact Ot I.ok.kind hg (Calls.loadGlobal_builtin (by rw[I.ok.glob];exact I.mod.glob.keeps I.bk) hm (by rw[I.ok.blt];exact h1.keeps I.bk) ((h2 x hn).trans hv) h) hd
theorem t_{v:V}{pos:Pos}(hg:Gl X x)(hm:X.mg x=some u)(r:RelV v u)(hd:autoParam ((x ==("__debug__":Str))=false) ℜ1):PE X (.Name x pos) (tC v):=
 λ_ _ _ H _ I h=>oF I hg hm ⟨v,H,I,r,h⟩ hd
variable {a b:Expr} {ta tb:TE} {pos:Pos}
variable {tA tB':TT} {rest:List Expr}
def xP(t u:TT):TT:=λσ H Q=>t σ H λc H1=>if c=true then u σ H1 Q else Q false H1
def HB(t u:TT):TT:=λσ H Q=>t σ H λc H1=>if c=true then Q true H1 else u σ H1 Q
def zh(t:TT):TT:=λσ H Q=>t σ H λc H1=>Q (!c) H1
theorem CH(ha:PT X a tA):PW X (.BoolOp .And [a] pos) tA:=by
 intro wh pins s σ H Q I h;refine isTrue_and (bZ (ha pins s σ H Q I h) λc s1 e=>?_)
 cases c with
 |true=>exact isTrue_and_nil e
 |false=>exact e
theorem Fv(ha:PT X a tA):PW X (.BoolOp .Or [a] pos) tA:=by
 intro wh pins s σ H Q I h;refine isTrue_or (bZ (ha pins s σ H Q I h) λc s1 e=>?_)
 cases c with
 |false=>exact isTrue_or_nil e
 |true=>exact e
theorem E4(ha:PT X a tA)(hb:PW X (.BoolOp .And (b::rest) pos) tB'):PW X (.BoolOp .And (a::b::rest) pos) (xP tA tB'):=by
 intro wh pins s σ H Q I h;refine isTrue_and (bZ (ha pins s σ H _ I h) λc s1 hq7=>?_);obtain⟨H1,I1,q1⟩:=hq7
 cases c with
 |true=>exact hb wh pins s1 σ H1 Q I1 q1
 |false=>exact⟨H1,I1,q1⟩
theorem Hd(ha:PT X a tA)(hb:PW X (.BoolOp .Or (b::rest) pos) tB'):PW X (.BoolOp .Or (a::b::rest) pos) (HB tA tB'):=by
 intro wh pins s σ H Q I h;refine isTrue_or (bZ (ha pins s σ H _ I h) λc s1 hq8=>?_);obtain⟨H1,I1,q1⟩:=hq8
 cases c with
 |true=>exact⟨H1,I1,q1⟩
 |false=>exact hb wh pins s1 σ H1 Q I1 q1
theorem Es(ha:PT X a tA):PT X (.UnaryOp .Not a pos) (zh tA):=by
 intro pins s σ H Q I h;exact isTrue_not (ha pins s σ H (λc H1=>Q (!c) H1) I h)
def oP(ta tb:TE):TE:=λσ H Q=>ta σ H λx H1=>∃c,x=.bl c/\if c=true then tb σ H1 Q else Q (.bl false) H1
theorem Fw{op}{t:TE}(h:PE X a t):PE X (.BoolOp op [a] pos) t:=λpins s σ H Q I hw=>BoolOp_one (h pins s σ H Q I hw)
theorem EK(ha:PE X a ta)(hb:PE X (.BoolOp .And (b::rest) pos) tb):PE X (.BoolOp .And (a::b::rest) pos) (oP ta tb):=by
 intro pins s σ H Q I h;refine BoolOp_and (bZ (ha pins s σ H _ I h) λv s1 hq9=>?_);obtain⟨x,H1,I1,r1,q1⟩:=hq9;obtain⟨c,rfl,q1⟩:=q1;cases r1;refine Nu ?_
 cases c with
 |true=>exact hb pins s1 σ H1 Q I1 q1
 |false=>exact⟨.bl false,H1,I1,rfl,q1⟩
def Hb(t:TT)(ta tb:TE):TE:=λσ H Q=>t σ H λc H1=>if c=true then ta σ H1 Q else tb σ H1 Q
theorem A1{c:Expr}(hc:PT X c tA)(ha:PE X a ta)(hb:PE X b tb):PE X (.IfExp c a b pos) (Hb tA ta tb):=by
 intro pins s σ H Q I h;refine wpAny_IfExp (bZ (hc pins s σ H _ I h) λd s1 hq12=>?_);obtain⟨H1,I1,q1⟩:=hq12
 cases d with
 |true=>exact ha pins s1 σ H1 Q I1 q1
 |false=>exact hb pins s1 σ H1 Q I1 q1
end
noncomputable def bB(K:PJ)(H:Hp)(a:Addr)(xs:List V):Prop:=
 Rd H a (.lst xs) \/
  ∃(o:Obj) (its:Array Value) (n:Nat),K.lookup a=some o/\o.cls=.type "list"/\o.dict=none/\o.data=.seq its n/\its.size<=sizeLine/\Vals xs its.toList
noncomputable def aY(K:PJ)(H:Hp)(a:Addr)(xs:List V):Prop:=
 Rd H a (.tup xs) \/
  ∃(o:Obj) (its:Array Value) (n:Nat),K.lookup a=some o/\o.cls=.type "tuple"/\o.data=.seq its n/\its.size<=sizeLine/\Vals xs its.toList
noncomputable def J6:Value->Option V
 |.none=>some .aX
 |.bool b=>some (.bl b)
 |.int i _=>some (.int i)
 |.str x _=>some (.str x)
 |.bytes b _=>some (.qV b)
 |.float b _=>some (.IH b)
 |.ref a=>some (.ref a)
 |.type n=>some (.ty n)
 |_=>none
theorem RelV.abs{x:V}(r:RelV x u):J6 u=some x:=by
 cases x with
 |aX=>cases r;rfl
 |bl _=>cases r;rfl
 |int _=>obtain⟨t,rfl⟩:=r;rfl
 |str _=>obtain⟨t,rfl⟩:=r;rfl
 |qV _=>obtain⟨t,rfl⟩:=r;rfl
 |IH _=>obtain⟨t,rfl⟩:=r;rfl
 |ref _=>cases r;rfl
 |ty _=>cases r;rfl
theorem RelV.inj{x y:V}(r:RelV x u)(q:RelV y u):x=y:=Option.some.inj (r.abs.symm.trans q.abs)
theorem Vals.inj:∀{xs ys:List V} {us:List Value},Vals xs us->Vals ys us->xs=ys
 |_,_,_,.nil,.nil=>rfl
 |_,_,_,.cons r t,.cons r' t'=>by rw[r.inj r',Vals.inj t t']
section
variable {X:Cx} {pins:List (Addr×Obj)} {σ:St} {H:Hp} {s:Shared} {a:Addr} {xs ys:List V}
theorem bB.of(h:H a=some (.lst xs)):bB K H a xs:=.inl (.inl h)
theorem aY.of(h:H a=some (.tup xs)):aY K H a xs:=.inl (.inl h)
theorem Inv.list(I:Inv X pins σ H s)(h:bB X.K H a xs):∃its:List Value,Vals xs its/\PlainL s.heap a its.toArray/\xs.length<=sizeLine:=by
 rcases h with h|⟨o,its,n,hk,hc,hd,hs,hz,r⟩
 ·obtain⟨z,its,n,r,e⟩:=h.ok I.ba;exact⟨its,r,⟨_,n,e,rfl,rfl,rfl⟩,z⟩
 ·refine⟨its.toList,r,⟨o,n,I.pM a o hk,hc,hd,by simpa using hs⟩,?_⟩
  have e:=r.length;simp only[KU] at e;lia
theorem Inv.tuple(I:Inv X pins σ H s)(h:aY X.K H a xs):∃its:List Value,Vals xs its/\IsTup s.heap a its.toArray/\xs.length<=sizeLine:=by
 rcases h with h|⟨o,its,n,hk,hc,hs,hz,r⟩
 ·obtain⟨z,its,r,p⟩:=h.ok I.ba;exact⟨its,r,p.to,z⟩
 ·refine⟨its.toList,r,⟨o,I.pM a o hk,hc,n,by simpa using hs⟩,?_⟩
  have e:=r.length;simp only[KU] at e;lia
theorem Inv.lb(I:Inv X pins σ H s)(h:bB X.K H a xs)(h':bB X.K H a ys):xs=ys:=by
 obtain⟨its,r,⟨o,n,e,_,_,d⟩,_⟩:=I.list h;obtain⟨its',r',⟨o',n',e',_,_,d'⟩,_⟩:=I.list h';rw[e] at e';cases e';rw[d] at d'
 injection d' with d1 _
 have:its=its':=by simpa using K_ Array.toList d1
 subst this;exact r.inj r'
theorem Inv.iW(I:Inv X pins σ H s)(h:aY X.K H a xs)(h':aY X.K H a ys):xs=ys:=by
 obtain⟨its,r,⟨o,e,_,n,d⟩,_⟩:=I.tuple h;obtain⟨its',r',⟨o',e',_,n',d'⟩,_⟩:=I.tuple h';rw[e] at e';cases e';rw[d] at d'
 injection d' with d1 _
 have:its=its':=by simpa using K_ Array.toList d1
 subst this;exact r.inj r'
end
abbrev Cx.lZ(X:Cx)(E:Value->Shared->Prop):Cx:={X with xe:=E}
abbrev Cx.qW(X:Cx):Cx:=X.lZ λ_ _=>False
theorem Cx.Ok.lZ(ok:X.Ok)(E:Value->Shared->Prop):(X.lZ E).Ok:=
 ⟨ok.mod,ok.kind,ok.glob,ok.blt,ok.above,ok.inj,ok.has,ok.Hm,ok.hd,ok.frames,ok.IL,ok.JH,ok.bs,ok.AV,ok.zG,ok.Dg,ok.jC,ok.Fm,ok.tabs⟩
theorem Cx.Ok.gJ(ok:(X.lZ E).Ok):X.Ok:=
 ⟨ok.mod,ok.kind,ok.glob,ok.blt,ok.above,ok.inj,ok.has,ok.Hm,ok.hd,ok.frames,ok.IL,ok.JH,ok.bs,ok.AV,ok.zG,ok.Dg,ok.jC,ok.Fm,ok.tabs⟩
section
variable {X:Cx} {pins:List (Addr×Obj)} {σ:St} {H:Hp} {s:Shared} {E:Value->Shared->Prop}
theorem Inv.lZ(I:Inv X pins σ H s)(E:Value->Shared->Prop):Inv (X.lZ E) pins σ H s:=⟨I.ok.lZ E,I.os,I.bare,I.base,I.loc,I.cell,I.free,I.gu,I.pin,I.ba,I.len⟩
theorem Inv.gJ(I:Inv (X.lZ E) pins σ H s):Inv X pins σ H s:=⟨I.ok.gJ,I.os,I.bare,I.base,I.loc,I.cell,I.free,I.gu,I.pin,I.ba,I.len⟩
theorem SP.gJ{f:Flow}(h:SP (X.lZ E) pins D f s'):SP X pins D f s':=by
 cases f with
 |next=>obtain⟨σ',H',I,q⟩:=h;exact⟨σ',H',I.gJ,q⟩
 |brk=>obtain⟨σ',H',I,q⟩:=h;exact⟨σ',H',I.gJ,q⟩
 |cont=>obtain⟨σ',H',I,q⟩:=h;exact⟨σ',H',I.gJ,q⟩
 |ret u=>obtain⟨v,σ',H',I,r,q⟩:=h;exact⟨v,σ',H',I.gJ,r,q⟩
theorem rG.qW{st:List Stmt}{t:TS}(h:rG X.qW st t):rG X st t:=λpins s σ H D I hw =>
 Ls (h pins s σ H D (I.lZ _) hw) (λ_ _ q=>q.gJ) λ_ _ z=>False.elim z
end
section
variable {X:Cx} {st:Stmt} {rest:List Stmt} {t u:TS} {e:Expr} {te:TE} {pos:Pos}
def pB:TS:=λD σ H=>D.nx σ H
def we(t u:TS):TS:=λD σ H=>t {D with nx:=u D} σ H
theorem AZ:rG X [] pB:=λ_ _ σ H _ I h=>NH ⟨σ,H,I,h⟩
theorem zk(h1:PS X st t)(h2:rG X rest u):rG X (st::rest) (we t u):=by
 intro pins s σ H D I h;refine wpAny_execs_cons (bZ (h1 pins s σ H {D with nx:=u D} I h) λf s1 q=>?_)
 cases f with
 |next =>
  obtain⟨σ',H',I',q⟩:=q;exact h2 pins s1 σ' H' D I' q
 |ret v=>exact q
 |brk=>exact q
 |cont=>exact q
theorem C2(h1:PS X st t):rG X [st] t:=by
 intro pins s σ H D I h;refine wpAny_execs_cons (bZ (h1 pins s σ H D I h) λf s1 q=>?_)
 cases f with
 |next=>exact NH q
 |ret v=>exact q
 |brk=>exact q
 |cont=>exact q
theorem Inv.quiet{s:Shared}(I:Inv X pins σ H s):interactive X.env=false:=by simp[interactive,I.ok.kind]
def qu(te:TE):TS:=λD σ H=>te σ H λ_ H1=>D.nx σ H1
theorem C7(he:PE X e te)(hs:autoParam (swapsWith e none pos.line X.env=pure false) ℜ0):PS X (.Expr e pos) (qu te):=by
 intro pins s σ H D I h;exact wpAny_Expr_any (bZ (he pins s σ H _ I h) λv s1 ⟨x,H1,I1,r1,q1⟩=>⟨σ,H1,I1,q1⟩) I.quiet hs
def yy(te:TE):TS:=λD σ H=>te σ H D.rt
theorem EG(he:PE X e te):PS X (.Return (some e) pos) (yy te):=by
 intro pins s σ H D I h;exact wpAny_Return_some (bZ (he pins s σ H _ I h) λv s1 ⟨x,H1,I1,r1,q1⟩=>⟨x,σ,H1,I1,r1,q1⟩)
def wD(c:TT)(t u:TS):TS:=λD σ H=>c σ H λb H1=>if b=true then t D σ H1 else u D σ H1
theorem Hh{c:Expr}{a b:List Stmt}{tc:TT}(hc:PT X c tc)(ha:rG X a t)(hb:rG X b u):PS X (.If c a b pos) (wD tc t u):=by
 intro pins s σ H D I h;refine wpAny_If (bZ (hc pins s σ H _ I h) λd s1 hq13=>?_);obtain⟨H1,I1,q1⟩:=hq13
 cases d with
 |true=>exact ha pins s1 σ H1 D I1 q1
 |false=>exact hb pins s1 σ H1 D I1 q1
end
abbrev TG:=V->St->Hp->(St->Hp->Prop)->Prop
abbrev xx:=List V->St->Hp->(St->Hp->Prop)->Prop
noncomputable def PG(X:Cx)(target:Expr)(t:TG):Prop:=
 ∀(pins:List (Addr×Obj)) (s:Shared) (σ:St) (H:Hp) (v:V) (u:Value) (Q:St->Hp->Prop),Inv X pins σ H s->RelV v u->t v σ H Q ->
  wpAny (model X.prog X.w) X.A (assign target X.env u) (λ_ s'=>∃σ' H',Inv X pins σ' H' s'/\Q σ' H') X.xe s
noncomputable def HC(X:Cx)(ts:List Expr)(t:xx):Prop:=
 ∀(pins:List (Addr×Obj)) (s:Shared) (σ:St) (H:Hp) (vs:List V) (us:List Value) (Q:St->Hp->Prop),Inv X pins σ H s->Vals vs us->t vs σ H Q ->
  wpAny (model X.prog X.w) X.A (assignInOrder ((assignEach ts X.env).map (·.2)) us) (λ_ s'=>∃σ' H',Inv X pins σ' H' s'/\Q σ' H') X.xe s
abbrev CI:=V->V->V->Hp->(Hp->Prop)->Prop
noncomputable def EN(X:Cx)(t:CI):Prop:=
 ∀(pins:List (Addr×Obj)) (s:Shared) (σ:St) (H:Hp) (o i v:V) (ov iv u:Value) (Q:Hp->Prop),Inv X pins σ H s->RelV o ov->RelV i iv->RelV v u->t o i v H Q ->
  wpAny (model X.prog X.w) X.A (setItem ov iv u) (λ_ s'=>∃H',Inv X pins σ H' s'/\Q H') X.xe s
section
variable {X:Cx} {pos:Pos}
def bp(i:Nat):TG:=λv σ H Q=>Q (σ.set i (some v)) H
theorem Cr(hN:X.N.Nodup)(hi:X.N[i]?=some x)(hx:Loc X.env.scope x)(hf:autoParam (X.fn x=true\/X.env.scope.names.lookup x=some .local) ℜ2):PG X (.Name x pos) (bp i):=by
 intro pins s σ H v u Q I r h;exact wpAny_assign_Name (pN I hN hi hx r (λs' I'=>⟨_,H,I',h⟩) hf)
def lU:xx:=λvs σ H Q=>vs=[]/\Q σ H
def dX(t:TG)(u:xx):xx:=λvs σ H Q=>∃v r,vs=v::r/\t v σ H λσ' H'=>u r σ' H' Q
theorem BM:HC X [] lU:=by
 intro pins s σ H vs us Q I r h;obtain⟨e,h⟩:=h;subst e;cases r;exact assignInOrder_nil ⟨σ,H,I,h⟩
theorem Ak{t:TG}{u:xx}(h1:PG X e t)(h2:HC X es u)
  (hs:autoParam ((assignEach (e::es) X.env).map (·.2)=assign e X.env::(assignEach es X.env).map (·.2)) ℜ0):HC X (e::es) (dX t u):=by
 intro pins s σ H vs us Q I r h;obtain⟨v,vr,e1,h⟩:=h;subst e1
 cases r with
 |cons r rr =>
  rw[hs];refine assignInOrder_cons (bZ (h1 pins s σ H _ _ _ I r h) λ_ s1 hq14=>?_);obtain⟨σ1,H1,I1,q1⟩:=hq14;exact h2 pins s1 σ1 H1 _ _ Q I1 rr q1
def ma(K:PJ)(n:Nat)(t:xx):TG:=λv σ H Q=>∃a xs,v=.ref a/\aY K H a xs/\xs.length=n/\t xs σ H Q
theorem FT{t:xx}{n:Nat}(hc:X.calm=true)(h:HC X es t)
  (hn:autoParam ((assignEach es X.env).length=n) ℜ0) (hst:autoParam ((assignEach es X.env).findIdx? (·.1)=none) ℜ0):PG X (.Tuple es k pos) (ma X.K n t):=by
 intro pins s σ H v u Q I r hw;obtain⟨a,xs,e1,hq,hl,hw⟩:=hw;subst e1;cases r;obtain⟨its,rv,ht,hz⟩:=I.tuple hq;refine assign_Tuple_tuple (I.ok.hd hc) ht (by simp[hn,<- hl,rv.length]) hst λh' hx=>?_
 have I1:Inv X pins σ H {s with heap:=h'}:=I.kept (t':=s.toks) λb o e=>hx b o (KA (K0 e)) e
 exact h pins _ σ H xs _ Q I1 (by simpa using rv) hw
def xO(to ti:TE)(t:CI):TG:=λv σ H Q=>to σ H λo H1=>ti σ H1 λi H2=>t o i v H2 λH3=>Q σ H3
theorem Fc{o i:Expr}{to ti:TE}{t:CI}(ho:PE X o to)(hi:PE X i ti)(hs:EN X t)
  (ha:autoParam (∀v,assign (.Subscript o i pos) X.env v=(do
   let ov <- holding [v] (eval o X.env)
   let iv <- holding [v,ov] (eval i X.env)
   standAt pos
   holding [v,ov,iv] (setItem ov iv v)
   release [v,ov,iv] [])) ℜ3):PG X (.Subscript o i pos) (xO to ti t):=by
 intro pins s σ H v u Q I r h;rw[ha];refine Kb (L7 (bZ (ho pins s σ H _ I h) λov s1 hq15=>?_));obtain⟨x,H1,I1,r1,q1⟩:=hq15;refine Kb (L7 (bZ (hi pins s1 σ H1 _ I1 q1) λiv s2 hq16=>?_));obtain⟨y,H2,I2,r2,q2⟩:=hq16;refine Kb (Ou (Kb (L7 (bZ (hs pins s2 σ H2 x y v ov iv u _ I2 r1 r2 r q2) λ_ s3 hq17=>?_))));obtain⟨H3,I3,q3⟩:=hq17;exact wpAny_release ⟨σ,H3,I3,q3⟩
def nL(te:TE)(g:TG):TS:=λD σ H=>te σ H λx H1=>g x σ H1 D.nx
theorem Gj{te:TE}{g:TG}(he:PE X e te)(hg:PG X tg g)(hs:autoParam (swapsWithSole [tg] e pos.line X.env=pure false) ℜ0)(hw:autoParam (swappedStores [tg] e X.env=pure none) ℜ0)
  (h1:autoParam ((assignEach [tg] X.env).map (·.2)=[assign tg X.env]) ℜ0):PS X (.Assign [tg] e pos) (nL te g):=by
 intro pins s σ H D I h;refine wpAny_Assign_stores (bZ (he pins s σ H _ I h) λv s1 hq18=>?_) hs hw;obtain⟨x,H1,I1,r1,q1⟩:=hq18;rw[h1];exact bZ (hg pins s1 σ H1 x v _ I1 r1 q1) λ_ s2 q=>q
theorem Gy{te:TE}{pos':Pos}(hN:X.N.Nodup)(hi:X.N[i]?=some x)(hx:Loc X.env.scope x)(he:PE X e te)(hs:autoParam (swapsWith e (some (.Name x pos')) pos.line X.env=pure false) ℜ0)(hf:autoParam (X.fn x=true\/X.env.scope.names.lookup x=some .local) ℜ2):
  PS X (.Assign [.Name x pos'] e pos) (nL te (bp i)):=by
 intro pins s σ H D I h;refine wpAny_Assign_Name (bZ (he pins s σ H _ I h) λv s1 hq19=>?_) hs;obtain⟨y,H1,I1,r1,q1⟩:=hq19;exact pN I1 hN hi hx r1 (λs2 I2=>⟨_,H1,I2,q1⟩) hf
end
section
variable {X:Cx} {pos:Pos}
noncomputable def Ar(c:TT)(tb:TS):TS:=λD σ H=>∃W:Nat->St->Hp->Prop,(∃m,W m σ H)/\∀m σ H,W m σ H ->
 c σ H λb H1=>if b=true then ∃N:St->Hp->Prop,(∀σ' H',N σ' H'->∃m',m'<m/\W m' σ' H')/\tb {D with nx:=N,ct:=N,bk:=D.nx} σ H1 else D.nx σ H1
theorem A6{c:Expr}{tc:TT}(hp:PassesOwn (model X.prog X.w) X.A X.env X.xe)(hc:PT X c tc)(hb:rG X body tb):PS X (.While c body [] pos) (Ar tc tb):=by
 intro pins s σ H D I h;obtain⟨W,⟨m0,w0⟩,turn⟩:=h;refine wpAny_While (codeAny_whileLoop (λn s'=>∃σ' H',Inv X pins σ' H' s'/\W n σ' H') ?_ m0 ⟨σ,H,I,w0⟩);rintro n s1 ⟨σ1,H1,I1,w1⟩;refine Mm hp (bZ (hc pins s1 σ1 H1 _ I1 (turn n σ1 H1 w1)) λb s2 hq28=>?_);obtain⟨H2,I2,q2⟩:=hq28
 cases b with
 |true =>
  obtain⟨N,hN,q2⟩:=q2;rw[Kj rfl];refine Mm hp (bZ (hb pins s2 σ1 H2 _ I2 q2) λf s3 q3=>?_)
  cases f with
  |next =>
   obtain⟨σ3,H3,I3,n3⟩:=q3;obtain⟨m',hm,w3⟩:=hN σ3 H3 n3;exact⟨m',hm,σ3,H3,I3,w3⟩
  |cont =>
   obtain⟨σ3,H3,I3,n3⟩:=q3;obtain⟨m',hm,w3⟩:=hN σ3 H3 n3;exact⟨m',hm,σ3,H3,I3,w3⟩
  |brk=>exact q3
  |ret v=>exact q3
 |false =>
  rw[Ki Kx];exact NH ⟨σ1,H2,I2,q2⟩
end
structure It where
 go:Nat->Hp->Prop
 Dz:Nat->Hp->V->Hp->Prop
 stop:Nat->Hp->Prop
noncomputable def lS(X:Cx)(pins:List (Addr×Obj))(H:Hp)(b:Addr):Prop:=
 H b=none/\b≠X.env.locals/\b∉X.fs/\(b∈X.ex\/X.s₀.heap.objs.size<=b)/\(∀x c,X.env.cells.lookup x=some c->c≠b)/\∀p∈X.pn++pins,p.1≠b
theorem Inv.qj{H':Hp}{s:Shared}(I:Inv X pins σ H s)(hb:s.heap.objs.size<=b)(hn:H' b=none):lS X pins H' b:=by
 refine⟨hn,LN (KI I.lt hb),I.HH hb,.inr (Kn I.sz hb),λx c e z=>?_,λp hp z=>?_⟩
 ·obtain⟨v,q⟩:=I.cell x c e;exact absurd (KI q.lt (by rw[z];exact hb)) (LQ _)
 ·exact absurd (KI (K0 (I.pin p hp).1) (by rw[z];exact hb)) (LQ _)
structure Turn (P:Program) (w:World) (K:PJ) (tg:Expr) (J:It) (fp:List Addr) (it:Addr) (tn:Nat->Heap->Prop):Prop where
 mem:it∈fp
 obj:∀i h,tn i h->∀b∈fp,∃o,h.get? b=some o/\∀v,o.data≠.cell v
 keep:∀i h h',tn i h->(∀b∈fp,∀o,h.get? b=some o->h'.get? b=some o)->tn i h'
 item:∀(X:Cx),X.prog=P->X.w=w->X.K=K->X.calm=true->∀(i:Nat) (pins:List (Addr×Obj)) (s:Shared) (σ:St) (H:Hp) (E:Value->Shared->Prop),Inv X pins σ H s->(∀b∈fp,lS X pins H b)->tn i s.heap->J.go i H ->
  wpAny (model P w) X.A (pyNext (.ref it)) (λr s1=>∃u,r=some u /\
   wpAny (model P w) X.A (letOwnedTupleGo tg (.ref it) u) (λ_ s2=>∃x H',Inv X pins σ H' s2/\RelV x u/\J.Dz i H x H'/\tn (i+1) s2.heap/\∀b∈fp,H' b=none) E s1) E s
 done:∀(X:Cx),X.prog=P->X.w=w->X.K=K->X.calm=true->∀(i:Nat) (pins:List (Addr×Obj)) (s:Shared) (σ:St) (H:Hp) (E:Value->Shared->Prop),Inv X pins σ H s->(∀b∈fp,lS X pins H b)->tn i s.heap->J.stop i H ->
  wpAny (model P w) X.A (pyNext (.ref it)) (λr s1=>r=none/\Inv X pins σ H s1) E s
 self:∀(A:Around) (i:Nat) (s:Shared) (Q:Value->Shared->Prop) (E:Value->Shared->Prop),tn i s.heap->Q (.ref it) s->wpAny (model P w) A (pyIter (.ref it)) Q E s
abbrev TI:=St->Hp->(It->Hp->Prop)->Prop
noncomputable def J9(X:Cx)(pins:List (Addr×Obj))(σ:St)(tg:Expr)(R:It->Hp->Prop)(itv:Value)(s2:Shared):Prop:=
 ∃(it:Addr) (fp:List Addr) (tn:Nat->Heap->Prop) (J:It) (H':Hp),itv=.ref it/\Inv X pins σ H' s2/\Turn X.prog X.w X.K tg J fp it tn/\tn 0 s2.heap/\(∀b∈fp,lS X pins H' b)/\R J H'
noncomputable def PI(X:Cx)(tg iter:Expr)(wi:TI):Prop:=
 ∀(pins:List (Addr×Obj)) (s:Shared) (σ:St) (H:Hp) (R:It->Hp->Prop),Inv X pins σ H s->wi σ H R ->
  wpAny (model X.prog X.w) X.A (eval iter X.env) (λv s1=>wpAny (model X.prog X.w) X.A (pyIter v) (J9 X pins σ tg R) X.xe s1) X.xe s
theorem yu{A:Around}{s:Shared}{it:Addr}{o:Obj}{n:String}{vs:Array Value}{Q:Unit->Shared->Prop}(ho:s.heap.get? it=some o)(hc:o.cls=.type n)(hd:o.data=.fields vs)
    (hn:["enumerate","zip","dict_itemiterator","dict_reverseitemiterator","odict_iterator","itertools.zip_longest","itertools.pairwise"].contains n=false) (hQ:Q () s):wpAny M A (letOwnedTupleGo tg (.ref it) u) Q E s:=by
  unfold letOwnedTupleGo
  cases tg<;>first
    |exact Ks hQ
    | (cases u<;>first
        |exact Ks hQ
        | (refine Kb (wpAny_load ho ?_)
           rw[hc,hd];show wpAny M A (if (["enumerate","zip","dict_itemiterator","dict_reverseitemiterator","odict_iterator","itertools.zip_longest","itertools.pairwise"].contains n && vs[0]? == some (rawInt _))=true then _ else _) Q E s
           rw[Ki (by intro h;rw[hn,Oa] at h;cases h)]
           exact Ks hQ))
noncomputable def xt(K:PJ)(a:Addr):It:=
 ⟨λi H=>∃xs x,bB K H a xs/\xs[i]?=some x,λi H x H'=>H'=H/\∀xs,bB K H a xs->xs[i]?=some x,λi H=>∃xs,bB K H a xs/\xs.length<=i⟩
noncomputable def wU(K:PJ)(a:Addr):It:=
 ⟨λi H=>∃xs x,aY K H a xs/\xs[i]?=some x,λi H x H'=>H'=H/\∀xs,aY K H a xs->xs[i]?=some x,λi H=>∃xs,aY K H a xs/\xs.length<=i⟩
noncomputable def yb(lo:Int)(n:Nat):It:=⟨λi _=>i<n,λi H x H'=>H'=H/\x=.int (lo+i),λi _=>n<=i⟩
theorem mX(a it:Addr):Turn P w K tg (xt K a) [it] it (λi h=>h.IsListIter it a i) where
 mem:=by simp
 obj:=λi h st b hb=>by
  have e:b=it:=by simpa using hb
  subst e;obtain⟨o,e,c,d⟩:=st;exact⟨o,e,λv z=>by rw[d] at z;cases z⟩
 keep:=λi h h' st k=>st.at λo e=>k it (by simp) o e
 item:=by
  intro X hP hw hK hc i pins s σ H E I hf st hg;subst hP hw hK;obtain⟨xs,x,hq,hx⟩:=hg;obtain⟨its,rv,p,hz⟩:=I.list hq;obtain⟨u,hu,ru⟩:=rv.get hx;obtain⟨f0,f1,f2,f3,f4,f5⟩:=hf it (by simp)
  refine OW st p.isList (x:=u) (by simpa using hu) λh' st' sb=>?_
  have I1:Inv X pins σ H {s with heap:=h'}:=I.turned (t':=s.toks) (λb o hb e=>(sb.2 b hb).trans e) f0 f1 f3 f4 f5
  obtain⟨o,e,c,d⟩:=id st';exact⟨u,rfl,yu (s:={s with heap:=h'}) e c d (by decide) ⟨x,H,I1,ru,⟨rfl,λys hy=>by rw[I.lb hy hq];exact hx⟩,st',λb hb=>(hf b hb).1⟩⟩
 done:=by
  intro X hP hw hK hc i pins s σ H E I hf st hg;subst hP hw hK;obtain⟨xs,hq,hx⟩:=hg;obtain⟨its,rv,p,hz⟩:=I.list hq;obtain⟨f0,f1,f2,f3,f4,f5⟩:=hf it (by simp)
  have hl:=rv.length;exact wpAny_pyNext_list_end (I.ok.hd hc) st p.isList (by simp;lia) λh' eb=>⟨rfl,I.turned (t':=s.toks) (λb o hb e=>eb b o hb e) f0 f1 f3 f4 f5⟩
 self:=λ_ _ _ _ _ st h=>wpAny_pyIter_listiter st h
theorem kF(a it:Addr):Turn P w K tg (wU K a) [it] it (λi h=>h.IsTupleIter it a i) where
 mem:=by simp
 obj:=λi h st b hb=>by
  have e:b=it:=by simpa using hb
  subst e;obtain⟨o,e,c,d⟩:=st;exact⟨o,e,λv z=>by rw[d] at z;cases z⟩
 keep:=λi h h' st k=>st.at λo e=>k it (by simp) o e
 item:=by
  intro X hP hw hK hc i pins s σ H E I hf st hg;subst hP hw hK;obtain⟨xs,x,hq,hx⟩:=hg;obtain⟨its,rv,p,hz⟩:=I.tuple hq;obtain⟨u,hu,ru⟩:=rv.get hx;obtain⟨f0,f1,f2,f3,f4,f5⟩:=hf it (by simp)
  refine wpAny_pyNext_tuple_item st (show s.heap.IsTuple a its.toArray from p) (x:=u) (by simpa using hu) λh' st' sb=>?_
  have I1:Inv X pins σ H {s with heap:=h'}:=I.turned (t':=s.toks) (λb o hb e=>(sb.2 b hb).trans e) f0 f1 f3 f4 f5
  obtain⟨o,e,c,d⟩:=id st';exact⟨u,rfl,yu (s:={s with heap:=h'}) e c d (by decide) ⟨x,H,I1,ru,⟨rfl,λys hy=>by rw[I.iW hy hq];exact hx⟩,st',λb hb=>(hf b hb).1⟩⟩
 done:=by
  intro X hP hw hK hc i pins s σ H E I hf st hg;subst hP hw hK;obtain⟨xs,hq,hx⟩:=hg;obtain⟨its,rv,p,hz⟩:=I.tuple hq;obtain⟨f0,f1,f2,f3,f4,f5⟩:=hf it (by simp)
  have hl:=rv.length;exact wpAny_pyNext_tuple_end (I.ok.hd hc) st (show s.heap.IsTuple a its.toArray from p) (by simp;lia) λh' eb=>⟨rfl,I.turned (t':=s.toks) (λb o hb e=>eb b o hb e) f0 f1 f3 f4 f5⟩
 self:=λ_ _ _ _ _ st h=>wpAny_pyIter_tupleiter st h
theorem tB{w:World}(it:Addr)(lo:Int)(n:Nat):Turn P w K tg (yb lo n) [it] it (λi h=>IsRangeIter h it (lo+(i:Nat)*1) ((n:Int)-(i:Nat)) 1) where
 mem:=by simp
 obj:=λi h st b hb=>by
  have e:b=it:=by simpa using hb
  subst e;exact⟨_,st,λv z=>by
   have z':Data.fields _=Data.cell v:=z
   cases z'⟩
 keep:=λi h h' st k=>k it (by simp) _ st
 item:=by
  intro X hP hw hK hc i pins s σ H E I hf st hg;subst hP hw hK;obtain⟨f0,f1,f2,f3,f4,f5⟩:=hf it (by simp)
  have W:=Walks.range (prog:=X.prog) (w:=X.w) (I.ok.hd hc) it lo 1 n;refine W.item i s _ _ hg st λv h' tk hv st' kk=>?_;obtain⟨t,rfl⟩:=hv;have I1:Inv X pins σ H {s with heap:=h',toks:=tk}:=I.turned (λb o hb e=>kk b o (by simpa using hb) e) f0 f1 f3 f4 f5
  refine⟨_,rfl,yu (s:={s with heap:=h',toks:=tk}) (n:="range_iterator") st' rfl rfl (by decide) ⟨.int (lo+i),H,I1,⟨t,?_⟩,⟨rfl,rfl⟩,st',λb hb=>(hf b hb).1⟩⟩
  rw[Int.mul_one]
 done:=by
  intro X hP hw hK hc i pins s σ H E I hf st hg;subst hP hw hK;obtain⟨f0,f1,f2,f3,f4,f5⟩:=hf it (by simp)
  exact wpAny_pyNext_range_end (I.ok.hd hc) st (by have:n<=i:=hg;lia) λh' eb=>⟨rfl,I.turned (t':=s.toks) (λb o hb e=>eb b o hb e) f0 f1 f3 f4 f5⟩
 self:=λ_ _ _ _ _ st h=>wpAny_pyIter_rangeiter st h
section
variable {X:Cx} {tg:Expr}
theorem qH{s:Shared}{R:It->Hp->Prop}{lo hi:Int}{t u v:Tok}{tk:Nat}(I:Inv X pins σ H s)(h1:-(2^62)<=lo)(h2:lo<2^62)(h3:-(2^62)<=hi)(h4:hi<2^62)
  (q:R (yb lo (hi-lo).toNat) H):wpAny (model X.prog X.w) X.A (pyIter (.ref s.heap.objs.size)) (J9 X pins σ tg R) E {s with heap:=s.heap.push {cls:=.type "range",data:=.fields #[.int lo t,.int hi u,.int 1 v]},toks:=tk}:=by
 refine wpAny_pyIter_range (IsRange.new ..) (small_one h1 h2 h3 h4) ?_;have I1:Inv X pins σ H {s with heap:=s.heap.push {cls:=.type "range",data:=.fields #[.int lo t,.int hi u,.int 1 v]},toks:=tk}:=I.kept λb o e=>Kg _ e
 refine⟨(s.heap.push {cls:=.type "range",data:=.fields #[.int lo t,.int hi u,.int 1 v]}).objs.size,[(s.heap.push {cls:=.type "range",data:=.fields #[.int lo t,.int hi u,.int 1 v]}).objs.size],_,_,H,rfl,
  I1.kept (t':=tk) λb o e=>Kg _ e,tB _ lo (hi-lo).toNat,?_,λb hb=>?_,q⟩
 ·have e1:lo+((0:Nat):Int)*1=lo:=by simp
  have e2:(((hi-lo).toNat:Nat):Int)-((0:Nat):Int)=Builtin.Range.rangeSize lo hi 1:=by rw[rangeSize_one];split<;>lia
  show IsRangeIter _ _ (lo+((0:Nat):Int)*1) ((((hi-lo).toNat:Nat):Int)-((0:Nat):Int)) 1;rw[e1,e2];exact Ky _ rfl
 ·have e:b=(s.heap.push {cls:=.type "range",data:=.fields #[.int lo t,.int hi u,.int 1 v]}).objs.size:=by simpa using hb
  subst e;exact I1.qj (Kk _) (I1.ba.fresh (Kk _))
def mw(ta:TA):TI:=λσ H R=>ta σ H λvs H1=>∃j:Int,vs=[.int j]/\-(2^62)<=j/\j<2^62/\R (yb 0 j.toNat) H1
def m9(ta:TA):TI:=λσ H R=>ta σ H λvs H1=>∃i j:Int,vs=[.int i,.int j]/\(-(2^62)<=i/\i<2^62/\-(2^62)<=j/\j<2^62)/\R (yb i (j-i).toNat) H1
theorem wA{a:Expr}{ta:TA}{p pos:Pos}(hg:Gl X "range")(hm:X.mg "range"=none)(ha:PA X [a] ta)(hs:autoParam (starEach [a] X.env=[(false,eval a X.env)]) ℜ0):PI X tg (.Call (.Name "range" p) [a] [] pos) (mw ta):=by
 intro pins s σ H R I h;refine Call_ (fR I hg hm boot_range (Lj (bZ (ha pos pins s σ H _ I h) λus s1 hq31=>?_) hs rfl));obtain⟨vs,H1,I1,r1,q1⟩:=hq31;obtain⟨j,e,q1,q2,q⟩:=q1;subst e
 cases r1 with
 |cons r rr =>
  cases rr;obtain⟨t,rfl⟩:=r;exact call_range_1 (qH I1 (by lia) (by lia) q1 q2 (by simpa using q))
theorem vN{a b:Expr}{ta:TA}{p pos:Pos}(hg:Gl X "range")(hm:X.mg "range"=none)(ha:PA X [a,b] ta)(hs:autoParam (starEach [a,b] X.env=[(false,eval a X.env),(false,eval b X.env)]) ℜ0)(hs2:autoParam (starEach [b] X.env=[(false,eval b X.env)]) ℜ0):
  PI X tg (.Call (.Name "range" p) [a,b] [] pos) (m9 ta):=by
 intro pins s σ H R I h;refine Call_ (fR I hg hm boot_range (Lj (bZ (ha pos pins s σ H _ I h) λus s1 hq32=>?_) (by rw[hs,hs2]) (by rw[hs2];rfl)))
 obtain⟨vs,H1,I1,r1,q1⟩:=hq32;obtain⟨i,j,e,⟨q1,q2,q3,q4⟩,q⟩:=q1;subst e
 cases r1 with
 |cons r rr =>
  cases rr with
  |cons r' rr =>
   cases rr;obtain⟨t,rfl⟩:=r;obtain⟨t',rfl⟩:=r';exact call_range_2 (qH I1 q1 q2 q3 q4 q)
noncomputable def Ga(wi:TI)(g:TG)(tb:TS):TS:=λD σ H=>wi σ H λJ H1=>∃W:Nat->Nat->St->Hp->Prop,(∃m,W 0 m σ H1)/\∀i m σ H,W i m σ H ->
 (J.stop i H/\D.nx σ H)\/(J.go i H/\∃N:St->Hp->Prop,(∀σ' H',N σ' H'->∃m',m'<m/\W (i+1) m' σ' H')/\∀x H',J.Dz i H x H'->g x σ H' λσ2 H2=>tb {D with nx:=N,ct:=N,bk:=D.nx} σ2 H2)
noncomputable def jn(fp:List Addr)(h:Heap):List (Addr×Obj):=fp.filterMap λb=>(h.get? b).map λo=>(b,o)
theorem eQ{o:Obj}(hb:b∈fp)(e:h.get? b=some o):(b,o)∈jn fp h:=Ni.mpr ⟨b,hb,by rw[e];rfl⟩
theorem wK{p:Addr×Obj}(hp:p∈jn fp h):p.1∈fp/\h.get? p.1=some p.2:=by
 obtain⟨b,hb,e⟩:=Ni.mp hp
 cases q:h.get? b with
 |none=>rw[q] at e;cases e
 |some o =>
  rw[q] at e;have e':(b,o)=p:=Option.some.inj e;subst e';exact⟨hb,q⟩
theorem Inv.pinned{s:Shared}(I:Inv X pins σ H s)(hf:∀b∈fp,lS X pins H b)(ho:∀b∈fp,∃o,s.heap.get? b=some o/\∀v,o.data≠.cell v):Inv X (pins++jn fp s.heap) σ H s:=
 I.nB λp hp=>(KJ.mp hp).elim (λz=>I.pin p (K6 _ z)) λz=>by
  obtain⟨hb,e⟩:=wK z;obtain⟨f0,f1,f2,_⟩:=hf p.1 hb;obtain⟨o,e',d⟩:=ho p.1 hb;rw[e] at e';cases e';exact⟨e,f0,f1,f2,d⟩
theorem Inv.gI{pl:List (Addr×Obj)}{s:Shared}(I:Inv X (pins++pl) σ H s):Inv X pins σ H s:=I.nB λp hp=>I.pin p (K6 _ (LW _ hp))
theorem Gk{iter:Expr}{wi:TI}{g:TG}{pos:Pos}(hp:PassesOwn (model X.prog X.w) X.A X.env X.xe)(hc:X.calm=true)(hi:PI X tg iter wi)(hg:PG X tg g)(hb:rG X body tb)
  (hs:autoParam (∀x,foldedSetIterable iter X.env x=pure x) ℜ3):PS X (.For tg iter body [] pos) (Ga wi g tb):=by
 intro pins s σ H D I h;refine wpAny_For (bZ (hi pins s σ H _ I h) λv s1 h1=>bZ h1 λitv s2 h2=>?_) hs;obtain⟨it,fp,tn,J,H2,e,I2,T,st2,f2,W,⟨m0,w0⟩,turn⟩:=h2;subst e;have stat:∀{H':Hp},(∀b∈fp,H' b=none)->∀b∈fp,lS X pins H' b:=λhn b hb=>⟨hn b hb,(f2 b hb).2⟩;refine codeAny_forLoop_any (λn s'=>∃i σ' H',Inv X pins σ' H' s'/\tn i s'.heap/\(∀b∈fp,H' b=none)/\W i n σ' H') ?_ m0 ⟨0,σ,H2,I2,st2,λb hb=>(f2 b hb).1,w0⟩;rintro n s3 ⟨i,σ3,H3,I3,st3,fr3,w3⟩;rcases turn i n σ3 H3 w3 with ⟨stop,qn⟩|⟨go,N,hN,step⟩
 ·refine Mm hp (bZ (T.done X rfl rfl rfl hc i pins s3 σ3 H3 X.xe I3 (stat fr3) st3 stop) λr s4 hq33=>?_);obtain⟨hr,I4⟩:=hq33;subst hr;exact NH ⟨σ3,H3,I4,qn⟩
 ·refine Mm hp (bZ (T.item X rfl rfl rfl hc i pins s3 σ3 H3 X.xe I3 (stat fr3) st3 go) λr s4 hq34=>?_);obtain⟨u,hr,h4⟩:=hq34;subst hr;refine Mm hp (bZ h4 λ_ s5 hq35=>?_);obtain⟨x,H5,I5,r5,y5,st5,fr5⟩:=hq35;have I5':=I5.pinned (stat fr5) (T.obj _ _ st5);refine Mm hp (bZ (hg _ s5 σ3 H5 x u _ I5' r5 (step x H5 y5)) λ_ s6 hq36=>?_);obtain⟨σ6,H6,I6,q6⟩:=hq36;refine Mm hp (bZ (hb _ s6 σ6 H6 _ I6 q6) λf s7 q7=>?_);have again:∀{σ7:St} {H7:Hp},Inv X (pins++jn fp s5.heap) σ7 H7 s7->N σ7 H7->∃m,m<n/\∃i σ' H',Inv X pins σ' H' s7/\tn i s7.heap/\(∀b∈fp,H' b=none)/\W i m σ' H':=λ{σ7 H7} I7 n7=>by
   obtain⟨m',hm,w7⟩:=hN σ7 H7 n7;refine⟨m',hm,i+1,σ7,H7,I7.gI,T.keep _ _ _ st5 λb hb o e=>(I7.pin (b,o) (K6 _ (K6 _ (eQ hb e)))).1,λb hb=>?_,w7⟩;obtain⟨o,e,d⟩:=T.obj _ _ st5 b hb;exact (I7.pin (b,o) (K6 _ (K6 _ (eQ hb e)))).2.1
  cases f with
  |next=>obtain⟨σ7,H7,I7,n7⟩:=q7;exact again I7 n7
  |cont=>obtain⟨σ7,H7,I7,n7⟩:=q7;exact again I7 n7
  |brk=>obtain⟨σ7,H7,I7,q7⟩:=q7;exact⟨σ7,H7,I7.gI,q7⟩
  |ret v=>obtain⟨x7,σ7,H7,I7,r7,q7⟩:=q7;exact⟨x7,σ7,H7,I7.gI,r7,q7⟩
end
theorem xJ{g:TG}(Pv:Nat->St->Hp->Prop)(h0:Pv 0 σ H)(hl:∀i σ H,i<=xs.length->Pv i σ H->bB K H a xs)
  (hs:∀i x σ H,xs[i]?=some x->Pv i σ H->g x σ H λσ2 H2=>tb {D with nx:=Pv (i+1),ct:=Pv (i+1),bk:=D.nx} σ2 H2) (hd:∀σ H,Pv xs.length σ H->D.nx σ H) :
  ∃W:Nat->Nat->St->Hp->Prop,(∃m,W 0 m σ H)/\∀i m σ H,W i m σ H ->
   ((xt K a).stop i H/\D.nx σ H)\/((xt K a).go i H/\∃N:St->Hp->Prop,(∀σ' H',N σ' H'->∃m',m'<m/\W (i+1) m' σ' H')/\∀x H',(xt K a).Dz i H x H'->g x σ H' λσ2 H2=>tb {D with nx:=N,ct:=N,bk:=D.nx} σ2 H2):=by
 refine⟨λi m σ H=>m=xs.length-i/\i<=xs.length/\Pv i σ H,⟨xs.length,by simp,Kz _,h0⟩,?_⟩
 rintro i m σ H ⟨rfl,hi,p⟩;have q:=hl i σ H hi p;by_cases hlt:i<xs.length
 ·refine .inr ⟨⟨xs,xs[i],q,by simp[hlt]⟩,Pv (i+1),λσ' H' p'=>⟨xs.length-(i+1),by lia,rfl,hlt,p'⟩,λx H' y=>?_⟩
  obtain⟨e,y⟩:=y;subst e;exact hs i x σ _ (y xs q) p
 ·have e:i=xs.length:=by lia
  subst e;exact .inl ⟨⟨xs,q,Kk _⟩,hd σ H p⟩
theorem CM{g:TG}(Pv:Nat->St->Hp->Prop)(h0:Pv 0 σ H)(hl:∀i σ H,i<=xs.length->Pv i σ H->aY K H a xs)
  (hs:∀i x σ H,xs[i]?=some x->Pv i σ H->g x σ H λσ2 H2=>tb {D with nx:=Pv (i+1),ct:=Pv (i+1),bk:=D.nx} σ2 H2) (hd:∀σ H,Pv xs.length σ H->D.nx σ H) :
  ∃W:Nat->Nat->St->Hp->Prop,(∃m,W 0 m σ H)/\∀i m σ H,W i m σ H ->
   ((wU K a).stop i H/\D.nx σ H)\/((wU K a).go i H/\∃N:St->Hp->Prop,(∀σ' H',N σ' H'->∃m',m'<m/\W (i+1) m' σ' H')/\∀x H',(wU K a).Dz i H x H'->g x σ H' λσ2 H2=>tb {D with nx:=N,ct:=N,bk:=D.nx} σ2 H2):=by
 refine⟨λi m σ H=>m=xs.length-i/\i<=xs.length/\Pv i σ H,⟨xs.length,by simp,Kz _,h0⟩,?_⟩
 rintro i m σ H ⟨rfl,hi,p⟩;have q:=hl i σ H hi p;by_cases hlt:i<xs.length
 ·refine .inr ⟨⟨xs,xs[i],q,by simp[hlt]⟩,Pv (i+1),λσ' H' p'=>⟨xs.length-(i+1),by lia,rfl,hlt,p'⟩,λx H' y=>?_⟩
  obtain⟨e,y⟩:=y;subst e;exact hs i x σ _ (y xs q) p
 ·have e:i=xs.length:=by lia
  subst e;exact .inl ⟨⟨xs,q,Kk _⟩,hd σ H p⟩
theorem vH{lo:Int}{n:Nat}{g:TG}(Pv:Nat->St->Hp->Prop)(h0:Pv 0 σ H)
  (hs:∀i σ H,i<n->Pv i σ H->g (.int (lo+i)) σ H λσ2 H2=>tb {D with nx:=Pv (i+1),ct:=Pv (i+1),bk:=D.nx} σ2 H2) (hd:∀σ H,Pv n σ H->D.nx σ H) :
  ∃W:Nat->Nat->St->Hp->Prop,(∃m,W 0 m σ H)/\∀i m σ H,W i m σ H ->
   ((yb lo n).stop i H/\D.nx σ H)\/((yb lo n).go i H/\∃N:St->Hp->Prop,(∀σ' H',N σ' H'->∃m',m'<m/\W (i+1) m' σ' H')/\∀x H',(yb lo n).Dz i H x H'->g x σ H' λσ2 H2=>tb {D with nx:=N,ct:=N,bk:=D.nx} σ2 H2):=by
 refine⟨λi m σ H=>m=n-i/\i<=n/\Pv i σ H,⟨n,by simp,Kz _,h0⟩,?_⟩
 rintro i m σ H ⟨rfl,hi,p⟩;by_cases hlt:i<n
 ·refine .inr ⟨hlt,Pv (i+1),λσ' H' p'=>⟨n-(i+1),by lia,rfl,hlt,p'⟩,λx H' y=>?_⟩
  obtain⟨e,y⟩:=y;subst e y;exact hs i σ _ hlt p
 ·have e:i=n:=by lia
  subst e;exact .inl ⟨Kk _,hd σ H p⟩
abbrev R2:=V->V->Hp->VK->Prop
variable{r:R2}
noncomputable def dh(X:Cx)(f:Value->Value->Sem Value)(r:R2):Prop:=
 ∀(pins:List (Addr×Obj)) (s:Shared) (σ:St) (H:Hp) (x y:V) (v u:Value) (Q:VK),Inv X pins σ H s->RelV x v->RelV y u->r x y H Q ->
  wpAny (model X.prog X.w) X.A (f v u) (EP X pins σ Q) X.xe s
noncomputable def IQ(X:Cx)(f:Value->Sem Value)(r:V->Hp->VK->Prop):Prop:=
 ∀(pins:List (Addr×Obj)) (s:Shared) (σ:St) (H:Hp) (x:V) (v:Value) (Q:VK),Inv X pins σ H s->RelV x v->r x H Q ->
  wpAny (model X.prog X.w) X.A (f v) (EP X pins σ Q) X.xe s
noncomputable def bE(X:Cx)(f:Value)(r:List V->Hp->VK->Prop):Prop:=
 ∀(pins:List (Addr×Obj)) (s:Shared) (σ:St) (H:Hp) (xs:List V) (us:List Value) (Q:VK),Inv X pins σ H s->Vals xs us->r xs H Q ->
  wpAny (model X.prog X.w) X.A (call f us) (EP X pins σ Q) X.xe s
noncomputable def Jg(X:Cx)(r:V->Hp->(Bool->Hp->Prop)->Prop):Prop:=
 ∀(pins:List (Addr×Obj)) (s:Shared) (σ:St) (H:Hp) (x:V) (v:Value) (Q:Bool->Hp->Prop),Inv X pins σ H s->RelV x v->r x H Q ->
  wpAny (model X.prog X.w) X.A (truthy v) (TP X pins σ Q) X.xe s
def xQ(r:R2)(ta tb:TE):TE:=λσ H Q=>ta σ H λx H1=>tb σ H1 λy H2=>r x y H2 Q
def GX(r:V->Hp->VK->Prop)(ta:TE):TE:=λσ H Q=>ta σ H λx H1=>r x H1 Q
def rI(C:Int->Int->Prop)(g:Int->Int->V):R2:=λx y H Q=>∃i j,x=.int i/\y=.int j/\C i j/\Q (g i j) H
def vt(g:Int->Int->V):R2:=λx y H Q=>∃i j,x=.int i/\y=.int j/\Q (g i j) H
def rU(g:Int->V):V->Hp->VK->Prop:=λx H Q=>∃i,x=.int i/\Q (g i) H
section
variable {X:Cx} {a b c:Expr} {ta tb tc:TE} {pos:Pos}
theorem FI(ha:PE X a ta)(hb:PE X b tb){s:Shared}{R:V->V->Hp->Prop}(I:Inv X pins σ H s)
  (h:ta σ H λx H1=>tb σ H1 λy H2=>R x y H2)  
  (hf:∀v u s2 x y H2,Inv X pins σ H2 s2->RelV x v->RelV y u->R x y H2->wpAny (model X.prog X.w) X.A (f v u) Q X.xe s2) :
  wpAny (model X.prog X.w) X.A (eval a X.env) (λv s₁=>wpAny (model X.prog X.w) X.A (eval b X.env) (λu s₂=>wpAny (model X.prog X.w) X.A (f v u) Q X.xe s₂) X.xe s₁) X.xe s:=by
 refine bZ (ha pins s σ H _ I h) λv s1 hq37=>?_;obtain⟨x,H1,I1,r1,q1⟩:=hq37;refine bZ (hb pins s1 σ H1 _ I1 q1) λu s2 hq38=>?_;obtain⟨y,H2,I2,r2,q2⟩:=hq38;exact hf v u s2 x y H2 I2 r1 r2 q2
theorem Iq{op:Operator}(ho:dh X (binaryOp op) r)(ha:PE X a ta)(hb:PE X b tb):PE X (.BinOp a op b pos) (xQ r ta tb):=by
 intro pins s σ H Q I h;exact wpAny_BinOp (FI ha hb I h λv u s2 x y H2 I2 rx ry q=>ho pins s2 σ H2 x y v u Q I2 rx ry q)
theorem Hc{op:UnaryOp}{r:V->Hp->VK->Prop}(ho:IQ X (unaryOp op) r)(ha:PE X a ta):PE X (.UnaryOp op a pos) (GX r ta):=by
 intro pins s σ H Q I h;exact UnaryOp_ (bZ (ha pins s σ H _ I h) λv s1 ⟨x,H1,I1,r1,q1⟩=>ho pins s1 σ H1 x v Q I1 r1 q1)
theorem Iz{C:Int->Int->Prop}
  (rule:∀(i j:Int) (t u:Tok) (s:Shared) (Q:Value->Shared->Prop) (E:Value->Shared->Prop),C i j->Q (.int (g i j) s.toks) {s with toks:=s.toks+1}->wpAny (model X.prog X.w) X.A (f (.int i t) (.int j u)) Q E s) :
  dh X f (rI C λi j=>.int (g i j)):=by
 intro pins s σ H x y v u Q I rx ry h;obtain⟨i,j,rfl,rfl,hc,q⟩:=h;obtain⟨t,rfl⟩:=rx;obtain⟨t',rfl⟩:=ry;exact rule i j t t' s _ _ hc ⟨.int (g i j),H,I.tok _,⟨_,rfl⟩,q⟩
theorem Ho
  (rule:∀(i j:Int) (t u:Tok) (s:Shared) (Q:Value->Shared->Prop) (E:Value->Shared->Prop),Q (.int (g i j) s.toks) {s with toks:=s.toks+1}->wpAny (model X.prog X.w) X.A (f (.int i t) (.int j u)) Q E s) :
  dh X f (vt λi j=>.int (g i j)):=by
 intro pins s σ H x y v u Q I rx ry h;obtain⟨i,j,rfl,rfl,q⟩:=h;obtain⟨t,rfl⟩:=rx;obtain⟨t',rfl⟩:=ry;exact rule i j t t' s _ _ ⟨.int (g i j),H,I.tok _,⟨_,rfl⟩,q⟩
theorem B1{g:Int->Int->Bool}
  (rule:∀(i j:Int) (t u:Tok) (s:Shared) (Q:Value->Shared->Prop) (E:Value->Shared->Prop),Q (.bool (g i j)) s->wpAny (model X.prog X.w) X.A (f (.int i t) (.int j u)) Q E s) :
  dh X f (vt λi j=>.bl (g i j)):=by
 intro pins s σ H x y v u Q I rx ry h;obtain⟨i,j,rfl,rfl,q⟩:=h;obtain⟨t,rfl⟩:=rx;obtain⟨t',rfl⟩:=ry;exact rule i j t t' s _ _ ⟨.bl (g i j),H,I,rfl,q⟩
def IZ(i j:Int):Prop:=0<j/\j<1073741824
def w_(i j:Int):Prop:=0<=j/\j<=1000000/\i.natAbs<2^64
def AI(i j:Int):Prop:=(-(2^64)<i/\i<2^64)\/(-(2^64)<j/\j<2^64)
theorem AI.ok{i j:Int}(h:AI i j):IntMulOk i j:=by
 rcases h with ⟨h1,h2⟩|⟨h1,h2⟩
 ·exact .of_left (intBits_le_64 h1 h2)
 ·exact .of_right (intBits_le_64 h1 h2)
theorem yv:dh X (binaryOp .Add) (vt λi j=>.int (i+j)):=Ho λ_ _ _ _ _ _ _ q=>add_int q
theorem cW:dh X (binaryOp .Sub) (vt λi j=>.int (i-j)):=Ho λ_ _ _ _ _ _ _ q=>sub_int q
theorem ES:dh X (binaryOp .Mult) (rI AI λi j=>.int (i*j)):=Iz λ_ _ _ _ _ _ _ hc q=>mul_int q hc.ok
theorem oK:dh X (binaryOp .FloorDiv) (rI IZ λi j=>.int (i / j)):=Iz λi j _ _ _ _ _ hc q=>by
 have h1:(0:Int)<j:=hc.1;have h2:j<1073741824:=hc.2;exact floordiv_int (by lia) (by rw[Int.fdiv_eq_ediv_of_nonneg i (by lia)];exact q) (.inl (PyProof.noPylong_small (by lia)))
theorem cY:dh X (binaryOp .Mod) (rI (λ_ j=>0<j) λi j=>.int (i % j)):=Iz λi j _ _ _ _ _ hc q=>by
 have h1:(0:Int)<j:=hc;exact mod_int' (by lia) (by rw[Int.fmod_eq_emod_of_nonneg i (by lia)];exact q)
theorem rK:dh X (binaryOp .Pow) (rI w_ λi j=>.int (i^j.toNat)):=Iz λ_ _ _ _ _ _ _ hc q=>pow_int_small hc.1 hc.2.1 hc.2.2 q
theorem El:dh X (binaryOp .LShift) (rI w_ λi j=>.int (i*2^j.toNat)):=Iz λ_ _ _ _ _ _ _ hc q=>lshift_int_small hc.1 hc.2.1 hc.2.2 q
theorem JP{f:Value->Sem Value}{g:Int->Int}
  (rule:∀(i:Int) (t:Tok) (s:Shared) (Q:Value->Shared->Prop) (E:Value->Shared->Prop),Q (.int (g i) s.toks) {s with toks:=s.toks+1}->wpAny (model X.prog X.w) X.A (f (.int i t)) Q E s) :
  IQ X f (rU λi=>.int (g i)):=by
 intro pins s σ H x v Q I rx h;obtain⟨i,rfl,q⟩:=h;obtain⟨t,rfl⟩:=rx;exact rule i t s _ _ ⟨.int (g i),H,I.tok _,⟨_,rfl⟩,q⟩
theorem iq:IQ X (unaryOp .USub) (rU λi=>.int (-i)):=JP λ_ _ _ _ _ q=>neg_int q
end
noncomputable def GR:V->V->Bool
 |.aX,.aX=>true|.aX,.int _=>true|.int _,.aX=>true|.aX,.bl _=>true|.bl _,.aX=>true|.aX,.str _=>true|.str _,.aX=>true
 |.int _,.int _=>true|.bl _,.bl _=>true|.str _,.str _=>true|.qV _,.qV _=>true
 |.int _,.str _=>true|.str _,.int _=>true|.bl _,.str _=>true|.str _,.bl _=>true
 |_,_=>false
def DE:R2:=λx y H Q=>GR x y=true/\Q (.bl (decide (x=y))) H
def HF:R2:=λx y H Q=>GR x y=true/\Q (.bl (!decide (x=y))) H
theorem um{i j:Int}:decide (V.int i=V.int j)=(i == j):=by
 rw[M9];simp
theorem zS{i j:Bool}:decide (V.bl i=V.bl j)=(i == j):=by
 rw[M9];simp
theorem uk{i j:Str}:decide (V.str i=V.str j)=(i == j):=by
 rw[M9];simp
theorem tP{i j:Array UInt8}:decide (V.qV i=V.qV j)=(i.toList == j.toList):=by
 rw[M9];cases i;cases j;simp
section
variable {X:Cx} {a b c:Expr} {ta tb tc:TE} {pos:Pos}
theorem a_{s:Shared}{Q:VK}{k k':Bool}(I:Inv X pins σ H s)(q:Q (.bl k) H)(e:k=k'):EP X pins σ Q (.bool k') s:=by
 subst e;exact⟨.bl k,H,I,rfl,q⟩
theorem Ea:dh X (compareOp .Eq) DE:=by
 intro pins s σ H x y v u Q I rx ry h;obtain⟨hs,q⟩:=h
 cases x with
 |aX =>
  cases rx
  cases y with
  |aX=>cases ry;exact PySem.EqNone.eq_none_none (a_ I q (by simp))
  |bl j=>cases ry;exact PySem.EqNone.eq_none_bool (a_ I q (by simp))
  |int j=>obtain⟨t',rfl⟩:=ry;exact PySem.EqNone.eq_none_int (a_ I q (by simp))
  |str j=>obtain⟨t',rfl⟩:=ry;exact PySem.EqNone.eq_none_str (a_ I q (by simp))
  |_=>exact absurd (show false=true from hs) Kx
 |bl i =>
  cases rx
  cases y with
  |aX=>cases ry;exact PySem.EqNone.eq_bool_none (a_ I q (by simp))
  |bl j=>cases ry;exact eq_bool (a_ I q zS)
  |str j=>obtain⟨t',rfl⟩:=ry;exact PySem.EqMixed.eq_bool_str (a_ I q (by simp))
  |_=>exact absurd (show false=true from hs) Kx
 |int i =>
  obtain⟨t,rfl⟩:=rx
  cases y with
  |aX=>cases ry;exact PySem.EqNone.eq_int_none (a_ I q (by simp))
  |int j=>obtain⟨t',rfl⟩:=ry;exact eq_int (a_ I q um)
  |str j=>obtain⟨t',rfl⟩:=ry;exact PySem.EqMixed.eq_int_str (a_ I q (by simp))
  |_=>exact absurd (show false=true from hs) Kx
 |str i =>
  obtain⟨t,rfl⟩:=rx
  cases y with
  |aX=>cases ry;exact PySem.EqNone.eq_str_none (a_ I q (by simp))
  |bl j=>cases ry;exact PySem.EqMixed.eq_str_bool (a_ I q (by simp))
  |int j=>obtain⟨t',rfl⟩:=ry;exact PySem.EqMixed.eq_str_int (a_ I q (by simp))
  |str j=>obtain⟨t',rfl⟩:=ry;exact eq_str (a_ I q uk)
  |_=>exact absurd (show false=true from hs) Kx
 |qV i =>
  obtain⟨t,rfl⟩:=rx
  cases y with
  |qV j=>obtain⟨t',rfl⟩:=ry;exact PySem.W.eq_bytes (a_ I q tP)
  |_=>exact absurd (show false=true from hs) Kx
 |_=>cases y<;>exact absurd (show false=true from hs) Kx
theorem DD:dh X (compareOp .NotEq) HF:=by
 intro pins s σ H x y v u Q I rx ry h;obtain⟨hs,q⟩:=h
 cases x with
 |aX =>
  cases rx
  cases y with
  |aX=>cases ry;exact PySem.EqNone.ne_none_none (a_ I q (by simp))
  |bl j=>cases ry;exact PySem.EqNone.ne_none_bool (a_ I q (by simp))
  |int j=>obtain⟨t',rfl⟩:=ry;exact PySem.EqNone.ne_none_int (a_ I q (by simp))
  |str j=>obtain⟨t',rfl⟩:=ry;exact PySem.EqNone.ne_none_str (a_ I q (by simp))
  |_=>exact absurd (show false=true from hs) Kx
 |bl i =>
  cases rx
  cases y with
  |aX=>cases ry;exact PySem.EqNone.ne_bool_none (a_ I q (by simp))
  |bl j=>cases ry;exact ne_bool (a_ I q (K_ not zS))
  |str j=>obtain⟨t',rfl⟩:=ry;exact PySem.EqMixed.ne_bool_str (a_ I q (by simp))
  |_=>exact absurd (show false=true from hs) Kx
 |int i =>
  obtain⟨t,rfl⟩:=rx
  cases y with
  |aX=>cases ry;exact PySem.EqNone.ne_int_none (a_ I q (by simp))
  |int j=>obtain⟨t',rfl⟩:=ry;exact ne_int (a_ I q (K_ not um))
  |str j=>obtain⟨t',rfl⟩:=ry;exact PySem.EqMixed.ne_int_str (a_ I q (by simp))
  |_=>exact absurd (show false=true from hs) Kx
 |str i =>
  obtain⟨t,rfl⟩:=rx
  cases y with
  |aX=>cases ry;exact PySem.EqNone.ne_str_none (a_ I q (by simp))
  |bl j=>cases ry;exact PySem.EqMixed.ne_str_bool (a_ I q (by simp))
  |int j=>obtain⟨t',rfl⟩:=ry;exact PySem.EqMixed.ne_str_int (a_ I q (by simp))
  |str j=>obtain⟨t',rfl⟩:=ry;exact ne_str (a_ I q (K_ not uk))
  |_=>exact absurd (show false=true from hs) Kx
 |qV i =>
  obtain⟨t,rfl⟩:=rx
  cases y with
  |qV j=>obtain⟨t',rfl⟩:=ry;exact PySem.W.ne_bytes (a_ I q (K_ not tP))
  |_=>exact absurd (show false=true from hs) Kx
 |_=>cases y<;>exact absurd (show false=true from hs) Kx
theorem hZ:dh X (compareOp .Lt) (vt λi j=>.bl (decide (i<j))):=B1 λ_ _ _ _ _ _ _ q=>lt_int q
theorem Iv:dh X (compareOp .LtE) (vt λi j=>.bl (decide (i<=j))):=B1 λ_ _ _ _ _ _ _ q=>le_int q
theorem D9:dh X (compareOp .Gt) (vt λi j=>.bl (decide (j<i))):=B1 λ_ _ _ _ _ _ _ q=>gt_int q
theorem yU:dh X (compareOp .GtE) (vt λi j=>.bl (decide (j<=i))):=B1 λ_ _ _ _ _ _ _ q=>ge_int q
theorem xo:dh X (compareOp .In) (λx y H Q=>∃i j,x=.str i/\y=.str j/\Q (.bl (!(Builtin.Str.occurrences j i 0 j.length 1).isEmpty)) H):=by
 intro pins s σ H x y v u Q I rx ry h;obtain⟨i,j,rfl,rfl,q⟩:=h;obtain⟨t,rfl⟩:=rx;obtain⟨t',rfl⟩:=ry;exact in_str (a_ I q rfl)
theorem eG:dh X (compareOp .Is) (λx y H Q=>y=.aX/\Q (.bl (decide (x=.aX))) H):=by
 intro pins s σ H x y v u Q I rx ry h;obtain⟨rfl,q⟩:=h;cases ry;refine is_none_gen (a_ I q ?_)
 cases x<;>first
  | (cases rx;rfl)
  | (obtain⟨t,rfl⟩:=rx;rfl)
theorem jR:dh X (compareOp .IsNot) (λx y H Q=>y=.aX/\Q (.bl (!decide (x=.aX))) H):=by
 intro pins s σ H x y v u Q I rx ry h;obtain⟨rfl,q⟩:=h;cases ry;refine isnot_none_gen (a_ I q ?_)
 cases x<;>first
  | (cases rx;rfl)
  | (obtain⟨t,rfl⟩:=rx;rfl)
theorem dh.or{r':R2}(h:dh X f r)(h':dh X f r'):dh X f (λx y H Q=>r x y H Q\/r' x y H Q):=by
 intro pins s σ H x y v u Q I rx ry q;rcases q with q|q
 ·exact h pins s σ H x y v u Q I rx ry q
 ·exact h' pins s σ H x y v u Q I rx ry q
theorem C8{op:CmpOp}(ho:dh X (compareOp op) r)(ha:PE X a ta)(hb:PE X b tb)(hm:behindInMarks op b=false):PE X (.Compare a [op] [b] pos) (xQ r ta tb):=by
 intro pins s σ H Q I h;exact wpAny_Compare1 (FI ha hb I h λv u s2 x y H2 I2 rx ry q=>ho pins s2 σ H2 x y v u Q I2 rx ry q) hm
def p6(t:TE):TT:=λσ H Q=>t σ H λx H'=>∃k,x=.bl k/\Q k H'
theorem BY{op:CmpOp}(ho:dh X (compareOp op) r)(ha:PE X a ta)(hb:PE X b tb)(hm:behindInMarks op b=false):PT X (.Compare a [op] [b] pos) (p6 (xQ r ta tb)):=by
 intro pins s σ H Q I h;refine wpAny_isTrue_Compare1 (bZ (ha pins s σ H _ I h) λv s1 ⟨x,H1,I1,r1,q1⟩=>bZ (hb pins s1 σ H1 _ I1 q1) λu s2 ⟨y,H2,I2,r2,q2⟩=>
  bZ (ho pins s2 σ H2 x y v u _ I2 r1 r2 q2) λc s3 ⟨z,H3,I3,r3,k,e,q3⟩=>?_) hm
 subst e;cases r3;exact Nu ⟨H3,I3,q3⟩
noncomputable def jX(r r':R2)(ta tb tc:TE):TE:=λσ H Q=>ta σ H λx H1=>tb σ H1 λy H2=>r x y H2 λz H3=>∃k,z=.bl k /\
 (if k=true then tc σ H3 λw' H4=>r' y w' H4 Q else Q (.bl false) H3)
theorem xU{op op':CmpOp}{r':R2}(ho:dh X (compareOp op) r)(ho':dh X (compareOp op') r')(ha:PE X a ta)(hb:PE X b tb)(hc:PE X c tc)
  (hm:autoParam (lastMarks [op,op'] [b,c]=false) ℜ5):PE X (.Compare a [op,op'] [b,c] pos) (jX r r' ta tb tc):=by
 intro pins s σ H Q I h;refine Compare_chain (bZ (ha pins s σ H _ I h) λv s1 ⟨x,H1,I1,r1,q1⟩=>chain_link (bZ (hb pins s1 σ H1 _ I1 q1) λu s2 ⟨y,H2,I2,r2,q2⟩=>
  bZ (ho pins s2 σ H2 x y v u _ I2 r1 r2 q2) λd s3 ⟨z,H3,I3,r3,k,e,q3⟩=>?_)) hm
 subst e;cases r3;refine Nu ?_
 cases k with
 |false=>exact ite_ff ⟨.bl false,H3,I3,rfl,q3⟩
 |true=>exact ite_tt (chain_last (bZ (hc pins s3 σ H3 _ I3 q3) λw' s4 ⟨z',H4,I4,r4,q4⟩=>ho' pins s4 σ H4 y z' u w' Q I4 r2 r4 q4))
noncomputable def Ax(K:PJ)(x:V)(H:Hp)(k:Bool):Prop:=
 match x with
 |.aX=>k=false
 |.bl b=>k=b
 |.int i=>k=(i != 0)
 |.str y=>y.length<=sizeLine/\k=((y.length:Int) != 0)
 |.qV y=>y.size<=sizeLine/\k=((y.size:Int) != 0)
 |.ref p=>(∃xs,bB K H p xs/\k=!xs.isEmpty)\/(∃xs,aY K H p xs/\k=!xs.isEmpty)\/∃kvs,H p=some (.dK kvs)/\k=!kvs.isEmpty
 |_=>False
theorem sd{κ:Type}{kvs:List (κ×V)}{vs:List (κ×Value)}(r:KV kvs vs):(!vs.isEmpty)=!kvs.isEmpty:=by
 cases r<;>rfl
theorem kH{its:List Value}(r:Vals xs its):(!its.toArray.isEmpty)=!xs.isEmpty:=by
 cases r<;>simp
theorem i_:(sizeLine:Nat)<2^63:=by rw[LO];decide
theorem FF:Jg X (λx H Q=>∃k,Ax X.K x H k/\Q k H):=by
 intro pins s σ H x v Q I rx h;obtain⟨k,e,q⟩:=h;have hl:=i_;have hs:sizeLine=16777216:=LO
 cases x with
 |aX =>
  cases rx;have e':k=false:=e;subst e';exact truthy_none ⟨H,I,q⟩
 |bl b =>
  cases rx;have e':k=b:=e;subst e';exact Nu ⟨H,I,q⟩
 |int i =>
  obtain⟨t,rfl⟩:=rx;have e':k=(i != 0):=e;subst e';exact PySem.P.truthy_int ⟨H,I,q⟩
 |str y =>
  obtain⟨t,rfl⟩:=rx;obtain⟨hy,e'⟩:y.length<=sizeLine/\k=((y.length:Int) != 0):=e;subst e';exact PySem.P.truthy_str (by lia) ⟨H,I.tok _,q⟩
 |qV y =>
  obtain⟨t,rfl⟩:=rx;obtain⟨hy,e'⟩:y.size<=sizeLine/\k=((y.size:Int) != 0):=e;subst e';exact PySem.W.truthy_bytes (by lia) ⟨H,I.tok _,q⟩
 |ref p =>
  cases rx;have e':(∃xs,bB X.K H p xs/\k=!xs.isEmpty)\/(∃xs,aY X.K H p xs/\k=!xs.isEmpty)\/∃kvs,H p=some (.dK kvs)/\k=!kvs.isEmpty:=e;rcases e' with ⟨xs,hx,e'⟩|⟨xs,hx,e'⟩|⟨kvs,hx,e'⟩
  ·subst e';obtain⟨its,r,pl,hz⟩:=I.list hx;have hlen:=r.length;exact wpAny_truthy_list pl.isList (by simp only[Kh];lia) ⟨H,I.tok _,by rw[kH r];exact q⟩
  ·subst e';obtain⟨its,r,pl,hz⟩:=I.tuple hx;have hlen:=r.length;exact truthy_tuple pl (by simp only[Kh];lia) ⟨H,I.tok _,by rw[kH r];exact q⟩
  ·subst e';obtain⟨hz,hS,vs,r,m⟩:kvs.length<=sizeLine/\(p == sysModules)=false/\∃vs,KV kvs vs/\s.heap.DictOf (cz X.prog X.w) p vs:=I.ba p _ hx;have hlen:kvs.length=vs.length:=Paired.length r;exact wpAny_truthy_dict hS m (by lia) ⟨H,I.tok _,by rw[sd r];exact q⟩
 |_=>exact (show False from e).elim
theorem zg(ha:PE X a ta)(he:∀whole,isTrue a X.env whole=(do let v <- whole;standAt a.pos;holding [v] (truthy v))):
  PT X a (λσ H Q=>ta σ H λx H'=>∃k,Ax X.K x H' k/\Q k H'):=by
 intro pins s σ H Q I h;exact isTrue_plain (bZ (ha pins s σ H _ I h) λv s1 ⟨x,H1,I1,r1,q1⟩=>FF pins s1 σ H1 x v Q I1 r1 q1) (he _)
theorem kN:dh X (binaryOp .Add) (λx y H Q=>∃i j,x=.str i/\y=.str j/\i.length+j.length<=sizeLine/\Q (.str (i++j)) H):=by
 intro pins s σ H x y v u Q I rx ry h;obtain⟨i,j,rfl,rfl,hz,q⟩:=h;obtain⟨t,rfl⟩:=rx;obtain⟨t',rfl⟩:=ry;exact add_str (λt' tk=>⟨.str (i++j),H,I.tok _,⟨_,rfl⟩,q⟩) hz
theorem vals1{x:V}(r:Vals [x] us):∃u,us=[u]/\RelV x u:=by
 cases r with
 |cons r1 r2=>cases r2;exact⟨_,rfl,r1⟩
theorem vals2{x y:V}(r:Vals [x,y] us):∃u w',us=[u,w']/\RelV x u/\RelV y w':=by
 cases r with
 |cons r1 r2 =>
  cases r2 with
  |cons r3 r4=>cases r4;exact⟨_,_,rfl,r1,r3⟩
theorem zQ:bE X (.builtin "abs") (λxs H Q=>∃i,xs=[.int i]/\Q (.int (if i<0 then -i else i)) H):=by
 intro pins s σ H xs us Q I r h;obtain⟨i,rfl,q⟩:=h;obtain⟨u,rfl,t,rfl⟩:=vals1 r;exact call_abs_int λu tk=>⟨.int (if i<0 then -i else i),H,I.tok _,⟨_,rfl⟩,q⟩
theorem wR(hc:X.calm=true):bE X (.builtin "min") (λxs H Q=>∃i j,xs=[.int i,.int j]/\Q (.int (if j<i then j else i)) H):=by
 intro pins s σ H xs us Q I r h;obtain⟨i,j,rfl,q⟩:=h;obtain⟨u,w',rfl,⟨t,rfl⟩,⟨t',rfl⟩⟩:=vals2 r;refine min_two_ints (I.ok.hd hc) λh' tk k=>⟨_,H,I.kept k,?_,q⟩;by_cases hj:j<i
 ·rw[Kj hj,Kj hj];exact⟨_,rfl⟩
 ·rw[Ki hj,Ki hj];exact⟨_,rfl⟩
theorem mQ:bE X (.type "int") (λxs H Q=>(∃i,xs=[.int i]/\Q (.int i) H)\/∃k,xs=[.bl k]/\Q (.int (if k then 1 else 0)) H):=by
 intro pins s σ H xs us Q I r h;rcases h with ⟨i,rfl,q⟩|⟨k,rfl,q⟩
 ·obtain⟨u,rfl,t,rfl⟩:=vals1 r;exact call_int_int ⟨.int i,H,I,⟨_,rfl⟩,q⟩
 ·obtain⟨u,rfl,r1⟩:=vals1 r;cases r1;exact call_int_bool ⟨.int (if k then 1 else 0),H,I.tok _,⟨_,rfl⟩,q⟩
theorem oH:bE X (.type "str") (λxs H Q=>∃i,xs=[.int i]/\i.natAbs.log2<1920/\Q (.str (toString i)) H):=by
 intro pins s σ H xs us Q I r h;obtain⟨i,rfl,hz,q⟩:=h;obtain⟨u,rfl,t,rfl⟩:=vals1 r;exact PySem.P.str_of_int hz ⟨.str _,H,I.tok _,⟨_,rfl⟩,q⟩
noncomputable def Hk(K:PJ)(x:V)(H:Hp)(n:Nat):Prop:=
 match x with
 |.str y=>y.length<=sizeLine/\n=y.length
 |.qV y=>y.size<=sizeLine/\n=y.size
 |.ref p=>(∃xs,bB K H p xs/\n=xs.length)\/∃xs,aY K H p xs/\n=xs.length
 |_=>False
theorem iO:bE X (.builtin "len") (λxs H Q=>∃x n,xs=[x]/\Hk X.K x H n/\Q (.int n) H):=by
 intro pins s σ H xs us Q I r h;obtain⟨x,n,rfl,e,q⟩:=h;obtain⟨u,rfl,rx⟩:=vals1 r;have hl:=i_;have hs:sizeLine=16777216:=LO
 cases x with
 |str y =>
  obtain⟨t,rfl⟩:=rx;obtain⟨hy,e'⟩:y.length<=sizeLine/\n=y.length:=e;subst e';exact len_str (by lia) ⟨.int _,H,I.tok _,⟨_,rfl⟩,q⟩
 |qV y =>
  obtain⟨t,rfl⟩:=rx;obtain⟨hy,e'⟩:y.size<=sizeLine/\n=y.size:=e;subst e';exact PySem.W.len_bytes (by lia) ⟨.int _,H,I.tok _,⟨_,rfl⟩,q⟩
 |ref p =>
  cases rx;have e':(∃xs,bB X.K H p xs/\n=xs.length)\/∃xs,aY X.K H p xs/\n=xs.length:=e;rcases e' with ⟨xs,hx,e'⟩|⟨xs,hx,e'⟩
  ·subst e';obtain⟨its,r',pl,hz⟩:=I.list hx;have hlen:=r'.length;exact Calls.call_len_list pl.isList (by simp only[Kh];lia) ⟨.int xs.length,H,I.tok _,⟨_,by simp only[Kh];rw[hlen]⟩,q⟩
  ·subst e';obtain⟨its,r',pl,hz⟩:=I.tuple hx;have hlen:=r'.length;exact len_tuple pl (by simp only[Kh];lia) ⟨.int xs.length,H,I.tok _,⟨_,by simp only[Kh];rw[hlen]⟩,q⟩
 |_=>exact (show False from e).elim
end
structure rE (h:Heap) (x dx C:Addr) (mA:Str->Option Value):Prop where
 obj:h.get? x=some (PySem.W.instObj C dx)
 ns:h.Ns1 dx mA
 ne:dx≠x
theorem xa{dx:Addr}(n:h.Ns1 dx mA):∃od,h.get? dx=some od/\∀name,PySem.W.lookIn name od=some (mA name):=by
 obtain⟨o,es,ep,ho,hd,hk,_,hm⟩:=n;refine⟨o,ho,λname=>?_⟩;have e:=hm name;unfold nsFind findBy at e;rw[<- Array.find?_toList] at e;unfold PySem.W.lookIn;rw[hd];dsimp only;split
 ·rename_i y q;rw[q] at e;exact K_ some e
 ·rename_i q;rw[q] at e;have a:es.toList.any (·.refKey)=false:=by
   rw[List.any_eq_false];intro y hy;obtain⟨z,t,hkey⟩:=hk y (Array.mem_toList_iff.mp hy);simp[DictEntry.refKey,hkey]
  have a':¬ es.toList.any (·.refKey)=true:=by rw[a];exact Kx
  rw[Ki a'];exact K_ some e
theorem rE.look{x dx:Addr}(I:rE h x dx C mA):∃od,PySem.W.InstAt h x (PySem.W.instObj C dx) C (some od)/\∀name,PySem.W.lookIn name od=some (mA name):=
 let ⟨od,ho,hl⟩:=xa I.ns
 ⟨od,⟨I.obj,rfl,rfl,ho⟩,hl⟩
section
variable {prog:Program} {w:World} {A:Around} {E:Value->Shared->Prop} {s:Shared} {K:PJ} {x dx C f:Addr} {mA:Str->Option Value} {name:Str} {v:Value}
theorem get_map{expr:Bool}(X:K.In s.heap)(I:rE s.heap x dx C mA)(hg:PySem.W.plainGet K C name=true)(hh:PySem.W.hasDictIn K C=true)
  (ha:PySem.W.findIn K (.ref C) name=some none) (hv:mA name=some v) (hv':PySem.W.handedIn v=true) (h:Q v {s with toks:=s.toks+1}) :
  wpAny (model prog w) A (getAttr (.ref x) name expr) Q E s:=by
 obtain⟨od,J,hl⟩:=I.look;exact PySem.W.get_value X J (PySem.W.plainGet_of hg).1 (PySem.W.findObj_own hh ha rfl (by rw[hl,hv])) hv' h
theorem zc{Q:Value×List Value->Shared->Prop}(X:K.In s.heap)(I:rE s.heap x dx C mA)(hg:PySem.W.plainGet K C name=true)
  (hf:PySem.W.findIn K (.ref C) name=some (some (.ref f))) (ht:PySem.W.isFn K (.ref f)=true) (hv:mA name=none) (h:Q (.ref f,[.ref x]) s) :
  wpAny (model prog w) A (getMethod (.ref x) name pl) Q E s:=by
 obtain⟨od,J,hl⟩:=I.look;exact PySem.W.method_fn X J (PySem.W.plainGet_of hg).1 (PySem.W.plainGet_of hg).2 hf (MV.mp ht) (by show (PySem.W.lookIn name od).map (·.isSome)=some false;rw[hl,hv];rfl) h
theorem BP{ns:List Str}{Q:Unit->Shared->Prop}(X:K.In s.heap)(I:rE s.heap x dx C mA)
  (hs:PySem.W.findIn K (.ref C) "__setattr__"=some (some (.builtin "object.__setattr__"))) (hp:PySem.W.plainOver K C=true) (ht:PySem.W.takerIn K C name=some none) (hh:PySem.W.hasDictIn K C=true)
  (hw:PySem.Within mA ns) (hsz:ns.length<=sizeLine)
  (h:∀h',rE h' x dx C (λy=>if y=name then some v else mA y)->Heap.SameBut dx s.heap h'->Q () {s with heap:=h',toks:=s.toks+2}) :
  wpAny (model prog w) A (setAttr (.ref x) name v) Q E s:=by
 obtain⟨od,J,hl⟩:=I.look;refine PySem.W.set_plain X J hs (PySem.W.osa_open (s:={s with toks:=s.toks+1}) (r:=none) X J hp ht λb=>?_)
 obtain⟨cd,hc,hd'⟩:=PySem.W.any_some hh;have hx:s.heap.get? x=some ⟨.ref C,some dx,.plain,#[]⟩:=I.obj;refine Kb (Ks (Kb (Kb (wpAny_loadPart hx (Kb (PySem.W.Looks.here (s:={s with toks:=s.toks+1}) (PySem.W.looks_clsIn X hc) ?_))))))
 rw[hd'];refine Ks (a:=some dx) (Kb (Ks (Kb ?_)));refine wpAny_nsSet1 (s:={s with toks:=s.toks+1}) I.ns λh' hn2 hs2=>?_
 obtain⟨oD,esD,epD,hoD,hdD,hcD⟩:=hn2.count (PySem.Within.cons name v hw);refine Kb (wpAny_lookBehind hoD (by rw[hdD];exact pastItsLine_dict (Kn hcD (by rw[Kq];lia))) ?_)
 exact Ks (h _ ⟨(hs2.2 _ (L0 I.ne)).trans I.obj,hn2,I.ne⟩ hs2)
theorem A8{R:Result->Shared->Prop}{vs:List Value}(X:K.In s.heap)(hm:PySem.W.makesIn K C=true)
  (hi:PySem.W.findIn K (.ref C) "__init__"=some (some (.ref f))) (hf:PySem.W.typeIn K (.ref f)=some (.type "function"))
  (h:codeAny (model prog w) (A.under (.builtin "type.__call__" ⟨.ref C::vs,kw⟩)) (.call (.ref f) ⟨.ref (s.heap.objs.size+1)::vs,kw⟩) (PySem.W.InitBack (s.heap.objs.size+1) R)
   {s with heap:=(s.heap.push PySem.W.emptyDict).push (PySem.W.instObj C s.heap.objs.size)}) :
  codeAny (model prog w) A (.call (.ref C) ⟨vs,kw⟩) R s:=by
 obtain⟨hh,g,d,t,os⟩:=s;exact PySem.W.make_core (PySem.W.makes_of X hm) (PySem.W.looks_findIn X hi) (λself=>PySem.W.bind_fn X self hf) (.inl rfl) h
end
noncomputable def dU(f:Str)(v:V):List (Str×V)->List (Str×V)
 |[]=>[(f,v)]
 | (g,x)::r=>if g=f then (g,v)::r else (g,x)::dU f v r
theorem jv(f g:Str)(v:V):∀fs:List (Str×V),(dU f v fs).lookup g=if g=f then some v else fs.lookup g
 |[]=>by
  show List.lookup g [(f,v)]=_;by_cases h:g=f
  ·have hb:(g == f)=true:=MV.mpr h;simp only[List.lookup,hb,Kj h]
  ·have hb:(g == f)=false:=KO.mpr h;simp only[List.lookup,hb,Ki h]
 | (k,x)::r=>by
  have ih:=jv f g v r;rw[show dU f v ((k,x)::r)=(if k=f then (k,v)::r else (k,x)::dU f v r) from rfl]
  by_cases hk:k=f
  ·rw[Kj hk];by_cases h:g=k
   ·have hb:(g == k)=true:=MV.mpr h;simp only[List.lookup,hb,Kj (h.trans hk)]
   ·have hb:(g == k)=false:=KO.mpr h;simp only[List.lookup,hb,Ki (λe:g=f=>h (e.trans hk.symm))]
  ·rw[Ki hk];by_cases h:g=k
   ·have hb:(g == k)=true:=MV.mpr h;simp only[List.lookup,hb,Ki (λe:g=f=>hk (h.symm.trans e))]
   ·have hb:(g == k)=false:=KO.mpr h;simp only[List.lookup,hb];exact ih
theorem jm(f:Str)(v:V):∀fs:List (Str×V),f∈(dU f v fs).map (·.1)/\∀g,g∈fs.map (·.1)->g∈(dU f v fs).map (·.1)
 |[]=>⟨by simp[dU],λg h=>by simp at h⟩
 | (k,x)::r=>by
  obtain⟨i1,i2⟩:=jm f v r;rw[show dU f v ((k,x)::r)=(if k=f then (k,v)::r else (k,x)::dU f v r) from rfl]
  by_cases hk:k=f
  ·rw[Kj hk];subst hk;exact⟨by simp,λg h=>by simpa using h⟩
  ·rw[Ki hk];refine⟨?_,λg h=>?_⟩
   ·rw[K9];exact Ko _ i1
   ·rw[K9] at h ⊢;rcases Kl.mp h with e|e
    ·exact Kl.mpr (.inl e)
    ·exact Ko _ (i2 g e)
theorem j7(f:Str)(v:V):∀fs:List (Str×V),(dU f v fs).length<=fs.length+1
 |[]=>by simp[dU]
 | (k,x)::r=>by
  have ih:=j7 f v r;rw[show dU f v ((k,x)::r)=(if k=f then (k,v)::r else (k,x)::dU f v r) from rfl]
  by_cases hk:k=f
  ·rw[Kj hk,Kq,Kq];lia
  ·rw[Ki hk,Kq,Kq];lia
theorem hJ.some_of{v:V}{o:Option Value}(r:hJ (some v) o):∃u,o=some u/\RelV v u:=by
 cases o with
 |none=>exact (show False from r).elim
 |some u=>exact⟨u,rfl,r⟩
theorem hJ.none_of{o:Option Value}(r:hJ none o):o=none:=by
 cases o with
 |none=>rfl
 |some u=>exact (show False from r).elim
theorem wW{v:V}(r:RelV v u):PySem.W.handedIn u=true:=by
 cases v with
 |aX=>cases (show u=Value.none from r);rfl
 |bl b=>cases (show u=Value.bool b from r);rfl
 |int i=>obtain⟨t,e⟩:=(show ∃t,u=Value.int i t from r);cases e;rfl
 |str x=>obtain⟨t,e⟩:=(show ∃t,u=Value.str x t from r);cases e;rfl
 |qV b=>obtain⟨t,e⟩:=(show ∃t,u=Value.bytes b t from r);cases e;rfl
 |IH b=>obtain⟨t,e⟩:=(show ∃t,u=Value.float b t from r);cases e;rfl
 |ref a=>cases (show u=Value.ref a from r);rfl
 |ty n=>cases (show u=Value.type n from r);rfl
section
variable {P:Program} {w:World} {H H':Hp} {h h':Heap} {a C dx:Addr} {fs fs':List (Str×V)}
theorem nv(ba:iz P w H h)(e:H a=some (.ins C dx fs)):∃mA,rE h a dx C mA/\(∀f,hJ (fs.lookup f) (mA f))/\PySem.Within mA (fs.map (·.1))/\fs.length<=1000/\H dx=some (.own a):=by
 obtain⟨d,z,ne,ob,mA,n,r,q⟩:=(show bQ P w H h a (.ins C dx fs) from ba a _ e);exact⟨mA,⟨ob,n,ne⟩,r,q,z,d⟩
end
structure mh (K:PJ) (C:Addr):Prop where
 pg:PySem.W.plainGet K C Str.empty=true
 hd:PySem.W.hasDictIn K C=true
 po:PySem.W.plainOver K C=true
 sa:PySem.W.findIn K (.ref C) "__setattr__"=some (some (.builtin "object.__setattr__"))
theorem mh.get(c:mh K C)(f:Str):PySem.W.plainGet K C f=true:=c.pg
def bL(K:PJ)(C:Addr)(f:Str):Prop:=PySem.W.findIn K (.ref C) f=some none
theorem bL.Ig{f:Str}(n:bL K C f):PySem.W.takerIn K C f=some none:=by
 unfold PySem.W.takerIn;rw[show PySem.W.findIn K (.ref C) f=some none from n];rfl
structure Meth (K:PJ) (C:Addr) (m:Str) (f:Addr):Prop where
 at_:PySem.W.findIn K (.ref C) m=some (some (.ref f))
 fn:PySem.W.isFn K (.ref f)=true
 kp:PySem.W.keepIn K (.ref f)=true
section
variable {X:Cx} {pins:List (Addr×Obj)} {σ:St} {H:Hp} {s:Shared} {a C dx:Addr} {fs:List (Str×V)} {f:Str} {v:V} {A:Around} {E:Value->Shared->Prop}
theorem tm{b:Bool}(I:Inv X pins σ H s)(e:H a=some (.ins C dx fs))(c:mh X.K C)(n:bL X.K C f)(l:fs.lookup f=some v)
  (h:∀u s',Inv X pins σ H s'->RelV v u->Q u s'):wpAny (model X.prog X.w) A (getAttr (.ref a) f b) Q E s:=by
 obtain⟨mA,O,r,_,_,_⟩:=nv I.ba e;obtain⟨u,hu,ru⟩:=hJ.some_of (v:=v) (o:=mA f) (by rw[<- l];exact r f)
 exact get_map I.pM O (c.get f) c.hd n hu (wW ru) (h u _ (I.tok _) ru)
theorem kf{m:Str}{g:Addr}{Q:Value×List Value->Shared->Prop}(I:Inv X pins σ H s)(e:H a=some (.ins C dx fs))(c:mh X.K C)(k:Meth X.K C m g)(l:fs.lookup m=none)
  (h:Q (.ref g,[.ref a]) s):wpAny (model X.prog X.w) A (getMethod (.ref a) m pl) Q E s:=by
 obtain⟨mA,O,r,_,_,_⟩:=nv I.ba e;have hn:mA m=none:=hJ.none_of (by rw[<- l];exact r m)
 exact zc I.pM O (c.get m) k.at_ k.fn hn h
theorem rk{y:V}{Q:Unit->Shared->Prop}(I:Inv X pins σ H s)(e:H a=some (.ins C dx fs))(c:mh X.K C)(n:bL X.K C f)(hl:fs.length<1000)(ry:RelV y u)
  (h:∀s',Inv X pins σ (upd H a (.ins C dx (dU f y fs))) s'->Q () s'):wpAny (model X.prog X.w) A (setAttr (.ref a) f u) Q E s:=by
 obtain⟨mA,O,r,wi,_,ho⟩:=nv I.ba e;have hz:(fs.map (·.1)).length<=sizeLine:=by rw[Kc,LO];lia
 refine BP I.pM O c.sa c.po n.Ig c.hd wi hz λh' O' sb=>h _ ?_;have hd:∃o,h'.get? dx=some o:=let ⟨o,_,_,e',_⟩:=O'.ns;⟨o,e'⟩
 refine I.write (x:=a) (e:=dx) (by rw[e];exact True.intro) (.inr ho) (λb q hb z=>(sb.2 b hb).trans z) hd ?_
 refine⟨by rw[ae O.ne];exact ho,?_,O.ne,O'.obj,_,O'.ns,λg=>?_,λg hg=>?_⟩
 ·have:=j7 f y fs;lia
 ·show hJ ((dU f y fs).lookup g) (if g=f then some u else mA g)
  rw[jv];by_cases q:g=f
  ·rw[Kj q,Kj q];exact ry
  ·rw[Ki q,Ki q];exact r g
 ·by_cases q:g=f
  ·rw[q];exact (jm f y fs).1
  ·refine (jm f y fs).2 g (wi g λz=>hg ?_);show (if g=f then some u else mA g)=none
   rw[Ki q];exact z
theorem Inv.made(I:Inv X pins σ H s):Inv X pins σ (upd (upd H s.heap.objs.size (.own (s.heap.objs.size+1))) (s.heap.objs.size+1) (.ins C s.heap.objs.size []))
  {s with heap:=(s.heap.push PySem.W.emptyDict).push (PySem.W.instObj C s.heap.objs.size)}:=by
 have e1:(s.heap.push PySem.W.emptyDict).get? s.heap.objs.size=some PySem.W.emptyDict:=Ky s.heap rfl;have e2:((s.heap.push PySem.W.emptyDict).push (PySem.W.instObj C s.heap.objs.size)).get? (s.heap.objs.size+1)=some (PySem.W.instObj C s.heap.objs.size):=by
  have:=Ky (s.heap.push PySem.W.emptyDict) (o:=PySem.W.instObj C s.heap.objs.size) rfl
  rwa [Lu] at this
 have e3:(s.heap.push PySem.W.emptyDict).Ns s.heap.objs.size (λ_=>none):=⟨PySem.W.emptyDict,#[],_,e1,rfl,(λe he=>absurd he (by simp)),λ_=>rfl⟩
 have I1:=I.laid (a:=s.heap.objs.size) (o:=.own (s.heap.objs.size+1)) (h':=s.heap.push PySem.W.emptyDict) (t':=s.toks) (λb u q=>Kg _ q) (Kk _) ⟨_,e1⟩;refine I1.laid (a:=s.heap.objs.size+1) (o:=.ins C s.heap.objs.size []) (t':=s.toks) (λb u q=>Kg _ q) (OD (Lu _ _)) ?_;have ne:s.heap.objs.size≠s.heap.objs.size+1:=KA (MW _);refine⟨by rw[ae ne,aa],Kz _,ne,e2,λ_=>none,(Heap.Ns1.of_empty e3).at λo q=>Kg _ q,λ_=>True.intro,λy hy=>absurd rfl hy⟩
theorem BZ{prog:Program}{env:Env}{f:Str}{pos:Pos}{s:Shared}(hb:attributeBase e f env (eval e env)=eval e env)
  (h:wpAny (model prog w) A (eval e env) (λo s₁=>wpAny (model prog w) A (getAttr o f true) Q E s₁) E s):wpAny (model prog w) A (eval (.Attribute e f pos) env) Q E s:=
 Attribute_any_ h (by rw[arm_eval_Attribute,hb])
end
noncomputable def AK(K:PJ)(ta:TE)(f:Str):TE:=λσ H Q=>ta σ H λx H1=>∃a C dx fs v,x=.ref a/\H1 a=some (.ins C dx fs)/\mh K C/\bL K C f/\fs.lookup f=some v/\Q v H1
noncomputable def AR(K:PJ)(ta tv:TE)(f:Str):TS:=λD σ H=>tv σ H λy H1=>ta σ H1 λx H2=>∃a C dx fs,x=.ref a/\H2 a=some (.ins C dx fs)/\mh K C/\bL K C f/\fs.length<1000 /\
 D.nx σ (upd H2 a (.ins C dx (dU f y fs)))
section
variable {X:Cx} {o e value:Expr} {f:Str} {pos pos' tpos:Pos} {ta tv:TE}
theorem FJ(he:PE X e ta)(hb:attributeBase e f X.env (eval e X.env)=eval e X.env):PE X (.Attribute e f pos) (AK X.K ta f):=by
 intro pins s σ H Q I h;refine BZ hb (bZ (he pins s σ H _ I h) λu s1 hq40=>?_);obtain⟨x,H1,I1,rx,a,C,dx,fs,v,ex,ea,c,n,l,q⟩:=hq40;subst ex;obtain rfl:u=Value.ref a:=rx;exact tm I1 ea c n l λu' s2 I2 ru=>⟨v,H1,I2,ru,q⟩
theorem EJ(ha:PE X o ta)(hv:PE X value tv)(hs:swapsWith value (some (.Attribute o f pos')) pos.line X.env=pure false):PS X (.Assign [.Attribute o f pos'] value pos) (AR X.K ta tv f):=by
 intro pins s σ H D I h;refine plainObj_wpAny_Assign_Attribute (bZ (hv pins s σ H _ I h) λu s1 ⟨y,H1,I1,ry,q⟩=>bZ (ha pins s1 σ H1 _ I1 q) λov s2 hq42=>?_) hs;obtain⟨x,H2,I2,rx,a,C,dx,fs,ex,ea,c,n,l,q2⟩:=hq42;subst ex;obtain rfl:ov=Value.ref a:=rx;exact rk I2 ea c n l ry λs3 I3=>⟨σ,_,I3,q2⟩
end
structure bR (k:Nat) (A:Around):Prop where
 hd:A.handled=none
 dp:A.depth+3*k+5<recursionLimit
 un:A.units+16*k+200<cLine
 gd:A.guards=some []
theorem bR.mono{A:Around}(r:bR k A)(h:j<=k):bR j A:=⟨r.hd,by have:=r.dp;lia,by have:=r.un;lia,r.gd⟩
theorem bR.deeper{A:Around}(r:bR (k+1) A)(env:Env):bR k (A.deeper env):=
 ⟨r.hd,by have:=r.dp;show A.depth+1+3*k+5<_;lia,by have:=r.un;show A.units+3+16*k+200<_;lia,r.gd⟩
theorem bR.in1{A:Around}(r:bR (k+1) A):bR k A.in1:=
 ⟨r.hd,by have:=r.dp;show A.depth+3*k+5<_;lia,by have:=r.un;show A.units+1+16*k+200<_;lia,r.gd⟩
theorem sT{A:Around}:(A.under (.builtin "type.__call__" ⟨.ref C::us,kw⟩)).depth=A.depth+1:=by
 first|rfl|simp[Around.under,Code.weight,Code.isCreation,Code.isGuard,Code.isCaller,Code.frames,Code.isFrame,guardIds]
theorem rP{A:Around}:(A.under (.builtin "type.__call__" ⟨.ref C::us,kw⟩)).units=A.units+1:=by
 first|rfl|simp[Around.under,Code.cUnits,Code.frames,Code.isFrame]
theorem bR.make{A:Around}(r:bR (k+1) A)(C:Addr)(us:List Value)(kw:List (Str×Value)):bR k (A.under (.builtin "type.__call__" ⟨.ref C::us,kw⟩)):=
 ⟨r.hd,by have:=r.dp;rw[sT];lia,by have:=r.un;rw[rP];lia,by have h:=r.gd;first|exact h | (simp[Around.under,Code.guards,Code.isGuard,guardIds];exact h)⟩
theorem bR.depth{A:Around}(r:bR k A):A.depth<recursionLimit:=by have:=r.dp;lia
theorem bR.units{A:Around}(r:bR k A):A.units+64<cLine:=by have:=r.un;lia
def ow:TA:=λ_ H Q=>Q [] H
def jw(ta:TE)(tr:TA):TA:=λσ H Q=>ta σ H λx H1=>tr σ H1 λxs H2=>Q (x::xs) H2
section
variable {X:Cx} {e:Expr} {es:List Expr} {te:TE} {t:TA} {pos:Pos}
theorem yQ:PA X [] ow:=λ_ _ _ _ H Q I h=>Calls.spliced_nil ⟨[],H,I,.nil,h⟩
theorem u9(ha:PE X e te)(hr:PA X es t)(hs:autoParam (starEach (e::es) X.env=(false,eval e X.env)::starEach es X.env) ℜ0):PA X (e::es) (jw te t):=by
 intro pos pins s σ H Q I h;rw[hs];show wpAny _ _ (spliced ((false,eval e X.env)::backTo pos (starEach es X.env))) _ _ s;refine Calls.spliced_cons (bZ (ha pins s σ H _ I h) λu s1 hq46=>?_);obtain⟨x,H1,I1,r1,q1⟩:=hq46;exact bZ (hr pos pins s1 σ H1 _ I1 q1) λus s2 ⟨xs,H2,I2,r2,q2⟩=>⟨x::xs,H2,I2,.cons r1 r2,q2⟩
def yi(t:TA):TE:=λσ H Q=>t σ H λxs H1=>xs.length<=sizeLine/\∀p,H1 p=none->Q (.ref p) (upd H1 p (.tup xs))
def zI(t:TA):TE:=λσ H Q=>t σ H λxs H1=>xs.length<=sizeLine/\∀p,H1 p=none->Q (.ref p) (upd H1 p (.lst xs))
theorem Ey{x1}(h:PA X es t):PE X (.Tuple es x1 pos) (yi t):=by
 intro pins s σ H Q I hq;refine wpAny_Tuple_spliced (bZ (h pos pins s σ H _ I hq) λus s1 ⟨xs,H1,I1,r,z,q⟩=>⟨by rw[<- r.length];exact z,?_⟩)
 have hf:H1 s1.heap.objs.size=none:=I1.ba.fresh (Kk _);refine⟨.ref s1.heap.objs.size,upd H1 s1.heap.objs.size (.tup xs),I1.laid (t':=s1.toks) (λb u e=>Kg _ e) (Kk _) ?_,rfl,q _ hf⟩;exact⟨z,us,r,⟨_,Ky _ rfl,rfl,_,rfl,rfl⟩⟩
theorem FL(h:PA X es t):PE X (.List es pos) (zI t):=by
 intro pins s σ H Q I hq;refine wpAny_List_spliced (bZ (h pos pins s σ H _ I hq) λus s1 ⟨xs,H1,I1,r,z,q⟩=>⟨by rw[<- r.length];exact z,?_⟩)
 have hf:H1 s1.heap.objs.size=none:=I1.ba.fresh (Kk _);refine⟨.ref s1.heap.objs.size,upd H1 s1.heap.objs.size (.lst xs),I1.laid (t':=s1.toks) (λb u e=>Kg _ e) (Kk _) ?_,rfl,q _ hf⟩;exact⟨z,us,0,r,Ky _ rfl⟩
end
abbrev Sp:=List V->Hp->VK->XK->Prop
abbrev qk:=List Env->Hp->Shared->XK->Value->Shared->Prop
variable{CX:qk}
structure qZ (P:Program) (w:World) (K:PJ) (mg:Str->Option Value) (base:Heap) (A:Around) (outer:List Env) (s:Shared) (H:Hp):Prop where
 frames:A.frames=some outer
 mod:Mod K mg base
 bs:∀b o,base.get? b=some o->s.heap.get? b=some o/\H b=none
 AV:base.objs.size<=s.heap.objs.size
 jC:s.heap.FunFrames base outer
 Fm:∀b∈zT outer,H b=none
 ba:iz P w H s.heap
 bare:AllBare s.gens
 tabs:TabsOk K H
noncomputable def CE(outer:List Env)(P:Program)(w:World)(H:Hp)(s:Shared)(Q:VK)(u:Value)(s':Shared):Prop:=
 ∃v H',s'.os=s.os/\AllBare s'.gens/\Un (zT outer) [] H H' s.heap s'.heap/\iz P w H' s'.heap/\RelV v u/\Q v H'
noncomputable def CR(CX:qk)(outer:List Env)(P:Program)(w:World)(H:Hp)(s:Shared)(Q:VK)(E:XK)(r:Result)(s':Shared):Prop:=
 match r with
 |.ok (.ret u)=>CE outer P w H s Q u s'
 |.ok _=>False
 |.error e=>CX outer H s E e s'
structure cP (P:Program) (w:World) (K:PJ) (mg:Str->Option Value) (base:Heap) (CX:qk) (k:Nat) (f:Addr) (fd:FuncData) (ps:List Str) (sp:Sp):Prop where
 len:∀vs H Q E,sp vs H Q E->vs.length=ps.length
 run:∀(A:Around) (outer:List Env) (s:Shared) (H:Hp) (args:Args) (us:List Value) (vs:List V) (Q:VK) (E:XK),bR k A->qZ P w K mg base A outer s H->BindsTo s fd args (ps.zip us)->Vals vs us->sp vs H Q E ->
  codeAny (model P w) A (.call (.ref f) args) (CR CX outer P w H s Q E) s
theorem cP.mono{f:Addr}{ps:List Str}{sp:Sp}(F:cP P w K mg base CX j f fd ps sp)(h:j<=k):
  cP P w K mg base CX k f fd ps sp:=⟨F.len,λA outer s H args us vs Q E hr=>F.run A outer s H args us vs Q E (hr.mono h)⟩
theorem qZ.make{A:Around}{s:Shared}(e:qZ P w K mg base A outer s H)(C:Addr)(us:List Value)(kw:List (Str×Value)):
  qZ P w K mg base (A.under (.builtin "type.__call__" ⟨.ref C::us,kw⟩)) outer s H:=⟨by first|exact e.frames | (simpa[Around.under,Code.envs,Code.isFrame,pushEnvs] using e.frames),e.mod,e.bs,e.AV,e.jC,e.Fm,e.ba,e.bare,e.tabs⟩
section
variable {X:Cx} {pins:List (Addr×Obj)} {σ:St} {H:Hp} {s s':Shared}
theorem Inv.Hy(I:Inv X pins σ H s):qZ X.prog X.w X.K X.mg X.base X.A X.stack s H:=
 ⟨I.ok.frames,I.ok.mod,I.bs,Kn I.ok.AV I.sz,I.stack,I.nK,I.ba,I.bare,I.ok.tabs.un I.base⟩
theorem Inv.after{Q:VK}(I:Inv X pins σ H s)(h:CE X.stack X.prog X.w H s Q u s'):EP X pins σ Q u s':=by
 obtain⟨v,H',os,bare,un,ba,r,q⟩:=h;obtain⟨hh,g,d,t,os'⟩:=s';obtain rfl:os'=s.os:=os;exact⟨v,H',I.call (h':=hh) (g':=g) (d':=d) (t':=t) (ch:=[]) un ba bare (λb z=>absurd z (by simp)),r,q⟩
end
def mO(sp:Sp)(dvs:List V)(E:XK)(t:TA):TE:=λσ H Q=>t σ H λvs H1=>sp (vs++dvs) H1 Q E
noncomputable def k_(C:Addr)(m:Str)(sp:Sp)(dvs:List V)(E:XK)(ta:TE)(t:TA):TE:=λσ H Q=>ta σ H λx H1=>∃a dx fs,x=.ref a/\H1 a=some (.ins C dx fs)/\fs.lookup m=none /\
 t σ H1 λvs H2=>sp (x::(vs++dvs)) H2 Q E
noncomputable def qR(C:Addr)(sp:Sp)(dvs:List V)(E:XK)(t:TA):TE:=λσ H Q=>t σ H λvs H1=>∀x dx,H1 x=none->H1 dx=none->dx≠x ->
 sp (.ref x::(vs++dvs)) (upd (upd H1 dx (.own x)) x (.ins C dx [])) (λv H2=>v=.aX/\Q (.ref x) H2) E
noncomputable def Binds(K:PJ)(fd:FuncData)(ps:List Str)(ds:List Value):Prop:=
 ∀(s:Shared) (us:List Value),K.In s.heap->(us++ds).length=ps.length->BindsTo s fd ⟨us,[]⟩ (ps.zip (us++ds))
theorem Binds.all{ps:List Str}(h:∀us:List Value,us.length=ps.length->bindArgs fd ⟨us,[]⟩=pure (ps.zip us)):Binds K fd ps []:=λs us _ hl=>by
 rw[Lb] at hl ⊢;exact .of_eq (h us hl)
noncomputable def Passes(CX:qk)(X:Cx)(E:XK):Prop:=∀(pins:List (Addr×Obj)) (σ:St) (H:Hp) (s:Shared) (e:Value) (s':Shared),Inv X pins σ H s->CX X.stack H s E e s'->X.xe e s'
section
variable {X:Cx} {CX:qk} {k:Nat} {f C:Addr} {fd:FuncData} {ps:List Str} {sp:Sp} {dvs:List V} {ds:List Value} {E:XK} {x m:Str} {p pos apos:Pos} {e o:Expr} {es:List Expr} {ta:TE} {t:TA}
theorem sv{s:Shared}{Q:VK}{vs:List V}(F:cP X.prog X.w X.K X.mg X.base CX k f fd ps sp)(hr:bR k X.A)(hb:Binds X.K fd ps ds)(hd:Vals dvs ds)(hx:Passes CX X E)
  (I:Inv X pins σ H s) (r:Vals vs us) (h:sp (vs++dvs) H Q E):wpAny (model X.prog X.w) X.A (call (.ref f) us) (EP X pins σ Q) X.xe s:=by
 have r2:Vals (vs++dvs) (us++ds):=r.append hd;have hl:(us++ds).length=ps.length:=by rw[<- r2.length];exact F.len _ _ _ _ h
 refine wpAny_call (PC (F.run X.A X.stack s H ⟨us,[]⟩ (us++ds) (vs++dvs) Q E hr I.Hy (hb s us I.pM hl) r2 h) λr s' hq=>?_)
 cases r with
 |error e=>exact hx pins σ H s e s' I hq
 |ok fl =>
  cases fl with
  |ret u=>exact I.after hq
  |next=>exact False.elim hq
  |brk=>exact False.elim hq
  |cont=>exact False.elim hq
theorem AY(F:cP X.prog X.w X.K X.mg X.base CX k f fd ps sp)(hr:bR k X.A)(hg:Gl X x)(hm:X.mg x=some (.ref f))(hk:PySem.W.keepIn X.K (.ref f)=true)(hb:Binds X.K fd ps ds)(hd:Vals dvs ds)(hx:Passes CX X E)
  (ha:PA X (e::es) t) (hdb:autoParam ((x ==("__debug__":Str))=false) ℜ1) (he:autoParam (starEach (e::es) X.env=(false,eval e X.env)::starEach es X.env) ℜ0) (hpl:autoParam ((backTo pos (starEach es X.env)).any (·.1)=false) ℜ0) :
  PE X (.Call (.Name x p) (e::es) [] pos) (mO sp dvs E t):=by
 intro pins s σ H Q I h;refine MB (oF I hg hm ?_ hdb);refine PySem.W.callWith_K (h₀:=X.base) I.ok.mod.Ip hk (bZ (ha pos pins s σ H _ I h) λus s1 ⟨vs,H1,I1,r,q⟩=>⟨I1.pM,?_⟩) he hpl;exact sv F hr hb hd hx I1 r q
theorem Bn{pl:Sem Bool}(he:PE X o ta)(c:mh X.K C)(hm:Meth X.K C m f)(F:cP X.prog X.w X.K X.mg X.base CX k f fd ps sp)(hr:bR k X.A)(hb:Binds X.K fd ps ds)(hd:Vals dvs ds)(hx:Passes CX X E)(ha:PA X (e::es) t)
  (hst:autoParam (starEach (e::es) X.env=(false,eval e X.env)::starEach es X.env) ℜ0) (hpl:autoParam ((backTo pos (starEach es X.env)).any (·.1)=false) ℜ0)
  (ht:autoParam (eval (.Call (.Attribute o m apos) (e::es) [] pos) X.env=(do
   let ov <- eval o X.env
   standAt apos.atName
   let (f,first) <- holding [ov] (getMethod ov m pl)
   callWith pos f first (backTo pos (starEach (e::es) X.env)) (backToKw pos (keywordEach [] X.env)))) ℜ0) :
  PE X (.Call (.Attribute o m apos) (e::es) [] pos) (k_ C m sp dvs E ta t):=by
 intro pins s σ H Q I h;refine PySem.W.methodCall_KW (pl:=pl) (bZ (he pins s σ H _ I h) λu s1 hq47=>?_) ht;obtain⟨x,H1,I1,rx,a,dx,fs,ex,ea,l,q⟩:=hq47;subst ex;obtain rfl:u=Value.ref a:=rx;refine kf I1 ea c hm l ?_;refine PySem.W.callWith_K (first:=[.ref a]) (h₀:=X.base) I.ok.mod.Ip hm.kp (bZ (ha pos pins s1 σ H1 _ I1 q) λus s2 ⟨vs,H2,I2,r,q2⟩=>⟨I2.pM,?_⟩) hst hpl
 exact sv (us:=.ref a::us) (vs:=.ref a::vs) F hr hb hd hx I2 (.cons rfl r) q2
theorem zp{pl:Sem Bool}(he:PE X o ta)(c:mh X.K C)(hm:Meth X.K C m f)(F:cP X.prog X.w X.K X.mg X.base CX k f fd ps sp)(hr:bR k X.A)(hb:Binds X.K fd ps ds)(hd:Vals dvs ds)(hx:Passes CX X E)
  (ht:autoParam (eval (.Call (.Attribute o m apos) [] [] pos) X.env=(do
   let ov <- eval o X.env
   standAt apos.atName
   let (f,first) <- holding [ov] (getMethod ov m pl)
   callWith pos f first (backTo pos (starEach [] X.env)) (backToKw pos (keywordEach [] X.env)))) ℜ0) :
  PE X (.Call (.Attribute o m apos) [] [] pos) (k_ C m sp dvs E ta ow):=by
 intro pins s σ H Q I h;refine PySem.W.methodCall_KW (pl:=pl) (bZ (he pins s σ H _ I h) λu s1 hq48=>?_) ht;obtain⟨x,H1,I1,rx,a,dx,fs,ex,ea,l,q⟩:=hq48;subst ex;obtain rfl:u=Value.ref a:=rx;refine kf I1 ea c hm l ?_;exact PySem.W.callWith_K0 (first:=[.ref a]) I1.pM hm.kp (sv (us:=[.ref a]) (vs:=[.ref a]) F hr hb hd hx I1 (.cons rfl .nil) q)
structure Mk (K:PJ) (C f:Addr):Prop where
 makes:PySem.W.makesIn K C=true
 init:PySem.W.findIn K (.ref C) "__init__"=some (some (.ref f))
 fn:PySem.W.isFn K (.ref f)=true
 kp:PySem.W.keepIn K (.ref C)=true
theorem AL{s:Shared}{Q:VK}{vs:List V}(M:Mk X.K C f)(F:cP X.prog X.w X.K X.mg X.base CX k f fd ps sp)(hr:bR (k+1) X.A)(hb:Binds X.K fd ps ds)(hd:Vals dvs ds)
  (hx:Passes CX X E) (I:Inv X pins σ H s) (r:Vals vs us)
  (h:∀x dx,H x=none->H dx=none->dx≠x->sp (.ref x::(vs++dvs)) (upd (upd H dx (.own x)) x (.ins C dx [])) (λv H2=>v=.aX/\Q (.ref x) H2) E) :
  wpAny (model X.prog X.w) X.A (call (.ref C) us) (EP X pins σ Q) X.xe s:=by
 have hq:=h (s.heap.objs.size+1) s.heap.objs.size (I.ba.fresh (Ln _)) (I.ba.fresh (Kk _)) (KA (MW _));have I2:=Inv.made (C:=C) I;have r2:Vals (V.ref (s.heap.objs.size+1)::(vs++dvs)) (Value.ref (s.heap.objs.size+1)::(us++ds)):=.cons rfl (r.append hd);have hl:(Value.ref (s.heap.objs.size+1)::us++ds).length=ps.length:=by
  have e:=r2.length;rw[F.len _ _ _ _ hq] at e;exact e.symm
 refine wpAny_call (A8 (f:=f) I.pM M.makes M.init (MV.mp M.fn) (PC (F.run _ X.stack _ _ ⟨Value.ref (s.heap.objs.size+1)::us,[]⟩ (Value.ref (s.heap.objs.size+1)::(us++ds)) _ _ E (hr.make C us [])
  (I2.Hy.make C us []) (hb _ (Value.ref (s.heap.objs.size+1)::us) I2.pM hl) r2 hq) λr s' hq'=>?_))
 cases r with
 |error e=>exact hx pins σ _ _ e s' I2 hq'
 |ok fl =>
  cases fl with
  |ret u =>
   obtain⟨v,H',I3,rv,ev,q3⟩:=I2.after hq';subst ev;exact⟨rv,⟨V.ref (s.heap.objs.size+1),H',I3,rfl,q3⟩⟩
  |next=>exact False.elim hq'
  |brk=>exact False.elim hq'
  |cont=>exact False.elim hq'
theorem CJ(M:Mk X.K C f)(F:cP X.prog X.w X.K X.mg X.base CX k f fd ps sp)(hr:bR (k+1) X.A)(hg:Gl X x)(hm:X.mg x=some (.ref C))(hb:Binds X.K fd ps ds)(hd:Vals dvs ds)(hx:Passes CX X E)
  (ha:PA X (e::es) t) (hdb:autoParam ((x ==("__debug__":Str))=false) ℜ1) (he:autoParam (starEach (e::es) X.env=(false,eval e X.env)::starEach es X.env) ℜ0) (hpl:autoParam ((backTo pos (starEach es X.env)).any (·.1)=false) ℜ0) :
  PE X (.Call (.Name x p) (e::es) [] pos) (qR C sp dvs E t):=by
 intro pins s σ H Q I h;refine MB (oF I hg hm ?_ hdb);refine PySem.W.callWith_K (h₀:=X.base) I.ok.mod.Ip M.kp (bZ (ha pos pins s σ H _ I h) λus s1 ⟨vs,H1,I1,r,q⟩=>⟨I1.pM,?_⟩) he hpl;exact AL M F hr hb hd hx I1 r q
end
noncomputable def PK(X:Cx)(kws:List Keyword)(t:TA):Prop:=
 ∀(pos:Pos) (pins:List (Addr×Obj)) (s:Shared) (σ:St) (H:Hp) (Q:List V->Hp->Prop),Inv X pins σ H s->t σ H Q->wpAny (model X.prog X.w) X.A (evalAll ((backToKw pos (keywordEach kws X.env)).map (·.2))) (AP X pins σ Q) X.xe s
section
variable {X:Cx} {CX:qk} {k:Nat} {f C:Addr} {fd:FuncData} {ps ks:List Str} {sp:Sp} {E:XK} {x m:Str} {p pos apos kpos:Pos} {e o:Expr} {es:List Expr} {kws:List Keyword} {te ta:TE} {t tk:TA} {nm:Option Str}
theorem Eh:PK X [] ow:=λ_ _ _ _ H Q I h=>wpAny_evalAll_nil ⟨[],H,I,.nil,h⟩
theorem By(ha:PE X e te)(hr:PK X kws t):PK X (⟨nm,e,kpos⟩::kws) (jw te t):=by
 intro pos pins s σ H Q I h;show wpAny _ _ (evalAll ((do let v <- eval e X.env;standAt pos;pure v)::(backToKw pos (keywordEach kws X.env)).map (·.2))) _ _ s
 refine wpAny_evalAll_cons (Kb (bZ (ha pins s σ H _ I h) λu s1 ⟨x,H1,I1,r1,q1⟩=>Kb (Ou (Ks ?_))));exact bZ (hr pos pins s1 σ H1 _ I1 q1) λus s2 ⟨xs,H2,I2,r2,q2⟩=>⟨x::xs,H2,I2,.cons r1 r2,q2⟩
variable {g:List Value->List Value->List Value} {gV:List V->List V->List V}
end
structure ay (N P:List Str) (sc:Scope):Prop where
 kind:sc.kind=.function
 co:sc.isCoroutine=false
 gen:sc.isGenerator=false
 nd:N.Nodup
 pre:N.take P.length=P
 par:∀x∈P,sc.names.lookup x=some .local\/sc.names.lookup x=some .cell
 Fh:∀y∈sc.names,y.2≠.free
theorem m5:∀{binds:List (Str×Value)} {m:Str->Option Value},(∀v,(x,v)∉binds)->bindL kindOf binds m x=m x
 |[],_,_=>rfl
 | (n,v)::r,m,h=>by
  unfold bindL;rw[m5 λw hw=>h w (Ko _ hw)];split
  ·have:x≠n:=by rintro rfl;exact h v Km
   simp[this]
  ·rfl
theorem mW:∀{binds:List (Str×Value)} {m:Str->Option Value},(∀v,(x,v)∉binds)->bindC kindOf binds m x=m x
 |[],_,_=>rfl
 | (n,v)::r,m,h=>by
  unfold bindC;rw[mW λw hw=>h w (Ko _ hw)];split
  ·rfl
  ·have:x≠n:=by rintro rfl;exact h v Km
   simp[this]
theorem mS{v:Value}:∀{P:List Str} {vs:List Value} {i:Nat} {m:Str->Option Value},P.Nodup->P[i]?=some x->vs[i]?=some v->kindOf x=some .local ->
  bindL kindOf (P.zip vs) m x=some v
 |[],_,_,_,_,h,_,_=>by simp at h
 |_::_,[],_,_,_,_,h,_=>by simp at h
 |p::P,w::vs,0,m,nd,h1,h2,hk=>by
  simp at h1 h2;subst h1;subst h2;show bindL kindOf ((p,w)::P.zip vs) m p=_;unfold bindL;rw[m5 λv hv=>(LG.mp nd).1 (OT hv).1,Kj hk];simp
 |p::P,w::vs,i+1,m,nd,h1,h2,hk=>by
  show bindL kindOf ((p,w)::P.zip vs) m x=_;unfold bindL;exact mS (i:=i) (LG.mp nd).2 (by simpa using h1) (by simpa using h2) hk
theorem mH{v:Value}:∀{P:List Str} {vs:List Value} {i:Nat} {m:Str->Option Value},P.Nodup->P[i]?=some x->vs[i]?=some v->kindOf x≠some .local ->
  bindC kindOf (P.zip vs) m x=some v
 |[],_,_,_,_,h,_,_=>by simp at h
 |_::_,[],_,_,_,_,h,_=>by simp at h
 |p::P,w::vs,0,m,nd,h1,h2,hk=>by
  simp at h1 h2;subst h1;subst h2;show bindC kindOf ((p,w)::P.zip vs) m p=_;unfold bindC;rw[mW λv hv=>(LG.mp nd).1 (OT hv).1,Ki hk];simp
 |p::P,w::vs,i+1,m,nd,h1,h2,hk=>by
  show bindC kindOf ((p,w)::P.zip vs) m x=_;unfold bindC;exact mH (i:=i) (LG.mp nd).2 (by simpa using h1) (by simpa using h2) hk
noncomputable def start(N:List Str)(vs:List V):St:=vs.map some++List.replicate (N.length-vs.length) none
noncomputable def gy(CX:qk)(P:Program)(w:World)(K:PJ)(mg:Str->Option Value)(base:Heap)(N:List Str)(qual:Str)(scope:Scope)(f:Addr)(cd:Value)(A:Around)(outer:List Env)(s:Shared)(H:Hp)(E:XK):Cx where
 prog:=P
 w:=w
 K:=K
 mg:=mg
 base:=base
 A:=A.deeper (envOfC qual scope s.heap.objs.size f cd)
 N:=N
 s₀:=s
 H₀:=H
 env:=envOfC qual scope s.heap.objs.size f cd
 outer:=outer
 stack:=envOfC qual scope s.heap.objs.size f cd::outer
 ex:=[]
 calm:=true
 fn:=λ_=>true
 pn:=[]
 xe:=λe s'=>wpAny (model P w) (A.deeper (envOfC qual scope s.heap.objs.size f cd)) (leaving (envOfC qual scope s.heap.objs.size f cd) e) (λ_ s''=>CX outer H s E e s'') (λe' s''=>CX outer H s E e' s'') s'
theorem qy{sc:Scope}{n:Nat}(h:sc.names.lookup x=some .cell):∃c,(cellsFrom n sc.names []).lookup x=some c:=by
 have q:=PySem.W.cellsFrom_some sc.names n [] (.inl h);exact OE.mp q
theorem vT{ps:List Str}{qual:Str}{f:Addr}{cd:Value}{A:Around}{s s1:Shared}{E:XK}{vs:List V}
  (S:ay N ps scope) (hd:A.handled=none) (e0:qZ P w K mg base A outer s H) (hl:vs.length=ps.length) (r:Vals vs us)
  (x:InCallC s s.heap.objs.size (bindL (envOfC qual scope s.heap.objs.size f cd).kindOf (ps.zip us) λ_=>none) (cellsFrom (s.heap.objs.size+1) scope.names []) (bindC (envOfC qual scope s.heap.objs.size f cd).kindOf (ps.zip us) λ_=>none) s1) :
  Inv (gy CX P w K mg base N qual scope f cd A outer s H E) [] (start N vs) H s1:=by
 have hpl:ps.length<=N.length:=by have:=K_ List.length S.pre;rw[K8] at this;lia
 obtain⟨h1,tk,rfl,hk⟩:=x.done;have noA:∀b:Addr,b∉(gy CX P w K mg base N qual scope f cd A outer s H E).ex:=λb z=>absurd (show b∈([]:List Addr) from z) (by simp)
 refine⟨⟨e0.mod,S.kind,rfl,rfl,Kk _,λy z c h1 h2=>?_,λy hy=>?_,λy c _ h=>?_,λ_=>hd,Around.frames_deeper e0.frames,.inr ⟨rfl,rfl⟩,λb z=>absurd z (noA b),e0.bs,e0.AV,λb _ _=>noA b,λb z=>absurd z (noA b),e0.jC,e0.Fm,e0.tabs⟩,
  rfl,e0.bare,Un.kept hk,⟨_,x.toInCall.ns,λi y v h1 h2 h3=>?_⟩,λy c h=>⟨_,x.cell y c h⟩,e0.ba.fresh (Kk _),λy c h=>?_,λp hp=>absurd (show p∈([]:List (Addr×Obj)) from hp) (by simp),e0.ba.kept hk,?_⟩
 ·exact name_of_addr x.apart (PySem.mem_of_lookup h1) (PySem.mem_of_lookup h2)
 ·have hy:scope.names.lookup y=some .cell\/scope.names.lookup y=some .free:=hy;rcases hy with hy|hy
  ·exact qy hy
  ·exact absurd rfl (S.Fh _ (PySem.mem_of_lookup hy))
 ·exact Mg (x.above y c (PySem.mem_of_lookup h))
 ·have hi:i<vs.length:=by
   unfold start at h2;by_cases hi:i<vs.length
   ·exact hi
   ·rw[K4 (by simpa using hi)] at h2
    rw[OP] at h2
    split at h2<;>cases h2
  have ha:vs[i]?=some v:=by
   unfold start at h2;rw[KC (by simpa using hi),Kp] at h2
   cases e:vs[i]? with
   |none=>rw[e] at h2;cases h2
   |some a=>rw[e] at h2;cases h2;rfl
  obtain⟨u,hu,rv⟩:=r.get ha;have hp:ps[i]?=some y:=by
   rw[<- S.pre,Nj (by lia)];exact h1
  have ndP:ps.Nodup:=by rw[<- S.pre];exact S.nd.sublist (List.take_sublist _ _)
  refine⟨u,rv,?_⟩;rcases S.par y (Le hp) with k|k
  ·exact .inl ⟨k,mS ndP hp hu k⟩
  ·obtain⟨c,e⟩:=qy (n:=s.heap.objs.size+1) k;refine .inr ⟨.inl k,c,e,?_⟩;have q:=x.cell y c e;rw[mH ndP hp hu (by show scope.names.lookup y≠_;rw[k];decide)] at q
   exact q
 ·exact e0.ba.fresh (Mg (x.above y c (PySem.mem_of_lookup h)))
 ·unfold start;show _=N.length;rw[Ke,Kc,Kw];lia
theorem DJ{f:Addr}{name qual:Str}{params:Arguments}{dV kV doc pm cdv ct oc:Value}{an od:Option Addr}
  {osl:Array (Option Value)} {ps:List Str} {sp:Sp} (lk:K.lookup f=some ⟨oc,od,.func (PySem.W.fnOf name qual params body scope dV kV doc pm an cdv ct),osl⟩) (eW:PySem.W.codeIn K cdv qual=true) (S:ay N ps scope)
  (len:∀vs H Q E,sp vs H Q E->vs.length=ps.length)
  (hbody:∀(A:Around) (outer:List Env) (s:Shared) (H:Hp) (vs:List V) (Q:VK) (E:XK),bR k (A.deeper (envOfC qual scope s.heap.objs.size f cdv))->sp vs H Q E ->
   ∃t,rG (gy CX P w K mg base N qual scope f cdv A outer s H E) body t/\t {nx:=λ_ H'=>Q .aX H',rt:=Q} (start N vs) H) :
  cP P w K mg base CX (k+1) f (PySem.W.fnOf name qual params body scope dV kV doc pm an cdv ct) ps sp:=by
 refine⟨len,λA outer s H args us vs Q E hr e0 hb r oM=>?_⟩;have hl:=len _ _ _ _ oM;have KX:K.In s.heap:=e0.mod.Ip.keeps λb o e=>(e0.bs b o e).1;have lim:s.heap.NoLimit:=e0.mod.nolimit.keeps λb o e=>(e0.bs b o e).1;have hkind:∀y∈ps.zip us,scope.names.lookup y.1=some .local\/(scope.names.lookup y.1=some .cell/\((cellsFrom (s.heap.objs.size+1) scope.names []).lookup y.1).isSome=true):=λ⟨n,v⟩ hy=>by
  rcases S.par n (OT hy).1 with q|q
  ·exact .inl q
  ·exact .inr ⟨q,PySem.W.cellsFrom_some _ _ _ (.inl q)⟩
 refine codeAny_call_function hr.depth (KX _ _ lk) rfl S.co S.gen rfl (PySem.W.codeRec_of KX eW) (hb _ _ _ _ ?_);refine wpAny_newFunctionEnv_cells S.kind hkind λenv he s1 x=>?_;subst he;refine⟨lim.keeps x.toInCall.keep,codeAny_func ?_⟩;obtain⟨t,ht,hq⟩:=hbody A outer s H vs Q E (hr.deeper _) oM;have I:Inv (gy CX P w K mg base N qual scope f cdv A outer s H E) [] (start N vs) H s1:=vT S hr.hd e0 hl r x;refine Ls (ht [] s1 (start N vs) H _ I hq) (λfl s' hs=>?_) λe s' hs=>hs;have fin:∀{σ':St} {H':Hp} {v:V} {u:Value},Inv (gy CX P w K mg base N qual scope f cdv A outer s H E) [] σ' H' s'->RelV v u->Q v H'->CE outer P w H s Q u s':=
  λ{σ' H' v u} J rv q=>⟨v,H',J.os,J.bare,J.base,J.ba,rv,q⟩
 cases fl with
 |ret u =>
  obtain⟨v,σ',H',J,rv,q⟩:=hs;exact fin J rv q
 |next =>
  obtain⟨σ',H',J,q⟩:=hs;exact fin (v:=V.aX) (u:=Value.none) J rfl q
 |brk =>
  obtain⟨_,_,_,q⟩:=hs;exact False.elim q
 |cont =>
  obtain⟨_,_,_,q⟩:=hs;exact False.elim q
section
variable {X:Cx} {x:Str} {p pos:Pos} {e:Expr} {es:List Expr} {t:TA} {id T:String} {r:List V->Hp->VK->Prop}
def AH(r:List V->Hp->VK->Prop)(t:TA):TE:=λσ H Q=>t σ H λvs H1=>r vs H1 Q
theorem yq(hc:bE X (.builtin id) r)(hg:Gl X x)(hm:X.mg x=none)(hv:bootBuiltins x=some (.builtin id))(ha:PA X (e::es) t)(hn:autoParam (x≠"__name__") ℜ1)(hdb:autoParam ((x ==("__debug__":Str))=false) ℜ1)
  (he:autoParam (starEach (e::es) X.env=(false,eval e X.env)::starEach es X.env) ℜ0) (hpl:autoParam ((backTo pos (starEach es X.env)).any (·.1)=false) ℜ0):PE X (.Call (.Name x p) (e::es) [] pos) (AH r t):=by
 intro pins s σ H Q I h;refine MB (fR I hg hm hv ?_ hn hdb);exact PyProof.Rows.callWith_builtin1 (bZ (ha pos pins s σ H _ I h) λus s1 ⟨vs,H1,I1,r1,q1⟩=>hc pins s1 σ H1 vs us Q I1 r1 q1) he hpl
theorem v8(hc:bE X (.type T) r)(hg:Gl X x)(hm:X.mg x=none)(hv:bootBuiltins x=some (.type T))(ha:PA X (e::es) t)(hn:autoParam (x≠"__name__") ℜ1)(hdb:autoParam ((x ==("__debug__":Str))=false) ℜ1)
  (he:autoParam (starEach (e::es) X.env=(false,eval e X.env)::starEach es X.env) ℜ0) (hpl:autoParam ((backTo pos (starEach es X.env)).any (·.1)=false) ℜ0):PE X (.Call (.Name x p) (e::es) [] pos) (AH r t):=by
 intro pins s σ H Q I h;refine MB (fR I hg hm hv ?_ hn hdb);exact Lj (bZ (ha pos pins s σ H _ I h) λus s1 ⟨vs,H1,I1,r1,q1⟩=>hc pins s1 σ H1 vs us Q I1 r1 q1) he hpl
end
end L2
namespace HT
open PySem PyProof.Rows
section
variable {prog:Program} {w:World} {A:Around} {E:Value->Shared->Prop} {s:Shared}
theorem Bm{t b:Addr}{vs ws:List Value}{Q:Value->Shared->Prop}(ht:IsTup s.heap t vs.toArray)(hb:IsTup s.heap b ws.toArray)(hv:vs≠[])
  (h1:ws=[]->Q (.ref t) s) (h2:ws≠[]->Q (.ref s.heap.objs.size) {s with heap:=s.heap.push {cls:=.type "tuple",data:=.seq (vs++ws).toArray}})
  (hsz:vs.length+ws.length<=sizeLine):wpAny (model prog w) A (binaryOp .Add (.ref t) (.ref b)) Q E s:=by
 obtain⟨⟨cls,dd,data,sl⟩,ho,hc,n,hd⟩:=id ht;obtain⟨⟨cls2,dd2,data2,sl2⟩,ho2,hc2,n2,hd2⟩:=id hb;simp only at hc hd hc2 hd2;subst hc hd hc2 hd2;have e:vs.toArray++ws.toArray=(vs++ws).toArray:=by simp
 by_cases hw:ws=[]
 ·exact concat_meets ⟨_,ho,rfl⟩ ⟨_,ho2,rfl⟩ noFill_tuple_add seq_tuple_add PySem.F.slot_tuple_add PySem.F.entry_tuple_add (PySem.F.args_tuple_add_2 _ _)
   (tuple_addW1 t b vs.toArray ws.toArray n n2 dd dd2 sl sl2 (by simpa using hv) (by simp[hw])) ⟨ho,ho2,h1 hw⟩
 ·refine concat_meets ⟨_,ho,rfl⟩ ⟨_,ho2,rfl⟩ noFill_tuple_add seq_tuple_add PySem.F.slot_tuple_add PySem.F.entry_tuple_add (PySem.F.args_tuple_add_2 _ _)
   (tuple_addW2 t b vs.toArray ws.toArray n n2 dd dd2 sl sl2 (by simpa using hv) (by simpa using hw) (by rw[List.size_toArray,List.size_toArray];exact hsz)) ⟨ho,ho2,?_⟩
  rw[e];exact h2 hw
noncomputable def b_(n d:Nat):Option Int->Nat
 |none=>d
 |some v=>if v<0 then (v+(n:Int)).toNat else min v.toNat n
theorem fD(n d:Nat):b_ n d none=d:=rfl
theorem fM(n d k:Nat):b_ n d (some (k:Int))=min k n:=by
 show (if (k:Int)<0 then ((k:Int)+(n:Int)).toNat else min (k:Int).toNat n)=min k n
 rw[if_neg (by lia),Int.toNat_natCast]
theorem rm(n d:Nat)(hd:d<=n)(o:Option Int):b_ n d o<=n:=by
 cases o with
 |none=>exact hd
 |some v =>
  show (if v<0 then (v+(n:Int)).toNat else min v.toNat n)<=n
  by_cases hv:v<0
  ·rw[if_pos hv];lia
  ·rw[if_neg hv];exact Nat.min_le_right _ _
theorem tT(v:Int)(n d:Nat):(if v<0 then max (v+(n:Int)) 0 else min v (n:Int))=((b_ n d (some v):Nat):Int):=by
 show (if v<0 then max (v+(n:Int)) 0 else min v (n:Int))=(((if v<0 then (v+(n:Int)).toNat else min v.toNat n):Nat):Int)
 by_cases hv:v<0
 ·simp only[if_pos hv];lia
 ·simp only[if_neg hv];lia
theorem rB(lo hi:Option Int)(n:Nat):Builtin.Slice.sliceAdjust lo hi 1 (n:Int)=(((b_ n 0 lo:Nat):Int),((b_ n n hi:Nat):Int)):=by
 have h1:¬ ((1:Int)<0):=by lia
 unfold Builtin.Slice.sliceAdjust;simp only[h1,if_false];refine Prod.ext ?_ ?_
 ·cases lo with
  |none=>rfl
  |some v=>exact tT v n 0
 ·cases hi with
  |none=>rfl
  |some v=>exact tT v n n
theorem tu(i j:Nat):Builtin.Slice.slicePlaces (i:Int) (j:Int) 1=j-i:=by
 unfold Builtin.Slice.slicePlaces;have h1:(1:Int) > 0:=by lia
 simp only[h1,if_true,Int.ediv_one]
 split<;>lia
theorem lp{v:Value}{o:Option Int}{Q:Option Int->Shared->Prop}(p:IsPart v o)(h:Q o s):wpAny (model prog w) A (Builtin.Slice.slicePartIndex v) Q E s:=by
 cases p with
 |none=>exact slicePart_none h
 |int i t=>exact slicePart_int h
theorem fJ{sl:Addr}{vl vu:Value}{lo hi:Option Int}{n:Nat}{Q:Int×Int×Nat->Shared->Prop}(hs:s.heap.IsSliceOf sl vl vu .none)(pl:IsPart vl lo)(pu:IsPart vu hi)
  (h:Q (((b_ n 0 lo:Nat):Int),1,b_ n n hi-b_ n 0 lo) s):wpAny (model prog w) A (Builtin.Slice.sliceApplied (.ref sl) (pure (n:Int))) Q E s:=by
 obtain⟨os,hos,hcs,vm⟩:=id hs;unfold Builtin.Slice.sliceApplied Builtin.Slice.sliceFields;refine wpAny_bind (wpAny_bind (wpAny_field hos vm (x:=vl) rfl (wpAny_bind (wpAny_field hos vm (x:=vu) rfl (wpAny_bind (wpAny_field hos vm (x:=.none) rfl (wpAny_pure ?_)))))));refine wpAny_bind (slicePart_none ?_);show wpAny _ _ (if ((1:Int) == 0)=true then _ else _) _ _ s
 rw[if_neg (by decide)]
 refine wpAny_bind (lp pl (wpAny_bind (lp pu (wpAny_bind (wpAny_pure ?_)))));show wpAny _ _ (match Builtin.Slice.sliceAdjust lo hi 1 (n:Int) with | (lo,hi)=>pure (lo,(1:Int),Builtin.Slice.slicePlaces lo hi 1)) _ _ s
 rw[rB lo hi n];show wpAny _ _ (pure (((b_ n 0 lo:Nat):Int),(1:Int),Builtin.Slice.slicePlaces ((b_ n 0 lo:Nat):Int) ((b_ n n hi:Nat):Int) 1)) _ _ s;rw[tu];exact wpAny_pure h
theorem yF(xs:Array Value)(i k:Nat):((List.range k).filterMap λ(m:Nat)=>xs[((i:Int)+(m:Int)*1).toNat]?).toArray=((xs.toList.drop i).take k).toArray:=by
 have e:(λ(m:Nat)=>xs[((i:Int)+(m:Int)*1).toNat]?)=λm=>xs[i+m]?:=by
  funext m
  have:((i:Int)+(m:Int)*1).toNat=i+m:=by lia
  rw[this]
 rw[e];have:=pick_run xs i k;rw[List.filterMap_map] at this;have e2:((λx=>xs[x]?) ∘ λx=>i+x)=λm=>xs[i+m]?:=rfl;rw[e2] at this;rw[this]
theorem iQ{t sl:Addr}{items:Array Value}{vl vu:Value}{lo hi:Option Int}{Q:Value->Shared->Prop}(ht:IsTup s.heap t items)(hs:s.heap.IsSliceOf sl vl vu .none)(pl:IsPart vl lo)(pu:IsPart vu hi)
  (hw:¬ (b_ items.size 0 lo=0/\b_ items.size items.size hi=items.size))
  (h:Q (.ref s.heap.objs.size) {s with heap:=s.heap.push {cls:=.type "tuple",data:=.seq ((items.toList.drop (b_ items.size 0 lo)).take (b_ items.size items.size hi-b_ items.size 0 lo)).toArray}})
  (hsz:items.size<=sizeLine):wpAny (model prog w) A (getItem (.ref t) (.ref sl)) Q E s:=by
 have htake:sizeOk (.seq ((items.toList.drop (b_ items.size 0 lo)).take (b_ items.size items.size hi-b_ items.size 0 lo)).toArray):=by
  show ((items.toList.drop (b_ items.size 0 lo)).take (b_ items.size items.size hi-b_ items.size 0 lo)).toArray.size<=sizeLine;rw[List.size_toArray,List.length_take,List.length_drop,Array.length_toList];exact Nat.le_trans (Nat.min_le_right _ _) (Nat.le_trans (Nat.sub_le _ _) hsz)
 have hj:b_ items.size items.size hi<=items.size:=rm _ _ (Nat.le_refl _) hi;obtain⟨os,hos,hcs,vm⟩:=id hs;have hTs:s.TypeIs (.ref sl) "slice":=⟨os,hos,hcs⟩;unfold getItem
 try with_reducible refine wpAny_holding ?_
 first|refine wpAny_bind (wpAny_pure ?_)|skip
 refine wpAny_bind (wpAny_sequenceKey ht.typeIs (by decide) ?_)
 refine wpAny_bind (wpAny_callSpecial?_slot (name:=Str.ofString "__getitem__") ht.typeIs PyProof.Rows.slot_tuple_getitem
  (wpAny_call_entry PyProof.Rows.slot_tuple_getitem ht.typeIs entry_tuple_getitem ?_ (args_tuple_getitem _ _)))
 show wpAny _ _ (Builtin.Tuple.tupleItemsOf (.ref t) >>= _) _ _ s;refine wpAny_bind (tupleItemsOf_ ht ?_);refine wpAny_bind (wpAny_typeOf hTs ?_);rw[if_pos (by decide)]
 refine wpAny_bind (fJ hs pl pu ?_);have hno:¬ ((((b_ items.size 0 lo:Nat):Int) == 0 && (1:Int) == 1 && (b_ items.size items.size hi-b_ items.size 0 lo) == items.size)=true):=by
  intro q;rw[Bool.and_eq_true,Bool.and_eq_true] at q;have q1:((b_ items.size 0 lo:Nat):Int)=0:=eq_of_beq q.1.1;have q2:b_ items.size items.size hi-b_ items.size 0 lo=items.size:=eq_of_beq q.2;exact hw ⟨by lia,by lia⟩
 show wpAny _ _ (if (((b_ items.size 0 lo:Nat):Int) == 0 && (1:Int) == 1 && (b_ items.size items.size hi-b_ items.size 0 lo) == items.size)=true then _ else _) _ _ s
 rw[if_neg hno,yF]
 first
  |exact wpAny_bind (m:=Builtin.Tuple.tupleExact _) (wpAny_newObj_type (wpAny_pure ⟨_,rfl,wpAny_pure h⟩) htake)
  |exact wpAny_bind (m:=Builtin.Tuple.tupleExact _) (wpAny_newObj_type (wpAny_bind (wpAny_pure (wpAny_pure ⟨_,rfl,wpAny_pure h⟩))) htake)
  |exact wpAny_bind (wpAny_bind (m:=Builtin.Tuple.tupleExact _) (wpAny_newObj_type (wpAny_pure (wpAny_pure ⟨_,rfl,wpAny_pure h⟩)) htake))
  |exact wpAny_bind (wpAny_bind (m:=Builtin.Tuple.tupleExact _) (wpAny_newObj_type (wpAny_pure ⟨_,rfl,wpAny_pure h⟩) htake))
end
end HT
namespace L2
open PySem PySem.Spec PyProof.Rows
variable{r:V->Option Int->Option Int->Hp->VK->Prop}{xs:List (List Key×Addr×Value)}{its its' us:List Value}{α:Type}{pins:List (Addr×Obj)}{σ:St}{H H':Hp}{x y:V}{u:Value}{o:Option V}{P:Program}{w:World}{kvs:List (List Key×V)}{Q:Value->Shared->Prop}
abbrev TO:=St->Hp->(Option Int->Hp->Prop)->Prop
noncomputable def PO(X:Cx)(e:Option Expr)(t:TO):Prop:=
 ∀(pins:List (Addr×Obj)) (s:Shared) (σ:St) (H:Hp) (Q:Option Int->Hp->Prop),Inv X pins σ H s->t σ H Q ->
  wpAny (model X.prog X.w) X.A (evalPart e X.env) (λu s'=>∃o H',Inv X pins σ H' s'/\IsPart u o/\Q o H') X.xe s
def iJ:TO:=λ_ H Q=>Q none H
def pG(t:TE):TO:=λσ H Q=>t σ H λx H1=>∃i,x=.int i/\Q (some i) H1
theorem intsAre_of{ns:List Int}:∀{us:List Value},Vals (ns.map V.int) us->IntsAre us ns:=by
 induction ns with
 |nil=>intro us r;rw[Mh] at r;cases r;exact .nil
 |cons n ns ih =>
  intro us r;rw[K9] at r
  cases r with
  |cons r1 r2 =>
   obtain⟨t,e⟩:=r1;subst e;exact .cons n t (ih r2)
section
variable {X:Cx} {e:Expr} {te:TE} {lo hi:Option Expr} {tl th:TO} {pos p2:Pos}
theorem ur:PO X none iJ:=by
 intro pins s σ H Q I h;rw[evalPart_none];exact Ks ⟨none,H,I,.none,h⟩
theorem oa(h:PE X e te):PO X (some e) (pG te):=by
 intro pins s σ H Q I hw;rw[evalPart_some];refine bZ (h pins s σ H _ I hw) λu s1 hq50=>?_;obtain⟨x,H1,I1,r1,q1⟩:=hq50;obtain⟨i,rfl,q⟩:=q1;obtain⟨t,rfl⟩:=r1;exact⟨some i,H1,I1,.int i t,q⟩
noncomputable def uR(X:Cx)(r:V->Option Int->Option Int->Hp->VK->Prop):Prop:=
 ∀(pins:List (Addr×Obj)) (s:Shared) (σ:St) (H:Hp) (x:V) (v vl vu:Value) (lo hi:Option Int) (sl:Addr) (Q:VK),Inv X pins σ H s->RelV x v->s.heap.IsSliceOf sl vl vu .none->IsPart vl lo->IsPart vu hi->r x lo hi H Q ->
  ∃T id,typeLookup (.type T) "__getitem__"=pure (some (.builtin id))/\s.TypeIs v T/\wpAny (model X.prog X.w) X.A (getItem v (.ref sl)) (EP X pins σ Q) X.xe s
theorem uR.or{r':V->Option Int->Option Int->Hp->VK->Prop}(h:uR X r)(h':uR X r'):uR X (λx lo hi H Q=>r x lo hi H Q\/r' x lo hi H Q):=by
 intro pins s σ H x v vl vu lo hi sl Q I rx hs pl pu q;rcases q with q|q
 ·exact h pins s σ H x v vl vu lo hi sl Q I rx hs pl pu q
 ·exact h' pins s σ H x v vl vu lo hi sl Q I rx hs pl pu q
def Hs(r:V->Option Int->Option Int->Hp->VK->Prop)(te:TE)(tl th:TO):TE:=λσ H Q=>te σ H λx H1=>tl σ H1 λl H2=>th σ H2 λu H3=>r x l u H3 Q
theorem Am(hr:uR X r)(he:PE X e te)(hl:PO X lo tl)(hu:PO X hi th):PE X (.Subscript e (.Slice lo hi none p2) pos) (Hs r te tl th):=by
 intro pins s σ H Q I h;refine Subscript_ (bZ (he pins s σ H _ I h) λv s1 hq51=>?_);obtain⟨x,H1,I1,r1,q1⟩:=hq51;refine wpAny_Slice (bZ (hl pins s1 σ H1 _ I1 q1) λvl s2 ⟨l,H2,I2,pl,q2⟩=>bZ (hu pins s2 σ H2 _ I2 q2) λvu s3 hq52=>?_);obtain⟨u,H3,I3,pu,q3⟩:=hq52;rw[evalPart_none];refine Ks ?_;have I4:Inv X pins σ H3 {s3 with heap:=s3.heap.push {cls:=.type "slice",data:=.fields #[vl,vu,.none]}}:=I3.kept (t':=s3.toks) λb ob q=>Kg _ q
 obtain⟨T,id,hT,ht,hg⟩:=hr pins {s3 with heap:=s3.heap.push {cls:=.type "slice",data:=.fields #[vl,vu,.none]}} σ H3 x v vl vu l u s3.heap.objs.size Q I4 r1 (Heap.IsSliceOf.new ..) pl pu q3
 show wpAny (model X.prog X.w) X.A (subscriptTail e (.Slice lo hi none p2) v (.ref s3.heap.objs.size)) (EP X pins σ Q) X.xe {s3 with heap:=s3.heap.push {cls:=.type "slice",data:=.fields #[vl,vu,.none]}}
 exact tail_any (ops:=[.ref s3.heap.objs.size,v]) ht hT hg (by with_unfolding_all rfl)
noncomputable def eC(xs:List V)(lo hi:Option Int):List V:=(xs.drop (HT.b_ xs.length 0 lo)).take (HT.b_ xs.length xs.length hi-HT.b_ xs.length 0 lo)
theorem j4(xs:List V)(lo hi:Option Int):(eC xs lo hi).length<=xs.length:=by
 unfold eC;rw[K8,KP];exact Kn (Nat.min_le_right _ _) (O3 _ _)
noncomputable def r9(K:PJ):V->Option Int->Option Int->Hp->VK->Prop:=λx lo hi H Q=>∃a xs,x=.ref a/\aY K H a xs /\
 ¬ (HT.b_ xs.length 0 lo=0/\HT.b_ xs.length xs.length hi=xs.length)/\∀p,H p=none->Q (.ref p) (upd H p (.tup (eC xs lo hi)))
theorem s_:uR X (r9 X.K):=by
 intro pins s σ H x v vl vu lo hi sl Q I rx hs pl pu h;obtain⟨a,xs,rfl,hx,hw,q⟩:=h;cases rx;obtain⟨its,r,ht,hz⟩:=I.tuple hx;have hlen:its.toArray.size=xs.length:=by rw[Kh];exact r.length.symm
 refine⟨"tuple",_,LV.lookup,ht.typeIs,?_⟩;refine HT.iQ ht hs pl pu (by rw[hlen];exact hw) ?_ (by rw[hlen];exact hz)
 rw[hlen];refine⟨.ref s.heap.objs.size,_,I.laid (t':=s.toks) (o:=.tup (eC xs lo hi)) (λb ob q=>Kg _ q) (Kk _) ?_,rfl,q _ (I.ba.fresh (Kk _))⟩;exact⟨Kn (j4 xs lo hi) hz,_,(r.drop (HT.b_ xs.length 0 lo)).take (HT.b_ xs.length xs.length hi-HT.b_ xs.length 0 lo),eL.new _ _⟩
noncomputable def IB(K:PJ):R2:=λx y H Q=>∃a b xs ys,x=.ref a/\y=.ref b/\aY K H a xs/\aY K H b ys/\xs≠[]/\xs.length+ys.length<=sizeLine /\
 (ys=[]->Q (.ref a) H)/\(ys≠[]->∀p,H p=none->Q (.ref p) (upd H p (.tup (xs++ys))))
theorem Vals.nR{xs:List V}(r:Vals xs us):us=[] ↔ xs=[]:=by
 cases r with
 |nil=>simp
 |cons _ _=>simp
theorem uV:dh X (binaryOp .Add) (IB X.K):=by
 intro pins s σ H x y v u Q I rx ry h;obtain⟨a,b,xs,ys,rfl,rfl,ha,hb,hx,hz,q1,q2⟩:=h;cases rx;cases ry;obtain⟨its,r1,p1,_⟩:=I.tuple ha;obtain⟨its2,r2,p2,_⟩:=I.tuple hb;refine HT.Bm p1 p2 (λz=>hx (r1.nR.mp z)) (λz=>⟨.ref a,H,I,rfl,q1 (r2.nR.mp z)⟩) (λz=>?_) (by rw[<- r1.length,<- r2.length];exact hz)
 refine⟨.ref s.heap.objs.size,_,I.laid (t':=s.toks) (o:=.tup (xs++ys)) (λb ob q=>Kg _ q) (Kk _) ?_,rfl,q2 (λw=>z (r2.nR.mpr w)) _ (I.ba.fresh (Kk _))⟩;exact⟨by rw[Ke];exact hz,_,r1.append r2,eL.new _ _⟩
end
noncomputable def jP(n:Nat)(i:Int):Option Nat:=if 0<=i then (if i<n then some i.toNat else none) else if -(n:Int)<=i then some (i+n).toNat else none
noncomputable def cL(xs:List α)(i:Int):Option α:=(jP xs.length i).bind λj=>xs[j]?
theorem tI{n:Nat}{i:Int}{j:Nat}(h:jP n i=some j):seqIndex? i n=some j/\j<n/\-(n:Int)<=i/\i<n:=by
 unfold jP at h;by_cases h0:0<=i
 ·rw[Kj h0] at h;by_cases h1:i<n
  ·rw[Kj h1] at h;have e:i.toNat=j:=Option.some.inj h;exact⟨by rw[seqIndex_of h0 h1,e],by lia,by lia,h1⟩
  ·rw[Ki h1] at h;cases h
 ·rw[Ki h0] at h;by_cases h1:-(n:Int)<=i
  ·rw[Kj h1] at h;have e:(i+n).toNat=j:=Option.some.inj h;exact⟨by rw[PD (by lia) h1,e],by lia,h1,by lia⟩
  ·rw[Ki h1] at h;cases h
theorem ny{xs:List α}{i:Int}{v:α}(h:cL xs i=some v):∃j,seqIndex? i xs.length=some j/\xs[j]?=some v/\j<xs.length/\-(xs.length:Int)<=i/\i<xs.length:=by
 unfold cL at h
 cases e:jP xs.length i with
 |none=>rw[e] at h;cases h
 |some j =>
  rw[e] at h;obtain⟨h1,h2,h3,h4⟩:=tI e;exact⟨j,h1,h,h2,h3,h4⟩
theorem b7{xs:List α}{j:Nat}{v:α}(h:xs[j]?=some v):cL xs (j:Int)=some v:=by
 have hj:j<xs.length:=(Kf.mp h).1;have e:jP xs.length (j:Int)=some j:=by
  unfold jP;rw[Kj (by lia),Kj (by lia)];simp
 unfold cL;rw[e];exact h
def uP(b:Expr):Prop:=∀o i,subscripted b false o i=operate [o,i] (getItem o i)
noncomputable def vE(X:Cx)(r:R2):Prop:=
 ∀(value slice:Expr) (pins:List (Addr×Obj)) (s:Shared) (σ:St) (H:Hp) (x y:V) (v u:Value) (Q:VK),Inv X pins σ H s->RelV x v->RelV y u->r x y H Q ->
  subscripted slice false v u=operate [v,u] (getItem v u)->wpAny (model X.prog X.w) X.A (subscriptTail value slice v u) (EP X pins σ Q) X.xe s
noncomputable def xf(X:Cx)(id:String)(r:V->List V->Hp->VK->Prop):Prop:=
 ∀(pins:List (Addr×Obj)) (s:Shared) (σ:St) (H:Hp) (x:V) (xs:List V) (v:Value) (us:List Value) (Q:VK),Inv X pins σ H s->RelV x v->Vals xs us->r x xs H Q ->
  wpAny (model X.prog X.w) X.A (call (.builtin id) (v::us)) (EP X pins σ Q) X.xe s
section
variable {X:Cx} {a b:Expr} {ta tb:TE} {pos:Pos}
theorem vE.or{r r':R2}(h:vE X r)(h':vE X r'):vE X (λx y H Q=>r x y H Q\/r' x y H Q):=by
 intro value slice pins s σ H x y v u Q I rx ry q hs;rcases q with q|q
 ·exact h value slice pins s σ H x y v u Q I rx ry q hs
 ·exact h' value slice pins s σ H x y v u Q I rx ry q hs
theorem ya{r:R2}(hr:vE X r)(ha:PE X a ta)(hb:PE X b tb)(hs:uP b):PE X (.Subscript a b pos) (xQ r ta tb):=by
 intro pins s σ H Q I h;exact Subscript_ (FI ha hb I h λv u s2 x y H2 I2 rx ry q=>hr a b pins s2 σ H2 x y v u Q I2 rx ry q (hs _ _))
def Hq(K:PJ):R2:=λx y H Q=>∃p xs i v,x=.ref p/\y=.int i/\bB K H p xs/\cL xs i=some v/\Q v H
def Gg(K:PJ):R2:=λx y H Q=>∃p xs i v,x=.ref p/\y=.int i/\aY K H p xs/\cL xs i=some v/\Q v H
def HP:R2:=λx y H Q=>∃z i c,x=.str z/\y=.int i/\z.length<=sizeLine/\cL z.cps.toList i=some c/\Q (.str ⟨#[c]⟩) H
theorem Cf:vE X (Hq X.K):=by
 intro value slice pins s σ H x y v u Q I rx ry h hs;obtain⟨p,xs,i,z,rfl,rfl,hq,he,q⟩:=h;cases rx;obtain⟨t,rfl⟩:=ry;obtain⟨its,r,pl,hz⟩:=I.list hq;obtain⟨j,h1,h2,h3,h4,h5⟩:=ny he;obtain⟨w,ew,rw'⟩:=r.get h2;have hl:=r.length;have hn:=i_;have fin:EP X pins σ Q w s:=⟨z,H,I,rw',q⟩;by_cases h0:0<=i
 ·have hj:i.toNat=j:=by
   rw[seqIndex_of h0 h5] at h1;exact Option.some.inj h1
  exact item_listR pl.isList h0 (by lia) (by rw[hj];simpa using ew) fin hs
 ·have hj:(i+(its.toArray.size:Int)).toNat=j:=by
   rw[PD (by lia) h4] at h1
   rw[Kh,<- hl];exact Option.some.inj h1
  exact subscriptTail_builtinR (x:=w) pl.isList.typeIs Oz.lookup
   (wpAny_getItem_list_neg (Q:=λr s'=>r=w/\EP X pins σ Q r s') pl.isList (by lia) (by rw[Kh]<;>lia) (by lia) (by rw[hj];simpa using ew) ⟨rfl,fin⟩) hs
theorem nT:vE X (Gg X.K):=by
 intro value slice pins s σ H x y v u Q I rx ry h hs;obtain⟨p,xs,i,z,rfl,rfl,hq,he,q⟩:=h;cases rx;obtain⟨t,rfl⟩:=ry;obtain⟨its,r,pl,hz⟩:=I.tuple hq;obtain⟨j,h1,h2,h3,h4,h5⟩:=ny he;obtain⟨w,ew,rw'⟩:=r.get h2;have hl:=r.length;have hn:=i_;have fin:EP X pins σ Q w s:=⟨z,H,I,rw',q⟩;exact subscriptTail_builtinR (x:=w) pl.typeIs slot_tuple_getitem.lookup
  (getItem_tuple (j:=j) (Q:=λr s'=>r=w/\EP X pins σ Q r s') pl (by lia) (by lia) (by rw[Kh,<- hl];exact h1) (by simpa using ew) ⟨rfl,fin⟩) hs
theorem Fb:vE X HP:=by
 intro value slice pins s σ H x y v u Q I rx ry h hs;obtain⟨z,i,c,rfl,rfl,hz,he,q⟩:=h;obtain⟨t,rfl⟩:=rx;obtain⟨t',rfl⟩:=ry;obtain⟨j,h1,h2,h3,h4,h5⟩:=ny he;have hl:z.cps.toList.length=z.length:=by simp[Str.length]
 rw[hl] at h1 h4 h5;have hn:=i_;exact tail_any (P4 s z t) slot_str_getitem.lookup (getItem_str (c:=c) (by
  have e1:decide (i < -(2^63:Int))=false:=KH (by lia)
  have e2:decide (i >= 2^63)=false:=KH (by lia)
  rw[e1,e2,Bool.or_false]) (by rw[h1];simpa using h2) ⟨.str ⟨#[c]⟩,H,I.tok _,⟨_,rfl⟩,q⟩) hs
def JS(K:PJ):R2:=λx y H Q=>Hq K x y H Q\/Gg K x y H Q\/HP x y H Q
theorem ER:vE X (JS X.K):=Cf.or (nT.or Fb)
theorem sY(its:List Value)(n j:Nat)(u:Value):Obj.mapSeq (·.setIfInBounds j u) {cls:=.type "list",data:=.seq its.toArray n}={cls:=.type "list",data:=.seq (its.set j u).toArray n}:=by
 simp[Obj.mapSeq]
theorem Inv.lst{s:Shared}{p:Addr}{xs:List V}(I:Inv X pins σ H s)(h:H p=some (.lst xs)):
  ∃(its:List Value) (n:Nat),Vals xs its/\s.heap.get? p=some {cls:=.type "list",data:=.seq its.toArray n}/\xs.length<=sizeLine:=by
 obtain⟨z,its,n,r,e⟩:=I.ba p _ h;exact⟨its,n,r,e,z⟩
theorem Inv.Fy{s:Shared}{p:Addr}{xs ys:List V}{n n':Nat}{f:Obj->Obj}(I:Inv X pins σ H s)(h:H p=some (.lst xs))
  (ho:s.heap.get? p=some {cls:=.type "list",data:=.seq its.toArray n}) (hf:f {cls:=.type "list",data:=.seq its.toArray n}={cls:=.type "list",data:=.seq its'.toArray n'}) (r:Vals ys its') (hz:ys.length<=sizeLine) (t:Nat) :
  Inv X pins σ (upd H p (.lst ys)) {s with heap:=s.heap.update p f,toks:=t}:=by
 have e:(s.heap.update p f).get? p=some {cls:=.type "list",data:=.seq its'.toArray n'}:=by
  rw[MP f ho (by rw[hf]<;>rfl),hf]
 refine I.write (x:=p) (e:=p) (by rw[h];trivial) (.inl rfl) (λb u hb q=>(OY _ _ (L0 hb)).trans q) ⟨_,e⟩ ?_
 exact⟨hz,its',n',r,e⟩
noncomputable def HM:V->V->V->Hp->(Hp->Prop)->Prop:=λo i v H Q=>∃p xs k j,o=.ref p/\i=.int k/\H p=some (.lst xs)/\jP xs.length k=some j/\Q (upd H p (.lst (xs.set j v)))
theorem set_list:EN X HM:=by
 intro pins s σ H o i v ov iv u Q I ro ri rv h;obtain⟨p,xs,k,j,rfl,rfl,hp,hj,q⟩:=h;cases ro;obtain⟨t,rfl⟩:=ri;obtain⟨its,n,r,ho,hz⟩:=I.lst hp;obtain⟨h1,h2,h3,h4⟩:=tI hj;have hl:=r.length;have hn:=i_;have I':Inv X pins σ (upd H p (.lst (xs.set j v))) {s with heap:=s.heap.update p (Obj.mapSeq (·.setIfInBounds j u))}:=
  I.Fy hp ho (sY its n j u) (r.set rv j) (by rw[Ld];exact hz) s.toks
 by_cases h0:0<=k
 ·have hk:k.toNat=j:=by
   rw[seqIndex_of h0 h4] at h1;exact Option.some.inj h1
  exact PySem.W.ki_setAt ho h0 (by lia) (by rw[Kh,<- hl];exact h4) (by rw[hk];exact⟨_,I',q⟩)
 ·have hk:(k+(its.toArray.size:Int)).toNat=j:=by
   rw[PD (by lia) h3] at h1
   rw[Kh,<- hl];exact Option.some.inj h1
  exact PySem.W.ki_setBack ho (by lia) (by rw[Kh,<- hl];exact h3) (by lia) (by rw[hk];exact⟨_,I',q⟩)
theorem nQ(lo hi:Option Int)(n:Nat):(sliceBounds lo hi none n).1=((HT.b_ n 0 lo:Nat):Int)/\(sliceBounds lo hi none n).2.1=((HT.b_ n n hi:Nat):Int)/\(sliceBounds lo hi none n).2.2=1:=by
 refine⟨?_,?_,rfl⟩
 ·cases lo with
  |none=>simp[sliceBounds,HT.b_]
  |some i =>
   simp only[sliceBounds,HT.b_,Option.getD_none,show (1:Int) > 0 by decide,MQ]
   by_cases h:i<0
   ·simp only[h,MQ]<;>lia
   ·simp only[h,MX]<;>lia
 ·cases hi with
  |none=>simp[sliceBounds,HT.b_]
  |some i =>
   simp only[sliceBounds,HT.b_,Option.getD_none,show (1:Int) > 0 by decide,MQ]
   by_cases h:i<0
   ·simp only[h,MQ]<;>lia
   ·simp only[h,MX]<;>lia
theorem lX(its:List Value)(lo hi:Option Int):slicePick its.toArray lo hi none=((its.drop (HT.b_ its.length 0 lo)).take (HT.b_ its.length its.length hi-HT.b_ its.length 0 lo)).toArray:=by
 obtain⟨h1,h2,h3⟩:=nQ lo hi its.toArray.size;unfold slicePick;rw[h1,h2,h3];simp only[sliceRange_one,pick_run,Kh]<;>rfl
noncomputable def Ez(K:PJ):V->Option Int->Option Int->Hp->VK->Prop:=λx lo hi H Q=>∃a xs,x=.ref a/\bB K H a xs/\∀p,H p=none->Q (.ref p) (upd H p (.lst (eC xs lo hi)))
theorem nG:uR X (Ez X.K):=by
 intro pins s σ H x v vl vu lo hi sl Q I rx hs pl pu h;obtain⟨a,xs,rfl,hx,q⟩:=h;cases rx;obtain⟨its,r,ht,hz⟩:=I.list hx;have hlen:=r.length;refine⟨"list",_,Oz.lookup,ht.isList.typeIs,?_⟩;refine OF ht.isList hs pl pu .none (by simp) ?_ (by rw[Kh]<;>lia)
 rw[lX,<- hlen];refine⟨.ref s.heap.objs.size,_,I.laid (t':=s.toks) (o:=.lst (eC xs lo hi)) (λb ob q=>Kg _ q) (Kk _) ?_,rfl,q _ (I.ba.fresh (Kk _))⟩;exact⟨Kn (j4 xs lo hi) hz,_,0,(r.drop (HT.b_ xs.length 0 lo)).take (HT.b_ xs.length xs.length hi-HT.b_ xs.length 0 lo),Ky _ rfl⟩
noncomputable def cQ:V->Bool
 |.aX=>true
 |.bl _=>true
 |.int _=>true
 |.str _=>true
 |_=>false
noncomputable def xp:V->V->Bool
 |.aX,.aX=>true
 |.bl a,.bl b=>a == b
 |.bl a,.int b=>(if a then 1 else 0) == b
 |.int a,.bl b=>a ==(if b then 1 else 0)
 |.int a,.int b=>a == b
 |.str a,.str b=>a == b
 |_,_=>false
theorem nk{A:Around}{s:Shared}{v:Value}(ry:RelV y u)(rx:RelV x v)(fy:cQ y=true)(fx:cQ x=true):SeqAt.EqAt A s u v (xp y x):=by
 cases y with
 |aX =>
  cases ry
  cases x with
  |aX=>cases rx;exact SeqAt.EqAt.same _
  |bl b=>cases rx;exact SeqAt.EqAt.none_bool b
  |int b=>obtain⟨t,rfl⟩:=rx;exact SeqAt.EqAt.none_int b t
  |str b=>obtain⟨t,rfl⟩:=rx;exact SeqAt.EqAt.none_str b t
  |_=>exact absurd (show false=true from fx) Kx
 |bl a =>
  cases ry
  cases x with
  |aX=>cases rx;exact SeqAt.EqAt.bool_none a
  |bl b=>cases rx;exact SeqAt.EqAt.bool_bool a b
  |int b=>obtain⟨t,rfl⟩:=rx;exact SeqAt.EqAt.bool_int a b t
  |str b=>obtain⟨t,rfl⟩:=rx;exact SeqAt.EqAt.bool_str a b t
  |_=>exact absurd (show false=true from fx) Kx
 |int a =>
  obtain⟨t',rfl⟩:=ry
  cases x with
  |aX=>cases rx;exact SeqAt.EqAt.int_none a t'
  |bl b=>cases rx;exact SeqAt.EqAt.int_bool a t' b
  |int b=>obtain⟨t,rfl⟩:=rx;exact SeqAt.EqAt.int_int a t' b t
  |str b=>obtain⟨t,rfl⟩:=rx;exact SeqAt.EqAt.int_str a t' b t
  |_=>exact absurd (show false=true from fx) Kx
 |str a =>
  obtain⟨t',rfl⟩:=ry
  cases x with
  |aX=>cases rx;exact SeqAt.EqAt.str_none a t'
  |bl b=>cases rx;exact SeqAt.EqAt.str_bool a t' b
  |int b=>obtain⟨t,rfl⟩:=rx;exact SeqAt.EqAt.str_int a t' b t
  |str b=>obtain⟨t,rfl⟩:=rx;exact SeqAt.EqAt.str_str a t' b t
  |_=>exact absurd (show false=true from fx) Kx
 |_=>exact absurd (show false=true from fy) Kx
noncomputable def Ca(x:V)(u:Value):Bool:=match u with
 |.none=>xp .aX x
 |.bool b=>xp (.bl b) x
 |.int i _=>xp (.int i) x
 |.str z _=>xp (.str z) x
 |_=>false
theorem zO(r:RelV y u)(f:cQ y=true):Ca x u=xp y x:=by
 cases y with
 |aX=>cases r;rfl
 |bl b=>cases r;rfl
 |int i=>obtain⟨t,rfl⟩:=r;rfl
 |str z=>obtain⟨t,rfl⟩:=r;rfl
 |_=>exact absurd (show false=true from f) Kx
theorem nY:∀{xs:List V} {us:List Value},Vals xs us->xs.all cQ=true->us.any (Ca x)=xs.any λy=>xp y x
 |_,_,.nil,_=>rfl
 |y::xs,u::us,.cons r t,f=>by
  rw[L_,Lo] at f;rw[N2,N2,zO r f.1,nY t f.2]
theorem kr{A:Around}{s:Shared}{v:Value}(rx:RelV x v)(fx:cQ x=true):∀{xs:List V} {us:List Value},Vals xs us->xs.all cQ=true->∀u∈us,SeqAt.EqAt A s u v (Ca x u)
 |_,_,.nil,_=>λu hu=>by cases hu
 |y::xs,u::us,.cons r t,f=>λu' hu=>by
  rw[L_,Lo] at f;rcases Kl.mp hu with rfl|hu
  ·rw[zO r f.1];exact nk r rx f.1 fx
  ·exact kr rx fx t f.2 u' hu
noncomputable def qM(x:V)(xs:List V):Bool:=xs.any λy=>xp y x
noncomputable def I_(K:PJ)(neg:Bool):R2:=λx y H Q=>∃p xs,y=.ref p/\(bB K H p xs\/aY K H p xs)/\cQ x=true/\xs.all cQ=true/\Q (.bl (if neg then !qM x xs else qM x xs)) H
theorem mM:dh X (compareOp .In) (I_ X.K false):=by
 intro pins s σ H x y v u Q I rx ry h;obtain⟨p,xs,rfl,hq,fx,fs,q⟩:=h;cases ry;rcases hq with hq|hq
 ·obtain⟨its,r,pl,hz⟩:=I.list hq;refine SeqAt.in_listAt (Ca x) pl.isList (λw hw=>kr rx fx r fs w (by simpa using hw)) ⟨.bl _,H,I,rfl,?_⟩
  rw[show its.toArray.any (Ca x)=its.any (Ca x) by simp,nY r fs]
  exact q
 ·obtain⟨its,r,pl,hz⟩:=I.tuple hq;refine SeqAt.in_tupleAt (Ca x) pl (λw hw=>kr rx fx r fs w (by simpa using hw)) ⟨.bl _,H,I,rfl,?_⟩
  rw[show its.toArray.any (Ca x)=its.any (Ca x) by simp,nY r fs]
  exact q
theorem bE.or{f:Value}{r r':List V->Hp->VK->Prop}(h:bE X f r)(h':bE X f r'):bE X f (λxs H Q=>r xs H Q\/r' xs H Q):=by
 intro pins s σ H xs us Q I rs q;rcases q with q|q
 ·exact h pins s σ H xs us Q I rs q
 ·exact h' pins s σ H xs us Q I rs q
theorem ni:bE X (.type "list") (λxs H Q=>∃p ys,xs=[.ref p]/\(bB X.K H p ys\/aY X.K H p ys)/\∀l,H l=none->Q (.ref l) (upd H l (.lst ys))):=by
 intro pins s σ H xs us Q I r h;obtain⟨p,ys,rfl,hq,q⟩:=h;obtain⟨u,rfl,rx⟩:=vals1 r;cases rx;have fin:∀(its:List Value),Vals ys its->ys.length<=sizeLine->∀(h':Heap) (c':Nat),(∀b o',s.heap.get? b=some o'->h'.get? b=some o') ->
   h'.get? s.heap.objs.size=some {cls:=.type "list",dict:=none,data:=.seq its.toArray c',slots:=#[]}->EP X pins σ Q (.ref s.heap.objs.size) {s with heap:=h'}:=λits r' hz h' c' kp e =>
  ⟨.ref s.heap.objs.size,_,I.laid (t':=s.toks) kp (Kk _) (show bQ X.prog X.w _ h' _ (.lst ys) from⟨hz,its,c',r',e⟩),rfl,q _ (I.ba.fresh (Kk _))⟩
 rcases hq with hq|hq
 ·obtain⟨its,r',pl,hz⟩:=I.list hq;have hlen:=r'.length;obtain⟨o,ho,hc,n,hd⟩:=pl.isList;exact call_list_seq p (.inl rfl) ho hc hd (λh' c' kp e=>fin its r' hz h' c' kp e) (by simp only[Kh]<;>lia)
 ·obtain⟨its,r',pl,hz⟩:=I.tuple hq;have hlen:=r'.length;obtain⟨o,ho,hc,n,hd⟩:=pl;exact call_list_seq p (.inr rfl) ho hc hd (λh' c' kp e=>fin its r' hz h' c' kp e) (by simp only[Kh]<;>lia)
theorem fm:bE X (.type "tuple") (λxs H Q=>∃p ys,xs=[.ref p]/\((bB X.K H p ys/\∀l,H l=none->Q (.ref l) (upd H l (.tup ys)))\/(aY X.K H p ys/\Q (.ref p) H))):=by
 intro pins s σ H xs us Q I r h;obtain⟨p,ys,rfl,h⟩:=h;obtain⟨u,rfl,rx⟩:=vals1 r;cases rx;rcases h with ⟨hq,q⟩|⟨hq,q⟩
 ·obtain⟨its,r',pl,hz⟩:=I.list hq;have hlen:=r'.length;refine call_tuple_list pl.isList (λh' kp=>?_) (by simp only[Kh]<;>lia)
  have I1:Inv X pins σ H {s with heap:=h'}:=I.kept (t':=s.toks) kp
  have I2:Inv X pins σ (upd H h'.objs.size (.tup ys)) {s with heap:=h'.push {cls:=.type "tuple",data:=.seq its.toArray}}:=
   I1.laid (t':=s.toks) (λb o e=>Kg _ e) (Kk _) (show bQ X.prog X.w _ _ _ (.tup ys) from⟨hz,its,r',eL.new _ _⟩)
  exact⟨.ref h'.objs.size,_,I2,rfl,q _ (I1.ba.fresh (Kk _))⟩
 ·obtain⟨its,r',pl,hz⟩:=I.tuple hq;exact call_tuple_same pl ⟨.ref p,H,I,rfl,q⟩
noncomputable def GB(K:PJ)(T:String)(x:V)(H:Hp):Prop:=match x with
 |.str _=>T="str"
 |.int _=>T="int"
 |.ref p=>(T="list"/\∃xs,bB K H p xs)\/(T="tuple"/\∃o,K.lookup p=some o/\o.cls=.type "tuple"/\o.dict=none) \/
   (T="dict"/\((∃kvs,H p=some (.dK kvs))\/∃kvs,H p=some (.dT kvs)))\/(T="set"/\∃S n,H p=some (.set S n))
 |_=>False
theorem yY{s:Shared}{T:String}{v:Value}(I:Inv X pins σ H s)(r:RelV x v)(ty:GB X.K T x H):
  s.TypeIs v T/\∀a,v=.ref a->∃ob,s.heap.get? a=some ob/\ob.dict=none:=by
 cases x with
 |str z =>
  obtain⟨t,rfl⟩:=r
  cases (show T="str" from ty)
  exact⟨P4 s z t,λ_ e=>nomatch e⟩
 |int i =>
  obtain⟨t,rfl⟩:=r
  cases (show T="int" from ty)
  exact⟨O4 s i t,λ_ e=>nomatch e⟩
 |ref p =>
  cases r;rcases ty with ⟨rfl,xs,hq⟩|⟨rfl,o,hk,hc,hd⟩|⟨rfl,hk⟩|⟨rfl,S,n,hk⟩
  ·obtain⟨its,_,pl,_⟩:=I.list hq;refine⟨pl.isList.typeIs,λa e=>?_⟩;cases e;obtain⟨o,n,e,c,hd,_⟩:=pl;exact⟨o,e,hd⟩
  ·refine⟨⟨o,I.pM p o hk,hc⟩,λa e=>?_⟩;cases e;exact⟨o,I.pM _ o hk,hd⟩
  ·have z:∃o,s.heap.get? p=some o/\o.ExactDict:=by
    rcases hk with ⟨kvs,hk⟩|⟨kvs,hk⟩
    ·obtain⟨_,_,_,_,o,_,_,e,ex,_⟩:=I.ba p _ hk;exact⟨o,e,ex⟩
    ·obtain⟨_,_,_,_,o,_,_,e,ex,_⟩:=I.ba p _ hk;exact⟨o,e,ex⟩
   obtain⟨o,e,ex⟩:=z;refine⟨⟨o,e,ex.1⟩,λa e2=>?_⟩;cases e2;exact⟨o,e,ex.2.1⟩
  ·obtain⟨o,_,_,_,e,ex,_⟩:=I.ba p _ hk;refine⟨⟨o,e,ex.1⟩,λa e2=>?_⟩;cases e2;exact⟨o,e,ex.2.1⟩
 |_=>exact False.elim ty
def xS(K:PJ)(T:String)(r:V->List V->Hp->VK->Prop)(to:TE):TE:=λσ H Q=>to σ H λx H1=>GB K T x H1/\r x [] H1 Q
def GA(K:PJ)(T:String)(r:V->List V->Hp->VK->Prop)(to:TE)(t:TA):TE:=λσ H Q=>to σ H λx H1=>GB K T x H1/\t σ H1 λxs H2=>r x xs H2 Q
variable {o e:Expr} {es:List Expr} {to:TE} {t:TA} {name:Str} {apos cpos:Pos} {T id:String} {r:V->List V->Hp->VK->Prop}
theorem FZ(pa:PlainAttrs T)(slot:Slot T name id)(hty:typeOf (.builtin id)=pure (.type "method_descriptor"))(hm:xf X id r)(ho:PE X o to)
  (hbase:autoParam (attributeBase o name X.env (eval o X.env)=eval o X.env) ℜ0) (hline:autoParam ((apos.endLine == cpos.line)=true) ℜ0):PE X (.Call (.Attribute o name apos) [] [] cpos) (xS X.K T r to):=by
 intro pins s σ H Q I h;refine wpAny_Call_method0_late hbase hline (bZ (ho pins s σ H _ I h) λv s1 hq53=>?_);obtain⟨x,H1,I1,r1,ty,q1⟩:=hq53;obtain⟨h1,h2⟩:=yY I1 r1 ty;exact⟨T,id,pa,slot,hty,h1,h2,OZ rfl (PySem.evalArgs_none (hm pins s1 σ H1 x [] v [] Q I1 r1 .nil q1))⟩
theorem Io(pa:PlainAttrs T)(slot:Slot T name id)(hty:typeOf (.builtin id)=pure (.type "method_descriptor"))(hm:xf X id r)(ho:PE X o to)(ha:PA X (e::es) t)
  (hbase:autoParam (attributeBase o name X.env (eval o X.env)=eval o X.env) ℜ0)
  (hfew:autoParam (((backTo cpos (starEach (e::es) X.env)).all (λx=>!x.1) && (backToKw cpos (keywordEach [] X.env)).all (λx=>x.1.isSome)
   && decide ((e::es).length+([]:List Keyword).length+(if ([]:List Keyword).isEmpty then 0 else 1)<30))=true) ℜ0)
  (hline:autoParam ((apos.endLine == cpos.line)=true) ℜ0) (hs:autoParam (starEach (e::es) X.env=(false,eval e X.env)::starEach es X.env) ℜ0) (hplain:autoParam ((backTo cpos (starEach es X.env)).any (·.1)=false) ℜ0) :
  PE X (.Call (.Attribute o name apos) (e::es) [] cpos) (GA X.K T r to t):=by
 intro pins s σ H Q I h;refine wpAny_Call_method_late hbase hfew hline rfl (bZ (ho pins s σ H _ I h) λv s1 hq54=>?_);obtain⟨x,H1,I1,r1,ty,q1⟩:=hq54;obtain⟨h1,h2⟩:=yY I1 r1 ty;refine⟨T,id,pa,slot,hty,h1,h2,?_⟩;have hA:=ha cpos pins s1 σ H1 _ I1 q1;rw[hs] at hA ⊢;refine OZ (by show (false || (backTo cpos (starEach es X.env)).any (·.1))=false;rw[hplain]<;>rfl) (Calls.evalArgs_plain ?_)
 exact bZ hA λus s2 ⟨vs,H2,I2,r2,q2⟩=>hm pins s2 σ H2 x vs v us Q I2 r1 r2 q2
/- xs.append(e),list.index on a module's tuple .. are xf facts of 06m -/
end
noncomputable def G7(X:Cx)(id:String)(r:V->List V->Hp->VK->Prop):Prop:=
 ∀(pins:List (Addr×Obj)) (s:Shared) (σ:St) (H:Hp) (x:V) (xs:List V) (v:Value) (us:List Value) (Q:VK),Inv X pins σ H s->RelV x v->Vals xs us->r x xs H Q ->
  wpAny (model X.prog X.w) X.A (call (.builtin id) (v::us)) (EP X pins σ Q) X.xe s
theorem Vals.one:∀{x:V} {us:List Value},Vals [x] us->∃u,us=[u]/\RelV x u
 |_,_,.cons r .nil=>⟨_,rfl,r⟩
theorem Vals.eraseIdx:∀{xs:List V} {us:List Value} (i:Nat),Vals xs us->Vals (xs.eraseIdx i) (us.eraseIdx i)
 |_,_,_,.nil=>.nil
 |_,_,0,.cons _ t=>t
 |_,_,i+1,.cons r t=>.cons r (Vals.eraseIdx i t)
theorem Vals.rep{xs:List V}(h:Vals xs us):∀k:Nat,Vals (List.replicate k xs).flatten (List.replicate k us).flatten
 |0=>.nil
 |k+1=>by
  rw[KW,KW,KL,KL];exact Vals.append h (Vals.rep h k)
theorem mx:∀(l:List α) (i:Nat),(l.eraseIdx i).length<=l.length
 |[],_=>Kk _
 |_::_,0=>Ln _
 |_::r,i+1=>N6 (mx r i)
theorem foldl_rep(its:List Value):∀(k:Nat) (acc:List Value),
  List.foldl (λx1 x2=>x1++x2) acc.toArray (List.replicate k its.toArray)=(acc++(List.replicate k its).flatten).toArray
 |0,acc=>by simp
 |k+1,acc=>by
  have e:acc.toArray++its.toArray=(acc++its).toArray:=by simp
  have e2:(acc++its)++(List.replicate k its).flatten=acc++(List.replicate (k+1) its).flatten:=by
   rw[KW,KL,K2]
  rw[<- e2,<- foldl_rep its k (acc++its),<- e,KW,NI]
section
variable {X:Cx} {pins:List (Addr×Obj)} {σ:St} {H:Hp} {s:Shared} {l b:Addr} {xs ys zs:List V}
theorem Inv.CA{n:Nat}{f:Array Value->Array Value}{t':Nat}(I:Inv X pins σ H s)(hH:H l=some (.lst xs))
  (e:s.heap.get? l=some {cls:=.type "list",data:=.seq its.toArray n}) (hf:f its.toArray=its'.toArray) (hv:Vals ys its') (hz:ys.length<=sizeLine) :
  Inv X pins σ (upd H l (.lst ys)) {s with heap:=s.heap.update l (Obj.mapSeq f),toks:=t'}:=by
 have q:=PySem.IsL.update e f;rw[hf] at q;refine I.write (x:=l) (e:=l) (by rw[hH];exact trivial) (.inl rfl) (λb' u hb hu=>(OY s.heap (Obj.mapSeq f) (L0 hb)).trans hu) ⟨_,q⟩ ?_
 exact⟨hz,its',_,hv,q⟩
theorem Inv.Fj{t':Nat}(I:Inv X pins σ H s)(hv:Vals ys its)(hz:ys.length<=sizeLine):
  Inv X pins σ (upd H s.heap.objs.size (.lst ys)) {s with heap:=s.heap.push {cls:=.type "list",data:=.seq its.toArray},toks:=t'}:=
 I.laid (λ_ _ q=>Kg _ q) (Kk _) ⟨hz,its,0,hv,Ky _ rfl⟩
theorem Inv.fresh(I:Inv X pins σ H s):H s.heap.objs.size=none:=I.ba.fresh (Kk _)
theorem Inv.mf(I:Inv X pins σ H s)(hH:H l=some (.lst xs)):xs.length<=sizeLine/\∃(its:List Value) (n:Nat),Vals xs its/\xs.length=its.length/\s.heap.get? l=some {cls:=.type "list",data:=.seq its.toArray n}:=by
 obtain⟨z,its,n,r,e⟩:=I.ba l _ hH;exact⟨z,its,n,r,r.length,e⟩
theorem xV{n:Nat}(h:n<=sizeLine):Builtin.List.listTooLong n=false:=by
 unfold Builtin.List.listTooLong;exact KH (by lia)
end
section
variable {X:Cx}
noncomputable def Be:V->List V->Hp->VK->Prop:=λx vs H Q=>∃l xs y,x=.ref l/\vs=[y]/\H l=some (.lst xs)/\xs.length<sizeLine/\Q .aX (upd H l (.lst (xs++[y])))
theorem cC:G7 X "list.append" Be:=by
 intro pins s σ H x vs v us Q I rx rv h;obtain⟨l,xs,y,rfl,rfl,hH,hz,q⟩:=h;cases rx;obtain⟨u,rfl,ru⟩:=rv.one;obtain⟨z,its,n,r,hl,e⟩:=I.mf hH;refine Me F.slot_list_append ⟨_,e,rfl⟩ F.entry_list_append (F.args_list_append_2 _ _) (PySem.list_append l its.toArray n u (by rw[Kh];lia)) ⟨e,?_⟩
 refine⟨.aX,_,I.CA (its':=its++[u]) hH e (by simp) (r.append (.cons ru .nil)) ?_,rfl,q⟩
 rw[Ke,MR];lia
noncomputable def Gu:V->List V->Hp->VK->Prop:=λx vs H Q=>∃l xs i k y,x=.ref l/\vs=[.int i]/\H l=some (.lst xs)/\-(2^63)<=i/\i<2^63/\seqIndex? i xs.length=some k/\xs[k]?=some y/\Q y (upd H l (.lst (xs.eraseIdx k)))
theorem Aa:G7 X "list.pop" Gu:=by
 intro pins s σ H x vs v us Q I rx rv h;obtain⟨l,xs,i,k,y,rfl,rfl,hH,h1,h2,hk,hy,q⟩:=h;cases rx;obtain⟨u,rfl,ru⟩:=rv.one;obtain⟨t,rfl⟩:=ru;obtain⟨z,its,n,r,hl,e⟩:=I.mf hH;obtain⟨w,hw,rw'⟩:=r.get hy;refine Me F.slot_list_pop ⟨_,e,rfl⟩ F.entry_list_pop (F.args_list_pop_2 _ _)
  (MeetsSeq.list_pop_at l its.toArray n i t k w (Pm h1 h2) (by rw[Kh,<- hl];exact hk) (by rw[<- KQ];exact hw) (by rw[Kh];lia)) ⟨e,?_⟩
 refine⟨y,_,I.CA (its':=its.eraseIdx k) hH e ?_ (r.eraseIdx k) ?_,rw',q⟩
 ·show its.toArray.eraseIdxIfInBounds k=(its.eraseIdx k).toArray;rw[List.eraseIdxIfInBounds_toArray]
 ·have:=mx xs k;lia
noncomputable def HX:R2:=λx y H Q=>∃l b xs zs,x=.ref l/\y=.ref b/\H l=some (.lst xs)/\H b=some (.lst zs)/\xs.length+zs.length<=sizeLine/\∀p,H p=none->Q (.ref p) (upd H p (.lst (xs++zs)))
theorem zq:dh X (binaryOp .Add) HX:=by
 intro pins s σ H x y v u Q I rx ry h;obtain⟨l,b,xs,zs,rfl,rfl,hH,hB,hz,q⟩:=h;cases rx;cases ry;obtain⟨z,its,n,r,hl,e⟩:=I.mf hH;obtain⟨z2,its2,n2,r2,hl2,e2⟩:=I.mf hB;refine PySem.P.add_list e e2 ?_ (by rw[Kh,Kh];lia)
 have ea:its.toArray++its2.toArray=(its++its2).toArray:=by simp
 rw[ea];exact⟨.ref _,_,I.Fj (t':=s.toks) (r.append r2) (by rw[Ke];lia),rfl,q _ I.fresh⟩
noncomputable def HG:R2:=λx y H Q=>∃l k xs,x=.ref l/\y=.int k/\H l=some (.lst xs)/\-(2^63)<=k/\k<2^63/\xs.length*k.toNat<=sizeLine /\
 ∀p,H p=none->Q (.ref p) (upd H p (.lst (List.replicate k.toNat xs).flatten))
theorem len_rep(xs:List α)(k:Nat):(List.replicate k xs).flatten.length=k*xs.length:=by
 induction k with
 |zero=>simp
 |succ k ih=>rw[KW,KL,Ke,ih,Mr,PF]
theorem EH:dh X (binaryOp .Mult) HG:=by
 intro pins s σ H x y v u Q I rx ry h;obtain⟨l,k,xs,rfl,rfl,hH,h1,h2,hz,q⟩:=h;cases rx;obtain⟨t,rfl⟩:=ry;obtain⟨z,its,n,r,hl,e⟩:=I.mf hH;have hlen:its.toArray.size*k.toNat<=sizeLine:=by rw[Kh,<- hl];exact hz
 have hcap:¬ its.toArray.size*k.toNat >(2^63-1) / 8:=by
  have:(sizeLine:Nat)<=(2^63-1) / 8:=by decide
  lia
 have hfit:¬ (!Builtin.List.listFitsIndex k)=true:=by
  rw[Pm h1 h2];exact Kx
 have hlong:¬ Builtin.List.listTooLong (its.toArray.size*k.toNat)=true:=by
  rw[xV hlen];exact Kx
 have hnew:List.foldl (λx1 x2=>x1++x2) #[] (List.replicate (if its.toArray.isEmpty=true then 0 else k.toNat) its.toArray)=(List.replicate k.toNat its).flatten.toArray:=by
  have f0:∀m:Nat,List.foldl (λx1 x2=>x1++x2) #[] (List.replicate m its.toArray)=(List.replicate m its).flatten.toArray:=λm=>by
   have:=foldl_rep its m [];rw[LM] at this;exact this
  rw[f0]
  cases its with
  |nil=>simp
  |cons a r'=>rw[Ki (by simp)]
 refine O5 (T:="list") (U:="int") (by decide) ⟨_,e,rfl⟩ (λs'=>O4 s' k t) noFill_list_mul F.fills_int_mul F.slot_int_rmul repeat_list F.slot_int_index.lookup
  (Me F.slot_int_rmul (O4 s k t) F.entry_int_rmul (F.args_int_rmul_2 _ _) (int___rmul___int_list k t l its.toArray n)
   ⟨e,rfl,⟨_,e,rfl⟩,Me F.slot_list_mul ⟨_,e,rfl⟩ F.entry_list_mul (F.args_list_mul_2 _ _) (AutoListH.list___mul___list_int_3 l its.toArray n k t hfit hcap hlong) ⟨e,?_⟩⟩)
 rw[hnew];exact⟨.ref _,_,I.Fj (t':=s.toks) (r.rep k.toNat) (by rw[len_rep,Nk];exact hz),rfl,q _ I.fresh⟩
end
section
variable {κ:Type} [DecidableEq κ]
noncomputable def ik(kvs:List (κ×V))(k:κ):Option V:=(kvs.find? λkv=>decide (kv.1=k)).map (·.2)
noncomputable def putK(kvs:List (κ×V))(k:κ)(v:V):List (κ×V):=
 if (kvs.any λkv=>decide (kv.1=k))=true then kvs.map (λkv=>if kv.1=k then (kv.1,v) else kv) else kvs++[(k,v)]
theorem jW{p:κ×V}{r:List (κ×V)}{k:κ}(e:p.1=k):ik (p::r) k=some p.2:=by simp[ik,LX,e]
theorem kQ{p:κ×V}{r:List (κ×V)}{k:κ}(e:¬ p.1=k):ik (p::r) k=ik r k:=by simp[ik,LX,e]
theorem iA(k:κ):∀kvs:List (κ×V),(kvs.any λkv=>decide (kv.1=k))=(ik kvs k).isSome
 |[]=>rfl
 |p::r=>by
  rw[N2];by_cases e:p.1=k
  ·simp only[jW e,KG e,Bool.true_or,Option.isSome_some]
  ·rw[kQ e,KH e,Bool.false_or];exact iA k r
theorem gM(kvs:List (κ×V))(k:κ)(v:V):(putK kvs k v).length<=kvs.length+1:=by
 unfold putK;split
 ·rw[Kc];lia
 ·rw[Ke,Kq,LH];lia
theorem xF{kvs:List (κ×V)}{k:κ}(v:V)(h:ik kvs k=none):putK kvs k v=kvs++[(k,v)]:=by
 unfold putK;rw[iA,h];exact Ki (by decide)
theorem hJ.xg{u:Option Value}(r:hJ o u):o.isSome=u.isSome:=by
 cases o with
 |none=>cases u with
  |none=>rfl
  |some _=>exact (show False from r).elim
 |some _=>cases u with
  |none=>exact (show False from r).elim
  |some _=>rfl
theorem KV.val{kvs:List (κ×V)}{vs:List (κ×Value)}(r:KV kvs vs)(k:κ):hJ (ik kvs k) (valueAt vs k):=by
 unfold KV at r
 induction r with
 |nil=>exact True.intro
 |@cons p q ps qs h t ih =>
  obtain⟨h1,h2⟩:=h;by_cases e:p.1=k
  ·have e':q.1=k:=h1.symm.trans e;have b:valueAt (q::qs) k=some q.2:=by simp[valueAt,LX,e']
   rw[jW e,b];exact h2
  ·have e':¬ q.1=k:=λz=>e (h1.trans z);have b:valueAt (q::qs) k=valueAt qs k:=by simp[valueAt,LX,e']
   rw[kQ e,b];exact ih
theorem KV.any{kvs:List (κ×V)}{vs:List (κ×Value)}(r:KV kvs vs)(k:κ):(kvs.any λkv=>decide (kv.1=k))=vs.any λkv=>decide (kv.1=k):=by
 unfold KV at r
 induction r with
 |nil=>rfl
 |cons h t ih=>rw[N2,N2,ih,h.1]
theorem KV.EC{kvs:List (κ×V)}{vs:List (κ×Value)}(r:KV kvs vs)(k:κ)(ry:RelV y u):
  KV (kvs.map λkv=>if kv.1=k then (kv.1,y) else kv) (vs.map λkv=>if kv.1=k then (kv.1,u) else kv):=by
 unfold KV at r ⊢
 induction r with
 |nil=>exact .nil
 |@cons p q ps qs h t ih =>
  rw[K9,K9];refine .cons ?_ ih;obtain⟨h1,h2⟩:=h;by_cases e:p.1=k
  ·rw[Kj e,Kj (h1.symm.trans e)];exact⟨h1,ry⟩
  ·rw[Ki e,Ki (λz=>e (h1.trans z))];exact⟨h1,h2⟩
theorem KV.put{kvs:List (κ×V)}{vs:List (κ×Value)}(r:KV kvs vs)(k:κ)(ry:RelV y u):KV (putK kvs k y) (stored vs k u):=by
 unfold putK stored;rw[r.any k];by_cases e:(vs.any λkv=>decide (kv.1=k))=true
 ·rw[Kj e,Kj e];exact r.EC k ry
 ·rw[Ki e,Ki e];exact Paired.snoc r ⟨rfl,ry⟩
theorem KV.length{kvs:List (κ×V)}{vs:List (κ×Value)}(r:KV kvs vs):kvs.length=vs.length:=Paired.length r
end
theorem tH{k:Key}(r:RelV (kV k) u):(cz P w).is k u=true:=by
 cases k with
 |inl i=>obtain⟨t,e⟩:=(show ∃t,u=Value.int i t from r);subst e;exact qN P w i t
 |inr x=>obtain⟨t,e⟩:=(show ∃t,u=Value.str x t from r);subst e;exact qr P w x t
theorem mF:∀{ks:List Key} {us:List Value},Vals (ks.map kV) us->ItemsAre (cz P w) ks us
 |[],_,r=>by rw[Mh] at r;cases r;exact .nil
 |k::ks,_,r=>by
  rw[K9] at r
  cases r with
  |cons h t=>exact .cons (tH h) (mF t)
abbrev KT(H:Hp):List (List Key×V)->List (List Key×Addr×Value)->Prop:=Paired λp q=>p.1=q.1/\H q.2.1=some (.tup (p.1.map kV))/\RelV p.2 q.2.2
theorem KT.val(r:KT H kvs xs)(k:List Key):hJ (ik kvs k) ((atKey xs k).map (·.2)):=by
 induction r with
 |nil=>exact True.intro
 |@cons p q ps qs h t ih =>
  obtain⟨h1,_,h2⟩:=h;by_cases e:p.1=k
  ·have e':q.1=k:=h1.symm.trans e;have b:atKey (q::qs) k=some q.2:=by simp[atKey,LX,e']
   rw[jW e,b];exact h2
  ·have e':¬ q.1=k:=λz=>e (h1.trans z);have b:atKey (q::qs) k=atKey qs k:=by simp[atKey,LX,e']
   rw[kQ e,b];exact ih
theorem KT.EC(r:KT H kvs xs)(k:List Key)(ry:RelV y u):
  KT H (kvs.map λkv=>if kv.1=k then (kv.1,y) else kv) (xs.map (putAt k u)):=by
 induction r with
 |nil=>exact .nil
 |@cons p q ps qs h t ih =>
  rw[K9,K9];refine .cons ?_ ih;obtain⟨h1,h2,h3⟩:=h;unfold putAt;by_cases e:p.1=k
  ·rw[Kj e,Kj (h1.symm.trans e)];exact⟨h1,h2,ry⟩
  ·rw[Ki e,Ki (λz=>e (h1.trans z))];exact⟨h1,h2,h3⟩
theorem KT.put(r:KT H kvs xs)(k:List Key){b:Addr}(hb:H b=some (.tup (k.map kV)))(ry:RelV y u):
  KT H (putK kvs k y) (storedH xs k b u):=by
 have e:(kvs.any λkv=>decide (kv.1=k))=(atKey xs k).isSome:=by
  rw[iA,(r.val k).xg,Option.isSome_map]
 unfold putK storedH;rw[e];by_cases q:(atKey xs k).isSome=true
 ·rw[Kj q,Kj q];exact r.EC k ry
 ·rw[Ki q,Ki q];exact Paired.snoc r ⟨rfl,hb,ry⟩
theorem KT.keeps(r:KT H kvs xs)(ht:∀b ys,H b=some (.tup ys)->H' b=some (.tup ys)):KT H' kvs xs:=
 Paired.Fl r λ_ _ z=>⟨z.1,ht _ _ z.2.1,z.2.2⟩
section
variable {P:Program} {w:World} {H:Hp} {h:Heap} {a:Addr}
theorem D8{u:HO}(ok:iz P w H h)(e:Rd H a u):bQ P w H h a u:=e.ok ok
theorem xN{kvs:List (Key×V)}(ok:iz P w H h)(e:Rd H a (.dK kvs)):kvs.length<=sizeLine/\(a == sysModules)=false/\∃vs,KV kvs vs/\h.DictOf (cz P w) a vs:=
 show bQ P w H h a (.dK kvs) from D8 ok e
theorem GP{kvs:List (Key×V)}(ok:iz P w H h)(e:H a=some (.dK kvs)):kvs.length<=sizeLine/\(a == sysModules)=false/\∃vs,KV kvs vs/\h.DictOf (cz P w) a vs:=xN ok (.inl e)
theorem t9{ks:List Key}(ok:iz P w H h)(e:H a=some (.tup (ks.map kV))):(tupleKind (cz P w)).is h ks a:=by
 obtain⟨_,its,r,o,h1,h2,n,h3,_⟩:=(show bQ P w H h a (.tup (ks.map kV)) from ok a _ e);exact⟨o,its.toArray,n,h1,h2,h3,by simpa using mF r⟩
theorem yW(ok:iz P w H h)(e:Rd H a (.dT kvs)):kvs.length<=sizeLine/\(a == sysModules)=false /\
  ∃xs,KT H kvs xs/\h.DictOfH (tupleKind (cz P w)) a xs:=by
 obtain⟨z,y,xs,r,o,es,ep,h1,h2,h3,h4,h5⟩:=(show bQ P w H h a (.dT kvs) from D8 ok e);refine⟨z,y,xs,r,o,es,ep,h1,h2,h3,h4,λx hx=>?_,h5⟩;have all:∀{l:List (List Key×V)} {m:List (List Key×Addr×Value)},KT H l m->∀x∈m,(tupleKind (cz P w)).is h x.1 x.2.1:=by
  intro l m q
  induction q with
  |nil=>intro x hx;exact nomatch hx
  |@cons p q ps qs hq t ih =>
   intro x hx;rcases Kl.mp hx with e|hx
   ·subst e;exact t9 ok (by rw[<- hq.1];exact hq.2.1)
   ·exact ih x hx
 exact all r x hx
theorem Im(ok:iz P w H h)(e:H a=some (.dT kvs)):kvs.length<=sizeLine/\(a == sysModules)=false /\
  ∃xs,KT H kvs xs/\h.DictOfH (tupleKind (cz P w)) a xs:=yW ok (.inl e)
end
noncomputable def wc(H:Hp)(a:Addr)(y:V)(r:Option V):Prop:=
 (∃kvs k,Rd H a (.dK kvs)/\y=kV k/\r=ik kvs k)\/∃kvs k b,Rd H a (.dT kvs)/\y=.ref b/\H b=some (.tup (k.map kV))/\r=ik kvs k
noncomputable def EY(H:Hp)(a:Addr)(y v:V)(H':Hp):Prop:=
 (∃kvs k,H a=some (.dK kvs)/\y=kV k/\kvs.length<sizeLine/\H'=upd H a (.dK (putK kvs k v))) \/
 ∃kvs k b,H a=some (.dT kvs)/\y=.ref b/\H b=some (.tup (k.map kV))/\kvs.length<sizeLine/\H'=upd H a (.dT (putK kvs k v))
section
variable {X:Cx} {pins:List (Addr×Obj)} {σ:St} {H:Hp} {s:Shared} {a:Addr} {y v:V} {u r:Value} {o:Option V} {A:Around} {E:Value->Shared->Prop}
theorem Inv.big(I:Inv X pins σ H s):sysModules<s.heap.objs.size:=by
 have h:mainGlobals<s.heap.objs.size:=(I.mod.glob.keeps I.bk).lt;exact MT (by decide) h
theorem wC(hu:A.units+1<cLine)(I:Inv X pins σ H s)(g:wc H a y (some v))(ry:RelV y u)(h:∀w' s',Inv X pins σ H s'->RelV v w'->Q w' s'):
  wpAny (model X.prog X.w) A (getItem (.ref a) u) Q E s:=by
 rcases g with ⟨kvs,k,e,ey,l⟩|⟨kvs,k,b,e,ey,eb,l⟩
 ·subst ey;obtain⟨z,hd,vs,rel,dd⟩:=xN I.ba e;obtain⟨w',hw,rw'⟩:=hJ.some_of (v:=v) (o:=valueAt vs k) (by rw[l];exact rel.val k)
  exact wpAny_getItem_of (tH ry) dd.mapOf hw (h w' _ (I.tok _) rw')
 ·subst ey
  cases (show u=Value.ref b from ry)
  obtain⟨z,hd,xs,rel,dd⟩:=yW I.ba e;obtain⟨w',hw,rw'⟩:=hJ.some_of (v:=v) (o:=(atKey xs k).map (·.2)) (by rw[l];exact rel.val k)
  obtain⟨p,hp,hp2⟩:=KD.mp hw;refine wpAny_getItem_heap (tupleKind_room_in1 hu) (t9 I.ba eb) dd hp ?_;rw[hp2];exact h w' _ (I.tok _) rw'
theorem va{h':Heap}{t':Nat}{ob:HO}(I:Inv X pins σ H s)(mu:GZ (H a))(hs:Heap.SameBut a s.heap h')(he:∃q,h'.get? a=some q)(new:bQ X.prog X.w (upd H a ob) h' a ob):
  Inv X pins σ (upd H a ob) {s with heap:=h',toks:=t'}:=
 I.write (x:=a) (e:=a) mu (.inl rfl) (λb q hb z=>(hs.2 b hb).trans z) he new
theorem zV{h':Heap}{kvs:List (Key×V)}{vs:List (Key×Value)}(z:kvs.length<=sizeLine)(hd:(a == sysModules)=false)(rel:KV kvs vs)(dd:h'.DictOf (cz P w) a vs):
  bQ P w H' h' a (.dK kvs):=⟨z,hd,vs,rel,dd⟩
theorem vx{Q:Unit->Shared->Prop}(hu:A.units+1<cLine)(I:Inv X pins σ H s)(g:EY H a y v H')(ry:RelV y u)(rv:RelV v r)(h:∀s',Inv X pins σ H' s'->Q () s'):
  wpAny (model X.prog X.w) A (setItem (.ref a) u r) Q E s:=by
 rcases g with ⟨kvs,k,e,ey,l,eH⟩|⟨kvs,k,b,e,ey,eb,l,eH⟩
 ·subst ey eH;obtain⟨z,hd,vs,rel,dd⟩:=GP I.ba e;have hz:vs.length<=sizeLine:=by rw[<- rel.length];exact z
  have hl:(putK kvs k v).length<=sizeLine:=by have:=gM kvs k v;lia
  refine wpAny_setItem_pairs (hsz:=hz) (tH ry) dd λh' dd' hs=>h _ ?_;have he:∃q,h'.get? a=some q:=let ⟨q,_,_,hq,_⟩:=dd';⟨q,hq⟩
  exact va I (by rw[e];exact True.intro) hs he (zV hl hd (rel.put k rv) dd')
 ·subst ey eH
  cases (show u=Value.ref b from ry)
  obtain⟨z,hd,xs,rel,dd⟩:=Im I.ba e;have hz:xs.length<=sizeLine:=by rw[<- Paired.length rel];exact z
  have hl:(putK kvs k v).length<=sizeLine:=by have:=gM kvs k v;lia
  refine wpAny_setItem_heap (hsz:=hz) (tupleKind_room_in1 hu) (t9 I.ba eb) dd λh' dd' hs=>h _ ?_;obtain⟨q,es,ep,hq,h2,h3,h4,_,h5⟩:=dd';refine va I (by rw[e];exact True.intro) hs ⟨q,hq⟩ ⟨hl,hd,_,(rel.put k eb rv).keeps λc ys ec=>?_,q,es,ep,hq,h2,h3,h4,h5⟩
  rw[ae (Ij ec e (λz=>nomatch z))];exact ec
end
def xW(i:Expr):Prop:=∀ov iv,subscripted i false ov iv=operate [ov,iv] (getItem ov iv)
theorem vj{prog:Program}{A:Around}{E:Value->Shared->Prop}{s:Shared}{env:Env}{value slice:Expr}{pos:Pos}{T id:String}
  (hl:typeLookup (.type T) "__getitem__"=pure (some (.builtin id))) (hs:xW slice)
  (h:wpAny (model prog w) A (eval value env) (λo s₁=>wpAny (model prog w) A (eval slice env) (λi s₂=>s₂.TypeIs o T/\wpAny (model prog w) A (getItem o i) Q E s₂) E s₁) E s) :
  wpAny (model prog w) A (eval (.Subscript value slice pos) env) Q E s:=by
 refine Subscript_ (Ls h (λo s₁ h₁=>Ls h₁ (λi s₂ h₂=>?_) λ_ _ x=>x) λ_ _ x=>x);obtain⟨hT,h₂⟩:=h₂;unfold subscriptTail;refine Kb ?_;rw[getitemInPython_of_ne hT.not_modules];refine Kb (wpAny_specialOf hT hl ?_);have fin:wpAny (model prog w) A (subscripted slice false o i) (λr s₃=>wpAny (model prog w) A (letTemporaryGo value o r >>= λ_=>pure r) Q E s₃) E s₂:=by
  rw[hs o i];exact wpAny_operating (Ls h₂ (λr s₃ h₃=>Kb (wpAny_letTemporaryGo (Ks h₃))) λ_ _ x=>x)
 first
  |exact Ks (Kb fin)
  |exact Kb (Ks (Kb fin))
  |exact Kb fin
theorem qJ{X:Cx}{s:Shared}{a:Addr}(I:Inv X pins σ H s)(g:wc H a y o):s.TypeIs (.ref a) "dict":=by
 rcases g with ⟨kvs,k,e,_,_⟩|⟨kvs,k,b,e,_,_,_⟩
 ·obtain⟨_,_,vs,_,dd⟩:=xN I.ba e;exact dd.typeIs
 ·obtain⟨_,_,xs,_,dd⟩:=yW I.ba e;exact dd.typeIs
def p5(td ty:TE):TE:=λσ H Q=>td σ H λx H1=>ty σ H1 λy H2=>∃a v,x=.ref a/\wc H2 a y (some v)/\Q v H2
def pS(td ty tv:TE):TS:=λD σ H=>tv σ H λv H1=>td σ H1 λx H2=>ty σ H2 λy H3=>∃a H4,x=.ref a/\EY H3 a y v H4/\D.nx σ H4
section
variable {X:Cx} {o i e value:Expr} {pos pos' tpos:Pos} {td ty tv:TE}
theorem Cq(hu:X.A.units+1<cLine)(ho:PE X o td)(hi:PE X i ty)(hs:xW i):PE X (.Subscript o i pos) (p5 td ty):=by
 intro pins s σ H Q I h;refine vj PySem.F.slot_dict_getitem.lookup hs (bZ (ho pins s σ H _ I h) λu s1 ⟨x,H1,I1,rx,q1⟩=>bZ (hi pins s1 σ H1 _ I1 q1) λiv s2 hq55=>?_);obtain⟨y,H2,I2,ry,a,v,ex,g,q2⟩:=hq55;subst ex;obtain rfl:u=Value.ref a:=rx;exact⟨qJ I2 g,wC hu I2 g ry λw' s3 I3 rw'=>⟨v,H2,I3,rw',q2⟩⟩
theorem Cc(hu:X.A.units+1<cLine)(ho:PE X o td)(hi:PE X i ty)(hv:PE X value tv)(hs:swapsWith value (some (.Subscript o i pos')) pos.line X.env=pure false):
  PS X (.Assign [.Subscript o i pos'] value pos) (pS td ty tv):=by
 intro pins s σ H D I h;refine wpAny_Assign_Subscript (bZ (hv pins s σ H _ I h) λr s1 ⟨v,H1,I1,rv,q1⟩=>bZ (ho pins s1 σ H1 _ I1 q1) λu s2 ⟨x,H2,I2,rx,q2⟩=>bZ (hi pins s2 σ H2 _ I2 q2) λiv s3 hq58=>?_) hs;obtain⟨y,H3,I3,ry,a,H4,ex,g,q3⟩:=hq58;subst ex;obtain rfl:u=Value.ref a:=rx;exact vx hu I3 g ry rv λs4 I4=>⟨σ,H4,I4,q3⟩
end
noncomputable def gK(kvs more:List (Key×V)):List (Key×V):=more.foldl (λacc kv=>putK acc kv.1 kv.2) kvs
theorem KV.merge:∀{more:List (Key×V)} {rs:List (Key×Value)} {kvs:List (Key×V)} {vs:List (Key×Value)},KV more rs->KV kvs vs->KV (gK kvs more) (merged vs rs):=by
 intro more rs kvs vs r;unfold KV at r
 induction r generalizing kvs vs with
 |nil=>intro q;exact q
 |@cons p q ps qs h t ih =>
  intro r0;have e:KV (putK kvs p.1 p.2) (stored vs q.1 q.2):=by
   have:=r0.put p.1 h.2;rw[<- h.1];exact this
  exact ih e
theorem ib:∀(more kvs:List (Key×V)),(gK kvs more).length<=kvs.length+more.length
 |[],kvs=>by show kvs.length<=kvs.length+0;lia
 |p::r,kvs=>by
  have h1:=ib r (putK kvs p.1 p.2);have h2:=gM kvs p.1 p.2;show (gK (putK kvs p.1 p.2) r).length<=_;rw[Kq];lia
end L2
namespace Att
open PySem PySem.W PySem.Calls PyProof.Rows
theorem jF{P:Params}{h:Heap}:∀(ns:List Int) (vs:List Value),WellAll P h vs (ns.map WData.int)->IntsAre vs ns:=by
 intro ns
 induction ns with
 |nil =>
  intro vs w;rw[List.map_nil] at w;cases w;exact .nil
 |cons n ns ih =>
  intro vs w;rw[List.map_cons] at w
  cases w with
  |cons a b =>
   cases a;exact .cons _ _ (ih _ b)
theorem vq{l:OpenLaw}{n:Nat}(hn:l.most=some n){P:Params}{h:Heap}{args:List WData}{vals:List Value}
  (hpre:l.row.toRowW.claim.pre args=true) (hwl:WellAll P h vals args) :
  ∃a vs ns,vals=[Value.ref a]/\args=[WData.list (ns.map WData.int)]/\h.get? a=some {cls:=.type "list",data:=.seq vs.toArray}/\IntsAre vs ns/\ns.length<=n:=by
 have hsh:WShape.hasAll [] args [.list .int]=true:=(pre_splitW hpre).1;have hc:l.pre.holds [] {args:=args}=true:=(pre_splitW hpre).2;obtain⟨d,r,rfl,h1,h2⟩:=hasAllW_cons hsh;obtain rfl:=hasAllW_nil h2;obtain⟨xs,rfl,h3⟩:=hasW_list h1;obtain⟨ns,rfl⟩:=items_int h3;have hlen:ns.length<=n:=by
  unfold OpenLaw.pre at hc;have h4:(WTm.not (.lt (.lit (.int (n:Int))) (.len (.arg 0)))).holds [] {args:=[.list (ns.map .int)]}=true:=by
   have h4:=(holds_andW hc).1;rw[hn] at h4;exact h4
  have h5:=condW_of h4 (w_not (w_lt w_lit (w_len_list (w_arg rfl))));rw[List.length_map] at h5;refine Nat.le_of_not_lt λq=>?_;have q':(n:Int)<((ns.length:Nat):Int):=by lia
  first
   | (rw[decide_eq_true q'] at h5;exact absurd h5 (by decide))
   | (simp at h5;lia)
 cases hwl with
 |cons w1 w2 =>
  cases w2
  cases w1 with
  |list ho hall=>exact⟨_,_,ns,rfl,rfl,ho,jF ns _ hall,hlen⟩
theorem vw(l:OpenLaw)(args:List WData):l.row.toRowW.claim.post args (.bool true) args=true:=
 postW_of (r:=l.row.toRowW) (X:=(true == true))
  (show WShape.has [] (.bool true) .bool=true by first|rfl|decide|simp[WShape.has,WShape.arms,WShape.armsAll])
  (show (WTm.eq .res (.lit (.bool true))).value [] {args:=args,res:=some (.bool true),after:=args}=some (.bool (true == true)) from w_eq_bool (w_res rfl) w_lit) rfl
theorem qw{l:OpenLaw}{n:Nat}{q:Program}{loose:List Str}{XP:(Str->Option Value)->Heap->Prop}{YP:World->Heap->Prop}{d:DefRec}
  (hn:l.most=some n) (hdf:d.params.defaults=[])
  (call:∀(w:World) (s₀ s₁:Shared) (mg mb:Str->Option Value) (fa:Addr) (o:Obj) (pm cd doc:Value) (a:Addr) (vs:List Value) (ns:List Int),
   Ground q loose [] XP w s₀ mg mb s₁.heap->YP w s₁.heap ->
   s₁.heap.get? fa=some o->o.data=.func (docDef d.name d.params d.body d.scope pm cd doc)->s₁.heap.CodeRec cd d.name->mg d.name=some (.ref fa) ->
   s₁.heap.get? a=some {cls:=.type "list",data:=.seq vs.toArray}->IntsAre vs ns->ns.length<=n->s₁.gens=#[] ->
   codeAny (model l.prog w) callerA (.call (.ref fa) ⟨[.ref a],[]⟩) (λr s'=>r=.ok (.ret (.bool true))/\OldK s₁.heap s'.heap/\s'.os=s₁.os/\AllBare s'.gens) s₁) :
  WalkO q loose XP YP l.row.toRowW d [] (λf vs=>PySem.call f vs):=by
 intro w s₀ s₁ mg mb G Y fa o pm cd doc dV kV ho hd eW hD hmg hg args vals as hpre hlay hrd hwl hlo;obtain rfl:dV=.none:=Dflts.none hD hdf;obtain rfl:kV=.none:=Dflts.noKw hD;obtain⟨a,vs,ns,rfl,rfl,hobj,hints,hlen⟩:=vq hn hpre hwl;refine enter_call (codeAny_mono (call w s₀ s₁ mg mb fa o pm cd doc a vs ns G Y ho (fd_plain hd) eW hmg hobj hints hlen hg) λr s' hq=>?_);obtain⟨rfl,h2,h3,h4⟩:=hq;exact⟨.inl ⟨.bool true,.bool true,[],rfl,λ_=>rfl,.bool true,vw l _,λ_=>⟨List.Pairwise.nil,λ_ hm=>(nomatch hm)⟩⟩,h2,h3,h4⟩
end Att
namespace L2
open PySem PySem.Spec PyProof.Rows
variable{P prog q:Program}{K:PJ}{N ON loose own:List Str}{mb mg:Str->Option Value}{base h:Heap}{b e elt iter tg:Expr}{o:HO}{w:World}{i j k:Nat}{a f p:Addr}{fd:FuncData}{qual x:Str}{sp:Sp}{ns:List Int}{X:Cx}{st:Stmt}{H H':Hp}{ws xs:List V}{osc scope:Scope}{env:Env}{cells:List (Str×Addr)}{α:Type}{E Q:Value->Shared->Prop}{es ifs:List Expr}{g:TG}{tc:TT}{te:TE}{pins:List (Addr×Obj)}{σ:St}{RR:Value->Addr->Result->Shared->Prop}{r:List V->Hp->VK->Prop}{ta:TA}{items:Array Value}{ex fp:List Addr}{lo:Int}{its its2:List Value}
theorem mY:∀{vs:List Value} {ns:List Int},IntsAre vs ns->Vals (ns.map V.int) vs
 |_,_,.nil=>.nil
 |_,_,.cons n t h=>.cons ⟨t,rfl⟩ (mY h)
structure iF (q:Program) (K:PJ):Prop where
 nt:PySem.W.noTabs K=true
 nd:((cy K).map (·.2.1)).Nodup
 fd:∀x∈dO,PySem.W.tabIn K x=none\/((recsOf q).find? (λe=>e.name == x)).isSome=true
theorem iF.at{mean:ExcName->Option Value}(L:iF q K)(T:Top q loose mean mg mb h)(X:K.In h):∀t∈cy K,PySem.W.CodeHd h t.1 t.2.1/\h.get? t.2.1=some (PySem.W.tabObj #[]):=λt ht=>by
 unfold cy at ht;obtain⟨x,hx,e⟩:=Ni.mp ht;obtain⟨p,e1,e2⟩:=KD.mp e;obtain⟨c,Pt⟩:=p;subst e2;rcases L.fd x hx with z|z
 ·rw[z] at e1;cases e1
 ·obtain⟨d,hd⟩:=OE.mp z;exact PySem.W.tab_of T X hd e1
noncomputable def oq:List (Addr×Addr×Str)->Addr->Option HO
 |[],_=>none
 |t::r,b=>if b=t.2.1 then some (.AD #[.str t.2.2 0]) else oq r b
theorem g_{b:Addr}:∀{l:List (Addr×Addr×Str)},oq l b=some o->∃t∈l,b=t.2.1/\o=.AD #[.str t.2.2 0]
 |t::r,e=>by
  unfold oq at e;by_cases z:b=t.2.1
  ·rw[Kj z] at e;cases e;exact⟨t,.head _,z,rfl⟩
  ·rw[Ki z] at e;obtain⟨u,hu,q⟩:=g_ e;exact⟨u,.tail _ hu,q⟩
theorem pH{t:Addr×Addr×Str}:∀{l:List (Addr×Addr×Str)},(l.map (·.2.1)).Nodup->t∈l->oq l t.2.1=some (.AD #[.str t.2.2 0])
 |u::r,nd,m=>by
  obtain⟨n1,n2⟩:=LG.mp nd;unfold oq;rcases Kl.mp m with rfl|m
  ·rw[Kj rfl]
  ·rw[Ki λz=>n1 (KZ.mpr ⟨t,m,z⟩)];exact pH n2 m
theorem zA{CX:qk}{fa:Addr}{s₁:Shared}{vs:List Value}
  (KX:K.In s₁.heap) (hns:s₁.heap.Ns mainGlobals mg) (hb:s₁.heap.Ns builtinsNs mb) (hbb:∀x:Str,x≠"__name__"->mb x=bootBuiltins x) (hlim:s₁.heap.NoLimit) (hbm:FD mg s₁.heap)
  (hT:∀t∈cy K,PySem.W.CodeHd s₁.heap t.1 t.2.1/\s₁.heap.get? t.2.1=some (PySem.W.tabObj #[])) (L:iF q K) (hg:s₁.gens=#[])
  (ha:s₁.heap.get? a=some {cls:=.type "list",data:=.seq vs.toArray}) (hi:IntsAre vs ns) (hl:ns.length<=sizeLine) (hr:bR k callerA)
  (F:∀base:Heap,K.In base->base.Ns mainGlobals mg->cP P w K mg base CX k fa fd [x] sp) (hbind:∀(s:Shared) (u:Value),BindsTo s fd ⟨[u],[]⟩ [(x,u)])
  (oM:∀H:Hp,True->bB K H a (ns.map V.int)->sp [.ref a] H (λv _=>v=.bl true) λ_ _ _=>False)
  (hCX:∀H e s',CX [] H s₁ (λ_ _ _=>False) e s'->False) :
  codeAny (model P w) callerA (.call (.ref fa) ⟨[.ref a],[]⟩) (λr s'=>r=.ok (.ret (.bool true))/\OldK s₁.heap s'.heap/\s'.os=s₁.os/\AllBare s'.gens) s₁:=by
 have rv:=mY hi;have lenV:=hi.length;have naT:∀t∈cy K,t.2.1≠a:=λt ht z=>by
  have e:=(hT t ht).2;rw[z,ha] at e;cases e
 let oS:Obj:={cls:=.type "list",data:=.seq vs.toArray}
 have core:∀S:Option HO,(S=none\/S=some (.jG oS (.lst (ns.map V.int))))->(S≠none->K.lookup a=none)->bB K (λb=>if b=a then S else oq (cy K) b) a (ns.map V.int) ->
   codeAny (model P w) callerA (.call (.ref fa) ⟨[.ref a],[]⟩) (λr s'=>r=.ok (.ret (.bool true))/\OldK s₁.heap s'.heap/\s'.os=s₁.os/\AllBare s'.gens) s₁:=by
  intro S hS hK hSq;generalize hH:(λb=>if b=a then S else oq (cy K) b)=H at hSq
  have hA:H a=S:=by rw[<- hH];exact Kj rfl
  have hB:∀b,b≠a->H b=oq (cy K) b:=λb z=>by rw[<- hH];exact Ki z
  have free:∀{b:Addr} {o:Obj},s₁.heap.get? b=some o->o≠PySem.W.tabObj #[]->(b=a->S=none)->H b=none:=λ{b o} e hn hz=>by
   by_cases z:b=a
   ·rw[z,hA];exact hz z
   ·rw[hB b z]
    cases q:oq (cy K) b with
    |none=>rfl
    |some u =>
     obtain⟨t,ht,e1,_⟩:=g_ q;have e2:=(hT t ht).2;rw[<- e1,e] at e2;exact absurd (Option.some.inj e2) hn
  have nsK:∀{b:Addr} {m:Str->Option Value},s₁.heap.Ns b m->(lW s₁.heap H).Ns b m:=λ{b m} ⟨o,es,ep,e,d,r⟩=>⟨o,es,ep,iP e (free e (λz=>by rw[z] at d;cases d) λz=>by rw[z,ha] at e;cases e;cases d),d,r⟩
  have hKb:K.In (lW s₁.heap H):=λb o e=>iP (KX b o e) (free (KX b o e) (λz=>by
    have h2:=LR.mp L.nt (b,o) (PySem.W.mem_of_lookupK e);subst z;exact absurd (show false=true from h2) Kx) λz=>by
    cases q:S with
    |none=>rfl
    |some u=>rw[z,hK (by rw[q];simp)] at e;cases e)
  have eW:∀t∈cy K,PySem.W.CodeHd (lW s₁.heap H) t.1 t.2.1:=λt ht=>by
   obtain⟨o,us,fl,tf,fg,tg,inF,tx,tt,e1,e2,r⟩:=(hT t ht).1;exact⟨o,us,fl,tf,fg,tg,inF,tx,tt,iP e1 (free e1 (λz=>by rw[z] at e2;cases e2) λz=>by rw[z,ha] at e1;cases e1;exact absurd (Value.type.inj e2) (by decide)),e2,r⟩
  have hbm':FD mg (lW s₁.heap H):=by
   obtain⟨bm,ob,b1,b2,b3,b4,b5⟩:=hbm;exact⟨bm,ob,b1,b2,iP b3 (free b3 (λz=>by rw[z] at b4;cases b4) λz=>by rw[z,ha] at b3;cases b3;exact absurd (Value.type.inj b4) (by decide)),b4,b5⟩
  have ba:iz P w H s₁.heap:=λb u e=>by
   by_cases z:b=a
   ·rw[z,hA] at e;rcases hS with h0|h0
    ·rw[h0] at e;cases e
    ·rw[h0] at e;cases e;subst z;exact⟨ha,by rw[Kc];exact hl,vs,_,rv,ha⟩
   ·rw[hB b z] at e;obtain⟨t,ht,e1,e2⟩:=g_ e;subst e2;exact⟨#[],by rw[e1];exact (hT t ht).2,trivial,λpos cv c=>by cases (show (none:Option Value)=some cv from c)⟩
  have hM:Mod K mg (lW s₁.heap H):=⟨hKb,nsK hns,⟨mb,nsK hb,hbb⟩,let ⟨mc,h1,h2⟩:=hlim;⟨mc,nsK h1,h2⟩,eW,hbm'⟩
  have e0:qZ P w K mg (lW s₁.heap H) callerA [] s₁ H:=⟨rfl,hM,λb o e=>Bz e,OD (vI _ _),trivial,λb hb=>absurd (show b∈([]:List Addr) from hb) (by simp),ba,.of_eq hg,λt ht=>⟨#[],by
   rw[hB _ (naT t ht),pH L.nd ht,Oi]⟩⟩
  refine PC ((F _ hKb (nsK hns)).run callerA [] s₁ H ⟨[.ref a],[]⟩ [.ref a] [.ref a] _ _ hr e0 (hbind s₁ (.ref a)) (.cons rfl .nil) (oM H trivial hSq)) λr s' h=>?_
  cases r with
  |error e=>exact (hCX H e s' h).elim
  |ok fl =>
   cases fl with
   |next=>exact False.elim h
   |brk=>exact False.elim h
   |cont=>exact False.elim h
   |ret u =>
    obtain⟨v,H',os,bare,un,hok',r',qv⟩:=h;have q':v=.bl true:=qv;subst q';obtain rfl:u=Value.bool true:=r';have each:∀b o,s₁.heap.get? b=some o->s'.heap.get? b=some o\/∃c,PySem.W.CodeHd s₁.heap c b/\o=PySem.W.tabObj #[]/\∃ps,s'.heap.get? b=some (PySem.W.tabObj ps):=λb o e=>by
     cases qb:H b with
     |none=>exact .inl (un.keep b o e qb (by intro z;exact absurd (show b∈([]:List Addr) from z) (by simp)) (by simp))
     |some u =>
      by_cases z:b=a
      ·rw[z,hA] at qb;rcases hS with h0|h0
       ·rw[h0] at qb;cases qb
       ·have z2:=un.nF a oS _ (by rw[hA,h0])
        obtain⟨e2,_⟩:=hok' a _ z2;rw[z,ha] at e;cases e;exact .inl (by rw[z];exact e2)
      ·have qt:=qb;rw[hB b z] at qt;obtain⟨t,ht,e1,e2⟩:=g_ qt;obtain⟨h1,h2⟩:=hT t ht;rw[<- e1] at h1 h2;rw[e] at h2;cases h2;subst e2;obtain⟨more,e3⟩:=un.lY b _ qb;obtain⟨qs,e4,_⟩:=hok' b _ e3;exact .inr ⟨_,h1,rfl,qs,e4⟩
    refine⟨rfl,⟨λb o e=>?_,λb o e=>?_⟩,os,bare⟩
    ·rcases each b o e with z|⟨c,hc,z,ps,hp⟩
     ·exact .inl z
     ·subst z;exact .inr (.inl ⟨(hc.tab e).isCodeTable,rfl,#[],ps,rfl,by rw[Array.empty_append];exact hp⟩)
    ·rcases each b o e with z|⟨c,hc,z,ps,hp⟩
     ·exact⟨o,z⟩
     ·exact⟨_,hp⟩
 cases hk:K.lookup a with
 |some o =>
  have e:=KX a o hk;rw[ha] at e;cases e;exact core none (.inl rfl) (λz=>absurd rfl z) (.inr ⟨_,vs.toArray,_,hk,rfl,rfl,rfl,by rw[Kh,lenV];exact hl,by simpa using rv⟩)
 |none=>exact core (some (.jG oS (.lst (ns.map V.int)))) (.inr rfl) (λ_=>hk) (.inl (.inr ⟨oS,Kj rfl⟩))
theorem B5{l:PySem.W.OpenLaw}{n:Nat}{XP:(Str->Option Value)->Heap->Prop}{YP:World->Heap->Prop}{d:DefRec}{K:Params->PJ}{CX:World->qk}{sp:World->Sp}
  (hn:l.most=some n) (hn2:n<=sizeLine) (hdf:d.params.defaults=[]) (hr:bR k callerA)
  (hY:∀(w:World) (h:Heap),YP w h->(K w.params).In h)
  (F:∀(w:World) (mg:Str->Option Value) (fa:Addr) (h:Heap),(K w.params).In h->h.Ns mainGlobals mg->mg d.name=some (.ref fa) ->
   ∃fd:FuncData,(∀(s:Shared) (u:Value),BindsTo s fd ⟨[u],[]⟩ [(x,u)]) /\
    ∀base:Heap,(K w.params).In base->base.Ns mainGlobals mg->cP l.prog w (K w.params) mg base (CX w) k fa fd [x] (sp w))
  (oM:∀(w:World) (H:Hp) (a:Addr) (ns:List Int),ns.length<=n->True->bB (K w.params) H a (ns.map V.int)->sp w [.ref a] H (λv _=>v=.bl true) λ_ _ _=>False)
  (hCX:∀(w:World) (H:Hp) (s:Shared) (e:Value) (s':Shared),CX w [] H s (λ_ _ _=>False) e s'->False) (hL:∀(w:World) (h:Heap),(K w.params).In h->iF q (K w.params)) :
  PySem.W.WalkO q loose XP YP l.row.toRowW d [] (λf vs=>PySem.call f vs):=by
 refine Att.qw hn hdf λw s₀ s₁ mg mb fa o pm cd doc a vs ns G Y ho hd eW hmg hobj hints hlen hg=>?_;have KX:=hY w _ Y;obtain⟨fd,hb,hF⟩:=F w mg fa _ KX G.T.g hmg;have L:=hL w _ KX;exact zA KX G.T.g G.T.b G.T.builtins G.T.nolimit G.T.bmain (L.at G.T KX) L hg hobj hints (Kn hlen hn2) hr hF hb (λH hO hS=>oM w H a ns hlen hO hS) λH e s'=>hCX w H s₁ e s'
noncomputable def inClass(s:Stmt)(j:Nat):Stmt:=match s with
 |.ClassDef _ _ _ body _ _ _ _ _ _ _=>body.getD j (.Pass ⟨0,0,0,0⟩)
 |_=>.Pass ⟨0,0,0,0⟩
noncomputable def bW(s:Stmt):Arguments:=match s with
 |.FunctionDef _ a _ _ _ _ _ _ _ _=>a
 |_=>{posonlyargs:=[],args:=[],vararg:=none,kwonlyargs:=[],kw_defaults:=[],kwarg:=none,defaults:=[]}
noncomputable def aT(s:Stmt):List Stmt:=match s with
 |.FunctionDef _ _ b _ _ _ _ _ _ _=>b
 |_=>[]
noncomputable def af(s:Stmt):Scope:=match s with
 |.FunctionDef _ _ _ _ _ _ sc _ _ _=>sc
 |_=>{kind:=.function,names:=[],isGenerator:=false,isCoroutine:=false}
abbrev aZ:qk:=λ_ _ _ _ _ _=>False
abbrev E0:XK:=λ_ _ _=>False
theorem az:Passes aZ X E0:=λ_ _ _ _ _ _ _ h=>h.elim
structure lB (K:PJ) (x qual:Str) (st:Stmt) (f:Addr) (fd:FuncData):Prop where
 ex:∃(oc:Value) (od:Option Addr) (kV doc pm:Value) (an:Option Addr) (cdv ct:Value) (osl:Array (Option Value)),
  fd=PySem.W.fnOf x qual (bW st) (aT st) (af st) .none kV doc pm an cdv ct/\K.lookup f=some ⟨oc,od,.func fd,osl⟩/\PySem.W.codeIn K cdv qual=true
 kp:PySem.W.keepIn K (.ref f)=true
section
variable {P:Program} {w:World} {K:PJ} {mg:Str->Option Value} {base:Heap}
theorem lB.ok{ps:List Str}(F:lB K x qual st f fd)(S:ay N ps (af st))(len:∀vs H Q E,sp vs H Q E->vs.length=ps.length)
  (hbody:∀(cdv:Value) (A:Around) (outer:List Env) (s:Shared) (H:Hp) (vs:List V) (Q:VK) (E:XK),bR k (A.deeper (envOfC qual (af st) s.heap.objs.size f cdv))->sp vs H Q E ->
   ∃t,rG (gy aZ P w K mg base N qual (af st) f cdv A outer s H E).qW (aT st) t/\t {nx:=λ_ H'=>Q .aX H',rt:=Q} (start N vs) H):cP P w K mg base aZ (k+1) f fd ps sp:=by
 obtain⟨oc,od,kV,doc,pm,an,cdv,ct,osl,rfl,lk,eW⟩:=F.ex;refine DJ lk eW S len λA outer s H vs Q E hr oM=>?_;obtain⟨t,h,q⟩:=hbody cdv A outer s H vs Q E hr oM;exact⟨t,h.qW,q⟩
theorem lB.binds{ps:List Str}(F:lB K x qual st f fd)
  (h:∀(kV doc pm:Value) (an:Option Addr) (cdv ct:Value) (us:List Value),us.length=ps.length->bindArgs (PySem.W.fnOf x qual (bW st) (aT st) (af st) .none kV doc pm an cdv ct) ⟨us,[]⟩=pure (ps.zip us)):Binds K fd ps []:=by
 obtain⟨oc,od,kV,doc,pm,an,cdv,ct,osl,rfl,lk,eW⟩:=F.ex;exact .all (h kV doc pm an cdv ct)
theorem cF{oc:Value}{od an:Option Addr}{osl:Array (Option Value)}{kV doc pm cdv ct:Value}(l:K.lookup f=some ⟨oc,od,.func (PySem.W.fnOf x qual (bW st) (aT st) (af st) .none kV doc pm an cdv ct),osl⟩)
  (c:PySem.W.codeIn K cdv qual=true) (k:PySem.W.keepIn K (.ref f)=true):lB K x qual st f (PySem.W.fnOf x qual (bW st) (aT st) (af st) .none kV doc pm an cdv ct):=⟨⟨oc,od,kV,doc,pm,an,cdv,ct,osl,rfl,l,c⟩,k⟩
end
theorem aS{A:Around}(hr:bR k A):A.units+1<cLine:=Lm (Nat.add_le_add_left (by decide:1<=64) _) hr.units
section
variable {X:Cx}
theorem pv(i:Nat){pos:Pos}(hN:autoParam (X.N[i]?=some x) ℜ0)(hv:autoParam (H_ X.env.scope x) ℜ4)(hd:autoParam ((x ==("__debug__":Str))=false) ℜ1)
  (eW:autoParam ((x ==("__classdict__":Str))=false) ℜ1):PE X (.Name x pos) (wB i):=FG hN hv hd eW
end
def q_(H H':Hp):Prop:=∀b o,H b=some o->H' b=some o
theorem q_.refl(H:Hp):q_ H H:=λ_ _ h=>h
theorem q_.seq(e:q_ H H')(h:bB K H a xs):bB K H' a xs:=by
 rcases h with (h|⟨o,h⟩)|h
 ·exact .inl (.inl (e _ _ h))
 ·exact .inl (.inr ⟨o,e _ _ h⟩)
 ·exact .inr h
section
variable {κ:Type} [DecidableEq κ]
theorem Dc{kvs:List (κ×V)}{k:κ}{v:V}(h:ik kvs k=some v):k∈kvs.map (·.1):=by
 have q:(kvs.any λkv=>decide (kv.1=k))=true:=by
  rw[iA,h]
  all_goals rfl
 obtain⟨p,hp,e⟩:=List.any_eq_true.mp q;exact KZ.mpr ⟨p,hp,LA e⟩
end
noncomputable def eO(cells:List (Str×Addr)):List (Str×NameKind)->List (Str×Addr)->List (Str×Addr)
 |[],acc=>acc
 | (n,k)::r,acc=>if k=.free then eO cells r ((n,(cells.lookup n).getD 0)::acc) else eO cells r acc
theorem ia(h:∀x∈scope.names,x.2=.free->∃c,env.cells.lookup x.1=some c):closureFor scope env=pure (eO env.cells scope.names []):=by
 have all:∀(l:List (Str×NameKind)) (acc:List (Str×Addr)),(∀x∈l,x.2=.free->∃c,env.cells.lookup x.1=some c) ->
   (forIn l acc λ(x:Str×NameKind) (cs:List (Str×Addr))=>(match x with | (name,kind)=>if (kind == NameKind.free)=true then (do let c <- cellOf env name;pure (ForInStep.yield ((name,c)::cs))) else pure (ForInStep.yield cs):Sem (ForInStep (List (Str×Addr)))))=(pure (eO env.cells l acc):Sem (List (Str×Addr))):=by
  intro l
  induction l with
  |nil=>intro acc _;rfl
  |cons x r ih =>
   intro acc hl;obtain⟨n,k⟩:=x;rw[MC];by_cases hk:k=.free
   ·subst hk;obtain⟨c,hc⟩:=hl (n,.free) Km rfl;have e:cellOf env n=pure c:=by unfold cellOf;rw[hc]
    simp only[L3,MQ,e,eO,pure_bind];rw[ih _ λy hy=>hl y (Ko _ hy),hc];rfl
   ·have hb:(k == NameKind.free)=false:=by simpa using hk
    simp only[hb,Nl,MX,eO,hk,pure_bind];exact ih _ λy hy=>hl y (Ko _ hy)
 unfold closureFor;simp only[bind_pure];exact all scope.names [] h
theorem iY:∀{l:List (Str×NameKind)} {acc:List (Str×Addr)},(∀x∈l,x.2=.free->∃c,cells.lookup x.1=some c)->(∀x c,acc.lookup x=some c->cells.lookup x=some c) ->
  ∀x c,(eO cells l acc).lookup x=some c->cells.lookup x=some c
 |[],_,_,h,x,c,e=>h x c e
 | (n,k)::r,acc,hl,h,x,c,e=>by
  unfold eO at e;have hr:∀y∈r,y.2=.free->∃c,cells.lookup y.1=some c:=λy hy=>hl y (Ko _ hy)
  split at e
  ·rename_i hk;refine iY hr (λy d q=>?_) x c e;rw[Lf] at q
   split at q
   ·rename_i hy;obtain⟨c',hc'⟩:=hl (n,k) Km hk;have hy':y=n:=by simpa using hy
    subst hy';simp only[] at hc';rw[hc'] at q ⊢;exact q
   ·exact h y d q
  ·exact iY hr h x c e
theorem jo:∀{l:List (Str×NameKind)} {acc:List (Str×Addr)},(∃c,acc.lookup x=some c)->∃c,(eO cells l acc).lookup x=some c
 |[],_,h=>h
 | (n,k)::r,acc,h=>by
  unfold eO;split
  ·refine jo ?_;rw[Lf];split
   ·exact⟨_,rfl⟩
   ·exact h
  ·exact jo h
theorem gY:∀{l:List (Str×NameKind)} {acc:List (Str×Addr)},(x,NameKind.free)∈l->∃c,(eO cells l acc).lookup x=some c
 |[],_,h=>by simp at h
 | (n,k)::r,acc,h=>by
  unfold eO;rcases Kl.mp h with e|h
  ·cases e;rw[Kj rfl];exact jo ⟨(cells.lookup x).getD 0,by rw[Lf];simp⟩
  ·split
   ·exact gY h
   ·exact gY h
noncomputable def bq(X:Cx)(scope:Scope)(N:List Str)(C:Addr)(s:Shared)(H:Hp)(fp:List Addr):Cx where
 prog:=X.prog
 w:=X.w
 K:=X.K
 mg:=X.mg
 base:=X.base
 A:=X.A
 N:=N
 s₀:=s
 H₀:=H
 env:=compEnvC scope (eO X.env.cells scope.names []) C X.env
 outer:=X.stack
 stack:=X.stack
 ex:=fp
 calm:=X.calm
 fn:=λ_=>false
 pn:=[]
 xe:=λ_ _=>False
structure eB (osc:Scope) (ON:List Str) (scope:Scope) (own N:List Str):Prop where
 kind:scope.kind=.function
 nd:N.Nodup
 len:N.length=own.length+ON.length
 lJ:∀y∈scope.names,y.2≠.cell
 loc:∀y∈scope.names,y.2=.local->scope.names.lookup y.1=some .local
 free:∀y∈scope.names,y.2=.free->osc.names.lookup y.1=some .cell\/osc.names.lookup y.1=some .free
 out:∀p∈ON.zip (N.drop own.length),p.1=p.2\/scope.names.lookup p.2=none
 own:∀x∈N.drop own.length,scope.names.lookup x≠some .local
theorem dj(x:Str)(hn:∀y∈scope.names,y.2≠.cell):((relabel scope env).names.lookup x=some .local->scope.names.lookup x=some .local) /\
  ((relabel scope env).names.lookup x=some .cell\/(relabel scope env).names.lookup x=some .free->scope.names.lookup x=some .free):=by
 unfold relabel;simp only;revert hn;generalize scope.names=l;intro hn
 induction l with
 |nil=>simp
 |cons y r ih =>
  obtain⟨n,k⟩:=y;have ih:=ih λy hy=>hn y (Ko _ hy);have hk:k≠.cell:=hn (n,k) Km;rw[K9];simp only;by_cases hc:(k == NameKind.free && env.scope.kind == ScopeKind.function && env.kindOf n == some NameKind.cell)=true
  ·rw[Kj hc,Lf,Lf];have hf:k=.free:=by
    simp only[Lo] at hc
    simpa using hc.1.1
   split
   ·subst hf;simp
   ·exact ih
  ·rw[Ki hc,Lf,Lf];split
   ·constructor
    ·exactλh=>h
    ·rintro (h|h)
     ·exact absurd (Option.some.inj h) hk
     ·exact h
   ·exact ih
noncomputable def GG(X:Cx)(ifs:List Expr)(t:TT):Prop:=
 ∀(pins:List (Addr×Obj)) (s:Shared) (σ:St) (H:Hp) (Q:Bool->Hp->Prop),Inv X pins σ H s->t σ H Q ->
  wpAny (model X.prog X.w) X.A (forIn ifs true λc r=>if r=true then do let ok <- isTrue c X.env (eval c X.env);pure (ForInStep.yield ok) else pure (ForInStep.yield r)) (TP X pins σ Q) X.xe s
def dW:TT:=λ_ H Q=>Q true H
theorem CB:GG X [] dW:=λ_ _ _ H _ I h=>wpAny_tests_nil ⟨H,I,h⟩
theorem vU{M:Model}{A:Around}{s:Shared}{m:Sem α}{Q' Q:α->Shared->Prop}(h:wpAny M A m Q' (λ_ _=>False) s)(k:∀x s',Q' x s'->Q x s'):wpAny M A m Q E s:=Ls h k λ_ _ z=>z.elim
theorem l_{A:Around}{R:Result->Shared->Prop}{s:Shared}{target:Expr}{pos:Pos}{it acc:Value}{XE:Value->Shared->Prop}(I:Nat->Shared->Prop)(hx:∀x s',XE x s'->notedBy (model prog w) A env (λv s''=>R (.error v) s'') x s')
  (turn:∀n s,I n s->wpAny (model prog w) A (pyNext it) (λr s₁=>match r with
   |none=>R (.ok .next) s₁
   |some v=>wpAny (model prog w) A (letOwnedTupleGo target it v) (λ_ s₁'=>wpAny (model prog w) A (assign target env v) (λ_ s₂ =>
     wpAny (model prog w) A (forIn ifs true λc r=>if r=true then do let ok <- isTrue c env (eval c env);pure (ForInStep.yield ok) else pure (ForInStep.yield r)) (λok s₃ =>
      if ok=true then wpAny (model prog w) A (eval elt env) (λx s₄ =>
       wpAny (model prog w) A (call (.builtin "list.append") [acc,x]) (λ_ s₅=>∃m,m<n/\I m s₅) XE s₄) XE s₃
      else ∃m,m<n/\I m s₃) XE s₂) XE s₁') XE s₁) XE s)
  (n:Nat) (h:I n s):codeAny (model prog w) A (.compLoop (.ListComp elt [⟨target,iter,ifs,0⟩] scope pos) 0 it acc env) R s:=by
 refine codeAny_loop rfl I (λn s hI=>?_) n h;show wpAny _ A ((compTurn (.ListComp elt [⟨target,iter,ifs,0⟩] scope pos) 0 it acc env).onRaise (λx=>do noteFrame x env;theTreesLotGoes x)) _ _ s
 refine wpAny_noted ?_;rw[compTurn_list];refine Kb (Ou (Kb (Ls (turn n s hI) (λr s₁ h₁=>?_) hx)))
 cases r with
 |none=>exact Ks h₁
 |some v =>
  refine Kb (Ls h₁ (λ_ s₁' h₁'=>?_) hx);refine Kb (Ls h₁' (λ_ s₂ h₂=>Kb (Ls h₂ (λok s₃ h₃=>?_) hx)) hx)
  cases ok with
  |false=>exact Ks ⟨rfl,h₃⟩
  |true =>
   exact Kb (Kb (Ls h₃ (λx s₄ h₄=>Kb (Ls h₄ (λ_ s₅ h₅=>Ks (Ks ⟨rfl,h₅⟩)) hx)) hx))
noncomputable def la(wi:TI)(k:Nat)(g:TG)(tc:TT)(te:TE):TE:=λσ H Q=>wi σ H λJ H1=>∀D,H1 D=none ->
 ∃W:Nat->Nat->List V->St->Hp->Prop,(∃m,W 0 m [] (List.replicate k none++σ) (upd H1 D (.lst [])))/\∀i m ys σ' H',W i m ys σ' H'->H' D=some (.lst ys) /\
  ((J.stop i H'/\Q (.ref D) H')\/(J.go i H'/\ys.length<sizeLine/\∀x H2,J.Dz i H' x H2->g x σ' H2 λσ3 H3=>tc σ3 H3 λb H4 =>
   if b=true then te σ3 H4 λv H5=>H5 D=some (.lst ys)/\∃m',m'<m/\W (i+1) m' (ys++[v]) σ3 (upd H5 D (.lst (ys++[v])))
   else ∃m',m'<m/\W (i+1) m' ys σ3 H4))
theorem sQ{pos:Pos}{wi:TI}(S:eB osc ON scope own N)(hosc:X.env.scope=osc)(hON:X.N=ON)(hc:X.calm=true)(hi:PI X tg iter wi)
  (hg:∀C s H fp,PG (bq X scope N C s H fp) tg g) (ht:∀C s H fp,GG (bq X scope N C s H fp) ifs tc) (XE:Addr->Shared->Hp->List Addr->Value->Shared->Prop)
  (he:∀C s H fp pins s' σ' H' Q',(∀b∈fp,∃o,(b,o)∈pins)->Inv (bq X scope N C s H fp) pins σ' H' s'->te σ' H' Q'->wpAny (model X.prog X.w) X.A (eval elt (bq X scope N C s H fp).env) (EP (bq X scope N C s H fp) pins σ' Q') (XE C s H fp) s')
     {s:Shared} {Q:VK} (I:Inv X pins σ H s) (h:la wi own.length g tc te σ H Q) 
  (fin:∀(D C:Addr) (H':Hp) (s':Shared) (m:Str->Option Value),Inv X pins σ H' s'->Q (.ref D) H'->H' C=none->X.s₀.heap.objs.size<=C->C≠X.env.locals->(∀x c,X.env.cells.lookup x=some c->c≠C)->(∀p∈X.pn++pins,p.1≠C) ->
   s'.heap.Ns C m->RR (.ref D) C (.ok .next) s')
  (hx:∀(D C:Addr) (s3:Shared) (H3:Hp) (fp:List Addr),C=s3.heap.objs.size->Inv X pins σ H3 s3->(∀{pins':List (Addr×Obj)} {σ':St} {H':Hp} {s':Shared},Inv (bq X scope N C s3 H3 fp) pins' σ' H' s'->Inv X pins σ H' s') ->
   X.s₀.heap.objs.size<=C->C≠X.env.locals->(∀x c,X.env.cells.lookup x=some c->c≠C)->(∀p∈X.pn++pins,p.1≠C)->∀x s',XE C s3 H3 fp x s'->notedBy (model X.prog X.w) X.A (bq X scope N C s3 H3 fp).env (λv s''=>RR (.ref D) C (.error v) s'') x s') :
  wpAny (model X.prog X.w) X.A (eval iter X.env) (λx s₁=>wpAny (model X.prog X.w) X.A (pyIter x) (λit s₂=>wpAny (model X.prog X.w) X.A (newList []) (λacc s₃ =>
   wpAny (model X.prog X.w) X.A (newFunctionEnv scope X.env.globals (eO X.env.cells scope.names []) [] X.env.qual none .none (some X.env)) (λcenv s₄ =>
    codeAny (model X.prog X.w) X.A (.compStart (.ListComp elt [⟨tg,iter,ifs,0⟩] scope pos) 0 it acc {cenv with scope:=relabel scope X.env}) (RR acc cenv.locals) s₄) X.xe s₃) X.xe s₂) X.xe s₁) X.xe s:=by
 refine bZ (hi pins s σ H _ I h) λv s1 h1=>bZ h1 λitv s2 h2=>?_;obtain⟨it,fp,tn,J,H2,e,I2,T,st2,f2,q⟩:=h2;subst e;refine LK (wpAny_newFunctionEnv S.lJ (by intro y hy;simp at hy) (λh₁ hns₁ hsb₁=>?_) S.kind)
 dsimp only at hns₁ hsb₁ ⊢;have I3:Inv X pins σ (upd H2 s2.heap.objs.size (.lst [])) {s2 with heap:=s2.heap.push {cls:=.type "list",data:=.seq ([]:List Value).toArray},toks:=s2.toks}:=I2.Fj (t':=s2.toks) .nil (Nat.zero_le _)
 have hD2:H2 s2.heap.objs.size=none:=I2.fresh;obtain⟨W,⟨m0,w0⟩,turn⟩:=q _ hD2;generalize hs3:({s2 with heap:=s2.heap.push {cls:=.type "list",data:=.seq ([]:List Value).toArray},toks:=s2.toks}:Shared)=s3 at I3
 have eh3:s3.heap=s2.heap.push {cls:=.type "list",data:=.seq ([]:List Value).toArray}:=by rw[<- hs3]
 generalize hD:s2.heap.objs.size=D at I3 turn w0 hD2 ⊢;generalize hH3:upd H2 D (.lst [])=H3 at I3 w0;rw[<- eh3] at hns₁ hsb₁ ⊢;have hC3:H3 s3.heap.objs.size=none:=I3.fresh;have hsz3:s3.heap.objs.size=D+1:=by rw[eh3,Lu,hD]
 have fp2:∀b∈fp,b<s2.heap.objs.size:=λb hb=>by
  obtain⟨o,e,_⟩:=T.obj _ _ st2 b hb;exact K0 e
 have f3:∀b∈fp,lS X pins H3 b:=λb hb=>by
  obtain⟨g0,g1⟩:=f2 b hb;refine⟨?_,g1⟩;rw[<- hH3,ae (by rw[<- hD];exact KA (fp2 b hb))]
  exact g0
 have neC:∀b o,s3.heap.get? b=some o->b≠s3.heap.objs.size:=λb o e=>KA (K0 e);have old:∀b o,s3.heap.get? b=some o->h₁.get? b=some o:=λb o e=>hsb₁.extBut b o (neC b o e) (Kg _ e);have hk:=S.kind;have hfr:∀y∈scope.names,y.2=.free->∃c,X.env.cells.lookup y.1=some c:=λy hy hf=>I3.ok.has _ (by subst hosc;exact S.free y hy hf)
 have sub:=iY (acc:=[]) hfr (by intro x c e;simp at e)
 have JB:∀tk,Inv (bq X scope N s3.heap.objs.size s3 H3 fp) [] (List.replicate own.length none++σ) H3 {s3 with heap:=h₁,toks:=tk}:=λtk=>by
  refine⟨⟨I3.ok.mod,S.kind,I3.ok.glob,I3.ok.blt,Kk _,λx y c e1 e2=>I3.ok.inj x y c (sub x c e1) (sub y c e2),λx hx=>?_,λx c hf _=>(by cases hf),I3.ok.hd,I3.ok.frames,.inl rfl,λb hb=>?_,I3.bs,Kn I3.ok.AV I3.sz,λb o e hb=>?_,λb hb hf=>?_,I3.stack,I3.nK,I3.ok.tabs.un I3.base⟩,
   rfl,I3.bare,Un.kept old,⟨_,hns₁,λi x v e1 e2 e3=>?_⟩,λx c e=>?_,hC3,λx c e=>I3.gu x c (sub x c e),λp hp=>absurd (show p∈([]:List (Addr×Obj)) from hp) (by simp),I3.ba.kept old,?_⟩
  ·have q:=(dj (env:=X.env) x S.lJ).2 hx;exact gY (PySem.mem_of_lookup q)
  ·have hb:b∈fp:=hb;obtain⟨_,g1,g2,g3,g4,g5⟩:=f3 b hb;refine⟨?_,λx c e=>g4 x c (sub x c e)⟩;have:=fp2 b hb;show b≠s3.heap.objs.size;rw[hsz3,<- hD];exact KA (O0 this)
  ·have hb:b∈fp:=hb;obtain⟨_,g1,g2,g3,g4,g5⟩:=f3 b hb;rcases g3 with g3|g3
   ·exact I3.ok.zG b o e g3
   ·exact absurd (KI (K0 e) (Kn I3.ok.AV g3)) (LQ _)
  ·have hb:b∈fp:=hb;obtain⟨_,g1,g2,g3,g4,g5⟩:=f3 b hb;rcases Kl.mp (I3.oA b hf) with z|z
   ·exact g1 z
   ·exact g2 z
  ·have hi:own.length<=i:=by
    rcases Lh i own.length with hlt|hge
    ·rw[KC (by simpa using hlt),OP] at e2
     split at e2<;>cases e2
    ·exact hge
   rw[K4 (by simpa using hi),Kw] at e2
   have e1:N[own.length+(i-own.length)]?=some x:=by rw[Nat.add_sub_cancel' hi];exact e1
   have e1d:(N.drop own.length)[i-own.length]?=some x:=by rw[Ly];exact e1
   have nl:scope.names.lookup x≠some .local:=S.own x (Le e1d);have vis:scope.names.lookup x=some .free:=by
    rcases e3 with z|z
    ·exact absurd ((dj (env:=X.env) x S.lJ).1 z) nl
    ·exact (dj (env:=X.env) x S.lJ).2 z
   have hlen:=I3.len;have hlt:i-own.length<X.N.length:=by
    rw[<- hlen];exact (Kf.mp e2).1
   have hxN:X.N[i-own.length]?=some x:=by
    rw[Ka hlt];have mz:(X.N[i-own.length],x)∈ON.zip (N.drop own.length):=by
     rw[<- hON];refine Le (i:=i-own.length) ?_;rw[List.getElem?_zip_eq_some];exact⟨Ka hlt,e1d⟩
    rcases S.out _ mz with z|z
    ·exact K_ some z
    ·exact absurd z (by rw[vis];simp)
   have hko:X.env.scope.names.lookup x=some .cell\/X.env.scope.names.lookup x=some .free:=by subst hosc;exact S.free _ (PySem.mem_of_lookup vis) rfl
   obtain⟨m,hn,hl⟩:=I3.loc;have hv:H_ X.env.scope x:=by
    rcases hko with z|z
    ·exact .inr (.inl z)
    ·exact .inr (.inr z)
   obtain⟨u,ru,lk⟩:=hl _ x v hxN e2 hv;refine⟨u,ru,.inr ⟨?_,?_⟩⟩
   ·rcases e3 with z|z
    ·exact absurd ((dj (env:=X.env) x S.lJ).1 z) nl
    ·exact z
   ·rcases lk with ⟨k,_⟩|⟨_,c,ec,hcell⟩
    ·exfalso
     have k':X.env.scope.names.lookup x=some .local:=k;rcases hko with z|z
     ·rw[k'] at z;cases z
     ·rw[k'] at z;cases z
    ·obtain⟨c',ec'⟩:=gY (cells:=X.env.cells) (acc:=[]) (PySem.mem_of_lookup vis);have:=sub x c' ec';rw[ec] at this;cases this;obtain⟨o,ho,hd⟩:=hcell;exact⟨c,ec',o,old c o ho,hd⟩
  ·obtain⟨v,o,ho,hd⟩:=I3.cell x c (sub x c e);exact⟨v,o,old c o ho,hd⟩
  ·show (List.replicate own.length none++σ).length=N.length;rw[S.len,Ke,Kw,I3.len,hON]
 have stat:∀{H':Hp},(∀b∈fp,H' b=none)->∀b∈fp,lS (bq X scope N s3.heap.objs.size s3 H3 fp) [] H' b:=λ{H'} hn b hb=>by
  obtain⟨_,g1,g2,g3,g4,g5⟩:=f3 b hb;refine⟨hn b hb,?_,λhf=>?_,.inl hb,λx c e=>g4 x c (sub x c e),λp hp=>absurd (show p∈([]:List (Addr×Obj)) from hp) (by simp)⟩
  ·have:=fp2 b hb;show b≠s3.heap.objs.size;rw[hsz3,<- hD];exact KA (O0 this)
  ·rcases Kl.mp (I3.oA b hf) with z|z
   ·exact g1 z
   ·exact g2 z
 have st4:tn 0 h₁:=T.keep _ _ _ st2 λb hb o e=>old b o (by rw[eh3];exact Kg _ e)
 have o3:∀x c,X.env.cells.lookup x=some c->c≠s3.heap.objs.size:=λx c e z=>by
  obtain⟨v,o,ho,_⟩:=I3.cell x c e;exact absurd (K0 ho) (by rw[z];exact LQ _)
 have o4:∀p∈X.pn++pins,p.1≠s3.heap.objs.size:=λp hp z=>absurd (K0 (I3.pin p hp).1) (by rw[z];exact LQ _)
 have outI:∀{pins':List (Addr×Obj)} {σ':St} {H':Hp} {s':Shared},Inv (bq X scope N s3.heap.objs.size s3 H3 fp) pins' σ' H' s'->Inv X pins σ H' s':=λI6=>by
  refine I3.HE (ch:=fp) I6.os I6.base I6.ba I6.bare λb hb=>?_;obtain⟨_,g1,g2,g3,g4,g5⟩:=f3 b hb;exact⟨g3,g1,g4,g5⟩
 have loop:∀s4:Shared,s4={s3 with heap:=h₁,toks:=s2.toks+([]:List (Str×Value)).length} ->
   codeAny (model X.prog X.w) X.A (.compLoop (.ListComp elt [⟨tg,iter,ifs,0⟩] scope pos) 0 (.ref it) (.ref D) (bq X scope N s3.heap.objs.size s3 H3 fp).env) (RR (.ref D) s3.heap.objs.size) s4:=by
  rintro s4 rfl;refine l_ (XE:=XE s3.heap.objs.size s3 H3 fp) (λn s'=>∃i ys σ' H',Inv (bq X scope N s3.heap.objs.size s3 H3 fp) [] σ' H' s'/\tn i s'.heap/\(∀b∈fp,H' b=none)/\W i n ys σ' H') (hx D _ s3 H3 fp rfl I3 outI I3.sz (LN I3.lt) o3 o4) ?_ m0 ⟨0,[],_,H3,JB _,st4,λb hb=>(f3 b hb).1,w0⟩;rintro n s5 ⟨i,ys,σ5,H5,I5,st5,fr5,w5⟩;obtain⟨hD5,ways⟩:=turn i n ys σ5 H5 w5;rcases ways with ⟨stop,qn⟩|⟨go,hys,step⟩
  ·refine vU (T.done (bq X scope N s3.heap.objs.size s3 H3 fp) rfl rfl rfl hc i [] s5 σ5 H5 _ I5 (stat fr5) st5 stop) λr s6 hq1=>?_;obtain⟨hr,I6⟩:=hq1;subst hr;obtain⟨m,hn,_⟩:=I6.loc;exact fin D _ H5 s6 m (outI I6) qn I6.free I3.sz (LN I3.lt) o3 o4 hn
  ·refine vU (T.item (bq X scope N s3.heap.objs.size s3 H3 fp) rfl rfl rfl hc i [] s5 σ5 H5 _ I5 (stat fr5) st5 go) λr s6 hq2=>?_;obtain⟨u,hr,h6⟩:=hq2;subst hr;refine vU h6 λ_ s7 hq3=>?_;obtain⟨x,H7,I7,r7,y7,st7,fr7⟩:=hq3;have I7':=I7.pinned (stat fr7) (T.obj _ _ st7);have back:∀{σ8:St} {H8:Hp} {s8:Shared},Inv (bq X scope N s3.heap.objs.size s3 H3 fp) ([]++jn fp s7.heap) σ8 H8 s8->tn (i+1) s8.heap/\∀b∈fp,H8 b=none:=λ{σ8 H8 s8} I8=>by
    refine⟨T.keep _ _ _ st7 λb hb o e=>(I8.pin (b,o) (K6 _ (K6 _ (eQ hb e)))).1,λb hb=>?_⟩;obtain⟨o,e,d⟩:=T.obj _ _ st7 b hb;exact (I8.pin (b,o) (K6 _ (K6 _ (eQ hb e)))).2.1
   have hcov:∀b∈fp,∃o,(b,o)∈([]:List (Addr×Obj))++jn fp s7.heap:=λb hb=>by
    obtain⟨o,e,_⟩:=T.obj _ _ st7 b hb;exact⟨o,K6 _ (eQ hb e)⟩
   refine vU (hg _ _ _ _ _ s7 σ5 H7 x u _ I7' r7 (step x H7 y7)) λ_ s8 hq4=>?_;obtain⟨σ8,H8,I8,q8⟩:=hq4;refine vU (ht _ _ _ _ _ s8 σ8 H8 _ I8 q8) λok s9 hq5=>?_;obtain⟨H9,I9,q9⟩:=hq5
   cases ok with
   |false =>
    rw[Ki (by simp)] at q9 ⊢
    obtain⟨m',hm,w9⟩:=q9;exact⟨m',hm,i+1,ys,σ8,H9,I9.gI,(back I9).1,(back I9).2,w9⟩
   |true =>
    rw[Kj rfl] at q9 ⊢;refine bZ (he _ _ _ _ _ s9 σ8 H9 _ hcov I9 q9) λy s10 hq6=>?_;obtain⟨v10,H10,I10,r10,hD10,m',hm,w10⟩:=hq6;refine vU (cC _ s10 σ8 H10 (.ref D) [v10] (.ref D) [y] (λr H11=>r=.aX/\H11=upd H10 D (.lst (ys++[v10]))) I10 rfl (.cons r10 .nil) ⟨D,ys,v10,rfl,rfl,hD10,hys,rfl,rfl⟩) λ_ s11 hq7=>?_;obtain⟨_,H11,I11,_,_,e11⟩:=hq7;subst e11;exact⟨m',hm,i+1,_,σ8,_,I11.gI,(back I11).1,(back I11).2,w10⟩
 have start:=codeAny_compStart_list (R:=RR (.ref D) s3.heap.objs.size) (loop _ rfl) (T.self X.A 0 _ _ _ st4 (loop _ rfl));subst hs3;exact start
theorem m7{pos:Pos}{wi:TI}(S:eB osc ON scope own N)(hosc:X.env.scope=osc)(hON:X.N=ON)(hc:X.calm=true)(hi:PI X tg iter wi)
  (hg:∀C s H fp,PG (bq X scope N C s H fp) tg g) (ht:∀C s H fp,GG (bq X scope N C s H fp) ifs tc) (he:∀C s H fp,PE (bq X scope N C s H fp) elt te)
     {s:Shared} {Q:VK} (I:Inv X pins σ H s) (h:la wi own.length g tc te σ H Q) 
  (fin:∀(D C:Addr) (H':Hp) (s':Shared) (m:Str->Option Value),Inv X pins σ H' s'->Q (.ref D) H'->H' C=none->X.s₀.heap.objs.size<=C->C≠X.env.locals->(∀x c,X.env.cells.lookup x=some c->c≠C)->(∀p∈X.pn++pins,p.1≠C) ->
   s'.heap.Ns C m->RR (.ref D) C (.ok .next) s') :
  wpAny (model X.prog X.w) X.A (eval iter X.env) (λx s₁=>wpAny (model X.prog X.w) X.A (pyIter x) (λit s₂=>wpAny (model X.prog X.w) X.A (newList []) (λacc s₃ =>
   wpAny (model X.prog X.w) X.A (newFunctionEnv scope X.env.globals (eO X.env.cells scope.names []) [] X.env.qual none .none (some X.env)) (λcenv s₄ =>
    codeAny (model X.prog X.w) X.A (.compStart (.ListComp elt [⟨tg,iter,ifs,0⟩] scope pos) 0 it acc {cenv with scope:=relabel scope X.env}) (RR acc cenv.locals) s₄) X.xe s₃) X.xe s₂) X.xe s₁) X.xe s:=
 sQ S hosc hON hc hi hg ht (λ_ _ _ _ _ _=>False) (λC s H fp pins s' σ' H' Q' _ I h=>he C s H fp pins s' σ' H' Q' I h) I h fin λ_ _ _ _ _ _ _ _ _ _ _ _ _ _ z=>z.elim
theorem BL{pos:Pos}{wi:TI}(S:eB osc ON scope own N)(hosc:X.env.scope=osc)(hON:X.N=ON)(hc:X.calm=true)(hi:PI X tg iter wi)
  (hg:∀C s H fp,PG (bq X scope N C s H fp) tg g) (ht:∀C s H fp,GG (bq X scope N C s H fp) ifs tc) (he:∀C s H fp,PE (bq X scope N C s H fp) elt te)
  (hs:autoParam (∀x,foldedSetIterable iter X.env x=pure x) ℜ3) :
  PE X (.ListComp elt [⟨tg,iter,ifs,0⟩] scope pos) (la wi own.length g tc te):=by
 intro pins s σ H Q I h;have hfr:∀y∈scope.names,y.2=.free->∃c,X.env.cells.lookup y.1=some c:=λy hy hf=>I.ok.has _ (by subst hosc;exact S.free y hy hf)
 rw[eval_ListComp];refine OG (use:=none) rfl hs (ia hfr) S.kind S.loc ?_;refine m7 S hosc hON hc hi hg ht he I h (RR:=λacc C=>compPost (model X.prog X.w) X.A X.xe none (EP X pins σ Q) acc C) ?_;intro D C H' s' m I' q h1 h2 h3 h4 h5 hn;exact⟨m,hn,λh'' hs''=>⟨.ref D,H',I'.turned (t':=s'.toks) (λb o hb e=>(hs''.2 b hb).trans e) h1 h3 (.inr h2) h4 h5,rfl,q⟩⟩
theorem rg{pos spos py:Pos}{wi:TI}{y:Str}(hN:X.N.Nodup)(hj:X.N[j]?=some y)(hx:Loc X.env.scope y)(S:eB osc ON scope own N)(hosc:X.env.scope=osc)(hON:X.N=ON)(hc:X.calm=true)(hi:PI X tg iter wi)
  (hg:∀C s H fp,PG (bq X scope N C s H fp) tg g) (ht:∀C s H fp,GG (bq X scope N C s H fp) ifs tc) (he:∀C s H fp,PE (bq X scope N C s H fp) elt te)
  (hsw:autoParam (swapsWith (.ListComp elt [⟨tg,iter,ifs,0⟩] scope pos) (some (.Name y py)) spos.line X.env=pure true) ℜ0)
  (hf:autoParam (X.fn y=true\/X.env.scope.names.lookup y=some .local) ℜ2)
  (hs:autoParam (∀x,foldedSetIterable iter X.env x=pure x) ℜ3) :
  PS X (.Assign [.Name y py] (.ListComp elt [⟨tg,iter,ifs,0⟩] scope pos) spos) (nL (la wi own.length g tc te) (bp j)):=by
 intro pins s σ H Dn I h;have hfr:∀y∈scope.names,y.2=.free->∃c,X.env.cells.lookup y.1=some c:=λy hy hf=>I.ok.has _ (by subst hosc;exact S.free y hy hf)
 rw[exec_Assign_Name_used _ _ _ _ hsw];refine Kb (Ou (Kb ?_));show wpAny _ X.A (do let _ <- comprehension (.ListComp elt [⟨tg,iter,ifs,0⟩] scope pos) scope X.env _ (newList []) false (eval iter X.env) (some (assign (.Name y py) X.env))) _ _ s
 refine Kb (Ls (OG (use:=some (assign (.Name y py) X.env)) (Q:=λ_ s'=>SP X pins Dn .next s') rfl hs (ia hfr) S.kind S.loc ?_) (λ_ s' hq=>Ks (Ks hq)) λ_ _ e=>e);refine m7 S hosc hON hc hi hg ht he I h (RR:=λacc C=>compPost (model X.prog X.w) X.A X.xe (some (assign (.Name y py) X.env)) (λ_ s'=>SP X pins Dn .next s') acc C) ?_;intro D C H' s' m I' q h1 h2 h3 h4 h5 hn;show wpAny _ X.A (assign (.Name y py) X.env (.ref D)) _ _ _;refine wpAny_assign_Name (mV I' hN hj hx (v:=.ref D) rfl (λs'' I'' hsb=>?_) hf);obtain⟨a,sb,ha⟩:=hsb;have nC:C≠a:=by
  rcases ha with ha|ha
  ·rw[ha];exact h3
  ·exact (h4 y a ha).symm
 exact⟨m,hn.sameBut sb nC,λh'' hs''=>⟨_,H',I''.turned (t':=s''.toks) (λb o hb e=>(hs''.2 b hb).trans e) h1 h3 (.inr h2) h4 h5,q⟩⟩
noncomputable def eX(e:Expr):Bool:=match e with
 |.Starred ..=>false
 |_=>true
theorem cH(h:eX e=true):starEach (e::es) env=(false,eval e env)::starEach es env:=by
 cases e<;>first|rfl|cases h
theorem plain_any{pos:Pos}:∀{es:List Expr},es.all eX=true->(backTo pos (starEach es env)).any (·.1)=false
 |[],_=>rfl
 |e::es,h=>by
  rw[L_,Lo] at h;rw[cH h.1];show (false || (backTo pos (starEach es env)).any (·.1))=false;rw[plain_any h.2];rfl
theorem plain_all{pos:Pos}:∀{es:List Expr},es.all eX=true->(backTo pos (starEach es env)).all (λx=>!x.1)=true
 |[],_=>rfl
 |e::es,h=>by
  rw[L_,Lo] at h;rw[cH h.1];show (true && (backTo pos (starEach es env)).all (λx=>!x.1))=true;rw[plain_all h.2];rfl
theorem EL{cpos:Pos}(h:(e::es).all eX=true)(hl:(e::es).length<30):
  ((backTo cpos (starEach (e::es) env)).all (λx=>!x.1) && (backToKw cpos (keywordEach [] env)).all (λx=>x.1.isSome) && decide ((e::es).length+([]:List Keyword).length+(if ([]:List Keyword).isEmpty then 0 else 1)<30))=true:=by
 rw[plain_all h];have e2:(backToKw cpos (keywordEach [] env)).all (λx=>x.1.isSome)=true:=rfl;rw[e2];have e3:(e::es).length+([]:List Keyword).length+(if ([]:List Keyword).isEmpty then 0 else 1)<30:=hl
 rw[KG e3];rfl
section
variable {X:Cx} {e:Expr} {es:List Expr} {te:TE} {t:TA}
theorem Ji(ha:PE X e te)(hr:PA X es t)(h:autoParam (eX e=true) ℜ0):PA X (e::es) (jw te t):=u9 ha hr (cH h)
theorem HW{id:String}{p pos:Pos}(hc:bE X (.builtin id) r)(hg:Gl X x)(hm:X.mg x=none)(hv:bootBuiltins x=some (.builtin id))(ha:PA X (e::es) t)(h1:autoParam (eX e=true) ℜ0)(h2:autoParam (es.all eX=true) ℜ0)(hn:autoParam (x≠"__name__") ℜ1)(hdb:autoParam ((x ==("__debug__":Str))=false) ℜ1):
  PE X (.Call (.Name x p) (e::es) [] pos) (AH r t):=yq hc hg hm hv ha hn hdb (cH h1) (plain_any h2)
theorem HD{T:String}{p pos:Pos}(hc:bE X (.type T) r)(hg:Gl X x)(hm:X.mg x=none)(hv:bootBuiltins x=some (.type T))(ha:PA X (e::es) t)(h1:autoParam (eX e=true) ℜ0)(h2:autoParam (es.all eX=true) ℜ0)(hn:autoParam (x≠"__name__") ℜ1)(hdb:autoParam ((x ==("__debug__":Str))=false) ℜ1):
  PE X (.Call (.Name x p) (e::es) [] pos) (AH r t):=v8 hc hg hm hv ha hn hdb (cH h1) (plain_any h2)
theorem EV{o:Expr}{to:TE}{name:Str}{apos cpos:Pos}{T id:String}{r:V->List V->Hp->VK->Prop}(pa:PlainAttrs T)(slot:Slot T name id)(hty:typeOf (.builtin id)=pure (.type "method_descriptor"))(hm:xf X id r)(ho:PE X o to)(ha:PA X (e::es) t)
  (hbase:attributeBase o name X.env (eval o X.env)=eval o X.env) (hline:(apos.endLine == cpos.line)=true) (h:(e::es).all eX=true) (hl:(e::es).length<30):PE X (.Call (.Attribute o name apos) (e::es) [] cpos) (GA X.K T r to t):=by
 have h':=h;rw[L_,Lo] at h';exact Io pa slot hty hm ho ha hbase (EL h hl) hline (cH h'.1) (plain_any h'.2)
theorem sU{a:Expr}{p pos:Pos}(hg:Gl X "range")(hm:X.mg "range"=none)(ha:PA X [a] ta)(h:autoParam (eX a=true) ℜ0):PI X tg (.Call (.Name "range" p) [a] [] pos) (mw ta):=wA hg hm ha (cH h)
theorem rT{a:Expr}{p pos:Pos}(hg:Gl X "range")(hm:X.mg "range"=none)(ha:PA X [a,b] ta)(h:autoParam (eX a=true) ℜ0)(h2:autoParam (eX b=true) ℜ0):PI X tg (.Call (.Name "range" p) [a,b] [] pos) (m9 ta):=vN hg hm ha (by rw[cH h,cH h2];rfl) (cH h2)
end
structure HasFn (K:PJ) (mg:Str->Option Value) (x:Str) (st:Stmt) (ps:List Str):Prop where
 ex:∃(f:Addr) (fd:FuncData),lB K x x st f fd/\Binds K fd ps []/\mg x=some (.ref f)
structure au (P:Program) (w:World) (K:PJ) (mg:Str->Option Value) (base:Heap) (CX:qk) (k:Nat) (x:Str) (ps:List Str) (sp:Sp):Prop where
 ex:∃(f:Addr) (fd:FuncData),mg x=some (.ref f)/\PySem.W.keepIn K (.ref f)=true/\Binds K fd ps []/\cP P w K mg base CX k f fd ps sp
section
variable {P:Program} {w:World} {K:PJ} {mg:Str->Option Value} {base:Heap}
theorem HasFn.ok{ps:List Str}(F:HasFn K mg x st ps)(S:ay N ps (af st))(len:∀vs H Q E,sp vs H Q E->vs.length=ps.length)
  (hbody:∀(f:Addr) (cdv:Value) (A:Around) (outer:List Env) (s:Shared) (H:Hp) (vs:List V) (Q:VK) (E:XK),bR k (A.deeper (envOfC x (af st) s.heap.objs.size f cdv))->sp vs H Q E ->
   ∃t,rG (gy aZ P w K mg base N x (af st) f cdv A outer s H E).qW (aT st) t/\t {nx:=λ_ H'=>Q .aX H',rt:=Q} (start N vs) H):au P w K mg base aZ (k+1) x ps sp:=by
 obtain⟨f,fd,F1,b,m⟩:=F.ex;exact⟨f,fd,m,F1.kp,b,F1.ok S len λcdv A outer s H vs Q E hr h=>hbody f cdv A outer s H vs Q E hr h⟩
end
section
variable {X:Cx} {CX:qk} {k:Nat} {ps:List Str} {sp:Sp} {E:XK} {x:Str} {p pos:Pos} {e:Expr} {es:List Expr} {t:TA}
theorem Hi(F:au X.prog X.w X.K X.mg X.base CX k x ps sp)(hr:bR k X.A)(hg:Gl X x)(hx:Passes CX X E)(ha:PA X (e::es) t)(h1:autoParam (eX e=true) ℜ0)(h2:autoParam (es.all eX=true) ℜ0)(hdb:autoParam ((x ==("__debug__":Str))=false) ℜ1):
  PE X (.Call (.Name x p) (e::es) [] pos) (mO sp [] E t):=by
 obtain⟨f,fd,m,kp,b,G⟩:=F.ex;exact AY G hr hg m kp b .nil hx ha hdb (cH h1) (plain_any h2)
end
noncomputable def EU:Expr->Option V
 |.Constant (.int i) _ _=>some (.int i)
 |.Constant (.str x) _ _=>some (.str x)
 |.Constant (.bool b) _ _=>some (.bl b)
 |.Constant .none _ _=>some .aX
 |_=>none
noncomputable def tW:List Expr->Option (List V)
 |[]=>some []
 |e::es=>match EU e,tW es with
  |some v,some vs=>some (v::vs)
  |_,_=>none
def tK(vs:List V):TA:=λ_ H Q=>Q vs H
theorem Gn{v:V}(h:EU e=some v):PE X e (tC v)/\∀es,starEach (e::es) X.env=(false,eval e X.env)::starEach es X.env:=by
 unfold EU at h
 split at h
 ·cases h;exact⟨lP,λ_=>rfl⟩
 ·cases h;exact⟨zP,λ_=>rfl⟩
 ·cases h;exact⟨Eb,λ_=>rfl⟩
 ·cases h;exact⟨yA,λ_=>rfl⟩
 ·cases h
theorem mB{X:Cx}:∀{es:List Expr} {vs:List V},tW es=some vs->PA X es (tK vs)
 |[],vs,h=>by cases h;exact yQ
 |e::es,vs,h=>by
  unfold tW at h
  split at h
  ·rename_i v ws e1 e2;cases h;have p:=Gn (X:=X) e1;exact u9 (te:=tC v) (t:=tK ws) p.1 (mB e2) (p.2 es)
  ·cases h
noncomputable def sq(H:Hp)(p:Addr):Option (Bool×List V):=match H p with
 |some (.lst xs)=>some (true,xs)
 |some (.tup xs)=>some (false,xs)
 |some (.jG _ (.lst xs))=>some (true,xs)
 |some (.jG _ (.tup xs))=>some (false,xs)
 |_=>none
theorem gS(h:sq H p=some (true,xs)):bB K H p xs:=by
 unfold sq at h
 split at h
 ·rename_i e;cases h;exact .inl (.inl e)
 ·cases h
 ·rename_i e;cases h;exact .inl (.inr ⟨_,e⟩)
 ·cases h
 ·cases h
theorem gH(h:sq H p=some (false,xs)):aY K H p xs:=by
 unfold sq at h
 split at h
 ·cases h
 ·rename_i e;cases h;exact .inl (.inl e)
 ·cases h
 ·rename_i e;cases h;exact .inl (.inr ⟨_,e⟩)
 ·cases h
theorem sy{b:Bool}(h:sq H p=some (b,xs)):bB K H p xs\/aY K H p xs:=by
 cases b with
 |true=>exact .inl (gS h)
 |false=>exact .inr (gH h)
theorem aI(h:H p=some (.lst xs)):sq H p=some (true,xs):=by unfold sq;rw[h]
theorem aL(h:H p=some (.tup xs)):sq H p=some (false,xs):=by unfold sq;rw[h]
section
variable {X:Cx}
noncomputable def wH(K:PJ):R2:=λx y H Q=>match x,y with
 |.int i,.int j=>Q (.int (i+j)) H
 |.str i,.str j=>i.length+j.length<=sizeLine/\Q (.str (i++j)) H
 |.ref a,.ref b=>match H a,H b with
  |some (.lst xs),some (.lst ys)=>xs.length+ys.length<=sizeLine/\∀p,H p=none->Q (.ref p) (upd H p (.lst (xs++ys)))
  |some (.tup xs),some (.tup ys)=>xs≠[]/\ys≠[]/\xs.length+ys.length<=sizeLine/\∀p,H p=none->Q (.ref p) (upd H p (.tup (xs++ys)))
  |_,_=>False
 |_,_=>False
theorem B4:dh X (binaryOp .Add) (wH X.K):=by
 intro pins s σ H x y v u Q I rx ry h
 cases x with
 |int i=>cases y with
  |int j=>exact yv pins s σ H _ _ v u Q I rx ry ⟨i,j,rfl,rfl,h⟩
  |_=>exact (show False from h).elim
 |str i=>cases y with
  |str j=>exact kN pins s σ H _ _ v u Q I rx ry ⟨i,j,rfl,rfl,h.1,h.2⟩
  |_=>exact (show False from h).elim
 |ref a=>cases y with
  |ref b =>
   unfold wH at h;simp only at h
   split at h
   ·rename_i xs ys e1 e2;exact zq pins s σ H _ _ v u Q I rx ry ⟨a,b,xs,ys,rfl,rfl,e1,e2,h.1,h.2⟩
   ·rename_i xs ys e1 e2;obtain⟨h1,h2,h3,h4⟩:=h;exact uV pins s σ H _ _ v u Q I rx ry ⟨a,b,xs,ys,rfl,rfl,aY.of e1,aY.of e2,h1,h3,λz=>absurd z h2,λ_=>h4⟩
   ·exact h.elim
  |_=>exact (show False from h).elim
 |_=>exact (show False from h).elim
def E6:R2:=λx y H Q=>match x,y with
 |.int i,.int j=>AI i j/\Q (.int (i*j)) H
 |.ref a,.int j=>HG (.ref a) (.int j) H Q
 |_,_=>False
theorem cK:dh X (binaryOp .Mult) E6:=by
 intro pins s σ H x y v u Q I rx ry h
 cases x with
 |int i=>cases y with
  |int j=>exact ES pins s σ H _ _ v u Q I rx ry ⟨i,j,rfl,rfl,h.1,h.2⟩
  |_=>exact (show False from h).elim
 |ref a=>cases y with
  |int j=>exact EH pins s σ H _ _ v u Q I rx ry h
  |_=>exact (show False from h).elim
 |_=>exact (show False from h).elim
theorem b6:dh X (compareOp .Eq) DE:=Ea
theorem xG:dh X (compareOp .NotEq) HF:=DD
noncomputable def GL(K:PJ)(neg:Bool):R2:=λx y H Q=>match y with
 |.str j=>∃i,x=.str i/\Q (.bl (if neg then !(!(Builtin.Str.occurrences j i 0 j.length 1).isEmpty) else !(Builtin.Str.occurrences j i 0 j.length 1).isEmpty)) H
 |.ref p=>match sq H p with
  |some (_,xs)=>cQ x=true/\xs.all cQ=true/\Q (.bl (if neg then !qM x xs else qM x xs)) H
  |none=>∃xs,aY K H p xs/\cQ x=true/\xs.all cQ=true/\Q (.bl (if neg then !qM x xs else qM x xs)) H
 |_=>False
theorem Fe{neg:Bool}{x:V}{Q:VK}(h:GL K neg x (.ref p) H Q):I_ K neg x (.ref p) H Q:=by
 unfold GL at h;simp only at h
 split at h
 ·rename_i xs e;exact⟨p,_,rfl,sy e,h.1,h.2.1,h.2.2⟩
 ·obtain⟨xs,hq,h⟩:=h;exact⟨p,xs,rfl,.inr hq,h.1,h.2.1,h.2.2⟩
theorem FA(hu:k<cLine):dh X (compareOp .In) (GL X.K false):=by
 intro pins s σ H x y v u Q I rx ry h
 match y,h with
 |.str j,h =>
  obtain⟨i,rfl,h'⟩:=h;exact xo pins s σ H _ _ v u Q I rx ry ⟨i,j,rfl,rfl,h'⟩
 |.ref p,h=>exact mM pins s σ H _ _ v u Q I rx ry (Fe h)
noncomputable def Dd(K:PJ):R2:=λx y H Q=>match x,y with
 |.str z,.int i=>z.length<=sizeLine/\(match cL z.cps.toList i with|some c=>Q (.str ⟨#[c]⟩) H|none=>False)
 |.ref p,.int i=>match sq H p with
  |some (_,xs)=>(match cL xs i with|some v=>Q v H|none=>False)
  |none=>∃xs v,aY K H p xs/\cL xs i=some v/\Q v H
 |_,_=>False
theorem JY(hu:k<cLine):vE X (Dd X.K):=by
 intro value slice pins s σ H x y v u Q I rx ry h hs;refine ER value slice pins s σ H x y v u Q I rx ry ?_ hs
 cases x with
 |str z=>cases y with
  |int i =>
   obtain⟨hz,h⟩:=h
   split at h
   ·rename_i c e;exact .inr (.inr ⟨z,i,c,rfl,rfl,hz,e,h⟩)
   ·exact h.elim
  |_=>exact (show False from h).elim
 |ref p=>cases y with
  |int i =>
   unfold Dd at h;simp only at h
   split at h
   ·rename_i b xs e
    split at h
    ·rename_i w' e'
     cases b with
     |true=>exact .inl ⟨p,xs,i,w',rfl,rfl,gS e,e',h⟩
     |false=>exact .inr (.inl ⟨p,xs,i,w',rfl,rfl,gH e,e',h⟩)
    ·exact h.elim
   ·obtain⟨xs,w',hq,e',h⟩:=h;exact .inr (.inl ⟨p,xs,i,w',rfl,rfl,hq,e',h⟩)
  |_=>exact (show False from h).elim
 |_=>exact (show False from h).elim
noncomputable def IJ(K:PJ):V->Option Int->Option Int->Hp->VK->Prop:=λx lo hi H Q=>match x with
 |.ref p=>match sq H p with
  |some (true,xs)=>∀q,H q=none->Q (.ref q) (upd H q (.lst (eC xs lo hi)))
  |some (false,xs)=>r9 K (.ref p) lo hi H Q
  |none=>r9 K (.ref p) lo hi H Q
 |_=>False
theorem Dm:uR X (IJ X.K):=by
 intro pins s σ H x v vl vu lo hi sl Q I rx hs pl pu h
 match x,h with
 |.ref p,h =>
  unfold IJ at h;simp only at h
  split at h
  ·rename_i xs e;exact nG pins s σ H _ v vl vu lo hi sl Q I rx hs pl pu ⟨p,xs,rfl,gS e,h⟩
  ·exact s_ pins s σ H _ v vl vu lo hi sl Q I rx hs pl pu h
  ·exact s_ pins s σ H _ v vl vu lo hi sl Q I rx hs pl pu h
noncomputable def Aj:V->V->V->Hp->(Hp->Prop)->Prop:=λo i v H Q=>match o,i with
 |.ref p,.int k=>match H p with
  |some (.lst xs)=>(match jP xs.length k with|some j=>Q (upd H p (.lst (xs.set j v)))|none=>False)
  |_=>False
 |_,_=>False
theorem uset:EN X Aj:=by
 intro pins s σ H o i v ov iv u Q I ro ri rv h
 cases o with
 |ref p=>cases i with
  |int k =>
   unfold Aj at h;simp only at h
   split at h
   ·rename_i xs e
    split at h
    ·rename_i j e';exact set_list pins s σ H _ _ v ov iv u Q I ro ri rv ⟨p,xs,k,j,rfl,rfl,e,e',h⟩
    ·exact h.elim
   ·exact h.elim
  |_=>exact (show False from h).elim
 |_=>exact (show False from h).elim
noncomputable def zC(K:PJ):List V->Hp->VK->Prop:=λxs H Q=>match xs with
 |[.str y]=>y.length<=sizeLine/\Q (.int y.length) H
 |[.ref p]=>match sq H p with
  |some (_,ys)=>Q (.int ys.length) H
  |none=>∃ys,aY K H p ys/\Q (.int ys.length) H
 |_=>False
theorem wX:bE X (.builtin "len") (zC X.K):=by
 intro pins s σ H xs us Q I r h;rcases xs with _|⟨x,_|⟨y,xs⟩⟩
 ·exact (show False from h).elim
 rotate_left
 ·cases x<;>exact (show False from h).elim
 cases x with
 |str y=>exact iO pins s σ H _ us Q I r ⟨.str y,_,rfl,⟨h.1,rfl⟩,h.2⟩
 |ref p =>
  unfold zC at h;simp only at h
  split at h
  ·rename_i b ys e;refine iO pins s σ H _ us Q I r ⟨.ref p,ys.length,rfl,?_,h⟩
   cases b with
   |true=>exact .inl ⟨ys,gS e,rfl⟩
   |false=>exact .inr ⟨ys,gH e,rfl⟩
  ·obtain⟨ys,hq,h⟩:=h;exact iO pins s σ H _ us Q I r ⟨.ref p,ys.length,rfl,.inr ⟨ys,hq,rfl⟩,h⟩
 |_=>exact (show False from h).elim
def HK:List V->Hp->VK->Prop:=λxs H Q=>match xs with
 |[.int i,.int j]=>Q (.int (if j<i then j else i)) H
 |_=>False
theorem mU(hc:X.calm=true):bE X (.builtin "min") HK:=by
 intro pins s σ H xs us Q I r h;rcases xs with _|⟨x,_|⟨y,_|⟨z,xs⟩⟩⟩
 ·exact (show False from h).elim
 ·cases x<;>exact (show False from h).elim
 ·cases x with
  |int i=>cases y with
   |int j=>exact wR hc pins s σ H _ us Q I r ⟨i,j,rfl,h⟩
   |_=>exact (show False from h).elim
  |_=>exact (show False from h).elim
 ·cases x with
  |int i=>cases y<;>exact (show False from h).elim
  |_=>exact (show False from h).elim
noncomputable def oC(K:PJ):List V->Hp->VK->Prop:=λxs H Q=>match xs with
 |[.ref p]=>match sq H p with
  |some (true,ys)=>∀l,H l=none->Q (.ref l) (upd H l (.tup ys))
  |some (false,_)=>Q (.ref p) H
  |none=>∃ys,aY K H p ys/\Q (.ref p) H
 |_=>False
theorem qh:bE X (.type "tuple") (oC X.K):=by
 intro pins s σ H xs us Q I r h;rcases xs with _|⟨x,_|⟨y,xs⟩⟩
 ·exact (show False from h).elim
 rotate_left
 ·cases x<;>exact (show False from h).elim
 cases x with
 |ref p =>
  unfold oC at h;simp only at h
  split at h
  ·rename_i ys e;exact fm pins s σ H _ us Q I r ⟨p,ys,rfl,.inl ⟨gS e,h⟩⟩
  ·rename_i ys e;exact fm pins s σ H _ us Q I r ⟨p,ys,rfl,.inr ⟨gH e,h⟩⟩
  ·obtain⟨ys,hq,h⟩:=h;exact fm pins s σ H _ us Q I r ⟨p,ys,rfl,.inr ⟨hq,h⟩⟩
 |_=>exact (show False from h).elim
def HI:List V->Hp->VK->Prop:=λxs H Q=>match xs with
 |[.int i]=>Q (.int i) H
 |[.bl k]=>Q (.int (if k=true then 1 else 0)) H
 |_=>False
theorem m6:bE X (.type "int") HI:=by
 intro pins s σ H xs us Q I r h;rcases xs with _|⟨x,_|⟨y,ys⟩⟩
 ·exact (show False from h).elim
 ·cases x with
  |int i=>exact mQ pins s σ H _ us Q I r (.inl ⟨i,rfl,h⟩)
  |bl k=>exact mQ pins s σ H _ us Q I r (.inr ⟨k,rfl,h⟩)
  |_=>exact (show False from h).elim
 ·cases x<;>exact (show False from h).elim
noncomputable def Iy:List V->Hp->VK->Prop:=λxs H Q=>match xs with
 |[.int i]=>i.natAbs.log2<1920/\Q (.str (toString i)) H
 |[.str z]=>Q (.str z) H
 |_=>False
theorem vW:bE X (.type "str") Iy:=by
 intro pins s σ H xs us Q I r h
 match xs,h with
 |[.int i],h=>exact oH pins s σ H _ us Q I r ⟨i,rfl,h.1,h.2⟩
 |[.str z],h =>
  obtain⟨u,rfl,t,rfl⟩:=vals1 r;exact PySem.P.str_of_str ⟨.str z,H,I,⟨_,rfl⟩,h⟩
theorem mE(hc:X.calm=true):bE X (.builtin "sum") (λxs H Q=>∃(p:Addr) (ns:List Int),xs=[.ref p]/\bB X.K H p (ns.map V.int)/\Q (.int ns.sum) H):=by
 intro pins s σ H xs us Q I r h;obtain⟨p,ns,rfl,hq,q⟩:=h;obtain⟨u,rfl,ru⟩:=vals1 r;cases ru;obtain⟨its,rv,pl,hz⟩:=I.list hq;have hi:=intsAre_of rv;obtain⟨xs,hx⟩:=hi.allInts.items;have hl':s.heap.IsList p (intItems xs):=by rw[<- hx];exact pl.isList
 refine sum_intListG (I.ok.hd hc) hl' λh' tk t' hk=>?_;have e1:ns=xs.toList.map (·.1):=by rw[<- nums_intItems,<- hx];exact hi.numsOf.symm
 have e2:preSum (numAt xs) xs.size=ns.sum:=by rw[preSum_eq,La (by simp),e1]
 rw[e2];exact⟨.int ns.sum,H,I.kept hk,⟨_,rfl⟩,q⟩
noncomputable def rJoin(K:PJ):V->List V->Hp->VK->Prop:=λx vs H Q=>∃z l ys,x=.str z/\vs=[.ref l]/\bB K H l (ys.map V.str)/\(ys.map (·.length)).sum+ys.length*z.length<=16777216/\Q (.str (Str.join z ys)) H
theorem kZ:∀{ys:List Str} {us:List Value},Vals (ys.map V.str) us->StrsAre us ys
 |[],_,.nil=>.nil
 |y::ys,_,.cons r t=>by
  obtain⟨k,rfl⟩:=r;exact .cons y k (kZ t)
theorem Bt:xf X "str.join" (rJoin X.K):=by
 intro pins s σ H x xs v us Q I rx rs h;obtain⟨z,l,ys,rfl,rfl,hq,hz,q⟩:=h;obtain⟨t,rfl⟩:=rx;obtain⟨u,rfl,ru⟩:=vals1 rs;cases ru;obtain⟨its,rv,pl,_⟩:=I.list hq;refine join_list pl.isList (by simpa using kZ rv) hz λt' k=>?_
 have e:Txt.join z ys=Str.join z ys:=StrLaws.glued_eq_join z ys;rw[e];exact⟨.str _,H,I.tok _,⟨_,rfl⟩,q⟩
end
section
variable {X:Cx} {e:Expr} {te:TE}
theorem tF(p:Nat->Bool):∀(l:List Nat),l.drop (l.takeWhile p).length=l.dropWhile p
 |[]=>rfl
 |x::l=>by
  by_cases h:p x
  ·simp[NW,Ng,h,tF p l]
  ·simp[NW,Ng,h]
end
open AutoSeq1 (wpAny_loadPart')
section
variable {prog:Program} {w:World} {A:Around} {E:Value->Shared->Prop} {s:Shared}
theorem jI{it l:Addr}{x:Value}(hit:s.heap.IsTupleIter it l i)(hl:s.heap.IsTuple l items)(hx:items[i]?=some x)
  (hQ:∀h',h'.IsTupleIter it l (i+1)->Heap.SameBut it s.heap h'->Q x {s with heap:=h'}):wpAny (model prog w) A (Builtin.SmallTypes.nextOf (.ref it)) Q E s:=by
 obtain⟨o,ho,hc,hd⟩:=id hit;obtain⟨ol,hol,_,nl,hdl⟩:=hl;unfold Builtin.SmallTypes.nextOf;refine Kb (Ll (name:=Str.ofString "__next__") hit.typeIs Mo (L4 Mo hit.typeIs Oj ?_ (Ob _)));show wpAny _ _ (field (.ref it) 0 >>= _) _ _ s;refine Kb (MM ho hd (x:=.ref l) rfl ?_);show wpAny _ _ (if (Value.ref l == Value.none)=true then _ else _) _ _ s
 rw[Ki (show ¬ ((Value.ref l == Value.none)=true) from Kx)];show wpAny _ _ (field (.ref it) 1 >>= _) _ _ s;refine Kb (MM ho hd (x:=.int i 0) rfl ?_);show wpAny _ _ (seqItems? (.ref l) >>= _) _ _ s;refine Kb (MU hol hdl ?_);simp only[KN,hx];refine Kb (Oc ho hd (by simp) (Ks ⟨x,rfl,Ks (hQ _ ?_ (LC ..))⟩))
 exact⟨_,MP _ ho (Obj.isFreed_of_fields (Nm hd _)),(Obj.cls_mapFields ..).trans hc,by rw[Nm hd];simp[rawInt]⟩
theorem kO{it l:Addr}(hh:A.handled=none)(hit:s.heap.IsTupleIter it l i)(hl:s.heap.IsTuple l items)(hx:items[i]?=none)
  (hE:∀h' e,Heap.ExtBut it s.heap h'->(∃o,h'.get? e=some o/\o.cls=.type "StopIteration")->E (.ref e) {s with heap:=h'}):wpAny (model prog w) A (Builtin.SmallTypes.nextOf (.ref it)) Q E s:=by
 obtain⟨o,ho,hc,hd⟩:=id hit;obtain⟨ol,hol,_,nl,hdl⟩:=hl;unfold Builtin.SmallTypes.nextOf;refine Kb (Ll (name:=Str.ofString "__next__") hit.typeIs Mo (L4 Mo hit.typeIs Oj ?_ (Ob _)));show wpAny _ _ (field (.ref it) 0 >>= _) _ _ s;refine Kb (MM ho hd (x:=.ref l) rfl ?_);show wpAny _ _ (if (Value.ref l == Value.none)=true then _ else _) _ _ s
 rw[Ki (show ¬ ((Value.ref l == Value.none)=true) from Kx)];show wpAny _ _ (field (.ref it) 1 >>= _) _ _ s;refine Kb (MM ho hd (x:=.int i 0) rfl ?_);show wpAny _ _ (seqItems? (.ref l) >>= _) _ _ s;refine Kb (MU hol hdl ?_);simp only[KN,hx];refine Kb (O6 (Kb (Oc ho hd (by simp) ?_)))
 show wpAny _ _ (newExc (.type "StopIteration") [] >>= _) _ _ _;refine Kb ?_;simp only[newExc,newTuple];refine Kb (LK ?_ (by size_fits))
 refine Kb (m:=firstArgMember _ _) (wpAny_of_eq (a:=Value.none) (by first|rfl | (simp only[firstArgMember];rfl)) ?_)
 refine LK ?_ (by size_fits)
 simp only[raiseNew];refine Kb (wpAny_handled ?_)
 first|rw[show A.in1.handled=none from hh]|rw[hh]
 refine Kb (Ks (wpAny_throw ?_));exact hE _ _ (((LC ..).extBut.push _).push _) ⟨_,Ky _ rfl,rfl⟩
theorem ja(hh:A.handled=none)(it l:Addr)(hne:l≠it)(items:Array Value):
  Draws prog w A it [it,l] items.size (λi v=>items[i]?=some v) (λi h=>h.IsTupleIter it l i/\h.IsTuple l items) where
 live:=λ_ _ st=>let ⟨o,ho,_⟩:=st.1;⟨o,ho⟩
 frame:=λ_ _ _ st hk=>⟨let ⟨o,e,r⟩:=st.1;⟨o,hk it (by simp) o e,r⟩,let ⟨o,e,r⟩:=st.2;⟨o,hk l (by simp) o e,r⟩⟩
 item:=λi s Q E hi st hQ=>by
  refine jI st.1 st.2 (x:=items[i]) (by simp[hi]) λh' hit' hs'=>?_
  exact hQ _ h' s.toks (by simp[hi]) ⟨hit',st.2.extBut hs'.extBut hne⟩ hs'
 done:=λs Q E st hE=>kO hh st.1 st.2 (by simp) hE
theorem lE(l:Addr)(items:Array Value)(n:Nat)(dct:Option Addr)(sl:Array (Option Value)):
  Meets (Builtin.«enumerate.__new__» ⟨[.type "enumerate",.ref l],[]⟩) (λ_ R s=>s.heap.get? l=some {cls:=.type "tuple",dict:=dct,data:=.seq items n,slots:=sl} /\
   R (.ok (.ret (.ref (s.heap.push {cls:=.type "tuple_iterator",data:=.fields #[.ref l,.int 0 0]}).objs.size)))
    {s with heap:=(s.heap.push {cls:=.type "tuple_iterator",data:=.fields #[.ref l,.int 0 0]}).push {cls:=.type "enumerate",data:=.fields #[.none,.bool false,.ref s.heap.objs.size,rawInt 0,.none,.none]}}):=
 .of_wp λprog w A R s h=>by
  obtain⟨hp,g,d,tk,os⟩:=s;obtain⟨hl,h⟩:=h;have hsub:=sub_enumerate;have hL:Heap.IsTuple (Shared.heap ⟨hp,g,d,tk,os⟩) l items:=⟨_,hl,rfl,n,rfl⟩;wp_walk using NJ hl;refine wpAny_stack_any λst=>Ks ?_;split
  ·rename_i c _ _ _ _ _
   cases (c == Value.type "enumerate")<;>(wp_walk using NJ hl,MD hL;exact⟨_,rfl,h⟩)
  ·wp_walk using NJ hl,MD hL;exact⟨_,rfl,h⟩
theorem mj{l:Addr}(hL:s.heap.IsTuple l items)
  (h:∀h',IsEnum h' (s.heap.objs.size+1) s.heap.objs.size 0 .none->h'.IsTupleIter s.heap.objs.size l 0->h'.objs.size=s.heap.objs.size+2 ->
   (∀b o,s.heap.get? b=some o->h'.get? b=some o)->Q (.ref (s.heap.objs.size+1)) {s with heap:=h'}) :
  wpAny (model prog w) A (call (.type "enumerate") [.ref l]) Q E s:=by
 obtain⟨⟨c,dct,dt,sl⟩,hl,hc,n,hd⟩:=hL
 replace hc:c=.type "tuple":=hc
 replace hd:dt=.seq items n:=hd
 subst hc hd;refine OH F.called_enumerate (by decide) (F.typeCall_enumerate_1 _) (F.newCall_enumerate_1 _) (λobj=>F.args_object_init_2 obj _) F.entry_enumerate_new (lE l items n dct sl) ⟨hl,?_⟩
 have hz:(s.heap.push {cls:=.type "tuple_iterator",data:=.fields #[.ref l,.int 0 0]}).objs.size=s.heap.objs.size+1:=Lu ..;show _/\_;rw[hz];have he:IsEnum ((s.heap.push {cls:=.type "tuple_iterator",data:=.fields #[.ref l,.int 0 0]}).push {cls:=.type "enumerate",data:=.fields #[.none,.bool false,.ref s.heap.objs.size,rawInt 0,.none,.none]}) (s.heap.objs.size+1) s.heap.objs.size 0 .none:=by
  have:=Ky (s.heap.push {cls:=.type "tuple_iterator",data:=.fields #[.ref l,.int 0 0]}) (o:={cls:=.type "enumerate",data:=.fields #[.none,.bool false,.ref s.heap.objs.size,rawInt 0,.none,.none]}) rfl;rw[hz] at this;exact this
 refine⟨⟨_,he,rfl⟩,h _ he ⟨_,Kg _ (Ky _ rfl),rfl,rfl⟩ (by rw[Lu,hz]) λb o x=>Kg _ (Kg _ x)⟩
end
section
variable {X:Cx} {pins:List (Addr×Obj)} {σ:St} {H:Hp} {s:Shared} {h':Heap}
theorem Inv.turns{t':Nat}(I:Inv X pins σ H s)(hf:∀b∈fp,lS X pins H b)(k:∀b o,b∉fp->s.heap.get? b=some o->h'.get? b=some o):Inv X pins σ H {s with heap:=h',toks:=t'}:=by
 have nf:∀b u,H b=some u->b∉fp:=λb u e z=>by rw[(hf b z).1] at e;cases e
 refine I.step (g':=s.gens) (d':=s.drawn) (ch:=fp) (λb hb=>?_) (λb o _ _ hc e _=>k b o hc e) (λb o _ _ hc e _=>⟨o.slots,k b o hc e⟩) (λ_ _ _ _ n=>n)
  (λb o hc e=>⟨o,k b o hc e⟩) (λ_ _ e=>e) (λ_ _ _ e=>e) (λb ps e=>⟨#[],by rw[e];simp⟩) (λm hm=>?_) (λb u e=>?_) I.bare
 ·obtain⟨_,g1,g2,g3,g4,g5⟩:=hf b hb;exact⟨g3,g1,g4,g5⟩
 ·obtain⟨o,es,ep,ho,r⟩:=hm;exact⟨o,es,ep,k _ o (λz=>(hf _ z).2.1 rfl) ho,r⟩
 ·refine (I.ba b u e).ou (λc v hc q=>k c v ?_ q) (λ_ q=>q) (λ_ _ q=>q) λ_ _ _ q=>q;rcases hc with z|z
  ·rw[z];exact nf b u e
  ·exact nf c _ z
theorem Inv.nN{t':Nat}(I:Inv X pins σ H s)(hf:∀b∈fp,lS X pins H b)(hp:s.heap.objs.size<=p)(k:∀b o,b∉fp->s.heap.get? b=some o->h'.get? b=some o)
  (new:bQ X.prog X.w (upd H p o) h' p o):Inv X pins σ (upd H p o) {s with heap:=h',toks:=t'}:=by
 have nf:∀b u,H b=some u->b∉fp:=λb u e z=>by rw[(hf b z).1] at e;cases e
 have fr:H p=none:=I.ba.fresh hp;have np:∀b u,H b=some u->b≠p:=λb u e=>ao e fr;have ne:∀b o,s.heap.get? b=some o->b≠p:=λb o e z=>by rw[z] at e;exact absurd (KI (K0 e) hp) (LQ _)
 refine I.step (g':=s.gens) (d':=s.drawn) (ch:=fp) (λb hb=>?_) (λb o _ _ hc e _=>k b o hc e) (λb o _ _ hc e _=>⟨o.slots,k b o hc e⟩) (λb o _ e n=>by rw[ae (ne b o e)];exact n)
  (λb o hc e=>⟨o,k b o hc e⟩) (λb xs e=>by rw[ae (np b _ e)];exact e) (λb o u e=>by rw[ae (np b _ e)];exact e) (λb ps e=>⟨#[],by rw[ae (np b _ e),e];simp⟩) (λm hm=>?_) (λb u e=>?_) I.bare
 ·obtain⟨_,g1,g2,g3,g4,g5⟩:=hf b hb;exact⟨g3,g1,g4,g5⟩
 ·obtain⟨o,es,ep,ho,r⟩:=hm;exact⟨o,es,ep,k _ o (λz=>(hf _ z).2.1 rfl) ho,r⟩
 ·by_cases hb:b=p
  ·subst hb;rw[aa] at e;cases e;exact new
  ·rw[ae hb] at e;refine (I.ba b u e).ou (λc v hc q=>k c v ?_ q) (λc q=>by rw[ae (np c _ q)];exact q) (λc xs q=>by rw[ae (np c _ q)];exact q) λc _ _ q=>by rw[ae (np c _ q)];exact q
   rcases hc with z|z
   ·rw[z];exact nf b u e
   ·exact nf c _ z
end
def getL(K:PJ)(a:Addr):Nat->Hp->V->Prop:=λi H x=>∃xs,bB K H a xs/\xs[i]?=some x
def Jw(K:PJ)(a:Addr):Nat->Hp->V->Prop:=λi H x=>∃xs,aY K H a xs/\xs[i]?=some x
def Jl(K:PJ)(a:Addr):Nat->Hp->Prop:=λi H=>∃xs,bB K H a xs/\xs.length=i
def Jj(K:PJ)(a:Addr):Nat->Hp->Prop:=λi H=>∃xs,aY K H a xs/\xs.length=i
noncomputable def xM(K:PJ)(a:Addr):It:=
 ⟨λi H=>∃x,Jw K a i H x,λi H x H'=>∃p y,(∀xs,aY K H a xs->xs[i]?=some y)/\H p=none/\x=.ref p/\H'=upd H p (.tup [.int i,y]),Jj K a⟩
theorem sC{tk:Nat}{tp:Pos}(a it e:Addr)(hne:e≠it):Turn P w K (.Tuple es tk tp) (xM K a) [e,it] e (λi h=>(∃old,IsEnum h e it i old)/\h.IsTupleIter it a i) where
 mem:=by simp
 obj:=λi h st b hb=>by
  obtain⟨⟨old,he⟩,o,eo,c,d⟩:=st;rcases Kl.mp hb with z|z
  ·subst z;exact⟨_,he,λv z=>by cases z⟩
  ·have z:b=it:=by simpa using z
   subst z;exact⟨o,eo,λv z=>by rw[d] at z;cases z⟩
 keep:=λi h h' st k=>by
  obtain⟨⟨old,he⟩,o,eo,r⟩:=st;exact⟨⟨old,k e (by simp) _ he⟩,o,k it (by simp) o eo,r⟩
 item:=by
  intro X hP hw hK hc i pins s σ H E I hf st hg;subst hP hw hK;obtain⟨x,xs,hq,hx⟩:=hg;obtain⟨⟨old,he⟩,hit⟩:=st;obtain⟨its,rv,p,hz⟩:=I.tuple hq;obtain⟨u,hu,ru⟩:=rv.get hx;obtain⟨g0,g1,g2,g3,g4,g5⟩:=hf e (by simp)
  obtain⟨f0,f1,f2,f3,f4,f5⟩:=hf it (by simp)
  have ht:s.heap.IsTuple a its.toArray:=p;have ha:a≠it:=by
   rintro rfl;obtain⟨o,e1,c1,_⟩:=hit;obtain⟨o',e2,c2,_⟩:=ht;rw[e1] at e2;cases e2;rw[c1] at c2;exact absurd (Value.type.inj c2) (by decide)
  have hea:e≠a:=by
   rintro rfl;obtain⟨o',e2,c2,_⟩:=ht;have e1:s.heap.get? e=some _:=he;rw[e1] at e2;cases e2;exact absurd (Value.type.inj c2) (by decide)
  have hi:i<its.toArray.size:=by
   have:=(Kf.mp hu).1
   simpa using this
  refine OQ (ja (A:=X.A.in1) (I.ok.hd hc) it a ha its.toArray) he ⟨hit,ht⟩ hi hne (by simp[hne,hea]) λx' h' tk' hP ho hs' hT hsz hk=>?_
  have ex:x'=u:=by
   have hP':its.toArray[i]?=some x':=hP;rw[Lv,hu] at hP';exact (Option.some.inj hP').symm
  subst ex;refine⟨.ref s.heap.objs.size,rfl,Ov ho λh2 he2 hs2=>?_⟩;have fr:H s.heap.objs.size=none:=I.ba.fresh (Kk _);have hle:e≠s.heap.objs.size:=KA (K0 he);have hT2:h2.get? s.heap.objs.size=some {cls:=.type "tuple",data:=.seq #[.int i tk',x']}:=(hs2.2 _ (L0 hle)).trans hT;have I2:Inv X pins σ (upd H s.heap.objs.size (.tup [.int i,x])) {s with heap:=h2,toks:=tk'+1}:=by
   refine I.nN (fp:=[e,it]) hf (Kk _) (λb o hb eb=>?_) ⟨by show 2<=sizeLine;decide,[.int i tk',x'],.cons ⟨_,rfl⟩ (.cons ru .nil),⟨_,hT2,rfl,_,rfl,rfl⟩⟩
   have n1:b≠e:=λz=>hb (by simp[z])
   have n2:b≠it:=λz=>hb (by simp[z])
   exact (hs2.2 b n1).trans (hk b o n1 n2 eb)
  refine⟨.ref s.heap.objs.size,_,I2,rfl,⟨s.heap.objs.size,x,λys hy=>by rw[I.iW hy hq];exact hx,fr,rfl,rfl⟩,⟨⟨x',?_⟩,?_⟩,λb hb=>?_⟩
  ·have e:(((i+1:Nat)):Int)=(i:Int)+1:=by lia
   rw[e];exact he2
  ·obtain⟨o,e1,r⟩:=hs'.1;exact⟨o,(hs2.2 it (L0 hne)).trans e1,r⟩
  ·have n:b≠s.heap.objs.size:=by
    rcases Kl.mp hb with z|z
    ·subst z;exact hle
    ·have z:b=it:=by simpa using z
     subst z;obtain⟨o,e1,_⟩:=hit;exact KA (K0 e1)
   rw[ae n];exact (hf b hb).1
 done:=by
  intro X hP hw hK hc i pins s σ H E I hf st hg;subst hP hw hK;obtain⟨xs,hq,hx⟩:=hg;obtain⟨⟨old,he⟩,hit⟩:=st;obtain⟨its,rv,p,hz⟩:=I.tuple hq;have ht:s.heap.IsTuple a its.toArray:=p;have ha:a≠it:=by
   rintro rfl;obtain⟨o,e1,c1,_⟩:=hit;obtain⟨o',e2,c2,_⟩:=ht;rw[e1] at e2;cases e2;rw[c1] at c2;exact absurd (Value.type.inj c2) (by decide)
  have hl:=rv.length;have hsz:its.toArray.size=i:=by simp;lia
  refine O_ (ja (A:=X.A.in1) (I.ok.hd hc) it a ha its.toArray) he (by rw[hsz];exact⟨hit,ht⟩) λh' eb=>⟨rfl,?_⟩
  exact I.turns (t':=s.toks) hf λb o hb e1=>eb b o (λz=>hb (by simp[z])) e1
 self:=λA i s Q E st h=>by
  obtain⟨⟨old,he⟩,_⟩:=st;exact Nv he h
section
variable {X:Cx} {es:List Expr} {tk:Nat} {tp:Pos}
def qg(K:PJ)(ta:TA):TI:=λσ H R=>ta σ H λvs H1=>∃a,vs=[.ref a]/\(∃xs,aY K H1 a xs)/\R (xM K a) H1
theorem Ct{p pos:Pos}(hg:Gl X "enumerate")(hm:X.mg "enumerate"=none)(ha:PA X [e] ta)(h1:autoParam (eX e=true) ℜ0)(hv:autoParam (bootBuiltins "enumerate"=some (.type "enumerate")) ℜ6):
  PI X (.Tuple es tk tp) (.Call (.Name "enumerate" p) [e] [] pos) (qg X.K ta):=by
 intro pins s σ H R I h;refine Call_ (fR I hg hm hv (Lj (bZ (ha pos pins s σ H _ I h) λus s1 hq1=>?_) (cH h1) rfl));obtain⟨vs,H1,I1,r1,q1⟩:=hq1;obtain⟨a,e,⟨xs,hq⟩,q⟩:=q1;subst e;obtain⟨u,rfl,ru⟩:=vals1 r1;cases ru;obtain⟨its,rv,pt,hz⟩:=I1.tuple hq;refine mj (show s1.heap.IsTuple a its.toArray from pt) λh' he hit hsz hk=>?_;refine Nv he ?_;have I2:Inv X pins σ H1 {s1 with heap:=h'}:=I1.kept (t':=s1.toks) hk
 refine⟨s1.heap.objs.size+1,[s1.heap.objs.size+1,s1.heap.objs.size],_,_,H1,rfl,I2,sC a s1.heap.objs.size (s1.heap.objs.size+1) (LN (MW _)),⟨⟨_,he⟩,hit⟩,λb hb=>?_,q⟩;have hb':s1.heap.objs.size<=b:=by
  rcases Kl.mp hb with z|z
  ·rw[z];exact Ln _
  ·have z:b=s1.heap.objs.size:=by simpa using z
   rw[z];exact Kk _
 exact I1.qj hb' (I1.ba.fresh hb')
noncomputable def yX(K:PJ)(tl:TE):TI:=λσ H R=>tl σ H λx H1=>match x with
 |.ref a=>match sq H1 a with
  |some (true,_)=>R (xt K a) H1
  |some (false,_)=>R (wU K a) H1
  |none=>(∃xs,aY K H1 a xs)/\R (wU K a) H1
 |_=>False
theorem Fu{l:Expr}{tl:TE}(hl:PE X l tl):PI X tg l (yX X.K tl):=by
 intro pins s σ H R I h;refine bZ (hl pins s σ H _ I h) λv s1 hq2=>?_;obtain⟨x,H1,I1,r1,q1⟩:=hq2;obtain⟨a,rfl,q⟩:∃a,x=V.ref a/\(((∃xs,bB X.K H1 a xs)/\R (xt X.K a) H1)\/((∃xs,aY X.K H1 a xs)/\R (wU X.K a) H1)):=by
  match x,q1 with
  |.ref a,q1 =>
   simp only at q1
   split at q1
   ·rename_i xs e;exact⟨a,rfl,.inl ⟨⟨xs,gS e⟩,q1⟩⟩
   ·rename_i xs e;exact⟨a,rfl,.inr ⟨⟨xs,gH e⟩,q1⟩⟩
   ·exact⟨a,rfl,.inr q1⟩
 cases r1;rcases q with ⟨⟨xs,hq⟩,q⟩|⟨⟨xs,hq⟩,q⟩
 ·obtain⟨its,rv,p,hz⟩:=I1.list hq;refine Nw p.isList ?_;refine⟨s1.heap.objs.size,[s1.heap.objs.size],_,_,H1,rfl,I1.kept (t':=s1.toks) λb o e=>Kg _ e,mX a _,⟨_,Ky _ rfl,rfl,rfl⟩,λb hb=>?_,q⟩;have e:b=s1.heap.objs.size:=by simpa using hb
  subst e;exact I1.qj (Kk _) (I1.ba.fresh (Kk _))
 ·obtain⟨its,rv,p,hz⟩:=I1.tuple hq;refine MD (show s1.heap.IsTuple a its.toArray from p) ?_;refine⟨s1.heap.objs.size,[s1.heap.objs.size],_,_,H1,rfl,I1.kept (t':=s1.toks) λb o e=>Kg _ e,kF a _,⟨_,Ky _ rfl,rfl,rfl⟩,λb hb=>?_,q⟩;have e:b=s1.heap.objs.size:=by simpa using hb
  subst e;exact I1.qj (Kk _) (I1.ba.fresh (Kk _))
end
noncomputable def sS(J:It)(g:TG)(tb:TS)(D:Ends)(σ:St)(H:Hp):Prop:=∃W:Nat->Nat->St->Hp->Prop,(∃m,W 0 m σ H)/\∀i m σ H,W i m σ H ->
 (J.stop i H/\D.nx σ H)\/(J.go i H/\∃N:St->Hp->Prop,(∀σ' H',N σ' H'->∃m',m'<m/\W (i+1) m' σ' H')/\∀x H',J.Dz i H x H'->g x σ H' λσ2 H2=>tb {D with nx:=N,ct:=N,bk:=D.nx} σ2 H2)
theorem Dj(wi:TI)(g:TG)(tb:TS)(D:Ends)(σ:St)(H:Hp):Ga wi g tb D σ H=wi σ H λJ H1=>sS J g tb D σ H1:=rfl
noncomputable def j5(J:It)(k:Nat)(g:TG)(tc:TT)(te:TE)(Q:VK)(σ:St)(H1:Hp):Prop:=∀D,H1 D=none ->
 ∃W:Nat->Nat->List V->St->Hp->Prop,(∃m,W 0 m [] (List.replicate k none++σ) (upd H1 D (.lst [])))/\∀i m ys σ' H',W i m ys σ' H'->H' D=some (.lst ys) /\
  ((J.stop i H'/\Q (.ref D) H')\/(J.go i H'/\ys.length<sizeLine/\∀x H2,J.Dz i H' x H2->g x σ' H2 λσ3 H3=>tc σ3 H3 λb H4 =>
   if b=true then te σ3 H4 λv H5=>H5 D=some (.lst ys)/\∃m',m'<m/\W (i+1) m' (ys++[v]) σ3 (upd H5 D (.lst (ys++[v])))
   else ∃m',m'<m/\W (i+1) m' ys σ3 H4))
theorem AM(wi:TI)(k:Nat)(g:TG)(tc:TT)(te:TE)(σ:St)(H:Hp)(Q:VK):la wi k g tc te σ H Q=wi σ H λJ H1=>j5 J k g tc te Q σ H1:=rfl
section
variable {K:PJ} {g:TG} {tb:TS} {D:Ends} {σ:St} {H:Hp} {te:TE} {Q:VK}
theorem gT(Pv:Nat->St->Hp->Prop)(h0:Pv 0 σ H)(hl:∀i σ H,i<=xs.length->Pv i σ H->bB K H a xs)
  (hs:∀i x σ H,xs[i]?=some x->Pv i σ H->g x σ H λσ2 H2=>tb {D with nx:=Pv (i+1),ct:=Pv (i+1),bk:=D.nx} σ2 H2) (hd:∀σ H,Pv xs.length σ H->D.nx σ H):sS (xt K a) g tb D σ H:=xJ Pv h0 hl hs hd
theorem AQ(Pv:Nat->St->Hp->Prop)(h0:Pv 0 σ H)(hl:∀i σ H,i<=xs.length->Pv i σ H->aY K H a xs)
  (hs:∀i x σ H,xs[i]?=some x->Pv i σ H->g x σ H λσ2 H2=>tb {D with nx:=Pv (i+1),ct:=Pv (i+1),bk:=D.nx} σ2 H2) (hd:∀σ H,Pv xs.length σ H->D.nx σ H):sS (wU K a) g tb D σ H:=CM Pv h0 hl hs hd
theorem eI{n:Nat}(Pv:Nat->St->Hp->Prop)(h0:Pv 0 σ H)
  (hs:∀i σ H,i<n->Pv i σ H->g (.int (lo+i)) σ H λσ2 H2=>tb {D with nx:=Pv (i+1),ct:=Pv (i+1),bk:=D.nx} σ2 H2) (hd:∀σ H,Pv n σ H->D.nx σ H):sS (yb lo n) g tb D σ H:=vH Pv h0 hs hd
theorem sM(Pv:Nat->St->Hp->Prop)(h0:Pv 0 σ H)(hl:∀i σ H,i<=xs.length->Pv i σ H->aY K H a xs)
  (hs:∀i x σ H p,xs[i]?=some x->Pv i σ H->H p=none->g (.ref p) σ (upd H p (.tup [.int i,x])) λσ2 H2=>tb {D with nx:=Pv (i+1),ct:=Pv (i+1),bk:=D.nx} σ2 H2) (hd:∀σ H,Pv xs.length σ H->D.nx σ H) :
  sS (xM K a) g tb D σ H:=by
 refine⟨λi m σ H=>m=xs.length-i/\i<=xs.length/\Pv i σ H,⟨xs.length,by simp,Kz _,h0⟩,?_⟩
 rintro i m σ H ⟨rfl,hi,p⟩;have q:=hl i σ H hi p;by_cases hlt:i<xs.length
 ·refine .inr ⟨⟨xs[i],xs,q,by simp[hlt]⟩,Pv (i+1),λσ' H' p'=>⟨xs.length-(i+1),by lia,rfl,hlt,p'⟩,λx H' y=>?_⟩
  obtain⟨b,y,hy,fr,rfl,rfl⟩:=y;exact hs i y σ H b (hy xs q) p fr
 ·have e:i=xs.length:=by lia
  subst e;exact .inl ⟨⟨xs,q,rfl⟩,hd σ H p⟩
theorem ju{n:Nat}(hn:n<=sizeLine)(Pv:Addr->Nat->List V->Hp->Prop)(h0:∀D,H D=none->Pv D 0 [] (upd H D (.lst [])))(hD:∀D i ys H',Pv D i ys H'->H' D=some (.lst ys)/\ys.length=i)
  (hs:∀D i ys H' (R:VK),i<n->Pv D i ys H'->(∀v H5,H5 D=some (.lst ys)->Pv D (i+1) (ys++[v]) (upd H5 D (.lst (ys++[v])))->R v H5)->te (some (.int (lo+i))::σ) H' R) (hd:∀D ys H',Pv D n ys H'->Q (.ref D) H') :
  j5 (yb lo n) 1 (bp 0) dW te Q σ H:=by
 intro D hD0;refine⟨λi m ys σ' H'=>m=n-i/\i<=n/\Pv D i ys H'/\∃o,σ'=o::σ,⟨n,by simp,Kz _,h0 D hD0,none,rfl⟩,?_⟩
 rintro i m ys σ' H' ⟨rfl,hi,p,o,rfl⟩;obtain⟨hDi,hly⟩:=hD _ _ _ _ p;refine⟨hDi,?_⟩;by_cases hlt:i<n
 ·refine .inr ⟨hlt,by lia,λx H2 y=>?_⟩
  obtain⟨rfl,rfl⟩:=y;unfold bp dW;dsimp only;rw[if_pos rfl];exact hs D i ys H2 _ hlt p λv H5 q1 q2=>⟨q1,n-(i+1),by lia,rfl,hlt,q2,_,rfl⟩
 ·have e:i=n:=by lia
  subst e;exact .inl ⟨Kk _,hd D ys H' p⟩
theorem cq(hn:xs.length<=sizeLine)(Pv:Addr->Nat->List V->Hp->Prop)(h0:∀D,H D=none->Pv D 0 [] (upd H D (.lst [])))(hD:∀D i ys H',Pv D i ys H'->H' D=some (.lst ys)/\ys.length=i)
  (hl:∀D i ys H',Pv D i ys H'->aY K H' a xs)
  (hs:∀D i ys H' x (R:VK),xs[i]?=some x->Pv D i ys H'->(∀v H5,H5 D=some (.lst ys)->Pv D (i+1) (ys++[v]) (upd H5 D (.lst (ys++[v])))->R v H5)->te (some x::σ) H' R) (hd:∀D ys H',Pv D xs.length ys H'->Q (.ref D) H') :
  j5 (wU K a) 1 (bp 0) dW te Q σ H:=by
 intro D hD0;refine⟨λi m ys σ' H'=>m=xs.length-i/\i<=xs.length/\Pv D i ys H'/\∃o,σ'=o::σ,⟨xs.length,by simp,Kz _,h0 D hD0,none,rfl⟩,?_⟩
 rintro i m ys σ' H' ⟨rfl,hi,p,o,rfl⟩;obtain⟨hDi,hly⟩:=hD _ _ _ _ p;have q:=hl _ _ _ _ p;refine⟨hDi,?_⟩;by_cases hlt:i<xs.length
 ·refine .inr ⟨⟨xs,xs[i],q,by simp[hlt]⟩,by lia,λx H2 y=>?_⟩
  obtain⟨rfl,y⟩:=y;unfold bp dW;dsimp only;rw[if_pos rfl];exact hs D i ys H2 x _ (y xs q) p λv H5 q1 q2=>⟨q1,xs.length-(i+1),by lia,rfl,hlt,q2,_,rfl⟩
 ·have e:i=xs.length:=by lia
  subst e;exact .inl ⟨⟨xs,q,Kk _⟩,hd D ys H' p⟩
end
namespace Ap
theorem wB(i:Nat)(σ:St)(H:Hp)(Q:VK):L2.wB i σ H Q=∃v,σ[i]?=some (some v)/\Q v H:=rfl
theorem tC(v:V)(σ:St)(H:Hp)(Q:VK):L2.tC v σ H Q=Q v H:=rfl
theorem xQ(r:R2)(ta tb:TE)(σ:St)(H:Hp)(Q:VK):L2.xQ r ta tb σ H Q=ta σ H λx H1=>tb σ H1 λy H2=>r x y H2 Q:=rfl
theorem GX(r:V->Hp->VK->Prop)(ta:TE)(σ:St)(H:Hp)(Q:VK):L2.GX r ta σ H Q=ta σ H λx H1=>r x H1 Q:=rfl
theorem p6(t:TE)(σ:St)(H:Hp)(Q:Bool->Hp->Prop):L2.p6 t σ H Q=t σ H λx H'=>∃k,x=.bl k/\Q k H':=rfl
theorem Hb(t:TT)(ta tb:TE)(σ:St)(H:Hp)(Q:VK):L2.Hb t ta tb σ H Q=t σ H λc H1=>if c=true then ta σ H1 Q else tb σ H1 Q:=rfl
theorem xP(t u:TT)(σ:St)(H:Hp)(Q:Bool->Hp->Prop):L2.xP t u σ H Q=t σ H λc H1=>if c=true then u σ H1 Q else Q false H1:=rfl
theorem HB(t u:TT)(σ:St)(H:Hp)(Q:Bool->Hp->Prop):L2.HB t u σ H Q=t σ H λc H1=>if c=true then Q true H1 else u σ H1 Q:=rfl
theorem zh(t:TT)(σ:St)(H:Hp)(Q:Bool->Hp->Prop):L2.zh t σ H Q=t σ H λc H1=>Q (!c) H1:=rfl
theorem oP(ta tb:TE)(σ:St)(H:Hp)(Q:VK):L2.oP ta tb σ H Q=ta σ H λx H1=>∃c,x=.bl c/\if c=true then tb σ H1 Q else Q (.bl false) H1:=rfl
theorem jX(r r':R2)(ta tb tc:TE)(σ:St)(H:Hp)(Q:VK):L2.jX r r' ta tb tc σ H Q=ta σ H λx H1=>tb σ H1 λy H2=>r x y H2 λz H3=>∃k,z=.bl k/\(if k=true then tc σ H3 λw' H4=>r' y w' H4 Q else Q (.bl false) H3):=rfl
theorem tK(vs:List V)(σ:St)(H:Hp)(Q:List V->Hp->Prop):L2.tK vs σ H Q=Q vs H:=rfl
theorem ow(σ:St)(H:Hp)(Q:List V->Hp->Prop):L2.ow σ H Q=Q [] H:=rfl
theorem jw(ta:TE)(tr:TA)(σ:St)(H:Hp)(Q:List V->Hp->Prop):L2.jw ta tr σ H Q=ta σ H λx H1=>tr σ H1 λxs H2=>Q (x::xs) H2:=rfl
theorem yi(t:TA)(σ:St)(H:Hp)(Q:VK):L2.yi t σ H Q=t σ H λxs H1=>xs.length<=sizeLine/\∀p,H1 p=none->Q (.ref p) (upd H1 p (.tup xs)):=rfl
theorem zI(t:TA)(σ:St)(H:Hp)(Q:VK):L2.zI t σ H Q=t σ H λxs H1=>xs.length<=sizeLine/\∀p,H1 p=none->Q (.ref p) (upd H1 p (.lst xs)):=rfl
theorem mO(sp:Sp)(dvs:List V)(E:XK)(t:TA)(σ:St)(H:Hp)(Q:VK):L2.mO sp dvs E t σ H Q=t σ H λvs H1=>sp (vs++dvs) H1 Q E:=rfl
theorem AH(r:List V->Hp->VK->Prop)(t:TA)(σ:St)(H:Hp)(Q:VK):L2.AH r t σ H Q=t σ H λvs H1=>r vs H1 Q:=rfl
theorem GA(K:PJ)(T:String)(r:V->List V->Hp->VK->Prop)(to:TE)(t:TA)(σ:St)(H:Hp)(Q:VK):L2.GA K T r to t σ H Q=to σ H λx H1=>GB K T x H1/\t σ H1 λxs H2=>r x xs H2 Q:=rfl
theorem xS(K:PJ)(T:String)(r:V->List V->Hp->VK->Prop)(to:TE)(σ:St)(H:Hp)(Q:VK):L2.xS K T r to σ H Q=to σ H λx H1=>GB K T x H1/\r x [] H1 Q:=rfl
theorem Hs(r:V->Option Int->Option Int->Hp->VK->Prop)(te:TE)(tl th:TO)(σ:St)(H:Hp)(Q:VK):L2.Hs r te tl th σ H Q=te σ H λx H1=>tl σ H1 λl H2=>th σ H2 λu H3=>r x l u H3 Q:=rfl
theorem iJ(σ:St)(H:Hp)(Q:Option Int->Hp->Prop):L2.iJ σ H Q=Q none H:=rfl
theorem pG(t:TE)(σ:St)(H:Hp)(Q:Option Int->Hp->Prop):L2.pG t σ H Q=t σ H λx H1=>∃i,x=.int i/\Q (some i) H1:=rfl
theorem we(t u:TS)(D:Ends)(σ:St)(H:Hp):L2.we t u D σ H=t {D with nx:=u D} σ H:=rfl
theorem nL(te:TE)(g:TG)(D:Ends)(σ:St)(H:Hp):L2.nL te g D σ H=te σ H λx H1=>g x σ H1 D.nx:=rfl
theorem bp(i:Nat)(v:V)(σ:St)(H:Hp)(Q:St->Hp->Prop):L2.bp i v σ H Q=Q (σ.set i (some v)) H:=rfl
theorem xO(to ti:TE)(t:CI)(v:V)(σ:St)(H:Hp)(Q:St->Hp->Prop):L2.xO to ti t v σ H Q=to σ H λo H1=>ti σ H1 λi H2=>t o i v H2 λH3=>Q σ H3:=rfl
theorem ma(K:PJ)(n:Nat)(t:xx)(v:V)(σ:St)(H:Hp)(Q:St->Hp->Prop):L2.ma K n t v σ H Q=∃a xs,v=.ref a/\aY K H a xs/\xs.length=n/\t xs σ H Q:=rfl
theorem dX(t:TG)(u:xx)(v:V)(vs:List V)(σ:St)(H:Hp)(Q:St->Hp->Prop):L2.dX t u (v::vs) σ H Q=t v σ H λσ' H'=>u vs σ' H' Q:=by
 refine propext ⟨λhq1=>?_,λh=>⟨v,vs,rfl,h⟩⟩;obtain⟨a,b,e,h⟩:=hq1
 cases e;exact h
theorem lU(σ:St)(H:Hp)(Q:St->Hp->Prop):L2.lU [] σ H Q=Q σ H:=propext ⟨λh=>h.2,λh=>⟨rfl,h⟩⟩
theorem yy(te:TE)(D:Ends)(σ:St)(H:Hp):L2.yy te D σ H=te σ H D.rt:=rfl
theorem qu(te:TE)(D:Ends)(σ:St)(H:Hp):L2.qu te D σ H=te σ H λ_ H1=>D.nx σ H1:=rfl
theorem wD(c:TT)(t u:TS)(D:Ends)(σ:St)(H:Hp):L2.wD c t u D σ H=c σ H λb H1=>if b=true then t D σ H1 else u D σ H1:=rfl
theorem pB(D:Ends)(σ:St)(H:Hp):L2.pB D σ H=D.nx σ H:=rfl
theorem mw(ta:TA)(σ:St)(H:Hp)(R:It->Hp->Prop):L2.mw ta σ H R=ta σ H λvs H1=>∃j:Int,vs=[.int j]/\-(2^62)<=j/\j<2^62/\R (yb 0 j.toNat) H1:=rfl
theorem m9(ta:TA)(σ:St)(H:Hp)(R:It->Hp->Prop):L2.m9 ta σ H R=ta σ H λvs H1=>∃i j:Int,vs=[.int i,.int j]/\(-(2^62)<=i/\i<2^62/\-(2^62)<=j/\j<2^62)/\R (yb i (j-i).toNat) H1:=rfl
theorem yX(K:PJ)(tl:TE)(σ:St)(H:Hp)(R:It->Hp->Prop):L2.yX K tl σ H R=tl σ H λx H1=>match x with
 |.ref a=>match sq H1 a with
  |some (true,_)=>R (xt K a) H1
  |some (false,_)=>R (wU K a) H1
  |none=>(∃xs,aY K H1 a xs)/\R (wU K a) H1
 |_=>False:=rfl
theorem qg(K:PJ)(ta:TA)(σ:St)(H:Hp)(R:It->Hp->Prop):L2.qg K ta σ H R=ta σ H λvs H1=>∃a,vs=[.ref a]/\(∃xs,aY K H1 a xs)/\R (xM K a) H1:=rfl
theorem rI(C:Int->Int->Prop)(g:Int->Int->V)(i j:Int)(H:Hp)(Q:VK):L2.rI C g (.int i) (.int j) H Q=(C i j/\Q (g i j) H):=by
 refine propext ⟨λhq2=>?_,λh=>⟨i,j,rfl,rfl,h⟩⟩;obtain⟨a,b,e1,e2,h⟩:=hq2
 cases e1;cases e2;exact h
theorem vt(g:Int->Int->V)(i j:Int)(H:Hp)(Q:VK):L2.vt g (.int i) (.int j) H Q=Q (g i j) H:=by
 refine propext ⟨λhq3=>?_,λh=>⟨i,j,rfl,rfl,h⟩⟩;obtain⟨a,b,e1,e2,h⟩:=hq3
 cases e1;cases e2;exact h
theorem rU(g:Int->V)(i:Int)(H:Hp)(Q:VK):L2.rU g (.int i) H Q=Q (g i) H:=by
 refine propext ⟨λhq4=>?_,λh=>⟨i,rfl,h⟩⟩;obtain⟨a,e1,h⟩:=hq4
 cases e1;exact h
theorem DU(K:PJ)(i j:Int)(H:Hp)(Q:VK):wH K (.int i) (.int j) H Q=Q (.int (i+j)) H:=rfl
theorem GQ(K:PJ)(i j:Str)(H:Hp)(Q:VK):wH K (.str i) (.str j) H Q=(i.length+j.length<=sizeLine/\Q (.str (i++j)) H):=rfl
theorem Ir(i j:Int)(H:Hp)(Q:VK):E6 (.int i) (.int j) H Q=(AI i j/\Q (.int (i*j)) H):=rfl
theorem Jk(i j:Int)(H:Hp)(Q:VK):DE (.int i) (.int j) H Q=Q (.bl (decide (i=j))) H:=by
 have e:decide (V.int i=V.int j)=decide (i=j):=by rw[OI];constructor<;>intro h<;>(try cases h)<;>(try rw[h])<;>rfl
 unfold DE;rw[e];exact propext ⟨λh=>h.2,λh=>⟨rfl,h⟩⟩
theorem BF(i j:Str)(H:Hp)(Q:VK):DE (.str i) (.str j) H Q=Q (.bl (decide (i=j))) H:=by
 have e:decide (V.str i=V.str j)=decide (i=j):=by rw[OI];constructor<;>intro h<;>(try cases h)<;>(try rw[h])<;>rfl
 unfold DE;rw[e];exact propext ⟨λh=>h.2,λh=>⟨rfl,h⟩⟩
theorem J8(i j:Str)(H:Hp)(Q:VK):HF (.str i) (.str j) H Q=Q (.bl (!decide (i=j))) H:=by
 have e:decide (V.str i=V.str j)=decide (i=j):=by rw[OI];constructor<;>intro h<;>(try cases h)<;>(try rw[h])<;>rfl
 unfold HF;rw[e];exact propext ⟨λh=>h.2,λh=>⟨rfl,h⟩⟩
theorem Jt(K:PJ)(b:Bool)(H:Hp)(k:Bool):Ax K (.bl b) H k=(k=b):=rfl
theorem JT(CX:qk)(P:Program)(w:World)(K:PJ)(mg:Str->Option Value)(base:Heap)(N:List Str)(qual:Str)(scope:Scope)(f:Addr)(cd:Value)(A:Around)(outer:List Env)(s:Shared)(H:Hp)(E:XK):(gy CX P w K mg base N qual scope f cd A outer s H E).K=K:=rfl
end Ap
def KB(ex:List Addr)(H H':Hp):Prop:=∀b o,H b=some o->b∉ex->H' b=some o
theorem KB.refl(ex:List Addr)(H:Hp):KB ex H H:=λ_ _ e _=>e
theorem KB.trans{H1 H2:Hp}(a:KB ex H H1)(b:KB ex H1 H2):KB ex H H2:=λc o e n=>b c o (a c o e n) n
theorem KB.mono{ex':List Addr}(h:KB ex H H')(s:∀b∈ex,b∈ex'):KB ex' H H':=λb o e n=>h b o e λz=>n (s b z)
theorem KB.all(h:KB [] H H'):KB ex H H':=h.mono (by simp)
theorem KB.new(h:H p=none):KB ex H (upd H p o):=λb u e _=>by rw[ae (ao e h)];exact e
theorem KB.set(h:p∈ex):KB ex H (upd H p o):=λb u e n=>by rw[ae (λ(z:b=p)=>n (by rw[z];exact h))];exact e
theorem KB.free(h:KB ex H H'){b:Addr}(n:b∉ex)(e:H' b=none):H b=none:=by
 cases q:H b with
 |none=>rfl
 |some o=>rw[h b o q n] at e;cases e
theorem KB.IA(h:KB ex H H')(n:a∉ex)(q:bB K H a xs):bB K H' a xs:=by
 rcases q with (q|⟨o,q⟩)|q
 ·exact .inl (.inl (h _ _ q n))
 ·exact .inl (.inr ⟨o,h _ _ q n⟩)
 ·exact .inr q
theorem BQ(x:α)(r:List α):cL (x::r) 0=some x:=b7 (j:=0) rfl
theorem CV(a x:α)(r:List α):cL (a::x::r) 1=some x:=b7 (j:=1) rfl
theorem Ju(a b x:α)(r:List α):cL (a::b::x::r) 2=some x:=b7 (j:=2) rfl
theorem IV(a b c x:α)(r:List α):cL (a::b::c::x::r) 3=some x:=b7 (j:=3) rfl
theorem rA{n:Nat}{i:Int}(h0:0<=i)(h:i<n):jP n i=some i.toNat:=by unfold jP;rw[Kj h0,Kj h]
namespace Ap
theorem gr(K:PJ)(p:Addr)(i:Int)(H:Hp)(Q:VK):Dd K (.ref p) (.int i) H Q=(match sq H p with
  |some (_,xs)=>(match cL xs i with|some v=>Q v H|none=>False)
  |none=>∃xs v,aY K H p xs/\cL xs i=some v/\Q v H):=rfl
theorem HY(K:PJ)(z:Str)(i:Int)(H:Hp)(Q:VK):Dd K (.str z) (.int i) H Q=(z.length<=sizeLine/\(match cL z.cps.toList i with|some c=>Q (.str ⟨#[c]⟩) H|none=>False)):=rfl
theorem setRef(p:Addr)(k:Int)(v:V)(H:Hp)(Q:Hp->Prop):Aj (.ref p) (.int k) v H Q=(match H p with
  |some (.lst xs)=>(match jP xs.length k with|some j=>Q (upd H p (.lst (xs.set j v)))|none=>False)
  |_=>False):=rfl
theorem xE(K:PJ)(p:Addr)(H:Hp)(Q:VK):zC K [.ref p] H Q=(match sq H p with
  |some (_,ys)=>Q (.int ys.length) H
  |none=>∃ys,aY K H p ys/\Q (.int ys.length) H):=rfl
theorem Fo(K:PJ)(y:Str)(H:Hp)(Q:VK):zC K [.str y] H Q=(y.length<=sizeLine/\Q (.int y.length) H):=rfl
theorem GY(i j:Int)(H:Hp)(Q:VK):HK [.int i,.int j] H Q=Q (.int (if j<i then j else i)) H:=rfl
theorem Jo(k:Bool)(H:Hp)(Q:VK):HI [.bl k] H Q=Q (.int (if k=true then 1 else 0)) H:=rfl
theorem Jm(i:Int)(H:Hp)(Q:VK):Iy [.int i] H Q=(i.natAbs.log2<1920/\Q (.str (toString i)) H):=rfl
theorem tq(K:PJ)(p:Addr)(H:Hp)(Q:VK):oC K [.ref p] H Q=(match sq H p with
  |some (true,ys)=>∀l,H l=none->Q (.ref l) (upd H l (.tup ys))
  |some (false,_)=>Q (.ref p) H
  |none=>∃ys,aY K H p ys/\Q (.ref p) H):=rfl
theorem Hg(K:PJ)(p:Addr)(lo hi:Option Int)(H:Hp)(Q:VK):IJ K (.ref p) lo hi H Q=(match sq H p with
  |some (true,xs)=>∀q,H q=none->Q (.ref q) (upd H q (.lst (eC xs lo hi)))
  |some (false,xs)=>r9 K (.ref p) lo hi H Q
  |none=>r9 K (.ref p) lo hi H Q):=rfl
theorem Hj(K:PJ)(neg:Bool)(x:V)(p:Addr)(H:Hp)(Q:VK):GL K neg x (.ref p) H Q=(match sq H p with
  |some (_,xs)=>cQ x=true/\xs.all cQ=true/\Q (.bl (if neg then !qM x xs else qM x xs)) H
  |none=>∃xs,aY K H p xs/\cQ x=true/\xs.all cQ=true/\Q (.bl (if neg then !qM x xs else qM x xs)) H):=rfl
theorem addRef(K:PJ)(a b:Addr)(H:Hp)(Q:VK):wH K (.ref a) (.ref b) H Q=(match H a,H b with
  |some (.lst xs),some (.lst ys)=>xs.length+ys.length<=sizeLine/\∀p,H p=none->Q (.ref p) (upd H p (.lst (xs++ys)))
  |some (.tup xs),some (.tup ys)=>xs≠[]/\ys≠[]/\xs.length+ys.length<=sizeLine/\∀p,H p=none->Q (.ref p) (upd H p (.tup (xs++ys)))
  |_,_=>False):=rfl
theorem F_(H:Hp)(p:Addr)(xs:List V):sq (upd H p (.lst xs)) p=some (true,xs):=aI aa
theorem Ck(H:Hp)(p:Addr)(xs:List V):sq (upd H p (.tup xs)) p=some (false,xs):=aL aa
theorem B2(H:Hp)(p:Addr)(o:HO):upd H p o p=some o:=aa
end Ap
theorem ax{t u:TS}{D:Ends}(h:∀N,N=u D->t {D with nx:=N} σ H):we t u D σ H:=h _ rfl
structure QE (X:Cx) (e:Expr) (t:TE):Prop where h:PE X e t
structure QT (X:Cx) (e:Expr) (t:TT):Prop where h:PT X e t
structure QW (X:Cx) (e:Expr) (t:TT):Prop where h:PW X e t
structure QA (X:Cx) (es:List Expr) (t:TA):Prop where h:PA X es t
structure QS (X:Cx) (st:Stmt) (t:TS):Prop where h:PS X st t
structure QB (X:Cx) (sts:List Stmt) (t:TS):Prop where h:rG X sts t
structure QI (X:Cx) (tg it:Expr) (t:TI):Prop where h:PI X tg it t
structure QG (X:Cx) (e:Expr) (t:TG):Prop where h:PG X e t
structure IK (X:Cx) (es:List Expr) (t:xx):Prop where h:HC X es t
structure QO (X:Cx) (e:Option Expr) (t:TO):Prop where h:PO X e t
structure IY (X:Cx) (es:List Expr) (t:TT):Prop where h:GG X es t
namespace Z
noncomputable def sim(b:Expr):Bool:=match b with
 |.Name .. |.Constant .. |.Call .. |.BinOp .. |.Subscript .. |.Attribute .. |.UnaryOp .. |.Compare .. |.IfExp ..=>true
 |_=>false
theorem IW(h:sim b=true):uP b:=by
 cases b<;>first | (intro _ _;rfl)|cases h
noncomputable def JL(b:Expr):Bool:=match b with
 |.Name .. |.Call .. |.Subscript .. |.Attribute ..=>true
 |_=>false
theorem ptr(h:JL b=true):∀whole,isTrue b env whole=(do let v <- whole;standAt b.pos;holding [v] (truthy v)):=by
 cases b<;>first | (intro _;rfl)|cases h
noncomputable def Jc(b:Expr):Bool:=match b with
 |.ListComp .. |.SetComp .. |.DictComp ..=>false
 |_=>true
theorem JJ{tg:Option Expr}{l:Nat}(h:Jc b=true):swapsWith b tg l env=pure false:=by
 cases b<;>first|rfl|cases h
section
variable {X:Cx}
theorem bf(K:PJ)(hK:X.K=K):dh X (binaryOp .Add) (wH K):=by subst hK;exact B4
theorem Ia(K:PJ)(hK:X.K=K)(hu:k<cLine):dh X (compareOp .In) (GL K false):=by subst hK;exact FA hu
theorem aP(K:PJ)(hK:X.K=K)(hu:k<cLine):vE X (Dd K):=by subst hK;exact JY hu
theorem HN(K:PJ)(hK:X.K=K):uR X (IJ K):=by subst hK;exact Dm
theorem Dx(K:PJ)(hK:X.K=K):uR X (Ez K):=by subst hK;exact nG
theorem c_(K:PJ)(hK:X.K=K):bE X (.builtin "len") (zC K):=by subst hK;exact wX
theorem E5(K:PJ)(hK:X.K=K):bE X (.builtin "len") (λxs H Q=>∃x n,xs=[x]/\Hk K x H n/\Q (.int n) H):=by subst hK;exact iO
theorem cc(K:PJ)(hK:X.K=K):bE X (.type "tuple") (oC K):=by subst hK;exact qh
theorem DW(K:PJ)(hK:X.K=K)(hc:X.calm=true):bE X (.builtin "sum") (λxs H Q=>∃(p:Addr) (ns:List Int),xs=[.ref p]/\bB K H p (ns.map V.int)/\Q (.int ns.sum) H):=by subst hK;exact mE hc
theorem yN(K:PJ)(hK:X.K=K):xf X "str.join" (rJoin K):=by subst hK;exact Bt
end
section
variable {X:Cx} {a b c e o:Expr} {es:List Expr} {ta tb tc te to:TE} {t:TA} {pos p p2:Pos} {tA tB':TT} {rest:List Expr} {x:Str}
theorem int{i:Int}:QE X (.Constant (.int i) j pos) (tC (.int i)):=⟨lP⟩
theorem bl{i:Bool}:QE X (.Constant (.bool i) j pos) (tC (.bl i)):=⟨Eb⟩
theorem aX:QE X (.Constant .none j pos) (tC .aX):=⟨yA⟩
theorem str{i:Str}:QE X (.Constant (.str i) j pos) (tC (.str i)):=⟨zP⟩
theorem v(i:Nat)(hN:autoParam (X.N[i]?=some x) ℜ0)(hv:autoParam (H_ X.env.scope x) ℜ4)(hd:autoParam ((x ==("__debug__":Str))=false) ℜ1)
  (eW:autoParam ((x ==("__classdict__":Str))=false) ℜ1):QE X (.Name x pos) (wB i):=⟨pv i hN hv hd eW⟩
theorem glob{w:V}{u:Value}(hg:Gl X x)(hm:X.mg x=some u)(r:RelV w u)(hd:autoParam ((x ==("__debug__":Str))=false) ℜ1):QE X (.Name x pos) (tC w):=⟨t_ hg hm r hd⟩
theorem op{o:Operator}{r:R2}(ho:dh X (binaryOp o) r)(ha:QE X a ta)(hb:QE X b tb):QE X (.BinOp a o b pos) (xQ r ta tb):=⟨Iq ho ha.h hb.h⟩
theorem un{o:UnaryOp}{r:V->Hp->VK->Prop}(ho:IQ X (unaryOp o) r)(ha:QE X a ta):QE X (.UnaryOp o a pos) (GX r ta):=⟨Hc ho ha.h⟩
theorem cmp{o:CmpOp}{r:R2}(ho:dh X (compareOp o) r)(ha:QE X a ta)(hb:QE X b tb)(hm:autoParam (behindInMarks o b=false) ℜ0):QE X (.Compare a [o] [b] pos) (xQ r ta tb):=⟨C8 ho ha.h hb.h hm⟩
theorem chain{o o':CmpOp}{r r':R2}(ho:dh X (compareOp o) r)(ho':dh X (compareOp o') r')(ha:QE X a ta)(hb:QE X b tb)(hc:QE X c tc)(hm:autoParam (lastMarks [o,o'] [b,c]=false) ℜ5):QE X (.Compare a [o,o'] [b,c] pos) (jX r r' ta tb tc):=⟨xU ho ho' ha.h hb.h hc.h hm⟩
theorem and(ha:QE X a ta)(hb:QE X (.BoolOp .And (b::rest) pos) tb):QE X (.BoolOp .And (a::b::rest) pos) (oP ta tb):=⟨EK ha.h hb.h⟩
theorem one{o:BoolOp}(ha:QE X a ta):QE X (.BoolOp o [a] pos) ta:=⟨Fw ha.h⟩
theorem BA(hc:QT X c tA)(ha:QE X a ta)(hb:QE X b tb):QE X (.IfExp c a b pos) (Hb tA ta tb):=⟨A1 hc.h ha.h hb.h⟩
theorem slice{r:V->Option Int->Option Int->Hp->VK->Prop}{lo hi:Option Expr}{tl th:TO}(hr:uR X r)(he:QE X e te)(hl:QO X lo tl)(hu:QO X hi th):QE X (.Subscript e (.Slice lo hi none p2) pos) (Hs r te tl th):=⟨Am hr he.h hl.h hu.h⟩
theorem Cb:QO X none iJ:=⟨ur⟩
theorem xc(he:QE X e te):QO X (some e) (pG te):=⟨oa he.h⟩
theorem ix{r:R2}(hr:vE X r)(ha:QE X a ta)(hb:QE X b tb)(hs:autoParam (sim b=true) ℜ0):QE X (.Subscript a b pos) (xQ r ta tb):=⟨ya hr ha.h hb.h (IW hs)⟩
theorem tup(h:QA X es t):QE X (.Tuple es k pos) (yi t):=⟨Ey h.h⟩
theorem lst(h:QA X es t):QE X (.List es pos) (zI t):=⟨FL h.h⟩
theorem nil:QA X [] ow:=⟨yQ⟩
theorem cons(ha:QE X e te)(hr:QA X es t)(h:autoParam (eX e=true) ℜ0):QA X (e::es) (jw te t):=⟨Ji ha.h hr.h h⟩
theorem consts{vs:List V}(h:tW es=some vs):QA X es (tK vs):=⟨mB h⟩
theorem cb{id:String}(hc:bE X (.builtin id) r)(hg:Gl X x)(hm:X.mg x=none)(hv:bootBuiltins x=some (.builtin id))(ha:QA X (e::es) t)(h1:autoParam (eX e=true) ℜ0)(h2:autoParam (es.all eX=true) ℜ0)(hn:autoParam (x≠"__name__") ℜ1)(hdb:autoParam ((x ==("__debug__":Str))=false) ℜ1):
  QE X (.Call (.Name x p) (e::es) [] pos) (AH r t):=⟨HW hc hg hm hv ha.h h1 h2 hn hdb⟩
theorem ct{T:String}(hc:bE X (.type T) r)(hg:Gl X x)(hm:X.mg x=none)(hv:bootBuiltins x=some (.type T))(ha:QA X (e::es) t)(h1:autoParam (eX e=true) ℜ0)(h2:autoParam (es.all eX=true) ℜ0)(hn:autoParam (x≠"__name__") ℜ1)(hdb:autoParam ((x ==("__debug__":Str))=false) ℜ1):
  QE X (.Call (.Name x p) (e::es) [] pos) (AH r t):=⟨HD hc hg hm hv ha.h h1 h2 hn hdb⟩
theorem fn{CX:qk}{ps:List Str}{E:XK}(F:au X.prog X.w X.K X.mg X.base CX k x ps sp)(hr:bR k X.A)(hg:Gl X x)(hx:Passes CX X E)(ha:QA X (e::es) t)(h1:autoParam (eX e=true) ℜ0)(h2:autoParam (es.all eX=true) ℜ0)(hdb:autoParam ((x ==("__debug__":Str))=false) ℜ1):
  QE X (.Call (.Name x p) (e::es) [] pos) (mO sp [] E t):=⟨Hi F hr hg hx ha.h h1 h2 hdb⟩
theorem bm(K:PJ)(hK:X.K=K){name:Str}{apos:Pos}{T id:String}{r:V->List V->Hp->VK->Prop}(pa:PlainAttrs T)(slot:Slot T name id)(hty:typeOf (.builtin id)=pure (.type "method_descriptor"))(hm:xf X id r)(ho:QE X o to)(ha:QA X (e::es) t)
  (hbase:autoParam (attributeBase o name X.env (eval o X.env)=eval o X.env) ℜ0) (hline:autoParam ((apos.endLine == pos.line)=true) ℜ0) (h:autoParam ((e::es).all eX=true) ℜ0) (hl:autoParam ((e::es).length<30) ℜ1):QE X (.Call (.Attribute o name apos) (e::es) [] pos) (GA K T r to t):=by
 subst hK;exact⟨EV pa slot hty hm ho.h ha.h hbase hline h hl⟩
theorem comp{wi:TI}{tc:TT}(S:eB osc ON scope own N)(hosc:X.env.scope=osc)(hON:X.N=ON)(hc:X.calm=true)(hi:QI X tg iter wi)
  (hg:∀C s H fp,QG (bq X scope N C s H fp) tg g) (ht:∀C s H fp,IY (bq X scope N C s H fp) ifs tc) (he:∀C s H fp,QE (bq X scope N C s H fp) elt te) (hs:autoParam (∀x,foldedSetIterable iter X.env x=pure x) ℜ3) :
  QE X (.ListComp elt [⟨tg,iter,ifs,0⟩] scope pos) (la wi own.length g tc te):=⟨BL S hosc hON hc hi.h (λC s H fp=>(hg C s H fp).h) (λC s H fp=>(ht C s H fp).h) (λC s H fp=>(he C s H fp).h) hs⟩
theorem bu{o:CmpOp}{r:R2}(ho:dh X (compareOp o) r)(ha:QE X a ta)(hb:QE X b tb)(hm:autoParam (behindInMarks o b=false) ℜ0):QT X (.Compare a [o] [b] pos) (p6 (xQ r ta tb)):=⟨BY ho ha.h hb.h hm⟩
theorem tw(h:QW X e tA):QT X e tA:=⟨h.h.pt⟩
theorem Cp(ha:QT X a tA):QT X (.UnaryOp .Not a pos) (zh tA):=⟨Es ha.h⟩
def CY(K:PJ)(ta:TE):TT:=λσ H Q=>ta σ H λx H'=>∃k,Ax K x H' k/\Q k H'
theorem wI(K:PJ)(hK:X.K=K)(ha:QE X a ta)(he:autoParam (JL a=true) ℜ0):QT X a (CY K ta):=by subst hK;exact⟨zg ha.h (ptr he)⟩
theorem qE(ha:QT X a tA):QW X (.BoolOp .And [a] pos) tA:=⟨CH ha.h⟩
theorem HZ(ha:QT X a tA):QW X (.BoolOp .Or [a] pos) tA:=⟨Fv ha.h⟩
theorem yO(ha:QT X a tA)(hb:QW X (.BoolOp .And (b::rest) pos) tB'):QW X (.BoolOp .And (a::b::rest) pos) (xP tA tB'):=⟨E4 ha.h hb.h⟩
theorem JC(ha:QT X a tA)(hb:QW X (.BoolOp .Or (b::rest) pos) tB'):QW X (.BoolOp .Or (a::b::rest) pos) (HB tA tB'):=⟨Hd ha.h hb.h⟩
theorem aO(hN:X.N.Nodup)(hi:X.N[i]?=some x)(hx:Loc X.env.scope x)(hf:autoParam (X.fn x=true\/X.env.scope.names.lookup x=some .local) ℜ2):QG X (.Name x pos) (bp i):=⟨Cr hN hi hx hf⟩
theorem jc(K:PJ)(hK:X.K=K){n:Nat}{tg:xx}(hc:X.calm=true)(h:IK X es tg)(hn:autoParam ((assignEach es X.env).length=n) ℜ0)(hst:autoParam ((assignEach es X.env).findIdx? (·.1)=none) ℜ0):QG X (.Tuple es k pos) (ma K n tg):=by subst hK;exact⟨FT hc h.h hn hst⟩
theorem fA:IK X [] lU:=⟨BM⟩
theorem bz{u:xx}(h1:QG X e g)(h2:IK X es u)(hs:autoParam ((assignEach (e::es) X.env).map (·.2)=assign e X.env::(assignEach es X.env).map (·.2)) ℜ0):IK X (e::es) (dX g u):=⟨Ak h1.h h2.h hs⟩
theorem pJ{i:Expr}{ti:TE}(ho:QE X o to)(hi:QE X i ti)
  (ha:autoParam (∀v,assign (.Subscript o i pos) X.env v=(do
   let ov <- holding [v] (eval o X.env)
   let iv <- holding [v,ov] (eval i X.env)
   standAt pos
   holding [v,ov,iv] (setItem ov iv v)
   release [v,ov,iv] [])) ℜ3):QG X (.Subscript o i pos) (xO to ti Aj):=⟨Fc ho.h hi.h uset ha⟩
theorem xl{ta:TA}(hg:Gl X "range")(hm:X.mg "range"=none)(ha:QA X [a] ta)(h:autoParam (eX a=true) ℜ0):QI X tg (.Call (.Name "range" p) [a] [] pos) (mw ta):=⟨sU hg hm ha.h h⟩
theorem IT{ta:TA}(hg:Gl X "range")(hm:X.mg "range"=none)(ha:QA X [a,b] ta)(h:autoParam (eX a=true) ℜ0)(h2:autoParam (eX b=true) ℜ0):QI X tg (.Call (.Name "range" p) [a,b] [] pos) (m9 ta):=⟨rT hg hm ha.h h h2⟩
theorem enum(K:PJ)(hK:X.K=K){tp:Pos}{ta:TA}(hg:Gl X "enumerate")(hm:X.mg "enumerate"=none)(ha:QA X [e] ta)(h1:autoParam (eX e=true) ℜ0):QI X (.Tuple es k tp) (.Call (.Name "enumerate" p) [e] [] pos) (qg K ta):=by subst hK;exact⟨Ct hg hm ha.h h1⟩
theorem any(K:PJ)(hK:X.K=K){l:Expr}{tl:TE}(hl:QE X l tl):QI X tg l (yX K tl):=by subst hK;exact⟨Fu hl.h⟩
theorem lV:IY X [] dW:=⟨CB⟩
end
section
variable {X:Cx} {e o tg:Expr} {te to:TE} {st:Stmt} {sts xs ys:List Stmt} {t u:TS} {pos pos':Pos} {x:Str}
theorem bU:QB X [] pB:=⟨AZ⟩
theorem aA(h:QS X st t):QB X [st] t:=⟨C2 h.h⟩
theorem aq(h:QS X st t)(h2:QB X sts u):QB X (st::sts) (we t u):=⟨zk h.h h2.h⟩
theorem set(hN:X.N.Nodup)(hi:X.N[i]?=some x)(hx:Loc X.env.scope x)(he:QE X e te)(hs:autoParam (Jc e=true) ℜ0)(hf:autoParam (X.fn x=true\/X.env.scope.names.lookup x=some .local) ℜ2):
  QS X (.Assign [.Name x pos'] e pos) (nL te (bp i)):=⟨Gy hN hi hx he.h (JJ hs) hf⟩
theorem setC{p2:Pos}{wi:TI}(hN:X.N.Nodup)(hj:X.N[j]?=some x)(hx:Loc X.env.scope x)(S:eB osc ON scope own N)(hosc:X.env.scope=osc)(hON:X.N=ON)(hc:X.calm=true)(hi:QI X tg iter wi)
  (hg:∀C s H fp,QG (bq X scope N C s H fp) tg g) (ht:∀C s H fp,IY (bq X scope N C s H fp) ifs tc) (he:∀C s H fp,QE (bq X scope N C s H fp) elt te)
  (hsw:autoParam (swapsWith (.ListComp elt [⟨tg,iter,ifs,0⟩] scope p2) (some (.Name x pos')) pos.line X.env=pure true) ℜ0)
  (hf:autoParam (X.fn x=true\/X.env.scope.names.lookup x=some .local) ℜ2) (hs:autoParam (∀x,foldedSetIterable iter X.env x=pure x) ℜ3) :
  QS X (.Assign [.Name x pos'] (.ListComp elt [⟨tg,iter,ifs,0⟩] scope p2) pos) (nL (la wi own.length g tc te) (bp j)):=⟨rg hN hj hx S hosc hON hc hi.h (λC s H fp=>(hg C s H fp).h) (λC s H fp=>(ht C s H fp).h) (λC s H fp=>(he C s H fp).h) hsw hf hs⟩
theorem asg(he:QE X e te)(hg:QG X tg g)(hs:autoParam (swapsWithSole [tg] e pos.line X.env=pure false) ℜ0)(hw:autoParam (swappedStores [tg] e X.env=pure none) ℜ0)
  (h1:autoParam ((assignEach [tg] X.env).map (·.2)=[assign tg X.env]) ℜ0):QS X (.Assign [tg] e pos) (nL te g):=⟨Gj he.h hg.h hs hw h1⟩
theorem ret(he:QE X e te):QS X (.Return (some e) pos) (yy te):=⟨EG he.h⟩
theorem expr(he:QE X e te)(hs:autoParam (Jc e=true) ℜ0):QS X (.Expr e pos) (qu te):=⟨C7 he.h (JJ hs)⟩
theorem eF{c:Expr}(hc:QT X c tc)(ha:QB X xs t)(hb:QB X ys u):QS X (.If c xs ys pos) (wD tc t u):=⟨Hh hc.h ha.h hb.h⟩
theorem hV{wi:TI}(hp:PassesOwn (model X.prog X.w) X.A X.env X.xe)(hc:X.calm=true)(hi:QI X tg iter wi)(hg:QG X tg g)(hb:QB X xs t)(hs:autoParam (∀x,foldedSetIterable iter X.env x=pure x) ℜ3):QS X (.For tg iter xs [] pos) (Ga wi g t):=⟨Gk hp hc hi.h hg.h hb.h hs⟩
theorem oG{c:Expr}(hp:PassesOwn (model X.prog X.w) X.A X.env X.xe)(hc:QT X c tc)(hb:QB X xs t):QS X (.While c xs [] pos) (Ar tc t):=⟨A6 hp hc.h hb.h⟩
end
end Z
namespace Ap
theorem CY(K:PJ)(ta:TE)(σ:St)(H:Hp)(Q:Bool->Hp->Prop):L2.Z.CY K ta σ H Q=ta σ H λx H'=>∃k,Ax K x H' k/\Q k H':=rfl
end Ap
theorem HasFn.fL{ps:List Str}(F:HasFn K mg x st ps)(S:ay N ps (af st))(len:∀vs H Q E,sp vs H Q E->vs.length=ps.length)
  (hbody:∀(f:Addr) (cdv:Value) (A:Around) (outer:List Env) (s:Shared) (H:Hp) (vs:List V) (Q:VK) (E:XK),bR k (A.deeper (envOfC x (af st) s.heap.objs.size f cdv))->sp vs H Q E ->
   ∃t,QB (gy aZ P w K mg base N x (af st) f cdv A outer s H E).qW (aT st) t/\t {nx:=λ_ H'=>Q .aX H',rt:=Q} (start N vs) H):au P w K mg base aZ (k+1) x ps sp:=
 F.ok S len λf cdv A outer s H vs Q E hr h=>let ⟨t,q,r⟩:=hbody f cdv A outer s H vs Q E hr h;⟨t,q.h,r⟩
theorem BD{ps:List Str}(F:lB K x x st f fd)(S:ay N ps (af st))(len:∀vs H Q E,sp vs H Q E->vs.length=ps.length)
  (hbody:∀(cdv:Value) (A:Around) (outer:List Env) (s:Shared) (H:Hp) (vs:List V) (Q:VK) (E:XK),bR k (A.deeper (envOfC x (af st) s.heap.objs.size f cdv))->sp vs H Q E ->
   ∃t,QB (gy aZ P w K mg base N x (af st) f cdv A outer s H E).qW (aT st) t/\t {nx:=λ_ H'=>Q .aX H',rt:=Q} (start N vs) H):cP P w K mg base aZ (k+1) f fd ps sp:=
 F.ok S len λcdv A outer s H vs Q E hr h=>let ⟨t,q,r⟩:=hbody cdv A outer s H vs Q E hr h;⟨t,q.h,r⟩
def JG(e:Addr)(cls:Value)(d:Option Addr)(h:Heap):Prop:=∃o vs,h.get? e=some o/\o.cls=cls/\o.dict=d/\o.data=.fields vs
noncomputable def Jb(c:Addr)(n:Nat)(h:Heap):Prop:=∃(its:List Value) (m:Nat),h.get? c=some {cls:=.type "list",data:=.seq its.toArray m}/\its.length=n/\∀v∈its,∃(i:Int) (t:Tok),v=.int i t/\0<=i
inductive T where
 |il (n:Nat)|aX|bl (b:Bool)|int (i:Int)|str (x:Str)|tup (ts:List T)|lst (ts:List T)|JD (ts:List T)|mK (lo hi:Int)|JA (ts:List T)|JM (ks:List Key) (ts:List T)|exc (c:Value) (f:Option (Str×Int))|adr (a:Addr)|ins (a c:Addr) (ks:List Str) (ts:List T)
variable{t u:T}{ts ys:List T}
abbrev lR:=Addr->Prop
noncomputable def HL(K:PJ)(a:Addr)(xs:List V):Prop:=∃(o:Obj) (its:Array Value) (n:Nat),K.lookup a=some o/\o.cls=.type "tuple"/\o.data=.seq its n/\its.size<=sizeLine/\Vals xs its.toList
noncomputable def JZ(K:PJ)(a:Addr)(xs:List V):Prop:=∃(o:Obj) (its:Array Value) (n:Nat),K.lookup a=some o/\o.cls=.type "list"/\o.dict=none/\o.data=.seq its n/\its.size<=sizeLine/\Vals xs its.toList
def LB(K:PJ)(H:Hp)(B:lR)(a:Addr)(xs:List V):Prop:=(¬ B a/\Rd H a (.lst xs))\/JZ K a xs
mutual
inductive Rep (K:PJ) (H:Hp) (B:lR):V->T->Prop
 |aX:Rep K H B .aX .aX
 |bl (b:Bool):Rep K H B (.bl b) (.bl b)
 |int (i:Int):Rep K H B (.int i) (.int i)
 |str (x:Str):Rep K H B (.str x) (.str x)
 |tup {a:Addr} {vs:List V} {ts:List T} (n:¬ B a) (h:H a=some (.tup vs)) (r:dC K H B vs ts):Rep K H B (.ref a) (.tup ts)
 |JA {a:Addr} {vs:List V} {ts:List T} (h:HL K a vs) (r:dC K H B vs ts):Rep K H B (.ref a) (.JA ts)
 |lst {a:Addr} {vs:List V} {ts:List T} (n:¬ B a) (h:H a=some (.lst vs)) (r:dC K H B vs ts):Rep K H B (.ref a) (.lst ts)
 |JD {a:Addr} {vs:List V} {ts:List T} (h:LB K H B a vs) (r:dC K H B vs ts):Rep K H B (.ref a) (.JD ts)
 |mK {a:Addr} {lo hi:Int} (n:¬ B a) (h:H a=some (.mK lo hi)):Rep K H B (.ref a) (.mK lo hi)
 |JM {a:Addr} {ks:List Key} {vs:List V} {ts:List T} (n:¬ B a) (h:Rd H a (.dK (ks.zip vs))) (l:ks.length=vs.length) (r:dC K H B vs ts):Rep K H B (.ref a) (.JM ks ts)
 |exc {a:Addr} {c:Value} (n:¬ B a) (h:H a=some (.ext (JG a c none))):Rep K H B (.ref a) (.exc c none)
 |J_ {a d:Addr} {c:Value} {x:Str} {i:Int} (n:¬ B a) (h:H a=some (.ext (JG a c (some d)))) (m:¬ B d) (g:H d=some (.xd [(x,.int i)])):Rep K H B (.ref a) (.exc c (some (x,i)))
 |il {a:Addr} {n:Nat} (m:¬ B a) (h:H a=some (.ext (Jb a n))):Rep K H B (.ref a) (.il n)
 |adr (a:Addr):Rep K H B (.ref a) (.adr a)
 |ins {a dx c:Addr} {ks:List Str} {vs:List V} {ts:List T} (n:¬ B a) (h:H a=some (.ins c dx (ks.zip vs))) (l:ks.length=vs.length) (r:dC K H B vs ts):Rep K H B (.ref a) (.ins a c ks ts)
inductive dC (K:PJ) (H:Hp) (B:lR):List V->List T->Prop
 |nil:dC K H B [] []
 |cons {v:V} {t:T} {vs:List V} {ts:List T} (h:Rep K H B v t) (r:dC K H B vs ts):dC K H B (v::vs) (t::ts)
end
section
variable {K:PJ} {H:Hp} {B:lR} {v:V}
theorem dC.J5{vs:List V}(h:dC K H B vs []):vs=[]:=by cases h;rfl
theorem dC.DT{vs:List V}(h:dC K H B vs (t::ts)):∃v ws,vs=v::ws/\Rep K H B v t/\dC K H B ws ts:=by cases h with|cons h r=>exact⟨_,_,rfl,h,r⟩
end
theorem Paired.vC{β:Type}{P:α->β->Prop}{ys:List β}(h:Paired P [] ys):ys=[]:=by cases h;rfl
theorem Paired.fe{β:Type}{P:α->β->Prop}{x:α}{xs:List α}{ys:List β}(h:Paired P (x::xs) ys):∃y zs,ys=y::zs/\P x y/\Paired P xs zs:=by cases h with|cons h r=>exact⟨_,_,rfl,h,r⟩
section
variable {K:PJ} {H H':Hp} {B B':lR}
theorem dC.length{vs:List V}(r:dC K H B vs ts):vs.length=ts.length:=by
 induction ts generalizing vs with
 |nil=>obtain rfl:=r.J5;rfl
 |cons t ts ih=>obtain⟨v,ws,rfl,_,r⟩:=r.DT;exact K_ (·+1) (ih r)
theorem dC.get{vs:List V}{i:Nat}(r:dC K H B vs ts)(e:ts[i]?=some t):∃v,vs[i]?=some v/\Rep K H B v t:=by
 induction ts generalizing vs i with
 |nil=>cases e
 |cons u ts ih =>
  obtain⟨v,ws,rfl,h,r⟩:=r.DT
  cases i with
  |zero=>cases e;exact⟨_,rfl,h⟩
  |succ i=>exact ih (vs:=ws) (i:=i) r e
end
noncomputable def mP:T->Bool
 |.aX|.bl _|.int _|.str _=>true
 |_=>false
inductive Sl where
 |un|tr (t:T)|bx (c:T)|pb (c:T)
abbrev Mu:=List Sl
inductive R where
 |tr (t:T)|br (i:Nat)|fr (c:T)
structure Fx where
 K:PJ
 H0:Hp
 P:Nat->Option Addr
 Bc:lR
 bh:∀b,Bc b->∃o,H0 b=some o
 G:Addr->Option HO
def more(B:lR)(a:Addr):lR:=λb=>b=a\/B b
abbrev UE:=Mu->(R->Mu->Prop)->Prop
abbrev UT:=Mu->(Bool->Mu->Prop)->Prop
abbrev UA:=Mu->(List R->Mu->Prop)->Prop
structure Ed where
 nx:Mu->Prop
 rt:R->Mu->Prop
 bk:Mu->Prop:=λ_=>False
 ct:Mu->Prop:=λ_=>False
abbrev US:=Ed->Mu->Prop
namespace Y
noncomputable def DB(K:PJ):R2:=λx y H Q=>∃a b xs ys,x=.ref a/\y=.ref b/\aY K H a xs/\aY K H b ys/\xs.length+ys.length<=sizeLine /\
 (xs=[]->Q (.ref b) H)/\(xs≠[]->ys=[]->Q (.ref a) H)/\(xs≠[]->ys≠[]->∀p,H p=none->Q (.ref p) (upd H p (.tup (xs++ys))))
theorem Ae{A:Around}{s:Shared}{t b:Addr}{ws:List Value}(ht:IsTup s.heap t ([]:List Value).toArray)(hb:IsTup s.heap b ws.toArray)(h0:Q (.ref b) s):wpAny (model prog w) A (binaryOp .Add (.ref t) (.ref b)) Q E s:=by
 obtain⟨⟨cls,dd,data,sl⟩,ho,hc,n,hd⟩:=id ht;obtain⟨⟨cls2,dd2,data2,sl2⟩,ho2,hc2,n2,hd2⟩:=id hb;simp only at hc hd hc2 hd2;subst hc hd hc2 hd2;exact concat_meets ⟨_,ho,rfl⟩ ⟨_,ho2,rfl⟩ noFill_tuple_add seq_tuple_add PySem.F.slot_tuple_add PySem.F.entry_tuple_add (PySem.F.args_tuple_add_2 _ _)
   (tuple_addW0 t b _ ws.toArray n n2 dd dd2 sl sl2 (by simp)) ⟨ho,ho2,h0⟩
theorem Cm:dh X (binaryOp .Add) (DB X.K):=by
 intro pins s σ H x y v u Q I rx ry h;obtain⟨a,b,xs,ys,rfl,rfl,ha,hb,hz,q0,q1,q2⟩:=h;by_cases hx:xs=[]
 ·subst hx
  cases rx;cases ry
  obtain⟨its,r1,p1,_⟩:=I.tuple ha;obtain⟨its2,r2,p2,_⟩:=I.tuple hb;obtain rfl:=Paired.vC r1;exact Ae p1 p2 ⟨.ref b,H,I,rfl,q0 rfl⟩
 ·exact uV pins s σ H _ _ v u Q I rx ry ⟨a,b,xs,ys,rfl,rfl,ha,hb,hx,hz,q1 hx,q2 hx⟩
noncomputable def yw(K:PJ):R2:=λx y H Q=>(∃i j,x=.int i/\y=.int j/\Q (.int (i+j)) H)\/(∃i j,x=.str i/\y=.str j/\i.length+j.length<=sizeLine/\Q (.str (i++j)) H)\/HX x y H Q\/DB K x y H Q
theorem nW(K:PJ)(hK:X.K=K):dh X (binaryOp .Add) (yw K):=by subst hK;exact yv.or (kN.or (zq.or Cm))
noncomputable def DQ:T->T->Bool
 |.aX,.aX=>true
 |.bl a,.bl b=>a == b
 |.bl a,.int b=>(if a then 1 else 0) == b
 |.int a,.bl b=>a ==(if b then 1 else 0)
 |.int a,.int b=>a == b
 |.str a,.str b=>a == b
 |_,_=>false
theorem G_{B:lR}{x y:V}(h1:Rep K H B x t)(h2:Rep K H B y u)(f1:mP t=true)(f2:mP u=true):cQ x=true/\cQ y=true/\xp x y=DQ t u:=by
 cases h1<;>first | (cases f1;done) | (cases h2<;>first | (cases f2;done)|exact⟨rfl,rfl,rfl⟩)
noncomputable def CQ(K:PJ)(neg:Bool):R2:=λx y H Q=>∃a b xs ys,x=.ref a/\y=.ref b/\((bB K H a xs/\bB K H b ys)\/(aY K H a xs/\aY K H b ys))/\xs.all cQ=true/\ys.all cQ=true /\
 ∀c,c=(xs.length == ys.length && (List.range (min xs.length ys.length)).all λj=>match xs[j]?,ys[j]? with|some x,some y=>xp x y|_,_=>true)->Q (.bl (if neg then !c else c)) H
theorem E3(hu:X.A.units<cLine):dh X (compareOp .Eq) (CQ X.K false):=by
 intro pins s σ H x y v u Q I rx ry h;obtain⟨a,b,xs,ys,rfl,rfl,hq,fx,fy,q⟩:=h
 cases rx;cases ry
 have item:∀(its its2:List Value),Vals xs its->Vals ys its2->∀j (h1:j<its.toArray.size) (h2:j<its2.toArray.size),SeqAt.EqAt X.A.in1 s its.toArray[j] its2.toArray[j] (match xs[j]?,ys[j]? with|some x,some y=>xp x y|_,_=>true):=λits its2 r1 r2 j h1 h2=>by
  have l1:=r1.length;have l2:=r2.length;rw[Kh] at h1 h2;obtain⟨u1,e1,g1⟩:=r1.get (i:=j) (x:=xs[j]) (Ka (by lia))
  obtain⟨u2,e2,g2⟩:=r2.get (i:=j) (x:=ys[j]) (Ka (by lia))
  rw[Ka (show j<xs.length by lia),Ka (show j<ys.length by lia)]
  have z1:its.toArray[j]=u1:=by
   rw[Ka h1] at e1;simpa using e1
  have z2:its2.toArray[j]=u2:=by
   rw[Ka h2] at e2;simpa using e2
  rw[z1,z2];exact nk g1 g2 (LR.mp fx _ (K1 _)) (LR.mp fy _ (K1 _))
 rcases hq with ⟨ha,hb⟩|⟨ha,hb⟩
 ·obtain⟨its,r1,p1,_⟩:=I.list ha;obtain⟨its2,r2,p2,_⟩:=I.list hb;have l1:=r1.length;have l2:=r2.length;by_cases e:xs.length=ys.length
  ·refine SeqAt.eq_listAt p1.isList p2.isList (by rw[Kh,Kh];lia) hu (item its its2 r1 r2) ⟨.bl _,H,I,rfl,q _ ?_⟩
   rw[Kh,<- l1,<- e,Mi,L3,P6]
  ·refine OR p1.isList p2.isList (by rw[Kh,Kh,O7];lia) hu ⟨.bl _,H,I,rfl,q _ ?_⟩
   rw[KO.mpr e,Oa]
 ·obtain⟨its,r1,p1,_⟩:=I.tuple ha;obtain⟨its2,r2,p2,_⟩:=I.tuple hb;have l1:=r1.length;have l2:=r2.length;refine SeqAt.eq_tupleAt p1 p2 hu (item its its2 r1 r2) ⟨.bl _,H,I,rfl,q _ ?_⟩;rw[Kh,Kh,<- l1,<- l2,Bool.and_comm];rfl
def HU(K:PJ):R2:=λx y H Q=>DE x y H Q\/CQ K false x y H Q
theorem FQ(K:PJ)(hK:X.K=K)(hu:X.A.units<cLine):dh X (compareOp .Eq) (HU K):=by subst hK;exact Ea.or (E3 hu)
theorem ic:∀(n:Nat) (acc:List Value) (k:Nat),acc.length=n->(∀j v,acc[j]?=some v->∃t,v=Value.int (lo+((k+j:Nat):Int)) t)->Vals ((List.range' k n).map λk=>V.int (lo+(k:Nat))) acc
 |0,acc,k,h,_=>by cases acc with|nil=>exact .nil|cons a b=>cases h
 |n+1,[],k,h,_=>by cases h
 |n+1,a::acc,k,h,g=>by
  rw[LS,K9];refine .cons ?_ (ic n acc (k+1) (by simpa using h) λj v e=>?_)
  ·obtain⟨t,e⟩:=g 0 a rfl;exact⟨t,by simpa using e⟩
  ·obtain⟨t,e2⟩:=g (j+1) v (by simpa using e)
   exact⟨t,by rw[e2];congr 2;lia⟩
noncomputable def BV:List V->Hp->VK->Prop:=λxs H Q=>(∃j,xs=[.int j]/\∀p,H p=none->Q (.ref p) (upd H p (.mK 0 j)))\/(∃i j,xs=[.int i,.int j]/\∀p,H p=none->Q (.ref p) (upd H p (.mK i j)))
theorem oR:bE X (.type "range") BV:=by
 intro pins s σ H xs us Q I r h;rcases h with ⟨j,rfl,q⟩|⟨i,j,rfl,q⟩
 ·obtain⟨u,rfl,t,rfl⟩:=vals1 r;refine call_range_1 ?_;exact⟨.ref s.heap.objs.size,_,I.laid (o:=.mK 0 j) (λb ob q=>Kg _ q) (Kk _) (show bQ X.prog X.w _ _ _ (.mK 0 j) from⟨_,_,_,Ky _ rfl⟩),rfl,q _ (I.ba.fresh (Kk _))⟩
 ·obtain⟨u,w',rfl,⟨t,rfl⟩,⟨t',rfl⟩⟩:=vals2 r;refine call_range_2 ?_;exact⟨.ref s.heap.objs.size,_,I.laid (o:=.mK i j) (λb ob q=>Kg _ q) (Kk _) (show bQ X.prog X.w _ _ _ (.mK i j) from⟨_,_,_,Ky _ rfl⟩),rfl,q _ (I.ba.fresh (Kk _))⟩
section
variable {X:Cx} {a b c e o:Expr} {es rest:List Expr} {ua ub uc ue uo:UE} {uA uB:UT} {us:UA} {pos p p2 p3:Pos} {x:Str}
noncomputable def xH(xs:List α)(lo hi:Option Int):List α:=(xs.drop (HT.b_ xs.length 0 lo)).take (HT.b_ xs.length xs.length hi-HT.b_ xs.length 0 lo)
noncomputable def HS(K:PJ):V->Option Int->Option Int->Hp->VK->Prop:=λx lo hi H Q=>∃a xs,x=.ref a/\aY K H a xs/\HT.b_ xs.length 0 lo=0/\HT.b_ xs.length xs.length hi=xs.length/\Q (.ref a) H
theorem iT{A:Around}{s:Shared}{t sl:Addr}{vl vu:Value}{lo hi:Option Int}(ht:IsTup s.heap t items)(hs:s.heap.IsSliceOf sl vl vu .none)(pl:IsPart vl lo)(pu:IsPart vu hi)
  (h1:HT.b_ items.size 0 lo=0) (h2:HT.b_ items.size items.size hi=items.size) (h:Q (.ref t) s):wpAny (model prog w) A (getItem (.ref t) (.ref sl)) Q E s:=by
 obtain⟨os,hos,hcs,vm⟩:=id hs;have hTs:s.TypeIs (.ref sl) "slice":=⟨os,hos,hcs⟩;unfold getItem
 try with_reducible refine L7 ?_
 first|refine Kb (Ks ?_)|skip
 refine Kb (wpAny_sequenceKey ht.typeIs (by decide) ?_)
 refine Kb (Ll (name:=Str.ofString "__getitem__") ht.typeIs LV
  (L4 LV ht.typeIs entry_tuple_getitem ?_ (args_tuple_getitem _ _)))
 show wpAny _ _ (Builtin.Tuple.tupleItemsOf (.ref t) >>= _) _ _ s;refine Kb (tupleItemsOf_ ht ?_);refine Kb (NK hTs ?_);rw[Kj (by decide)]
 refine Kb (HT.fJ hs pl pu ?_);show wpAny _ _ (if (((HT.b_ items.size 0 lo:Nat):Int) == 0 && (1:Int) == 1 && (HT.b_ items.size items.size hi-HT.b_ items.size 0 lo) == items.size)=true then _ else _) _ _ s
 rw[Kj (by rw[h1,h2];simp)]
 unfold Builtin.Tuple.tupleIsExact;refine Kb ?_;refine Kb (NK ht.typeIs (Ks ?_));rw[Kj (by decide)]
 exact Kb (O6 (Ks ⟨_,rfl,Ks h⟩))
theorem Eg:uR X (HS X.K):=by
 intro pins s σ H x v vl vu lo hi sl Q I rx hs pl pu h;obtain⟨a,xs,rfl,hx,h1,h2,q⟩:=h;cases rx;obtain⟨its,r,ht,hz⟩:=I.tuple hx;have hlen:its.toArray.size=xs.length:=by rw[Kh];exact r.length.symm
 exact⟨"tuple",_,LV.lookup,ht.typeIs,iT ht hs pl pu (by rw[hlen];exact h1) (by rw[hlen];exact h2) ⟨.ref a,H,I,rfl,q⟩⟩
def Cu(K:PJ):V->Option Int->Option Int->Hp->VK->Prop:=λx lo hi H Q=>Ez K x lo hi H Q\/r9 K x lo hi H Q\/HS K x lo hi H Q
theorem FR(K:PJ)(hK:X.K=K):uR X (Cu K):=by subst hK;exact nG.or (s_.or Eg)
end
end Y
abbrev UI:=Mu->(List T->Option (Nat×List T)->Mu->Prop)->Prop
def yr(K:PJ)(tl:TE):TI:=λσ H R=>tl σ H λx H1=>∃a,x=V.ref a/\(((∃xs,bB K H1 a xs)/\R (xt K a) H1)\/((∃xs,aY K H1 a xs)/\R (wU K a) H1))
theorem Fd{l:Expr}{tl:TE}(hl:PE X l tl):PI X tg l (yr X.K tl):=by
 intro pins s σ H R I h;refine bZ (hl pins s σ H _ I h) λv s1 hq2=>?_;obtain⟨x,H1,I1,r1,q1⟩:=hq2;obtain⟨a,rfl,q⟩:=q1;cases r1;rcases q with ⟨⟨xs,hq⟩,q⟩|⟨⟨xs,hq⟩,q⟩
 ·obtain⟨its,rv,p,hz⟩:=I1.list hq;refine Nw p.isList ?_;refine⟨s1.heap.objs.size,[s1.heap.objs.size],_,_,H1,rfl,I1.kept (t':=s1.toks) λb o e=>Kg _ e,mX a _,⟨_,Ky _ rfl,rfl,rfl⟩,λb hb=>?_,q⟩;have e:b=s1.heap.objs.size:=by simpa using hb
  subst e;exact I1.qj (Kk _) (I1.ba.fresh (Kk _))
 ·obtain⟨its,rv,p,hz⟩:=I1.tuple hq;refine MD (show s1.heap.IsTuple a its.toArray from p) ?_;refine⟨s1.heap.objs.size,[s1.heap.objs.size],_,_,H1,rfl,I1.kept (t':=s1.toks) λb o e=>Kg _ e,kF a _,⟨_,Ky _ rfl,rfl,rfl⟩,λb hb=>?_,q⟩;have e:b=s1.heap.objs.size:=by simpa using hb
  subst e;exact I1.qj (Kk _) (I1.ba.fresh (Kk _))
namespace Y
theorem wQ{α:Type _}{l:List α}(h:l.length=1):∃y,l=[y]:=by
 rcases l with _|⟨a,_|⟨b,t⟩⟩
 ·cases h
 ·exact⟨a,rfl⟩
 ·cases h
theorem xY{α:Type _}{l:List α}(h:l.length=2):∃y z,l=[y,z]:=by
 rcases l with _|⟨a,t⟩
 ·cases h
 ·obtain⟨b,rfl⟩:=wQ (Nat.succ.inj h);exact⟨a,b,rfl⟩
theorem rn{α:Type _}{l:List α}(h:l.length=3):∃x y z,l=[x,y,z]:=by
 rcases l with _|⟨a,t⟩
 ·cases h
 ·obtain⟨b,c,rfl⟩:=xY (Nat.succ.inj h);exact⟨a,b,c,rfl⟩
theorem HQ{α:Type _}{l:List α}(h:l.length=4):∃w x y z,l=[w,x,y,z]:=by
 rcases l with _|⟨a,t⟩
 ·cases h
 ·obtain⟨b,c,d,rfl⟩:=rn (Nat.succ.inj h);exact⟨a,b,c,d,rfl⟩
end Y
abbrev JK:=List T->(R->List T->Prop)->Prop
def BE(K:PJ)(f:Addr)(cdv:Value):Prop:=∃(o:Obj) (fd:FuncData),K.lookup f=some o/\o.data=.func fd/\fd.code=cdv
def iI(K:PJ)(k:Bool)(H:Hp)(a:Addr)(xs:List V):Prop:=if k=true then bB K H a xs else aY K H a xs
def kB(k:Bool)(h:Heap)(it a:Addr)(i:Nat):Prop:=if k=true then h.IsListIter it a i else h.IsTupleIter it a i
def cG(k:Bool)(h:Heap)(a:Addr)(items:Array Value):Prop:=if k=true then h.IsList a items else h.IsTuple a items
theorem tZ{A:Around}(k:Bool)(hh:A.handled=none)(it l:Addr)(hne:l≠it)(items:Array Value):Draws prog w A it [it,l] items.size (λi v=>items[i]?=some v) (λi h=>kB k h it l i/\cG k h l items):=by
 cases k with
 |true=>exact Draws.list hh it l hne items
 |false=>exact ja hh it l hne items
theorem Inv.oX{s:Shared}{k:Bool}(I:Inv X pins σ H s)(h:iI X.K k H a xs):∃its:List Value,Vals xs its/\cG k s.heap a its.toArray:=by
 cases k with
 |true=>obtain⟨its,r,p,_⟩:=I.list h;exact⟨its,r,p.isList⟩
 |false=>obtain⟨its,r,p,_⟩:=I.tuple h;exact⟨its,r,p⟩
theorem Inv.yt{s:Shared}{k:Bool}{ys:List V}(I:Inv X pins σ H s)(h:iI X.K k H a xs)(h':iI X.K k H a ys):xs=ys:=by
 cases k with
 |true=>exact I.lb h h'
 |false=>exact I.iW h h'
theorem cG.ty{k:Bool}(x:cG k h a items):∃o,h.get? a=some o/\(o.cls=.type "list"\/o.cls=.type "tuple")/\∃n,o.data=.seq items n:=by
 cases k with
 |true=>obtain⟨o,e,c,n,d⟩:=(show h.IsList a items from x);exact⟨o,e,.inl c,n,d⟩
 |false=>obtain⟨o,e,c,n,d⟩:=(show h.IsTuple a items from x);exact⟨o,e,.inr c,n,d⟩
theorem kB.ty{k:Bool}{it:Addr}(x:kB k h it a i):∃o,h.get? it=some o/\(o.cls=.type "list_iterator"\/o.cls=.type "tuple_iterator")/\o.data=.fields #[.ref a,.int i 0]:=by
 cases k with
 |true=>obtain⟨o,e,c,d⟩:=(show h.IsListIter it a i from x);exact⟨o,e,.inl c,d⟩
 |false=>obtain⟨o,e,c,d⟩:=(show h.IsTupleIter it a i from x);exact⟨o,e,.inr c,d⟩
noncomputable def vV(k:Bool):String:=if k=true then "list_iterator" else "tuple_iterator"
theorem yS(x:h.IsTuple a items)(o:Obj):(h.push o).IsTuple a items:=by
 obtain⟨ob,e,r⟩:=x;exact⟨ob,Kg _ e,r⟩
theorem Ic{k:Bool}{it:Addr}(e:h.get? it=some {cls:=.type (vV k),data:=.fields #[.ref a,.int 0 0]}):kB k h it a 0:=by
 cases k with
 |true=>exact⟨_,e,rfl,rfl⟩
 |false=>exact⟨_,e,rfl,rfl⟩
def pW(K:PJ):Sp:=λvs H Q _=>∃(a:Addr) (ns:List Int),vs=[.ref a]/\bB K H a (ns.map V.int)/\ns.length<=63/\∀H',Q (.bl true) H'
namespace Y
theorem Gp(hu:X.A.units<cLine):dh X (compareOp .NotEq) (CQ X.K true):=by
 intro pins s σ H x y v u Q I rx ry h;obtain⟨a,b,xs,ys,rfl,rfl,hq,fx,fy,q⟩:=h
 cases rx;cases ry
 have item:∀(its its2:List Value),Vals xs its->Vals ys its2->∀j (h1:j<its.toArray.size) (h2:j<its2.toArray.size),SeqAt.EqAt X.A.in1 s its.toArray[j] its2.toArray[j] (match xs[j]?,ys[j]? with|some x,some y=>xp x y|_,_=>true):=λits its2 r1 r2 j h1 h2=>by
  have l1:=r1.length;have l2:=r2.length;rw[Kh] at h1 h2;obtain⟨u1,e1,g1⟩:=r1.get (i:=j) (x:=xs[j]) (Ka (by lia))
  obtain⟨u2,e2,g2⟩:=r2.get (i:=j) (x:=ys[j]) (Ka (by lia))
  rw[Ka (show j<xs.length by lia),Ka (show j<ys.length by lia)]
  have z1:its.toArray[j]=u1:=by
   rw[Ka h1] at e1;simpa using e1
  have z2:its2.toArray[j]=u2:=by
   rw[Ka h2] at e2;simpa using e2
  rw[z1,z2];exact nk g1 g2 (LR.mp fx _ (K1 _)) (LR.mp fy _ (K1 _))
 rcases hq with ⟨ha,hb⟩|⟨ha,hb⟩
 ·obtain⟨its,r1,p1,_⟩:=I.list ha;obtain⟨its2,r2,p2,_⟩:=I.list hb;have l1:=r1.length;have l2:=r2.length;by_cases e:xs.length=ys.length
  ·refine SeqAt.RcNeAt.lists p1.isList p2.isList (by rw[Kh,Kh];lia) hu (item its its2 r1 r2) X.prog X.w X.xe _ ⟨.bl _,H,I,rfl,q _ ?_⟩
   rw[Kh,<- l1,<- e,Mi,L3,P6]
   try rfl
  ·refine Ow p1.isList p2.isList (by rw[Kh,Kh,O7];lia) hu X.prog X.w X.xe _ ⟨.bl true,H,I,rfl,?_⟩
   exact q false (by rw[KO.mpr e,Oa])
 ·obtain⟨its,r1,p1,_⟩:=I.tuple ha;obtain⟨its2,r2,p2,_⟩:=I.tuple hb;have l1:=r1.length;have l2:=r2.length;refine SeqAt.RcNeAt.tuples p1 p2 hu (item its its2 r1 r2) X.prog X.w X.xe _ ⟨.bl _,H,I,rfl,q _ ?_⟩;rw[Kh,Kh,<- l1,<- l2,Bool.and_comm]
  try rfl
def Hf(K:PJ):R2:=λx y H Q=>HF x y H Q\/CQ K true x y H Q
theorem Fp(K:PJ)(hK:X.K=K)(hu:X.A.units<cLine):dh X (compareOp .NotEq) (Hf K):=by subst hK;exact DD.or (Gp hu)
theorem kj:fillsNumberSlot (.type "tuple") "mul"=pure false:=
 PySem.fillsNumberSlot_seq (id:="tuple.__mul__") (r:=some (.builtin "tuple.__rmul__")) PySem.F.slot_tuple_mul.lookup (by decide +kernel) PySem.F.slot_tuple_rmul.lookup (by decide +kernel)
theorem r8:seqRepeat? (.type "tuple")=pure (some (.builtin "tuple.__mul__")):=by
 unfold seqRepeat?;rw[PySem.seqSlot_of (T:="tuple") (name:="__mul__") (id:="tuple.__mul__") PySem.F.slot_tuple_mul.lookup (by decide +kernel),PySem.seqSlot_of (T:="tuple") (name:="__rmul__") (id:="tuple.__rmul__") PySem.F.slot_tuple_rmul.lookup (by decide +kernel)];rfl
theorem Al(a:Int)(t:Tok)(l:Addr)(ob:Obj)(items:Array Value)(n:Nat)(hc:ob.cls=.type "tuple")(hd:ob.data=.seq items n):
  Meets (Builtin.«int.__rmul__» ⟨[.int a t,.ref l],[]⟩) (λ_ R s=>s.heap.get? l=some ob/\R (.ok (.ret Value.notImplemented)) s):=
 .of_wp λprog w A R s h=>by
  obtain⟨hp,g,d,tk,os⟩:=s;obtain⟨hl,h⟩:=h;obtain⟨c,dd,da,sl⟩:=ob;simp only at hc hd;subst hc hd
  wp_walk
  exact⟨_,rfl,h⟩
theorem B3(l:Addr)(items:Array Value)(ob:Obj)(n:Nat)(k:Int)(t:Tok)(hc:ob.cls=.type "tuple")(hd:ob.data=.seq items n)(hne:items.isEmpty=false)(h1:1<k)(h2:k<=1000)(hsz:items.size<=1000):
  Meets (Builtin.«tuple.__mul__» ⟨[.ref l,.int k t],[]⟩) (λ_ R s=>s.heap.get? l=some ob/\R (.ok (.ret (.ref s.heap.objs.size))) {s with heap:=s.heap.push {cls:=.type "tuple",data:=.seq ((List.replicate k.toNat items).foldl (·++·) #[])}}):=
 .of_wp λprog w A R s h=>by
  obtain⟨hp,g,d,tk,os⟩:=s;obtain⟨hl,h⟩:=h;obtain⟨c,dd,da,sl⟩:=ob;simp only at hc hd;subst hc hd;have e1:(decide (k < -(2^63)) || decide (k >= 2^63))=false:=by rw[KH (by lia),KH (by lia)];rfl
  have e2:(items.isEmpty || k == 1)=false:=by rw[hne,KO.mpr (by lia)];rfl
  have e3:(decide (k<=0) || items.isEmpty)=false:=by rw[hne,KH (by lia)];rfl
  wp_walk using AutoSeq1.wpAny_loadPart' hl;rw[Ki (by rw[e1];exact Kx)]
  have ht:IsTup (Shared.heap ⟨hp,g,d,tk,os⟩) l items:=⟨_,hl,rfl,n,rfl⟩;show wpAny _ _ (Builtin.Tuple.tupleItemsOf (.ref l) >>= _) _ _ _;refine Kb (tupleItemsOf_ ht ?_);rw[Ki (by rw[e2];exact Kx)]
  show wpAny _ _ (if (decide (k<=0) || items.isEmpty)=true then _ else _) _ _ _
  rw[Ki (by rw[e3];exact Kx)]
  have hm:(items.size:Int)*k<=1000*1000:=Int.mul_le_mul (by lia) h2 (by lia) (by lia)
  show wpAny _ _ (if (items.size:Int)*k >(2^63-1) / 8 then _ else _) _ _ _
  rw[Ki (by lia)]
  show wpAny _ _ (if Builtin.Tuple.tupleTooMany ((items.size:Int)*k)=true then _ else _) _ _ _
  have e4:Builtin.Tuple.tupleTooMany ((items.size:Int)*k)=false:=KH (by
   have:((sizeLine:Nat):Int) >= 1000000:=by decide
   lia)
  rw[Ki (by rw[e4];exact Kx)]
  have hl2:((List.replicate k.toNat items).foldl (·++·) #[]).size<=sizeLine:=by
   have fs:∀(m:Nat) (acc:Array Value),((List.replicate m items).foldl (·++·) acc).size=acc.size+m*items.size:=λm=>by
    induction m with
    |zero=>intro acc;simp
    |succ m ih=>intro acc;rw[KW,NI,ih,Array.size_append,Mr];lia
   rw[fs];have h3:k.toNat*items.size<=1000*1000:=Od (by lia) hsz
   have h4:(1000000:Nat)<=sizeLine:=by decide
   simp;lia
  exact Kb (m:=Builtin.Tuple.tupleExact _) (LK (Ks ⟨_,rfl,h⟩) hl2)
theorem vy(its:List Value):∀(m:Nat) (acc:List Value),(List.replicate m its.toArray).foldl (·++·) acc.toArray=(acc++(List.replicate m its).flatten).toArray:=λm acc=>foldl_rep its m acc
noncomputable def Dw(K:PJ):R2:=λx y H Q=>∃a k xs,x=.ref a/\y=.int k/\aY K H a xs/\xs≠[]/\xs.length<=1000/\1<k/\k<=1000/\∀p,H p=none->Q (.ref p) (upd H p (.tup (List.replicate k.toNat xs).flatten))
theorem Bh:dh X (binaryOp .Mult) (Dw X.K):=by
 intro pins s σ H x y v u Q I rx ry h;obtain⟨a,k,xs,rfl,rfl,hx,hne,hsz,h1,h2,q⟩:=h;cases rx;obtain⟨t,rfl⟩:=ry;obtain⟨its,r,p,hz⟩:=I.tuple hx;obtain⟨ob,ho,hc,n,hd⟩:=id p;have hlen:=r.length;have hemp:its.toArray.isEmpty=false:=by
  cases its with
  |nil=>cases r;exact absurd rfl hne
  |cons a b=>rfl
 refine O5 (T:="tuple") (U:="int") (by decide) ⟨_,ho,hc⟩ (λs'=>O4 s' k t) kj PySem.F.fills_int_mul PySem.F.slot_int_rmul r8 PySem.F.slot_int_index.lookup
  (Me PySem.F.slot_int_rmul (O4 s k t) PySem.F.entry_int_rmul (PySem.F.args_int_rmul_2 _ _) (Al k t a ob its.toArray n hc hd)
   ⟨ho,rfl,⟨_,ho,hc⟩,Me PySem.F.slot_tuple_mul ⟨_,ho,hc⟩ PySem.F.entry_tuple_mul (PySem.F.args_tuple_mul_2 _ _) (B3 a its.toArray ob n k t hc hd hemp h1 h2 (by rw[Kh];lia)) ⟨ho,?_⟩⟩)
 have e0:=vy its k.toNat [];rw[LM] at e0;have e0':(List.replicate k.toNat its.toArray).foldl (·++·) #[]=(List.replicate k.toNat its).flatten.toArray:=e0;rw[e0'];refine⟨.ref s.heap.objs.size,_,I.laid (t':=s.toks) (o:=.tup (List.replicate k.toNat xs).flatten) (λb ob q=>Kg _ q) (Kk _) ?_,rfl,q _ (I.ba.fresh (Kk _))⟩;refine⟨?_,_,r.rep k.toNat,eL.new _ _⟩;rw[len_rep];have h3:k.toNat*xs.length<=1000*1000:=Od (by lia) hsz
 exact Kn h3 (by decide)
def D_(K:PJ):R2:=λx y H Q=>E6 x y H Q\/Dw K x y H Q
theorem nJ(K:PJ)(hK:X.K=K):dh X (binaryOp .Mult) (D_ K):=by subst hK;exact cK.or Bh
end Y
open PySem PySem.Spec PyProof PyProof.Rows
namespace Y
theorem f_:∀{us:List Value} {ns:List Int},IntsAre us ns->Vals (ns.map V.int) us
 |_,_,.nil=>.nil
 |_,_,.cons n t h=>.cons ⟨t,rfl⟩ (f_ h)
theorem ll:∀{us:List Value} {ns:List Int},IntsAre us ns->us.length=ns.length
 |_,_,.nil=>rfl
 |_,_,.cons n t h=>by simp[ll h]
section
variable {prog:Program} {w:World} {A:Around} {E:Value->Shared->Prop} {s:Shared}
theorem oV{l:Addr}{vs:List Value}{Q:List Value->Shared->Prop}(hl:IsTup s.heap l vs.toArray)(hsz:vs.length<=sizeLine)
  (h:Q vs {s with heap:=(s.heap.push (seqObj "list" #[] 0)).update s.heap.objs.size (Obj.mapSeq (·++vs.toArray))}):wpAny (model prog w) A (collect (.ref l)) Q E s:=by
 obtain⟨o,ho,hc,n,hd⟩:=id hl;unfold collect;refine Kb (wpAny_runValue (ME entry_proto_collect' ?_));show wpAny _ _ (do again (.builtin "list.__iadd__" ⟨[<- newList [],.ref l],[]⟩)) _ _ s
 refine Kb (Ox (Ks ⟨Code.quiet_builtin _ (by decide +kernel),ME entry_list_iadd' ?_⟩))
 show wpAny _ _ (Builtin.List.listExtendWith (.ref s.heap.objs.size) (.ref l) (.ref s.heap.objs.size)) _ _ {s with heap:=s.heap.push (seqObj "list" #[] 0)}
 unfold Builtin.List.listExtendWith;have ho':(s.heap.push (seqObj "list" #[] 0)).get? l=some o:=Kg _ ho;refine Kb (NK (T:="tuple") ⟨o,ho',hc⟩ ?_);have ht:(Value.type "tuple" == Value.type "tuple")=true:=by rfl
 rw[Kj (by rw[ht];simp)]
 refine Kb (OJ ho' hd ?_);refine Kb (OJ (xs:=#[]) (n:=0) (Ky _ rfl) rfl ?_);rw[Ki (by simp)]
 refine Kb (listUpdate_at (xs:=#[]) (n:=0) (Ky _ rfl) rfl ?_ (Kz _) (by show (#[]++vs.toArray).size<=sizeLine+1;simp only[Array.size_append,Kh,LH];lia))
 refine Ks ?_;show wpAny (model prog w) A (load s.heap.objs.size >>= _) Q E {s with heap:=(s.heap.push (seqObj "list" #[] 0)).update s.heap.objs.size (Obj.mapSeq (·++vs.toArray))}
 refine Kb (wpAny_load (NL (Ky _ rfl) _) ?_);show wpAny _ _ (pure ((#[]:Array Value)++vs.toArray).toList) Q E _;rw[show ((#[]:Array Value)++vs.toArray).toList=vs by simp]
 exact Ks h
theorem sG{l:Addr}{vs:List Value}(hl:IsTup s.heap l vs.toArray)(hI:IntsAre vs ns)(h64:vs.length<64)
  (h:∀(out:Array Value) (ns':List Int),IntsAre out.toList ns'->ns'.Perm ns->ns'.Pairwise (·<=·)->Q (.ref (s.heap.objs.size+1)) {s with heap:=sortedAll s.heap vs out}) :
  wpAny (model prog w) A (call (.builtin "sorted") [.ref l]) Q E s:=by
 have hz:vs.length<=sizeLine:=Kn (Mg h64) (by decide)
 refine Calls.call_function_entry kind_sorted plain_sorted entry_sorted (args_sorted1 _) ?_;unfold Builtin.«sorted»;refine Kb (m:=checkCount "sorted" 1 1 _) (Ks ?_);refine Kb (oV hl hz ?_);refine Kb (Ox ?_ hz);have hs:((s.heap.push (seqObj "list" #[] 0)).update s.heap.objs.size (Obj.mapSeq (·++vs.toArray))).objs.size=s.heap.objs.size+1:=by rw[OK,size_push']
 have ho:(((s.heap.push (seqObj "list" #[] 0)).update s.heap.objs.size (Obj.mapSeq (·++vs.toArray))).push (seqObj "list" vs.toArray 0)).get? (s.heap.objs.size+1)=some (seqObj "list" vs.toArray 0):=by
  rw[<- hs];exact Ky _ rfl
 show wpAny _ _ _ _ _ {s with heap:=((s.heap.push (seqObj "list" #[] 0)).update s.heap.objs.size (Obj.mapSeq (·++vs.toArray))).push (seqObj "list" vs.toArray 0)}
 rw[hs];refine Kb (L7 (L4 slot_list_sort ⟨_,ho,rfl⟩ entry_list_sort (list_sort_tree ho hI h64 λout ns' a1 a2 a3=>⟨_,rfl,?_⟩) (args_list_sort _)));exact Ks ⟨_,rfl,h out ns' a1 a2 a3⟩
end
noncomputable def DZ(K:PJ):List V->Hp->VK->Prop:=λxs H Q=>∃p ns,xs=[.ref p]/\aY K H p (ns.map V.int)/\ns.length<64/\∀ns':List Int,ns'.Perm ns->ns'.Pairwise (·<=·)->∀l,H l=none->Q (.ref l) (upd H l (.lst (ns'.map V.int)))
theorem wN(K:PJ)(hK:X.K=K):bE X (.builtin "sorted") (DZ K):=by
 subst hK;intro pins s σ H xs us Q I r h;obtain⟨p,ns,rfl,hq,h64,q⟩:=h;obtain⟨u,rfl,ru⟩:=vals1 r;cases ru;obtain⟨its,rv,pl,hz⟩:=I.tuple hq;have hi:=intsAre_of rv;refine sG pl hi (by rw[ll hi];exact h64) λout ns' a1 a2 a3=>?_
 obtain⟨e,he⟩:=sortedAll_at s.heap its out;refine⟨.ref (s.heap.objs.size+1),_,I.laid (t':=s.toks) (λb ob q=>sortedAll_old q) (Ln _) (show bQ X.prog X.w _ _ _ (.lst (ns'.map V.int)) from⟨?_,out.toList,e,f_ a1,by simpa using he⟩),rfl,q ns' a2 a3 _ (I.ba.fresh (Ln _))⟩
 rw[Kc,a2.length_eq];exact Kn (Mg h64) (by decide)
theorem y6(l:List Nat):∀(n a:Nat),((List.range n).map (λk=>a+k)).filterMap (l[·]?)=(l.drop a).take n
 |0,_=>by simp
 |n+1,a=>by
  rw[Mn,Kv,List.filterMap_append,y6 l n a,List.take_add_one,Ly]
  cases h:l[a+n]?<;>simp[h]
theorem p9(lo hi:Option Int)(n:Nat):Builtin.Str.strSliceIndices lo hi 1 n=(List.range (HT.b_ n n hi-HT.b_ n 0 lo)).map (λk=>HT.b_ n 0 lo+k):=by
 have ea:∀(v:Int),max 0 (min (if v<0 then v+(n:Int) else v) (n:Int))=(((if v<0 then (v+(n:Int)).toNat else min v.toNat n):Nat):Int):=by
  intro v;split<;>lia
 have e:Builtin.Str.strSliceIndices lo hi 1 n=sliceRange (HT.b_ n 0 lo) (HT.b_ n n hi) 1:=by
  cases lo with
  |none=>cases hi with
   |none=>rfl
   |some j=>show sliceRange 0 (max 0 (min (if j<0 then j+(n:Int) else j) (n:Int))) 1=_;rw[ea];rfl
  |some i=>cases hi with
   |none=>show sliceRange (max 0 (min (if i<0 then i+(n:Int) else i) (n:Int))) n 1=_;rw[ea];rfl
   |some j=>show sliceRange (max 0 (min (if i<0 then i+(n:Int) else i) (n:Int))) (max 0 (min (if j<0 then j+(n:Int) else j) (n:Int))) 1=_;rw[ea,ea];rfl
 rw[e];generalize HT.b_ n 0 lo=a;generalize HT.b_ n n hi=b;unfold sliceRange;simp only[show ((1:Int) > 0)=True from by simp,MQ,Int.one_mul]
 have c:(if (a:Int)<(b:Int) then ((b:Int)-a+1-1) / 1 else 0).toNat=b-a:=by split<;>lia
 rw[c];refine NX λk _=>?_;lia
theorem se(z:Str)(lo hi:Option Int):Txt.slice z lo hi=⟨((z.cps.toList.drop (HT.b_ z.cps.toList.length 0 lo)).take (HT.b_ z.cps.toList.length z.cps.toList.length hi-HT.b_ z.cps.toList.length 0 lo)).toArray⟩:=by
 have hl:z.cps.toList.length=z.length:=KU;rw[hl];have hp:(Builtin.Str.strSliceIndices lo hi 1 z.length).filterMap (z.cps[·]?)=(z.cps.toList.drop (HT.b_ z.length 0 lo)).take (HT.b_ z.length z.length hi-HT.b_ z.length 0 lo):=by
  rw[p9];have:=y6 z.cps.toList (HT.b_ z.length z.length hi-HT.b_ z.length 0 lo) (HT.b_ z.length 0 lo)
  simpa using this
 unfold Txt.slice;split
 ·rename_i h;rw[p9] at h;simp at h;have h2:=HT.rm z.length z.length (Kk _) hi;have h3:=HT.rm z.length 0 (Kz _) lo;have a0:HT.b_ z.length 0 lo=0:=by lia
  have b0:HT.b_ z.length z.length hi=z.length:=by lia
  rw[a0,b0,Lw,Nn,<- hl,Li]
 ·rw[hp]
noncomputable def jD(z:Str)(lo hi:Option Int):Str:=⟨(xH z.cps.toList lo hi).toArray⟩
theorem vO(z:Str)(lo hi:Option Int):Txt.slice z lo hi=jD z lo hi:=se z lo hi
def Jh:V->Option Int->Option Int->Hp->VK->Prop:=λx lo hi H Q=>∃z,x=.str z/\z.length<=sizeLine/\Q (.str (jD z lo hi)) H
theorem oj:uR X Jh:=by
 intro pins s σ H x v vl vu lo hi sl Q I rx hs pl pu h;obtain⟨z,rfl,hz,q⟩:=h;rw[<- vO] at q;obtain⟨t,rfl⟩:=rx;refine⟨"str",_,PySem.F.slot_str_getitem.lookup,P4 _ _ _,?_⟩
 cases pl<;>cases pu
 ·exact M0 (l:=none) (u:=none) (st:=none) hs rfl (NM ⟨Kn (Txt.slice_le z _ _) hz,λt' k=>⟨.str _,H,I.tok _,⟨_,rfl⟩,q⟩⟩)
 ·exact M0 (l:=none) (u:=some (_,_)) (st:=none) hs rfl (NM ⟨Kn (Txt.slice_le z _ _) hz,λt' k=>⟨.str _,H,I.tok _,⟨_,rfl⟩,q⟩⟩)
 ·exact M0 (l:=some (_,_)) (u:=none) (st:=none) hs rfl (NM ⟨Kn (Txt.slice_le z _ _) hz,λt' k=>⟨.str _,H,I.tok _,⟨_,rfl⟩,q⟩⟩)
 ·exact M0 (l:=some (_,_)) (u:=some (_,_)) (st:=none) hs rfl (NM ⟨Kn (Txt.slice_le z _ _) hz,λt' k=>⟨.str _,H,I.tok _,⟨_,rfl⟩,q⟩⟩)
noncomputable def kK(z y:Str)(i:Int):Bool:=decide (fromIndex z.length i+y.length<=z.length) && Builtin.Str.subAt z y (fromIndex z.length i)
def zi:V->List V->Hp->VK->Prop:=λx vs H Q=>∃z y i,x=.str z/\vs=[.str y,.int i]/\Q (.bl (kK z y i)) H
theorem sA:xf X "str.startswith" zi:=by
 intro pins s σ H x xs v us Q I rx rs h;obtain⟨z,y,i,rfl,rfl,q⟩:=h;obtain⟨t,rfl⟩:=rx;obtain⟨_,_,rfl,r1,rs⟩:=Paired.fe rs;obtain⟨_,_,rfl,r2,rs⟩:=Paired.fe rs;obtain rfl:=Paired.vC rs;obtain⟨u1,rfl⟩:=r1;obtain⟨u2,rfl⟩:=r2;exact call_gives PySem.F.slot_str_startswith (P4 _ _ _) PySem.F.entry_str_startswith (PySem.F.args_str_startswith_3 _ _ _) (gives_str_startswith_from z y i t _ _) ⟨.bl _,H,I,rfl,q⟩
end Y
abbrev Xw:=T->Mu->Prop
abbrev UX:=Mu->(R->Mu->Prop)->Xw->Prop
abbrev JV:=Ed->Xw->Mu->Prop
noncomputable def FX(K:PJ)(mg:Str->Option Value)(x:Str)(f:Addr)(cdv:Value):Prop:=mg x=some (.ref f)/\∃(o:Obj) (fd:FuncData),K.lookup f=some o/\o.data=.func fd/\fd.code=cdv
abbrev UJ:=Mu->(Mu->Prop)->Prop
noncomputable def nI(n m:Nat)(e:Nat->Bool):Bool:=(List.range (min n m)).all e && n == m
inductive oN:Nat->T->T->Bool->Prop
 |flat {n:Nat} {t u:T} (f1:mP t=true) (f2:mP u=true):oN n t u (Y.DQ t u)
 |tup {n:Nat} {xs ys:List T} (e:Nat->Bool) (h:∀(j:Nat) (x y:T),xs[j]?=some x->ys[j]?=some y->oN n x y (e j)):oN (n+1) (.tup xs) (.tup ys) (nI xs.length ys.length e)
 |lst {n:Nat} {xs ys:List T} (e:Nat->Bool) (h:∀(j:Nat) (x y:T),xs[j]?=some x->ys[j]?=some y->oN n x y (e j)):oN (n+1) (.lst xs) (.lst ys) (nI xs.length ys.length e)
theorem yL{v:V}{B:lR}(h1:Rep K H B v t)(h2:Rep K H B v u)(f1:mP t=true)(f2:mP u=true):Y.DQ t u=true:=by
 cases h1<;>first | (cases f1;done) | (cases h2<;>first | (cases f2;done)|simp[Y.DQ])
theorem ji{n m:Nat}{e:Nat->Bool}(h:n=m)(h2:∀j,j<n->e j=true):nI n m e=true:=by
 subst h;unfold nI;rw[Mi,L3,N3,LR];intro j hj;exact h2 j (by simpa using hj)
theorem oN.same{n:Nat}{b:Bool}(d:oN n t u b):∀{K:PJ} {H:Hp} {B:lR} {v:V},Rep K H B v t->Rep K H B v u->b=true:=by
 induction d with
 |flat f1 f2=>exactλh1 h2=>yL h1 h2 f1 f2
 |tup e h ih =>
  rename_i nn xs ys;intro K H B v h1 h2
  cases h1 with
  |tup n1 a1 r1=>cases h2 with
   |tup n2 a2 r2 =>
    rw[a1] at a2;cases a2;refine ji (r1.length.symm.trans r2.length) λj hj=>?_;have hx:=Ka hj;have hj2:j<ys.length:=by rw[<- r2.length,r1.length];exact hj
    have hy:=Ka hj2;obtain⟨v1,g1,p1⟩:=r1.get hx;obtain⟨v2,g2,p2⟩:=r2.get hy;rw[g1] at g2;cases g2;exact ih j _ _ hx hy p1 p2
 |lst e h ih =>
  rename_i nn xs ys;intro K H B v h1 h2
  cases h1 with
  |lst n1 a1 r1=>cases h2 with
   |lst n2 a2 r2 =>
    rw[a1] at a2;cases a2;refine ji (r1.length.symm.trans r2.length) λj hj=>?_;have hx:=Ka hj;have hj2:j<ys.length:=by rw[<- r2.length,r1.length];exact hj
    have hy:=Ka hj2;obtain⟨v1,g1,p1⟩:=r1.get hx;obtain⟨v2,g2,p2⟩:=r2.get hy;rw[g1] at g2;cases g2;exact ih j _ _ hx hy p1 p2
section
variable {X:Cx} {pins:List (Addr×Obj)} {σ:St} {H:Hp} {s:Shared} {B:lR}
theorem fw{A:Around}{n:Nat}{xs:List T}{vs:List V}{e:Nat->Bool}(r1:dC X.K H B vs xs)(r2:dC X.K H B ws ys)(g1:Vals vs its)(g2:Vals ws its2)
  (ih:∀(j:Nat) (x y:T),xs[j]?=some x->ys[j]?=some y->∀(v w:V) (a b:Value),Rep X.K H B v x->Rep X.K H B w y->RelV v a->RelV w b->SeqAt.EqAt A s a b (e j)) :
  ∀j (h1:j<its.toArray.size) (h2:j<its2.toArray.size),SeqAt.EqAt A s its.toArray[j] its2.toArray[j] (e j):=by
 intro j h1 h2;have l1:=g1.length;have l2:=g2.length;have l3:=r1.length;have l4:=r2.length;rw[Kh] at h1 h2;have hx:=Ka (show j<xs.length by lia)
 have hy:=Ka (show j<ys.length by lia)
 obtain⟨v1,q1,p1⟩:=r1.get hx;obtain⟨v2,q2,p2⟩:=r2.get hy;obtain⟨u1,e1,f1⟩:=g1.get q1;obtain⟨u2,e2,f2⟩:=g2.get q2;have z1:its.toArray[j]=u1:=by
  rw[Ka h1] at e1;simpa using e1
 have z2:its2.toArray[j]=u2:=by
  rw[Ka h2] at e2;simpa using e2
 rw[z1,z2];exact ih j _ _ hx hy v1 v2 u1 u2 p1 p2 f1 f2
theorem fF{vs:List V}{xs:List T}(e:Nat->Bool)(r1:dC X.K H B vs xs)(r2:dC X.K H B ws ys)(g1:Vals vs its)(g2:Vals ws its2):((List.range (min its.toArray.size its2.toArray.size)).all e && its.toArray.size == its2.toArray.size)=nI xs.length ys.length e:=by
 have l1:=g1.length;have l2:=g2.length;have l3:=r1.length;have l4:=r2.length;unfold nI;rw[Kh,Kh,<- l1,<- l2,l3,l4]
theorem zZ{n:Nat}{b:Bool}(d:oN n t u b):∀(I:Inv X pins σ H s) {A:Around} (hu:A.units+n<cLine) (v w:V) (a c:Value),Rep X.K H B v t->Rep X.K H B w u->RelV v a->RelV w c->SeqAt.EqAt A s a c b:=by
 induction d with
 |flat f1 f2 =>
  intro I A hu v w a c h1 h2 r1 r2;obtain⟨z1,z2,z3⟩:=Y.G_ h1 h2 f1 f2;rw[<- z3];exact nk r1 r2 z1 z2
 |tup e h ih =>
  intro I A hu v w a c h1 h2 r1 r2;rename_i n xs ys;have h1':=h1;have h2':=h2
  cases h1 with
  |tup n1 a1 q1=>cases h2 with
   |tup n2 a2 q2 =>
    rename_i p1 vs p2 ws
    cases r1;cases r2
    by_cases z:p1=p2
    ·subst z;rw[(oN.tup (n:=n) e h).same h1' h2'];exact SeqAt.EqAt.same _
    ·obtain⟨its,g1,pl1,_⟩:=I.tuple (aY.of a1);obtain⟨its2,g2,pl2,_⟩:=I.tuple (aY.of a2);rw[<- fF (X:=X) e q1 q2 g1 g2];exact Ol z (SeqAt.RcAt.tuples pl1 pl2 (by lia) (fw (n:=n) q1 q2 g1 g2 λj x y hx hy v w a c=>ih j x y hx hy I (A:=A.in1) (by show A.units+1+n<cLine;lia) v w a c))
 |lst e h ih =>
  intro I A hu v w a c h1 h2 r1 r2;rename_i n xs ys;have h1':=h1;have h2':=h2
  cases h1 with
  |lst n1 a1 q1=>cases h2 with
   |lst n2 a2 q2 =>
    rename_i p1 vs p2 ws
    cases r1;cases r2
    by_cases z:p1=p2
    ·subst z;rw[(oN.lst (n:=n) e h).same h1' h2'];exact SeqAt.EqAt.same _
    ·obtain⟨its,g1,pl1,_⟩:=I.list (bB.of a1);obtain⟨its2,g2,pl2,_⟩:=I.list (bB.of a2);have sz:=fF (X:=X) e q1 q2 g1 g2;rw[<- sz];by_cases hs:its.toArray.size=its2.toArray.size
     ·rw[hs,Mi,L3,N3,<- hs];exact Ol z (SeqAt.RcAt.lists pl1.isList pl2.isList hs (by lia) (fw (n:=n) q1 q2 g1 g2 λj x y hx hy v w a c=>ih j x y hx hy I (A:=A.in1) (by show A.units+1+n<cLine;lia) v w a c))
     ·rw[KO.mpr hs,Pp];exact Ol z (SeqAt.RcAt.lists_lengths pl1.isList pl2.isList (O7.mpr hs) (by lia))
end
namespace Y
noncomputable def wz(K:PJ)(n:Nat)(neg:Bool):R2:=λx y H Q=>∃(B:lR) (a b:Addr) (vs ws:List V) (xs ys:List T) (e:Nat->Bool),x=.ref a/\y=.ref b/\((aY K H a vs/\aY K H b ws)\/(bB K H a vs/\bB K H b ws))/\dC K H B vs xs/\dC K H B ws ys /\
 (∀(j:Nat) (x y:T),xs[j]?=some x->ys[j]?=some y->oN n x y (e j))/\Q (.bl (if neg then !nI xs.length ys.length e else nI xs.length ys.length e)) H
theorem Bj{X:Cx}{n:Nat}(hu:X.A.units+n+1<cLine):dh X (compareOp .Eq) (wz X.K n false):=by
 intro pins s σ H x y v u Q I rx ry h;obtain⟨B,a,b,vs,ws,xs,ys,e,rfl,rfl,hq,r1,r2,ih,q⟩:=h
 cases rx;cases ry
 have it:∀(j:Nat) (x y:T),xs[j]?=some x->ys[j]?=some y->∀(v w:V) (a b:Value),Rep X.K H B v x->Rep X.K H B w y->RelV v a->RelV w b->SeqAt.EqAt X.A.in1 s a b (e j):=λj x y hx hy v w a c=>zZ (ih j x y hx hy) I (A:=X.A.in1) (by show X.A.units+1+n<cLine;lia) v w a c
 rcases hq with ⟨ha,hb⟩|⟨ha,hb⟩
 ·obtain⟨its,g1,p1,_⟩:=I.tuple ha;obtain⟨its2,g2,p2,_⟩:=I.tuple hb;refine SeqAt.eq_tupleAt p1 p2 (by lia) (fw (n:=n) r1 r2 g1 g2 it) ⟨.bl _,H,I,rfl,?_⟩
  rw[fF (X:=X) e r1 r2 g1 g2];exact q
 ·obtain⟨its,g1,p1,_⟩:=I.list ha;obtain⟨its2,g2,p2,_⟩:=I.list hb;have sz:=fF (X:=X) e r1 r2 g1 g2;by_cases hs:its.toArray.size=its2.toArray.size
  ·rw[hs,Mi,L3,N3,<- hs] at sz;refine SeqAt.eq_listAt p1.isList p2.isList hs (by lia) (fw (n:=n) r1 r2 g1 g2 it) ⟨.bl _,H,I,rfl,?_⟩
   rw[sz];exact q
  ·rw[KO.mpr hs,Pp] at sz;refine OR p1.isList p2.isList (O7.mpr hs) (by lia) ⟨.bl _,H,I,rfl,?_⟩
   rw[sz];exact q
theorem Dq{X:Cx}{n:Nat}(hu:X.A.units+n+1<cLine):dh X (compareOp .NotEq) (wz X.K n true):=by
 intro pins s σ H x y v u Q I rx ry h;obtain⟨B,a,b,vs,ws,xs,ys,e,rfl,rfl,hq,r1,r2,ih,q⟩:=h
 cases rx;cases ry
 have it:∀(j:Nat) (x y:T),xs[j]?=some x->ys[j]?=some y->∀(v w:V) (a b:Value),Rep X.K H B v x->Rep X.K H B w y->RelV v a->RelV w b->SeqAt.EqAt X.A.in1 s a b (e j):=λj x y hx hy v w a c=>zZ (ih j x y hx hy) I (A:=X.A.in1) (by show X.A.units+1+n<cLine;lia) v w a c
 rcases hq with ⟨ha,hb⟩|⟨ha,hb⟩
 ·obtain⟨its,g1,p1,_⟩:=I.tuple ha;obtain⟨its2,g2,p2,_⟩:=I.tuple hb;refine SeqAt.RcNeAt.tuples p1 p2 (by lia) (fw (n:=n) r1 r2 g1 g2 it) X.prog X.w X.xe _ ⟨.bl _,H,I,rfl,?_⟩
  rw[fF (X:=X) e r1 r2 g1 g2];exact q
 ·obtain⟨its,g1,p1,_⟩:=I.list ha;obtain⟨its2,g2,p2,_⟩:=I.list hb;have sz:=fF (X:=X) e r1 r2 g1 g2;by_cases hs:its.toArray.size=its2.toArray.size
  ·rw[hs,Mi,L3,N3,<- hs] at sz;refine SeqAt.RcNeAt.lists p1.isList p2.isList hs (by lia) (fw (n:=n) r1 r2 g1 g2 it) X.prog X.w X.xe _ ⟨.bl _,H,I,rfl,?_⟩
   rw[sz];exact q
  ·rw[KO.mpr hs,Pp] at sz;refine Ow p1.isList p2.isList (O7.mpr hs) (by lia) X.prog X.w X.xe _ ⟨.bl true,H,I,rfl,?_⟩
   have q2:=q;rw[<- sz] at q2;exact q2
end Y
theorem rZ{A:Around}(hr:bR k A):A.units+4+1<cLine:=Lm (Nat.add_le_add_left (by decide:4+1<=64) _) hr.units
namespace Y
def IU(K:PJ):R2:=λx y H Q=>HU K x y H Q\/wz K 4 false x y H Q
theorem xR(K:PJ)(hK:X.K=K)(hu:X.A.units+4+1<cLine):dh X (compareOp .Eq) (IU K):=by subst hK;exact (FQ X.K rfl (by lia)).or (Bj hu)
def Jn(K:PJ):R2:=λx y H Q=>Hf K x y H Q\/wz K 4 true x y H Q
theorem FU(K:PJ)(hK:X.K=K)(hu:X.A.units+4+1<cLine):dh X (compareOp .NotEq) (Jn K):=by subst hK;exact (Fp X.K rfl (by lia)).or (Dq hu)
end Y
theorem lC{k:Str}{t t':Tok}{prog:Program}{w:World}{A:Around}{E:Value->Shared->Prop}{Q:Option Fin×Unit->Shared->Prop}(hit:items[j]?=some (.str k t'))(hno:∀m,m<j->∃y ty,items[m]?=some (.str y ty)/\y≠k):∀(m i c:Nat) (s:Shared),i+m=j->m<c->Q (some (.done (.ret (.int (j:Nat) s.toks))),()) {s with toks:=s.toks+1} ->
  wpAny (model prog w) A (forIn (List.range' i c) ((none,()):Option Fin×Unit) λi __s=>match items[i]? with
      |some y=>do
       let __do_lift <- eqBool y (Value.str k t)
       if __do_lift=true then do
         let __do_lift <- retInt (i:Nat)
         pure (ForInStep.done (some __do_lift,()))
        else pure (ForInStep.yield (none,()))
      |x=>pure (ForInStep.yield (none,()))) Q E s:=by
 intro m
 induction m with
 |zero =>
  intro i c s e hc h
  cases c with
  |zero=>exact absurd hc (MG _)
  |succ c =>
   obtain rfl:i=j:=e;rw[LS,MC];simp only[hit];refine Kb (Kb (OC ?_));rw[KG rfl]
   wp_walk
   exact h
 |succ m ih =>
  intro i c s e hc h
  cases c with
  |zero=>exact absurd hc (MG _)
  |succ c =>
   obtain⟨y,ty,hy,ne⟩:=hno i (by lia)
   rw[LS,MC];simp only[hy];refine Kb (Kb (OC ?_));rw[KH ne];exact Ks (ih (i+1) c s (by lia) (by lia) h)
theorem wx{n:Nat}{dd:Option Addr}{sl:Array (Option Value)}{k:Str}{t t':Tok}(hit:items[j]?=some (.str k t'))(hno:∀m,m<j->∃y ty,items[m]?=some (.str y ty)/\y≠k):
  Meets (Builtin.«tuple.index» ⟨[.ref p,.str k t],[]⟩) (λA R s=>s.heap.get? p=some {cls:=.type "tuple",dict:=dd,data:=.seq items n,slots:=sl}/\R (.ok (.ret (.int (j:Nat) s.toks))) {s with toks:=s.toks+1}):=by
 intro prog w A R s h;obtain⟨hp,g,d,tk,os⟩:=s;obtain⟨ho,h⟩:=h;unfold Builtin.«tuple.index»;simp only[Std.Legacy.Range.forIn_eq_forIn_range'];wp_walk using NJ ho;have hj:j<items.size:=by
  rcases Lh j items.size with z|z
  ·exact z
  ·rw[Oy.mpr z] at hit;cases hit
 refine lC hit hno j 0 _ _ (Ms _) ?_ ?_
 ·simp[Std.Legacy.Range.size];exact hj
 ·exact Ks h
noncomputable def Jy(K:PJ):V->List V->Hp->VK->Prop:=λx vs H Q=>∃(a:Addr) (ws:List Str) (k:Str) (j:Nat),x=.ref a/\aY K H a (ws.map V.str)/\vs=[.str k]/\ws[j]?=some k/\(∀m,m<j->ws[m]?≠some k)/\Q (.int (j:Nat)) H
theorem i6:∀{ws:List Str} {its:List Value},Vals (ws.map V.str) its->∀(m:Nat) (y:Str),ws[m]?=some y->∃t,its[m]?=some (.str y t):=λr m y e=>by
 obtain⟨u,h1,h2⟩:=r.get (i:=m) (x:=V.str y) (by rw[Kp,e];rfl)
 obtain⟨t,rfl⟩:=(show RelV (.str y) u from h2);exact⟨t,h1⟩
theorem Gw:xf X "tuple.index" (Jy X.K):=by
 intro pins s σ H x xs v us Q I rx rs h;obtain⟨a,ws,k,j,rfl,hq,rfl,hj,hno,q⟩:=h;obtain rfl:v=Value.ref a:=rx;obtain⟨u,rfl,t,rfl⟩:=vals1 rs;obtain⟨its,r,pl,hz⟩:=I.tuple hq;obtain⟨⟨oc,od,oda,osl⟩,ho,hc,n,hd⟩:=id pl;obtain rfl:oc=.type "tuple":=hc;obtain rfl:oda=.seq its.toArray n:=hd;obtain⟨t',hit⟩:=i6 r j k hj;refine Me PySem.F.slot_tuple_index ⟨_,ho,rfl⟩ PySem.F.entry_tuple_index (PySem.F.args_tuple_index_2 _ _) (wx (j:=j) (t':=t') (by rw[Lv];exact hit) λm hm=>?_) ⟨ho,⟨.int (j:Nat),H,I.tok _,⟨_,rfl⟩,q⟩⟩
 have hl:m<ws.length:=MT hm (Kf.mp hj).1;have e:=Ka hl;obtain⟨ty,hy⟩:=i6 r m _ e;exact⟨_,ty,by rw[Lv];exact hy,λz=>hno m hm (by rw[e,z])⟩
open Builtin Builtin.Str
open PySem PySem.Spec PyProof PyProof.Rows
noncomputable def De(K:PJ)(a:Addr):It:=
 ⟨λi H=>∃x,getL K a i H x,λi H x H'=>∃p y,(∀xs,bB K H a xs->xs[i]?=some y)/\H p=none/\x=.ref p/\H'=upd H p (.tup [.int i,y]),Jl K a⟩
theorem rV{P:Program}{w:World}{K:PJ}{es:List Expr}{tk:Nat}{tp:Pos}(a it e:Addr)(hne:e≠it):Turn P w K (.Tuple es tk tp) (De K a) [e,it] e (λi h=>(∃old,IsEnum h e it i old)/\h.IsListIter it a i) where
 mem:=by simp
 obj:=λi h st b hb=>by
  obtain⟨⟨old,he⟩,o,eo,c,d⟩:=st;rcases Kl.mp hb with z|z
  ·subst z;exact⟨_,he,λv z=>by cases z⟩
  ·have z:b=it:=by simpa using z
   subst z;exact⟨o,eo,λv z=>by rw[d] at z;cases z⟩
 keep:=λi h h' st k=>by
  obtain⟨⟨old,he⟩,o,eo,r⟩:=st;exact⟨⟨old,k e (by simp) _ he⟩,o,k it (by simp) o eo,r⟩
 item:=by
  intro X hP hw hK hc i pins s σ H E I hf st hg;subst hP hw hK;obtain⟨x,xs,hq,hx⟩:=hg;obtain⟨⟨old,he⟩,hit⟩:=st;obtain⟨its,rv,p,hz⟩:=I.list hq;obtain⟨u,hu,ru⟩:=rv.get hx;obtain⟨g0,g1,g2,g3,g4,g5⟩:=hf e (by simp)
  obtain⟨f0,f1,f2,f3,f4,f5⟩:=hf it (by simp)
  have ht:s.heap.IsList a its.toArray:=p.isList;have ha:a≠it:=by
   rintro rfl;obtain⟨o,e1,c1,_⟩:=hit;obtain⟨o',e2,c2,_⟩:=ht;rw[e1] at e2;cases e2;rw[c1] at c2;exact absurd (Value.type.inj c2) (by decide)
  have hea:e≠a:=by
   rintro rfl;obtain⟨o',e2,c2,_⟩:=ht;have e1:s.heap.get? e=some _:=he;rw[e1] at e2;cases e2;exact absurd (Value.type.inj c2) (by decide)
  have hi:i<its.toArray.size:=by
   have:=(Kf.mp hu).1
   simpa using this
  refine OQ (Draws.list (A:=X.A.in1) (I.ok.hd hc) it a ha its.toArray) he ⟨hit,ht⟩ hi hne (by simp[hne,hea]) λx' h' tk' hP ho hs' hT hsz hk=>?_
  have ex:x'=u:=by
   have hP':its.toArray[i]?=some x':=hP;rw[Lv,hu] at hP';exact (Option.some.inj hP').symm
  subst ex;refine⟨.ref s.heap.objs.size,rfl,Ov ho λh2 he2 hs2=>?_⟩;have fr:H s.heap.objs.size=none:=I.ba.fresh (Kk _);have hle:e≠s.heap.objs.size:=KA (K0 he);have hT2:h2.get? s.heap.objs.size=some {cls:=.type "tuple",data:=.seq #[.int i tk',x']}:=(hs2.2 _ (L0 hle)).trans hT;have I2:Inv X pins σ (upd H s.heap.objs.size (.tup [.int i,x])) {s with heap:=h2,toks:=tk'+1}:=by
   refine I.nN (fp:=[e,it]) hf (Kk _) (λb o hb eb=>?_) ⟨by show 2<=sizeLine;decide,[.int i tk',x'],.cons ⟨_,rfl⟩ (.cons ru .nil),⟨_,hT2,rfl,_,rfl,rfl⟩⟩
   have n1:b≠e:=λz=>hb (by simp[z])
   have n2:b≠it:=λz=>hb (by simp[z])
   exact (hs2.2 b n1).trans (hk b o n1 n2 eb)
  refine⟨.ref s.heap.objs.size,_,I2,rfl,⟨s.heap.objs.size,x,λys hy=>by rw[I.lb hy hq];exact hx,fr,rfl,rfl⟩,⟨⟨x',?_⟩,?_⟩,λb hb=>?_⟩
  ·have e:(((i+1:Nat)):Int)=(i:Int)+1:=by lia
   rw[e];exact he2
  ·obtain⟨o,e1,r⟩:=hs'.1;exact⟨o,(hs2.2 it (L0 hne)).trans e1,r⟩
  ·have n:b≠s.heap.objs.size:=by
    rcases Kl.mp hb with z|z
    ·subst z;exact hle
    ·have z:b=it:=by simpa using z
     subst z;obtain⟨o,e1,_⟩:=hit;exact KA (K0 e1)
   rw[ae n];exact (hf b hb).1
 done:=by
  intro X hP hw hK hc i pins s σ H E I hf st hg;subst hP hw hK;obtain⟨xs,hq,hx⟩:=hg;obtain⟨⟨old,he⟩,hit⟩:=st;obtain⟨its,rv,p,hz⟩:=I.list hq;have ht:s.heap.IsList a its.toArray:=p.isList;have ha:a≠it:=by
   rintro rfl;obtain⟨o,e1,c1,_⟩:=hit;obtain⟨o',e2,c2,_⟩:=ht;rw[e1] at e2;cases e2;rw[c1] at c2;exact absurd (Value.type.inj c2) (by decide)
  have hl:=rv.length;have hsz:its.toArray.size=i:=by simp;lia
  refine O_ (Draws.list (A:=X.A.in1) (I.ok.hd hc) it a ha its.toArray) he (by rw[hsz];exact⟨hit,ht⟩) λh' eb=>⟨rfl,?_⟩
  exact I.turns (t':=s.toks) hf λb o hb e1=>eb b o (λz=>hb (by simp[z])) e1
 self:=λA i s Q E st h=>by
  obtain⟨⟨old,he⟩,_⟩:=st;exact Nv he h
section
variable {X:Cx} {es:List Expr} {tk:Nat} {tp:Pos}
def lu(K:PJ)(ta:TA):TI:=λσ H R=>ta σ H λvs H1=>∃a,vs=[.ref a]/\(∃xs,bB K H1 a xs)/\R (De K a) H1
theorem zj{e:Expr}{ta:TA}{p pos:Pos}(hg:Gl X "enumerate")(hm:X.mg "enumerate"=none)(ha:PA X [e] ta)(h1:autoParam (eX e=true) ℜ0)(hv:autoParam (bootBuiltins "enumerate"=some (.type "enumerate")) ℜ6):
  PI X (.Tuple es tk tp) (.Call (.Name "enumerate" p) [e] [] pos) (lu X.K ta):=by
 intro pins s σ H R I h;refine Call_ (fR I hg hm hv (Lj (bZ (ha pos pins s σ H _ I h) λus s1 hq1=>?_) (cH h1) rfl));obtain⟨vs,H1,I1,r1,q1⟩:=hq1;obtain⟨a,e,⟨xs,hq⟩,q⟩:=q1;subst e;obtain⟨u,rfl,ru⟩:=vals1 r1;cases ru;obtain⟨its,rv,pt,hz⟩:=I1.list hq;refine call_enumerate_list pt.isList λh' he hit hsz hk=>?_;refine Nv he ?_;have I2:Inv X pins σ H1 {s1 with heap:=h'}:=I1.kept (t':=s1.toks) hk
 refine⟨s1.heap.objs.size+1,[s1.heap.objs.size+1,s1.heap.objs.size],_,_,H1,rfl,I2,rV a s1.heap.objs.size (s1.heap.objs.size+1) (LN (MW _)),⟨⟨_,he⟩,hit⟩,λb hb=>?_,q⟩;have hb':s1.heap.objs.size<=b:=by
  rcases Kl.mp hb with z|z
  ·rw[z];exact Ln _
  ·have z:b=s1.heap.objs.size:=by simpa using z
   rw[z];exact Kk _
 exact I1.qj hb' (I1.ba.fresh hb')
end
def zM(K:PJ)(ws:List Str)(v:Value):Prop:=∃p,v=.ref p/\HL K p (ws.map V.str)
structure lH (K:PJ) (a:Addr) (D:List (Str×List Str)):Prop where
 low:(a == sysModules)=false
 ex:∃o es ep,K.lookup a=some o/\o.ExactDict/\o.data=.dict es ep/\KTD.Rows (zM K) es.toList D
section
variable {prog:Program} {w:World} {A:Around} {E:Value->Shared->Prop} {s:Shared} {K:PJ} {a:Addr} {D:List (Str×List Str)} {k:Str} {tk:Tok}
theorem lH.typeIs(T:lH K a D)(X:K.In s.heap):s.TypeIs (.ref a) "dict":=let ⟨o,_,_,ho,hc,_⟩:=T.ex;⟨o,X _ _ ho,hc.1⟩
theorem AN{Q:Option Value->Shared->Prop}(T:lH K a D)(X:K.In s.heap)(h1:∀d v,KTD.datumAt k D=some d->zM K d v->Q (some v) {s with toks:=s.toks+1})(h2:KTD.datumAt k D=none->Q none {s with toks:=s.toks+1}):
  wpAny (model prog w) A (dictGet a (.str k tk)) Q E s:=by
 obtain⟨o,es,ep,ho,hc,hd,hr⟩:=T.ex;have ho:=X _ _ ho;unfold dictGet
 try with_reducible refine L7 ?_
 refine Kb (wpAny_pyHash_str (Kb (KTD.kt_dictFind_strs (s:={s with toks:=s.toks+1}) ho hd (by obtain⟨l⟩:=es;simpa using hr.exact) ?_)))
 have hq:Q (findBy (λk v=>v.isStr k) es k) {s with toks:=s.toks+1}:=by
  have hf:findBy (λk v=>v.isStr k) es k=(es.toList.find? λe=>e.key.isStr k).map (·.val):=by
   obtain⟨l⟩:=es;simp[findBy]
  rw[hf]
  cases hat:KTD.datumAt k D with
  |some d=>obtain⟨v,hv,hfl⟩:=hr.find_some hat;rw[hv];exact h1 d v hat hfl
  |none=>rw[hr.find_none hat];exact h2 hat
 rw[findBy_of_findIdx?] at hq
 cases hi:es.findIdx? λe=>e.key.isStr k with
 |none=>rw[hi] at hq;exact Ks hq
 |some i=>rw[hi] at hq;exact Kb (Nx (s:={s with toks:=s.toks+1}) ho hd (Ks hq))
end
namespace Y
theorem ml:∀(more kvs:List (Key×V)),((kvs++more).map (·.1)).Nodup->gK kvs more=kvs++more
 |[],kvs,_=>by rw[Lb];rfl
 |p::r,kvs,h=>by
  have hn:ik kvs p.1=none:=by
   cases hv:ik kvs p.1 with
   |none=>rfl
   |some v =>
    have hm:=Dc hv;rw[Kv,K9] at h;have:=List.nodup_append.mp h;exact absurd rfl (this.2.2 _ hm _ Km)
  show gK (putK kvs p.1 p.2) r=_;rw[xF p.2 hn,ml r _ (by rw[K2];exact h),K2]
  rfl
end Y
noncomputable def je{α:Type}(xs:List α)(i:Nat)(y:α):List α:=xs.take i++y::xs.drop i
noncomputable def BN:V->List V->Hp->VK->Prop:=λx vs H Q=>∃l xs i y,x=.ref l/\vs=[.int i,y]/\H l=some (.lst xs)/\0<=i/\i<2^63/\xs.length<sizeLine/\Q .aX (upd H l (.lst (je xs (min i.toNat xs.length) y)))
theorem mR{X:Cx}:G7 X "list.insert" BN:=by
 intro pins s σ H x vs v us Q I rx rv h;obtain⟨l,xs,i,y,rfl,rfl,hH,h0,h1,hz,q⟩:=h;cases rx;obtain⟨u,w',rfl,⟨t,rfl⟩,rw'⟩:=vals2 rv;obtain⟨z,its,n,r,hl,e⟩:=I.mf hH;have hfit:¬ (!Builtin.List.listFitsIndex i)=true:=by
  have:=Pm (k:=i) (by lia) h1
  rw[this];exact Kx
 refine Me F.slot_list_insert ⟨_,e,rfl⟩ F.entry_list_insert (F.args_list_insert_3 _ _ _) (AutoSeq1.list_insert_list_int_val_1 l its.toArray n i t w' hfit (by rw[Kh];lia)) ⟨e,?_⟩
 have el:its.length=xs.length:=hl.symm;refine⟨.aX,_,I.CA (its':=je its (min i.toNat its.length) w') hH e ?_ ?_ ?_,rfl,q⟩
 ·show (have k:=if i<0 then _ else min i.toNat its.toArray.size;(its.toArray.extract 0 k).push w'++its.toArray.extract k)=_
  rw[Ki (by lia)]
  apply OL.mp;unfold je;simp[O8,La]
 ·rw[el];unfold je;exact (r.take _).append (.cons rw' (r.drop _))
 ·unfold je;rw[Ke,Kq,K8,KP];lia
open Builtin Builtin.Str
open PySem PySem.Spec PyProof PyProof.Rows
open Builtin Builtin.Str
section
variable {prog:Program} {w:World} {A:Around} {E:Value->Shared->Prop} {h:Heap} {g:Array GenState} {d:Drawn} {t:Nat} {os:OsState} {a:Addr} {items:Array Value} {cn:Nat}
theorem Ci:typeLookup (.type "list") "keys"=pure none:=am_miss_of_fast (by kernel_rfl)
theorem rp:typeLookup (.type "list") "__getattr__"=pure none:=by rw[typeLookup_type,builtinLookup_eq_fast];kernel_rfl
theorem Ad{name:Str}{tk:Tok}{Q:Fin->Shared->Prop}(hx:h.get? a=some {cls:=.type "list",dict:=none,data:=.seq items cn,slots:=#[]})(hmiss:typeLookup (.type "list") name=pure none)(hnc:(["__module__","__name__","__qualname__","__doc__","__annotations__"]:List Str).contains name=false)(hh:A.handled=none)
  (hq:∀h' tk' e,Heap.NewAttrErr h h' e (.ref a) name->E (.ref e) ⟨h',g,d,tk',os⟩) (hsz:name.length+100<=sizeLine:=by size_fits) :
  wpAny (model prog w) A (Builtin.«object.__getattribute__» ⟨[.ref a,.str name tk],[]⟩) Q E ⟨h,g,d,t,os⟩:=by
 have hT:(⟨h,g,d,t,os⟩:Shared).TypeIs (.ref a) "list":=⟨_,hx,rfl⟩;unfold Builtin.«object.__getattribute__»
 repeat (any_goals (first|assumption|wp_step))
 rw[Ki (by rw[hnc];decide)]
 repeat (any_goals (first|assumption|wp_step))
 exact wpAny_raiseAttrError hh hq (attrMsg_fits (by decide +kernel) hsz)
theorem BR{name:Str}{tk:Tok}{R:Result->Shared->Prop}(hx:h.get? a=some {cls:=.type "list",dict:=none,data:=.seq items cn,slots:=#[]})(hmiss:typeLookup (.type "list") name=pure none)(hnc:(["__module__","__name__","__qualname__","__doc__","__annotations__"]:List Str).contains name=false)(hh:A.handled=none)
  (hq:∀h' tk' e,Heap.NewAttrErr h h' e (.ref a) name->R (.error (.ref e)) ⟨h',g,d,tk',os⟩) (hsz:name.length+100<=sizeLine:=by size_fits) :
  codeAny (model prog w) A (.call (.builtin "list.__getattribute__") ⟨[.ref a,.str name tk],[]⟩) R ⟨h,g,d,t,os⟩:=
 codeAny_call_builtin Mt.plain F.entry_list_ga (Mt.check _ _ _ _ _ _ _ _ (show (⟨h,g,d,t,os⟩:Shared).TypeIs (.ref a) "list" from⟨_,hx,rfl⟩) (F.args_list_getattribute_2 _ _) (Ad hx hmiss hnc hh hq hsz))
theorem Hz{name:Str}{tk:Tok}{Q:Value->Shared->Prop}(hx:h.get? a=some {cls:=.type "list",dict:=none,data:=.seq items cn,slots:=#[]})(hmiss:typeLookup (.type "list") name=pure none)(hnc:(["__module__","__name__","__qualname__","__doc__","__annotations__"]:List Str).contains name=false)(hh:A.handled=none)
  (hq:∀h' tk' e,Heap.NewAttrErr h h' e (.ref a) name->E (.ref e) ⟨h',g,d,tk',os⟩) (hsz:name.length+100<=sizeLine:=by size_fits) :
  wpAny (model prog w) A (getAttrBy (.ref a) (.str name tk) false) Q E ⟨h,g,d,t,os⟩:=by
 have hT:(⟨h,g,d,t,os⟩:Shared).TypeIs (.ref a) "list":=⟨_,hx,rfl⟩;have f1:=sub_AttributeError;have f2:=Mt.lookup;have f3:=Mt.bind (.ref a);have f5:=rp
 repeat (any_goals (first|assumption|wp_step))
 refine BR hx hmiss hnc hh (λh' tk' e x=>?_) hsz;obtain⟨t',u',he⟩:=x.there;show wpAny _ _ (getattributeRaised _ _ _ _ _ _ _) _ _ _;unfold getattributeRaised
 repeat (any_goals (first|assumption|wp_step))
 exact hq _ _ _ x
theorem CW{name:Str}{Q:Option Value->Shared->Prop}(hx:h.get? a=some {cls:=.type "list",dict:=none,data:=.seq items cn,slots:=#[]})(hmiss:typeLookup (.type "list") name=pure none)(hnc:(["__module__","__name__","__qualname__","__doc__","__annotations__"]:List Str).contains name=false)(hh:A.handled=none)
  (hq:∀h' tk',(∀b o,h.get? b=some o->h'.get? b=some o)->Q none ⟨h',g,d,tk',os⟩) (hsz:name.length+100<=sizeLine:=by size_fits) :
  wpAny (model prog w) A (getAttr? (.ref a) name) Q E ⟨h,g,d,t,os⟩:=by
 have f1:=sub_AttributeError;unfold getAttr? getAttrBy?;refine Kb (wpAny_mkText (Kb (N4 (Hz hx hmiss hnc hh (λh' tk' e x=>?_) hsz))));obtain⟨t',u',he⟩:=x.there;have k:=x.keeps
 repeat (any_goals (first|assumption|wp_step))
 exact hq _ _ x.keeps
end
section
variable {prog:Program} {w:World} {K:Type} [DecidableEq K] {knd:KeyKind prog w K} {A:Around} {R:Result->Shared->Prop}
theorem i5:plainId "dict.update.loop"=true:=by decide +kernel
theorem h_:entryFor table "dict.update.loop"=some Builtin.«dict.update.loop»:=entryFor_of_fast (by kernel_rfl)
theorem rY(kvs:List (K×Value))(k:K)(v:Value):(stored kvs k v).length<=kvs.length+1:=by
 unfold stored;split
 ·rw[Kc];lia
 ·rw[Ke];simp
theorem kA:∀(more kvs:List (K×Value)),(merged kvs more).length<=kvs.length+more.length
 |[],kvs=>by unfold merged;simp
 |p::more,kvs=>by
  have h1:=kA more (stored kvs p.1 p.2);have h2:=rY kvs p.1 p.2;have e:merged kvs (p::more)=merged (stored kvs p.1 p.2) more:=rfl;rw[e,Kq];lia
theorem Bd{it l dd:Addr}{items:Array Value}{more:List (K×Value)}(hh:A.handled=none)(hn:more.length=items.size)(h1:dd≠it)(h2:dd≠l)(h3:it≠l)(ps:Nat->Addr)(hps:∀i,i<items.size->items[i]?=some (.ref (ps i))/\ps i≠it/\ps i≠dd)(hsz:more.length<=20000):
  ∀(k i:Nat) (s:Shared),items.size-i=k->i<=items.size->s.heap.IsListIter it l i->s.heap.IsList l items->s.heap.DictOf knd dd (merged [] (more.take i)) ->
  (∀j,j<items.size->∃key v,s.heap.IsTuple (ps j) #[key,v]/\∃kk,more[j]?=some (kk,v)/\knd.is kk key=true) ->
  (∀h' tk,h'.DictOf knd dd (merged [] more)->(∀b o,b≠it->b≠dd->s.heap.get? b=some o->h'.get? b=some o)->R (.ok (.ret .none)) {s with heap:=h',toks:=tk}) ->
  codeAny (model prog w) A (.builtin "dict.update.loop" ⟨[.ref dd,.ref it,rawInt i,.none],[]⟩) R s:=by
 intro k
 induction k with
 |zero =>
  intro i s hk hi hit hl hd hp hR;have hin:i=items.size:=by lia
  subst hin;refine ME h_ ?_;rw[MY i5 _];show wpAny _ A.in1 (pyNext (.ref it) >>= _) _ _ s;refine Kb (wpAny_pyNext_list_end hh hit hl (by simp) λh' he=>?_)
  refine Kb (Ks (Ks ?_));refine hR h' s.toks ?_ λb o b1 b2 e=>he b o b1 e;rw[La (by lia)] at hd
  exact hd.extBut he h1
 |succ k ih =>
  intro i s hk hi hit hl hd hp hR;have hlt:i<items.size:=by lia
  refine ME h_ ?_;rw[MY i5 _];show wpAny _ A.in1 (pyNext (.ref it) >>= _) _ _ s;obtain⟨e1,e2,e3⟩:=hps i hlt;refine Kb (OW hit hl e1 λh' hit' hs'=>?_);obtain⟨key,v,ht,kk,em,hkk⟩:=hp i hlt;have ht':h'.IsTuple (ps i) #[key,v]:=by obtain⟨o,ho,r⟩:=ht;exact⟨o,(hs'.2 _ e2).trans ho,r⟩
  have hd':h'.DictOf knd dd (merged [] (more.take i)):=by obtain⟨o,es,ep,ho,r⟩:=hd;exact⟨o,es,ep,(hs'.2 _ h1).trans ho,r⟩
  refine Kb (L7 (Kb (wpAny_tryCatch ?_)));unfold Dict.pairItems;refine Kb (NK ht'.typeIs ?_);rw[Kj (by decide)]
  obtain⟨o,ho,hoc,nn,hod⟩:=id ht';refine Kb (MU ho hod (Ks ?_));show wpAny _ A.in1 (holding [key,v] (dictSet dd key v)) _ _ _;refine L7 (wpAny_dictSet_pairs hkk hd' (λh2' hd2 hs2=>?_) ?_)
  rotate_left
  ·exact Kn (kA _ _) (Kn (by rw[LH,Ms,K8];exact Kn (Nat.min_le_right _ _) hsz) (by decide))
  have et:merged [] (more.take (i+1))=stored (merged [] (more.take i)) kk v:=by
   have hlt':i<more.length:=by lia
   have:more[i]=(kk,v):=by rw[Ka hlt'] at em;exact Option.some.inj em
   rw[N7 hlt',this];unfold merged;rw[List.foldl_append];rfl
  refine Ks ⟨P8 i5 _,?_⟩;have:=ih (i+1) {s with heap:=h2',toks:=s.toks+1} (by lia) hlt (by obtain⟨o,ho,r⟩:=hit';exact⟨o,(hs2.2 _ (L0 h1)).trans ho,r⟩) (by obtain⟨o,ho,r⟩:=hl;exact⟨o,(hs2.2 _ (L0 h2)).trans ((hs'.2 _ (L0 h3)).trans ho),r⟩) (by rw[et];exact hd2) (λj hj=>by
   obtain⟨key,v,⟨o,ho,r⟩,rr⟩:=hp j hj;obtain⟨f1,f2,f3⟩:=hps j hj;exact⟨key,v,⟨o,(hs2.2 _ f3).trans ((hs'.2 _ f2).trans ho),r⟩,rr⟩) (λh3' tk hd3 hk3=>hR h3' tk hd3 λb o b1 b2 e=>hk3 b o b1 b2 ((hs2.2 _ b2).trans ((hs'.2 _ b1).trans e)))
  exact this
theorem rh{E:Value->Shared->Prop}{s:Shared}{l:Addr}{items:Array Value}{cn:Nat}{more:List (K×Value)}{Q:Value->Shared->Prop}(hl:s.heap.get? l=some {cls:=.type "list",dict:=none,data:=.seq items cn,slots:=#[]})(hh:A.handled=none)(hn:more.length=items.size)(hsz:more.length<=20000)
  (ps:Nat->Addr) (hps:∀i,i<items.size->items[i]?=some (.ref (ps i))) (hp:∀j,j<items.size->∃key v,s.heap.IsTuple (ps j) #[key,v]/\∃kk,more[j]?=some (kk,v)/\knd.is kk key=true)
  (h:∀h' tk,h'.DictOf knd s.heap.objs.size (merged [] more)->(∀b o,s.heap.get? b=some o->h'.get? b=some o)->Q (.ref s.heap.objs.size) {s with heap:=h',toks:=tk}) :
  wpAny (model prog w) A (call (.type "dict") [.ref l]) Q E s:=by
 refine callType_codes (Q₁:=λobj s₁=>obj=.ref s.heap.objs.size/\s₁={s with heap:=s.heap.push {cls:=.type "dict",data:=.dict #[]}}) F.kt_called_dict (F.kt_typeCall_dict_1 _) F.entry_dict_init (kt_code_dict_new _ ⟨rfl,rfl⟩) ?_
 rintro obj s₁ ⟨rfl,rfl⟩;have hnew:(s.heap.push {cls:=.type "dict",data:=.dict #[]}).DictOf knd s.heap.objs.size []:=Heap.DictOf.new s.heap;refine⟨hnew.typeIs,F.args_dict_init_2 _ _,?_⟩;unfold Builtin.«dict.__init__»;refine Kb ?_;unfold Builtin.Dict.selfAndRest;refine Kb (wpAny_notOrdered_dict hnew.typeIs ?_);show wpAny _ _ (pure (s.heap.objs.size,[Value.ref l])) _ _ _;refine Ks ?_;show wpAny _ _ (Builtin.Dict.updateFrom "dict.__init__" s.heap.objs.size (.ref l) [] .none) _ _ _;unfold Builtin.Dict.updateFrom;have hl1:(s.heap.push {cls:=.type "dict",data:=.dict #[]}).get? l=some {cls:=.type "list",dict:=none,data:=.seq items cn,slots:=#[]}:=Kg _ hl;have hT:({s with heap:=s.heap.push {cls:=.type "dict",data:=.dict #[]}}:Shared).TypeIs (.ref l) "list":=⟨_,hl1,rfl⟩
 refine Kb (NK hT ?_);rw[Kj (by decide)]
 refine Kb ?_;refine CW hl1 Ci (by decide +kernel) hh (λh1 tk1 k1=>?_)
 rw[Kj (show (none:Option Value).isNone=true from rfl)];have hl2:h1.IsList l items:=⟨_,k1 _ _ hl1,rfl,cn,rfl⟩;have up:∀b o,s.heap.get? b=some o->h1.get? b=some o:=λb o e=>k1 b o (Kg _ e);obtain⟨od,es,ep,hod,hor⟩:=hnew;have hdl:s.heap.objs.size<h1.objs.size:=K0 (k1 _ _ hod);have hll:l<s.heap.objs.size:=K0 hl;have hpl:∀j,j<items.size->ps j<s.heap.objs.size:=λj hj=>by obtain⟨key,v,⟨o,ho,_⟩,_⟩:=hp j hj;exact K0 ho
 refine Kb (O6 (Kb (Nw hl2 (Ks ⟨P8 i5 _,?_⟩))));refine Bd (knd:=knd) (it:=h1.objs.size) (l:=l) (items:=items) (more:=more) (A:=A.in1) hh hn (KA hdl) (LN hll) (LN (MT hll hdl)) ps (λi hi=>⟨hps i hi,KA (MT (hpl i hi) hdl),KA (hpl i hi)⟩) hsz _ 0 _ rfl (Kz _) ⟨_,Ky _ rfl,rfl,rfl⟩ ?_ ⟨od,es,ep,Kg _ (k1 _ _ hod),hor⟩ (λj hj=>?_) (λh' tk hd hk=>⟨rfl,h h' tk hd λb o e=>hk b o ?_ ?_ (Kg _ (up b o e))⟩)
 ·obtain⟨o,ho,r⟩:=hl2;exact⟨o,Kg _ ho,r⟩
 ·obtain⟨key,v,⟨o,ho,r⟩,rr⟩:=hp j hj;exact⟨key,v,⟨o,Kg _ (up _ _ ho),r⟩,rr⟩
 ·exact KA (MT (K0 e) hdl)
 ·exact KA (K0 e)
end
theorem m4{α β:Type}{F:α->β->Prop}:∀{l₁:List α} {l₂:List β},l₁.length=l₂.length->(∀(j:Nat) a b,l₁[j]?=some a->l₂[j]?=some b->F a b)->Paired F l₁ l₂
 |[],[],_,_=>.nil
 |[],_::_,h,_=>by cases h
 |_::_,[],h,_=>by cases h
 |a::l₁,b::l₂,h,f=>.cons (f 0 a b rfl rfl) (m4 (Nat.succ.inj h) λj x y hx hy=>f (j+1) x y (by simpa using hx) (by simpa using hy))
noncomputable def Bl(K:PJ)(H:Hp)(vs:List V)(kvs:List (Key×V)):Prop:=vs.length=kvs.length/\∀(j:Nat) (k:Key) (x:V),kvs[j]?=some (k,x)->∃p,vs[j]?=some (.ref p)/\H p=some (.tup [kV k,x])
noncomputable def Gv(K:PJ):List V->Hp->VK->Prop:=λxs H Q=>∃l vs kvs,xs=[.ref l]/\H l=some (.lst vs)/\Bl K H vs kvs/\kvs.length<=20000/\∀p,H p=none->Q (.ref p) (upd H p (.dK (gK [] kvs)))
theorem p8{X:Cx}(K:PJ)(hc:X.calm=true):bE X (.type "dict") (Gv K):=by
 intro pins s σ H xs us Q I r h;obtain⟨l,vs,kvs,rfl,hl,hp,hk,q⟩:=h;obtain⟨u,rfl,e0⟩:=vals1 r;have e1:u=.ref l:=e0;subst e1;obtain⟨hlen,its,n,hv,hget⟩:=(show bQ X.prog X.w H s.heap l (.lst vs) from I.ba l _ hl);have hsz:its.toArray.size=kvs.length:=by rw[<- hp.1,Kh,<- Paired.length hv]
 have key:∀j,j<kvs.length->∃p k x,kvs[j]?=some (k,x)/\its[j]?=some (.ref p)/\∃ku xu,s.heap.IsTuple p #[ku,xu]/\i9 k ku=true/\RelV x xu:=λj hj=>by
  obtain⟨p,e1,e2⟩:=hp.2 j kvs[j].1 kvs[j].2 (Ka hj);obtain⟨u,e3,e4⟩:=Vals.get hv e1;have e5:u=.ref p:=e4;subst e5;obtain⟨_,ts,tv,hT⟩:=(show bQ X.prog X.w H s.heap p (.tup [kV kvs[j].1,kvs[j].2]) from I.ba p _ e2);obtain⟨ku,xu,rfl,r1,r2⟩:=vals2 tv;exact⟨p,_,_,Ka hj,e3,ku,xu,hT.to,tH (P:=X.prog) (w:=X.w) r1,r2⟩
 obtain⟨f,hf⟩:=Classical.axiomOfChoice (r:=λ(j:Nat) (y:Addr×Value×Value)=>∀hj:j<kvs.length,s.heap.IsTuple y.1 #[y.2.1,y.2.2]/\i9 kvs[j].1 y.2.1=true/\RelV kvs[j].2 y.2.2/\its[j]?=some (.ref y.1)) (λj=>by
  by_cases hj:j<kvs.length
  ·obtain⟨p,k,x,e1,e2,ku,xu,hT,h1,h2⟩:=key j hj;rw[Ka hj] at e1;have e1':kvs[j]=(k,x):=Option.some.inj e1;exact⟨(p,ku,xu),λ_=>⟨hT,by rw[e1'];exact h1,by rw[e1'];exact h2,e2⟩⟩
  ·exact⟨(0,.none,.none),λh=>absurd h hj⟩)
 let mv:List (Key×Value):=(List.range kvs.length).map λj=>((kvs[j]?.getD (.inl 0,.aX)).1,(f j).2.2)
 have hmv:mv.length=kvs.length:=by simp[mv]
 have hmj:∀j (hj:j<kvs.length),mv[j]?=some (kvs[j].1,(f j).2.2):=λj hj=>by
  simp only[mv,Kp,List.getElem?_range hj,Option.map_some,Ka hj,Option.getD_some]
 have at':∀j (hj:j<kvs.length),∃ku xu,s.heap.IsTuple (f j).1 #[ku,xu]/\i9 kvs[j].1 ku=true/\RelV kvs[j].2 xu/\its[j]?=some (.ref (f j).1)/\mv[j]?=some (kvs[j].1,xu):=λj hj=>by
  obtain⟨h1,h2,h3,h4⟩:=hf j hj;exact⟨_,_,h1,h2,h3,h4,hmj j hj⟩
 have hKV:KV kvs mv:=by
  refine m4 (by rw[hmv]) λj a b ha hb=>?_
  have hj:j<kvs.length:=by
   rcases Lh j kvs.length with c|c
   ·exact c
   ·rw[LU.mpr c] at ha;cases ha
  obtain⟨ku,xu,_,_,h2,_,h3⟩:=at' j hj;rw[Ka hj] at ha;cases ha;rw[h3] at hb;cases hb;exact⟨rfl,h2⟩
 refine rh (knd:=cz X.prog X.w) hget (I.ok.hd hc) (by rw[hmv,hsz]) (by rw[hmv];exact hk) (λj=>(f j).1) (λi hi=>?_) (λj hj=>?_) (λh' tk hd hkp=>?_)
 ·rw[hsz] at hi;obtain⟨_,_,_,_,_,e,_⟩:=at' i hi;rw[Lv];exact e
 ·rw[hsz] at hj;obtain⟨ku,xu,hT,h1,_,_,h3⟩:=at' j hj;exact⟨ku,xu,hT,_,h3,h1⟩
 ·have hz:(gK [] kvs).length<=sizeLine:=by
   have h1:=ib kvs [];rw[LH] at h1;exact Kn (show _<=20000 by lia) (by decide)
  exact⟨.ref s.heap.objs.size,_,I.laid (t':=tk) hkp (Kk _) (zV hz (KO.mpr (L0 (KA I.big))) (hKV.merge .nil) hd),rfl,q _ (I.ba.fresh (Kk _))⟩
open PySem PySem.Spec PyProof PyProof.Rows
namespace Z
section
variable {X:Cx} {CX:qk} {k:Nat} {f C:Addr} {fd:FuncData} {ps:List Str} {sp:Sp} {E:XK} {x m nm:Str} {p pos pos' apos:Pos} {e o i value:Expr} {es:List Expr} {ta tv td ty:TE} {t:TA}
theorem fld(K:PJ)(hK:X.K=K)(he:QE X e ta)(hb:autoParam (attributeBase e nm X.env (eval e X.env)=eval e X.env) ℜ0):QE X (.Attribute e nm pos) (AK K ta nm):=by subst hK;exact⟨FJ he.h hb⟩
theorem zJ(K:PJ)(hK:X.K=K)(ha:QE X o ta)(hv:QE X value tv)(hs:autoParam (swapsWith value (some (.Attribute o nm pos')) pos.line X.env=pure false) ℜ0):QS X (.Assign [.Attribute o nm pos'] value pos) (AR K ta tv nm):=by subst hK;exact⟨EJ ha.h hv.h hs⟩
theorem BO(K:PJ)(hK:X.K=K){pl:Sem Bool}(he:QE X o ta)(c:mh K C)(hm:Meth K C m f)(F:cP X.prog X.w K X.mg X.base CX k f fd ps sp)(hr:bR k X.A)(hb:Binds K fd ps [])(hx:Passes CX X E)(ha:QA X (e::es) t)
  (hst:autoParam (starEach (e::es) X.env=(false,eval e X.env)::starEach es X.env) ℜ0) (hpl:autoParam ((backTo pos (starEach es X.env)).any (·.1)=false) ℜ0)
  (ht:autoParam (eval (.Call (.Attribute o m apos) (e::es) [] pos) X.env=(do
   let ov <- eval o X.env
   standAt apos.atName
   let (f,first) <- holding [ov] (getMethod ov m pl)
   callWith pos f first (backTo pos (starEach (e::es) X.env)) (backToKw pos (keywordEach [] X.env)))) ℜ0) :
  QE X (.Call (.Attribute o m apos) (e::es) [] pos) (k_ C m sp [] E ta t):=by subst hK;exact⟨Bn (pl:=pl) he.h c hm F hr hb .nil hx ha.h hst hpl ht⟩
theorem pq(K:PJ)(hK:X.K=K){pl:Sem Bool}(he:QE X o ta)(c:mh K C)(hm:Meth K C m f)(F:cP X.prog X.w K X.mg X.base CX k f fd ps sp)(hr:bR k X.A)(hb:Binds K fd ps [])(hx:Passes CX X E)
  (ht:autoParam (eval (.Call (.Attribute o m apos) [] [] pos) X.env=(do
   let ov <- eval o X.env
   standAt apos.atName
   let (f,first) <- holding [ov] (getMethod ov m pl)
   callWith pos f first (backTo pos (starEach [] X.env)) (backToKw pos (keywordEach [] X.env)))) ℜ0) :
  QE X (.Call (.Attribute o m apos) [] [] pos) (k_ C m sp [] E ta ow):=by subst hK;exact⟨zp (pl:=pl) he.h c hm F hr hb .nil hx ht⟩
theorem make(K:PJ)(hK:X.K=K)(M:Mk K C f)(F:cP X.prog X.w K X.mg X.base CX k f fd ps sp)(hr:bR (k+1) X.A)(hg:Gl X x)(hm:X.mg x=some (.ref C))(hb:Binds K fd ps [])(hx:Passes CX X E)
  (ha:QA X (e::es) t) (hdb:autoParam ((x ==("__debug__":Str))=false) ℜ1) (he:autoParam (starEach (e::es) X.env=(false,eval e X.env)::starEach es X.env) ℜ0) (hpl:autoParam ((backTo pos (starEach es X.env)).any (·.1)=false) ℜ0) :
  QE X (.Call (.Name x p) (e::es) [] pos) (qR C sp [] E t):=by subst hK;exact⟨CJ M F hr hg hm hb .nil hx ha.h hdb he hpl⟩
theorem yJ(hu:X.A.units+1<cLine)(ho:QE X o td)(hi:QE X i ty)(hs:xW i:=by exactλ_ _=>rfl):QE X (.Subscript o i pos) (p5 td ty):=⟨Cq hu ho.h hi.h hs⟩
theorem dput(hu:X.A.units+1<cLine)(ho:QE X o td)(hi:QE X i ty)(hv:QE X value tv)(hs:autoParam (swapsWith value (some (.Subscript o i pos')) pos.line X.env=pure false) ℜ0):QS X (.Assign [.Subscript o i pos'] value pos) (pS td ty tv):=⟨Cc hu ho.h hi.h hv.h hs⟩
end
end Z
namespace Ap
theorem AK(K:PJ)(ta:TE)(f:Str)(σ:St)(H:Hp)(Q:VK):L2.AK K ta f σ H Q=ta σ H λx H1=>∃a C dx fs v,x=.ref a/\H1 a=some (.ins C dx fs)/\mh K C/\bL K C f/\fs.lookup f=some v/\Q v H1:=rfl
theorem AR(K:PJ)(ta tv:TE)(f:Str)(D:Ends)(σ:St)(H:Hp):L2.AR K ta tv f D σ H=tv σ H λy H1=>ta σ H1 λx H2=>∃a C dx fs,x=.ref a/\H2 a=some (.ins C dx fs)/\mh K C/\bL K C f/\fs.length<1000/\D.nx σ (upd H2 a (.ins C dx (dU f y fs))):=rfl
theorem k_(C:Addr)(m:Str)(sp:Sp)(dvs:List V)(E:XK)(ta:TE)(t:TA)(σ:St)(H:Hp)(Q:VK):L2.k_ C m sp dvs E ta t σ H Q=ta σ H λx H1=>∃a dx fs,x=.ref a/\H1 a=some (.ins C dx fs)/\fs.lookup m=none/\t σ H1 λvs H2=>sp (x::(vs++dvs)) H2 Q E:=rfl
theorem qR(C:Addr)(sp:Sp)(dvs:List V)(E:XK)(t:TA)(σ:St)(H:Hp)(Q:VK):L2.qR C sp dvs E t σ H Q=t σ H λvs H1=>∀x dx,H1 x=none->H1 dx=none->dx≠x->sp (.ref x::(vs++dvs)) (upd (upd H1 dx (.own x)) x (.ins C dx [])) (λv H2=>v=.aX/\Q (.ref x) H2) E:=rfl
theorem p5(td ty:TE)(σ:St)(H:Hp)(Q:VK):L2.p5 td ty σ H Q=td σ H λx H1=>ty σ H1 λy H2=>∃a v,x=.ref a/\wc H2 a y (some v)/\Q v H2:=rfl
theorem pS(td ty tv:TE)(D:Ends)(σ:St)(H:Hp):L2.pS td ty tv D σ H=tv σ H λv H1=>td σ H1 λx H2=>ty σ H2 λy H3=>∃a H4,x=.ref a/\EY H3 a y v H4/\D.nx σ H4:=rfl
end Ap
section
variable {prog:Program} {w:World} {A:Around} {E:Value->Shared->Prop} {s:Shared} {K:PJ} {a:Addr} {D:List (Str×List Str)} {k:Str} {tk:Tok}
theorem wF{ws:List Str}{Q:Value->Shared->Prop}(T:lH K a D)(X:K.In s.heap)(hk:KTD.datumAt k D=some ws)(h:∀v,zM K ws v->Q v {s with toks:=s.toks+1}):wpAny (model prog w) A (getItem (.ref a) (.str k tk)) Q E s:=by
 have hT:=T.typeIs X;unfold getItem
 try with_reducible refine L7 ?_
 refine Kb (wpAny_sequenceKey hT (by decide) ?_)
 refine Kb (Ll (name:=Str.ofString "__getitem__") hT PySem.F.slot_dict_getitem
  (L4 PySem.F.slot_dict_getitem hT PySem.F.entry_dict_getitem ?_ (args_dict_getitem _ _)))
 show wpAny _ _ (dictGet a (.str k tk) >>= _) _ _ s;refine Kb (AN T X (λd v e r=>?_) λe=>?_)
 ·rw[hk] at e;cases e;exact Ks ⟨v,rfl,Ks (h v r)⟩
 ·rw[hk] at e;cases e
end
variable{Q:Value->Shared->Prop}{X:Cx}{body e:Expr}{c' d f kS:Addr}{D:List (Str×List Str)}{a b:List Nat}{q x:Str}{e1 ep i j k:Nat}{α:Type}{p:Array Nat}{t:TA}{N:List Str}{σf:List (Option V)}{scope:Scope}{cl:List (Str×Addr)}{params:Arguments}{ctv pm:Value}{H H1:Hp}{h h':Heap}{P:PySem.Fin->Shared->Prop}{us:List Value}{kz:List Int}{xs:List V}{kpos lpos p1 p2 p3:Pos}{K:PJ}{es:Array DictEntry}{prog:Program}
noncomputable def zK(K:PJ)(D:List (Str×List Str))(te:TE):TE:=λσ H Q=>te σ H λy H1=>∃k ws,y=.str k/\KTD.datumAt k D=some ws/\∀p,HL K p (ws.map V.str)->Q (.ref p) H1
theorem Eu{o:Expr}{te:TE}{pos:Pos}(ho:PE X o (tC (.ref d)))(hD:lH X.K d D)(he:PE X e te)(hs:xW e):PE X (.Subscript o e pos) (zK X.K D te):=by
 intro pins s σ H Q I h;refine vj PySem.F.slot_dict_getitem.lookup hs (bZ (ho pins s σ H (λv H'=>v=.ref d/\H'=H) I ⟨rfl,rfl⟩) λu s1 hq1=>?_);obtain⟨x,H1,I1,rx,ex,eh⟩:=hq1;subst ex eh;obtain rfl:u=Value.ref d:=rx;refine bZ (he pins s1 σ H1 _ I1 h) λiv s2 hq2=>?_;obtain⟨y,H2,I2,ry,k,ws,ek,e1,q⟩:=hq2;subst ek;obtain⟨t,rfl⟩:=ry;refine⟨hD.typeIs I2.pM,wF hD I2.pM e1 λv r=>?_⟩;obtain⟨p,rfl,r⟩:=r;exact⟨.ref p,H2,I2.tok _,rfl,q p r⟩
theorem Z.seq{tg l:Expr}{tl:TE}(K:PJ)(hK:X.K=K)(hl:QE X l tl):QI X tg l (yr K tl):=by subst hK;exact⟨Fd hl.h⟩
theorem Ap.yr(K:PJ)(tl:TE)(σ:St)(H:Hp)(R:It->Hp->Prop):L2.yr K tl σ H R=tl σ H λx H1=>∃a,x=V.ref a/\(((∃xs,bB K H1 a xs)/\R (xt K a) H1)\/((∃xs,aY K H1 a xs)/\R (wU K a) H1)):=rfl
namespace Y
noncomputable def Hn(K:PJ):List V->Hp->VK->Prop:=λxs H Q=>∃(p:Addr) (ns:List Int),xs=[.ref p]/\(bB K H p (ns.map V.int)\/aY K H p (ns.map V.int))/\Q (.int ns.sum) H
theorem w8(K:PJ)(hK:X.K=K)(hc:X.calm=true):bE X (.builtin "sum") (Hn K):=by
 subst hK;intro pins s σ H xs us Q I r h;obtain⟨p,ns,rfl,hq,q⟩:=h;rcases hq with hq|hq
 ·exact mE hc pins s σ H _ us Q I r ⟨p,ns,rfl,hq,q⟩
 ·obtain⟨u,rfl,ru⟩:=vals1 r;cases ru;obtain⟨its,rv,pl,hz⟩:=I.tuple hq;have hi:=intsAre_of rv;obtain⟨xs,hx⟩:=hi.allInts.items;have hl':s.heap.IsTuple p (intItems xs):=by rw[<- hx];exact pl
  refine PySem.W.ktm_sumG (I.ok.hd hc) hl' λh' tk t' hk=>?_;have e1:ns=xs.toList.map (·.1):=by rw[<- nums_intItems,<- hx];exact hi.numsOf.symm
  have e2:preSum (numAt xs) xs.size=ns.sum:=by rw[preSum_eq,La (by simp),e1]
  rw[e2];exact⟨.int ns.sum,H,I.kept hk,⟨_,rfl⟩,q⟩
noncomputable def GW:V->List V->Hp->VK->Prop:=λx vs H Q=>∃(a:Addr) (ws:List Str) (k:Str) (j:Nat),x=.ref a/\H a=some (.lst (ws.map V.str))/\vs=[.str k]/\ws[j]?=some k/\(∀m,m<j->ws[m]?≠some k)/\Q (.int (j:Nat)) H
theorem Cy:G7 X "list.index" GW:=by
 intro pins s σ H x xs v us Q I rx rs h;obtain⟨a,ws,k,j,rfl,hH,rfl,hj,hno,q⟩:=h;cases rx;obtain⟨u,rfl,t,rfl⟩:=vals1 rs;obtain⟨z,its,n,r,hl,e⟩:=I.mf hH;obtain⟨t',hit⟩:=i6 r j k hj;have hjl:j<ws.length:=(Kf.mp hj).1;rw[Kc] at z hl;have hji:j<its.toArray.size:=by rw[Kh];lia
 have sz:(sizeLine:Int)<2^63-1:=by decide
 have hje:its.toArray[j]=.str k t':=by
  have:its.toArray[j]?=some (.str k t'):=by rw[Lv];exact hit
  exact (Mp.mp this).2
 have hall:∀(m:Nat) (hm:m<its.toArray.size),∃y ty,its.toArray[m]=.str y ty/\ws[m]?=some y:=λm hm=>by
  have hm':m<ws.length:=by rw[Kh] at hm;lia
  have e1:=Ka hm';obtain⟨ty,hy⟩:=i6 r m _ e1;have:its.toArray[m]?=some (.str ws[m] ty):=by rw[Lv];exact hy
  exact⟨_,ty,(Mp.mp this).2,e1⟩
 refine Me PySem.F.slot_list_index ⟨_,e,rfl⟩ PySem.F.entry_list_index (PySem.F.args_list_index_2 _ _) (SeqAt.list_indexAt a its.toArray n none _ (.str k t) (λy=>match y with|.str y _=>y == k|_=>false) j hji (by lia) (by rw[hje];exact L3 k) λm hm hmj=>?_) ⟨e,λy hy=>?_,⟨.int (j:Nat),H,I.tok _,⟨_,rfl⟩,q⟩⟩
 ·obtain⟨y,ty,ey,ew⟩:=hall m hm;rw[ey];exact KO.mpr λz=>hno m hmj (by rw[ew,z])
 ·obtain⟨m,hm,rfl⟩:=Array.mem_iff_getElem.mp hy;obtain⟨y,ty,ey,ew⟩:=hall m hm;rw[ey];exact SeqAt.EqAt.str_str _ _ _ _
end Y
open PySem PySem.Spec PyProof PyProof.Rows PySem.W
namespace SP
section
variable (k:Nat->Int)
def R(i j:Nat):Prop:=k i<k j\/(k i=k j/\i<j)
variable {k}
theorem R.le{a b:Nat}(h:R k a b):k a<=k b:=by unfold R at h;lia
end
structure PI (n m:Nat) (p:Array Nat) (a:List Nat):Prop where
 eq:p.toList=a++List.range' m (n-m)
 perm:a.Perm (List.range m)
 le:m<=n
section
variable {n m:Nat} {p:Array Nat} {a:List Nat}
theorem PI.len(h:PI n m p a):a.length=m:=by rw[h.perm.length_eq,Lc]
theorem PI.lt(h:PI n m p a){x:Nat}(hx:x∈a):x<m:=LJ.mp (h.perm.mem_iff.mp hx)
theorem PI.size(h:PI n m p a):p.size=n:=by
 have:=h.len;have:=h.le;rw[<- KU,h.eq,Ke,List.length_range',h.len];lia
theorem PI.at(h:PI n m p a){x:Nat}(hi:a[i]?=some x):p.getD i 0=x:=by
 have:p[i]?=some x:=by
  rw[<- KQ,h.eq,KC (Kf.mp hi).1];exact hi
 rw[Om,this];rfl
theorem PI.nx(h:PI n m p a)(hm:m<n):p.getD m 0=m:=by
 have:p[m]?=some m:=by
  rw[<- KQ,h.eq,K4 (by rw[h.len];exact Kk m),h.len,L8,List.getElem?_range' (by lia)];simp
 rw[Om,this];rfl
theorem PI.step(h:PI n m p a)(hm:m<n):PI n (m+1) p (a++[m]):=by
 refine⟨?_,?_,hm⟩
 ·rw[h.eq,K2,show n-m=(n-(m+1))+1 by lia,LS];rfl
 ·rw[Mn];exact h.perm.append_right [m]
theorem PI.last(h:PI n m p a){y:Nat}(e:a=b++[y]):p.getD (m-1) 0=y:=by
 refine h.at ?_;have:=h.len;rw[e,Ke] at this;simp only[Kq,LH] at this;rw[e,K4 (by lia),show m-1-b.length=0 by lia];rfl
end
theorem yG{xs:Array α}{l:Nat}{y:α}(hy:xs[k]?=some y)(hl:l<=k):(bubble xs k (k-l)).toList=xs.toList.take l++y::(xs.toList.drop l).take (k-l)++xs.toList.drop (k+1):=by
 have hk:k<xs.size:=(Mp.mp hy).1;have hL:xs.toList.length=xs.size:=by simp
 apply O1;intro i;rw[KQ,getElem?_bubble hk _ (by lia),show k-(k-l)=l by lia]
 rw[K2,MZ];have ht:(xs.toList.take l).length=l:=by rw[K8];lia
 rw[ht];by_cases h1:i<l
 ·rw[Kj h1,Ki (by lia),Ki (by lia),MH,Kj h1,KQ]
 ·rw[Ki h1];by_cases h2:i=l
  ·subst h2;rw[Kj rfl,L8,hy];rfl
  ·rw[Ki h2,show i-l=(i-l-1)+1 by lia,L5,Lg,MZ]
   have hm:((xs.toList.drop l).take (k-l)).length=k-l:=by rw[K8,KP];lia
   rw[hm];by_cases h3:i-l-1<k-l
   ·rw[Kj h3,Kj (by lia),MH,Kj h3,Ly,KQ]
    congr 1;lia
   ·rw[Ki h3,Ki (by lia),Ly,KQ]
    congr 1;lia
theorem yI{xs:Array α}(hi:i<=j)(hj:j<=xs.size):(mirror xs i j ((j-i) / 2)).toList=xs.toList.take i++((xs.toList.drop i).take (j-i)).reverse++xs.toList.drop j:=by
 have hL:xs.toList.length=xs.size:=by simp
 apply O1;intro k;rw[KQ,getElem?_mirror_all hj,K2,MZ];have ht:(xs.toList.take i).length=i:=by rw[K8];lia
 have hm:((xs.toList.drop i).take (j-i)).length=j-i:=by rw[K8,KP];lia
 rw[ht];by_cases h1:k<i
 ·rw[Kj h1,Ki (by lia),MH,Kj h1,KQ]
 ·rw[Ki h1,MZ,Mx,hm];by_cases h2:k<j
  ·rw[Kj (by lia),Kj (by lia),List.getElem?_reverse (by lia),hm,MH,Kj (by lia),Ly,KQ]
   congr 1;lia
  ·rw[Ki (by lia),Ki (by lia),Ly,KQ]
   congr 1;lia
theorem PI.rev{n m:Nat}{c:List Nat}(h:PI n m p (b++c)):PI n m (kas_rev p b.length m) (b++c.reverse):=by
 have hl:b.length+c.length=m:=by rw[<- h.len,Ke]
 refine⟨?_,((List.reverse_perm c).append_left b).trans h.perm,h.le⟩;unfold kas_rev;rw[yI (by lia) (by rw[h.size];exact h.le),h.eq,K2 b c,Oe,Pr,show m-b.length=c.length by lia,Oe,<- K2 b c,List.drop_left' (by rw[Ke];exact hl)]
theorem nA{m:Nat}(h:a.length=m)(hm:1<=m):∃b y,a=b++[y]:=by
 rcases Pu a with rfl|⟨b,y,rfl⟩
 ·cases h;exact absurd hm (by decide)
 ·exact⟨b,y,by simp⟩
section
variable {k:Nat->Int} {n:Nat} {cmp:Nat->Nat->(Bool->Shared->Prop)->Shared->Prop} {I:Shared->Prop}
noncomputable def oU(k:Nat->Int)(n:Nat)(cmp:Nat->Nat->(Bool->Shared->Prop)->Shared->Prop)(I:Shared->Prop):Prop:=∀i j C s,i<n->j<n->I s->(∀s',I s'->C (decide (k i<k j)) s')->cmp i j C s
theorem sk(hc:oU k n cmp I){G:Nat->Shared->Prop}:∀(f m:Nat) (a:List Nat) (s:Shared),PI n m p a->1<=m->f=n-m->a.Pairwise (R k)->I s ->
  (∀m' a' s',PI n m' p a'->m<=m'->a'.Pairwise (R k)->I s'->(∀b y,a'=b++[y]->m'<n->k m'<k y)->G m' s')->(kas_asc p f m).kasWp cmp G s
 |0,m,a,s,h,h1,hf,hp,hI,g=>g m a s h (Kk m) hp hI λ_ _ _ hl=>by have:=h.le;lia
 |f+1,m,a,s,h,h1,hf,hp,hI,g=>by
  have hm:m<n:=by lia
  obtain⟨b,y,e⟩:=nA h.len h1;show cmp (p.getD m 0) (p.getD (m-1) 0) _ s;rw[h.nx hm,h.last e];have hy:y<m:=h.lt (by rw[e];simp)
  refine hc m y _ s hm (by lia) hI λs' hI'=>?_
  by_cases c:k m<k y
  ·rw[KG c];exact g m a s' h (Kk m) hp hI' λb' y' e' _=>by
    rw[e] at e';have:[y]=[y']:=(List.append_inj' e' rfl).2
    cases this;exact c
  ·rw[KH c];refine sk hc f (m+1) (a++[m]) s' (h.step hm) (by lia) (by lia) ?_ hI' λm' a' s2 h' hm' hp' hI2 gl=>g m' a' s2 h' (by lia) hp' hI2 gl
   refine L6.mpr ⟨hp,by simp,λx hx z hz=>?_⟩
   rw[Ku.mp hz];have hxm:=h.lt hx;have:k x<=k y:=by
    rw[e] at hx hp;rcases KJ.mp hx with hx|hx
    ·exact ((L6.mp hp).2.2 x hx y (by simp)).le
    ·rw[Ku.mp hx];exact Pa _
   unfold R;lia
structure DI (k:Nat->Int) (b c:List Nat):Prop where
 En:b.Pairwise λx y=>R k y x
 less:∀y∈b,∀x∈c,k x<k y
 one:∀x∈c,∀y∈c,k x=k y
 up:c.Pairwise (· < ·)
theorem DI.rise{c:List Nat}(h:DI k b c):(b++c.reverse).reverse.Pairwise (R k):=by
 rw[NY,M_];refine L6.mpr ⟨?_,N9.mpr h.En,λx hx y hy=>.inl (h.less y (Md.mp hy) x hx)⟩;exact OM (λ{x y} hx hy hl=>.inr ⟨h.one x hx y hy,hl⟩) h.up
theorem DI.next{c:List Nat}{x:Nat}(h:DI k b c)(hc:c≠[])(hx:∀y∈c,k x<k y):DI k (b++c.reverse) [x]:=by
 refine⟨L6.mpr ⟨h.En,N9.mpr (OM (λ{x y} hx hy hl=>.inr ⟨h.one x hx y hy,hl⟩) h.up),λy hy z hz=>.inl (h.less y hy z (Md.mp hz))⟩,λy hy z hz=>?_,λy hy z hz=>?_,by simp⟩
 ·rw[Ku.mp hz];rcases KJ.mp hy with hy|hy
  ·obtain⟨w,hw⟩:=O9 c hc;exact Int.lt_trans (hx w hw) (h.less y hy w hw)
  ·exact hx y (Md.mp hy)
 ·rw[Ku.mp hy,Ku.mp hz]
theorem DI.more{c:List Nat}{x:Nat}(h:DI k b c)(he:∀y∈c,k x=k y)(hc:c≠[])(hl:∀y∈c,y<x):DI k b (c++[x]):=by
 refine⟨h.En,λy hy z hz=>?_,λy hy z hz=>?_,L6.mpr ⟨h.up,by simp,λy hy z hz=>by rw[Ku.mp hz];exact hl y hy⟩⟩
 ·rcases KJ.mp hz with hz|hz
  ·exact h.less y hy z hz
  ·rw[Ku.mp hz];obtain⟨w,hw⟩:=O9 c hc;rw[he w hw];exact h.less y hy w hw
 ·rcases KJ.mp hy with hy|hy<;>rcases KJ.mp hz with hz|hz
  ·exact h.one y hy z hz
  ·rw[Ku.mp hz];exact (he y hy).symm
  ·rw[Ku.mp hy];exact he z hz
  ·rw[Ku.mp hy,Ku.mp hz]
theorem jN(hc:oU k n cmp I){G:Array Nat×Nat×Nat->Shared->Prop}:∀(f:Nat) (p:Array Nat) (m q:Nat) (b c:List Nat) (s:Shared),PI n m p (b++c)->c.length=q+1->DI k b c->f=n-m->I s ->
  (∀p' m' q' b' c' s',PI n m' p' (b'++c')->c'.length=q'+1->DI k b' c'->I s'->G (p',m',q') s')->(kas_desc f p m q).kasWp cmp G s
 |0,p,m,q,b,c,s,h,hl,hd,hf,hI,g=>g p m q b c s h hl hd hI
 |f+1,p,m,q,b,c,s,h,hl,hd,hf,hI,g=>by
  have hm:m<n:=by lia
  obtain⟨c0,y,e⟩:=nA hl (by lia)
  have hbl:b.length+(q+1)=m:=by rw[<- hl,<- Ke,h.len]
  have ne:c≠[]:=by rw[e];simp
  have hy:y∈c:=by rw[e];simp
  have hya:y<m:=h.lt (K6 _ hy);have e1:p.getD m 0=m:=h.nx hm;have e2:p.getD (m-1) 0=y:=h.last (b:=b++c0) (by rw[e,K2])
  show cmp (p.getD m 0) (p.getD (m-1) 0) _ s;rw[e1,e2];refine hc m y _ s hm (by lia) hI λs' hI'=>?_
  by_cases c1:k m<k y
  ·rw[KG c1];have hx:∀z∈c,k m<k z:=λz hz=>by rw[hd.one z hz y hy];exact c1
   show KasT.kasWp cmp (if q > 0 then _ else _) G s'
   by_cases hq:q > 0
   ·rw[Kj hq,show m-(q+1)=b.length by lia]
    exact jN hc f _ (m+1) 0 (b++c.reverse) [m] s' (h.rev.step hm) rfl (hd.next ne hx) (by lia) hI' g
   ·rw[Ki hq];have e3:c.reverse=c:=by
     have:c.length=1:=by lia
     obtain⟨z,rfl⟩:=Pb.mp this;rfl
    exact jN hc f p (m+1) 0 (b++c.reverse) [m] s' (by rw[e3];exact h.step hm) rfl (hd.next ne hx) (by lia) hI' g
  ·rw[KH c1];show cmp y m _ s';refine hc y m _ s' (by lia) hm hI' λs2 hI2=>?_
   by_cases c2:k y<k m
   ·rw[KG c2];exact g p m q b c s2 h hl hd hI2
   ·rw[KH c2];refine jN hc f p (m+1) (q+1) b (c++[m]) s2 (by rw[<- K2];exact h.step hm) (by rw[Ke,hl];rfl) (hd.more (λz hz=>?_) ne λz hz=>h.lt (K6 _ hz)) (by lia) hI2 g
    rw[hd.one z hz y hy];lia
theorem u5(hc:oU k n cmp I){G:Nat×Array Nat->Shared->Prop}{m:Nat}{s:Shared}(h:PI n m p a)(h1:1<=m)(hr:a.reverse.Pairwise (R k))(hI:I s)
  (g:∀m' p' a' s',PI n m' p' a'->1<=m'->a'.Pairwise (R k)->I s'->G (m',p') s'):(kas_tail3 m n p).kasWp cmp G s:=by
 unfold kas_tail3;rw[Nh];have hv:=PI.rev (b:=[]) (c:=a) h;exact sk hc (n-m) m a.reverse s hv h1 rfl hr hI λm' a' s' h' hm' hp' hI' _=>g m' _ a' s' h' (by lia) hp' hI'
theorem tE(hc:oU k n cmp I){G:Nat×Array Nat->Shared->Prop}{m:Nat}{s:Shared}(h:PI n m p a)(hm:m<n)(hd:DI k a [m])(hI:I s)
  (g:∀m' p' a' s',PI n m' p' a'->1<=m'->a'.Pairwise (R k)->I s'->G (m',p') s'):(kas_descPart m n p).kasWp cmp G s:=by
 unfold kas_descPart;rw[Nh];refine jN hc (n-(m+1)) p (m+1) 0 a [m] s (h.step hm) rfl hd rfl hI λp' m' q' b' c' s' h' hl' hd' hI'=>?_;have hbl:b'.length+(q'+1)=m':=by rw[<- hl',<- Ke,h'.len]
 show KasT.kasWp cmp (if q' > 0 then _ else _) G s'
 by_cases hq:q' > 0
 ·rw[Kj hq];show (kas_tail3 m' n (kas_rev p' (m'-(q'+1)) m')).kasWp cmp G s';rw[show m'-(q'+1)=b'.length by lia]
  exact u5 hc h'.rev (by lia) hd'.rise hI' g
 ·rw[Ki hq];have e3:c'.reverse=c':=by
   have:c'.length=1:=by lia
   obtain⟨z,rfl⟩:=Pb.mp this;rfl
  exact u5 hc h' (by lia) (by rw[<- e3];exact hd'.rise) hI' g
theorem yh(hc:oU k n cmp I){G:Nat×Array Nat->Shared->Prop}{s:Shared}(hn:1<=n)(hI:I s)
  (g:∀m' p' a' s',PI n m' p' a'->1<=m'->a'.Pairwise (R k)->I s'->G (m',p') s'):(kas_count n (List.toArray (List.range n))).kasWp cmp G s:=by
 unfold kas_count;rw[Nh];have h0:PI n 1 (List.toArray (List.range n)) [0]:=by
  refine⟨?_,List.Perm.refl _,hn⟩;show List.range n=[0]++List.range' 1 (n-1);rw[NN,show n=(n-1)+1 by lia,LS];rfl
 refine sk hc (n-1) 1 [0] s h0 (Kk 1) rfl (by simp) hI λm a s' h hm hp hI' gl=>?_
 show KasT.kasWp cmp (if (m == n)=true then _ else _) G s'
 by_cases e:m=n
 ·subst e;rw[Kj (L3 m)];exact g m _ a s' h hm hp hI'
 ·rw[Ki (by simpa using e)]
  have hmn:m<n:=by have:=h.le;lia
  obtain⟨b,y,ea⟩:=nA h.len hm;have ky:=gl b y ea hmn;have hya:y<m:=h.lt (by rw[ea];simp)
  by_cases h2:m > 1
  ·rw[Kj h2];obtain⟨x,r,ex⟩:∃x r,a=x::r:=by
    cases a with
    |nil=>have:=h.len;rw[LH] at this;lia
    |cons x r=>exact⟨x,r,rfl⟩
   have hxa:x<m:=h.lt (by rw[ex];simp)
   show cmp ((List.toArray (List.range n)).getD 0 0) ((List.toArray (List.range n)).getD (m-1) 0) _ s';rw[h.at (i:=0) (x:=x) (by rw[ex];rfl),h.last ea]
   refine hc x y _ s' (by lia) (by lia) hI' λs2 hI2=>?_
   by_cases c:k x<k y
   ·rw[KG c];exact g m _ a s2 h hm hp hI2
   ·rw[KH c];have hv:=PI.rev (b:=[]) (c:=a) h;refine tE hc hv hmn ⟨N9.mpr hp,λz hz w hw=>?_,λz hz w hw=>by rw[Ku.mp hz,Ku.mp hw],by simp⟩ hI2 g
    rw[Ku.mp hw];have hz':=Md.mp hz;have hxz:k x<=k z:=by
     rw[ex] at hz' hp;rcases Kl.mp hz' with rfl|hz'
     ·exact Pa _
     ·exact ((KY.mp hp).1 z hz').le
    lia
  ·rw[Ki h2];have hm1:m=1:=by lia
   have hb:b=[]:=by
    have:=h.len;rw[ea,Ke,hm1] at this;simp only[Kq,LH] at this;exact Mc.mp (by lia)
   subst hb;refine tE hc h hmn ⟨by rw[ea];simp,λz hz w hw=>?_,λz hz w hw=>by rw[Ku.mp hz,Ku.mp hw],by simp⟩ hI' g
   rw[Ku.mp hw];rw[ea] at hz;rw[Ku.mp hz];exact ky
theorem kq(hc:oU k n cmp I){G:Nat->Shared->Prop}{t:Nat}(h:PI n t p a)(ht:t<n)(hp:a.Pairwise (R k)):∀(f l r:Nat) (s:Shared),l<=r->r<=t->r-l<=f->(∀i x,i<l->a[i]?=some x->k x<=k t)->(∀i x,r<=i->a[i]?=some x->k t<k x)->I s ->
  (∀l' s',l'<=t->(∀i x,i<l'->a[i]?=some x->k x<=k t)->(∀i x,l'<=i->a[i]?=some x->k t<k x)->I s'->G l' s')->(kas_place p t f l r).kasWp cmp G s
 |0,l,r,s,h1,h2,h3,hlo,hhi,hI,g=>g l s (by lia) hlo (λi x hi e=>hhi i x (by lia) e) hI
 |f+1,l,r,s,h1,h2,h3,hlo,hhi,hI,g=>by
  show KasT.kasWp cmp (if l >= r then _ else _) G s
  by_cases hlr:l >= r
  ·rw[Kj hlr];exact g l s (by lia) hlo (λi x hi e=>hhi i x (by lia) e) hI
  ·rw[Ki hlr];have hmid:(l+r) / 2<a.length:=by rw[h.len];lia
   have em:a[(l+r) / 2]?=some a[(l+r) / 2]:=Ka hmid;have hma:a[(l+r) / 2]<t:=h.lt (K1 hmid);have mono:∀i j x y,i<=j->a[i]?=some x->a[j]?=some y->k x<=k y:=λi j x y hij ex ey=>by
    rcases Lh i j with c|c
    ·obtain⟨hi,rfl⟩:=Kf.mp ex;obtain⟨hj,rfl⟩:=Kf.mp ey;exact (Mq.mp hp i j hi hj c).le
    ·have:i=j:=Nat.le_antisymm hij c;subst this;rw[ex] at ey;cases ey;exact Pa _
   show cmp (p.getD t 0) (p.getD ((l+r) / 2) 0) _ s;rw[h.nx ht,h.at em];refine hc t _ _ s ht (by lia) hI λs' hI'=>?_
   by_cases c:k t<k a[(l+r) / 2]
   ·rw[KG c];exact kq hc h ht hp f l ((l+r) / 2) s' (by lia) (by lia) (by lia) hlo (λi x hi e=>Int.lt_of_lt_of_le c (mono _ i _ x hi em e)) hI' g
   ·rw[KH c];exact kq hc h ht hp f ((l+r) / 2+1) r s' (by lia) h2 (by lia) (λi x hi e=>Int.le_trans (mono i _ x _ (by lia) e em) (by lia)) hhi hI' g
theorem Ab(hc:oU k n cmp I){G:Array Nat->Shared->Prop}:∀(f:Nat) (p:Array Nat) (t:Nat) (a:List Nat) (s:Shared),PI n t p a->a.Pairwise (R k)->f=n-t->I s ->
  (∀p' a' s',PI n n p' a'->a'.Pairwise (R k)->I s'->G p' s')->(kas_bin f p t).kasWp cmp G s
 |0,p,t,a,s,h,hp,hf,hI,g=>by
  have:t=n:=by have:=h.le;lia
  subst this;exact g p a s h hp hI
 |f+1,p,t,a,s,h,hp,hf,hI,g=>by
  have ht:t<n:=by lia
  show KasT.kasWp cmp ((kas_place p t t 0 t).bind _) G s;rw[Nh];refine kq hc h ht hp t 0 t s (Kz _) (Kk _) (by lia) (λi x hi _=>absurd hi (MG i)) (λi x hi e=>?_) hI λl s' hl hlo hhi hI'=>?_
  ·have:=(Kf.mp e).1;rw[h.len] at this;lia
  ·have et:p[t]?=some t:=by
    rw[<- KQ,h.eq,K4 (by rw[h.len];exact Kk t),h.len,L8,List.getElem?_range' (by lia)];simp
   have hla:l<=a.length:=by rw[h.len];exact hl
   have e1:(bubble p t (t-l)).toList=(a.take l++t::a.drop l)++List.range' (t+1) (n-(t+1)):=by
    rw[yG et hl,h.eq,List.take_append_of_le_length hla,NV hla,show n-t=(n-(t+1))+1 by lia,LS]
    have e2:(a.drop l).length=t-l:=by rw[KP,h.len]
    have e3:∀r:List Nat,(a++t::r).drop (t+1)=r:=λr=>by
     rw[show a++t::r=(a++[t])++r by simp]
     exact List.drop_left' (by rw[Ke,h.len];rfl)
    rw[List.take_left' e2,e3]
   have hP:PI n (t+1) (bubble p t (t-l)) (a.take l++t::a.drop l):=by
    refine⟨e1,?_,ht⟩;have:(a.take l++t::a.drop l).Perm (a++[t]):=by
     have h1:(a.take l++t::a.drop l).Perm (t::(a.take l++a.drop l)):=LI;rw[Lk] at h1;exact h1.trans (List.perm_append_singleton t a).symm
    rw[Mn];exact this.trans (h.perm.append_right [t])
   refine Ab hc f _ (t+1) _ s' hP ?_ (by lia) hI' g
   have hp1:=(Lk l a) ▸ hp;obtain⟨q1,q2,q3⟩:=L6.mp hp1;refine L6.mpr ⟨q1,KY.mpr ⟨λx hx=>?_,q2⟩,λx hx y hy=>?_⟩
   ·obtain⟨i,hi⟩:=NA.mp hx;rw[Ly] at hi;exact .inl (hhi (l+i) x (by lia) hi)
   ·rcases Kl.mp hy with rfl|hy
    ·obtain⟨i,hi⟩:=NA.mp hx;rw[MH] at hi
     split at hi
     ·rename_i hil;have:=hlo i x hil hi;have hxt:=h.lt (NO hx);unfold R;lia
     ·cases hi
    ·exact q3 x hx y hy
theorem Df(hc:oU k n cmp I){G:Array Nat->Shared->Prop}{s:Shared}(hn:1<=n)(hI:I s)(g:∀p s',p.toList.Perm (List.range n)->p.toList.Pairwise (R k)->I s'->G p s'):(kas_sort n).kasWp cmp G s:=by
 unfold kas_sort;rw[Nh];have fin:∀p a s',PI n n p a->a.Pairwise (R k)->I s'->G p s':=λp a s' h hp hI'=>by
  have e:p.toList=a:=by rw[h.eq,L8,List.range'_zero,Lb]
  refine g p s' ?_ ?_ hI'<;>rw[e]
  ·exact h.perm
  ·exact hp
 refine yh hc hn hI λm p a s' h h1 hp hI'=>?_;show KasT.kasWp cmp (if m<n then _ else _) G s'
 by_cases hm:m<n
 ·rw[Kj hm];show (kas_bin (n-max m 1) p (max m 1)).kasWp cmp G s';rw[show max m 1=m by lia]
  exact Ab hc (n-m) p m a s' h hp rfl hI' fin
 ·rw[Ki hm];have:m=n:=by have:=h.le;lia
  subst this;exact fin p a s' h hp hI'
end
end SP
abbrev EB(qual:Str)(scope:Scope)(L f:Addr)(cd:Value)(cl:List (Str×Addr)):Env:=PySem.W.envX qual scope L f cd cl
noncomputable def tN(X:Cx)(A:Around)(N:List Str)(qual:Str)(scope:Scope)(f:Addr)(cd:Value)(cl:List (Str×Addr))(s:Shared)(H:Hp):Cx where
 prog:=X.prog
 w:=X.w
 K:=X.K
 mg:=X.mg
 base:=X.base
 A:=A.deeper (EB qual scope s.heap.objs.size f cd cl)
 N:=N
 s₀:=s
 H₀:=H
 env:=EB qual scope s.heap.objs.size f cd cl
 outer:=X.stack
 stack:=EB qual scope s.heap.objs.size f cd cl::X.stack
 ex:=[]
 calm:=true
 fn:=λ_=>false
 pn:=[]
 xe:=λ_ _=>False
section
variable {X:Cx} {pins:List (Addr×Obj)} {σ:St} {H:Hp} {s:Shared}
theorem CL(I:Inv X pins σ H s){A:Around}(hA:A.frames=some X.stack)(hd:A.handled=none){qual:Str}{v:V}{u:Value}{cd:Value}{h₁:Heap}{tk:Nat}
  (hk:scope.kind=.function) (rv:RelV v u) (hloc:scope.names.lookup x=some .local) (hns:h₁.Ns s.heap.objs.size (λy=>[(x,u)].reverse.lookup y)) (old:∀b o,s.heap.get? b=some o->h₁.get? b=some o)
  (hlen:σf.length=N.length) (hcl:∀y c,cl.lookup y=some c->X.env.cells.lookup y=some c) (hhas:∀y,(scope.names.lookup y=some .cell\/scope.names.lookup y=some .free)->∃c,cl.lookup y=some c)
  (hf:∀(i:Nat) (y:Str) (v:V),N[i]?=some y->σf[i]?=some (some v)->scope.names.lookup y=some .free/\∃c u,cl.lookup y=some c/\s.heap.IsCell c (some u)/\RelV v u) :
  Inv (tN X A (x::N) qual scope f cd cl s H) [] (some v::σf) H {s with heap:=h₁,toks:=tk}:=by
 have noA:∀b:Addr,b∉(tN X A (x::N) qual scope f cd cl s H).ex:=λb z=>absurd (show b∈([]:List Addr) from z) (by simp)
 refine⟨⟨I.ok.mod,hk,rfl,rfl,Kk _,λy z c e1 e2=>I.ok.inj y z c (hcl y c e1) (hcl z c e2),hhas,λy c z _=>(by cases z),λ_=>hd,Around.frames_deeper hA,.inr ⟨rfl,rfl⟩,λb z=>absurd z (noA b),I.bs,Kn I.ok.AV I.sz,λb _ _=>noA b,λb z=>absurd z (noA b),I.stack,I.nK,I.ok.tabs.un I.base⟩,
  rfl,I.bare,Un.kept old,⟨_,hns,λi y w e1 e2 e3=>?_⟩,λy c e=>?_,I.ba.fresh (Kk _),λy c e=>I.gu y c (hcl y c e),λp hp=>absurd (show p∈([]:List (Addr×Obj)) from hp) (by simp),I.ba.kept old,?_⟩
 ·cases i with
  |zero =>
   have e1':some x=some y:=e1;have e2':some (some v)=some (some w):=e2
   cases e1';cases e2'
   exact⟨u,rv,.inl ⟨hloc,by simp⟩⟩
  |succ i =>
   obtain⟨h1,c,u',h2,h3,h4⟩:=hf i y w e1 e2;obtain⟨o,ho,hd'⟩:=h3;exact⟨u',h4,.inr ⟨.inr h1,c,h2,o,old _ _ ho,hd'⟩⟩
 ·obtain⟨v',o,ho,hd'⟩:=I.cell y c (hcl y c e);exact⟨v',o,old _ _ ho,hd'⟩
 ·show (some v::σf).length=(x::N).length;rw[Kq,Kq,hlen]
theorem zE(I:Inv X pins σ H s){A:Around}(hr:bR (k+1) A)(hA:A.frames=some X.stack){qual:Str}{v:V}{u:Value}{f:Addr}{t:TE}{Q:VK}
  (hk:scope.kind=.function) (hco:scope.isCoroutine=false) (hgen:scope.isGenerator=false) (hcell:∀y∈scope.names,y.2≠.cell) (rv:RelV v u) (hloc:scope.names.lookup x=some .local)
  (ho:s.heap.get? f=some (PySem.W.kla_obj "<lambda>" qual params body scope cl pm c' ctv)) (eW:s.heap.CodeRec (.ref c') qual)
  (hbind:∀u,bindArgs (PySem.W.kla_fn "<lambda>" qual params body scope cl pm (.ref c') ctv) ⟨[u],[]⟩=pure [(x,u)])
  (hlen:σf.length=N.length) (hcl:∀y c,cl.lookup y=some c->X.env.cells.lookup y=some c) (hhas:∀y,(scope.names.lookup y=some .cell\/scope.names.lookup y=some .free)->∃c,cl.lookup y=some c)
  (hf:∀(i:Nat) (y:Str) (v:V),N[i]?=some y->σf[i]?=some (some v)->scope.names.lookup y=some .free/\∃c u,cl.lookup y=some c/\s.heap.IsCell c (some u)/\RelV v u)
  (hb:PE (tN X A (x::N) qual scope f (.ref c') cl s H) body t) (hq:t (some v::σf) H Q) :
  wpAny (model X.prog X.w) A (call (.ref f) [u]) (EP X pins σ Q) (λ_ _=>False) s:=by
 refine wpAny_call (PySem.W.kla_callFunE hr.depth ho rfl hco hgen rfl eW ?_);rw[hbind];refine Ks (wpAny_newFunctionEnv hcell (λy hy=>by rw[Ku.mp hy];exact hloc) (λh₁ hns hsb=>⟨I.nolimit.fresh _ hsb,?_⟩) hk)
 have old:∀b o,s.heap.get? b=some o->h₁.get? b=some o:=λb o e=>hsb.extBut b o (KA (K0 e)) (Kg _ e);have J:=CL (tk:=s.toks+1) (qual:=qual) (f:=f) (cd:=.ref c') I hA hr.hd hk rv hloc hns old hlen hcl hhas hf;refine PySem.W.kla_codeExpr (Ls (hb [] _ _ H Q J hq) (λw s' h=>?_) λ_ _ h=>h.elim);obtain⟨v',H',J',r',q'⟩:=h;exact I.after ⟨v',H',J'.os,J'.bare,J'.base,J'.ba,r',q'⟩
end
inductive dZ:Hp->Hp->Prop
 |refl {H:Hp}:dZ H H
 |more {H H1:Hp} {p:Addr} {o:HO}:dZ H H1->H1 p=none->dZ H (upd H1 p o)
theorem dZ.same(g:dZ H H1):q_ H H1:=by
 induction g with
 |refl=>exact q_.refl _
 |more g n ih=>exactλb o e=>by rw[ae (ao (ih b o e) n)];exact ih b o e
theorem dZ.trans{H2:Hp}(a:dZ H H1)(b:dZ H1 H2):dZ H H2:=by
 induction b with
 |refl=>exact a
 |more _ n ih=>exact .more ih n
theorem jt{i j:Int}{ti tj:Tok}{c:Value}:∀l:List Value,TriplesOk l->TriplesOk (l++[.int i ti,.int j tj,c])
 |[],_=>trivial
 |.int _ _::.int _ _::_::r,h=>jt r (show TriplesOk r from h)
theorem mr{p:Pos}{i j:Int}{ti tj:Tok}{c cv:Value}:∀l:List Value,TriplesOk l->codeAmong p (l++[.int i ti,.int j tj,c])=some cv->codeAmong p l=some cv\/cv=c
 |[],_,e=>by
  have e':(if (i == p.line && j == p.col)=true then some c else codeAmong p [])=some cv:=e
  by_cases z:(i == p.line && j == p.col)=true
  ·rw[Kj z] at e';cases e';exact .inr rfl
  ·rw[Ki z] at e';cases e'
 |.int a ta::.int b tb::d::r,h,e=>by
  have e':(if (a == p.line && b == p.col)=true then some d else codeAmong p (r++[.int i ti,.int j tj,c]))=some cv:=e
  show (if (a == p.line && b == p.col)=true then some d else codeAmong p r)=some cv\/_
  by_cases z:(a == p.line && b == p.col)=true
  ·rw[Kj z] at e' ⊢;exact .inl e'
  ·rw[Ki z] at e' ⊢;exact mr r (show TriplesOk r from h) e'
theorem uT(q:Str)(more:Array Value):Aw (#[.str q 0]++more)=q:=by
 unfold Aw;rw[My];rfl
structure j8 (H:Hp) (f:Addr) (q:Str) (params:Arguments) (body:Expr) (scope:Scope) (cl:List (Str×Addr)) (c':Addr) (pm ctv:Value):Prop where
 fn:H f=some (.jG (PySem.W.kla_obj "<lambda>" q params body scope cl pm c' ctv) (.own f))
 cd:Dy H q (.ref c')
section
variable {X:Cx} {pins:List (Addr×Obj)} {σ:St} {H:Hp} {s:Shared} {E:Value->Shared->Prop}
theorem j8.up(x:j8 H f q params body scope cl c' pm ctv)(g:∀b o u,H b=some (.jG o u)->H1 b=some (.jG o u)):j8 H1 f q params body scope cl c' pm ctv:=
 ⟨g _ _ _ x.fn,let ⟨c,oc,vs,t,e1,e2,e3⟩:=x.cd;⟨c,oc,vs,t,e1,g _ _ _ e2,e3⟩⟩
theorem j8.get(x:j8 H f q params body scope cl c' pm ctv)(I:Inv X pins σ H s):
  s.heap.get? f=some (PySem.W.kla_obj "<lambda>" q params body scope cl pm c' ctv)/\s.heap.CodeRec (.ref c') q:=by
 obtain⟨c,oc,vs,t,e1,e2,e3,e4⟩:=x.cd;exact⟨(I.ba f _ x.fn).1,c,oc,vs,t,e1,(I.ba c _ e2).1,e3,e4⟩
theorem Inv.yM{o:Obj}{t':Nat}(I:Inv X pins σ H s)(k:∀b u,s.heap.get? b=some u->h'.get? b=some u)(hp:s.heap.objs.size<=f)(e:h'.get? f=some o):Inv X pins σ (upd H f (.jG o (.own f))) {s with heap:=h',toks:=t'}:=
 I.laid k hp ⟨e,o,e⟩
theorem x9(I:Inv X pins σ H s){c P:Addr}(hx:x∈dO)(ht:PySem.W.tabIn X.K x=some (c,P))(hcode:X.env.code=.ref c)(hq:X.env.qual=x++".<locals>."){pos:Pos}
  (hdef:defaultsOf params X.env=([],[])) (hcl:closureFor scope X.env=pure cl)
  (h:∀f c' pm ctv H1 s1,dZ H H1->Inv X pins σ H1 s1->j8 H1 f ((x++".<locals>.")++"<lambda>") params body scope cl c' pm ctv->Q (.ref f) s1) :
  wpAny (model X.prog X.w) X.A (eval (.Lambda params body scope pos) X.env) Q E s:=by
 have hm:(c,P,(x++".<locals>.")++"<lambda>")∈cy X.K:=Ni.mpr ⟨x,hx,by rw[ht];rfl⟩
 obtain⟨more,hP⟩:=(I.ok.tabs.un I.base) _ hm;have C:PySem.W.CodeHd s.heap c P:=(I.ok.mod.codes _ hm).keeps I.bk;obtain⟨qs,eP,tr,fa⟩:=I.ba P _ hP;have hns:=I.ok.mod.glob.keeps I.bk;have hgP:mainGlobals≠P:=λz=>by
  obtain⟨o,es,ep,e,_⟩:=I.ok.mod.glob;have:=(I.bs _ _ e).2;rw[z,hP] at this;cases this
 have hb:s.heap.BuiltinsAt X.mg P:=by
  obtain⟨bm,ob,b1,b2,b3,b4,b5⟩:=I.ok.mod.bm;refine⟨bm,ob,b1,b2,λz=>?_,λz=>?_,I.bk _ _ b3,b4,b5⟩
  ·obtain⟨o,es,ep,e,hd,_⟩:=I.ok.mod.glob;rw[z,e] at b3;cases b3;rw[hd] at b5;cases b5.2
  ·have:=(I.bs _ _ b3).2;rw[z,hP] at this;cases this
 refine PySem.W.kla_eval hdef ?_;rw[hq]
 cases ca:codeAmong pos qs.toList with
 |some cv =>
  have il:=fa pos cv ca;rw[uT] at il;obtain⟨c',oc,vs,t,rfl,e2,e3⟩:=il;refine PySem.W.kla_makeFunctionHit hcl I.ok.glob hns hcode C eP tr ca hb λctv h' tk hk hsz=>?_;have n0:H h'.objs.size=none:=I.ba.fresh hsz;have J:=I.yM (f:=h'.objs.size) (t':=tk) (h':=h'.push {cls:=.type "function",data:=.func (PySem.W.kla_fn "<lambda>" ((x++".<locals>.")++"<lambda>") params body scope cl ((X.mg "__name__").getD .none) (.ref c') ctv)}) (λb u e=>Kg _ (hk b u e)) hsz (Ky _ rfl);exact h _ c' _ ctv _ _ (.more .refl n0) J ⟨aa,c',oc,vs,t,rfl,by rw[ae (ao e2 n0)];exact e2,e3⟩
 |none =>
  refine PySem.W.kla_makeFunction hcl I.ok.glob hns hcode C eP tr ca hgP hb λc' ctv h' tk hx2 hge hlt hrec htb=>?_;obtain⟨c2,oc,vs,t,e2,hoc,hd,hv⟩:=hrec;cases e2;have nP:P≠c':=λz=>absurd (K0 eP) (by rw[z];exact P5.mpr hge)
  have n1:H c'=none:=I.ba.fresh hge;have keep:∀b u,b≠P->s.heap.get? b=some u->h'.get? b=some u:=λb u hb' e=>hx2 b u hb' e;have H1ne:∀b u,H b=some u->upd H c' (.jG oc (.own c')) b=some u:=λb u e=>by rw[ae (ao e n1)];exact e
  have hoP:∀y,H P≠some (.own y):=λy z=>by rw[hP] at z;cases z
  have J1:Inv X pins σ (upd H c' (.jG oc (.own c'))) {s with heap:=h',toks:=tk}:=by
   refine I.un ⟨λb o e n _ _=>keep b o (λz=>by rw[z,hP] at n;cases n) e,λb o e n _ _=>⟨o.slots,keep b o (λz=>by rw[z,hP] at n;cases n) e⟩,λb o e n _=>?_,λb o e _=>?_,λb xs e=>H1ne b _ e,λb o u e=>H1ne b _ e,λb ps e=>⟨#[],by rw[H1ne b _ e,Oi]⟩⟩ λb u e=>?_
   ·rw[ae (λz=>absurd (K0 e) (by rw[z];exact P5.mpr hge))];exact n
   ·by_cases z:b=P
    ·rw[z];exact⟨_,htb⟩
    ·exact⟨o,keep b o z e⟩
   ·by_cases z:b=c'
    ·subst z;rw[aa] at e;cases e;exact⟨hoc,oc,hoc⟩
    ·rw[ae z] at e;by_cases z2:b=P
     ·subst z2;rw[hP] at e;cases e;refine⟨_,htb,by rw[My];exact jt _ tr,λp cv hc=>?_⟩
      rw[My] at hc;rcases mr _ tr hc with q|q
      ·obtain⟨c2,oc2,vs2,t2,g1,g2,g3⟩:=fa p cv q;exact⟨c2,oc2,vs2,t2,g1,H1ne _ _ g2,g3⟩
      ·rw[uT];exact⟨c',oc,vs,t,q,aa,hd,hv⟩
     ·refine (I.ba b u e).ou (λc v hc q=>keep c v ?_ q) (λc q=>H1ne c _ q) (λc xs q=>H1ne c _ q) λc _ _ q=>H1ne c _ q;rcases hc with rfl|hc
      ·exact z2
      ·exactλz3=>hoP b (by rw[<- z3];exact hc)
  have n2:upd H c' (.jG oc (.own c')) h'.objs.size=none:=J1.ba.fresh (Kk _);have J:=J1.yM (f:=h'.objs.size) (t':=tk) (h':=h'.push (PySem.W.kla_obj "<lambda>" ((x++".<locals>.")++"<lambda>") params body scope cl ((X.mg "__name__").getD .none) c' ctv)) (λb u e=>Kg _ e) (Kk _) (Ky _ rfl);exact h _ c' _ ctv _ _ (.more (.more .refl n1) n2) J ⟨aa,c',oc,vs,t,rfl,by rw[ae (ao aa n2)];exact aa,hd,hv⟩
end
section
variable {α β:Type}
noncomputable def iC(p:Int×α):List (Int×α)->List (Int×α)
 |[]=>[p]
 |q::r=>if p.1<=q.1 then p::q::r else q::iC p r
noncomputable def fK:List (Int×α)->List (Int×α)
 |[]=>[]
 |p::r=>iC p (fK r)
abbrev G9(l:List (Int×α)):Prop:=l.Pairwise λp q=>p.1<=q.1
noncomputable def atK(a:Int)(l:List (Int×α)):List (Int×α):=l.filter λp=>decide (p.1=a)
theorem gU(p:Int×α):∀l,(iC p l).Perm (p::l)
 |[]=>.refl _
 |q::r=>by
  unfold iC;split
  ·exact .refl _
  ·exact ((gU p r).cons q).trans (List.Perm.swap p q r)
theorem eN:∀l:List (Int×α),(fK l).Perm l
 |[]=>.refl _
 |p::r=>(gU p _).trans ((eN r).cons p)
theorem vg{p:Int×α}:∀{l:List (Int×α)},G9 l->G9 (iC p l)
 |[],_=>Nt _ _
 |q::r,h=>by
  obtain⟨h1,h2⟩:=KY.mp h;unfold iC;split
  ·rename_i c;exact KY.mpr ⟨λz hz=>by
    rcases Kl.mp hz with rfl|hz
    ·exact c
    ·exact Int.le_trans c (h1 z hz),h⟩
  ·rename_i c;refine KY.mpr ⟨λz hz=>?_,vg h2⟩;rcases Kl.mp ((gU p r).mem_iff.mp hz) with rfl|hz
   ·lia
   ·exact h1 z hz
theorem qG:∀l:List (Int×α),G9 (fK l)
 |[]=>List.Pairwise.nil
 |_::r=>vg (qG r)
theorem bG(a:Int)(p:Int×α)(l:List (Int×α)):atK a (p::l)=if p.1=a then p::atK a l else atK a l:=by
 unfold atK;rw[List.filter_cons];by_cases z:p.1=a
 ·rw[Kj z,Kj (KG z)]
 ·rw[Ki z,Ki (by simp[z])]
theorem uN{a:Int}{p:Int×α}:∀{l:List (Int×α)},atK a (iC p l)=atK a (p::l)
 |[]=>rfl
 |q::r=>by
  unfold iC;split
  ·rfl
  ·rename_i c;rw[bG,uN,bG,bG,bG];by_cases z:p.1=a
   ·have z2:¬ q.1=a:=by lia
    simp only[z,z2,MQ,MX]
   ·simp only[z,MX]
theorem pO{a:Int}:∀l:List (Int×α),atK a (fK l)=atK a l
 |[]=>rfl
 |p::r=>by
  show atK a (iC p (fK r))=_;rw[uN,bG,bG,pO r]
theorem km{a:Int}:∀{l:List (Int×α)},(∀p∈l,a<p.1)->atK a l=[]
 |[],_=>rfl
 |p::r,h=>by
  have:=h p (Km ..);rw[bG,Ki (by lia),km λq hq=>h q (Ko _ hq)]
theorem mm:∀{l m:List (Int×α)},G9 l->G9 m->(∀a,atK a l=atK a m)->l=m
 |[],[],_,_,_=>rfl
 |[],q::m,_,_,h=>by
  have:=h q.1;rw[bG,Kj rfl] at this;cases this
 |p::l,[],_,_,h=>by
  have:=h p.1;rw[bG,Kj rfl] at this;cases this
 |p::l,q::m,hl,hm,h=>by
  obtain⟨l1,l2⟩:=KY.mp hl;obtain⟨m1,m2⟩:=KY.mp hm;have e:p.1=q.1:=by
   rcases Int.lt_trichotomy p.1 q.1 with z|z|z
   ·have q1:=h p.1;rw[bG,Kj rfl,bG,Ki (by lia),km (l:=m) λr hr=>by have:=m1 r hr;lia] at q1
    cases q1
   ·exact z
   ·have q1:=h q.1;rw[bG,Ki (by lia),bG,Kj rfl,km (l:=l) λr hr=>by have:=l1 r hr;lia] at q1
    cases q1
  have q1:=h p.1;rw[bG,Kj rfl,bG,Kj e.symm] at q1;obtain⟨q2,q3⟩:=List.cons.inj q1;subst q2;congr 1;refine mm l2 m2 λa=>?_;have q4:=h a;rw[bG,bG] at q4;by_cases z:p.1=a
  ·rw[Kj z,Kj z] at q4;exact (List.cons.inj q4).2
  ·rw[Ki z,Ki z] at q4;exact q4
theorem zx{l m:List (Int×α)}(hm:G9 m)(h:∀a,atK a m=atK a l):m=fK l:=mm hm (qG l) λa=>by rw[h a,pO]
abbrev GI(R:α->β->Prop):List (Int×α)->List (Int×β)->Prop:=Paired λp q=>p.1=q.1/\R p.2 q.2
theorem zm{R:α->β->Prop}{p:Int×α}{q:Int×β}(h:p.1=q.1/\R p.2 q.2){l:List (Int×α)}{m:List (Int×β)}(k:GI R l m):GI R (iC p l) (iC q m):=by
 induction k with
 |nil=>exact .cons h .nil
 |cons r t ih =>
  unfold iC;split
  ·rename_i z;rw[Kj (by rw[<- h.1,<- r.1];exact z)]
   exact .cons h (.cons r t)
  ·rename_i z;rw[Ki (by rw[<- h.1,<- r.1];exact z)]
   exact .cons r ih
theorem vz{R:α->β->Prop}{l:List (Int×α)}{m:List (Int×β)}(k:GI R l m):GI R (fK l) (fK m):=by
 induction k with
 |nil=>exact .nil
 |cons r t ih=>exact zm r ih
theorem A5{R:α->β->Prop}{ks:List Int}{l:List α}{m:List β}(k:Paired R l m):GI R (ks.zip l) (ks.zip m):=by
 induction k generalizing ks with
 |nil=>rw[List.zip_nil_right,List.zip_nil_right];exact .nil
 |cons r t ih =>
  cases ks with
  |nil=>exact .nil
  |cons k ks=>exact .cons ⟨rfl,r⟩ ih
theorem yp{R:α->β->Prop}{l:List (Int×α)}{m:List (Int×β)}(k:GI R l m):Paired R (l.map (·.2)) (m.map (·.2)):=by
 induction k with
 |nil=>exact .nil
 |cons r t ih=>exact .cons r.2 ih
noncomputable def j0(ks:List Int)(l:List α):List α:=(fK (ks.zip l)).map (·.2)
theorem uu{R:α->β->Prop}{ks:List Int}{l:List α}{m:List β}(h:Paired R l m):Paired R (j0 ks l) (j0 ks m):=yp (vz (A5 h))
theorem tS{ks:List Int}{l:List α}(h:ks.length=l.length):(j0 ks l).length=l.length:=by
 unfold j0;rw[Kc,(eN _).length_eq,OU,h,Mi]
theorem iN{ks:List Int}{l:List α}(h:ks.length=l.length):(j0 ks l).Perm l:=by
 have h2:((ks.zip l).map (·.2))=l:=List.map_snd_zip (by lia)
 have h3:=(eN (ks.zip l)).map (·.2);rw[h2] at h3;exact h3
end
theorem j6:∀{xs:List V} {us:List Value},Vals xs us->Paired RelV xs us
 |_,_,.nil=>.nil
 |_,_,.cons r t=>.cons r (j6 t)
theorem jz:∀{xs:List V} {us:List Value},Paired RelV xs us->Vals xs us
 |_,_,.nil=>.nil
 |_,_,.cons r t=>.cons r (jz t)
theorem u4:∀{us:List Value} {ns:List Int},IntsAre us ns->∀{i:Nat},i<ns.length->∃t,us.getD i Value.none=.int (ns.getD i 0) t
 |_,_,.cons n t h,0,_=>⟨t,rfl⟩
 |_,_,.cons n t h,i+1,hi=>u4 h (i:=i) (by simpa using hi)
theorem zy{p:List Nat}(hl:kz.length=us.length)(hp:p.Perm (List.range us.length))(hr:p.Pairwise (SP.R λi=>kz.getD i 0)):p.map (λi=>us.getD i Value.none)=j0 kz us:=by
 have ez:(List.range us.length).map (λi=>(kz.getD i 0,us.getD i Value.none))=kz.zip us:=by
  apply Na
  ·rw[Kc,Lc,OU,hl,Mi]
  ·intro i h1 h2;rw[Kc,Lc] at h1;rw[List.getElem_map,List.getElem_range,List.getElem_zip];simp[h1,hl]
 have e1:p.map (λi=>(kz.getD i 0,us.getD i Value.none))=fK (kz.zip us):=by
  refine zx ?_ λa=>?_
  ·exact O2.mpr (hr.imp λh=>h.le)
  ·have fl:∀l:List Nat,atK a (l.map λi=>(kz.getD i 0,us.getD i Value.none))=(l.filter λi=>decide (kz.getD i 0=a)).map λi=>(kz.getD i 0,us.getD i Value.none):=λl=>by
    unfold atK;rw[List.filter_map];rfl
   rw[<- ez,fl,fl];congr 1;refine List.Perm.eq_of_pairwise (le:=(· < ·)) (λa b _ _ h g=>absurd h (Nat.lt_asymm g)) ?_ (Pc.filter _) (hp.filter _);rw[List.pairwise_filter];refine hr.imp λ{i j} h hi hj=>?_;have hi:=LA hi;have hj:=LA hj;rcases h with h|h
   ·exfalso;have h':kz.getD i 0<kz.getD j 0:=h;lia
   ·exact h.2
 unfold j0;rw[<- e1,LP];rfl
section
variable {X:Cx} {pins:List (Addr×Obj)} {σ:St} {H:Hp} {s:Shared} {E:Value->Shared->Prop}
theorem Inv.take{D:Addr}{ob:Obj}{o:HO}{t':Nat}(I:Inv X ((D,ob)::pins) σ H s)(hs0:X.s₀.heap.objs.size<=D)(hnp:∀p∈X.pn++pins,p.1≠D)(k:∀b u,b≠D->s.heap.get? b=some u->h'.get? b=some u)(new:bQ X.prog X.w (upd H D o) h' D o):
  Inv X pins σ (upd H D o) {s with heap:=h',toks:=t'}:=by
 obtain⟨g1,g2,g3,g4,g5⟩:=I.pin (D,ob) (K6 _ (Km ..));have I0:Inv X pins σ H s:=⟨I.ok,I.os,I.bare,I.base,I.loc,I.cell,I.free,I.gu,λp hp=>I.pin p ((KJ.mp hp).elim (λz=>LW _ z) λz=>K6 _ (Ko _ z)),I.ba,I.len⟩;have ne:∀b u,H b=some u->b≠D:=λb u e=>ao e g2;refine I0.step (g':=s.gens) (d':=s.drawn) (ch:=[D]) (λb hb=>?_) (λb o' _ _ hc e _=>k b o' (λz=>hc (by rw[z];exact Ku.mpr rfl)) e) (λb o' _ _ hc e _=>⟨o'.slots,k b o' (λz=>hc (by rw[z];exact Ku.mpr rfl)) e⟩) (λb o' hc e n=>by rw[ae (λz=>hc (by rw[z];exact Ku.mpr rfl))];exact n)
  (λb o' hc e=>⟨o',k b o' (λz=>hc (by rw[z];exact Ku.mpr rfl)) e⟩) (λb xs e=>by rw[ae (ne b _ e)];exact e) (λb o' u e=>by rw[ae (ne b _ e)];exact e) (λb ps e=>⟨#[],by rw[ae (ne b _ e),e,Oi]⟩) (λm hm=>?_) (λb u e=>?_) I.bare
 ·rw[Ku.mp hb];refine⟨.inr hs0,g3,λx c e z=>?_,hnp⟩;obtain⟨v,o',ho',hd⟩:=I.cell x c e;rw[z,g1] at ho';cases ho';exact g5 v hd
 ·obtain⟨o',es,ep,ho',r⟩:=hm;exact⟨o',es,ep,k _ _ (L0 g3) ho',r⟩
 ·by_cases z:b=D
  ·subst z;rw[aa] at e;cases e;exact new
  ·rw[ae z] at e;refine (I.ba b u e).ou (λc v hc q=>k c v ?_ q) (λc q=>by rw[ae (ne c _ q)];exact q) (λc xs q=>by rw[ae (ne c _ q)];exact q) λc _ _ q=>by rw[ae (ne c _ q)];exact q
   rcases hc with rfl|hc
   ·exact z
   ·exact ne c _ hc
theorem tO{A:Around}{D:Nat}{st:SortSt}
  (I:Inv X ((D,seqObj "list" #[] e1)::pins) σ (upd H kS (.lst (kz.map V.int))) s) (hkS:H kS=none) (hD:H D=none) (hkD:kS≠D) (hs0:X.s₀.heap.objs.size<=D) (hnp:∀p∈X.pn++pins,p.1≠D)
  (hv:Vals xs us) (hlen:kz.length=us.length) (h64:us.length<64) (ho:((arrOf st).map (·.2)).toList=j0 kz us) (hfl:failedOf st=none)
  (h:∀s',Inv X pins σ (upd (upd H kS (.lst [])) D (.lst (j0 kz xs))) s'->P (.done (.ret .none)) s') :
  wpAny (model X.prog X.w) A (ksk_tail D false e1 (.ref kS) st) P E s:=by
 obtain⟨_,its,n,vr,ek⟩:=I.ba kS _ aa;have hz:its.toArray.size<=sizeLine:=by
  rw[Kh,<- vr.length,Kc,hlen,LO];lia
 have pD:=I.pin _ (K6 _ (Km ..));have hout:((arrOf st).map (·.2)).size=us.length:=by
  rw[<- KU,ho,tS hlen]
 have s1:=LC s.heap kS (Obj.mapSeq λ_=>(#[]:Array Value));obtain⟨c1,hc1⟩:∃c,(s.heap.update kS (Obj.mapSeq λ_=>(#[]:Array Value))).get? kS=some (seqObj "list" #[] c):=⟨_,NL ek λ_=>#[]⟩;have J1:Inv X ((D,seqObj "list" #[] e1)::pins) σ (upd H kS (.lst [])) {s with heap:=s.heap.update kS (Obj.mapSeq λ_=>(#[]:Array Value))}:=by
  have J:=I.write (x:=kS) (e:=kS) (o:=.lst []) (t':=s.toks) (h':=s.heap.update kS (Obj.mapSeq λ_=>(#[]:Array Value))) (by rw[aa];trivial) (.inl rfl) (λb u hb q=>(s1.2 b hb).trans q) ⟨_,hc1⟩ ⟨Kz _,[],c1,.nil,hc1⟩
  rw[m_] at J;exact J
 have pD1:=J1.pin _ (List.mem_append_right _ (List.mem_cons_self ..));have s2:=Heap.SameBut.update (s.heap.update kS (Obj.mapSeq λ_=>(#[]:Array Value))) D (Obj.mapSeq λ_=>(arrOf st).map (·.2));obtain⟨c2,hc2⟩:∃c,((s.heap.update kS (Obj.mapSeq λ_=>(#[]:Array Value))).update D (Obj.mapSeq λ_=>(arrOf st).map (·.2))).get? D=some (seqObj "list" ((arrOf st).map (·.2)) c):=⟨_,get?_update_seq pD1.1 λ_=>(arrOf st).map (·.2)⟩;have vB:Vals (j0 kz xs) (j0 kz us):=jz (uu (j6 hv));unfold ksk_tail;dsimp only;refine wpAny_bind (listUpdate_at ek rfl ?_ hz (Nat.zero_le _));refine wpAny_bind (wpAny_letGo ?_);refine wpAny_bind (seqEpoch_at pD1.1 rfl ?_);refine wpAny_bind (listUpdate_at pD1.1 rfl ?_ (Nat.zero_le _) (by show ((arrOf st).map (·.2)).size<=_;rw[hout,sizeLine_eq];lia))
 rw[hfl];simp only[bne_self_eq_false,Nl,MX];refine Ks (h _ (J1.take hs0 hnp (λb u hb q=>(s2.2 b hb).trans q) ⟨?_,j0 kz us,c2,vB,?_⟩))
 ·rw[vB.length,tS hlen,LO];lia
 ·rw[<- ho,Nb];exact hc2
theorem Fq{A:Around}{D:Nat}{us:List Value}{kz:List Int}{keys:Array Value}
  (I:Inv X ((D,seqObj "list" #[] e1)::pins) σ (upd H kS (.lst (kz.map V.int))) s) (hkS:H kS=none) (hD:H D=none) (hkD:kS≠D) (hs0:X.s₀.heap.objs.size<=D) (hnp:∀p∈X.pn++pins,p.1≠D)
  (hv:Vals xs us) (hlen:kz.length=us.length) (h64:us.length<64) (hk:IntsAre keys.toList kz)
  (h:∀s',Inv X pins σ (upd (upd H kS (.lst [])) D (.lst (j0 kz xs))) s'->P (.done (.ret .none)) s') :
  wpAny (model X.prog X.w) A (ksk_end D false us.toArray e1 (.ref kS) keys) P E s:=by
 have hsz:keys.size=us.length:=by
  have z:=hk.length;rw[KU] at z;exact z.trans hlen
 have hzs:(keys.zip us.toArray).size=us.length:=by
  rw[Array.size_zip,hsz,Kh,Mi]
 unfold ksk_end;dsimp only;rw[if_neg Bool.false_ne_true,if_neg Bool.false_ne_true];by_cases h2:us.toArray.size<2
 ·rw[if_pos h2,if_pos h2];refine wpAny_bind (wpAny_pure ?_);rw[StateT.run_pure];refine wpAny_bind (wpAny_pure ?_);dsimp only;refine tO I hkS hD hkD hs0 hnp hv hlen h64 ?_ rfl h;rw[List.size_toArray] at h2;have:=zy (us:=us) (kz:=kz) (p:=List.range us.length) hlen (List.Perm.refl _) (by
   rcases us with _|⟨x,_|⟨y,r⟩⟩
   ·exact .nil
   ·simp
   ·exfalso;simp only[Kq] at h2;lia)
  rw[<- this];show ((keys.zip us.toArray).map (·.2)).toList=_;rw[Array.toList_map,Array.toList_zip,List.map_snd_zip (by simp only[KU,Kh];lia)]
  apply Na
  ·simp
  ·intro i h1 h2;have h1':i<us.length:=h1;simp[h1']
 ·rw[Ki h2,Ki h2];rw[Kh] at h2;rw[ksk_kind hk (by lia)]
  refine Kb (Ks ?_);have ek:keys=keys.toList.toArray:=(Nb).symm;have hkl:keys.toList.length=us.length:=by rw[KU,hsz]
  have hat:∀i,i<us.length->∃t,keys.toList.getD i Value.none=.int (kz.getD i 0) t:=λi hi=>u4 hk (by rw[hlen];exact hi)
  generalize keys.toList=ks at *;subst ek;refine Kb (Ls (PySem.W.kat_run (ks:=ks) (vs:=us) (κ:=oneType') (Q:=λst' s'=>s'=s/\failedOf st'=none/\((arrOf st').map (·.2)).toList=j0 kz us)
   (G:=λp s'=>s'=s/\p.toList.Perm (List.range us.length)/\p.toList.Pairwise (SP.R λi=>kz.getD i 0)) hkl (by lia) h64 (λp st' s' a1 a2 a3 a4=>⟨a4.1,a3,by rw[PySem.W.kat_snds hkl a2];exact zy hlen a4.2.1 a4.2.2⟩) ?_) ?_ λ_ _ e=>e)
  ·refine SP.Df (k:=λi=>kz.getD i 0) (I:=λs'=>s'=s) (λi j C s' hi hj hI hC=>?_) (by lia) rfl λp s' hp hr hI=>⟨hI,hp,hr⟩
   subst hI;obtain⟨t1,e1⟩:=hat i hi;obtain⟨t2,e2⟩:=hat j hj;unfold PySem.W.kas_ask;rw[e1,e2];exact PySem.W.kat_lt_int (hC _ rfl)
  rintro⟨⟨⟩,st'⟩ s' ⟨rfl,hf,ho⟩;dsimp only;exact tO I hkS hD hkD hs0 hnp hv hlen h64 ho hf h
theorem lO:∀{us:List Value} {ns:List Int},Vals (ns.map V.int) us->IntsAre us ns
 |_,[],.nil=>.nil
 |_,n::ns,.cons ⟨t,e⟩ r=>by subst e;exact .cons n t (lO r)
theorem CN{A:Around}{D:Nat}{f:Value}
  (I:Inv X ((D,seqObj "list" #[] e1)::pins) σ (upd H kS (.lst [])) s) (hkS:H kS=none) (hD:H D=none) (hkD:kS≠D) (hs0:X.s₀.heap.objs.size<=D) (hnp:∀p∈X.pn++pins,p.1≠D)
  (hv:Vals xs us) (hlen:kz.length=us.length) (h64:us.length<64)
  (turn:∀(i:Nat) (u:Value) (k:Int),us[i]?=some u->kz[i]?=some k->∀pins' H' s',dZ H H'->Inv X pins' σ H' s'->wpAny (model X.prog X.w) A (call f [u]) (λr s2=>(∃t,r=.int k t)/\Inv X pins' σ H' s2) (λ_ _=>False) s')
  (h:∀s',Inv X pins σ (upd (upd H kS (.lst [])) D (.lst (j0 kz xs))) s'->P (.done (.ret .none)) s') :
  wpAny (model X.prog X.w) A (ksk_rest D f false us.toArray e1 (.ref kS)) P E s:=by
 unfold ksk_rest;refine Kb (O6 ?_)
 first
  |rw[List.forIn_toArray]
  | (rw[<- Array.forIn_toList];simp only[NZ])
 refine Kb (ksk_fold (λi s'=>Inv X ((D,seqObj "list" #[] e1)::pins) σ (upd H kS (.lst ((kz.take i).map V.int))) s') us 0 s I ?one ?all)
 case one =>
  intro j u s' hu J;rw[Ms] at J ⊢;have hj:j<us.length:=(Kf.mp hu).1;obtain⟨k,hkj⟩:∃k,kz[j]?=some k:=⟨_,Ka (by lia)⟩
  refine wpAny_bind (wpAny_attempt (wpAny_mono (turn j u k hu hkj _ _ s' (.more .refl hkS) J) (λr s2 hr=>?_) λ_ _ z=>z.elim));obtain⟨⟨t,rfl⟩,J2⟩:=hr;dsimp only;obtain⟨_,its,n,vr,ek⟩:=J2.ba kS _ aa;have lenI:its.length<=us.length:=by
   rw[<- vr.length,Kc,K8];lia
  have s1:=LC s2.heap kS (Obj.mapSeq (·.push (.int k t)));obtain⟨c1,hc1⟩:∃c,(s2.heap.update kS (Obj.mapSeq (·.push (.int k t)))).get? kS=some (seqObj "list" (its.toArray.push (.int k t)) c):=⟨_,NL ek (·.push (.int k t))⟩;have et:kz.take (j+1)=kz.take j++[k]:=by
   rw[List.take_add_one,hkj];rfl
  have vr2:Vals ((kz.take (j+1)).map V.int) (its++[.int k t]):=by
   rw[et,Kv];exact vr.append (.cons ⟨t,rfl⟩ .nil)
  refine Kb (listUpdate_at ek rfl ?_ (by rw[Kh,LO];lia) (by show (its.toArray.push (.int k t)).size<=_;rw[Array.size_push,Kh,LO];lia))
  refine Ks ⟨rfl,?_⟩;have J3:=J2.write (x:=kS) (e:=kS) (o:=.lst ((kz.take (j+1)).map V.int)) (t':=s2.toks) (h':=s2.heap.update kS (Obj.mapSeq (·.push (.int k t)))) (by rw[aa];trivial) (.inl rfl) (λb u hb q=>(s1.2 b hb).trans q) ⟨_,hc1⟩
   ⟨by rw[Kc,K8,LO];lia,its++[.int k t],c1,vr2,by rw[hc1,List.push_toArray]⟩
  rw[m_] at J3;exact J3
 case all =>
  intro s' J;have ez:kz.take (0+us.length)=kz:=La (by lia)
  have J':Inv X ((D,seqObj "list" #[] e1)::pins) σ (upd H kS (.lst (kz.map V.int))) s':=by
   rw[<- ez];rw[ez];simpa only[ez] using J
  obtain⟨_,its,n,vr,ek⟩:=J'.ba kS _ aa;refine Kb (OJ ek rfl ?_);exact Fq J' hkS hD hkD hs0 hnp hv hlen h64 (by rw[NZ];exact lO vr) h
theorem Cv{A:Around}{D:Addr}{n0:Nat}{h0:Heap}{f:Value}
  (I:Inv X pins σ H s) (k0:∀b o,s.heap.get? b=some o->h0.get? b=some o) (hDs:s.heap.objs.size<=D) (ho:h0.get? D=some (seqObj "list" us.toArray n0)) (hv:Vals xs us) (hlen:kz.length=us.length) (h64:us.length<64)
  (turn:∀(i:Nat) (u:Value) (k:Int),us[i]?=some u->kz[i]?=some k->∀pins' H' s',dZ H H'->Inv X pins' σ H' s'->wpAny (model X.prog X.w) A (call f [u]) (λr s2=>(∃t,r=.int k t)/\Inv X pins' σ H' s2) (λ_ _=>False) s')
  (h:∀H' s',dZ H H'->H' D=none->Inv X pins σ (upd H' D (.lst (j0 kz xs))) s'->P (.done (.ret .none)) s') :
  wpAny (model X.prog X.w) A (ksk_tree D f false) P E {s with heap:=h0}:=by
 have hsz0:D<h0.objs.size:=K0 ho;have s1:=LC h0 D (Obj.mapSeq λ_=>(#[]:Array Value));obtain⟨e1,ho1⟩:∃e,(h0.update D (Obj.mapSeq λ_=>(#[]:Array Value))).get? D=some (seqObj "list" #[] e):=⟨_,NL ho λ_=>#[]⟩;have hkz:((h0.update D (Obj.mapSeq λ_=>(#[]:Array Value))).push (seqObj "tuple" us.toArray 0)).objs.size=h0.objs.size+1:=by
  rw[size_push',OK]
 have nD:∀b o,s.heap.get? b=some o->b≠D:=λb o e=>KA (KI (K0 e) hDs);have keep:∀b o,s.heap.get? b=some o->(((h0.update D (Obj.mapSeq λ_=>(#[]:Array Value))).push (seqObj "tuple" us.toArray 0)).push (seqObj "list" #[] 0)).get? b=some o:=λb o e =>
  Kg _ (Kg _ ((s1.2 b (nD b o e)).trans (k0 b o e)))
 have hle:s.heap.objs.size<=h0.objs.size+1:=Kn hDs (LL (Mg hsz0));have hkD:h0.objs.size+1≠D:=LN (O0 hsz0);have hkS:H (h0.objs.size+1)=none:=I.ba.fresh hle;have hD:H D=none:=I.ba.fresh hDs;have hnp:∀p∈X.pn++pins,p.1≠D:=λp hp=>nD _ _ (I.pin p hp).1;have J0:Inv X pins σ (upd H (h0.objs.size+1) (.lst [])) {s with heap:=((h0.update D (Obj.mapSeq λ_=>(#[]:Array Value))).push (seqObj "tuple" us.toArray 0)).push (seqObj "list" #[] 0)}:=
  I.laid (t':=s.toks) keep hle ⟨Kz _,[],0,.nil,by rw[<- hkz];exact Ky _ rfl⟩
 have J:Inv X ((D,seqObj "list" #[] e1)::pins) σ (upd H (h0.objs.size+1) (.lst [])) {s with heap:=((h0.update D (Obj.mapSeq λ_=>(#[]:Array Value))).push (seqObj "tuple" us.toArray 0)).push (seqObj "list" #[] 0)}:=by
  refine J0.nB λp hp=>?_;rcases Kl.mp hp with rfl|hp
  ·exact⟨Kg _ (Kg _ ho1),by rw[ae (L0 hkD)];exact hD,λz=>absurd I.lt (by rw[<- z];exact P5.mpr hDs),I.HH hDs,λv z=>by cases z⟩
  ·exact J0.pin p (K6 _ hp)
 unfold ksk_tree;refine Kb (OJ ho rfl ?_);refine Kb (listUpdate_at ho rfl ?_ (by rw[Kh,LO];lia) (Kz _))
 refine Kb (seqEpoch_at ho1 rfl ?_);refine Kb (wpAny_newTuple ?_ (by show us.length<=_;rw[LO];lia))
 refine Kb (Ox ?_ (Kz _));refine L7 ?_;show wpAny _ _ (ksk_rest D f false us.toArray e1 (.ref ((h0.update D (Obj.mapSeq λ_=>(#[]:Array Value))).push (seqObj "tuple" us.toArray 0)).objs.size)) _ _ _;rw[hkz];exact CN J hkS hD hkD (Kn I.sz hDs) hnp hv hlen h64 turn λs' K=>h _ s' (.more .refl hkS) (by rw[ae (L0 hkD)];exact hD) K
end
noncomputable def A0(q:Str)(params:Arguments)(body:Expr)(scope:Scope)(cl:List (Str×Addr)):TE:=λ_ H Q=>∀f c' pm ctv H1,dZ H H1->j8 H1 f q params body scope cl c' pm ctv->Q (.ref f) H1
theorem xB{c P:Addr}(hx:x∈dO)(ht:PySem.W.tabIn X.K x=some (c,P))(hcode:X.env.code=.ref c)(hq:X.env.qual=x++".<locals>."){pos:Pos}
  (hdef:defaultsOf params X.env=([],[])) (hcl:closureFor scope X.env=pure cl):PE X (.Lambda params body scope pos) (A0 ((x++".<locals>.")++"<lambda>") params body scope cl):=λpins s σ H Q I h =>
 x9 I hx ht hcode hq hdef hcl λf c' pm ctv H1 s1 g J l=>⟨.ref f,H1,J,rfl,h f c' pm ctv H1 g l⟩
section
variable {X:Cx} {pins:List (Addr×Obj)} {σ:St} {H:Hp} {s:Shared} {E:Value->Shared->Prop}
noncomputable def tL(X:Cx)(A:Around)(s:Shared)(l:Addr)(xs:List V):Prop:=∀(Q:List Value->Shared->Prop) (E:Value->Shared->Prop),(∀h0 tk us,(∀b o,s.heap.get? b=some o->h0.get? b=some o)->s.heap.objs.size<=h0.objs.size->Vals xs us->Q us {s with heap:=h0,toks:=tk})->wpAny (model X.prog X.w) A (collect (.ref l)) Q E s
theorem wj{A:Around}{l:Addr}{Q:VK}(I:Inv X pins σ H s)(hcol:tL X A.in1 s l xs)(hlen:kz.length=xs.length)(h64:xs.length<64)
  (turn:∀(i:Nat) (v:V) (u:Value) (k:Int),xs[i]?=some v->RelV v u->kz[i]?=some k->∀pins' H' s',dZ H H'->Inv X pins' σ H' s'->wpAny (model X.prog X.w) A.in1.in1 (call (.ref f) [u]) (λr s2=>(∃t,r=.int k t)/\Inv X pins' σ H' s2) (λ_ _=>False) s')
  (h:∀H' D,dZ H H'->H' D=none->Q (.ref D) (upd H' D (.lst (j0 kz xs)))) :
  wpAny (model X.prog X.w) A (call (.builtin "sorted") [.ref l] [(Str.ofString "key",.ref f)]) (EP X pins σ Q) E s:=by
 refine call_function_entry_kw kind_sorted plain_sorted entry_sorted (ksk_s1 _ _) ?_;unfold Builtin.«sorted»;refine Kb (m:=checkCount "sorted" 1 1 _) (Ks (Kb (hcol _ _ λh0 tk us k0 hz hv=>?_)));have ul:us.length=xs.length:=hv.length.symm;refine Kb (Ox ?_ (by rw[ul,LO];lia))
 have hoL:(h0.push (seqObj "list" us.toArray 0)).get? h0.objs.size=some (seqObj "list" us.toArray 0):=Ky _ rfl;refine Kb (L7 (wpAny_call_entry_kw slot_list_sort ⟨_,hoL,rfl⟩ entry_list_sort ?srt (ksk_l1 _ _)))
 case srt =>
  show wpAny _ A.in1.in1 (Builtin.«list.sort» ⟨[.ref h0.objs.size],[(Str.ofString "key",.ref f)]⟩) _ _ _;rw[ksk_t1];refine Cv (s:={s with toks:=tk}) (h0:=h0.push (seqObj "list" us.toArray 0)) (I.tok tk) (λb o e=>Kg _ (k0 b o e)) hz hoL hv (by rw[ul];exact hlen) (by rw[ul];exact h64)
   (λi u k hu hk pins' H' s' g J=>?_) λH' s' g n J=>⟨_,rfl,?_⟩
  ·have hi:i<xs.length:=by rw[<- ul];exact (Kf.mp hu).1
   obtain⟨u',hu',rv⟩:=hv.get (Ka hi);rw[hu] at hu';cases hu';exact turn i _ u k (Ka hi) rv hk pins' H' s' g J
  ·exact Ks ⟨_,rfl,.ref h0.objs.size,_,J,rfl,h H' _ g n⟩
theorem r_{A:Around}{l:Addr}(I:Inv X pins σ H s)(hl:bB X.K H l xs)(h64:xs.length<64):tL X A s l xs:=λQ E h=>by
 obtain⟨its,rv,pl,hz⟩:=I.list hl;refine collect_list pl.isList (h _ s.toks its (λb o e=>?_) ?_ rv) (by rw[<- rv.length];exact hz)
 ·rw[Heap.get?_update_ne _ _ _ _ (KA (K0 e))];exact Kg _ e
 ·rw[OK,size_push'];exact Ln _
noncomputable def sx(src:Hp->Addr->List V->Prop)(pre:V->Int->Hp->St->Prop)(fr:St->St)(t:TA):TE:=λσ H Q=>t σ H λvs H1=>∃l xs kz,vs=[.ref l]/\src H1 l xs/\kz.length=xs.length/\xs.length<64 /\
 (∀(i:Nat) (v:V) (k:Int),xs[i]?=some v->kz[i]?=some k->∀H',dZ H1 H'->pre v k H' (fr σ))/\∀H2 D,dZ H1 H2->H2 D=none->Q (.ref D) (upd H2 D (.lst (j0 kz xs)))
theorem ph{p pos:Pos}{src:Hp->Addr->List V->Prop}{pre:V->Int->Hp->St->Prop}{fr:St->St}
  (hg:Gl X "sorted") (hm:X.mg "sorted"=none) (ha:PA X [e] t) (h1:eX e=true) (hr:bR (k+3) X.A) (hL:PE X (.Lambda params body scope lpos) (A0 q params body scope cl))
  (hsrc:∀pins σ H s H1 l xs A,Inv X pins σ H s->src H1 l xs->dZ H1 H->A.handled=none->xs.length<64->tL X A s l xs)
  (hk:scope.kind=.function) (hco:scope.isCoroutine=false) (hgen:scope.isGenerator=false) (hcell:∀y∈scope.names,y.2≠.cell) (hloc:scope.names.lookup x=some .local)
  (hbind:∀c' pm ctv u,bindArgs (PySem.W.kla_fn "<lambda>" q params body scope cl pm (.ref c') ctv) ⟨[u],[]⟩=pure [(x,u)])
  (hlen:∀σ:St,(fr σ).length=N.length) (hcl:∀y c,cl.lookup y=some c->X.env.cells.lookup y=some c) (hhas:∀y,(scope.names.lookup y=some .cell\/scope.names.lookup y=some .free)->∃c,cl.lookup y=some c)
  (hf:∀pins σ H s,Inv X pins σ H s->∀(i:Nat) (y:Str) (v:V),N[i]?=some y->(fr σ)[i]?=some (some v)->scope.names.lookup y=some .free/\∃c u,cl.lookup y=some c/\s.heap.IsCell c (some u)/\RelV v u)
  (hbody:∀A f c' s' H' σf v i,pre v i H' σf->∃t,PE (tN X A (x::N) q scope f (.ref c') cl s' H') body t/\t (some v::σf) H' (λw H2=>w=.int i/\H2=H')) :
  PE X (.Call (.Name "sorted" p) [e] [⟨some "key",.Lambda params body scope lpos,kpos⟩] pos) (sx src pre fr t):=by
 intro pins s σ H Q I h;refine MB (fR I hg hm (u:=.builtin "sorted") (by decide +kernel) ?_ (by decide) (by decide))
 have hkw:PK X [⟨some "key",.Lambda params body scope lpos,kpos⟩] (jw (A0 q params body scope cl) ow):=By hL Eh;refine callWith_kw ?_ (by rw[cH h1];rfl) (by rw[cH h1];rfl) rfl rfl
 refine bZ (ha pos pins s σ H _ I h) λus s1 hq1=>?_;obtain⟨vs,H1,I1,r1,q1⟩:=hq1;obtain⟨l,xs,kz,rfl,hs,hle,h64,hpre,qq⟩:=q1;obtain⟨u,rfl,ru⟩:=vals1 r1;cases ru;refine bZ (hkw pos pins s1 σ H1 (λzs H2=>∃f c' pm ctv,zs=[.ref f]/\dZ H1 H2/\j8 H2 f ((q)) params body scope cl c' pm ctv) I1 λf c' pm ctv H2 g lm=>⟨f,c',pm,ctv,rfl,g,lm⟩) λws s2 hq2=>?_;obtain⟨zs,H2,I2,rz,f,c',pm,ctv,e1,g,lm⟩:=hq2;subst e1;obtain⟨wv,rfl,rw1⟩:=vals1 rz;cases rw1;have hr1:bR (k+2) X.A.in1:=hr.in1;refine wj I2 (hsrc _ _ _ _ _ _ _ _ I2 hs g hr1.hd h64) hle h64 (λi v u j hv rv hj pins' H' s' g' J=>?_) λH' D g' n=>qq H' D (g.trans g') n;obtain⟨ho,eW⟩:=(lm.up λb o u e=>g'.same b _ e).get J;obtain⟨tb,hb,hq⟩:=hbody X.A.in1.in1 f c' s' H' (fr σ) v j (hpre i v j hv hj H' (g.trans g'));refine Ls (zE J hr1.in1 J.ok.frames hk hco hgen hcell rv hloc ho eW (hbind c' pm ctv) (hlen σ) hcl hhas (hf _ _ _ _ J) hb hq) (λr s4 hr4=>?_) λ_ _ z=>z;obtain⟨w,H4,J4,rw4,e4,e5⟩:=hr4;subst e4 e5;exact⟨rw4,J4⟩
end
theorem jM{a:α}{l:List (Str×α)}:List.lookup x ((x,a)::l)=some a:=by rw[Lf,L3]
theorem i8{y:Str}{a:α}{l:List (Str×α)}(h:y≠x):List.lookup y ((x,a)::l)=List.lookup y l:=by rw[Lf,KO.mpr h]
abbrev ki(n:Nat):List V:=(List.range n).map λk=>V.int ((k:Nat):Int)
section
variable {X:Cx} {pins:List (Addr×Obj)} {σ:St} {H:Hp} {s:Shared}
theorem pF{A:Around}{r:Addr}{n:Nat}(hh:A.handled=none)(I:Inv X pins σ H s)(hr:H r=some (.mK 0 n))(h64:n<64):tL X A s r (ki n):=λQ E h=>by
 obtain⟨t,u,v,e⟩:=I.ba r _ hr;have hn2:Builtin.Range.rangeSize 0 (n:Int) 1=n:=by rw[rangeSize_one];split<;>lia
 have hsm:Builtin.Range.small 0 (n:Int) 1=true:=small_one (by lia) (by lia) (by lia) (by lia)
 have oS:(s.heap.push {cls:=.type "list",data:=.seq ([]:List Value).toArray}).get? s.heap.objs.size=some {cls:=.type "list",data:=.seq #[] 0}:=Ky _ rfl;unfold collect;refine Kb (wpAny_runValue (ME PySem.F.entry_proto_collect ?_));rw[MY PySem.F.plain_proto_collect _];refine Kb (m:=newList []) (LK (Ks ⟨P8 PySem.F.plain_list_iadd _,ME PySem.F.entry_list_iadd ?_⟩));rw[MY PySem.F.plain_list_iadd _];show wpAny _ A.in1 (Builtin.List.listExtendWith _ _ _) _ _ _;refine wpAny_extend_range (R:=λr s'=>match r with|.ok (.ret v)=>wpAny (model X.prog X.w) A (match v with|.ref a=>do (match (<- load a).data with|.seq xs _=>pure xs.toList|_=>unsupported "internal:collect")|_=>unsupported "internal:collect") Q E s'|.ok _=>_|.error e=>E e s') (s:={s with heap:=s.heap.push {cls:=.type "list",data:=.seq ([]:List Value).toArray}}) hh (Kg _ e) hsm hn2 (by lia) s.heap.objs.size (.ref s.heap.objs.size) 0 oS λh' tk acc c' hk hS hI=>?_
 refine Kb (m:=load s.heap.objs.size) (wpAny_load hS (Ks (h h' tk acc.toList (λb o e=>hk b o (KA (K0 e)) (Kg _ e)) (Mg (K0 hS)) ?_)));have hv:=Y.ic (lo:=0) n acc.toList 0 (by simpa using hI.1) λj v e=>by
  obtain⟨t,e2⟩:=hI.2 j v (by simpa using e)
  exact⟨t,by rw[e2];simp⟩
 show Vals ((List.range n).map λk=>V.int ((k:Nat):Int)) acc.toList;rw[NN]
 simpa using hv
end
noncomputable def An(K:PJ):List V->Hp->VK->Prop:=λvs H1 Q=>∃l xs kz,vs=[.ref l]/\bB K H1 l xs/\kz.length=xs.length/\xs.length<64 /\
 (∀(i:Nat) (v:V) (k:Int),xs[i]?=some v->kz[i]?=some k->∀H',dZ H1 H'->∃p ys,v=.ref p/\aY K H' p (.int k::ys))/\∀H2 D,dZ H1 H2->H2 D=none->Q (.ref D) (upd H2 D (.lst (j0 kz xs)))
theorem aY.same{H':Hp}{a:Addr}(g:q_ H H')(h:aY K H a xs):aY K H' a xs:=by
 rcases h with (h|⟨o,h⟩)|h
 ·exact .inl (.inl (g _ _ h))
 ·exact .inl (.inr ⟨o,g _ _ h⟩)
 ·exact .inr h
theorem AA{p pos:Pos}{cj:Nat}(hg:Gl X "sorted")(hm:X.mg "sorted"=none)(ha:PA X [e] t)(h1:eX e=true)(hr:bR (k+3) X.A)
  (hL:PE X (.Lambda params (.Subscript (.Name x p1) (.Constant (.int 0) cj p2) p3) scope lpos) (A0 q params (.Subscript (.Name x p1) (.Constant (.int 0) cj p2) p3) scope []))
  (hsc:scope={kind:=.function,names:=[(x,.local)],isGenerator:=false,isCoroutine:=false,more:=[]}) (hx1:(x ==("__debug__":Str))=false) (hx2:(x ==("__classdict__":Str))=false)
  (hbind:∀c' pm ctv u,bindArgs (PySem.W.kla_fn "<lambda>" q params (.Subscript (.Name x p1) (.Constant (.int 0) cj p2) p3) scope [] pm (.ref c') ctv) ⟨[u],[]⟩=pure [(x,u)]) :
  PE X (.Call (.Name "sorted" p) [e] [⟨some "key",.Lambda params (.Subscript (.Name x p1) (.Constant (.int 0) cj p2) p3) scope lpos,kpos⟩] pos) (AH (An X.K) t):=by
 subst hsc;have lk:∀y,List.lookup y [(x,NameKind.local)]=if y=x then some .local else none:=λy=>by
  by_cases z:y=x
  ·rw[Kj z,z,jM]
  ·rw[Ki z,i8 z];rfl
 show PE X _ (sx (λH l xs=>bB X.K H l xs) (λv k H' _=>∃p ys,v=.ref p/\aY X.K H' p (.int k::ys)) (λ_=>[]) t);refine ph (N:=[]) hg hm ha h1 hr hL (λpins σ H s H1 l xs A I hs g _ h64=>r_ I (g.same.seq hs) h64) rfl rfl rfl (λy hy=>by rw[Ku.mp hy];nofun) (by rw[lk,Kj rfl]) hbind (λ_=>rfl) (λy c z=>by cases z) (λy z=>?_) (λ_ _ _ _ _ i y v z=>by cases z) λA f c' s' H' σf v i hp=>?_
 ·rw[lk] at z
  split at z
  ·rcases z with z|z<;>cases z
  ·rcases z with z|z<;>cases z
 ·obtain⟨a,ys,rfl,hq⟩:=hp;refine⟨_,ya nT (pv 0 rfl (.inl (by show List.lookup x [(x,NameKind.local)]=_;rw[lk,Kj rfl])) hx1 hx2) lP (Z.IW rfl),?_⟩
  exact⟨_,rfl,a,_,0,.int i,rfl,rfl,hq,b7 (j:=0) rfl,rfl,rfl⟩
noncomputable def JI(j:Nat)(σ:St):St:=[(σ[j]?).getD none]
noncomputable def jY(K:PJ)(j:Nat)(t:TA):TE:=sx (λH l xs=>∃n:Nat,H l=some (.mK 0 n)/\xs=ki n) (λv k H' σf=>∃i q ls,v=.int i/\σf=[some (.ref q)]/\aY K H' q ls/\cL ls i=some (.int k)) (JI j) t
theorem zu{p pos:Pos}{y:Str}{c:Addr}(hg:Gl X "sorted")(hm:X.mg "sorted"=none)(ha:PA X [e] t)(h1:eX e=true)(hr:bR (k+3) X.A)
  (hL:PE X (.Lambda params (.Subscript (.Name y p1) (.Name x p2) p3) scope lpos) (A0 q params (.Subscript (.Name y p1) (.Name x p2) p3) scope [(y,c)]))
  (hsc:scope={kind:=.function,names:=[(x,.local),(y,.free)],isGenerator:=false,isCoroutine:=false,more:=[]}) (hxy:y≠x) (hx1:(x ==("__debug__":Str))=false) (hx2:(x ==("__classdict__":Str))=false) (hy1:(y ==("__debug__":Str))=false) (hy2:(y ==("__classdict__":Str))=false)
  (hj:X.N[j]?=some y) (hyc:X.env.scope.names.lookup y=some .cell) (hyl:X.env.cells.lookup y=some c)
  (hbind:∀c' pm ctv u,bindArgs (PySem.W.kla_fn "<lambda>" q params (.Subscript (.Name y p1) (.Name x p2) p3) scope [(y,c)] pm (.ref c') ctv) ⟨[u],[]⟩=pure [(x,u)]) :
  PE X (.Call (.Name "sorted" p) [e] [⟨some "key",.Lambda params (.Subscript (.Name y p1) (.Name x p2) p3) scope lpos,kpos⟩] pos) (jY X.K j t):=by
 subst hsc;have lx:List.lookup x [(x,NameKind.local),(y,NameKind.free)]=some .local:=jM;have ly:List.lookup y [(x,NameKind.local),(y,NameKind.free)]=some .free:=by rw[i8 hxy,jM]
 have lz:∀z,z≠x->z≠y->List.lookup z [(x,NameKind.local),(y,NameKind.free)]=none:=λz h1 h2=>by rw[i8 h1,i8 h2];rfl
 have lc:List.lookup y [(y,c)]=some c:=jM;have lcz:∀z d,List.lookup z [(y,c)]=some d->z=y/\d=c:=λz d e=>by
  by_cases h:z=y
  ·rw[h,lc] at e;cases e;exact⟨h,rfl⟩
  ·rw[i8 h] at e;cases e
 refine ph (N:=[y]) hg hm ha h1 hr hL (λpins σ H s H1 l xs A I hs g hh h64=>?_) rfl rfl rfl (λz hz=>?_) lx hbind (λ_=>rfl) (λz d e=>?_) (λz hz=>?_) (λpins σ H s I i z v e1 e2=>?_) λA f c' s' H' σf v i hp=>?_
 ·obtain⟨n,hs,rfl⟩:=hs;rw[Kc,Lc] at h64;exact pF hh I (g.same _ _ hs) h64
 ·rcases Kl.mp hz with rfl|hz
  ·nofun
  ·rw[Ku.mp hz];nofun
 ·obtain⟨rfl,rfl⟩:=lcz z d e;exact hyl
 ·by_cases z1:z=x
  ·have hz':List.lookup z [(x,NameKind.local),(y,NameKind.free)]=some .cell\/List.lookup z [(x,NameKind.local),(y,NameKind.free)]=some .free:=hz;rw[z1,lx] at hz';rcases hz' with h|h<;>cases h
  ·by_cases z2:z=y
   ·rw[z2];exact⟨c,lc⟩
   ·have hz':List.lookup z [(x,NameKind.local),(y,NameKind.free)]=some .cell\/List.lookup z [(x,NameKind.local),(y,NameKind.free)]=some .free:=hz;rw[lz z z1 z2] at hz';rcases hz' with h|h<;>cases h
 ·cases i with
  |succ i=>cases e1
  |zero =>
   have e1':some y=some z:=e1;cases e1';have e2':some ((σ[j]?).getD none)=some (some v):=e2;have e3:σ[j]?=some (some v):=by
    cases hσ:σ[j]? with
    |none=>rw[hσ] at e2';cases e2'
    |some o=>rw[hσ] at e2';exact e2'
   obtain⟨m,_,hl⟩:=I.loc;obtain⟨u,rv,lk⟩:=hl j y v hj e3 (.inr (.inl hyc));refine⟨ly,c,u,lc,?_,rv⟩;rcases lk with ⟨z,_⟩|⟨_,d,z1,z2⟩
   ·have z':X.env.scope.names.lookup y=some .local:=z;rw[hyc] at z';cases z'
   ·rw[hyl] at z1;cases z1;exact z2
 ·obtain⟨ix,a,ls,rfl,rfl,hq,ha'⟩:=hp;refine⟨_,ya nT (pv 1 rfl (.inr (.inr ly)) hy1 hy2) (pv 0 rfl (.inl lx) hx1 hx2) (Z.IW rfl),?_⟩;exact⟨_,rfl,_,rfl,a,ls,ix,.int i,rfl,rfl,hq,ha',rfl,rfl⟩
theorem tJ{β:Type}{g:α->β}{ks:List Int}{l:List α}:j0 ks (l.map g)=(j0 ks l).map g:=by
 have p:∀l:List α,Paired (λa b=>b=g a) l (l.map g):=λl=>by
  induction l with
  |nil=>exact .nil
  |cons a l ih=>exact .cons rfl ih
 have q:∀{l:List α} {m:List β},Paired (λa b=>b=g a) l m->m=l.map g:=λ{l m} h=>by
  induction h with
  |nil=>rfl
  |cons r _ ih=>rw[r,ih];rfl
 exact q (uu (p l))
structure mG (K:PJ) (mg:Str->Option Value) (x:Str):Prop where
 ex:∃c P,PySem.W.tabIn K x=some (c,P)/\∀f cdv,FX K mg x f cdv->cdv=.ref c
theorem iB{c P:Addr}{oc oc':Value}{od od':Option Addr}{sl sl':Array (Option Value)}{fd:FuncData}{vs:Array Value}(a:PySem.W.nsIn K mainGlobals x=some (some (.ref f)))(l:K.lookup f=some ⟨oc,od,.func fd,sl⟩)(hc:fd.code=.ref c)
  (lc:K.lookup c=some ⟨oc',od',.fields vs,sl'⟩) (hv:vs[11]?=some (.ref P)):PySem.W.tabIn K x=some (c,P):=by
 unfold PySem.W.tabIn;rw[a];dsimp only;rw[l];dsimp only;rw[hc];dsimp only;rw[lc];dsimp only;rw[hv]
theorem sX(a:PySem.W.nsIn K mainGlobals x=some none):PySem.W.tabIn K x=none:=by
 unfold PySem.W.tabIn;rw[a]
theorem mG.mk'{mg:Str->Option Value}{c P:Addr}(X:K.In h)(G:h.Ns mainGlobals mg)(ht:PySem.W.tabIn K x=some (c,P)):mG K mg x:=
 ⟨c,P,ht,λf cdv ⟨m,o,fd,lk,hd,e⟩=>by rw[<- e];exact PySem.W.law_code X G ht m (X _ _ lk) hd⟩
theorem iF.of{q:Program}{o1 o2 o3:Option (Addr×Addr)}(nt:PySem.W.noTabs K=true)(t1:PySem.W.tabIn K "by_worth"=o1)(t2:PySem.W.tabIn K "by_weight"=o2)(t3:PySem.W.tabIn K "code_of"=o3)(nd:((o1.toList++(o2.toList++o3.toList)).map (·.2)).Nodup)
  (f1:o1=none\/((recsOf q).find? (λe=>e.name ==("by_worth":Str))).isSome=true) (f2:o2=none\/((recsOf q).find? (λe=>e.name ==("by_weight":Str))).isSome=true) (f3:o3=none\/((recsOf q).find? (λe=>e.name ==("code_of":Str))).isSome=true):iF q K:=by
 refine⟨nt,?_,λx hx=>?_⟩
 ·have e:(cy K).map (·.2.1)=(o1.toList++(o2.toList++o3.toList)).map (·.2):=by
   unfold cy dO
   cases o1<;>cases o2<;>cases o3<;>simp[List.filterMap,t1,t2,t3]
  rw[e];exact nd
 ·unfold dO at hx;rcases Kl.mp hx with rfl|hx
  ·rw[t1];exact f1
  ·rcases Kl.mp hx with rfl|hx
   ·rw[t2];exact f2
   ·rw[Ku.mp hx,t3];exact f3
namespace Y
def CD:V->List V->Hp->VK->Prop:=λx vs H Q=>∃z y,x=.str z/\vs=[.str y]/\z.length<=sizeLine/\Q (.str (Txt.rstripChars z y)) H
theorem m8:xf X "str.rstrip" CD:=by
 intro pins s σ H x xs v us Q I rx rs h;obtain⟨z,y,rfl,rfl,hz,q⟩:=h;obtain⟨t,rfl⟩:=rx;obtain⟨u,rfl,k,rfl⟩:=vals1 rs;exact SC.rstripChars (λt' k=>⟨.str _,H,I.tok _,⟨_,rfl⟩,q⟩) hz
noncomputable def Ex:V->List V->Hp->VK->Prop:=λx vs H Q=>∃z i y,x=.str z/\vs=[.int i,.str y]/\0<=i/\i<1000/\y.length=1/\Q (.str (Txt.ljustF z i (y.cps.getD 0 0))) H
theorem pZ:xf X "str.ljust" Ex:=by
 intro pins s σ H x xs v us Q I rx rs h;obtain⟨z,i,y,rfl,rfl,h0,h1,hy,q⟩:=h;obtain⟨t,rfl⟩:=rx;obtain⟨u1,u2,rfl,⟨t1,rfl⟩,⟨t2,rfl⟩⟩:=vals2 rs;exact ljust_fill (padOk_of (by lia) (by lia)) hy λt' k=>⟨.str _,H,I.tok _,⟨_,rfl⟩,q⟩
end Y
theorem pe(x y:Str):(Txt.rstripChars x y).cps.toList.reverse=x.cps.toList.reverse.dropWhile y.cps.contains:=by
 have key:∀(p:Nat->Bool) (l:List Nat),(l.take (l.length-(l.reverse.takeWhile p).length)).reverse=l.reverse.dropWhile p:=λp l=>by
  have h:(l.reverse.takeWhile p).length<=l.length:=by simpa using (List.takeWhile_sublist p (l:=l.reverse)).length_le
  rw[List.reverse_take,<- tF];congr 1;lia
 have hl:x.length=x.cps.toList.length:=by rw[KU];rfl
 rw[<- key];unfold Txt.rstripChars Txt.stripBy;split
 ·rename_i h;unfold stripSame at h;rw[Lo] at h;have h2:x.length-(x.cps.toList.reverse.takeWhile y.cps.contains).length=x.length:=by simpa[stripLo,stripHi] using h.2
  rw[<- hl,h2,hl,Li]
 ·have e:∀(a:Array Nat) (j:Nat),(a.extract 0 j).toList=a.toList.take j:=λa j=>by simp
  have e2:=e x.cps (x.length-(x.cps.toList.reverse.takeWhile y.cps.contains).length);rw[hl] at e2;exact K_ List.reverse e2
namespace Y
def Ht:R2:=λx y H Q=>∃(c:Nat) (k:Int),x=.str ⟨#[c]⟩/\y=.int k/\0<=k/\k<=1000/\Q (.str ⟨(List.replicate k.toNat c).toArray⟩) H
theorem uC:dh X (binaryOp .Mult) Ht:=by
 intro pins s σ H x y v u Q I rx ry h;obtain⟨c,k,rfl,rfl,h0,h1,q⟩:=h;obtain⟨t,rfl⟩:=rx;obtain⟨t2,rfl⟩:=ry;have e:Txt.mul ⟨#[c]⟩ k=⟨(List.replicate k.toNat c).toArray⟩:=by
  have:=mul_one_list c k
  cases hz:Txt.mul ⟨#[c]⟩ k with
  |mk a=>rw[hz] at this;rw[<- this,Nb]
 have ok:MulOk ⟨#[c]⟩ k:=by
  refine⟨by simp only[Bool.or_eq_false_iff,decide_eq_false_iff_not];lia,λz _=>?_,λz _=>?_⟩
  ·have hl:((⟨#[c]⟩:Str).length:Int)=1:=rfl;rw[hl];have:1<=(2^63-1) / k:=by
    rw[Pd (by lia)];lia
   lia
  ·have hl:(⟨#[c]⟩:Str).length=1:=rfl;rw[hl,Nat.one_mul];exact KH (P5.mpr (Kn (show k.toNat<=1000 by lia) (by decide)))
 exact SB.mul ok λt' j=>⟨.str _,H,I.tok _,⟨t',by rw[e]⟩,q⟩
end Y
theorem qm:∀{ns:List Int} {us:List Value} (r:Vals (ns.map V.int) us) (k:Int),us.countP (λv=>match v with|.int j _=>j == k|_=>false)=ns.count k
 |[],_,.nil,k=>rfl
 |n::ns,_,.cons r t,k=>by
  obtain⟨u,rfl⟩:=r;rw[List.countP_cons,qm t k,NP]
theorem qI:∀{ns:List Int} {us:List Value} (r:Vals (ns.map V.int) us),∀y∈us,∃j t,y=.int j t
 |[],_,.nil,y,h=>by cases h
 |n::ns,_,.cons r t,y,h=>by
  obtain⟨u,rfl⟩:=r;rcases Kl.mp h with e|e
  ·exact⟨_,_,e⟩
  ·exact qI t y e
namespace Y
noncomputable def Jx:V->List V->Hp->VK->Prop:=λx vs H Q=>∃(a:Addr) (ns:List Int) (k:Int),x=.ref a/\H a=some (.lst (ns.map V.int))/\vs=[.int k]/\Q (.int (ns.count k:Nat)) H
theorem ED:G7 X "list.count" Jx:=by
 intro pins s σ H x xs v us Q I rx rs h;obtain⟨a,ns,k,rfl,hH,rfl,q⟩:=h;cases rx;obtain⟨u,rfl,t,rfl⟩:=vals1 rs;obtain⟨z,its,n,r,hl,e⟩:=I.mf hH;refine Me PySem.F.slot_list_count ⟨_,e,rfl⟩ PySem.F.entry_list_count (PySem.F.args_list_count_2 _ _) (SeqAt.list_countAt a its.toArray n none _ (.int k t) (λv=>match v with|.int j _=>j == k|_=>false)) ⟨e,λy hy=>?_,⟨.int _,H,I.tok _,⟨_,rfl⟩,?_⟩⟩
 ·obtain⟨j,u,rfl⟩:=qI r y (by simpa using hy)
  exact SeqAt.EqAt.int_int _ _ _ _
 ·show Q (.int (((its.toArray).toList.countP _:Nat):Int)) H;rw[qm r k];exact q
noncomputable def Jp:V->List V->Hp->VK->Prop:=λx vs H Q=>∃l b xs ys,x=.ref l/\vs=[.ref b]/\b≠l/\H l=some (.lst xs)/\H b=some (.lst ys)/\xs.length+ys.length<=sizeLine/\Q .aX (upd H l (.lst (xs++ys)))
theorem Er:G7 X "list.extend" Jp:=by
 intro pins s σ H x vs v us Q I rx rv h;obtain⟨l,b,xs,ys,rfl,rfl,hne,hH,hb,hz,q⟩:=h;cases rx;obtain⟨u,rfl,ru⟩:=vals1 rv;cases ru;obtain⟨z,its,n,r,hl,e⟩:=I.mf hH;obtain⟨z2,its2,n2,r2,hl2,e2⟩:=I.mf hb;have hsz:its.toArray.size+its2.toArray.size<=sizeLine:=by rw[Kh,Kh];lia
 refine Me F.slot_list_extend ⟨_,e,rfl⟩ F.entry_list_extend (F.args_list_extend_2 _ _) (AutoSeq1.list_extend_list_list_0 l its.toArray n b its2.toArray n2 (extend_door hsz) (by lia) (by lia)) ⟨e,e2,?_⟩
 refine⟨.aX,_,I.CA (its':=its++its2) hH e ?_ (r.append r2) (by rw[Ke];exact hz),rfl,q⟩
 apply OL.mp;simp
end Y
noncomputable def Ai:Bool->List α->List α
 |_,[]=>[]
 |true,x::r=>x::Ai false r
 |false,_::r=>Ai true r
noncomputable def i3(l:List α):List α:=Ai true l
theorem B0(ys:List α):∀b,(Ai b ys).length<=ys.length:=by
 induction ys with
 |nil=>exactλb=>by cases b<;>exact Kk _
 |cons y r ih =>
  intro b
  cases b with
  |true=>exact N6 (ih false)
  |false=>exact LL (ih true)
theorem B6(ys:List α):(i3 ys).length<=ys.length:=B0 ys true
theorem Vals.i3(h:Vals xs us):Vals (i3 xs) (i3 us):=by
 have k:∀b,Vals (Ai b xs) (Ai b us):=by
  induction h with
  |nil=>exactλb=>by cases b<;>exact .nil
  |cons h _ ih =>
   intro b
   cases b with
   |true=>exact .cons h (ih false)
   |false=>exact ih true
 exact k true
theorem A9(xs:List α)(n m:Nat)(h:(xs.length-m+1) / 2=n):((List.range n).map λk=>m+2*k).filterMap (λi=>xs[i]?)=i3 (xs.drop m):=by
 induction n generalizing m with
 |zero=>rw[List.drop_of_length_le (by lia)];rfl
 |succ n ih =>
  have hm:m<xs.length:=by lia
  have h2:(xs.length-(m+2)+1) / 2=n:=by lia
  rw[List.range_succ_eq_map,K9,Nf];show (match xs[m]? with|none=>_|some b=>_)=_
  rw[Ka hm];have e2:i3 (xs.drop m)=xs[m]::i3 (xs.drop (m+2)):=by
   rw[Lq hm];show xs[m]::Ai false (xs.drop (m+1))=_;congr 1;rw[<- Pw (i:=1) (j:=m+1)];generalize xs.drop (m+1)=z
   cases z<;>rfl
  rw[e2,<- ih (m+2) h2,LP];show xs[m]::_=xs[m]::_;congr 2;exact NX λk _=>by show m+2*(k+1)=m+2+2*k;rw[Nat.mul_succ,PF (2*k),Nd]
theorem zF(items:Array Value)(m:Nat):slicePick items (some (m:Int)) none (some 2)=(i3 (items.toList.drop m)).toArray:=by
 unfold slicePick;have hb:sliceBounds (some (m:Int)) none (some 2) items.size=(((min m items.size:Nat):Int),(items.size:Int),2):=by
  unfold sliceBounds;simp only[Option.getD_some];rw[Ki (show ¬ (m:Int)<0 by lia)]
  simp only[show (2:Int) > 0 by decide,MQ]
  congr 1;lia
 rw[hb];show ((sliceRange ((min m items.size:Nat):Int) (items.size:Int) 2).filterMap (items[·]?)).toArray=_;congr 1;have el:items.toList.length=items.size:=KU;unfold sliceRange;simp only[show (2:Int) > 0 by decide,MQ]
 have ec:(if ((min m items.size:Nat):Int)<(items.size:Int) then ((items.size:Int)-((min m items.size:Nat):Int)+2-1) / 2 else 0).toNat=(items.size-m+1) / 2:=by
  split<;>lia
 rw[ec,<- A9 items.toList _ m (by rw[el])]
 have ei:(λi:Nat=>items[i]?)=λi=>items.toList[i]?:=funext λi=>(KQ).symm;rw[ei];congr 1;refine NX λk hk=>?_;have hk':=LJ.mp hk;lia
section
variable {X:Cx} {e:Expr} {te:TE}
noncomputable def Gf(K:PJ)(m:Nat)(te:TE):TE:=λσ H Q=>te σ H λx H1=>∃a xs,x=V.ref a/\bB K H1 a xs/\∀p,H1 p=none->Q (.ref p) (upd H1 p (.lst (i3 (xs.drop m))))
theorem Gh{i:Int}{m j2:Nat}{pos:Pos}(hi:i=(m:Int))(he:PE X e te):PE X (.Subscript e (.Slice (some (.Constant (.int i) j p1)) none (some (.Constant (.int 2) j2 p3)) p2) pos) (Gf X.K m te):=by
 subst hi;intro pins s σ H Q I h;refine Subscript_ (bZ (he pins s σ H _ I h) λv s1 hq1=>?_);obtain⟨x,H1,I1,r1,q1⟩:=hq1;refine wpAny_Slice (bZ (oa lP pins s1 σ H1 (λo H2=>o=some (m:Int)/\H2=H1) I1 ⟨_,rfl,rfl,rfl⟩) λvl s2 hq2=>?_);obtain⟨l,H2,I2,pl,el,eh⟩:=hq2;subst el eh;refine bZ (ur pins s2 σ H2 (λo H3=>o=none/\H3=H2) I2 ⟨rfl,rfl⟩) λvu s3 hq3=>?_;obtain⟨u,H3,I3,pu,eu,eh⟩:=hq3;subst eu eh;refine bZ (oa lP pins s3 σ H3 (λo H4=>o=some 2/\H4=H3) I3 ⟨_,rfl,rfl,rfl⟩) λvk s4 hq4=>?_;obtain⟨k,H4,I4,pk,ek,eh⟩:=hq4;subst ek eh;obtain⟨a,xs,rfl,hx,q⟩:=q1;cases r1;have I5:Inv X pins σ H4 {s4 with heap:=s4.heap.push {cls:=.type "slice",data:=.fields #[vl,vu,vk]}}:=I4.kept (t':=s4.toks) λb ob q=>Kg _ q
 obtain⟨its,r,ht,hz⟩:=I5.list hx;have hlen:=r.length;have hg:wpAny (model X.prog X.w) X.A (getItem (.ref a) (.ref s4.heap.objs.size)) (EP X pins σ Q) X.xe {s4 with heap:=s4.heap.push {cls:=.type "slice",data:=.fields #[vl,vu,vk]}}:=by
  refine OF ht.isList (Heap.IsSliceOf.new ..) pl pu pk (by simp) ?_ (by rw[Kh]<;>lia)
  rw[zF];refine⟨.ref _,_,I5.laid (t':=s4.toks) (o:=.lst (i3 (xs.drop m))) (λb ob q=>Kg _ q) (Kk _) ?_,rfl,q _ (I5.ba.fresh (Kk _))⟩;refine⟨by have:=B6 (xs.drop m);rw[KP] at this;lia,i3 (its.drop m),0,Vals.i3 (r.drop m),?_⟩
  exact Ky _ rfl
 show wpAny (model X.prog X.w) X.A (subscriptTail e (.Slice (some (.Constant (.int (m:Int)) j p1)) none (some (.Constant (.int 2) j2 p3)) p2) (.ref a) (.ref s4.heap.objs.size)) (EP X pins σ Q) X.xe {s4 with heap:=s4.heap.push {cls:=.type "slice",data:=.fields #[vl,vu,vk]}}
 exact tail_any (ops:=[.ref a,.ref s4.heap.objs.size]) ht.isList.typeIs Oz.lookup hg (by with_unfolding_all rfl)
end
namespace Y
noncomputable def zo(K:PJ):List V->Hp->VK->Prop:=λxs H Q=>DZ K xs H Q\/∃p ns,xs=[.ref p]/\bB K H p (ns.map V.int)/\ns.length<64/\∀ns':List Int,ns'.Perm ns->ns'.Pairwise (·<=·)->∀l,H l=none->Q (.ref l) (upd H l (.lst (ns'.map V.int)))
theorem rC(K:PJ)(hK:X.K=K):bE X (.builtin "sorted") (zo K):=by
 refine (wN K hK).or ?_;subst hK;intro pins s σ H xs us Q I r h;obtain⟨p,ns,rfl,hq,h64,q⟩:=h;obtain⟨u,rfl,ru⟩:=vals1 r;cases ru;obtain⟨its,rv,pl,hz⟩:=I.list hq;have hi:=intsAre_of rv;refine sorted_ints pl.isList hi (by rw[ll hi];exact h64) λout ns' a1 a2 a3=>?_
 obtain⟨e,he⟩:=sortedAll_at s.heap its out;refine⟨.ref (s.heap.objs.size+1),_,I.laid (t':=s.toks) (λb ob q=>sortedAll_old q) (Ln _) (show bQ X.prog X.w _ _ _ (.lst (ns'.map V.int)) from⟨?_,out.toList,e,f_ a1,by simpa using he⟩),rfl,q ns' a2 a3 _ (I.ba.fresh (Ln _))⟩
 rw[Kc,a2.length_eq];exact Kn (Mg h64) (by decide)
def Ih:V->List V->Hp->VK->Prop:=λx vs H Q=>∃a:Int,x=.int a/\vs=[]/\Q (.int (Builtin.Int.intBits a:Nat)) H
theorem uz:xf X "int.bit_length" Ih:=by
 intro pins s σ H x xs v us Q I rx rs h;obtain⟨a,rfl,rfl,q⟩:=h;obtain⟨t,rfl⟩:=rx;obtain rfl:=Paired.vC rs;exact call_int_bit_length ⟨.int _,H,I.tok _,⟨_,rfl⟩,q⟩
end Y
def jd(h:Heap)(d:Addr)(es:Array DictEntry)(ep:Nat):Prop:=∃o,h.get? d=some o/\o.ExactDict/\o.data=.dict es ep
section
variable {prog:Program} {w:World} {A:Around} {E:Value->Shared->Prop} {s:Shared}
theorem jd.ty(x:jd s.heap d es ep):s.TypeIs (.ref d) "dict":=let ⟨o,ho,hc,_⟩:=x;⟨o,ho,hc.1⟩
theorem jd.keep(x:jd h d es ep)(k:∀o,h.get? d=some o->h'.get? d=some o):jd h' d es ep:=let ⟨o,ho,r⟩:=x;⟨o,k _ ho,r⟩
theorem jd.lt(x:jd h d es ep):d<h.objs.size:=let ⟨_,ho,_⟩:=x;K0 ho
theorem B_(low:(d == sysModules)=false)(x:jd s.heap d es ep)
  (q:Q (.ref s.heap.objs.size) {s with heap:=s.heap.push {cls:=.type "dict_keyiterator",data:=.fields #[.ref d,.int 0 0,.int es.size 0,.int ep 0]}}):wpAny (model prog w) A (pyIter (.ref d)) Q E s:=by
 obtain⟨o,ho,hx,hdat⟩:=id x;refine wpAny_pyIter_slot x.ty PySem.F.slot_dict_iter (L4 PySem.F.slot_dict_iter x.ty PySem.F.entry_dict_iter ?_ (PySem.F.args_dict_iter_1 _));unfold Builtin.«dict.__iter__» Builtin.Dict.dictSlotNone;refine Kb (Kb (wpAny_notOrdered_dict x.ty ?_));show wpAny _ _ (pure (Value.ref d)) _ _ s;refine Ks ?_;show wpAny _ _ (Builtin.Dict.showsAll d >>= _) _ _ s;unfold Builtin.Dict.showsAll;rw[low,Ki Kx];refine Kb (Ks (Kb (Nx ho hdat (Kb (OV ho hdat ?_)))));exact Kb (LK (Ks ⟨_,rfl,"dict_keyiterator",_,⟨_,Ky _ rfl,rfl⟩,PySem.F.slot_dict_keyiterator_next.lookup,q⟩))
theorem CO{it:Addr}{Q:Option Value->Shared->Prop}(hit:s.heap.IsKeyIter it d i es.size ep)(x:jd s.heap d es ep)(hi:i<es.size)
  (q:∀h',h'.IsKeyIter it d (i+1) es.size ep->Heap.SameBut it s.heap h'->Q (some es[i].key) {s with heap:=h'}):wpAny (model prog w) A (pyNext (.ref it)) Q E s:=by
 obtain⟨o,ho,hc,hd⟩:=id hit;obtain⟨od,hod,hx,hdd⟩:=id x;unfold pyNext;refine Kb (N4 (Ll (name:=Str.ofString "__next__") hit.typeIs PySem.F.slot_dict_keyiterator_next (L4 PySem.F.slot_dict_keyiterator_next hit.typeIs PySem.F.entry_dict_keyiterator_next ?_ (PySem.F.args_dict_keyiterator_next_1 _))));refine Kb (Ks (Kb (Kb ?_)))
 first|refine Kb (Mb hit.typeIs (Ks (Kb (Of ho hd ?_))))|refine Kb (Mv hit.typeIs (Ks (Kb (Of ho hd ?_))))
 simp only[show Builtin.Dict_items.ownsTuple "dict_keyiterator"=false by decide,Nl,MX]
 show wpAny _ _ (if (Value.ref d == Value.none)=true then _ else _) _ _ s;rw[Ki (show ¬ ((Value.ref d == Value.none)=true) from Kx)]
 refine Kb (Ks (Kb (Nx hod hdd ?_)));rw[Ki (by simp)]
 refine Kb (Ks (Kb (OV hod hdd ?_)));rw[Ki (by simp)]
 refine Ks ?_;simp only[show ¬ ((i:Int)<0) by lia,MX,KN,OA hi]
 refine Kb ?_
 first|refine Kb (Mb hit.typeIs (Ks (Kb (NB hit.typeIs ?_))))|refine Kb (Mv hit.typeIs (Ks (Kb (NB hit.typeIs ?_))))
 show wpAny _ _ (setField (.ref it) 1 (rawInt ((i:Int)+1)) >>= _) _ _ s;refine Kb (Oc ho hd (by simp) ?_)
 have h2:(s.heap.update it (Obj.mapFields (·.setIfInBounds 1 (rawInt ((i:Int)+1))))).IsKeyIter it d (i+1) es.size ep:=⟨_,MP _ ho (Obj.isFreed_of_fields (Nm hd _)),(Obj.cls_mapFields ..).trans hc,by rw[Nm hd];simp[rawInt]⟩
 refine Kb (L7 (Kb (NB (s:={s with heap:=s.heap.update it (Obj.mapFields (·.setIfInBounds 1 (rawInt ((i:Int)+1))))}) h2.typeIs ?_)))
 show wpAny _ _ (pure es[i].key) _ _ _;exact Ks (Ks ⟨_,rfl,Ks (q _ h2 (LC ..))⟩)
theorem C1{it:Addr}{Q:Option Value->Shared->Prop}(hh:A.handled=none)(hit:s.heap.IsKeyIter it d es.size es.size ep)(x:jd s.heap d es ep)
  (q:∀h',Heap.ExtBut it s.heap h'->Q none {s with heap:=h'}):wpAny (model prog w) A (pyNext (.ref it)) Q E s:=by
 obtain⟨o,ho,hc,hd⟩:=id hit;obtain⟨od,hod,hx,hdd⟩:=id x;unfold pyNext;refine Kb (N4 (Ll (name:=Str.ofString "__next__") hit.typeIs PySem.F.slot_dict_keyiterator_next (L4 PySem.F.slot_dict_keyiterator_next hit.typeIs PySem.F.entry_dict_keyiterator_next ?_ (PySem.F.args_dict_keyiterator_next_1 _))));refine Kb (Ks (Kb (Kb ?_)))
 first|refine Kb (Mb hit.typeIs (Ks (Kb (Of ho hd ?_))))|refine Kb (Mv hit.typeIs (Ks (Kb (Of ho hd ?_))))
 simp only[show Builtin.Dict_items.ownsTuple "dict_keyiterator"=false by decide,Nl,MX]
 show wpAny _ _ (if (Value.ref d == Value.none)=true then _ else _) _ _ s;rw[Ki (show ¬ ((Value.ref d == Value.none)=true) from Kx)]
 refine Kb (Ks (Kb (Nx hod hdd ?_)));rw[Ki (by simp)]
 refine Kb (Ks (Kb (OV hod hdd ?_)));rw[Ki (by simp)]
 refine Ks ?_;simp only[show ¬ ((es.size:Int)<0) by lia,MX,KN,Pe (Kk es.size)]
 refine Kb ?_
 first|refine Kb (Mb hit.typeIs (Ks ?_))|refine Kb (Mv hit.typeIs (Ks ?_))
 show wpAny _ _ (setField (.ref it) 0 .none >>= _) _ _ s;refine Kb (Oc ho hd (by simp) ?_)
 show wpAny _ _ (newExc (.type "StopIteration") [] >>= _) _ _ _;refine Kb ?_;simp only[newExc,newTuple];refine Kb (LK ?_ (by size_fits))
 refine Kb (m:=firstArgMember _ _) (wpAny_of_eq (a:=Value.none) (by first|rfl | (simp only[firstArgMember];rfl)) (LK ?_ (by size_fits)))
 simp only[raiseNew];refine Kb (wpAny_handled ?_);rw[show A.in1.handled=none from hh];refine Kb (Ks (wpAny_throw ?_));refine Kb (wpAny_isInstance (T:="StopIteration") (b:=true) ⟨_,Ky _ rfl,rfl⟩ isSubtype_stop ?_);exact Ks (q _ (((LC ..).extBut.push _).push _))
end
theorem Ao{w:World}{A:Around}(hh:A.handled=none)(I d:Addr)(ne:d≠I)(es:Array DictEntry)(ep:Nat):
  Walks prog w A I [I,d] [I] es.size (λi v=>∃h:i<es.size,v=es[i].key) (λi h=>h.IsKeyIter I d i es.size ep/\jd h d es ep) where
 sub:=λb hb=>by simp at hb;simp[hb]
 frame:=λ_ _ _ st hk=>⟨st.1.at λo e=>hk I (by simp) o e,st.2.keep λo e=>hk d (by simp) o e⟩
 item:=λi s Q E hi st hQ=>CO st.1 st.2 hi λh' a b=>hQ _ h' s.toks ⟨hi,rfl⟩ ⟨a,st.2.keep λo e=>b.extBut _ _ ne e⟩ λc o hc e=>b.extBut c o (λh=>hc (by simp[h])) e
 done:=λs Q E st hQ=>C1 hh st.1 st.2 λh' he=>hQ h' s.toks λc o hc e=>he c o (λh=>hc (by simp[h])) e
 self:=λ_ _ _ _ st hQ=>wpAny_pyIter_keyiter st.1 hQ
theorem FW{w:World}(low:(d == sysModules)=false):PySem.W.KdlSrc prog w "dict" d d es.size (λi v=>∃h:i<es.size,v=es[i].key) (λh=>jd h d es ep) where
 type:=λ_ x=>x.ty
 there:=λ_ x=>⟨x.lt,x.lt⟩
 keep:=λ_ _ x k=>x.keep λo e=>k d (.inl rfl) o e
 notList:=by decide
 notTuple:=by decide
 hint:=λ_ _ _ _ x q=>PySem.W.kdl_hint_dict x.ty q
 iter:=λ_ _ hh x=>⟨_,_,(λ_ _ q=>B_ low x q),Ao hh _ d (KA x.lt) es ep,⟨⟨_,Ky _ rfl,rfl,rfl⟩,x.keep λ_ e=>Kg _ e⟩⟩
theorem yK{es:List DictEntry}(h:KTD.Rows (zM K) es D):es.length=D.length:=by
 induction h with
 |nil=>rfl
 |cons _ _ _ ih=>simp[ih]
theorem zf{es:List DictEntry}(h:KTD.Rows (zM K) es D):Vals (D.map λp=>V.str p.1) (es.map λe=>e.key):=by
 induction h with
 |nil=>exact .nil
 |cons e _ _ ih=>exact .cons ⟨_,e⟩ ih
noncomputable def EF(K:PJ)(D:List (Str×List Str)):List V->Hp->VK->Prop:=λxs H Q=>∃d,xs=[.ref d]/\lH K d D/\D.length<=sizeLine/\∀l,H l=none->Q (.ref l) (upd H l (.lst (D.map λp=>V.str p.1)))
theorem lh(K:PJ)(hK:X.K=K)(hc:X.calm=true):bE X (.type "list") (EF K D):=by
 intro pins s σ H xs us Q I r h;subst hK;obtain⟨d,rfl,hd,hz,q⟩:=h;obtain⟨u,rfl,rx⟩:=vals1 r;cases rx;obtain⟨o,es,ep,ho,hx,hdat,hr⟩:=hd.ex;have at0:jd s.heap d es ep:=⟨o,I.pM _ _ ho,hx,hdat⟩;have hl:es.size=D.length:=by rw[<- yK hr,KU]
 refine PySem.W.kdl_call (FW hd.low) (I.ok.hd hc) at0 (by rw[hl];exact hz) λh' tk acc c' hk hS hI=>?_
 have hv:Vals (D.map λp=>V.str p.1) acc.toList:=by
  have e:acc.toList=es.toList.map λe=>e.key:=by
   refine O1 λj=>?_;rw[KQ,Kp,KQ]
   cases z:acc[j]? with
   |none =>
    have:acc.size<=j:=Oy.mp z;rw[Pe (by rw[<- hI.1];exact this)];rfl
   |some v =>
    obtain⟨hj,rfl⟩:=hI.2 j v z;rw[OA hj];rfl
  rw[e];exact zf hr
 refine⟨.ref s.heap.objs.size,_,I.laid (t':=tk) hk (Kk _) (show bQ X.prog X.w _ h' _ (.lst _) from⟨?_,acc.toList,c',hv,by simpa using hS⟩),rfl,q _ (I.ba.fresh (Kk _))⟩
 rw[Kc];exact hz
section
variable {K:PJ} {g:TG} {tb:TS} {D:Ends} {σ:St} {H:Hp} {te:TE} {Q:VK}
theorem gj{a:Addr}(hn:xs.length<=sizeLine)(Pv:Addr->Nat->List V->Hp->Prop)(h0:∀D,H D=none->Pv D 0 [] (upd H D (.lst [])))(hD:∀D i ys H',Pv D i ys H'->H' D=some (.lst ys)/\ys.length=i)
  (hl:∀D i ys H',Pv D i ys H'->bB K H' a xs)
  (hs:∀D i ys H' x (R:VK),xs[i]?=some x->Pv D i ys H'->(∀v H5,H5 D=some (.lst ys)->Pv D (i+1) (ys++[v]) (upd H5 D (.lst (ys++[v])))->R v H5)->te (some x::σ) H' R) (hd:∀D ys H',Pv D xs.length ys H'->Q (.ref D) H') :
  j5 (xt K a) 1 (bp 0) dW te Q σ H:=by
 intro D hD0;refine⟨λi m ys σ' H'=>m=xs.length-i/\i<=xs.length/\Pv D i ys H'/\∃o,σ'=o::σ,⟨xs.length,by simp,Kz _,h0 D hD0,none,rfl⟩,?_⟩
 rintro i m ys σ' H' ⟨rfl,hi,p,o,rfl⟩;obtain⟨hDi,hly⟩:=hD _ _ _ _ p;have q:=hl _ _ _ _ p;refine⟨hDi,?_⟩;by_cases hlt:i<xs.length
 ·refine .inr ⟨⟨xs,xs[i],q,by simp[hlt]⟩,by lia,λx H2 y=>?_⟩
  obtain⟨rfl,y⟩:=y;unfold bp dW;dsimp only;rw[if_pos rfl];exact hs D i ys H2 x _ (y xs q) p λv H5 q1 q2=>⟨q1,xs.length-(i+1),by lia,rfl,hlt,q2,_,rfl⟩
 ·have e:i=xs.length:=by lia
  subst e;exact .inl ⟨⟨xs,q,Kk _⟩,hd D ys H' p⟩
end
def but(B:lR)(a:Addr):lR:=λb=>B b/\b≠a
def J7(K:PJ)(mg:Str->Option Value)(x:Str):Prop:=∃p o,mg x=some (.ref p)/\K.lookup p=some o/\o.dict=none
noncomputable def vY(d:Addr)(o:Obj)(kvs:List (Key×V)):It:=⟨λi H=>H d=some (.jG o (.dK kvs))/\i<kvs.length,λi H x H'=>H'=H/\∃p,kvs[i]?=some p/\x=kV p.1,λi H=>H d=some (.jG o (.dK kvs))/\i=kvs.length⟩
open Builtin Builtin.Str
open PySem PySem.Spec PyProof PyProof.Rows
open Builtin Builtin.Str
open PySem PySem.Spec PyProof PyProof.Rows
open PySem PySem.Spec PyProof PyProof.Rows PySem.W
open PySem PySem.Calls PySem.NumText PySem.Spec PyProof PyProof.Rows
variable{cs:List Nat}{E Q:Value->Shared->Prop}{x:PySem.Str}{P prog:Program}{w:World}{X:Cx}{i k:Nat}{h h':Heap}{xs:List V}{β:Type}{K:PJ}{es:List Expr}{a:Addr}{σ:St}{H:Hp}{ta:TA}{p:Pos}{e:Expr}
noncomputable def kP(cs:List Nat):Nat:=cs.foldl (λa c=>a*2+(c-48)) 0
def e9(cs:List Nat):Prop:=∀c∈cs,c=48\/c=49
theorem GK{c:Nat}(h:c=48\/c=49)(ds:Array Nat)(b:Bool):step 2 (ds,b) c=some (ds.push (c-48),true):=by
 rcases h with rfl|rfl<;>rfl
theorem DK:∀(cs:List Nat) (ds:Array Nat) (b:Bool),e9 cs->∃ds':Array Nat,cs.foldlM (step 2) (ds,b)=some (ds',b || !cs.isEmpty)/\ds'.foldl (λa d=>a*2+d) 0=cs.foldl (λa c=>a*2+(c-48)) (ds.foldl (λa d=>a*2+d) 0)
 |[],ds,b,_=>⟨ds,by simp,rfl⟩
 |c::cs,ds,b,h=>by
  obtain⟨ds',e1,e2⟩:=DK cs (ds.push (c-48)) true λx hx=>h x (Ko _ hx);refine⟨ds',?_,?_⟩
  ·rw[List.foldlM_cons,GK (h c Km)];show cs.foldlM (step 2) (ds.push (c-48),true)=_;rw[e1];simp
  ·rw[e2,Array.foldl_push,NI]
theorem vR{c:Nat}(h:c=48\/c=49):blank c=false:=by rcases h with rfl|rfl<;>rfl
theorem qO(h:e9 cs):cs.dropWhile blank=cs:=by
 cases cs with
 |nil=>rfl
 |cons c cs=>rw[Ng,vR (h c Km)];rfl
theorem yk(h:e9 cs):sign cs=(false,cs):=by
 cases cs with
 |nil=>rfl
 |cons c cs=>rcases h c Km with rfl|rfl<;>rfl
theorem vD(h:e9 cs):based 2 cs=(2,false,cs):=by
 have e:PySem.NumText.prefix? cs=none:=by
  rcases cs with _|⟨c,_|⟨d,cs⟩⟩
  ·rfl
  ·rcases h c Km with rfl|rfl<;>rfl
  ·rcases h c Km with rfl|rfl
   ·rcases h d (Ko _ Km) with rfl|rfl<;>rfl
   ·rfl
 unfold based;rw[e];rfl
theorem AO{cs:List Nat}(h:e9 cs)(h0:cs≠[]):(int_private% "readNumeral") 0 2 cs=(int_private% "Numeral.value") (kP cs:Int):=by
 rw[readNumeral_eq,qO h,yk h];show judge 0 false (based 2 cs).1 (based 2 cs).2.1 (digits? (based 2 cs).1 (((based 2 cs).2.2.reverse.dropWhile blank).reverse))=_;rw[vD h];show judge 0 false 2 false (digits? 2 ((cs.reverse.dropWhile blank).reverse))=_;rw[qO (cs:=cs.reverse) (λc hc=>h c (Md.mp hc)),M_];obtain⟨ds,e1,e2⟩:=DK cs #[] false h;have e3:digits? 2 cs=some ds:=by
  unfold digits?;rw[e1]
  cases cs with
  |nil=>exact absurd rfl h0
  |cons=>rfl
 rw[e3];show (int_private% "Numeral.value") ((ds.foldl (λacc d=>acc*2+d) 0:Nat):Int)=_;rw[e2];rfl
theorem pz:∀{cs:List Nat},e9 cs->cs.takeWhile (· != 0)=cs
 |[],_=>rfl
 |c::cs,h=>by
  rw[NW,show (c != 0)=true by rcases h c Km with rfl|rfl<;>rfl,Kj rfl,pz λx hx=>h x (Ko _ hx)]
theorem zD{M:Model}{A:Around}{s:Shared}{v:Value}{text:List Nat}{n:Int}
  (hs:(text.takeWhile (· != 0)).length<=640) (hr:(int_private% "readNumeral") 0 2 (text.takeWhile (· != 0))=(int_private% "Numeral.value") n)
  (ha:((text.takeWhile (· != 0)).length == text.length)=true) (h:Q (.int n s.toks) {s with toks:=s.toks+1}) :
  wpAny M A ((int_private% "intFromText") v text 2) Q E s:=by
 obtain⟨hp,g,d,tk,os⟩:=s
 repeat (any_goals (first
  |assumption
  | (with_reducible refine Og (KG hs) ?_)
  | (with_reducible refine Og (KG ha) ?_)
  |wp_step))
 all_goals (try rw[hr])
 all_goals (try dsimp only)
 repeat (any_goals (first
  |assumption
  | (with_reducible refine Og (KG hs) ?_)
  | (with_reducible refine Og (KG ha) ?_)
  |wp_step))
theorem qP{u t:Tok}(hl:x.length<=640)(hb:e9 x.cps.toList)(h0:x.cps.toList≠[]):Gives (Builtin.«int.__new__» ⟨[.type "int",.str x u,.int 2 t],[]⟩) (.int (kP x.cps.toList)):=
 .of_wp λM A E s Q h=>by
  obtain⟨hp,g,d,tk,os⟩:=s;have f1:=F.conv_sub_int;have f2:=F.madeHere_int;have f6:typeOf (.str x u)=pure (.type "str"):=rfl;have ht:x.cps.all (· < 128)=true:=by
   rw[<- Array.all_toList,LR];intro c hc;rcases hb c hc with rfl|rfl<;>rfl
  have hs:=pz hb;have hk:=PySem.W.KIN.Hid.mk (And.intro (show (x.cps.toList.takeWhile (· != 0)).length<=640 by rw[hs];exact hl) (And.intro (show (int_private% "readNumeral") 0 2 (x.cps.toList.takeWhile (· != 0))=(int_private% "Numeral.value") (kP x.cps.toList:Int) by rw[hs];exact AO hb h0) (show ((x.cps.toList.takeWhile (· != 0)).length == x.cps.toList.length)=true by rw[hs];simp)))
  clear hs hl hb h0
  repeat (any_goals (first
   |assumption
   | ((with_reducible show wpAny _ _ ((int_private% "intFromText") _ _ _) _ _ _);(try rw[Kj ht]);refine zD hk.out.1 hk.out.2.1 hk.out.2.2 ?_)
   |wp_step))
  all_goals first|exact⟨_,rfl,h⟩|skip
theorem lg(a b:Value):checkTypeCall "int" ⟨[a,b],[]⟩=pure ():=by kernel_rfl
theorem lT(a b:Value):checkBuiltinCall "int.__new__" ⟨[.type "int",a,b],[]⟩=pure ():=by kernel_rfl
theorem sP{A:Around}{s:Shared}{u t:Tok}(hl:x.length<=640)(hb:e9 x.cps.toList)(h0:x.cps.toList≠[])(h:Q (.int (kP x.cps.toList) s.toks) {s with toks:=s.toks+1}):wpAny (model prog w) A (call (.type "int") [.str x u,.int 2 t]) Q E s:=
 OH F.called_int F.newNe_int (lg _ _) (lT _ _) (λobj=>F.args_object_init_3 obj _ _) F.entry_int_new (qP hl hb h0).meets (show (Made.int _).post _ s from⟨rfl,h⟩)
noncomputable def DH:List V->Hp->VK->Prop:=λxs H Q=>∃z:Str,xs=[.str z,.int 2]/\z.length<=640/\e9 z.cps.toList/\z.cps.toList≠[]/\Q (.int (kP z.cps.toList)) H
theorem mN:bE X (.type "int") DH:=by
 intro pins s σ H xs us Q I r h;obtain⟨z,rfl,h1,h2,h3,q⟩:=h;obtain⟨u,v,rfl,⟨t,rfl⟩,⟨t',rfl⟩⟩:=vals2 r;exact sP h1 h2 h3 ⟨.int _,H,I.tok _,⟨_,rfl⟩,q⟩
abbrev Src:=Bool×Addr×Addr
variable{q:Src}
abbrev fW(h:Heap)(T:Addr)(xs:List Value):Prop:=h.get? T=some {cls:=.type "tuple",data:=.seq xs.toArray}
structure Zn (z TI TO:Addr) (S:List Src):Prop where
 zt:TI≠z/\TO≠z/\TI≠TO
 it:∀q∈S,q.2.1≠z/\q.2.1≠TI/\q.2.1≠TO
 sr:∀q∈S,q.2.2≠z/\q.2.2≠TO/\∀p∈S,q.2.2≠p.2.1
 nd:(S.map λq=>q.2.1).Nodup
def rO(i:Nat)(h:Heap)(q:Src):Prop:=kB q.1 h q.2.1 q.2.2 i
def DS(h:Heap)(q:Src)(xs:Array Value):Prop:=cG q.1 h q.2.2 xs
theorem rO.kp(x:rO i h q)(k:∀o,h.get? q.2.1=some o->h'.get? q.2.1=some o):rO i h' q:=by
 obtain⟨b,it,a⟩:=q
 cases b with
 |true=>obtain⟨o,e,r⟩:=(show h.IsListIter it a i from x);exact⟨o,k o e,r⟩
 |false=>obtain⟨o,e,r⟩:=(show h.IsTupleIter it a i from x);exact⟨o,k o e,r⟩
theorem DS.kp{xs:Array Value}(x:DS h q xs)(k:∀o,h.get? q.2.2=some o->h'.get? q.2.2=some o):DS h' q xs:=by
 obtain⟨b,it,a⟩:=q
 cases b with
 |true=>obtain⟨o,e,r⟩:=(show h.IsList a xs from x);exact⟨o,k o e,r⟩
 |false=>obtain⟨o,e,r⟩:=(show h.IsTuple a xs from x);exact⟨o,k o e,r⟩
def pE(i:Nat)(h:Heap)(q:Src)(u:Value):Prop:=rO i h q/\∃xs,DS h q xs/\xs[i]?=some u
theorem pE.kp{u:Value}(x:pE i h q u)(k:∀c o,c=q.2.1\/c=q.2.2->h.get? c=some o->h'.get? c=some o):pE i h' q u:=⟨x.1.kp λo=>k _ o (.inl rfl),let ⟨xs,a,b⟩:=x.2;⟨xs,a.kp λo=>k _ o (.inr rfl),b⟩⟩
section
variable {prog:Program} {w:World} {A:Around} {E:Value->Shared->Prop} {z TI TO:Addr} {S:List Src} {i:Nat}
noncomputable def Step(prog:Program)(w:World)(A:Around)(E:Value->Shared->Prop)(z TI TO:Addr)(S:List Src)(i:Nat)(f:Value×Nat->β->Sem (ForInStep β))(b:β):Prop:=
 ∀q∈S,∀(j:Nat) (arr:List Value) (u:Value) (s:Shared) (Q:ForInStep β->Shared->Prop),IsZip s.heap z TI TO .ellipsis->fW s.heap TO arr->arr.length<=3->pE i s.heap q u ->
  (∀h' tk,fW h' TO (arr.set j u)->rO (i+1) h' q->(∀c o,c≠TO->c≠q.2.1->s.heap.get? c=some o->h'.get? c=some o)->h'.objs.size=s.heap.objs.size->Q (.yield b) {s with heap:=h',toks:=tk})->wpAny (model prog w) A (f (.ref q.2.1,j) b) Q E s
theorem CG(D:Zn z TI TO S){f:Value×Nat->β->Sem (ForInStep β)}{b:β}(hf:Step prog w A E z TI TO S i f b):
  ∀(todo:List Src) (us pre old:List Value) (s:Shared) (Q:β->Shared->Prop),(∀q∈todo,q∈S)->(todo.map λq=>q.2.1).Nodup->IsZip s.heap z TI TO .ellipsis->fW s.heap TO (pre++old)->(pre++old).length<=3->old.length=todo.length->Paired (pE i s.heap) todo us ->
  (∀h' tk,IsZip h' z TI TO .ellipsis->fW h' TO (pre++us)->(∀q∈todo,rO (i+1) h' q)->(∀c o,c≠TO->(∀q∈todo,c≠q.2.1)->s.heap.get? c=some o->h'.get? c=some o)->h'.objs.size=s.heap.objs.size->Q b {s with heap:=h',toks:=tk}) ->
  wpAny (model prog w) A (forIn ((todo.map λq=>Value.ref q.2.1).zipIdx pre.length) b f) Q E s:=by
 intro todo
 induction todo with
 |nil =>
  intro us pre old s Q _ _ hz ht _ hl dr k;obtain rfl:=Paired.vC dr;have e:old=[]:=Mc.mp hl;subst e;rw[Mh,List.zipIdx_nil,List.forIn_nil];exact Ks (k s.heap s.toks hz ht (λq hq=>(nomatch hq)) (λc o _ _ h=>h) rfl)
 |cons q todo ih =>
  intro us pre old s Q hm nd hz ht hn hl dr k;obtain⟨u,us,rfl,du,dr⟩:=Paired.fe dr
  cases old with
  |nil=>cases hl
  |cons o old =>
   rw[K9,LG] at nd;have hq:=hm q Km;rw[K9,OO,MC];refine Kb (hf q hq pre.length _ u s _ hz ht hn du λh1 tk t1 a1 kp sz=>?_);rw[Px _ _ (Kk _),L8,Oo,<- Py,<- K2] at t1;have di:=D.it q hq;have z1:IsZip h1 z TI TO .ellipsis:=kp _ _ D.zt.2.1.symm di.1.symm hz;show wpAny _ _ (forIn _ b f) _ _ _;rw[show pre.length+1=(pre++[u]).length by rw[Ke];rfl]
   refine ih us (pre++[u]) old {s with heap:=h1,toks:=tk} Q (λp hp=>hm p (Ko _ hp)) nd.2 z1 t1 (by rw[K2,Ke] at *;exact hn) (Nat.succ.inj hl) ?_ λh2 tk2 z2 t2 a2 kp2 sz2=>?_
   ·have key:∀{l:List Src} {vs:List Value},(∀p∈l,p∈q::todo)->(∀p∈l,p.2.1≠q.2.1)->Paired (pE i s.heap) l vs->Paired (pE i h1) l vs:=λ{l}=>by
     induction l with
     |nil=>intro vs _ _ h;obtain rfl:=Paired.vC h;exact .nil
     |cons p l ihl =>
      intro vs hp hne h;obtain⟨v,vs,rfl,dv,h⟩:=Paired.fe h;have hpS:=hm p (hp p Km);refine .cons (dv.kp λc o hc e=>?_) (ihl (λx hx=>hp x (Ko _ hx)) (λx hx=>hne x (Ko _ hx)) h);rcases hc with rfl|rfl
      ·exact kp _ _ (D.it p hpS).2.2 (hne p Km) e
      ·exact kp _ _ (D.sr p hpS).2.1 ((D.sr p hpS).2.2 q hq) e
    exact key (λp hp=>Ko _ hp) (λp hp e=>nd.1 (by rw[<- e];exact LD (f:=λq:Src=>q.2.1) hp)) dr
   ·refine k h2 tk2 z2 (by rw[K2] at t2;exact t2) (λp hp=>?_) (λc o c1 c2 e=>kp2 c o c1 (λp hp=>c2 p (Ko _ hp)) (kp c o c1 (c2 q Km) e)) (sz2.trans sz)
    rcases Kl.mp hp with rfl|hp
    ·exact a1.kp λo e=>kp2 _ o di.2.2 (λx hx e2=>nd.1 (by rw[e2];exact LD (f:=λq:Src=>q.2.1) hx)) e
    ·exact a2 p hp
noncomputable def Hr(prog:Program)(w:World)(A:Around)(E:Value->Shared->Prop)(z TI TO:Addr)(S:List Src)(i:Nat)(f:Value×Nat->β->Sem (ForInStep β))(b:β):Prop:=
 ∀q∈S,∀(j:Nat) (s:Shared) (Q:ForInStep β->Shared->Prop),IsZip s.heap z TI TO .ellipsis->rO i s.heap q->(∃xs:Array Value,DS s.heap q xs/\xs.size=i) ->
  (∀h' e tk,(∀c o,c≠z->c≠q.2.1->s.heap.get? c=some o->h'.get? c=some o)->(∃o,h'.get? e=some o/\o.cls=.type "StopIteration")->E (.ref e) {s with heap:=h',toks:=tk})->wpAny (model prog w) A (f (.ref q.2.1,j) b) Q E s
theorem CC(D:Zn z TI TO S){f:Value×Nat->β->Sem (ForInStep β)}{b:β}(hf:Step prog w A E z TI TO S i f b)(he:Hr prog w A E z TI TO S i f b){r:List Src}:
  ∀(a:List Src) (us pre old:List Value) (s:Shared) (Q:β->Shared->Prop),(∀p∈a++q::r,p∈S)->((a++q::r).map λq=>q.2.1).Nodup->IsZip s.heap z TI TO .ellipsis->fW s.heap TO (pre++old)->(pre++old).length<=3->a.length<old.length->Paired (pE i s.heap) a us->rO i s.heap q->(∃xs:Array Value,DS s.heap q xs/\xs.size=i) ->
  (∀h' e tk,(∀c o,c≠z->c≠TO->(∀q∈S,c≠q.2.1)->s.heap.get? c=some o->h'.get? c=some o)->(∃o,h'.get? e=some o/\o.cls=.type "StopIteration")->E (.ref e) {s with heap:=h',toks:=tk}) ->
  wpAny (model prog w) A (forIn (((a++q::r).map λq=>Value.ref q.2.1).zipIdx pre.length) b f) Q E s:=by
 intro a
 induction a with
 |nil =>
  intro us pre old s Q hm nd hz ht hn hl dr hi hx k;have hq:=hm q Km;rw[LM,K9,OO,MC];exact Kb (he q hq _ s _ hz hi hx λh' e tk kp ho=>k h' e tk (λc o c1 _ c3 x=>kp c o c1 (c3 q hq) x) ho)
 |cons p a ih =>
  intro us pre old s Q hm nd hz ht hn hl dr hi hx k;obtain⟨u,us,rfl,du,dr⟩:=Paired.fe dr
  cases old with
  |nil=>exact absurd hl (MG _)
  |cons o old =>
   rw[L5,K9,LG] at nd;have hp:=hm p Km;rw[L5,K9,OO,MC];refine Kb (hf p hp pre.length _ u s _ hz ht hn du λh1 tk t1 a1 kp sz=>?_);rw[Px _ _ (Kk _),L8,Oo,<- Py,<- K2] at t1;have z1:IsZip h1 z TI TO .ellipsis:=kp _ _ D.zt.2.1.symm (D.it p hp).1.symm hz;have ne:∀x∈a++q::r,x.2.1≠p.2.1:=λx hx e=>nd.1 (by rw[<- e];exact LD (f:=λq:Src=>q.2.1) hx)
   have up:∀x∈a++q::r,∀c o,c=x.2.1\/c=x.2.2->s.heap.get? c=some o->h1.get? c=some o:=λx hx c o hc e=>by
    have hxS:=hm x (Ko _ hx);rcases hc with rfl|rfl
    ·exact kp _ _ (D.it x hxS).2.2 (ne x hx) e
    ·exact kp _ _ (D.sr x hxS).2.1 ((D.sr x hxS).2.2 p hp) e
   have hqm:q∈a++q::r:=K6 _ Km;show wpAny _ _ (forIn _ b f) _ _ _;rw[show pre.length+1=(pre++[u]).length by rw[Ke];rfl]
   refine ih us (pre++[u]) old {s with heap:=h1,toks:=tk} Q (λx hx=>hm x (Ko _ hx)) nd.2 z1 t1 (by rw[K2,Ke] at *;exact hn) (Nat.lt_of_succ_lt_succ hl) ?_ (hi.kp λo=>up q hqm _ o (.inl rfl)) (let ⟨xs,x1,x2⟩:=hx;⟨xs,x1.kp λo=>up q hqm _ o (.inr rfl),x2⟩) λh2 e tk2 kp2 ho=>k h2 e tk2 (λc o c1 c2 c3 x=>kp2 c o c1 c2 c3 (kp c o c2 (c3 p hp) x)) ho
   have key:∀{l:List Src} {vs:List Value},(∀x∈l,x∈a)->Paired (pE i s.heap) l vs->Paired (pE i h1) l vs:=λ{l}=>by
    induction l with
    |nil=>intro vs _ h;obtain rfl:=Paired.vC h;exact .nil
    |cons y l ihl =>
     intro vs hy h;obtain⟨v,vs,rfl,dv,h⟩:=Paired.fe h;exact .cons (dv.kp (up y (LW _ (hy y Km)))) (ihl (λx hx=>hy x (Ko _ hx)) h)
   exact key (λx h=>h) dr
theorem CU(D:Zn z TI TO S){f:Value×Nat->β->Sem (ForInStep β)}{b:β}(hf:Step prog w A E z TI TO S i f b)(he:Hr prog w A E z TI TO S i f b){old:List Value}{s:Shared}{Q:β->Shared->Prop}(hz:IsZip s.heap z TI TO .ellipsis)(ht:fW s.heap TO old)(hn:old.length<=3)(hl:old.length=S.length)
  (hh:(∃us,Paired (pE i s.heap) S us/\∀h' tk,IsZip h' z TI TO .ellipsis->fW h' TO us->(∀q∈S,rO (i+1) h' q)->(∀c o,c≠TO->(∀q∈S,c≠q.2.1)->s.heap.get? c=some o->h'.get? c=some o)->h'.objs.size=s.heap.objs.size->Q b {s with heap:=h',toks:=tk}) \/
   ∃a q r us,S=a++q::r/\Paired (pE i s.heap) a us/\rO i s.heap q/\(∃xs:Array Value,DS s.heap q xs/\xs.size=i)/\∀h' e tk,(∀c o,c≠z->c≠TO->(∀q∈S,c≠q.2.1)->s.heap.get? c=some o->h'.get? c=some o)->(∃o,h'.get? e=some o/\o.cls=.type "StopIteration")->E (.ref e) {s with heap:=h',toks:=tk}) :
  wpAny (model prog w) A (forIn ((S.map λq=>Value.ref q.2.1).zipIdx) b f) Q E s:=by
 rcases hh with ⟨us,dr,k⟩|⟨a,q,r,us,rfl,dr,hi,hx,k⟩
 ·exact CG D hf S us [] old s Q (λq h=>h) D.nd hz ht hn hl dr k
 ·exact CC D hf he a us [] old s Q (λq h=>h) D.nd hz ht hn (by rw[show old.length=_ from hl,Ke,Kq];lia) dr hi hx k
theorem Hw{s:Shared}{T:Addr}{xs:List Value}{x:Value}{Q:Unit->Shared->Prop}(hT:fW s.heap T xs)(hn:xs.length<=3)
  (h:∀h',fW h' T (xs.set k x)->Heap.SameBut T s.heap h'->Q () {s with heap:=h'}) :
  wpAny (model prog w) A (updateSeq T (·.setIfInBounds k x)) Q E s:=by
 refine wpAny_updateSeq (hz:=by rw[Kh];exact Kn hn (by decide)) (_hz':=by rw[Array.size_setIfInBounds,Kh];exact Kn hn (by decide)) hT rfl (h _ ?_ (LC ..))
 show Heap.get? _ _=_;rw[MP _ hT rfl];simp[Obj.mapSeq]
theorem ij{α:Type}{P:α->β->Prop}{l:List α}{vs:List β}(h:Paired P l vs):vs.length=l.length:=by
 induction h with
 |nil=>rfl
 |cons _ _ ih=>exact K_ (·+1) ih
theorem uJ{g:Heap}{l:List Src}{vs:List Value}(k:∀q∈l,∀c o,c=q.2.1\/c=q.2.2->h.get? c=some o->g.get? c=some o)(r:Paired (pE i h) l vs):Paired (pE i g) l vs:=by
 induction r with
 |nil=>exact .nil
 |cons d _ ih=>exact .cons (d.kp (k _ Km)) (ih λq hq=>k q (Ko _ hq))
theorem GS{s:Shared}{old:List Value}(D:Zn z TI TO S)(hS:S≠[])(hA:A.handled=none)(hz:IsZip s.heap z TI TO .none)(hTI:fW s.heap TI (S.map λq=>.ref q.2.1))(hTO:fW s.heap TO old)(hl:old.length=S.length)(hn:S.length<=3)
  (hh:(∃us,Paired (pE i s.heap) S us/\∀h' tk,IsZip h' z TI TO (rawInt s.heap.objs.size)->fW h' TO us->(∀q∈S,rO (i+1) h' q)->fW h' s.heap.objs.size us->(∀c o,c≠z->c≠TO->(∀q∈S,c≠q.2.1)->s.heap.get? c=some o->h'.get? c=some o)->Q (.ref s.heap.objs.size) {s with heap:=h',toks:=tk}) \/
   ∃a q r us,S=a++q::r/\Paired (pE i s.heap) a us/\rO i s.heap q/\(∃xs:Array Value,DS s.heap q xs/\xs.size=i)/\∀h' e tk,(∀c o,c≠z->c≠TO->(∀q∈S,c≠q.2.1)->s.heap.get? c=some o->h'.get? c=some o)->(∃o,h'.get? e=some o/\o.cls=.type "StopIteration")->E (.ref e) {s with heap:=h',toks:=tk}) :
  wpAny (model prog w) A (Builtin.«zip.__next__» ⟨[.ref z],[]⟩) (λfin s'=>∃v,fin=.done (.ret v)/\Q v s') E s:=by
 obtain⟨q0,S',rfl⟩:=List.exists_cons_of_ne_nil hS;have zrec:=hz;show wpAny _ _ (field (.ref z) 2 >>= _) _ _ _;refine Kb (MM zrec rfl (x:=.bool false) rfl ?_);show wpAny _ _ (field (.ref z) 3 >>= _) _ _ _;refine Kb (MM zrec rfl (x:=.ref TI) rfl ?_);refine Kb (MU hTI rfl ?_);show wpAny _ _ (Builtin.SmallTypes.ownedTupleIsFree (.ref z) >>= _) _ _ _;refine Kb ?_;unfold Builtin.SmallTypes.ownedTupleIsFree;refine Kb (MM zrec rfl (x:=.none) rfl (Ks ?_));simp only[MQ];refine Kb (O6 ?_);refine Kb (MM zrec rfl (x:=.ref TO) rfl ?_);refine Kb (Np zrec (by simp) λg1 zr1 sb1=>?_)
 replace zr1:IsZip g1 z TI TO .ellipsis:=zr1
 refine Kb ?_;have old3:∀q∈q0::S',∀c o,c=q.2.1\/c=q.2.2->s.heap.get? c=some o->g1.get? c=some o:=λq hq c o hc e=>by
  rcases hc with rfl|rfl
  ·exact sb1.extBut _ _ (D.it q hq).1 e
  ·exact sb1.extBut _ _ (D.sr q hq).1 e
 refine CU D (i:=i) ?hf ?he (old:=old) zr1 (sb1.extBut _ _ D.zt.2.1 hTO) (by lia) hl (hh.imp (λ⟨us,dr,hQ⟩=>⟨us,uJ old3 dr,?k⟩) λ⟨a,q,r,us,eS,dr,hi,hx,hE⟩=>⟨a,q,r,us,eS,uJ (λp hp=>old3 p (by rw[eS];exact LW _ hp)) dr,hi.kp λo=>old3 q (by rw[eS];exact K6 _ Km) _ o (.inl rfl),(let ⟨xs,x1,x2⟩:=hx;⟨xs,x1.kp λo=>old3 q (by rw[eS];exact K6 _ Km) _ o (.inr rfl),x2⟩),λh' e tk kp ho=>hE h' e tk (λc o c1 c2 c3 x=>kp c o c1 c2 c3 (sb1.extBut _ _ c1 x)) ho⟩)
 case hf =>
  intro q hq j arr u s1 Q1 hz1 ht1 hn1 d1 k1;obtain⟨hi,xs,hx,hu⟩:=d1;refine Kb (wpAny_onRaise ?_);show wpAny _ _ (Builtin.SmallTypes.nextOf (.ref q.2.1) >>= _) _ _ _;have lt:i<xs.size:=(Mp.mp hu).1;refine Kb ((tZ q.1 hA q.2.1 q.2.2 ((D.sr q hq).2.2 q hq) xs).item i _ _ _ lt ⟨hi,hx⟩ λx g2 tk2 px st2 sb2=>Ks ?_);have ex:x=u:=by rw[hu] at px;exact (Option.some.inj px).symm
  subst ex;have to2:fW g2 TO arr:=sb2.extBut _ _ (D.it q hq).2.2.symm ht1;refine Kb (MU to2 rfl ?_);refine Kb (Hw to2 hn1 λg3 to3 sb3=>?_);refine Kb (wpAny_letGo (Ks ?_));exact k1 g3 _ to3 (rO.kp (q:=q) st2.1 λo e=>sb3.extBut _ _ (D.it q hq).2.2 e) (λc o c1 c2 e=>sb3.extBut _ _ c1 (sb2.extBut _ _ c2 e)) (by rw[sb3.1,sb2.1])
 case he =>
  intro p hp j s1 Q1 hz1 hi1 hx1 k1;obtain⟨xs,hx1,hsz⟩:=hx1;refine Kb (wpAny_onRaise ?_);show wpAny _ _ (Builtin.SmallTypes.nextOf (.ref p.2.1) >>= _) _ _ _;subst hsz;refine Kb ((tZ p.1 hA p.2.1 p.2.2 ((D.sr p hp).2.2 p hp) xs).done _ _ _ ⟨hi1,hx1⟩ λg2 e sb2 he=>?_);obtain⟨oe,hoe,hce⟩:=he;have zr2:IsZip g2 z TI TO .ellipsis:=sb2 _ _ (D.it p hp).1.symm hz1;have nez:e≠z:=λq=>by subst q;rw[zr2] at hoe;cases hoe;simp at hce
  exact Np zr2 (by simp) λg3 _ sb3=>k1 g3 e _ (λc o e1 e3 q=>sb3.extBut _ _ e1 (sb2 _ _ e3 q)) ⟨oe,sb3.extBut _ _ nez hoe,hce⟩
 case k =>
  intro g2 tk z2 t2 a2 kp2 sz2;have hu3:us.length<=3:=by rw[ij dr];exact hn
  replace t2:fW g2 TO us:=t2
  show wpAny _ _ (seqItems? (.ref TO) >>= _) _ _ _;refine Kb (MU t2 rfl ?_);refine Kb (wpAny_newTuple ?_ (Kn hu3 (by decide)))
  have size2:g2.objs.size=s.heap.objs.size:=sz2.trans sb1.1;have zlt:z<g2.objs.size:=K0 z2;show wpAny _ _ (Builtin.SmallTypes.ownedTupleHandOut (.ref z) (.ref g2.objs.size) >>= _) _ _ _;refine Kb ?_;unfold Builtin.SmallTypes.ownedTupleHandOut;have zr6:IsZip (g2.push {cls:=.type "tuple",data:=.seq us.toArray}) z TI TO .ellipsis:=Kg _ z2;refine Kb (Np zr6 (by simp) λg8 zr8 sb8=>?_)
  replace zr8:IsZip g8 z TI TO (rawInt g2.objs.size):=zr8
  refine Np zr8 (by simp) λg9 zr9 sb9=>?_
  replace zr9:IsZip g9 z TI TO (rawInt g2.objs.size):=zr9
  have up:∀c o,c≠z->g2.get? c=some o->g9.get? c=some o:=λc o e1 q=>sb9.extBut _ _ e1 (sb8.extBut _ _ e1 (Kg _ q));have pr8:fW g9 g2.objs.size us:=sb9.extBut _ _ (LN zlt) (sb8.extBut _ _ (LN zlt) (Ky _ rfl));rw[size2] at zr9 pr8;refine Ks ⟨_,rfl,?_⟩;show Q (.ref g2.objs.size) _;rw[size2];exact hQ g9 _ zr9 (up _ _ D.zt.2.1 t2) (λq hq=>(a2 q hq).kp λo e=>up _ o (D.it q hq).1 e) pr8 λc o e1 e2 e3 q=>up c o e1 (kp2 c o e2 e3 (sb1.extBut _ _ e1 q))
end
noncomputable def B7(K:PJ)(S:List Src):It:=
  ⟨λi H=>∃vs,Paired (λ(q:Src) v=>∃xs,iI K q.1 H q.2.2 xs/\xs[i]?=some v) S vs,
   λi H v H'=>∃p vs,Paired (λ(q:Src) x=>∀xs,iI K q.1 H q.2.2 xs->xs[i]?=some x) S vs/\H p=none/\v=.ref p/\H'=upd H p (.tup vs),
   λi H=>∃a q r vs,S=a++q::r/\Paired (λ(q:Src) v=>∃xs,iI K q.1 H q.2.2 xs/\xs[i]?=some v) a vs/\∃xs,iI K q.1 H q.2.2 xs/\xs.length=i⟩
section
variable {X:Cx} {pins:List (Addr×Obj)} {σ:St} {H:Hp} {s:Shared} {i:Nat}
theorem zb(I:Inv X pins σ H s){l:List Src}{vs:List V}(hi:∀q∈l,rO i s.heap q)(h:Paired (λ(q:Src) v=>∃xs,iI X.K q.1 H q.2.2 xs/\xs[i]?=some v) l vs):∃us,Paired (pE i s.heap) l us/\Vals vs us/\Paired (λ(q:Src) x=>∀xs,iI X.K q.1 H q.2.2 xs->xs[i]?=some x) l vs:=by
 induction h with
 |nil=>exact⟨[],.nil,.nil,.nil⟩
 |cons d r ih =>
  obtain⟨us,h1,h2,h3⟩:=ih λp hp=>hi p (Ko _ hp);obtain⟨xs,hx,ex⟩:=d;obtain⟨its,rv,p1⟩:=I.oX hx;obtain⟨u,hu,ru⟩:=rv.get ex;exact⟨u::us,.cons ⟨hi _ Km,its.toArray,p1,by rw[Lv];exact hu⟩ h1,.cons ru h2,.cons (λys hy=>by rw[I.yt hy hx];exact ex) h3⟩
end
theorem wo{tk:Nat}{tp:Pos}(S:List Src)(z TI TO:Addr)(D:Zn z TI TO S)(hS:S≠[])(hn:S.length<=3):
  Turn P w K (.Tuple es tk tp) (B7 K S) (z::TI::TO::S.map λq=>q.2.1) z (λi h=>IsZip h z TI TO .none/\fW h TI (S.map λq=>.ref q.2.1)/\(∃old,fW h TO old/\old.length=S.length)/\∀q∈S,rO i h q) where
 mem:=Km
 obj:=λi h st c hc=>by
  obtain⟨s1,s2,⟨old,s3,_⟩,s4⟩:=st;rcases Kl.mp hc with rfl|hc
  ·exact⟨_,s1,λv q=>by cases q⟩
  rcases Kl.mp hc with rfl|hc
  ·exact⟨_,s2,λv q=>by cases q⟩
  rcases Kl.mp hc with rfl|hc
  ·exact⟨_,s3,λv q=>by cases q⟩
  obtain⟨q,hq,rfl⟩:=KZ.mp hc;obtain⟨o,e,_,d⟩:=kB.ty (s4 q hq);exact⟨o,e,λv q=>by rw[d] at q;cases q⟩
 keep:=λi h h' st k=>by
  obtain⟨s1,s2,⟨old,s3,s3'⟩,s4⟩:=st;exact⟨k z (by simp) _ s1,k TI (by simp) _ s2,⟨old,k TO (by simp) _ s3,s3'⟩,λq hq=>(s4 q hq).kp (k _ (Ko _ (Ko _ (Ko _ (LD (f:=λq:Src=>q.2.1) hq)))))⟩
 item:=by
  intro X hP hw hK hc i pins s σ H E I hf st hg;subst hP hw hK;obtain⟨vs,hg⟩:=hg;obtain⟨s1,s2,⟨old,s3,s3'⟩,s4⟩:=st;obtain⟨us,h1,h2,h3⟩:=zb I s4 hg;have hT:s.TypeIs (.ref z) "zip":=⟨_,s1,rfl⟩;unfold pyNext;refine Kb (N4 (Ll (name:=Str.ofString "__next__") hT PySem.F.slot_zip_next (L4 PySem.F.slot_zip_next hT PySem.F.entry_zip_next
   (GS D hS (I.ok.hd hc) s1 s2 s3 s3' hn (.inl ⟨us,h1,λh' tk' z1 t1 a1 pr kp=>Ks ?_⟩)) (PySem.F.args_zip_next_1 _))))
  have fr:H s.heap.objs.size=none:=I.ba.fresh (Kk _);have lt:∀{c o},s.heap.get? c=some o->s.heap.objs.size≠c:=λe=>LN (K0 e);refine⟨.ref s.heap.objs.size,rfl,wpAny_letOwnedTupleGo_zip z1 λh2' z2 sb2=>?_⟩;have pr2:fW h2' s.heap.objs.size us:=sb2.extBut _ _ (lt s1) pr;have hvl:vs.length<=3:=by rw[ij hg];exact hn
  have I2:Inv X pins σ (upd H s.heap.objs.size (.tup vs)) {s with heap:=h2',toks:=tk'}:=by
   refine I.nN (fp:=z::TI::TO::S.map λq=>q.2.1) hf (Kk _) (λc o hcm ec=>?_) ⟨Kn hvl (by decide),us,h2,⟨_,pr2,rfl,_,rfl,rfl⟩⟩
   simp only[Kl,not_or] at hcm;exact sb2.extBut _ _ hcm.1 (kp c o hcm.1 hcm.2.2.1 (λq hq e=>hcm.2.2.2 (by rw[e];exact LD (f:=λq:Src=>q.2.1) hq)) ec)
  refine⟨.ref s.heap.objs.size,_,I2,rfl,⟨s.heap.objs.size,vs,h3,fr,rfl,rfl⟩,⟨z2,?_,⟨us,?_,?_⟩,λq hq=>?_⟩,λc hcm=>?_⟩
  ·exact sb2.extBut _ _ D.zt.1 (kp _ _ D.zt.1 D.zt.2.2 (λq hq=>(D.it q hq).2.1.symm) s2)
  ·exact sb2.extBut _ _ D.zt.2.1 t1
  ·exact ij h1
  ·exact (a1 q hq).kp λo e=>sb2.extBut _ _ (D.it q hq).1 e
  ·have hn:=(hf c hcm).1;rw[ae]
   ·exact hn
   ·rcases Kl.mp hcm with rfl|hcm
    ·exact (lt s1).symm
    rcases Kl.mp hcm with rfl|hcm
    ·exact (lt s2).symm
    rcases Kl.mp hcm with rfl|hcm
    ·exact (lt s3).symm
    obtain⟨q,hq,rfl⟩:=KZ.mp hcm;obtain⟨o,e,_⟩:=kB.ty (s4 q hq);exact (lt e).symm
 done:=by
  intro X hP hw hK hc i pins s σ H E I hf st hg;subst hP hw hK;obtain⟨a,q,r,vs,eS,hg,xs,hx,hi⟩:=hg;obtain⟨s1,s2,⟨old,s3,s3'⟩,s4⟩:=st;obtain⟨us,h1,_,_⟩:=zb I (λp hp=>s4 p (by rw[eS];exact LW _ hp)) hg
  obtain⟨its,rv,p1⟩:=I.oX hx;have hT:s.TypeIs (.ref z) "zip":=⟨_,s1,rfl⟩;unfold pyNext;refine Kb (N4 (Ll (name:=Str.ofString "__next__") hT PySem.F.slot_zip_next (L4 PySem.F.slot_zip_next hT PySem.F.entry_zip_next
   (GS D hS (I.ok.hd hc) s1 s2 s3 s3' hn (.inr ⟨a,q,r,us,eS,h1,s4 q (by rw[eS];exact K6 _ Km),⟨its.toArray,p1,by rw[Kh,<- rv.length,hi]⟩,λh' e tk' kp he=>?_⟩)) (PySem.F.args_zip_next_1 _))))
  obtain⟨o,ho,hcl⟩:=he;refine Kb (wpAny_isInstance (T:="StopIteration") (b:=true) ⟨o,ho,hcl⟩ isSubtype_stop (Ks ⟨rfl,?_⟩));refine I.turns (t':=tk') hf λc o hcm ec=>?_;simp only[Kl,not_or] at hcm;exact kp c o hcm.1 hcm.2.2.1 (λq hq e=>hcm.2.2.2 (by rw[e];exact LD (f:=λq:Src=>q.2.1) hq)) ec
 self:=λA i s Q E st h=>wpAny_pyIter_zip st.1 h
theorem cG.push{k:Bool}{xs:Array Value}(x:cG k h a xs)(o:Obj):cG k (h.push o) a xs:=by
 cases k with
 |true=>exact Heap.IsList.push x _
 |false=>exact yS x _
theorem ka{A:Around}{s:Shared}{k:Bool}{l:Addr}{items:Array Value}(hl:cG k s.heap l items)
  (hQ:Q (.ref s.heap.objs.size) {s with heap:=s.heap.push {cls:=.type (vV k),data:=.fields #[.ref l,.int 0 0]}}):wpAny (model prog w) A (pyIter (.ref l)) Q E s:=by
 cases k with
 |true=>exact Nw hl hQ
 |false=>exact MD hl hQ
noncomputable def gq(h:Heap):List (Bool×Addr)->Heap
 |[]=>h
 |p::l=>gq (h.push {cls:=.type (vV p.1),data:=.fields #[.ref p.2,.int 0 0]}) l
noncomputable def fE(n:Nat):List (Bool×Addr)->List Src
 |[]=>[]
 |p::l=>(p.1,n,p.2)::fE (n+1) l
abbrev G8(h:Heap)(l:List (Bool×Addr)):Heap:=(gq h l).push {cls:=.type "tuple",data:=.seq ((fE h.objs.size l).map λq=>Value.ref q.2.1).toArray}
abbrev Cn(h:Heap)(l:List (Bool×Addr)):Heap:=(G8 h l).push {cls:=.type "tuple",data:=.seq ((fE h.objs.size l).map λ_=>Value.none).toArray}
abbrev zB(h:Heap)(l:List (Bool×Addr)):Heap:=(Cn h l).push {cls:=.type "zip",data:=.fields #[.none,.bool false,.bool false,.ref (gq h l).objs.size,.ref (G8 h l).objs.size]}
theorem kY:∀(l:List (Bool×Addr)) (h:Heap),(gq h l).objs.size=h.objs.size+l.length
 |[],_=>rfl
 |p::l,h=>by rw[gq,kY l,Lu,Kq];lia
theorem jg:∀(l:List (Bool×Addr)) {h:Heap} {c:Addr} {o:Obj},h.get? c=some o->(gq h l).get? c=some o
 |[],_,_,_,e=>e
 |p::l,_,_,_,e=>jg l (Kg _ e)
theorem C9(l:List (Bool×Addr)):∀{h:Heap} (q:Src),q∈fE h.objs.size l->(gq h l).get? q.2.1=some {cls:=.type (vV q.1),data:=.fields #[.ref q.2.2,.int 0 0]}:=by
 induction l with
 |nil=>intro h q hq;cases hq
 |cons p l ih =>
  intro h q hq;rcases Kl.mp hq with rfl|hq
  ·exact jg l (Ky _ rfl)
  ·exact ih q (by rw[Lu];exact hq)
theorem jV:∀(l:List (Bool×Addr)) (n:Nat),(fE n l).length=l.length
 |[],_=>rfl
 |_::l,n=>K_ (·+1) (jV l (n+1))
theorem uv(l:List (Bool×Addr)):∀(n:Nat) (q:Src),q∈fE n l->n<=q.2.1/\q.2.1<n+l.length/\(q.1,q.2.2)∈l:=by
 induction l with
 |nil=>intro n q hq;cases hq
 |cons p l ih =>
  intro n q hq;rcases Kl.mp hq with rfl|hq
  ·exact⟨Kk _,by rw[Kq];show n<_;lia,Km⟩
  ·obtain⟨h1,h2,h3⟩:=ih (n+1) q hq;exact⟨by lia,by rw[Kq];lia,Ko _ h3⟩
theorem u6:∀(l:List (Bool×Addr)) (n:Nat),((fE n l).map λq=>q.2.1).Nodup
 |[],_=>List.nodup_nil
 |p::l,n=>by
  show (n::(fE (n+1) l).map λq=>q.2.1).Nodup;refine LG.mpr ⟨λh=>?_,u6 l (n+1)⟩;obtain⟨q,hq,e⟩:=KZ.mp h;have:=(uv l (n+1) q hq).1;rw[e] at this;lia
theorem xb(p q:Bool×Addr)(xs ys:Array Value):Meets (Builtin.«zip.__new__» ⟨[.type "zip",.ref p.2,.ref q.2],[]⟩) (λ_ R s=>cG p.1 s.heap p.2 xs/\cG q.1 s.heap q.2 ys/\R (.ok (.ret (.ref (Cn s.heap [p,q]).objs.size))) {s with heap:=zB s.heap [p,q]}):=
 .of_wp λprog w A R s h=>by
  obtain⟨hp,g,d,tk,os⟩:=s;obtain⟨q1,q2,h⟩:=h;have hsub:=sub_zip;have w1:cG p.1 (Shared.heap ⟨hp,g,d,tk,os⟩) p.2 xs:=q1;have w2:cG q.1 (Shared.heap ⟨hp.push {cls:=.type (vV p.1),data:=.fields #[.ref p.2,.int 0 0]},g,d,tk,os⟩) q.2 ys:=cG.push q2 _;wp_walk using ka w1,ka w2;refine⟨_,rfl,?_⟩;have e1:(hp.push {cls:=.type (vV p.1),data:=.fields #[.ref p.2,.int 0 0]}).objs.size=hp.objs.size+1:=Lu ..;have h':=h;simp only[zB,Cn,G8,gq,fE,K9,Mh,<- e1] at h';exact h'
theorem xi(p q r:Bool×Addr)(xs ys zs:Array Value):Meets (Builtin.«zip.__new__» ⟨[.type "zip",.ref p.2,.ref q.2,.ref r.2],[]⟩) (λ_ R s=>cG p.1 s.heap p.2 xs/\cG q.1 s.heap q.2 ys/\cG r.1 s.heap r.2 zs/\R (.ok (.ret (.ref (Cn s.heap [p,q,r]).objs.size))) {s with heap:=zB s.heap [p,q,r]}):=
 .of_wp λprog w A R s h=>by
  obtain⟨hp,g,d,tk,os⟩:=s;obtain⟨q1,q2,q3,h⟩:=h;have hsub:=sub_zip;have w1:cG p.1 (Shared.heap ⟨hp,g,d,tk,os⟩) p.2 xs:=q1;have w2:cG q.1 (Shared.heap ⟨hp.push {cls:=.type (vV p.1),data:=.fields #[.ref p.2,.int 0 0]},g,d,tk,os⟩) q.2 ys:=cG.push q2 _;have w3:cG r.1 (Shared.heap ⟨(hp.push {cls:=.type (vV p.1),data:=.fields #[.ref p.2,.int 0 0]}).push {cls:=.type (vV q.1),data:=.fields #[.ref q.2,.int 0 0]},g,d,tk,os⟩) r.2 zs:=cG.push (cG.push q3 _) _;wp_walk using ka w1,ka w2,ka w3;refine⟨_,rfl,?_⟩;have e1:(hp.push {cls:=.type (vV p.1),data:=.fields #[.ref p.2,.int 0 0]}).objs.size=hp.objs.size+1:=Lu ..;have e2:((hp.push {cls:=.type (vV p.1),data:=.fields #[.ref p.2,.int 0 0]}).push {cls:=.type (vV q.1),data:=.fields #[.ref q.2,.int 0 0]}).objs.size=(hp.push {cls:=.type (vV p.1),data:=.fields #[.ref p.2,.int 0 0]}).objs.size+1:=Lu ..;have h':=h;simp only[zB,Cn,G8,gq,fE,K9,Mh,<- e1,<- e2] at h';exact h'
theorem kW(a b c:Value):checkTypeCall "zip" ⟨[a,b,c],[]⟩=pure ():=by kernel_rfl
theorem me(a b c:Value):checkBuiltinCall "zip.__new__" ⟨[.type "zip",a,b,c],[]⟩=pure ():=by kernel_rfl
theorem qA(a b c d:Value):argsOk "object.__init__" ⟨[a,b,c,d],[]⟩:=by
 unfold argsOk;rw[signature?_of (id:="object.__init__") (n:=['_','_','t','i','n','i','_','_']) (o:=['t','c','e','j','b','o']) (by kernel_rfl) PySem.F.owner_object];kernel_rfl
section
variable {X:Cx} {es:List Expr} {tk:Nat} {tp:Pos}
theorem vc{pins:List (Addr×Obj)}{s:Shared}{R:It->Hp->Prop}(I:Inv X pins σ H s)(l:List (Bool×Addr))(hne:l≠[])(h3:l.length<=3)(hq:∀p∈l,∃xs,iI X.K p.1 H p.2 xs)(q:∀n,R (B7 X.K (fE n l)) H):
  (∃o,(zB s.heap l).get? (Cn s.heap l).objs.size=some o/\o.cls=.type "zip")/\wpAny (model X.prog X.w) X.A (pyIter (.ref (Cn s.heap l).objs.size)) (J9 X pins σ (.Tuple es tk tp) R) X.xe {s with heap:=zB s.heap l}:=by
 have n1:(gq s.heap l).objs.size=s.heap.objs.size+l.length:=kY l _;have n2:(G8 s.heap l).objs.size=s.heap.objs.size+l.length+1:=by rw[Lu,n1]
 have n3:(Cn s.heap l).objs.size=s.heap.objs.size+l.length+2:=by rw[Lu,n2]
 have p3:(zB s.heap l).get? (Cn s.heap l).objs.size=some _:=Ky _ rfl;have p2:(zB s.heap l).get? (G8 s.heap l).objs.size=some _:=Kg _ (Ky _ rfl);have p1:(zB s.heap l).get? (gq s.heap l).objs.size=some _:=Kg _ (Kg _ (Ky _ rfl));have up:∀{c o},(gq s.heap l).get? c=some o->(zB s.heap l).get? c=some o:=λe=>Kg _ (Kg _ (Kg _ e));rw[n1,n2,n3] at p3;rw[n2] at p2;rw[n1] at p1;rw[n3];refine⟨⟨_,p3,rfl⟩,wpAny_pyIter_zip p3 ?_⟩;have I2:Inv X pins σ H {s with heap:=zB s.heap l}:=I.kept (t':=s.toks) λc o e=>up (jg l e)
 have bd:=uv l s.heap.objs.size;have lt:∀p∈l,p.2<s.heap.objs.size:=λp hp=>by
  obtain⟨xs,hx⟩:=hq p hp;obtain⟨its,_,p1⟩:=I.oX hx;obtain⟨o,e,_⟩:=p1.ty;exact K0 e
 have D:Zn (s.heap.objs.size+l.length+2) (s.heap.objs.size+l.length) (s.heap.objs.size+l.length+1) (fE s.heap.objs.size l):=by
  have nl:∀(a b:Nat),a<b->a≠b:=λa b h=>KA h;refine⟨⟨nl _ _ (by lia),nl _ _ (by lia),nl _ _ (by lia)⟩,λq hq'=>?_,λq hq'=>?_,u6 l _⟩
  ·have:=(bd q hq').2.1;exact⟨nl _ _ (by lia),nl _ _ (by lia),nl _ _ (by lia)⟩
  ·have h1:=lt _ (bd q hq').2.2;refine⟨nl _ _ (by show q.2.2<_;have:q.2.2<s.heap.objs.size:=h1;lia),nl _ _ (by have:q.2.2<s.heap.objs.size:=h1;lia),λp hp=>nl _ _ (KI h1 (bd p hp).1)⟩
 refine⟨_,_,_,_,H,rfl,I2,wo (fE s.heap.objs.size l) _ _ _ D (λe=>?_) (by rw[jV];exact h3),⟨p3,p1,⟨_,p2,Kc ..⟩,λq hq'=>Ic (up (C9 l q hq'))⟩,λc hc=>?_,q _⟩
 ·have:=jV l s.heap.objs.size;rw[e] at this;exact hne (Mc.mp this.symm)
 ·have hc':s.heap.objs.size<=c:=by
   rcases Kl.mp hc with rfl|hc
   ·lia
   rcases Kl.mp hc with rfl|hc
   ·lia
   rcases Kl.mp hc with rfl|hc
   ·lia
   obtain⟨q,hq',rfl⟩:=KZ.mp hc;exact (bd q hq').1
  exact I.qj hc' (I.ba.fresh hc')
noncomputable def Af(K:PJ)(ta:TA):TI:=λσ H R=>ta σ H λvs H1=>∃p q:Bool×Addr,vs=[.ref p.2,.ref q.2]/\(∃xs,iI K p.1 H1 p.2 xs)/\(∃ys,iI K q.1 H1 q.2 ys)/\∀n,R (B7 K (fE n [p,q])) H1
theorem Dp{e1 e2:Expr}{pos:Pos}(hg:Gl X "zip")(hm:X.mg "zip"=none)(ha:PA X [e1,e2] ta)(h1:autoParam (eX e1=true) ℜ0)(h2:autoParam (eX e2=true) ℜ0)(hv:autoParam (bootBuiltins "zip"=some (.type "zip")) ℜ6):
  PI X (.Tuple es tk tp) (.Call (.Name "zip" p) [e1,e2] [] pos) (Af X.K ta):=by
 intro pins s σ H R I h;refine Call_ (fR I hg hm hv (Lj (bZ (ha pos pins s σ H _ I h) λus s1 hq1=>?_) (by rw[cH h1,cH h2]) (by rw[cH h2];rfl)))
 obtain⟨vs,H1,I1,r1,q1⟩:=hq1;obtain⟨a,b,e,⟨xs,hx⟩,⟨ys,hy⟩,q⟩:=q1;subst e;obtain⟨u,w',rfl,ru,rw'⟩:=vals2 r1
 cases ru;cases rw'
 obtain⟨its1,_,p1⟩:=I1.oX hx;obtain⟨its2,_,p2⟩:=I1.oX hy;refine OH F.called_zip (by decide) (F.typeCall_zip_2 _ _) (F.newCall_zip_2 _ _) (λobj=>F.args_object_init_3 obj _ _) F.entry_zip_new (xb a b _ _) ⟨p1,p2,vc I1 [a,b] (by simp) (Ln 2) (λp hp=>?_) q⟩
 simp only[Kl,K7,Lp] at hp;rcases hp with rfl|rfl
 ·exact⟨xs,hx⟩
 ·exact⟨ys,hy⟩
noncomputable def zN(K:PJ)(ta:TA):TI:=λσ H R=>ta σ H λvs H1=>∃p q r:Bool×Addr,vs=[.ref p.2,.ref q.2,.ref r.2]/\(∃xs,iI K p.1 H1 p.2 xs)/\(∃ys,iI K q.1 H1 q.2 ys)/\(∃zs,iI K r.1 H1 r.2 zs)/\∀n,R (B7 K (fE n [p,q,r])) H1
theorem vals3{x y z:V}{us:List Value}(r:Vals [x,y,z] us):∃u w' q,us=[u,w',q]/\RelV x u/\RelV y w'/\RelV z q:=by
 obtain⟨u,us,rfl,h1,r⟩:=Paired.fe r;obtain⟨v,w',rfl,h2,h3⟩:=vals2 r;exact⟨u,v,w',rfl,h1,h2,h3⟩
theorem CT{e1 e2 e3:Expr}{pos:Pos}(hg:Gl X "zip")(hm:X.mg "zip"=none)(ha:PA X [e1,e2,e3] ta)(h1:autoParam (eX e1=true) ℜ0)(h2:autoParam (eX e2=true) ℜ0)(h3:autoParam (eX e3=true) ℜ0)(hv:autoParam (bootBuiltins "zip"=some (.type "zip")) ℜ6):
  PI X (.Tuple es tk tp) (.Call (.Name "zip" p) [e1,e2,e3] [] pos) (zN X.K ta):=by
 intro pins s σ H R I h;refine Call_ (fR I hg hm hv (Lj (bZ (ha pos pins s σ H _ I h) λus s1 hq2=>?_) (by rw[cH h1,cH h2,cH h3]) (by rw[cH h2,cH h3];rfl)))
 obtain⟨vs,H1,I1,r1,q1⟩:=hq2;obtain⟨a,b,c,e,⟨xs,hx⟩,⟨ys,hy⟩,⟨zs,hz⟩,q⟩:=q1;subst e;obtain⟨u,w',t',rfl,ru,rw',rt'⟩:=vals3 r1
 cases ru;cases rw';cases rt'
 obtain⟨its1,_,p1⟩:=I1.oX hx;obtain⟨its2,_,p2⟩:=I1.oX hy;obtain⟨its3,_,p3⟩:=I1.oX hz;refine OH F.called_zip (by decide) (kW _ _ _) (me _ _ _) (λobj=>qA obj _ _ _) F.entry_zip_new (xi a b c _ _ _) ⟨p1,p2,p3,vc I1 [a,b,c] (by simp) (Kk 3) (λp hp=>?_) q⟩
 simp only[Kl,K7,Lp] at hp;rcases hp with rfl|rfl|rfl
 ·exact⟨xs,hx⟩
 ·exact⟨ys,hy⟩
 ·exact⟨zs,hz⟩
end
namespace Z
theorem Jv{st:Stmt}:QS X st (λ_ _ _=>False):=⟨λ_ _ _ _ _ _ h=>h.elim⟩
theorem JE{o:Expr}{to:TE}{pos:Pos}(K:PJ)(hK:X.K=K){name:Str}{apos:Pos}{T id:String}{r:V->List V->Hp->VK->Prop}(pa:PlainAttrs T)(slot:Slot T name id)(hty:typeOf (.builtin id)=pure (.type "method_descriptor"))(hm:xf X id r)(ho:QE X o to)
  (hbase:autoParam (attributeBase o name X.env (eval o X.env)=eval o X.env) ℜ0) (hline:autoParam ((apos.endLine == pos.line)=true) ℜ0):QE X (.Call (.Attribute o name apos) [] [] pos) (xS K T r to):=by
 subst hK;exact⟨FZ pa slot hty hm ho.h hbase hline⟩
theorem hW(K:PJ)(hK:X.K=K):vE X (Gg K):=by subst hK;exact nT
end Z
theorem JO{H':Hp}(h:aY K H a xs)(k:KB [] H H'):aY K H' a xs:=aY.same (λb o z=>k b o z (by simp)) h
namespace Z
theorem Js{te:TE}{x:Str}{pos:Pos}{d:Addr}{D:List (Str×List Str)}(K:PJ)(hK:X.K=K)(hg:Gl X x)(hm:X.mg x=some (.ref d))(hd:lH K d D)(he:QE X e te)(hs:xW e:=by exactλ_ _=>rfl)(hdb:autoParam ((x ==("__debug__":Str))=false) ℜ1):QE X (.Subscript (.Name x p) e pos) (zK K D te):=by
 subst hK;exact⟨Eu (t_ hg hm rfl hdb) hd he.h hs⟩
theorem DM{pos:Pos}(K:PJ)(hK:X.K=K){tp:Pos}(hg:Gl X "enumerate")(hm:X.mg "enumerate"=none)(ha:QA X [e] ta)(h1:autoParam (eX e=true) ℜ0):QI X (.Tuple es k tp) (.Call (.Name "enumerate" p) [e] [] pos) (lu K ta):=by
 subst hK;exact⟨zj hg hm ha.h h1⟩
theorem GV{t:TA}{pos kpos lpos p1 p2 p3:Pos}{x y z:Str}{c Pt d:Addr}{j:Nat}{params:Arguments}{scope:Scope}(K:PJ)(hK:X.K=K)(hx:z∈dO)(ht:PySem.W.tabIn K z=some (c,Pt))(hcode:X.env.code=.ref c)(hq:X.env.qual=z++".<locals>.")(hdef:defaultsOf params X.env=([],[]))(hcl:closureFor scope X.env=pure [(y,d)])
  (hg:Gl X "sorted") (hm:X.mg "sorted"=none) (ha:QA X [e] t) (hr:bR (k+3) X.A)
  (hsc:scope={kind:=.function,names:=[(x,.local),(y,.free)],isGenerator:=false,isCoroutine:=false,more:=[]}) (hxy:y≠x) (hx1:(x ==("__debug__":Str))=false) (hx2:(x ==("__classdict__":Str))=false) (hy1:(y ==("__debug__":Str))=false) (hy2:(y ==("__classdict__":Str))=false)
  (hj:X.N[j]?=some y) (hyc:X.env.scope.names.lookup y=some .cell) (hyl:X.env.cells.lookup y=some d)
  (hbind:∀c' pm ctv u,bindArgs (PySem.W.kla_fn "<lambda>" ((z++".<locals>.")++"<lambda>") params (.Subscript (.Name y p1) (.Name x p2) p3) scope [(y,d)] pm (.ref c') ctv) ⟨[u],[]⟩=pure [(x,u)]) (h1:autoParam (eX e=true) ℜ0) :
  QE X (.Call (.Name "sorted" p) [e] [⟨some "key",.Lambda params (.Subscript (.Name y p1) (.Name x p2) p3) scope lpos,kpos⟩] pos) (jY K j t):=by
 subst hK;exact⟨zu hg hm ha.h h1 hr (xB hx ht hcode hq hdef hcl) hsc hxy hx1 hx2 hy1 hy2 hj hyc hyl hbind⟩
theorem IG(K:PJ)(hK:X.K=K):dh X (compareOp .In) (I_ K false):=by subst hK;exact mM
theorem EW(K:PJ)(hK:X.K=K):bE X (.type "list") (λxs H Q=>∃p ys,xs=[.ref p]/\(bB K H p ys\/aY K H p ys)/\∀l,H l=none->Q (.ref l) (upd H l (.lst ys))):=by subst hK;exact ni
end Z
namespace Ap
theorem zK(K:PJ)(D:List (Str×List Str))(te:TE)(σ:St)(H:Hp)(Q:VK):L2.zK K D te σ H Q=te σ H λy H1=>∃k ws,y=.str k/\KTD.datumAt k D=some ws/\∀p,HL K p (ws.map V.str)->Q (.ref p) H1:=rfl
theorem lu(K:PJ)(ta:TA)(σ:St)(H:Hp)(R:It->Hp->Prop):L2.lu K ta σ H R=ta σ H λvs H1=>∃a,vs=[.ref a]/\(∃xs,bB K H1 a xs)/\R (De K a) H1:=rfl
theorem jY(K:PJ)(j:Nat)(t:TA)(σ:St)(H:Hp)(Q:VK):L2.jY K j t σ H Q=t σ H λvs H1=>∃l xs kz,vs=[.ref l]/\(∃n:Nat,H1 l=some (.mK 0 n)/\xs=ki n)/\kz.length=xs.length/\xs.length<64 /\
 (∀(i:Nat) (v:V) (k:Int),xs[i]?=some v->kz[i]?=some k->∀H',dZ H1 H'->∃i q ls,v=.int i/\JI j σ=[some (.ref q)]/\aY K H' q ls/\cL ls i=some (.int k))/\∀H2 D,dZ H1 H2->H2 D=none->Q (.ref D) (upd H2 D (.lst (j0 kz xs))):=rfl
end Ap
section
variable {K:PJ} {g:TG} {tb:TS} {D:Ends} {σ:St} {H:Hp}
theorem lG(Pv:Nat->St->Hp->Prop)(h0:Pv 0 σ H)(hl:∀i σ H,i<=xs.length->Pv i σ H->bB K H a xs)
  (hs:∀i x σ H p,xs[i]?=some x->Pv i σ H->H p=none->g (.ref p) σ (upd H p (.tup [.int i,x])) λσ2 H2=>tb {D with nx:=Pv (i+1),ct:=Pv (i+1),bk:=D.nx} σ2 H2) (hd:∀σ H,Pv xs.length σ H->D.nx σ H) :
  sS (De K a) g tb D σ H:=by
 refine⟨λi m σ H=>m=xs.length-i/\i<=xs.length/\Pv i σ H,⟨xs.length,by simp,Kz _,h0⟩,?_⟩
 rintro i m σ H ⟨rfl,hi,p⟩;have hq:=hl i σ H hi p;by_cases c:i<xs.length
 ·refine .inr ⟨⟨xs[i],xs,hq,Ka c⟩,λσ' H'=>Pv (i+1) σ' H',λσ' H' h=>⟨_,by lia,rfl,c,h⟩,?_⟩
  rintro x H' ⟨q,y,e,fr,rfl,rfl⟩;have e1:=e xs hq;exact hs i y σ H q e1 p fr
 ·have e:i=xs.length:=by lia
  subst e;exact .inl ⟨⟨xs,hq,rfl⟩,hd _ _ p⟩
end
section
variable {K:PJ} {σ:St} {H:Hp} {tc:TT} {te:TE} {Q:VK}
theorem HA{x y:V}{c:Addr}{o1 o2:Option V}{R:St->Hp->Prop}(h:R (some x::some y::σ) (upd H c (.tup [x,y]))):ma K 2 (dX (bp 0) (dX (bp 1) lU)) (.ref c) (o1::o2::σ) (upd H c (.tup [x,y])) R:=⟨c,[x,y],rfl,aY.of aa,rfl,x,[y],rfl,y,[],rfl,rfl,h⟩
theorem qK(hn:xs.length<=sizeLine)(Pv:Addr->Nat->List V->Hp->Prop)(h0:∀D,H D=none->Pv D 0 [] (upd H D (.lst [])))(hD:∀D i ys H',Pv D i ys H'->H' D=some (.lst ys)/\ys.length=i)
  (hl:∀D i ys H',Pv D i ys H'->aY K H' a xs)
  (hs:∀D i ys H' x p (R:VK),xs[i]?=some x->Pv D i ys H'->H' p=none->(∀v H5,H5 D=some (.lst ys)->Pv D (i+1) (ys++[v]) (upd H5 D (.lst (ys++[v])))->R v H5)->te (some (.int i)::some x::σ) (upd H' p (.tup [.int i,x])) R) (hd:∀D ys H',Pv D xs.length ys H'->Q (.ref D) H') :
  j5 (xM K a) 2 (ma K 2 (dX (bp 0) (dX (bp 1) lU))) dW te Q σ H:=by
 intro D hD0;refine⟨λi m ys σ' H'=>m=xs.length-i/\i<=xs.length/\Pv D i ys H'/\∃o1 o2,σ'=o1::o2::σ,⟨xs.length,by simp,Kz _,h0 D hD0,none,none,rfl⟩,?_⟩
 rintro i m ys σ' H' ⟨rfl,hi,p,o1,o2,rfl⟩;obtain⟨hDi,hly⟩:=hD _ _ _ _ p;have q:=hl _ _ _ _ p;refine⟨hDi,?_⟩;by_cases hlt:i<xs.length
 ·refine .inr ⟨⟨xs[i],xs,q,by simp[hlt]⟩,by lia,λx H2 y=>?_⟩
  obtain⟨c,y,hy,fr,rfl,rfl⟩:=y;refine HA ?_;unfold dW;dsimp only;rw[if_pos rfl];exact hs D i ys H' y c _ (hy xs q) p fr λv H5 q1 q2=>⟨q1,xs.length-(i+1),by lia,rfl,hlt,q2,_,_,rfl⟩
 ·have e:i=xs.length:=by lia
  subst e;exact .inl ⟨⟨xs,q,rfl⟩,hd D ys H' p⟩
end
theorem qU{t:TS}{D:Ends}(h:∀N,N=D.nx->t {D with nx:=N} σ H):t D σ H:=h _ rfl
theorem Et{c:TT}{t u:TS}{D:Ends}(h:∀A B,A=t D->B=u D->c σ H λb H1=>if b=true then A σ H1 else B σ H1):wD c t u D σ H:=h _ _ rfl rfl
theorem HasFn.HR{mg:Str->Option Value}{base:Heap}{x:Str}{st:Stmt}{N ps:List Str}{sp:Sp}(F:HasFn K mg x st ps)(S:ay N ps (af st))(len:∀vs H Q E,sp vs H Q E->vs.length=ps.length)
  (hbody:∀(f:Addr) (cdv:Value) (A:Around) (outer:List Env) (s:Shared) (H:Hp) (vs:List V) (Q:VK) (E:XK),bR k (A.deeper (envOfC x (af st) s.heap.objs.size f cdv))->mg x=some (.ref f)->BE K f cdv->sp vs H Q E ->
   ∃t,QB (gy aZ P w K mg base N x (af st) f cdv A outer s H E).qW (aT st) t/\t {nx:=λ_ H'=>Q .aX H',rt:=Q} (start N vs) H):au P w K mg base aZ (k+1) x ps sp:=by
 obtain⟨f,fd,F1,b,m⟩:=F.ex;have F2:=F1;obtain⟨oc,od,kV,doc,pm,an,cdv,ct,osl,rfl,lk,eW⟩:=F2.ex;refine⟨f,_,m,F1.kp,b,DJ lk eW S len λA outer s H vs Q E hr oM=>?_⟩;obtain⟨t,h,q⟩:=hbody f cdv A outer s H vs Q E hr m ⟨_,_,lk,rfl,rfl⟩ oM;exact⟨t,h.h.qW,q⟩
end L2
namespace G
local macro_rules|`(tactic|and_intros)=>`(tactic|exact ⟨rfl,rfl,rfl,by decide +kernel,rfl,by decide +kernel,by decide +kernel⟩)
open PySem L2 PySem.Spec PyProof.Rows
variable{L i k p t:Nat}{C D a dq f lc_by_worth lc_code_of lp_by_worth lp_code_of:Addr}{b k0 k1 k2 sp ss ws z:List Nat}{d:Int}{xs ys:List V}{as ex:List Addr}{H H':Hp}{S X:List (List Nat)}{α:Type}{g ln:Nat->Nat}{ls:List Int}{h:Heap}{K:PJ}{Q:VK}{gs:List (Option Nat)}{q:Program}{es:List Expr}{σ:L2.St}{te:TE}{Us:List (V×List Nat)}{fd:FuncData}{hi lo:Option Int}{mg:Str->Option Value}{lO_by_worth lO_code_of:Value}{lD_by_worth lD_code_of:Option Addr}{lv_by_worth lv_code_of:Array Value}{lS_by_worth lS_code_of:Array (Option Value)}
noncomputable def top(i:Nat):Stmt:=PySem.Challenge.pw_shortrows_k36_whole_run_as_the_rows.main.body.getD i (.Pass ⟨0,0,0,0⟩)
abbrev gR:Stmt:=top 4
theorem sL:ay ["row"] ["row"] (af gR):=by and_intros
abbrev aM:Stmt:=inClass (top 6) 0
theorem hU:ay ["self","given"] ["self","given"] (af aM):=by and_intros
abbrev aK:Stmt:=inClass (top 6) 1
theorem d5:ay ["self","row","behind","end","goes"] ["self","row","behind","end"] (af aK):=by and_intros
abbrev aN:Stmt:=inClass (top 6) 2
theorem dM:ay ["self","row","word"] ["self","row"] (af aN):=by and_intros
abbrev aJ:Stmt:=inClass (top 6) 3
theorem bO:ay ["self","row","word","old","other"] ["self","row"] (af aJ):=by and_intros
abbrev aF:Stmt:=inClass (top 6) 4
theorem fH:ay ["self"] ["self"] (af aF):=by and_intros
abbrev aG:Stmt:=inClass (top 6) 5
theorem f9:ay ["self"] ["self"] (af aG):=by and_intros
abbrev aC:Stmt:=inClass (top 6) 6
theorem fX:ay ["self"] ["self"] (af aC):=by and_intros
abbrev eJ:Stmt:=top 7
theorem cu:ay ["program","given","most","machine","turns","at","done","how"] ["program","given","most"] (af eJ):=by and_intros
abbrev iM:Stmt:=top 13
theorem cN:ay ["lengths","free","depth","left","length"] ["lengths"] (af iM):=by and_intros
abbrev bS:Stmt:=top 14
theorem dB:ay ["counts","bound","things","chosen"] ["counts","bound"] (af bS):=by and_intros
abbrev cA:Stmt:=top 15
theorem b9:ay ["counts","bound","coins","shelf","depth","chosen","item"] ["counts","bound"] (af cA):=by and_intros
abbrev cX:Stmt:=top 16
theorem qx:ay ["shelf"] ["shelf"] (af cX):=by and_intros
abbrev eV:Stmt:=top 17
theorem qf:ay ["shelf"] ["shelf"] (af eV):=by and_intros
abbrev df:Stmt:=top 19
theorem eM:ay ["lengths","words","ahead","thing"] ["lengths"] (af df):=by and_intros
abbrev dG:Stmt:=top 20
theorem kg:ay ["ahead","length"] ["ahead","length"] (af dG):=by and_intros
abbrev fZ:Stmt:=top 21
theorem gN:ay ["code","bits","place","thing","word"] ["code","bits","place"] (af fZ):=by and_intros
abbrev dk:Stmt:=top 27
theorem jB:ay ["sizes","goals"] ["sizes","goals"] (af dk):=by and_intros
abbrev cw:Stmt:=top 28
theorem bI:ay ["sizes","goals","widths","paper","row"] ["sizes","goals"] (af cw):=by and_intros
abbrev dN:Stmt:=top 29
theorem oy:ay ["goals"] ["goals"] (af dN):=by and_intros
abbrev cx:Stmt:=top 30
theorem cf:ay ["sizes","goals","widths","starts","row","goal"] ["sizes","goals","widths"] (af cx):=by and_intros
abbrev nV:Stmt:=top 31
theorem tX:ay ["starts","goals","widths","row","half"] ["starts","goals","widths","row"] (af nV):=by and_intros
abbrev dI:Stmt:=top 32
theorem lF:ay ["starts","goals","row"] ["starts","goals","row"] (af dI):=by and_intros
abbrev ee:Stmt:=top 33
theorem dE:ay ["sizes","widths","starts","size","width"] ["sizes","widths"] (af ee):=by and_intros
abbrev fQ:Stmt:=top 34
theorem pY:ay ["width"] ["width"] (af fQ):=by and_intros
abbrev eA:Stmt:=top 41
theorem dA:ay ["program","counts","sums","row","count","which","thing"] ["program","counts"] (af eA):=by and_intros
abbrev dy:Stmt:=top 42
theorem cV:ay ["row","things","kind","part"] ["row"] (af dy):=by and_intros
abbrev eE:Stmt:=top 43
theorem qi:ay ["book"] ["book"] (af eE):=by and_intros
abbrev cI:Stmt:=top 44
theorem bD:ay ["program","book","codes","firsts","sizes","goals","widths","starts","bits","row","first"] ["program","book"] (af cI):=by and_intros
abbrev bF:Stmt:=top 45
theorem d8:ay ["row","codes","bits"] ["row","codes"] (af bF):=by and_intros
abbrev bJ:Stmt:=top 46
theorem fz:ay ["number"] ["number"] (af bJ):=by and_intros
abbrev dw:Stmt:=top 47
theorem j9:ay ["width","distance"] ["width","distance"] (af dw):=by and_intros
abbrev dz:Stmt:=top 48
theorem bT:ay ["number","many","figures","left","turn"] ["number","many"] (af dz):=by and_intros
abbrev i4:Stmt:=top 50
theorem de:ay ["codes","bits","place","found","word","row","behind","kind","part"] ["codes","bits","place"] (af i4):=by and_intros
abbrev fV:Stmt:=top 51
theorem j3:ay ["code","bits","place","thing"] ["code","bits","place"] (af fV):=by and_intros
abbrev gX:Stmt:=top 52
theorem lL:ay ["kind","codes","bits","place","found"] ["kind","codes","bits","place"] (af gX):=by and_intros
abbrev fj:Stmt:=top 53
theorem fU:ay ["code","bits","place","found","behind"] ["code","bits","place"] (af fj):=by and_intros
abbrev gQ:Stmt:=top 54
theorem d9:ay ["bits","place","found","width","behind","distance"] ["bits","place"] (af gQ):=by and_intros
abbrev fS:Stmt:=top 56
theorem bo:ay ["bits","book","given","most","codes","machine","read","done","place","found","how"] ["bits","book","given","most"] (af fS):=by and_intros
abbrev dP:Stmt:=top 58
theorem nO:ay ["script"] ["script"] (af dP):=by and_intros
abbrev fY:Stmt:=top 59
theorem gO:ay ["number","turn","one"] ["number","turn"] (af fY):=by and_intros
abbrev fi:Stmt:=top 60
theorem iD:ay ["deck","most","number"] ["deck","most"] (af fi):=by and_intros
abbrev dn:Stmt:=top 64
theorem cB:ay ["deck","many","depths","k","deep","at"] ["deck","many"] (af dn):=by and_intros
abbrev dQ:Stmt:=top 65
theorem nH:ay ["deck"] ["deck"] (af dQ):=by and_intros
abbrev dH:Stmt:=top 66
theorem eK:ay ["deck","size","top"] ["deck"] (af dH):=by and_intros
abbrev gc:Stmt:=top 67
theorem ff:ay ["deck","goals","some","word","box"] ["deck","goals"] (af gc):=by and_intros
abbrev cJ:Stmt:=top 68
theorem gn:ay ["deck","most","many"] ["deck","most"] (af cJ):=by and_intros
abbrev dY:Stmt:=top 69
theorem dF:ay ["deck","found","k","number"] ["deck"] (af dY):=by and_intros
abbrev dm:Stmt:=top 70
theorem bw:ay ["program","book","given","most","how","told","turns","boxes","bits","spots","ends","count","found"] ["program","book","given","most"] (af dm):=by and_intros
abbrev gF:Stmt:=top 71
theorem gC:ay ["script","deck","turn","program","book","given","most"] ["script"] (af gF):=by and_intros
structure Txt (K:PJ) (mg:Str->Option Value):Prop where
 ID:mg "abs"=none
 Gq:mg "dict"=none
 eY:mg "enumerate"=none
 ve:mg "int"=none
 cU:mg "len"=none
 sh:mg "list"=none
 DO:mg "min"=none
 e_:mg "range"=none
 kx:mg "sorted"=none
 Ha:mg "str"=none
 Av:mg "sum"=none
 cg:mg "tuple"=none
 oY:mg "zip"=none
 jK:∃a,mg "BOXES"=some (.ref a)/\∀H,aY K H a [.str "a",.str "b",.str "c",.str "d",.str "e",.str "f",.str "g",.str "h"]
 pQ:∃a,mg "HALVES"=some (.ref a)/\∀H,aY K H a [.int 8,.int 128,.int 32768]
 nS:∃a,mg "HEADS"=some (.ref a)/\∀H,aY K H a [.str "0",.str "10",.str "11"]
 rQ:∃a,mg "HOW_MANY"=some (.ref a)/\∀H,aY K H a [.int 9,.int 17,.int 8]
 vP:∃u,mg "LONGEST"=some u/\RelV (.int 12) u
 kh:∃u,mg "OF_BOXES"=some u/\RelV (.int 2) u
 iL:∃u,mg "OF_CLASSES"=some u/\RelV (.int 1) u
 kC:∃u,mg "OF_WORDS"=some u/\RelV (.int 0) u
 BG:∃u,mg "WHOLE"=some u/\RelV (.int 65536) u
 yj:∃u,mg "WIDEST"=some u/\RelV (.int 2) u
 j_:∃a,mg "WIDTHS"=some (.ref a)/\∀H,aY K H a [.int 4,.int 8,.int 16]
 CF:J7 K mg "BOXES"
 kJ:∃d,mg "SHAPES"=some (.ref d)/\lH K d [("put",["box","number"]),("add",["box","box"]),("sub",["box","box"]),("copy",["box","box"]),("tell",["box"]),("hear",["box"]),("jump",["goal"]),("zero",["box","goal"]),("halt",[])]
 mc:∃(C_Machine f___init__ f_place_next f_carry_out f_number_for f_heard_number f_told_numbers f_box_numbers:Addr) (d___init__ d_place_next d_carry_out d_number_for d_heard_number d_told_numbers d_box_numbers:FuncData),mg "Machine"=some (.ref C_Machine)/\mh K C_Machine/\bL K C_Machine "given"/\bL K C_Machine "heard"/\bL K C_Machine "told"/\bL K C_Machine "boxes"/\Mk K C_Machine f___init__/\lB K "__init__" "Machine.__init__" aM f___init__ d___init__/\Binds K d___init__ ["self","given"] []/\Meth K C_Machine "place_next" f_place_next/\lB K "place_next" "Machine.place_next" aK f_place_next d_place_next/\Binds K d_place_next ["self","row","behind","end"] []/\Meth K C_Machine "carry_out" f_carry_out/\lB K "carry_out" "Machine.carry_out" aN f_carry_out d_carry_out/\Binds K d_carry_out ["self","row"] []/\Meth K C_Machine "number_for" f_number_for/\lB K "number_for" "Machine.number_for" aJ f_number_for d_number_for/\Binds K d_number_for ["self","row"] []/\Meth K C_Machine "heard_number" f_heard_number/\lB K "heard_number" "Machine.heard_number" aF f_heard_number d_heard_number/\Binds K d_heard_number ["self"] []/\Meth K C_Machine "told_numbers" f_told_numbers/\lB K "told_numbers" "Machine.told_numbers" aG f_told_numbers d_told_numbers/\Binds K d_told_numbers ["self"] []/\Meth K C_Machine "box_numbers" f_box_numbers/\lB K "box_numbers" "Machine.box_numbers" aC f_box_numbers d_box_numbers/\Binds K d_box_numbers ["self"] []
 oi:mG K mg "by_worth"
 pK:mG K mg "code_of"
section
variable {P:Program} {w:World} {K:PJ} {mg:Str->Option Value} {base:Heap}
namespace Kr
noncomputable def ks(L:Nat):List Nat->Nat
 |[]=>0
 |l::r=>2^(L-l)+ks L r
theorem dc(L:Nat):∀a b,ks L (a++b)=ks L a+ks L b
 |[],b=>by simp[ks]
 |x::a,b=>by simp[ks,dc L a b];lia
theorem iG{a:List Nat}(h:a.Perm b):ks L a=ks L b:=by
 induction h with
 |nil=>rfl
 |cons x _ ih=>simp[ks,ih]
 |swap x y l=>simp[ks];lia
 |trans _ _ h1 h2=>exact h1.trans h2
theorem vX{d l:Nat}(h:d<l)(hl:l<=L):2^(L-d)=2*2^(L-(d+1)):=by
 have:L-d=(L-(d+1))+1:=by lia
 rw[this,Mj];lia
def fit:List Nat->Nat->Nat->Nat->Prop:=λr free depth L=>ks L r<=free*2^(L-depth)
theorem DP{L d:Nat}:∀{r:List Nat},(∀x∈r,d<=x)->ks L r<=r.length*2^(L-d)
 |[],_=>by simp[ks]
 |x::r,h=>by
  have ih:=DP (L:=L) (d:=d) (r:=r) λy hy=>h y (Ko _ hy);have hx:=h x Km;have:=LY (n:=2) (by decide) (Nat.sub_le_sub_left hx L)
  simp only[ks,Kq,Mr];lia
theorem Gd{x:Nat}{r:List Nat}:0<ks L (x::r):=by
 have:=Oh (n:=L-x) (show 0<2 by decide)
 simp only[ks];lia
theorem sR{r:List Nat}{free depth:Nat}(h:∀x∈r,depth<=x)(hf:r.length<=free):fit r free depth L:=
 Kn (DP h) (NQ _ hf)
theorem rM{r:List Nat}{free depth l:Nat}(h:depth<l)(hl:l<=L):fit r free depth L ↔ fit r (free*2) (depth+1) L:=by
 unfold fit;rw[vX h hl,Ma]
theorem x_{r:List Nat}{free l:Nat}(hf:0<free):fit (l::r) free l L ↔ fit r (free-1) l L:=by
 unfold fit;simp only[ks];obtain⟨f,rfl⟩:∃f,free=f+1:=⟨free-1,by lia⟩
 rw[Nq,Mr];lia
theorem zU{x:Nat}{r:List Nat}{depth L:Nat}:¬ fit (x::r) 0 depth L:=by
 unfold fit;have:=Gd (L:=L) (x:=x) (r:=r);lia
def Gz(L:Nat)(done:List Nat)(need last:Int):Prop:=0<=need/\0<=last/\∀m:Nat,(need<=m ↔ ks L done<=m*2^(L-last.toNat))
theorem shr(n:Int)(g:Nat)(hn:0<=n)(m:Nat):(1-((0-n) / 2^g)<=(m:Int)) ↔ (1<=m/\n<=((m-1:Nat):Int)*2^g):=by
 have hp:(0:Int)<2^g:=Pg (by decide)
 have h1:(1-((0-n) / 2^g)<=(m:Int)) ↔ (1-(m:Int))<=(0-n) / 2^g:=by lia
 rw[h1,Pd hp];constructor
 ·intro h;have hm:1<=m:=by
   rcases Ml m with z|z
   ·subst z;simp at h;lia
   ·exact z
  refine⟨hm,?_⟩;have e:((m-1:Nat):Int)=(m:Int)-1:=by lia
  rw[e,Ph];rw[Ph] at h;lia
 ·rintro⟨hm,h⟩;have e:((m-1:Nat):Int)=(m:Int)-1:=by lia
  rw[e,Ph] at h;rw[Ph];lia
theorem Gz.step{done:List Nat}{need last l:Int}(h:Gz L done need last)(h0:0<=l)(hl:l<=last)(hL:last<=L):
  Gz L (done++[l.toNat]) (1-((0-need) / 2^(last-l).toNat)) l:=by
 obtain⟨n0,l0,hm⟩:=h;refine⟨?_,h0,λm=>?_⟩
 ·have hp:(0:Int)<2^(last-l).toNat:=Pg (by decide)
  have:(0-need) / 2^(last-l).toNat<=0:=Int.ediv_nonpos_of_nonpos_of_neg (by lia) hp
  lia
 ·rw[shr need _ n0 m,dc];simp only[ks];have e1:2^(L-l.toNat)=2^(last-l).toNat*2^(L-last.toNat):=by
   rw[<- Nz];congr 1;lia
  have hpos:=Oh (n:=L-l.toNat) (show 0<2 by decide)
  constructor
  ·rintro⟨m1,h⟩;have h':need<=(((m-1)*2^(last-l).toNat:Nat):Int):=by
    rw[Int.natCast_mul,Int.natCast_pow];exact h
   have:=(hm _).mp h';rw[Ma,<- e1] at this;obtain⟨k,rfl⟩:∃k,m=k+1:=⟨m-1,by lia⟩
   rw[Nq] at this;rw[Mr];exact Nat.add_le_add this (Kk _)
  ·intro h;have m1:1<=m:=by
    rcases Ml m with z|z
    ·subst z;lia
    ·exact z
   refine⟨m1,?_⟩;have h':need<=(((m-1)*2^(last-l).toNat:Nat):Int):=by
    refine (hm _).mpr ?_;rw[Ma,<- e1];obtain⟨k,rfl⟩:∃k,m=k+1:=⟨m-1,by lia⟩
    rw[Nq];rw[Mr] at h;exact Nat.le_of_add_le_add_right h
   rw[Int.natCast_mul,Int.natCast_pow] at h';exact h'
end Kr
noncomputable def iV(xs:List Int):List V:=xs.map V.int
theorem aR(xs:List Int):(iV xs).length=xs.length:=Kc ..
theorem fO(xs ys:List Int):iV (xs++ys)=iV xs++iV ys:=Kv
theorem DY{xs:List Int}(h:i<xs.length):cL (iV xs) (i:Int)=some (.int xs[i]):=b7 (by unfold iV;rw[Kp,Ka h];rfl)
theorem iu{xs:List Int}{v:V}(h:(iV xs)[i]?=some v):∃hi:i<xs.length,v=.int xs[i]:=by
 unfold iV at h;rw[Kp] at h
 cases e:xs[i]? with
 |none=>rw[e] at h;cases h
 |some x=>rw[e] at h;cases h;obtain⟨hi,rfl⟩:=Kf.mp e;exact⟨hi,rfl⟩
theorem Ee(xs:List Int)(i:Nat)(x:Int):(iV xs).set i (.int x)=iV (xs.set i x):=by unfold iV;rw[Mw]
theorem FK(h:(i:Int)<(xs.length:Nat)):∃t,t∈xs/\cL xs (i:Int)=some t:=by
 have hn:i<xs.length:=by lia
 exact⟨xs[i],K1 hn,b7 (Ka hn)⟩
theorem Ft(k:KB ex H H')(hx:∀b∈ex,∃ys,H b=some (.lst ys))(h:H a=some (.tup xs)):H' a=some (.tup xs):=k _ _ h λz=>by
 obtain⟨ys,e⟩:=hx a z;rw[h] at e;cases e
def jk(ls:List Int):Prop:=0<ls.length/\ls.length<=20/\∀x∈ls,1<=x/\x<=20
noncomputable def KS(ls:List Int):Nat:=Kr.ks 40 (ls.map Int.toNat)
noncomputable def lN(ls:List Int):Bool:=decide (KS ls<=2^40)
namespace Pn
theorem jT{Y:List (List Nat)}(h:X.Perm Y):X.flatten.Perm Y.flatten:=by
 induction h with
 |nil=>exact .refl _
 |cons x _ ih=>rw[KL,KL];exact ih.append_left _
 |swap x y l =>
  rw[KL,KL,KL,KL,<- K2,<- K2];exact List.perm_append_comm.append_right _
 |trans _ _ h1 h2=>exact h1.trans h2
theorem pick{a:α}{X:List α}(h:a∈X):∃X',X.Perm (a::X'):=by
 obtain⟨s,t,rfl⟩:=List.append_of_mem h;exact⟨s++t,LI⟩
theorem split(A B:List α):∀(X Y:List α),(A++B).Perm (X++Y)->∃X1 X2 Y1 Y2,X.Perm (X1++X2)/\A.Perm (X1++Y1)/\B.Perm (X2++Y2):=by
 induction A with
 |nil=>exactλX Y h=>⟨[],X,[],Y,.refl _,.refl _,h⟩
 |cons a A ih =>
  intro X Y h;rw[L5] at h;rcases KJ.mp (h.mem_iff.mp Km) with m|m
  ·obtain⟨X',hX⟩:=pick m;have h2:(a::(A++B)).Perm (a::(X'++Y)):=h.trans (hX.append_right Y);obtain⟨X1,X2,Y1,Y2,p1,p2,p3⟩:=ih X' Y h2.cons_inv;exact⟨a::X1,X2,Y1,Y2,hX.trans (p1.cons a),p2.cons a,p3⟩
  ·obtain⟨Y',hY⟩:=pick m;have h2:(a::(A++B)).Perm (a::(X++Y')):=(h.trans (hY.append_left X)).trans LI;obtain⟨X1,X2,Y1,Y2,p1,p2,p3⟩:=ih X Y' h2.cons_inv;exact⟨X1,X2,a::Y1,Y2,p1,(p2.cons a).trans LI.symm,p3⟩
noncomputable def pk:List (List Nat)->List (List Nat)
 |a::b::r=>(a++b)::pk r
 |_=>[]
theorem rq:∀(A X Y:List (List Nat)),(pk A).Perm (X++Y)->∃X' Y',A.Perm (X'++Y')/\X'.length=2*X.length/\X'.flatten.Perm X.flatten
 |[],X,Y,h=>by
  have:X=[]:=(N0.mp h.symm.eq_nil).1;subst this;exact⟨[],[],.refl _,rfl,.refl _⟩
 |[a],X,Y,h=>by
  have:X=[]:=(N0.mp h.symm.eq_nil).1;subst this;exact⟨[],[a],.refl _,rfl,.refl _⟩
 |a::b::r,X,Y,h=>by
  unfold pk at h;rcases KJ.mp (h.mem_iff.mp Km) with m|m
  ·obtain⟨X',hX⟩:=pick m;obtain⟨X2,Y2,p1,p2,p3⟩:=rq r X' Y (h.trans (hX.append_right Y)).cons_inv;refine⟨a::b::X2,Y2,(p1.cons b).cons a,?_,?_⟩
   ·rw[hX.length_eq];simp only[Kq];lia
   ·refine List.Perm.trans ?_ (jT hX).symm;rw[KL,KL,KL,<- K2];exact p3.append_left _
  ·obtain⟨Y',hY⟩:=pick m;obtain⟨X2,Y2,p1,p2,p3⟩:=rq r X Y' ((h.trans (hY.append_left X)).trans LI).cons_inv;exact⟨X2,a::b::Y2,(((p1.cons b).cons a).trans ((LI (l₁:=X2) (l₂:=Y2) (a:=b)).symm.cons a)).trans LI.symm,p2,p3⟩
theorem mZ:∀A:List (List Nat),(pk A).length=A.length / 2
 |[]=>rfl
 |[_]=>by simp[pk]
 |a::b::r=>by
  unfold pk;rw[Kq,mZ r];simp only[Kq];lia
theorem DL:∀A:List (List Nat),(pk A).flatten.length<=A.flatten.length
 |[]=>by simp[pk]
 |[a]=>by simp[pk]
 |a::b::r=>by
  have:=DL r;rw[pk,KL,KL,KL];simp only[Ke];lia
theorem DX:∀(A:List (List Nat)) (i:Nat),(pk A)[i]?=(A[2*i]?).bind λx=>(A[2*i+1]?).map λy=>x++y
 |[],i=>by simp[pk]
 |[a],i=>by
  rw[show [a][2*i+1]?=none from NC (by simp)]
  cases [a][2*i]?<;>simp[pk]
 |a::b::r,i=>by
  cases i with
  |zero=>simp[pk]
  |succ i =>
   rw[pk,Lg,DX r i,show 2*(i+1)=2*i+1+1 by lia,Lg,Lg,Lg,Lg]
noncomputable def sN(f:Nat->Nat):Nat->Nat
 |0=>0
 |n+1=>sN f n+f n
theorem oh(f g:Nat->Nat)(n:Nat):sN (λi=>f i+g i) n=sN f n+sN g n:=by
 induction n with
 |zero=>rfl
 |succ n ih=>simp only[sN,ih];lia
theorem qX(k:Nat)(f:Nat->Nat)(n:Nat):sN (λi=>k*f i) n=k*sN f n:=by
 induction n with
 |zero=>rfl
 |succ n ih=>simp only[sN,ih];rw[Nat.mul_add]
theorem Dt{f:Nat->Nat}{n:Nat}(h:∀i,i<n->f i<=g i):sN f n<=sN g n:=by
 induction n with
 |zero=>exact Kk _
 |succ n ih =>
  have:=ih λi hi=>h i (by lia)
  have:=h n (by lia)
  simp only[sN];lia
theorem iU{f:Nat->Nat}{n:Nat}(h:∀i,i<n->f i=g i):sN f n=sN g n:=by
 induction n with
 |zero=>rfl
 |succ n ih=>simp only[sN];rw[ih λi hi=>h i (by lia),h n (by lia)]
theorem pj(k n:Nat):sN (λ_=>k) n=n*k:=by
 induction n with
 |zero=>rw[Nat.zero_mul];rfl
 |succ n ih=>simp only[sN,ih];rw[Mr]
theorem sO(x n:Nat):sN (λi=>if x=i then 1 else 0) n=if x<n then 1 else 0:=by
 induction n with
 |zero=>rfl
 |succ n ih =>
  simp only[sN,ih];by_cases h:x<n
  ·rw[Kj h,Ki (by lia),Kj (by lia)]
  ·by_cases h2:x=n
   ·rw[Ki h,Kj h2,Kj (by lia)]
   ·rw[Ki h,Ki h2,Ki (by lia)]
theorem pL(i x:Nat)(l:List Nat):(x::l).count i=l.count i+if x=i then 1 else 0:=by
 rw[NP];by_cases h:x=i<;>simp[h]
theorem Ay{n:Nat}{l:List Nat}(h:∀x∈l,x<n):sN (λi=>l.count i) n=l.length:=by
 induction l with
 |nil=>rw[iU (g:=λ_=>0) λi _=>List.count_nil,pj];rfl
 |cons x l ih=>rw[iU (g:=λi=>l.count i+if x=i then 1 else 0) λi _=>pL i x l,oh,ih λy hy=>h y (Ko _ hy),sO,Kj (h x Km),Kq]
noncomputable def coins(n:Nat):List (List Nat):=(List.range n).map λi=>[i]
theorem wm(n:Nat):(coins n).length=n:=by unfold coins;rw[Kc,Lc]
theorem kX(i:Nat):coins (i+1)=coins i++[[i]]:=by
 unfold coins;rw[Mn,Kv];rfl
theorem pP(n:Nat):(coins n).flatten=List.range n:=by
 induction n with
 |zero=>rfl
 |succ n ih=>rw[kX,LF,ih,Mn];rfl
def fG(n:Nat):Nat->List (List Nat)->Prop
 |0,S=>S=[]
 |d+1,S=>∃S0,fG n d S0/\S.Perm (coins n++pk S0)
theorem fG.len{n:Nat}(hn:1<=n):∀{d:Nat} {S:List (List Nat)},fG n d S->S.length+(2*n-1) / 2^d=2*n-1
 |0,S,h=>by
  rw[show S=[] from h,Nat.pow_zero,Nat.div_one];simp
 |d+1,S,⟨S0,h,p⟩=>by
  have ih:=fG.len hn h;rw[p.length_eq,Ke,wm,mZ,Mj,<- Nat.div_div_eq_div_mul];generalize (2*n-1) / 2^d=e at *;lia
theorem fG.th{n:Nat}:∀{d:Nat} {S:List (List Nat)},fG n d S->S.flatten.length<=n*d
 |0,S,h=>by rw[show S=[] from h];exact Kz _
 |d+1,S,⟨S0,h,p⟩=>by
  have h1:=fG.th h;have h2:=DL S0;rw[(jT p).length_eq,LF,Ke,pP,Lc,Nat.mul_succ];lia
theorem zH{n:Nat}{C Y:List (List Nat)}(h:(coins n).Perm (C++Y)):(∀i,C.flatten.count i<=1)/\C.flatten.length=C.length/\∀i∈C.flatten,i<n:=by
 have h1:(List.range n).Perm (C.flatten++Y.flatten):=by rw[<- LF,<- pP];exact jT h
 have hm:∀x∈C,x.length=1:=λx hx=>by
  obtain⟨i,_,e⟩:=KZ.mp (h.mem_iff.mpr (KJ.mpr (.inl hx)));rw[<- e];rfl
 refine⟨λi=>?_,?_,λi hi=>LJ.mp (h1.mem_iff.mpr (KJ.mpr (.inl hi)))⟩
 ·have h2:=h1.count_eq i;rw[List.count_append] at h2;have h3:(List.range n).count i<=1:=List.nodup_iff_count.mp List.nodup_range i;lia
 ·clear h h1
  induction C with
  |nil=>rfl
  |cons x C ih =>
   have:=hm x Km;rw[KL,Ke,Kq,ih λy hy=>hm y (Ko _ hy)];lia
theorem BC(a b D:Nat):(a+b)*2^(D+1)=2*(2^D*a)+2*b*2^D:=by
 rw[Mj];generalize 2^D=x;have h1:a*(x*2)=2*(x*a):=by rw[Nk a,Nk x 2,Ma]
 have h2:b*(x*2)=2*b*x:=by rw[Nk x 2,<- Ma,Nk b 2]
 rw[Pj,h1,h2]
theorem two_split{D a:Nat}(h:a<=D):2^(D+1-a)=2*2^(D-a):=by
 rw[show D+1-a=(D-a)+1 by lia,Mj];lia
theorem worth{n:Nat}:∀{D:Nat} {S:List (List Nat)},fG n D S->∀(X Y:List (List Nat)),S.Perm (X++Y)->(∀i,X.flatten.count i<=D)/\X.length*2^D<=2*sN (λi=>2^D-2^(D-X.flatten.count i)) n
 |0,S,hS,X,Y,h=>by
  rw[show S=[] from hS] at h;have:X=[]:=(N0.mp h.symm.eq_nil).1;subst this;exact⟨λi=>Kk 0,by simp⟩
 |D+1,S,⟨S0,hS,hp⟩,X,Y,h=>by
  obtain⟨C,P,Y1,Y2,p1,p2,p3⟩:=split _ _ X Y (hp.symm.trans h);obtain⟨X',Y',q1,q2,q3⟩:=rq _ _ _ p3;obtain⟨i1,i2⟩:=worth hS X' Y' q1;obtain⟨c1,c2,c3⟩:=zH p2;have e:∀i,X.flatten.count i=C.flatten.count i+X'.flatten.count i:=λi=>by
   rw[(jT p1).count_eq,LF,List.count_append,q3.count_eq]
  have hl:X.length=C.length+P.length:=by rw[p1.length_eq,Ke]
  refine⟨λi=>by rw[e];have:=c1 i;have:=i1 i;lia,?_⟩
  have key:sN (λi=>2^D*C.flatten.count i+(2^D-2^(D-X'.flatten.count i))) n<=sN (λi=>2^(D+1)-2^(D+1-X.flatten.count i)) n:=Dt λi _=>by
   have a1:=c1 i;have a2:=i1 i;have a3:2^(D-X'.flatten.count i)<=2^D:=LY (by decide) (O3 _ _)
   have a4:2^(D+1)=2*2^D:=by rw[Mj];lia
   rw[e i];rcases Ml (C.flatten.count i) with z|z
   ·rw[z,Ms,two_split a2,a4];lia
   ·rw[show C.flatten.count i=1 by lia,show D+1-(1+X'.flatten.count i)=D-X'.flatten.count i by lia,a4];lia
  rw[oh,qX,Ay c3,c2] at key;rw[q2] at i2;rw[hl,BC];lia
theorem AE(L:Nat)(l:Nat->Nat)(n:Nat):Kr.ks L ((List.range n).map l)=sN (λi=>2^(L-l i)) n:=by
 induction n with
 |zero=>rfl
 |succ n ih=>rw[Mn,Kv,Kr.dc,ih];simp[sN,Kr.ks]
theorem BI{n D:Nat}(hS:fG n D S)(hn:2<=n)(hD:n<=2^D){l:Nat->Nat}(hl:l=λi=>(S.take (2*n-2)).flatten.count i):
  (∀i,l i<=D)/\(∀i,i<n->1<=l i)/\sN (λi=>2^(D-l i)) n<=2^D:=by
 obtain⟨w1,w2⟩:=worth hS (S.take (2*n-2)) (S.drop (2*n-2)) (by rw[Lk])
 have hlen:=hS.len (by lia)
 have he:(2*n-1) / 2^D<2:=(Nat.div_lt_iff_lt_mul (Oh (by decide))).mpr (by lia)
 have e1:(S.take (2*n-2)).length=2*n-2:=by rw[K8];lia
 rw[e1] at w2;have w1':∀i,l i<=D:=λi=>by rw[hl];exact w1 i
 have w2':(2*n-2)*2^D<=2*sN (λi=>2^D-2^(D-l i)) n:=by rw[hl];exact w2
 clear w1 w2 hl e1 hlen he hS;have w3:sN (λi=>2^D-2^(D-l i)) n+sN (λi=>2^(D-l i)) n=n*2^D:=by
  rw[<- oh,iU (g:=λ_=>2^D) λi _=>Nat.sub_add_cancel (LY (by decide) (O3 _ _)),pj]
 have h2:(2*n-2)*2^D=2*(n*2^D)-2*2^D:=by rw[Nat.sub_mul,Ma]
 have hks:sN (λi=>2^(D-l i)) n<=2^D:=by
  have:n*2^D >= 1*2^D:=NQ _ (by lia)
  lia
 refine⟨w1',λi hi=>?_,hks⟩;rcases Ml (l i) with z|z
 ·exfalso
  have hpos:∀j,1<=2^(D-l j):=λj=>Oh (by decide)
  obtain⟨j,hj,hji⟩:∃j,j<n/\j≠i:=if h:i=0 then ⟨1,by lia,by lia⟩ else ⟨0,by lia,by lia⟩
  have:sN (λk=>(2^D*if i=k then 1 else 0)+if j=k then 1 else 0) n<=sN (λi=>2^(D-l i)) n:=Dt λk hk=>by
   by_cases a:i=k
   ·subst a;rw[Kj rfl,Ki hji,z];simp
   ·rw[Ki a];have:=hpos k;by_cases b:j=k
    ·rw[Kj b];lia
    ·rw[Ki b];lia
  rw[oh,sO,Kj hj,qX,sO,Kj hi] at this;lia
 ·exact z
end Pn
theorem zY{n D:Nat}(hS:Pn.fG n D S)(hn:2<=n)(h20:n<=20)(hD:n<=2^D)(hD2:D<=20)(hl:ls=(List.range n).map λi=>(((S.take (2*n-2)).flatten.count i:Nat):Int)):jk ls/\lN ls=true:=by
 obtain⟨a,b,c⟩:=Pn.BI hS hn hD rfl;subst hl;refine⟨⟨by rw[Kc,Lc];lia,by rw[Kc,Lc];lia,λx hx=>?_⟩,?_⟩
 ·obtain⟨i,hi,rfl⟩:=KZ.mp hx;have h1:=b i (LJ.mp hi);have h2:=a i;lia
 ·unfold lN KS;rw[LP,show (Int.toNat ∘ λi=>(((S.take (2*n-2)).flatten.count i:Nat):Int))=λi=>(S.take (2*n-2)).flatten.count i from funext λi=>KN _,Pn.AE];refine KG ?_;rw[Pn.iU (g:=λi=>2^(40-D)*2^(D-(S.take (2*n-2)).flatten.count i)) λi _=>by rw[<- Nz];congr 1;have:=a i;lia,Pn.qX,show 2^40=2^(40-D)*2^D by rw[<- Nz];congr 1;lia]
  exact Nat.mul_le_mul_left _ c
namespace Cw
noncomputable def inc:List Nat->List Nat
 |[]=>[]
 |c::r=>if r.all (· == 49) then (if c=48 then 49::r.map (λ_=>48) else 48::r.map (λ_=>48)) else c::inc r
noncomputable def pad(n:Nat)(w:List Nat):List Nat:=w++List.replicate (n-w.length) 48
noncomputable def iS(w:List Nat)(n:Nat):List Nat:=pad n (inc w)
noncomputable def gB(w:List Nat)(n:Nat):List Nat:=pad n ((w.reverse.dropWhile (· == 49)).reverse.dropLast++[49])
theorem IC:∀w:List Nat,w.all (· == 49)=true->inc w=w.map λ_=>48
 |[],_=>rfl
 |c::r,h=>by
  rw[L_,Lo] at h;have hc:c=49:=MV.mp h.1;unfold inc;rw[Kj h.2,Ki (by rw[hc];decide),K9]
theorem nc:∀{l:List Nat},l.all (· == 49)=true->l=List.replicate l.length 49
 |[],_=>rfl
 |c::r,h=>by
  rw[L_,Lo] at h;have hc:c=49:=MV.mp h.1;rw[Kq,KW,<- nc h.2,hc]
theorem A_(k:Nat):(List.replicate k 49).all (· == 49)=true:=by
 rw[LR];intro x hx;rw[(Lz.mp hx).2];rfl
theorem parts:∀{w:List Nat},(∀c∈w,c=48\/c=49)->w.all (· == 49)=false->∃p k,w=p++48::List.replicate k 49
 |[],_,h=>by cases h
 |c::r,hb,h=>by
  by_cases z:r.all (· == 49)=true
  ·rw[L_,z,N3] at h;have hc:c=48:=(hb c Km).resolve_right λe=>by rw[e] at h;cases h
   exact⟨[],r.length,by rw[hc,LM,<- nc z]⟩
  ·obtain⟨p,k,e⟩:=parts (w:=r) (λx hx=>hb x (Ko _ hx)) (by simpa using z)
   exact⟨c::p,k,by rw[e];rfl⟩
theorem gW(k:Nat):∀p:List Nat,inc (p++48::List.replicate k 49)=p++49::List.replicate k 48
 |[]=>by
  rw[LM,LM];unfold inc;rw[Kj (A_ k),Kj rfl,MI]
 |c::p=>by
  rw[L5];unfold inc;have z:¬ (p++48::List.replicate k 49).all (· == 49)=true:=by
   rw[List.all_append,L_];simp
  rw[Ki z,gW k p];rfl
theorem rN(k:Nat)(p:List Nat):((p++48::List.replicate k 49).reverse.dropWhile (· == 49)).reverse=p++[48]:=by
 rw[NY,List.reverse_cons,List.reverse_replicate];have e:∀(k:Nat) (t:List Nat),(List.replicate k 49++[48]++t).dropWhile (· == 49)=[48]++t:=λk t=>by
  induction k with
  |zero=>rfl
  |succ k ih=>rw[KW,L5,L5,Ng,Kj (by decide)];exact ih
 rw[e,NY,M_];rfl
theorem vM{w:List Nat}{n:Nat}(hb:∀c∈w,c=48\/c=49)(h:w.all (· == 49)=false)(hn:w.length<=n):gB w n=iS w n:=by
 obtain⟨p,k,rfl⟩:=parts hb h;unfold gB iS pad;rw[rN,gW,List.dropLast_append_of_ne_nil (by simp)]
 rw[Ke,Kq,Kw] at hn;simp only[List.dropLast_singleton,Lb,Ke,Kq,Kw,LH,K2,L5,LM];congr 2;rw[List.replicate_append_replicate];congr 1;lia
noncomputable def val:List Nat->Nat
 |[]=>0
 |c::r=>(c-48)*2^r.length+val r
theorem gZ:∀a b:List Nat,val (a++b)=val a*2^b.length+val b
 |[],b=>by simp[val]
 |c::a,b=>by
  rw[L5,val,val,gZ a b,Ke,Nz,Pj,Ma,Nd]
theorem fB:∀k,val (List.replicate k 48)=0
 |0=>rfl
 |k+1=>by rw[KW,val,fB k];simp
theorem lK:∀k,val (List.replicate k 49)+1=2^k
 |0=>rfl
 |k+1=>by
  have:=lK k;rw[KW,val,Kw,Mj];lia
theorem nE:∀w:List Nat,(inc w).length=w.length
 |[]=>rfl
 |c::r=>by
  unfold inc;split
  ·split<;>simp
  ·rw[Kq,Kq,nE r]
theorem pT:∀{w:List Nat},(∀c∈w,c=48\/c=49)->∀c∈inc w,c=48\/c=49
 |[],_,_,h=>by cases h
 |d::r,hb,c,h=>by
  unfold inc at h
  split at h
  ·split at h
   ·rcases Kl.mp h with h|h
    ·exact .inr h
    ·obtain⟨_,_,e⟩:=KZ.mp h;exact .inl e.symm
   ·rcases Kl.mp h with h|h
    ·exact .inl h
    ·obtain⟨_,_,e⟩:=KZ.mp h;exact .inl e.symm
  ·rcases Kl.mp h with h|h
   ·rw[h];exact hb d Km
   ·exact pT (λx hx=>hb x (Ko _ hx)) c h
theorem fC{w:List Nat}{n:Nat}(h:w.length<=n):(iS w n).length=n:=by
 unfold iS pad;rw[Ke,Kw,nE];lia
theorem mJ{w:List Nat}{n:Nat}(hb:∀c∈w,c=48\/c=49):∀c∈iS w n,c=48\/c=49:=λc h=>by
 rcases KJ.mp h with h|h
 ·exact pT hb c h
 ·exact .inl (Lz.mp h).2
theorem pI{w:List Nat}{n:Nat}(hb:∀c∈w,c=48\/c=49)(h:w.all (· == 49)=false):val (iS w n)=(val w+1)*2^(n-w.length):=by
 unfold iS pad;rw[gZ,fB,Kw,nE,Nat.add_zero];congr 1;obtain⟨p,k,rfl⟩:=parts hb h;have:=lK k;rw[gW,gZ,gZ,val,val,fB,Kq,Kq,Kw,Kw];lia
theorem zX{w:List Nat}(h:w.all (· == 49)=true):val w+1=2^w.length:=by
 rw[nc h,Kw];exact lK _
structure jh (done:List Nat) (w:List Nat):Prop where
 bits:∀c∈w,c=48\/c=49
 len:w.length<=40
 sum:(val w+1)*2^(40-w.length)=Kr.ks 40 done
theorem jh.zero{done rest w:List Nat}{l:Nat}(h:jh done w)(hk:Kr.ks 40 done+2^(40-l)<=2^40):w.all (· == 49)=false:=by
 cases z:w.all (· == 49) with
 |false=>rfl
 |true =>
  have e:=h.sum;rw[zX z,<- Nz,Nat.add_sub_cancel' h.len] at e;have:0<2^(40-l):=Oh (by decide)
  lia
theorem jh.next{done w:List Nat}{l:Nat}(h:jh done w)(hl:w.length<=l)(hl2:l<=40)(hk:Kr.ks 40 done+2^(40-l)<=2^40):jh (done++[l]) (iS w l):=by
 have z:=h.zero (rest:=[]) hk;refine⟨mJ h.bits,by rw[fC hl];exact hl2,?_⟩
 rw[pI h.bits z,fC hl,Pj,Ma,<- Nz,Kr.dc,<- h.sum];have e:l-w.length+(40-l)=40-w.length:=by lia
 rw[e];simp[Kr.ks]
theorem jh.first{l:Nat}(hl:l<=40):jh [l] (List.replicate l 48):=⟨λc h=>.inl (Lz.mp h).2,by rw[Kw];exact hl,by rw[fB,Kw];simp[Kr.ks]⟩
noncomputable def along(nx:List Nat->Nat->List Nat)(ln:Nat->Nat):List Nat->Option (List Nat)×List (List Nat)->Option (List Nat)×List (List Nat)
 |[],s=>s
 |t::r,(a,ws) =>
  let w:=match a with|none=>List.replicate (ln t) 48|some v=>nx v (ln t)
  along nx ln r (some w,ws.set t w)
theorem iR{nx:List Nat->Nat->List Nat}:∀(a b:List Nat) (s:Option (List Nat)×List (List Nat)),along nx ln (a++b) s=along nx ln b (along nx ln a s)
 |[],_,_=>rfl
 |t::r,b,(a,ws)=>iR r b _
theorem hG{nx:List Nat->Nat->List Nat}:∀(o:List Nat) (s:Option (List Nat)×List (List Nat)),(along nx ln o s).2.length=s.2.length
 |[],_=>rfl
 |t::r,(a,ws)=>(hG r _).trans Ld
end Cw
local macro_rules | `(tactic| walk_at "lc") => `(tactic| first | exact Or.inl rfl | exact Or.inr rfl)
local macro_rules | `(tactic| wp_walk using $ts,*) => do
  let ids := ("Nat.reduceAdd Nat.reduceSub L2.Ap.wB L2.Ap.tC L2.Ap.xQ L2.Ap.GX L2.Ap.p6 L2.Ap.Hb L2.Ap.xP L2.Ap.HB L2.Ap.zh L2.Ap.oP L2.Ap.jX L2.Ap.ow L2.Ap.tK L2.Ap.CY L2.Ap.jw L2.Ap.yi L2.Ap.zI L2.Ap.mO L2.Ap.AH L2.Ap.GA L2.Ap.xS L2.Ap.Hs L2.Ap.iJ L2.Ap.pG L2.Ap.we L2.Ap.nL L2.Ap.bp L2.Ap.xO L2.Ap.ma L2.Ap.dX L2.Ap.lU L2.Ap.yy L2.Ap.qu L2.Ap.wD L2.Ap.pB L2.Ap.mw L2.Ap.m9 L2.Ap.yX L2.Ap.qg Dj AM L2.Ap.rI L2.Ap.vt L2.Ap.rU L2.Ap.DU L2.Ap.GQ L2.Ap.addRef L2.Ap.Ir L2.Ap.Jk L2.Ap.BF L2.Ap.J8 L2.Ap.Jt L2.Ap.gr L2.Ap.HY L2.Ap.setRef L2.Ap.xE L2.Ap.Fo L2.Ap.GY L2.Ap.Jo L2.Ap.Jm L2.Ap.tq L2.Ap.Hg L2.Ap.Hj L2.Ap.F_ L2.Ap.Ck L2.Ap.B2 L2.Ap.JT L2.start BQ CV Ju IV List.map_cons List.map_nil List.length_cons List.length_nil List.replicate List.cons_append List.nil_append List.append_nil List.getElem?_cons_zero List.getElem?_cons_succ List.set_cons_zero List.set_cons_succ Option.some.injEq exists_eq_left exists_eq_left' V.int.injEq V.str.injEq V.bl.injEq V.ref.injEq List.cons.injEq and_true true_and decide_eq_true_eq Bool.not_eq_true' decide_eq_false_iff_not Bool.false_eq_true L2.Ap.yr L2.Ap.AR L2.Ap.k_ L2.Ap.qR L2.Ap.p5 L2.Ap.pS L2.Ap.AK L2.Ap.zK L2.Ap.lu L2.Ap.jY".splitOn " ").toArray.map λn => Lean.mkIdent n.toName
  `(tactic| simp only [↓reduceIte, $[$ids:ident],*, $[$ts:term],*])
local macro_rules | `(tactic| walk_at "rz") => `(tactic| wp_walk using and_self)
local macro_rules|`(tactic|rfl')=>`(tactic|wp_walk using and_self)
local macro_rules|`(tactic|symm)=>do
  let n:=Lean.mkIdent `N
  let h:=Lean.mkIdent `hN
  `(tactic|(refine $h _ ?_;clear $h $n;refine ax λ$n $h=>?_))
local macro_rules|`(tactic|ac_rfl)=>do
  let n:=Lean.mkIdent `N
  let h:=Lean.mkIdent `hN
  `(tactic|(refine $h _ ?_;clear $h $n))
local macro_rules|`(tactic|right)=>`(tactic|walk_at "lc")
local macro_rules|`(tactic|exists $ts,*)=>`(tactic|wp_walk using $ts,*)
local macro_rules|`(tactic|left)=>do
  let i:=#[`args,`Qt,`hl,`h,`f,`cdv,`A,`outer,`s,`H,`E,`hr].map Lean.mkIdent
  let u:=Lean.mkIdent `hu
  `(tactic|(intro $[$i:ident]*;have $u:ident:=aS $(Lean.mkIdent `hr)))
noncomputable def wd(w:List Nat):Str:=⟨w.toArray⟩
theorem bA(w:List Nat):(wd w).length=w.length:=Kh ..
theorem z_{x:Str}{w:List Nat}(h:x.cps.toList=w):x=wd w:=by
 cases x with|mk a=>subst h;unfold wd;rw[Nb]
noncomputable def Il:Sp:=λvs H Q _=>∃n:Nat,n<=40/\((vs=[.aX,.int (n:Int)]/\Q (.str (wd (List.replicate n 48))) H)\/∃w,vs=[.str (wd w),.int (n:Int)]/\w.length<=40/\Q (.str (wd (Cw.gB w n))) H)
theorem wY(T:Txt K mg)(F:HasFn K mg "word_behind" dG ["ahead","length"]):au P w K mg base aZ 1 "word_behind" ["ahead","length"] Il:=by
 refine F.fL kg (λvs H Q E h=>?_) (λf cdv A outer s H vs Q E hr h=>?_)
 ·obtain⟨n,hn,⟨rfl,_⟩|⟨_,rfl,_⟩⟩:=h<;>rfl
 ·have hu:=aS hr;obtain⟨n,hn,h⟩:=h;rcases h with ⟨rfl,q⟩|⟨v,rfl,hv,q⟩
  ·refine⟨_,(Z.aq (Z.eF (Z.bu eG (Z.v 0) Z.aX) (Z.aA (Z.ret (Z.op Y.uC Z.str (Z.v 1)))) Z.bU)
   (Z.aA (Z.ret (Z.bm K rfl PySem.F.plainAttrs_str PySem.F.slot_str_ljust PySem.F.type_str_ljust Y.pZ (Z.op (Z.bf K rfl) (Z.slice Y.oj (Z.bm K rfl PySem.F.plainAttrs_str PySem.F.slot_str_rstrip PySem.F.type_str_rstrip Y.m8 (Z.v 0) (Z.cons Z.str Z.nil)) Z.Cb (Z.xc (Z.un iq Z.int))) Z.str) (Z.cons (Z.v 1) (Z.cons Z.str Z.nil)))))),?_⟩
   refine ax λN hN=>?_;walk_at "rz";refine⟨48,_,rfl,rfl,by lia,by lia,?_⟩
   rw[KN];exact q
  ·refine⟨_,(Z.aq (Z.eF (Z.bu eG (Z.v 0) Z.aX) (Z.aA (Z.ret (Z.op Y.uC Z.str (Z.v 1)))) Z.bU)
   (Z.aA (Z.ret (Z.bm K rfl PySem.F.plainAttrs_str PySem.F.slot_str_ljust PySem.F.type_str_ljust Y.pZ (Z.op (Z.bf K rfl) (Z.slice Y.oj (Z.bm K rfl PySem.F.plainAttrs_str PySem.F.slot_str_rstrip PySem.F.type_str_rstrip Y.m8 (Z.v 0) (Z.cons Z.str Z.nil)) Z.Cb (Z.xc (Z.un iq Z.int))) Z.str) (Z.cons (Z.v 1) (Z.cons Z.str Z.nil)))))),?_⟩
   refine ax λN hN=>?_;walk_at "rz";rw[hN];clear hN N;walk_at "rz";rw[Ki V.noConfusion];refine⟨rfl,wd v,_,rfl,rfl,by rw[bA];exact Kn hv (by decide),?_⟩
   have e0:(Str.ofString "1").cps.contains=λc:Nat=>c == 49:=by
    funext c
    show (#[49]:Array Nat).contains c=_;rw[Array.contains_eq_any_beq];simp
   have e1:=pe (wd v) (Str.ofString "1");rw[e0] at e1;have e2:(Txt.rstripChars (wd v) (Str.ofString "1")).cps.toList=(v.reverse.dropWhile (· == 49)).reverse:=by
    rw[<- M_ (Txt.rstripChars (wd v) (Str.ofString "1")).cps.toList,e1];rfl
   generalize Txt.rstripChars (wd v) (Str.ofString "1")=r at e2 ⊢;have hr2:r.length<=40:=by
    have:r.length=r.cps.toList.length:=by rw[KU];rfl
    rw[this,e2,Mx];exact Kn (N1 _).length_le (by rw[Mx];exact hv)
   have e3:(Y.jD r none (some (-1))).cps.toList=r.cps.toList.dropLast:=by
    show (Y.xH r.cps.toList none (some (-1))).toArray.toList=_;rw[NZ];unfold Y.xH;rw[HT.fD,Lw,Nn,ND];congr 1;show (if (-1:Int)<0 then ((-1:Int)+(r.cps.toList.length:Int)).toNat else min (-1:Int).toNat r.cps.toList.length)=_
    rw[Kj (by decide)]
    lia
   have hl3:(Y.jD r none (some (-1))).length<=40:=by
    have:(Y.jD r none (some (-1))).length=(Y.jD r none (some (-1))).cps.toList.length:=by rw[KU];rfl
    rw[this,e3,LZ,KU];exact Kn (O3 _ _) hr2
   refine⟨r,rfl,Kn hr2 (by decide),?_⟩
   refine⟨Kn (show _<=41 from Nat.add_le_add_right hl3 1) (by decide),rfl,_,(n:Int),_,rfl,rfl,by lia,by lia,rfl,?_⟩
   have e4:Txt.ljustF (Y.jD r none (some (-1))++Str.ofString "1") (n:Int) ((Str.ofString "0").cps.getD 0 0)=wd (Cw.gB v n):=by
    refine z_ ?_;rw[PyProof.Rows.ljustF_list,KN];have e5:(Y.jD r none (some (-1))++Str.ofString "1").cps.toList=(v.reverse.dropWhile (· == 49)).reverse.dropLast++[49]:=by
     show ((Y.jD r none (some (-1))).cps++#[49]).toList=_;rw[My,e3,e2]
    have e6:(Y.jD r none (some (-1))++Str.ofString "1").length=((v.reverse.dropWhile (· == 49)).reverse.dropLast++[49]).length:=by
     rw[<- e5,KU];rfl
    rw[e5,e6];rfl
   rw[e4];exact q
theorem C_:Str.ofString ""=wd []:=rfl
theorem wZ(z y:List Nat)(p:Nat)(hy:y≠[]):Y.kK (wd z) (wd y) (p:Int)=decide (y <+: z.drop p):=by
 have hl:0<y.length:=N_.mpr hy;unfold Y.kK;have e0:fromIndex (wd z).length (p:Int)=p:=by unfold fromIndex;rw[Ki (by lia)];lia
 rw[e0];have e:Builtin.Str.subAt (wd z) (wd y) p=decide ((z.drop p).take y.length=y):=by
  unfold Builtin.Str.subAt wd;rw[M9,MV,MO,<- OL,Array.toList_extract,O8];rw[show (⟨y.toArray⟩:Str).length=y.length from Kh ..];simp
 rw[e,M9,Lo,MO,MO,MO,List.prefix_iff_eq_take,bA,bA];refine⟨λh=>h.2.symm,λh=>⟨?_,h.symm⟩⟩;have:=K_ List.length h;rw[K8,KP] at this;lia
noncomputable def yn(ws:List (List Nat))(z:List Nat)(p:Nat):Option Nat:=(List.range ws.length).find? λi=>decide (ws.getD i [] <+: z.drop p)
theorem jZ{ws:List (List Nat)}(h:yn ws z p=some t):t<ws.length/\ws.getD t [] <+: z.drop p:=by
 have h1:=OB h;have h2:=List.find?_some h;exact⟨LJ.mp h1,LA h2⟩
theorem A7{ws:List (List Nat)}(h:yn ws z p=none)(ht:t<ws.length):¬ ws.getD t [] <+: z.drop p:=λhp=>by
 have:=List.find?_eq_none.mp h t (LJ.mpr ht);exact this (KG hp)
structure Pf (ws:List (List Nat)):Prop where
 ne:∀w∈ws,w≠[]
 pre:∀(i j:Nat) (hi:i<ws.length) (hj:j<ws.length),i≠j->¬ ws[i] <+: ws[j]
theorem Pf.th{ws:List (List Nat)}(h:Pf ws)(ht:t<ws.length)(hp:ws.getD t [] <+: z.drop p):yn ws z p=some t:=by
 cases c:yn ws z p with
 |none=>exact absurd hp (A7 c ht)
 |some i =>
  obtain⟨hi,hpi⟩:=jZ c;by_cases e:i=t
  ·rw[e]
  ·have g:∀{k:Nat} (hk:k<ws.length),ws.getD k []=ws[k]:=λhk=>by rw[Kt,Ka hk];rfl
   rw[g hi] at hpi;rw[g ht] at hp;rcases List.prefix_or_prefix_of_prefix hpi hp with q|q
   ·exact absurd q (h.pre i t hi ht e)
   ·exact absurd q (h.pre t i ht hi (L0 e))
theorem w6{ws:List (List Nat)}(n:Nat)(h:n<ws.length):(List.range' n (ws.length-n)).find? (λi=>decide (ws.getD i [] <+: z.drop p))=if ws[n] <+: z.drop p then some n else (List.range' (n+1) (ws.length-(n+1))).find? λi=>decide (ws.getD i [] <+: z.drop p):=by
 rw[show ws.length-n=(ws.length-(n+1))+1 by lia,LS,LX]
 rw[Kt,Ka h];show (match decide (ws[n] <+: z.drop p) with|true=>some n|false=>_)=_
 by_cases c:ws[n] <+: z.drop p
 ·rw[KG c,Kj c]
 ·rw[KH c,Ki c]
noncomputable def wV(ws:List (List Nat)):List V:=ws.map λw=>.str (wd w)
noncomputable def xw:Option Nat->V
 |none=>.aX
 |some t=>.int (t:Int)
noncomputable def uq(K:PJ):Sp:=λvs H Q _=>∃(a:Addr) (ws:List (List Nat)) (z:List Nat) (p:Nat),vs=[.ref a,.str (wd z),.int (p:Nat)]/\aY K H a (wV ws)/\(∀w∈ws,w≠[])/\ws.length<=100/\z.length<=1000000/\∀H',KB [] H H'->Q (xw (yn ws z p)) H'
theorem xK(T:Txt K mg)(F:HasFn K mg "thing_at" fZ ["code","bits","place"]):au P w K mg base aZ 1 "thing_at" ["code","bits","place"] (uq K):=by
 refine F.fL gN (λvs H Q E h=>?_) (λf cdv A outer s H vs Q E hr h=>?_)
 ·obtain⟨a,ws,z,p,rfl,_⟩:=h;rfl
 ·have hu:=aS hr;obtain⟨a,ws,z,p,rfl,ha,hne,h100,hz,q⟩:=h;refine⟨_,(Z.aq (Z.hV KR rfl (Z.enum K rfl rfl T.eY (Z.cons (Z.v 0) Z.nil)) (Z.jc (n:=2) K rfl rfl (Z.bz (Z.aO (i:=3) gN.nd rfl (by right)) (Z.bz (Z.aO (i:=4) gN.nd rfl (by right)) Z.fA))) (Z.aA (Z.eF (Z.tw (Z.yO (Z.bu xG (Z.v 4) Z.str) (Z.qE (Z.wI K rfl (Z.bm K rfl PySem.F.plainAttrs_str PySem.F.slot_str_startswith PySem.F.type_str_startswith Y.sA (Z.v 1) (Z.cons (Z.v 4) (Z.cons (Z.v 2) Z.nil))))))) (Z.aA (Z.ret (Z.v 3))) Z.bU)))
   (Z.aA (Z.ret Z.aX))),?_⟩
  refine ax λN hN=>?_;walk_at "rz";refine⟨⟨_,ha⟩,?_⟩;refine sM (xs:=wV ws) (λi σ H'=>KB [] H H'/\i<=ws.length/\(List.range' i (ws.length-i)).find? (λi=>decide (ws.getD i [] <+: z.drop p))=yn ws z p/\∃(s3 s4:Option V),σ=[some (.ref a),some (.str (wd z)),some (.int (p:Nat)),s3,s4]) ⟨KB.refl _ _,Kz _,by unfold yn;rw[NN];rfl,none,none,rfl⟩ ?_ ?_ ?_
  ·rintro i σ H' hi ⟨k,_⟩;exact JO ha k
  ·rintro i x σ H' b hx ⟨k,hi,ef,s3,s4,rfl⟩ hb;have hlt:i<ws.length:=by
    have:=(Kf.mp hx).1;unfold wV at this;rw[Kc] at this;exact this
   have ex:x=.str (wd ws[i]):=by
    unfold wV at hx;rw[Kp,Ka hlt] at hx;exact (Option.some.inj hx).symm
   subst ex;refine⟨b,_,rfl,aY.of aa,rfl,?_⟩;have k1:KB [] H (upd H' b (.tup [.int i,.str (wd ws[i])])):=k.trans (KB.new hb);generalize upd H' b (.tup [.int i,.str (wd ws[i])])=H1 at k1;have h0:ws[i]≠[]:=hne _ (K1 hlt);have hne':¬ wd ws[i]=Str.ofString "":=λe=>h0 (by rw[C_] at e;exact K_ (λs:Str=>s.cps.toList) e)
   rw[w6 i hlt] at ef;walk_at "rz";rw[Kj hne'];refine⟨rfl,_,_,_,rfl,rfl,_,rfl,?_⟩;rw[wZ z ws[i] p h0];by_cases c:ws[i] <+: z.drop p
   ·rw[Kj c] at ef;rw[<- ef] at q;rw[Kj (KG c)];exact q _ k1
   ·rw[Ki c] at ef;rw[Ki (by rw[KH c];exact Kx)]
    exact⟨k1,hlt,ef,_,_,rfl,rfl⟩
  ·rintro σ H' ⟨k,_,ef,s3,s4,rfl⟩;have e:(wV ws).length=ws.length:=Kc ..;rw[e,L8] at ef;have ef':yn ws z p=none:=ef.symm;rw[ef'] at q;show N _ _;rw[hN];clear hN N;walk_at "rz";exact q _ k
noncomputable def jE(ws:List (List Nat))(z:List Nat)(p:Nat):Option (Nat×Nat):=(yn ws z p).map λt=>(t,p+(ws.getD t []).length)
theorem fu{ws:List (List Nat)}{x:Nat×Nat}(hne:∀w∈ws,w≠[])(h:jE ws z p=some x):x.1<ws.length/\x.2=p+(ws.getD x.1 []).length/\p<x.2/\x.2<=z.length:=by
 unfold jE at h
 cases c:yn ws z p with
 |none=>rw[c] at h;cases h
 |some t =>
  rw[c] at h;cases h;obtain⟨h1,h2⟩:=jZ c;have h3:=h2.length_le;rw[KP] at h3;have h4:ws.getD t []≠[]:=by rw[Kt,Ka h1];exact hne _ (K1 h1)
  have h5:=N_.mpr h4;exact⟨h1,rfl,by show p<p+_;lia,by show p+_<=_;lia⟩
def JN(H:Hp)(v:V):Option (Nat×Nat)->Prop
 |none=>v=.aX
 |some x=>∃t,v=.ref t/\H t=some (.tup [.int (x.1:Nat),.int (x.2:Nat)])
noncomputable def iE(K:PJ):Sp:=λvs H Q _=>∃(a:Addr) (ws:List (List Nat)) (z:List Nat) (p:Nat),vs=[.ref a,.str (wd z),.int (p:Nat)]/\aY K H a (wV ws)/\(∀w∈ws,w≠[])/\ws.length<=100/\z.length<=1000000/\∀v H',KB [] H H'->JN H' v (jE ws z p)->Q v H'
theorem Au(T:Txt K mg)(F:HasFn K mg "coded_at" fV ["code","bits","place"])(hthing_at:au P w K mg base aZ 1 "thing_at" ["code","bits","place"] (uq K)):au P w K mg base aZ 2 "coded_at" ["code","bits","place"] (iE K):=by
 refine F.fL j3 (λvs H Q E h=>?_) (λf cdv A outer s H vs Q E hr h=>?_)
 ·obtain⟨a,ws,z,p,rfl,_⟩:=h;rfl
 ·have hu:=aS hr;obtain⟨a,ws,z,p,rfl,ha,hne,h100,hz,q⟩:=h;refine⟨_,(Z.aq (Z.set (i:=3) j3.nd rfl (by right) (Z.fn hthing_at (hr.mono (by decide)) rfl az (Z.cons (Z.v 0) (Z.cons (Z.v 1) (Z.cons (Z.v 2) Z.nil)))))
   (Z.aA (Z.ret (Z.BA (Z.bu eG (Z.v 3) Z.aX) Z.aX (Z.tup (Z.cons (Z.v 3) (Z.cons (Z.op (Z.bf K rfl) (Z.v 2) (Z.cb (Z.c_ K rfl) rfl T.cU (by decide +kernel) (Z.cons (Z.ix (Z.hW K rfl) (Z.v 0) (Z.v 3)) Z.nil))) Z.nil))))))),?_⟩
  refine ax λN hN=>?_;walk_at "rz";refine⟨a,ws,z,p,rfl,ha,hne,h100,hz,λH1 k1=>?_⟩;rw[hN];clear hN N;have ha1:=JO ha k1;unfold jE at q
  cases c:yn ws z p with
  |none =>
   rw[c] at q;unfold xw;walk_at "rz";exact q _ _ k1 rfl
  |some t =>
   rw[c] at q;obtain⟨h1,h2⟩:=jZ c;unfold xw;walk_at "rz";rw[Ki V.noConfusion];have h3:=h2.length_le;rw[KP] at h3;refine⟨a,wV ws,_,.str (wd (ws.getD t [])),rfl,rfl,ha1,b7 (by unfold wV;rw[Kp,Kt,Ka h1];rfl),?_⟩
   walk_at "rz";rw[bA];refine⟨Kn (show _<=1000000 by lia) (by decide),by decide,λb hb=>q _ _ (k1.trans (KB.new hb)) ⟨b,rfl,?_⟩⟩
   rw[aa];rfl
def e9(z:List Nat):Prop:=∀c∈z,c=48\/c=49
theorem e9.cut(h:e9 z)(a n:Nat):e9 ((z.drop a).take n):=λc hc=>h c (List.mem_of_mem_drop (NO hc))
theorem uE(z:List Nat)(a b:Nat)(h1:a<=b)(h2:b<=z.length):Y.jD (wd z) (some (a:Int)) (some (b:Int))=wd ((z.drop a).take (b-a)):=by
 unfold Y.jD wd;congr 2;show Y.xH z (some (a:Int)) (some (b:Int))=_;unfold Y.xH;rw[HT.fM,HT.fM,NR h2,NR (Kn h1 h2)]
noncomputable def yg(ws:List (List Nat))(z:List Nat)(p:Nat):Option (Nat×Nat):=match jE ws z p with
 |none=>none
 |some x=>if x.1=0 then some x else if x.2+(x.1-1)<=z.length then some (kP (49::(z.drop x.2).take (x.1-1)),x.2+(x.1-1)) else none
theorem BU(c:Nat)(w:List Nat):wd [c]++wd w=wd (c::w):=z_ (by
 show (#[c]++w.toArray).toList=_;rw[My];rfl)
noncomputable def uU(K:PJ):Sp:=λvs H Q _=>∃(a:Addr) (ws:List (List Nat)) (z:List Nat) (p:Nat),vs=[.ref a,.str (wd z),.int (p:Nat)]/\aY K H a (wV ws)/\(∀w∈ws,w≠[])/\ws.length<=20/\e9 z/\z.length<=1000000/\∀v H',KB [] H H'->JN H' v (yg ws z p)->Q v H'
theorem yf(T:Txt K mg)(F:HasFn K mg "number_at" fj ["code","bits","place"])(hcoded_at:au P w K mg base aZ 2 "coded_at" ["code","bits","place"] (iE K)):au P w K mg base aZ 3 "number_at" ["code","bits","place"] (uU K):=by
 refine F.fL fU (λvs H Q E h=>?_) (λf cdv A outer s H vs Q E hr h=>?_)
 ·obtain⟨a,ws,z,p,rfl,_⟩:=h;rfl
 ·have hu:=aS hr;obtain⟨a,ws,z,p,rfl,ha,hne,h20,hb,hz,q⟩:=h;refine⟨_,(Z.aq (Z.set (i:=3) fU.nd rfl (by right) (Z.fn hcoded_at (hr.mono (by decide)) rfl az (Z.cons (Z.v 0) (Z.cons (Z.v 1) (Z.cons (Z.v 2) Z.nil)))))
   (Z.aq (Z.eF (Z.tw (Z.JC (Z.bu eG (Z.v 3) Z.aX) (Z.HZ (Z.bu b6 (Z.ix (Z.aP K rfl hu) (Z.v 3) Z.int) Z.int)))) (Z.aA (Z.ret (Z.v 3))) Z.bU)
   (Z.aq (Z.set (i:=4) fU.nd rfl (by right) (Z.op cW (Z.op (Z.bf K rfl) (Z.ix (Z.aP K rfl hu) (Z.v 3) Z.int) (Z.ix (Z.aP K rfl hu) (Z.v 3) Z.int)) Z.int))
   (Z.aq (Z.eF (Z.bu D9 (Z.v 4) (Z.cb (Z.c_ K rfl) rfl T.cU (by decide +kernel) (Z.cons (Z.v 1) Z.nil))) (Z.aA (Z.ret Z.aX)) Z.bU)
   (Z.aA (Z.ret (Z.tup (Z.cons (Z.ct mN rfl T.ve (by decide +kernel) (Z.cons (Z.op (Z.bf K rfl) Z.str (Z.slice Y.oj (Z.v 1) (Z.xc (Z.ix (Z.aP K rfl hu) (Z.v 3) Z.int)) (Z.xc (Z.v 4)))) (Z.cons Z.int Z.nil))) (Z.cons (Z.v 4) Z.nil))))))))),?_⟩
  refine ax λN hN=>?_;walk_at "rz";refine⟨a,ws,z,p,rfl,ha,hne,by lia,hz,λv H1 k1 o1=>?_⟩
  rw[hN];clear hN N;refine ax λN hN=>?_;unfold yg at q
  cases c:jE ws z p with
  |none =>
   rw[c] at q o1;obtain rfl:v=.aX:=o1;walk_at "rz";exact q _ _ k1 rfl
  |some x =>
   rw[c] at q o1;obtain⟨t,e⟩:=x;obtain⟨h1,_,h3,h4⟩:=fu hne c;obtain⟨b,rfl,hb1⟩:=o1;dsimp only at q h1 h3 h4 hb1;have sb:=aL hb1;have ne:¬ V.ref b=V.aX:=V.noConfusion;have a0:cL [V.int (t:Int),V.int (e:Int)] 0=some (.int (t:Int)):=rfl;have a1:cL [V.int (t:Int),V.int (e:Int)] 1=some (.int (e:Int)):=rfl;walk_at "rz";simp only[sb,a0,a1,if_neg ne];walk_at "rz";by_cases c0:t=0
   ·subst c0;rw[Kj rfl] at q;rw[Kj (by rfl)]
    exact q _ _ k1 ⟨b,rfl,hb1⟩
   ·rw[Ki c0] at q;have ci:¬ ((t:Nat):Int)=0:=by lia
    rw[Ki ci,hN];clear hN N;refine ax λN hN=>?_;walk_at "rz";simp only[sb,a0,a1];walk_at "rz";have eb:(e:Int)+(t:Int)-1=((e+(t-1):Nat):Int):=by lia
    rw[eb,hN];clear hN N;refine ax λN hN=>?_;walk_at "rz";refine⟨by rw[bA];exact Kn hz (by decide),?_⟩
    rw[bA];by_cases cl:e+(t-1)<=z.length
    ·rw[Kj cl] at q;rw[Ki (by lia),hN];clear hN N
     walk_at "rz";simp only[sb,a0,a1];have hb2:=hb.cut e (t-1);have hll:((z.drop e).take (t-1)).length<=20:=by rw[K8];lia
     have hcl:(49::(z.drop e).take (t-1)).length<=21:=by rw[Kq];lia
     refine⟨(e:Int),rfl,wd z,rfl,by rw[bA];exact Kn hz (by decide),?_⟩
     rw[uE z _ _ (by lia) cl,OS,show Str.ofString "1"=wd [49] from by decide +kernel]
     show _/\DH [.str (wd [49]++wd ((z.drop e).take (t-1))),.int 2] H1 _;rw[BU,bA,bA];refine⟨Kn (show _<=21 by rw[MR];lia) (by decide),_,rfl,by rw[bA];exact Kn hcl (by decide),λc hc=>?_,by simp[wd],by decide,λb2 hb2'=>?_⟩
     ·rcases Kl.mp (show c∈49::(z.drop e).take (t-1) from hc) with rfl|hc
      ·exact .inr rfl
      ·exact hb2 c hc
     ·exact q _ _ (k1.trans (KB.new hb2')) ⟨b2,rfl,by rw[aa];rfl⟩
    ·rw[Ki cl] at q;rw[Kj (by lia)]
     exact q _ _ k1 rfl
noncomputable def dD:Nat->List Nat
 |0=>[48]
 |1=>[49,48]
 |_=>[49,49]
noncomputable def bH:Nat->Nat
 |0=>4
 |1=>8
 |_=>16
noncomputable def cT(k:Nat):Int:=if k=0 then 8 else if k=1 then 128 else 32768
noncomputable def vm:List (List Nat):=[dD 0,dD 1,dD 2]
theorem lM(h:k<3):k=0\/k=1\/k=2:=by lia
theorem nj:∀w∈vm,w≠[]:=by decide
theorem ze(h:k<3):vm.getD k []=dD k:=by rcases lM h with rfl|rfl|rfl<;>rfl
noncomputable def BK(k n:Nat):Int:=if cT k<=(n:Int) then (n:Int)-2*cT k else (n:Int)
noncomputable def gA(z:List Nat)(p:Nat):Option (Int×Nat):=match jE vm z p with
 |none=>none
 |some x=>if x.2+bH x.1<=z.length then some (BK x.1 (kP ((z.drop x.2).take (bH x.1))),x.2+bH x.1) else none
theorem HV:[V.str (Str.ofString "0"),.str (Str.ofString "10"),.str (Str.ofString "11")]=wV vm:=by
 rw[show Str.ofString "0"=wd [48] from by decide +kernel,show Str.ofString "10"=wd [49,48] from by decide +kernel,show Str.ofString "11"=wd [49,49] from by decide +kernel]
 rfl
def JU(H:Hp)(v:V):Option (Int×Nat)->Prop
 |none=>v=.aX
 |some x=>∃t,v=.ref t/\H t=some (.tup [.int ((x.2:Int)+x.1),.int (x.2:Nat)])
noncomputable def oZ(K:PJ):Sp:=λvs H Q _=>∃(z:List Nat) (p:Nat),vs=[.str (wd z),.int (p:Nat)]/\e9 z/\z.length<=1000000/\∀v H',KB [] H H'->JU H' v (gA z p)->Q v H'
theorem vQ(T:Txt K mg)(F:HasFn K mg "goal_at" gQ ["bits","place"])(hcoded_at:au P w K mg base aZ 2 "coded_at" ["code","bits","place"] (iE K)):au P w K mg base aZ 3 "goal_at" ["bits","place"] (oZ K):=by
 refine F.fL d9 (λvs H Q E h=>?_) (λf cdv A outer s H vs Q E hr h=>?_)
 ·obtain⟨z,p,rfl,_⟩:=h;rfl
 ·have hu:=aS hr;obtain⟨z,p,rfl,hb,hz,q⟩:=h;obtain⟨aE,hg_HEADS,sE⟩:=T.nS;obtain⟨aW,hg_WIDTHS,sW⟩:=T.j_;obtain⟨aV,hg_HALVES,sV⟩:=T.pQ;have hr_HEADS:RelV (.ref aE) (.ref aE):=rfl;have hr_WIDTHS:RelV (.ref aW) (.ref aW):=rfl;have hr_HALVES:RelV (.ref aV) (.ref aV):=rfl;refine⟨_,(Z.aq (Z.set (i:=2) d9.nd rfl (by right) (Z.fn hcoded_at (hr.mono (by decide)) rfl az (Z.cons (Z.glob rfl hg_HEADS hr_HEADS) (Z.cons (Z.v 0) (Z.cons (Z.v 1) Z.nil)))))
   (Z.aq (Z.eF (Z.bu eG (Z.v 2) Z.aX) (Z.aA (Z.ret Z.aX)) Z.bU)
   (Z.aq (Z.set (i:=3) d9.nd rfl (by right) (Z.ix (Z.aP K rfl hu) (Z.v 2) Z.int))
   (Z.aq (Z.set (i:=4) d9.nd rfl (by right) (Z.op (Z.bf K rfl) (Z.ix (Z.aP K rfl hu) (Z.v 2) Z.int) (Z.ix (Z.hW K rfl) (Z.glob rfl hg_WIDTHS hr_WIDTHS) (Z.v 3))))
   (Z.aq (Z.eF (Z.bu D9 (Z.v 4) (Z.cb (Z.c_ K rfl) rfl T.cU (by decide +kernel) (Z.cons (Z.v 0) Z.nil))) (Z.aA (Z.ret Z.aX)) Z.bU)
   (Z.aq (Z.set (i:=5) d9.nd rfl (by right) (Z.ct mN rfl T.ve (by decide +kernel) (Z.cons (Z.slice Y.oj (Z.v 0) (Z.xc (Z.ix (Z.aP K rfl hu) (Z.v 2) Z.int)) (Z.xc (Z.v 4))) (Z.cons Z.int Z.nil))))
   (Z.aq (Z.eF (Z.bu yU (Z.v 5) (Z.ix (Z.hW K rfl) (Z.glob rfl hg_HALVES hr_HALVES) (Z.v 3))) (Z.aA (Z.set (i:=5) d9.nd rfl (by right) (Z.op cW (Z.v 5) (Z.op cK Z.int (Z.ix (Z.hW K rfl) (Z.glob rfl hg_HALVES hr_HALVES) (Z.v 3)))))) Z.bU)
   (Z.aA (Z.ret (Z.tup (Z.cons (Z.op (Z.bf K rfl) (Z.v 4) (Z.v 5)) (Z.cons (Z.v 4) Z.nil)))))))))))),?_⟩
  refine ax λN hN=>?_;walk_at "rz";refine⟨aE,vm,z,p,rfl,by rw[<- HV];exact sE H,nj,by decide,hz,λv H1 k1 o1=>?_⟩
  rw[hN];clear hN N;refine ax λN hN=>?_;unfold gA at q
  cases c:jE vm z p with
  |none =>
   rw[c] at q o1;obtain rfl:v=.aX:=o1;walk_at "rz";exact q _ _ k1 rfl
  |some x =>
   rw[c] at q o1;obtain⟨k,e⟩:=x;obtain⟨h1,_,h3,h4⟩:=fu nj c;obtain⟨b,rfl,hb1⟩:=o1;dsimp only at q h1 h3 h4 hb1;have hk:k<3:=h1;have sb:=aL hb1;have ne:¬ V.ref b=V.aX:=V.noConfusion;have a0:cL [V.int (k:Int),V.int (e:Int)] 0=some (.int (k:Int)):=rfl;have a1:cL [V.int (k:Int),V.int (e:Int)] 1=some (.int (e:Int)):=rfl;walk_at "rz";rw[if_neg ne,hN];clear hN N;refine ax λN hN=>?_;walk_at "rz";simp only[sb,a0,a1];rw[hN];clear hN N;refine ax λN hN=>?_;walk_at "rz";simp only[sb,a0,a1];have aw:cL [V.int 4,.int 8,.int 16] (k:Int)=some (.int (bH k:Nat)):=by rcases lM hk with rfl|rfl|rfl<;>rfl
   have ah:cL [V.int 8,.int 128,.int 32768] (k:Int)=some (.int (cT k)):=by rcases lM hk with rfl|rfl|rfl<;>rfl
   have h16:bH k<=16/\0<bH k:=by rcases lM hk with rfl|rfl|rfl<;>decide
   refine⟨aW,_,_,_,rfl,rfl,sW H1,aw,?_⟩;show N [_,_,_,_,some (V.int ((e:Int)+(bH k:Nat))),none] H1;rw[show (e:Int)+(bH k:Nat)=((e+bH k:Nat):Int) by lia,hN];clear hN N
   refine ax λN hN=>?_;walk_at "rz";refine⟨by rw[bA];exact Kn hz (by decide),?_⟩
   rw[bA];by_cases cl:e+bH k<=z.length
   ·rw[Kj cl] at q;rw[Ki (by lia),hN];clear hN N
    refine ax λN hN=>?_;walk_at "rz";simp only[sb,a0,a1];have hb2:=hb.cut e (bH k);have hl2:((z.drop e).take (bH k)).length=bH k:=by rw[K8,KP];lia
    refine⟨(e:Int),rfl,wd z,rfl,by rw[bA];exact Kn hz (by decide),?_⟩
    rw[uE z _ _ (by lia) cl,OS]
    refine⟨_,rfl,by rw[bA,hl2];lia,hb2,λe0=>by have e1:(z.drop e).take (bH k)=[]:=e0;rw[e1] at hl2;simp at hl2;lia,?_⟩
    rw[show (wd ((z.drop e).take (bH k))).cps.toList=(z.drop e).take (bH k) from rfl];generalize kP ((z.drop e).take (bH k))=n at *;unfold BK at q;show N _ _;rw[hN];clear hN N;refine ax λN hN=>?_;walk_at "rz";refine⟨aV,_,_,_,rfl,rfl,sV H1,ah,_,_,rfl,rfl,_,rfl,?_⟩;have fin:∀d:Int,d=(if cT k<=(n:Int) then (n:Int)-2*cT k else (n:Int))->N [some (.str (wd z)),some (.int (p:Nat)),some (.ref b),some (.int (k:Nat)),some (.int ((e+bH k:Nat):Int)),some (.int d)] H1:=λd ed=>by
     rw[hN];clear hN N;walk_at "rz";refine⟨by decide,λb2 hb2'=>q _ _ (k1.trans (KB.new hb2')) ⟨b2,rfl,?_⟩⟩
     rw[aa,ed]
    by_cases ch:cT k<=(n:Int)
    ·rw[Kj (KG ch)];refine⟨aV,_,_,_,rfl,rfl,sV H1,ah,?_⟩;exact⟨.inl (by decide),_,_,rfl,rfl,fin _ (by rw[Kj ch])⟩
    ·rw[Ki (by rw[KH ch];exact Kx)]
     exact fin _ (by rw[Ki ch])
   ·rw[Ki cl] at q;rw[Kj (by lia)]
    exact q _ _ k1 rfl
theorem nr(u:_root_.Fin 2):u=0\/u=1:=by revert u;decide
theorem FH(u:_root_.Fin 3):u=0\/u=1\/u=2:=by revert u;decide
theorem GC{b:Nat}(h:b<8):b=0\/b=1\/b=2\/b=3\/b=4\/b=5\/b=6\/b=7:=by lia
theorem He{l:List α}(h:l.length=8):∃a b c d e f g i,l=[a,b,c,d,e,f,g,i]:=by
 rcases l with _|⟨a,_|⟨b,_|⟨c,_|⟨d,_|⟨e,_|⟨f,_|⟨g,_|⟨i,_|⟨j,l⟩⟩⟩⟩⟩⟩⟩⟩⟩<;>first|exact⟨_,_,_,_,_,_,_,_,rfl⟩ | (exfalso;revert h;simp)
inductive Row where
 |put (b n:Nat)|two (w:Fin 3) (a b:Nat)|one (w:Fin 2) (b:Nat)|jump (g:Nat)|zero (b g:Nat)|halt
 deriving DecidableEq
noncomputable def cS(i:Nat):Str:=⟨#[97+i]⟩
noncomputable def w2:Fin 3->Str
 |0=>"add"
 |1=>"sub"
 |2=>"copy"
noncomputable def w1:Fin 2->Str
 |0=>"tell"
 |1=>"hear"
inductive II where
 |s (z:Str)|n (k:Nat)
noncomputable def Row.ps:Row->List II
 |.put b n=>[.s "put",.s (cS b),.n n]
 |.two w a b=>[.s (w2 w),.s (cS a),.s (cS b)]
 |.one w b=>[.s (w1 w),.s (cS b)]
 |.jump g=>[.s "jump",.n g]
 |.zero b g=>[.s "zero",.s (cS b),.n g]
 |.halt=>[.s "halt"]
noncomputable def Row.Ok(size:Nat):Row->Prop
 |.put b n=>b<8/\n<65536
 |.two _ a b=>a<8/\b<8
 |.one _ b=>b<8
 |.jump g=>g<=size
 |.zero b g=>b<8/\g<=size
 |.halt=>True
theorem Row.Ok.mono{a b:Nat}{r:Row}(h:r.Ok a)(hm:a<=b):r.Ok b:=by
 cases r<;>simp only[Row.Ok] at h ⊢<;>lia
theorem FN{k:Int}(h0:0<=k)(h1:k<8):cL (Str.ofString "abcdefgh").cps.toList k=some (97+k.toNat):=by
 have e:(Str.ofString "abcdefgh").cps.toList=[97,98,99,100,101,102,103,104]:=by decide +kernel
 rw[e];obtain⟨n,rfl⟩:∃n:Nat,k=n:=⟨k.toNat,by lia⟩
 unfold cL jP;have hn:n<8:=by lia
 rw[Kj (by lia),Kj (by simp;lia)]
 show [97,98,99,100,101,102,103,104][((n:Nat):Int).toNat]?=some (97+((n:Nat):Int).toNat);rw[KN];rcases GC hn with rfl|rfl|rfl|rfl|rfl|rfl|rfl|rfl<;>rfl
noncomputable def b8(ls:List Int)(t:Nat):Nat:=(ls.getD t 0).toNat
noncomputable def bC(ls:List Int):List Nat:=j0 ls (List.range ls.length)
noncomputable def wordsOf(nx:List Nat->Nat->List Nat)(ls:List Int):List (List Nat):=(Cw.along nx (b8 ls) (bC ls) (none,List.replicate ls.length [])).2
noncomputable def fN(ls:List Int)(done:List Nat):Option (List Nat)×List (List Nat):=Cw.along Cw.gB (b8 ls) done (none,List.replicate ls.length [])
theorem tU{v:List Nat}{n:Nat}(hv:v.length<=40)(hn:n<=40):(Cw.gB v n).length<=40:=by
 have h1:((v.reverse.dropWhile (· == 49)).reverse.dropLast).length<=39:=by
  rw[LZ,Mx];have:=(N1 (· == 49) (l:=v.reverse)).length_le;rw[Mx] at this;lia
 unfold Cw.gB Cw.pad;rw[Ke,Kw,Ke,MR];lia
theorem jQ(h:t∈bC ls):t<ls.length:=LJ.mp ((iN (by rw[Lc])).mem_iff.mp h)
theorem ET(ls:List Int)(done:List Nat):(fN ls done).2.length=ls.length:=by
 unfold fN;rw[Cw.hG,Kw]
namespace Cw
def Dv(a b:List Nat):Prop:=∃u,u++[48] <+: a/\u++[49] <+: b
theorem qz{u v:List Nat}{c d:Nat}(h1:u++[c] <+: b)(h2:v++[d] <+: b)(hl:u.length<v.length):u++[c] <+: v:=by
 have h3:v <+: b:=(Nr v [d]).trans h2;exact Mz h1 h3 (by rw[Ke];exact hl)
theorem Dv.trans{a c:List Nat}(h:Dv a b)(g:Dv b c):Dv a c:=by
 obtain⟨u,h1,h2⟩:=h;obtain⟨v,g1,g2⟩:=g;rcases Nat.lt_trichotomy u.length v.length with e|e|e
 ·exact⟨u,h1,(qz h2 g1 e).trans ((Nr v [49]).trans g2)⟩
 ·have p1:(u++[49]).length=(v++[48]).length:=by rw[Ke,Ke,e];rfl
  have p2:u++[49]=v++[48]:=(Mz h2 g1 (by lia)).eq_of_length p1
  have p3:[49]=[48]:=(List.append_inj' p2 rfl).2;exact absurd p3 (by decide)
 ·exact⟨v,(qz g1 h2 e).trans ((Nr u [48]).trans h1),g2⟩
theorem Dv.not{a:List Nat}(h:Dv a b):¬ a <+: b/\¬ b <+: a:=by
 obtain⟨u,h1,h2⟩:=h;have key:∀c,u++[48] <+: c->u++[49] <+: c->False:=λc p q=>by
  have e:u++[48]=u++[49]:=(Mz p q (by simp)).eq_of_length (by simp)
  exact absurd (List.append_cancel_left e) (by decide)
 exact⟨λp=>key b (h1.trans p) h2,λp=>key a h1 (h2.trans p)⟩
theorem Dv.lt{a:List Nat}(h:Dv a b):a<b:=by
 obtain⟨u,⟨x,rfl⟩,⟨y,rfl⟩⟩:=h
 induction u with
 |nil=>exact List.Lex.rel (by decide)
 |cons c u ih=>exact List.Lex.cons ih
theorem CZ{w:List Nat}{n:Nat}(hb:∀c∈w,c=48\/c=49)(h:w.all (· == 49)=false):Dv w (iS w n):=by
 obtain⟨p,k,rfl⟩:=parts hb h;unfold iS pad;rw[gW];exact⟨p,⟨List.replicate k 49,by simp⟩,⟨List.replicate k 48++List.replicate (n-(p++49::List.replicate k 48).length) 48,by simp⟩⟩
noncomputable def nu(ln:Nat->Nat)(a:Option (List Nat))(t:Nat):List Nat:=match a with
 |none=>List.replicate (ln t) 48
 |some v=>gB v (ln t)
noncomputable def ko(ln:Nat->Nat):Option (List Nat)->List Nat->List (List Nat)
 |_,[]=>[]
 |a,t::r=>nu ln a t::ko ln (some (nu ln a t)) r
theorem yz:∀(order done:List Nat) (a:Option (List Nat)),(order.Pairwise λi j=>ln i<=ln j)->(∀t∈order,ln t<=40)->(∀v,a=some v->jh done v/\∀t∈order,v.length<=ln t)->(a=none->done=[])->Kr.ks 40 (done++order.map ln)<=2^40 ->
  (∀v,a=some v->∀x∈ko ln a order,Dv v x)/\(ko ln a order).Pairwise Dv/\∀(i t:Nat),order[i]?=some t->∃w,(ko ln a order)[i]?=some w/\w.length=ln t
 |[],_,_,_,_,_,_,_=>⟨λ_ _ x hx=>(by cases hx),List.Pairwise.nil,λi t e=>(by cases e)⟩
 |t::r,done,a,hp,h40,ha,hn,hk=>by
  obtain⟨p1,p2⟩:=KY.mp hp;have ht:=h40 t Km;have hk':Kr.ks 40 ((done++[ln t])++r.map ln)<=2^40:=by rw[K2];exact hk
  have fin:∀w:List Nat,w=nu ln a t->jh (done++[ln t]) w->w.length=ln t->(∀v,a=some v->Dv v w) ->
    (∀v,a=some v->∀x∈ko ln a (t::r),Dv v x)/\(ko ln a (t::r)).Pairwise Dv/\∀(i s:Nat),(t::r)[i]?=some s->∃w,(ko ln a (t::r))[i]?=some w/\w.length=ln s:=λw ew hH hl hd=>by
   obtain⟨q1,q2,q3⟩:=yz r (done++[ln t]) (some w) p2 (λx hx=>h40 x (Ko _ hx)) (λv e=>by cases e;exact⟨hH,λx hx=>by rw[hl];exact p1 x hx⟩) (λe=>by cases e) hk'
   have es:ko ln a (t::r)=w::ko ln (some w) r:=by rw[ew];rfl
   rw[es];refine⟨λv e x hx=>?_,KY.mpr ⟨λx hx=>q1 w rfl x hx,q2⟩,λi s e=>?_⟩
   ·rcases Kl.mp hx with rfl|hx
    ·exact hd v e
    ·exact (hd v e).trans (q1 w rfl x hx)
   ·cases i with
    |zero=>cases e;exact⟨w,rfl,hl⟩
    |succ i=>exact q3 i s (by simpa using e)
  cases a with
  |none =>
   have:=hn rfl;subst this;exact fin _ rfl (jh.first ht) (show (List.replicate (ln t) 48).length=ln t by rw[Kw]) (λv e=>by cases e)
  |some v =>
   obtain⟨hv,hl⟩:=ha v rfl;have hvl:=hl t Km;have hk2:Kr.ks 40 done+2^(40-ln t)<=2^40:=by
    rw[Kr.dc,Kr.dc] at hk';simp[Kr.ks] at hk'
    omega
   have z:=hv.zero (rest:=[]) hk2;have e:=vM hv.bits z hvl;refine fin _ rfl ?_ ?_ ?_
   ·show jh _ (gB v (ln t));rw[e];exact hv.next hvl ht hk2
   ·show (gB v (ln t)).length=_;rw[e];exact fC hvl
   ·intro u eu;cases eu;show Dv v (gB v (ln t));rw[e];exact CZ hv.bits z
theorem pR:∀(order:List Nat) (a:Option (List Nat)) (ws:List (List Nat)),order.Nodup->(∀t∈order,t<ws.length)->(∀(i t:Nat),order[i]?=some t->(along gB ln order (a,ws)).2[t]?=(ko ln a order)[i]?)/\∀t,t∉order->(along gB ln order (a,ws)).2[t]?=ws[t]?
 |[],_,_,_,_=>⟨λi t e=>(by cases e),λ_ _=>rfl⟩
 |t::r,a,ws,hn,hl=>by
  obtain⟨n1,n2⟩:=LG.mp hn;have ht:=hl t Km;have ea:along gB ln (t::r) (a,ws)=along gB ln r (some (nu ln a t),ws.set t (nu ln a t)):=by cases a<;>rfl
  rw[ea];obtain⟨q1,q2⟩:=pR r (some (nu ln a t)) (ws.set t (nu ln a t)) n2 (λx hx=>by rw[Ld];exact hl x (Ko _ hx))
  refine⟨λi s e=>?_,λs hs=>?_⟩
  ·cases i with
   |zero =>
    cases e;exact (q2 t n1).trans (by rw[ML ht];rfl)
   |succ i=>exact q1 i s (by simpa using e)
  ·have h1:s≠t:=λz=>hs (by rw[z];exact Km)
   have h2:s∉r:=λz=>hs (Ko _ z);exact (q2 s h2).trans (by rw[NG (L0 h1)])
def Lx(p q:Int×Nat):Prop:=p.1<q.1\/(p.1=q.1/\p.2<q.2)
theorem xZ{p:Int×Nat}:∀{l:List (Int×Nat)},l.Pairwise Lx->(∀q∈l,p.2<q.2)->(iC p l).Pairwise Lx
 |[],_,_=>Nt _ _
 |q::r,h,hp=>by
  obtain⟨h1,h2⟩:=KY.mp h;have hq:=hp q Km;unfold iC;split
  ·rename_i c;refine KY.mpr ⟨λz hz=>?_,h⟩;have hz2:=hp z hz;have:q.1<=z.1:=by
    rcases Kl.mp hz with rfl|hz
    ·exact Pa _
    ·have:=h1 z hz;unfold Lx at this;omega
   unfold Lx;omega
  ·rename_i c;refine KY.mpr ⟨λz hz=>?_,xZ h2 λz hz=>hp z (Ko _ hz)⟩;rcases Kl.mp ((gU p r).mem_iff.mp hz) with rfl|hz
   ·unfold Lx;omega
   ·exact h1 z hz
theorem uG:∀{l:List (Int×Nat)},(l.Pairwise λp q=>p.2<q.2)->(fK l).Pairwise Lx
 |[],_=>.nil
 |p::r,h=>by
  obtain⟨h1,h2⟩:=KY.mp h;exact xZ (uG h2) λq hq=>h1 q ((eN r).mem_iff.mp hq)
end Cw
structure Canon (ls:List Int) (W:List (List Nat)):Prop where
 len:W.length=ls.length
 Hu:∀t,t<ls.length->(W.getD t []).length=b8 ls t
 part:∀s t,s<ls.length->t<ls.length->(ls.getD s 0<ls.getD t 0\/(ls.getD s 0=ls.getD t 0/\s<t))->Cw.Dv (W.getD s []) (W.getD t [])
theorem mI(ls:List Int):ls.zip (List.range ls.length)=(List.range ls.length).map λt=>(ls.getD t 0,t):=by
 apply Na
 ·simp
 ·intro i h1 h2;simp at h1;simp[h1]
theorem canon(hL:jk ls)(hk:KS ls<=2^40):Canon ls (wordsOf Cw.gB ls):=by
 have hS:(Cw.Lx · ·)=(Cw.Lx · ·):=rfl;have hlx:(fK (ls.zip (List.range ls.length))).Pairwise Cw.Lx:=by
  refine Cw.uG ?_;rw[mI];exact O2.mpr Pc
 have hmem:∀p∈fK (ls.zip (List.range ls.length)),p.1=ls.getD p.2 0/\p.2<ls.length:=λp hp=>by
  have:=(eN _).mem_iff.mp hp;rw[mI] at this;obtain⟨t,ht,rfl⟩:=KZ.mp this;exact⟨rfl,LJ.mp ht⟩
 have hord:(bC ls).Pairwise λs t=>ls.getD s 0<ls.getD t 0\/(ls.getD s 0=ls.getD t 0/\s<t):=by
  unfold bC j0;refine O2.mpr (hlx.imp_of_mem λ{p q} hp hq h=>?_);rw[<- (hmem p hp).1,<- (hmem q hq).1];exact h
 have hperm:(bC ls).Perm (List.range ls.length):=iN (by rw[Lc])
 have hnd:(bC ls).Nodup:=hperm.nodup_iff.mpr List.nodup_range;have hb:∀t,t<ls.length->1<=ls.getD t 0/\ls.getD t 0<=40:=λt ht=>by
  rw[Kt,Ka ht];have:=hL.2.2 _ (K1 ht);show 1<=ls[t]/\ls[t]<=40;lia
 have hmm:∀t∈bC ls,t<ls.length:=λt ht=>jQ ht;have hks:Kr.ks 40 ([]++(bC ls).map (b8 ls))<=2^40:=by
  rw[LM,Kr.iG (hperm.map (b8 ls))];have e:(List.range ls.length).map (b8 ls)=ls.map Int.toNat:=by
   apply Na
   ·simp
   ·intro i h1 h2;simp at h1;simp[b8,h1]
  rw[e];exact hk
 obtain⟨_,q2,q3⟩:=Cw.yz (ln:=b8 ls) (bC ls) [] none (hord.imp_of_mem λ{s t} hs ht h=>by
  have:=hb s (hmm s hs);have:=hb t (hmm t ht);unfold b8;omega) (λt ht=>by have:=hb t (hmm t ht);unfold b8;omega) (λv e=>by cases e) (λ_=>rfl) hks
 obtain⟨a1,_⟩:=Cw.pR (ln:=b8 ls) (bC ls) none (List.replicate ls.length []) hnd (λt ht=>by rw[Kw];exact hmm t ht)
 have hat:∀t,t<ls.length->∃i w,(bC ls)[i]?=some t/\(Cw.ko (b8 ls) none (bC ls))[i]?=some w/\w.length=b8 ls t/\(wordsOf Cw.gB ls).getD t []=w:=λt ht=>by
  obtain⟨i,hi⟩:=NA.mp (hperm.mem_iff.mpr (LJ.mpr ht));obtain⟨w,hw,hl⟩:=q3 i t hi;refine⟨i,w,hi,hw,hl,?_⟩;unfold wordsOf;rw[Kt,a1 i t hi,hw];rfl
 refine⟨?_,λt ht=>?_,λs t hs ht h=>?_⟩
 ·unfold wordsOf;rw[Cw.hG,Kw]
 ·obtain⟨i,w,_,_,hl,e⟩:=hat t ht;rw[e];exact hl
 ·obtain⟨i,w,h1,h2,_,e⟩:=hat s hs;obtain⟨j,v,g1,g2,_,e'⟩:=hat t ht;rw[e,e'];obtain⟨hi,rfl⟩:=Kf.mp h2;obtain⟨hj,rfl⟩:=Kf.mp g2;obtain⟨hi',ei⟩:=Kf.mp h1;obtain⟨hj',ej⟩:=Kf.mp g1;have hij:i<j:=by
   rcases Nat.lt_trichotomy i j with c|c|c
   ·exact c
   ·subst c;have est:s=t:=ei.symm.trans ej;subst est
    exfalso;omega
   ·have:=Mq.mp hord j i hj' hi' c;rw[ei,ej] at this
    exfalso;omega
  exact Mq.mp q2 i j hi hj hij
noncomputable def dg(n:Int):Nat:=48+(n % 2).toNat
noncomputable def bV:Int->Nat->List Nat->List Nat
 |_,0,acc=>acc
 |n,k+1,acc=>bV (n / 2) k (dg n::acc)
theorem e8:∀(k:Nat) (n:Int) (acc:List Nat),(bV n k acc).length=k+acc.length
 |0,_,_=>by rw[bV,Ms]
 |k+1,n,acc=>by rw[bV,e8 k,Kq];lia
theorem lj:∀(k:Nat) (n:Int) (acc:List Nat),∃d,bV n (k+1) acc=d::bV n k acc
 |0,n,acc=>⟨dg n,rfl⟩
 |k+1,n,acc=>by
  obtain⟨d,e⟩:=lj k (n / 2) (dg n::acc);exact⟨d,e⟩
theorem E_(n:Int):dg n=48\/dg n=49:=by
 unfold dg;have:n % 2=0\/n % 2=1:=by lia
 rcases this with e|e<;>rw[e]
 ·exact .inl rfl
 ·exact .inr rfl
theorem iw:∀(k:Nat) (n:Int) (acc:List Nat),(∀c∈acc,c=48\/c=49)->∀c∈bV n k acc,c=48\/c=49
 |0,_,_,h=>h
 |k+1,n,acc,h=>iw k (n / 2) (dg n::acc) λc hc=>by
  rcases Kl.mp hc with rfl|hc
  ·exact E_ n
  ·exact h c hc
theorem Gr(n:Int):Str.ofString (toString (n % 2))=wd [dg n]:=by
 have:n % 2=0\/n % 2=1:=by lia
 unfold dg;rcases this with e|e<;>rw[e]
 ·exact (by decide +kernel)
 ·exact (by decide +kernel)
theorem lq(a b:List Nat):wd a++wd b=wd (a++b):=by
 apply z_;show (a.toArray++b.toArray).toList=_;simp
theorem xy:Str.ofString ""=wd []:=by decide +kernel
noncomputable def bN(n:Nat):Nat:=Builtin.Int.intBits (n:Int)
noncomputable def fk(n:Nat):List Nat:=bV (n:Int) (bN n) []
theorem jJ{n:Nat}(h:n<65536):bN n<17:=by
 unfold bN Builtin.Int.intBits;split
 ·decide
 ·rename_i hz;have h0:n≠0:=λz=>hz (by rw[z];rfl)
  show (n:Int).natAbs.log2+1<17;rw[Oq];have:=(Nat.log2_lt (n:=n) (k:=16) h0).mpr (by lia)
  lia
noncomputable def dR(k:Nat)(d:Int):List Nat:=dD k++bV d (bH k) []
theorem GF{n:Nat}(h:0<n):Builtin.Int.intBits (n:Int)=Builtin.Int.intBits ((n / 2:Nat):Int)+1:=by
 unfold Builtin.Int.intBits;rw[Ki (by simp;lia)]
 show (n:Int).natAbs.log2+1=_;rw[Oq,Nat.log2_def];split
 ·rw[Ki (by simp;lia),Oq]
 ·have e:n / 2=0:=by lia
  rw[e];rfl
noncomputable def Row.wi:Row->Nat
 |.put _ _=>0
 |.two u _ _=>1+u
 |.one u _=>4+u
 |.jump _=>6
 |.zero _ _=>7
 |.halt=>8
theorem Row.AS(r:Row):r.wi<9:=by
 cases r with
 |two u a b=>exact (by decide:∀u:_root_.Fin 3,1+(u:Nat)<9) u
 |one u b=>exact (by decide:∀u:_root_.Fin 2,4+(u:Nat)<9) u
 |put b n=>exact (by decide:0<9)
 |jump g=>exact (by decide:6<9)
 |zero b g=>exact (by decide:7<9)
 |halt=>exact (by decide:8<9)
inductive Pk where
 |box (b:Nat)|num (n:Nat)|goal (g:Nat)
noncomputable def Pk.kd:Pk->Str
 |.box _=>"box"
 |.num _=>"number"
 |.goal _=>"goal"
def Pk.Ok:Pk->Prop
 |.box b=>b<8
 |.num n=>n<65536
 |.goal _=>True
noncomputable def Pk.qT:Pk->List (Nat×Nat)
 |.box b=>[(2,b)]
 |.num n=>[(1,bN n)]
 |.goal _=>[]
noncomputable def Row.wd:Row->Str
 |.put _ _=>"put"
 |.two u _ _=>w2 u
 |.one u _=>w1 u
 |.jump _=>"jump"
 |.zero _ _=>"zero"
 |.halt=>"halt"
noncomputable def Row.gz:Row->List Pk
 |.put b n=>[.box b,.num n]
 |.two _ a b=>[.box a,.box b]
 |.one _ b=>[.box b]
 |.jump g=>[.goal g]
 |.zero b g=>[.box b,.goal g]
 |.halt=>[]
theorem Row.Ac{r:Row}(h:r.Ok k):∀p∈r.gz,p.Ok:=by
 cases r with
 |put b n=>simp only[Row.gz,Kl,K7,Lp];exactλp z=>z.elim (λe=>e ▸ h.1) λe=>e ▸ h.2
 |two u a b=>simp only[Row.gz,Kl,K7,Lp];exactλp z=>z.elim (λe=>e ▸ h.1) λe=>e ▸ h.2
 |one u b=>simp only[Row.gz,Kl,K7,Lp];rintro p rfl;exact h
 |jump g=>simp only[Row.gz,Kl,K7,Lp];rintro p rfl;exact trivial
 |zero b g=>simp only[Row.gz,Kl,K7,Lp];exactλp z=>z.elim (λe=>e ▸ h.1) λe=>e ▸ trivial
 |halt=>simp[Row.gz]
noncomputable def cR(r:Row):List (Nat×Nat):=(0,r.wi)::r.gz.flatMap Pk.qT
noncomputable def cZ:List Str:=["put","add","sub","copy","tell","hear","jump","zero","halt"]
theorem Iu:∀k,k<9->∀m,m<k->cZ[m]?≠cZ[k]?:=by decide +kernel
theorem DR(r:Row):cZ[r.wi]?=some r.wd/\∀m,m<r.wi->cZ[m]?≠some r.wd:=by
 have h1:cZ[r.wi]?=some r.wd:=by
  cases r with
  |two u a b=>exact (by decide +kernel:∀u:_root_.Fin 3,cZ[1+(u:Nat)]?=some (w2 u)) u
  |one u b=>exact (by decide +kernel:∀u:_root_.Fin 2,cZ[4+(u:Nat)]?=some (w1 u)) u
  |put b n=>rfl
  |jump g=>rfl
  |zero b g=>rfl
  |halt=>rfl
 exact⟨h1,λm hm=>by rw[<- h1];exact Iu _ r.AS m hm⟩
noncomputable def bX:List (Str×List Str):=[("put",["box","number"]),("add",["box","box"]),("sub",["box","box"]),("copy",["box","box"]),("tell",["box"]),("hear",["box"]),("jump",["goal"]),("zero",["box","goal"]),("halt",[])]
theorem xn(r:Row):KTD.datumAt r.wd bX=some (r.gz.map Pk.kd):=by
 cases r with
 |two u a b=>exact (by decide +kernel:∀u:_root_.Fin 3,KTD.datumAt (w2 u) bX=some [("box":Str),"box"]) u
 |one u b=>exact (by decide +kernel:∀u:_root_.Fin 2,KTD.datumAt (w1 u) bX=some [("box":Str)]) u
 |put b n=>exact (by decide +kernel:KTD.datumAt ("put":Str) bX=some [("box":Str),"number"])
 |jump g=>exact (by decide +kernel:KTD.datumAt ("jump":Str) bX=some [("goal":Str)])
 |zero b g=>exact (by decide +kernel:KTD.datumAt ("zero":Str) bX=some [("box":Str),"goal"])
 |halt=>exact (by decide +kernel:KTD.datumAt ("halt":Str) bX=some ([]:List Str))
noncomputable def GD:List Str:=["a","b","c","d","e","f","g","h"]
theorem xI{b:Nat}(h:b<8):GD[b]?=some (cS b)/\∀m,m<b->GD[m]?≠some (cS b):=(by decide +kernel:∀b,b<8->GD[b]?=some (cS b)/\∀m,m<b->GD[m]?≠some (cS b)) b h
theorem lQ:∀(o:List Nat) (a:Option (List Nat)) (ws:List (List Nat)),(∀t∈o,ln t<=40)->(∀v,a=some v->v.length<=40)->(∀x∈ws,x.length<=40)->∀x∈(Cw.along Cw.gB ln o (a,ws)).2,x.length<=40
 |[],_,_,_,_,h=>h
 |t::o,a,ws,ho,ha,hw=>by
  have ht:=ho t Km;have h2:=λt h=>ho t (Ko _ h)
  cases a with
  |none =>
   refine lQ o (some (List.replicate (ln t) 48)) _ h2 (λv e=>by cases e;rw[Kw];exact ht) λx hx=>?_
   rcases Lr hx with z|z
   ·exact hw x z
   ·rw[z,Kw];exact ht
  |some v =>
   have hv:=tU (ha v rfl) ht;refine lQ o (some (Cw.gB v (ln t))) _ h2 (λv e=>by cases e;exact hv) λx hx=>?_
   rcases Lr hx with z|z
   ·exact hw x z
   ·rw[z];exact hv
theorem AG(hL:jk ls):∀x∈wordsOf Cw.gB ls,x.length<=40:=by
 refine lQ _ _ _ (λt ht=>?_) (λv e=>by cases e) λx hx=>by rw[(Lz.mp hx).2];decide
 have h:=jQ ht;have:=hL.2.2 _ (K1 h);unfold b8;rw[Kt,Ka h];show ls[t].toNat<=40;lia
theorem jj(ls:List Int):(wordsOf Cw.gB ls).length=ls.length:=(Cw.hG _ _).trans (Kw ..)
structure Cd (cd:List (List (List Nat))):Prop where
 ex:∃a b c,cd=[a,b,c]/\a.length=9/\b.length=17/\c.length=8
 le:∀ws∈cd,∀x∈ws,x.length<=40
noncomputable def aU(cd:List (List (List Nat)))(p:Nat×Nat):List Nat:=(cd.getD p.1 []).getD p.2 []
noncomputable def gE:Row->List Nat
 |.put _ n=>(fk n).tail
 |_=>[]
noncomputable def bK(cd:List (List (List Nat)))(r:Row):List Nat:=(cR r).flatMap (aU cd)++gE r
def Bk(bk:List (List Int)):Prop:=∃a b c,bk=[a,b,c]/\a.length=9/\b.length=17/\c.length=8/\∀l∈bk,jk l/\lN l=true
noncomputable def fT(bk:List (List Int)):List (List (List Nat)):=bk.map (wordsOf Cw.gB)
theorem Bk.cd{bk:List (List Int)}(h:Bk bk):Cd (fT bk):=by
 obtain⟨a,b,c,rfl,h1,h2,h3,h4⟩:=h;refine⟨⟨_,_,_,rfl,by rw[jj,h1],by rw[jj,h2],by rw[jj,h3]⟩,λws hw=>?_⟩
 obtain⟨l,hl,rfl⟩:=KZ.mp hw;exact AG (h4 l hl).1
theorem nU:∀l:List (List Nat),(Str.ofString "").join (l.map wd)=wd l.flatten
 |[]=>rfl
 |[x]=>by simp[Str.join]
 |x::y::r=>by
  show wd x++Str.ofString ""++(Str.ofString "").join ((y::r).map wd)=_;rw[nU (y::r),xy,lq,lq,Lb];rfl
theorem rL{r:Row}(h:r.Ok k):∀p∈cR r,(p.1=0/\p.2<9)\/(p.1=1/\p.2<17)\/(p.1=2/\p.2<8):=by
 intro p hp;unfold cR at hp;rcases Kl.mp hp with rfl|hp
 ·exact .inl ⟨rfl,r.AS⟩
 ·obtain⟨q,hq,hp⟩:=List.mem_flatMap.mp hp;have:=Row.Ac h q hq
  cases q with
  |box b=>rw[Ku.mp hp];exact .inr (.inr ⟨rfl,this⟩)
  |num n=>rw[Ku.mp hp];exact .inr (.inl ⟨rfl,jJ this⟩)
  |goal n=>cases hp
theorem Cd.at{cd:List (List (List Nat))}(h:Cd cd){p:Nat×Nat}(hp:(p.1=0/\p.2<9)\/(p.1=1/\p.2<17)\/(p.1=2/\p.2<8)):cd[p.1]?=some (cd.getD p.1 [])/\(cd.getD p.1 [])[p.2]?=some (aU cd p)/\(aU cd p).length<=40:=by
 obtain⟨a,b,c,rfl,h1,h2,h3⟩:=h.ex;have key:∀(l:List (List Nat)) (i:Nat),i<l.length->l[i]?=some (l.getD i [])/\l.getD i []∈l:=λl i hi=>by
  rw[Kt,Ka hi];exact⟨rfl,K1 hi⟩
 obtain⟨x,y⟩:=p;rcases hp with ⟨rfl,hy⟩|⟨rfl,hy⟩|⟨rfl,hy⟩
 ·have:=key a y (by rw[h1];exact hy)
  exact⟨rfl,this.1,h.le a (by simp) _ this.2⟩
 ·have:=key b y (by rw[h2];exact hy)
  exact⟨rfl,this.1,h.le b (by simp) _ this.2⟩
 ·have:=key c y (by rw[h3];exact hy)
  exact⟨rfl,this.1,h.le c (by simp) _ this.2⟩
theorem oJ(r:Row):(cR r).length<=3:=by cases r<;>simp[cR,Row.gz,Pk.qT]
theorem qQ{cd:List (List (List Nat))}{r:Row}(hC:Cd cd)(h:r.Ok k):((cR r).flatMap (aU cd)).length<=120/\(gE r).length<=16:=by
 refine⟨?_,?_⟩
 ·have:∀l:List (Nat×Nat),(∀p∈l,(aU cd p).length<=40)->(l.flatMap (aU cd)).length<=40*l.length:=λl=>by
   induction l with
   |nil=>exactλ_=>Kk _
   |cons p l ih =>
    intro h;have h1:=h p Km;have h2:=ih λq hq=>h q (Ko _ hq);rw[List.flatMap_cons,Ke,Kq];lia
  have h1:=this (cR r) λp hp=>(hC.at (rL h p hp)).2.2;have h2:=oJ r;lia
 ·cases r with
  |put b n =>
   have:=jJ (n:=n) h.2;show (fk n).tail.length<=16;rw[List.length_tail];unfold fk;rw[e8];simp only[LH];lia
  |_=>exact Kz _
noncomputable def nZ(l:List Nat):List Int:=l.map λk:Nat=>(k:Int)
theorem bj(l:List Nat):(nZ l).length=l.length:=Kc ..
theorem EA{l:List Nat}(h:Kr.ks 40 l<=2^40):lN (nZ l)=true:=by
 unfold lN KS nZ;rw[LP,show (Int.toNat ∘ λk:Nat=>(k:Int))=id from funext λk=>KN k,List.map_id];exact KG h
structure Pt (l:List Nat):Prop where
 ks:Kr.ks 40 l=2^40
 le:∀x∈l,x+1<=l.length
 one:l=[0]\/∀x∈l,1<=x
theorem Pt.pos{l:List Nat}(h:Pt l):1<=l.length:=by
 cases l with
 |nil=>have:=h.ks;simp[Kr.ks] at this
 |cons=>simp
theorem Pt.next{l l3:List Nat}{a:Nat}(h:Pt l)(ha:a<l.length)(hl:l.length<=17)(hp:l3.Perm ((l[a]+1)::(l[a]+1)::l.eraseIdx a)):Pt l3/\l3.length=l.length+1:=by
 have hpm:(l[a]::l.eraseIdx a).Perm l:=by
  rw[NF]
  conv=>rhs;rw[<- Lk a l,<- List.getElem_cons_drop ha]
  exact LI.symm
 have hle:=l.length_eraseIdx_of_lt ha;have hx:=h.le _ (K1 ha);have h3:l3.length=l.length+1:=by
  rw[hp.length_eq,Kq,Kq,hle];lia
 have mem:∀y∈l3,y=l[a]+1\/y∈l.eraseIdx a:=λy hy=>by
  rcases Kl.mp (hp.mem_iff.mp hy) with z|z
  ·exact .inl z
  ·rcases Kl.mp z with z|z
   ·exact .inl z
   ·exact .inr z
 have mem2:∀y∈l.eraseIdx a,y∈l:=λy hy=>hpm.mem_iff.mp (Ko _ hy);refine⟨⟨?_,λy hy=>?_,.inr λy hy=>?_⟩,h3⟩
 ·have e1:=Kr.iG (L:=40) hpm;rw[h.ks,Kr.ks] at e1;rw[Kr.iG hp,Kr.ks,Kr.ks];have e2:2^(40-l[a])=2*2^(40-(l[a]+1)):=by rw[show 40-l[a]=(40-(l[a]+1))+1 by lia,Mj];lia
  lia
 ·rw[h3];rcases mem y hy with rfl|z
  ·lia
  ·have:=h.le y (mem2 y z);lia
 ·rcases mem y hy with rfl|z
  ·lia
  ·rcases h.one with e|e
   ·subst e;have ha0:a=0:=by simpa using ha
    subst ha0;cases z
   ·exact e y (mem2 y z)
theorem B8(l:List α)(n:Nat)(x:α):(je l n x).length=l.length+1:=by
 unfold je;rw[Ke,Kq,K8,KP];lia
theorem qB(l:List α)(n:Nat)(x:α):(je l n x).Perm (x::l):=by
 unfold je;refine LI.trans ?_;rw[Lk]
theorem yE:∀{l:List Nat} {a z:Nat} (ha:a<l.length),l[a]<=z->Kr.ks 40 (l.set a z)<=Kr.ks 40 l
 |[],_,_,ha,_=>(nomatch ha)
 |x::l,0,z,_,h=>by
  have:2^(40-z)<=2^(40-x):=LY (by decide) (by have:x<=z:=h;lia)
  simp only[Oo,Kr.ks];lia
 |x::l,a+1,z,ha,h=>by
  have:=yE (l:=l) (a:=a) (z:=z) (by simpa using ha) (by simpa using h)
  simp only[List.set_cons_succ,Kr.ks];lia
theorem GH:∀(k:Nat) (w acc:List Nat),w.length=k->(∀c∈w,c=48\/c=49)->bV (Cw.val w:Int) k acc=w++acc:=by
 intro k
 induction k with
 |zero=>intro w acc h _;rw[Mc.mp h];rfl
 |succ k ih =>
  intro w acc h hb;obtain⟨v,c,rfl⟩:∃v c,w=v++[c]:=by
   rcases Pu w with e|⟨v,c,e⟩
   ·rw[e] at h;cases h
   ·exact⟨v,c,by rw[e,List.concat_eq_append]⟩
  have hc:=hb c (by simp)
  have ev:Cw.val (v++[c])=2*Cw.val v+(c-48):=by
   rw[Cw.gZ];rcases hc with rfl|rfl
   ·simp[Cw.val];lia
   ·simp[Cw.val];lia
  rw[bV];have e1:((Cw.val (v++[c]):Nat):Int) / 2=(Cw.val v:Int):=by rw[ev];lia
  have e2:dg ((Cw.val (v++[c]):Nat):Int)=c:=by
   unfold dg;rw[ev];rcases hc with rfl|rfl
   ·have:((2*Cw.val v+(48-48):Nat):Int) % 2=0:=by lia
    rw[this];rfl
   ·have:((2*Cw.val v+(49-48):Nat):Int) % 2=1:=by lia
    rw[this];rfl
  rw[e1,e2,ih v (c::acc) (by rw[Ke,MR] at h;lia) (λx hx=>hb x (by simp[hx])),K2]
  rfl
theorem Gs(ls:List Int):Kr.ks 40 ((bC ls).map (b8 ls))=KS ls:=by
 unfold KS;refine Kr.iG ?_;have e:ls.map Int.toNat=(List.range ls.length).map (b8 ls):=by
  apply Na
  ·simp
  ·intro i h1 h2;have hi:i<ls.length:=by simpa using h1
   simp[b8,hi]
 rw[e];exact (iN (by rw[Lc])).map _
structure At (ls:List Int) (done todo:List Nat) (a:Option (List Nat)) (n h:Int):Prop where
 all:done++todo=bC ls
 st:(a=none/\done=[]/\n=-1/\h=0)\/∃w,a=some w/\n=(Cw.val w:Int)/\h=(w.length:Int)/\Cw.jh (done.map (b8 ls)) w/\∀t∈todo,w.length<=b8 ls t
noncomputable def nu(a:Option (List Nat))(l:Nat):List Nat:=match a with|none=>List.replicate l 48|some v=>Cw.iS v l
theorem At.next{ls:List Int}{done todo:List Nat}{a:Option (List Nat)}{n h:Int}{t:Nat}(x:At ls done (t::todo) a n h)(hL:jk ls)(ho:lN ls=true)(hu:(bC ls).Pairwise λi j=>b8 ls i<=b8 ls j):
  ∃d:Nat,(b8 ls t:Int)-h=d/\d<=b8 ls t/\(n+1)*2^d=(Cw.val (nu a (b8 ls t)):Int)/\(nu a (b8 ls t)).length=b8 ls t/\(∀c∈nu a (b8 ls t),c=48\/c=49)/\At ls (done++[t]) todo (some (nu a (b8 ls t))) (Cw.val (nu a (b8 ls t)):Int) (b8 ls t:Int):=by
 have hall:(done++[t])++todo=bC ls:=by rw[K2];exact x.all
 have htl:b8 ls t<=40:=by
  have h:=jQ (ls:=ls) (t:=t) (by rw[<- x.all];simp)
  have:=hL.2.2 _ (K1 h);unfold b8;rw[Kt,Ka h];show ls[t].toNat<=40;lia
 have hk:Kr.ks 40 ((done++[t]++todo).map (b8 ls))<=2^40:=by rw[hall,Gs];exact LA ho
 rw[Kv,Kv,Kr.dc,Kr.dc] at hk;have hle:∀u∈todo,b8 ls t<=b8 ls u:=λu hu'=>by
  rw[<- x.all] at hu;exact (KY.mp (L6.mp hu).2.1).1 u hu'
 rcases x.st with ⟨rfl,rfl,rfl,rfl⟩|⟨w,rfl,rfl,rfl,hH,hw⟩
 ·refine⟨b8 ls t,by lia,Kk _,?_,Kw ..,λc hc=>.inl (Lz.mp hc).2,hall,.inr ⟨_,rfl,rfl,by rw[show nu none (b8 ls t)=List.replicate (b8 ls t) 48 from rfl,Kw],Cw.jh.first htl,λu hu'=>by rw[show nu none (b8 ls t)=List.replicate (b8 ls t) 48 from rfl,Kw];exact hle u hu'⟩⟩
  rw[show nu none (b8 ls t)=List.replicate (b8 ls t) 48 from rfl,Cw.fB];simp
 ·have hwt:=hw t Km;have hk2:Kr.ks 40 (done.map (b8 ls))+2^(40-b8 ls t)<=2^40:=by
   simp only[K9,Mh,Kr.ks] at hk;lia
  have hz:=hH.zero (rest:=[]) hk2;have hN:=hH.next hwt htl hk2;refine⟨b8 ls t-w.length,by lia,O3 _ _,?_,Cw.fC hwt,Cw.mJ hH.bits,hall,.inr ⟨_,rfl,rfl,by rw[show nu (some w) (b8 ls t)=Cw.iS w (b8 ls t) from rfl,Cw.fC hwt],by rw[Kv];exact hN,λu hu'=>by rw[show nu (some w) (b8 ls t)=Cw.iS w (b8 ls t) from rfl,Cw.fC hwt];exact hle u hu'⟩⟩
  rw[show nu (some w) (b8 ls t)=Cw.iS w (b8 ls t) from rfl,Cw.pI hH.bits hz];simp
theorem jr:∀(k:Nat) (n:Int) (acc:List Nat),bV n k acc=bV n k []++acc
 |0,_,_=>rfl
 |k+1,n,acc=>by
  rw[bV,bV,jr k (n / 2) (dg n::acc),jr k (n / 2) [dg n],K2];rfl
theorem sZ(k:Nat)(n:Int):bV n (k+1) []=bV (n / 2) k []++[dg n]:=by rw[bV,jr]
theorem yd(w:List Nat)(c:Nat):Cw.val (w++[c])=2*Cw.val w+(c-48):=by
 rw[Cw.gZ];simp[Cw.val];lia
theorem js:∀(k:Nat) (n:Int),(Cw.val (bV n k []):Int)=n % 2^k
 |0,n=>by simp[bV,Cw.val,Int.emod_one]
 |k+1,n=>by
  rw[sZ,yd];have ih:=js k (n / 2);have hd:((dg n-48:Nat):Int)=n % 2:=by unfold dg;have:=MJ n (show (2:Int)≠0 by decide);lia
  have e:(2:Int)*((n / 2) % 2^k)+n % 2=n % 2^(k+1):=by
   have h1:=Pz n 2;have h2:=Pz (n / 2) (2^k);have hp:(0:Int)<2^k:=Pg (by decide)
   have h3:=MJ (n / 2) (Int.ne_of_gt hp);have h4:=MK (n / 2) hp;have h5:=MJ n (show (2:Int)≠0 by decide)
   have h6:=MK n (show (0:Int)<2 by decide)
   rw[Int.pow_succ];have key:n=(2*((n / 2) % 2^k)+n % 2)+(2^k*2)*((n / 2) / 2^k):=by
    rw[Int.mul_assoc,Int.mul_left_comm];generalize 2^k*(n / 2 / 2^k)=y at h2 ⊢;lia
   generalize hr:2*((n / 2) % 2^k)+n % 2=r at key ⊢;generalize (n / 2) / 2^k=y at key;rw[key,Int.add_mul_emod_self_left,Ny (by lia) (by lia)]
  push_cast
  rw[ih,hd,e]
theorem qo:∀(cs:List Nat) (a:Nat),cs.foldl (λa c=>a*2+(c-48)) a=a*2^cs.length+Cw.val cs
 |[],a=>by simp[Cw.val]
 |c::cs,a=>by
  rw[NI,qo cs,Cw.val,Kq,Mj,Pj];rw[Ma,Nk 2 (2^cs.length),Nd]
theorem tV(cs:List Nat):kP cs=Cw.val cs:=by
 unfold kP;rw[qo,Nat.zero_mul,Ms]
theorem xA:∀{cs:List Nat},(∀c∈cs,c=48\/c=49)->Cw.val cs<2^cs.length
 |[],_=>by decide
 |c::cs,h=>by
  have ih:=xA (cs:=cs) λx hx=>h x (Ko _ hx);rw[Cw.val,Kq,Mj];rcases h c Km with rfl|rfl<;>simp<;>lia
theorem oO(n:Nat):∀c∈fk n,c=48\/c=49:=iw _ _ _ λc hc=>by cases hc
theorem uH(n:Nat):(fk n).length=bN n:=by unfold fk;rw[e8];rfl
theorem ke{n:Nat}(h:0<n):2^(bN n-1)<=n/\n<2^bN n/\0<bN n:=by
 have e:bN n=n.log2+1:=by
  unfold bN Builtin.Int.intBits;rw[Ki (by simp;lia)]
  rfl
 rw[e];exact⟨Nat.log2_self_le (by lia),Nat.lt_log2_self,Nat.succ_pos _⟩
theorem uS{n:Nat}(h:0<n):Cw.val (fk n)=n:=by
 have h1:=js (bN n) (n:Int);have h2:=(ke h).2.1;have e:(n:Int) % 2^bN n=n:=Ny (by lia) (by exact_mod_cast h2)
 rw[e] at h1;unfold fk
 exact_mod_cast h1
theorem yT{n:Nat}(h:0<n):fk n=49::(fk n).tail:=by
 obtain⟨b1,b2,b3⟩:=ke h;have hl:=uH n;have hv:=uS h;have hb:=oO n
 cases e:fk n with
 |nil=>rw[e] at hl;simp at hl;lia
 |cons c r =>
  rw[e] at hl hv hb;rcases hb c Km with rfl|rfl
  ·exfalso
   have:=xA (cs:=r) λx hx=>hb x (Ko _ hx);rw[Kq] at hl;rw[<- hl,Nq] at b1;simp[Cw.val] at hv;lia
  ·rfl
theorem BX{n:Nat}(h:0<n):kP (49::(fk n).tail)=n:=by rw[<- yT h,tV,uS h]
theorem vK{n:Nat}(h:bN n=0):n=0:=by
 rcases Ml n with e|e
 ·exact e
 ·have:=(ke e).2.2;lia
inductive Kd where
 |box|num|go
noncomputable def Kd.s:Kd->Str
 |.box=>Str.ofString "box"
 |.num=>Str.ofString "number"
 |.go=>Str.ofString "goal"
inductive PV where
 |box (b:Nat)|num (n:Nat)|go (d:Int)
noncomputable def mi(cd:List (List (List Nat)))(z:List Nat)(p:Nat):Kd->Option (PV×Nat)
 |.box=>(jE (cd.getD 2 []) z p).map λx=>(.box x.1,x.2)
 |.num=>(yg (cd.getD 1 []) z p).map λx=>(.num x.1,x.2)
 |.go=>(gA z p).map λx=>(.go x.1,x.2)
structure vo (cd:List (List (List Nat))):Prop where
 eW:Cd cd
 pf:∀w∈cd,Pf w
noncomputable def Bi(i:Nat):List Kd:=[[Kd.box,.num],[.box,.box],[.box,.box],[.box,.box],[.box],[.box],[.go],[.box,.go],[]].getD i []
noncomputable def qS(cd:List (List (List Nat)))(z:List Nat):List Kd->Nat->Option (List (PV×Nat)×Nat)
 |[],p=>some ([],p)
 |k::ks,p=>(mi cd z p k).bind λx=>(qS cd z ks x.2).map λy=>(x::y.1,y.2)
structure RW where
 wi:Nat
 vs:List (PV×Nat)
noncomputable def AX(cd:List (List (List Nat)))(z:List Nat)(p:Nat):Option (RW×Nat):=(jE (cd.getD 0 []) z p).bind λx=>(qS cd z (Bi x.1) x.2).map λy=>(⟨x.1,y.1⟩,y.2)
noncomputable def xq(cd:List (List (List Nat)))(z:List Nat)(p:Int):Option (RW×Nat):=if p<0 then none else AX cd z p.toNat
theorem uQ(cd:List (List (List Nat)))(z:List Nat)(p:Nat):xq cd z (p:Int)=AX cd z p:=by
 unfold xq;rw[Ki (by lia),KN]
theorem Br(h:i<9):KTD.datumAt (cZ.getD i (Str.ofString "")) bX=some ((Bi i).map Kd.s):=by
 have:i=0\/i=1\/i=2\/i=3\/i=4\/i=5\/i=6\/i=7\/i=8:=by lia
 rcases this with rfl|rfl|rfl|rfl|rfl|rfl|rfl|rfl|rfl<;>decide +kernel
theorem Pf.nd{ws:List (List Nat)}(h:Pf ws):ws.Nodup:=by
 unfold List.Nodup;rw[Mq];intro i j hi hj hij e;exact h.pre i j hi hj (KA hij) (by rw[e];exact List.prefix_refl _)
noncomputable def PV.n:PV->Int
 |.box b=>(b:Int)
 |.num n=>(n:Int)
 |.go d=>d
noncomputable def Kd.c:Kd->Nat
 |.box=>98
 |.num=>110
 |.go=>103
structure JX (cd:List (List (List Nat))):Prop extends vo cd where
 JR:∀ws∈cd,∀w∈ws,w.length<=20
theorem xD{ws:List (List Nat)}{x:Nat×Nat}(hne:∀w∈ws,w≠[])(h:yg ws z p=some x):p<x.2/\x.2<=z.length:=by
 unfold yg at h
 cases c:jE ws z p with
 |none=>rw[c] at h;cases h
 |some y =>
  rw[c] at h;obtain⟨_,_,h3,h4⟩:=fu hne c;dsimp only at h
  split at h
  ·cases h;exact⟨h3,h4⟩
  ·split at h
   ·rename_i hl;cases h;exact⟨by show p<y.2+_;lia,hl⟩
   ·cases h
theorem Dr{x:Int×Nat}(h:gA z p=some x):p<x.2/\x.2<=z.length:=by
 unfold gA at h
 cases c:jE vm z p with
 |none=>rw[c] at h;cases h
 |some y =>
  rw[c] at h;obtain⟨_,_,h3,h4⟩:=fu nj c;dsimp only at h
  split at h
  ·rename_i hl;cases h;exact⟨by show p<y.2+_;lia,hl⟩
  ·cases h
theorem y9{cd:List (List (List Nat))}{k:Kd}{x:PV×Nat}(hR:vo cd)(h:mi cd z p k=some x):p<x.2/\x.2<=z.length/\(∀b,x.1=.box b->b<8):=by
 obtain⟨c0,c1,c2,rfl,l0,l1,l2⟩:=hR.eW.ex;have n1:=(hR.pf c1 (by simp)).ne
 have n2:=(hR.pf c2 (by simp)).ne
 cases k with
 |box =>
  replace h:(jE c2 z p).map (λx=>(PV.box x.1,x.2))=some x:=h
  cases c:jE c2 z p with
  |none=>rw[c] at h;cases h
  |some y=>rw[c] at h;cases h;obtain⟨h1,_,h3,h4⟩:=fu n2 c;exact⟨h3,h4,λb e=>by cases e;lia⟩
 |num =>
  replace h:(yg c1 z p).map (λx=>(PV.num x.1,x.2))=some x:=h
  cases c:yg c1 z p with
  |none=>rw[c] at h;cases h
  |some y=>rw[c] at h;cases h;exact⟨(xD n1 c).1,(xD n1 c).2,λb e=>by cases e⟩
 |go =>
  replace h:(gA z p).map (λx=>(PV.go x.1,x.2))=some x:=h
  cases c:gA z p with
  |none=>rw[c] at h;cases h
  |some y=>rw[c] at h;cases h;exact⟨(Dr c).1,(Dr c).2,λb e=>by cases e⟩
theorem e9.app{x y:List Nat}(hx:e9 x)(hy:e9 y):e9 (x++y):=λc hc=>(KJ.mp hc).elim (hx c) (hy c)
theorem e9.rep(n:Nat){v:Nat}(h:v=48\/v=49):e9 (List.replicate n v):=λc hc=>by rw[(Lz.mp hc).2];exact h
theorem Dk{w:List Nat}{n:Nat}(h:e9 w):e9 (Cw.gB w n):=by
 unfold Cw.gB Cw.pad;refine e9.app (e9.app (λc hc=>h c ?_) λc hc=>.inr (Ku.mp hc)) (e9.rep _ (.inl rfl));have h1:=Md.mp (List.dropLast_subset _ hc);exact Md.mp ((N1 _).subset h1)
theorem wJ{o:List Nat}:∀{a:Option (List Nat)} {ws:List (List Nat)},(∀v,a=some v->e9 v)->(∀x∈ws,e9 x)->∀x∈(Cw.along Cw.gB ln o (a,ws)).2,e9 x:=by
 induction o with
 |nil=>exactλ_ h=>h
 |cons t o ih =>
  intro a ws ha hw
  cases a with
  |none =>
   refine ih (a:=some (List.replicate (ln t) 48)) (λv e=>by cases e;exact e9.rep _ (.inl rfl)) λx hx=>?_
   rcases Lr hx with z|z
   ·exact hw x z
   ·rw[z];exact e9.rep _ (.inl rfl)
  |some v =>
   have hv:=Dk (n:=ln t) (ha v rfl);refine ih (a:=some (Cw.gB v (ln t))) (λv e=>by cases e;exact hv) λx hx=>?_
   rcases Lr hx with z|z
   ·exact hw x z
   ·rw[z];exact hv
theorem v9(ls:List Int):∀x∈wordsOf Cw.gB ls,e9 x:=wJ (λv e=>by cases e) λx hx=>by rw[(Lz.mp hx).2];exactλc hc=>by cases hc
theorem yx{cd:List (List (List Nat))}(h:∀ws∈cd,∀w∈ws,e9 w)(r:Row):e9 (bK cd r):=by
 have at2:∀p,e9 (aU cd p):=λp=>by
  unfold aU;rw[Kt,Kt]
  cases e:cd[p.1]? with
  |none=>exactλc hc=>by cases hc
  |some ws =>
   show e9 (ws[p.2]?.getD [])
   cases e2:ws[p.2]? with
   |none=>exactλc hc=>by cases hc
   |some w=>exact h ws (Le e) w (Le e2)
 unfold bK;refine e9.app (λc hc=>?_) ?_
 ·obtain⟨p,_,hp⟩:=List.mem_flatMap.mp hc;exact at2 p c hp
 ·cases r with
  |put b n=>exactλc hc=>oO n c (List.mem_of_mem_tail hc)
  |two=>exactλc hc=>by cases hc
  |one=>exactλc hc=>by cases hc
  |jump=>exactλc hc=>by cases hc
  |zero=>exactλc hc=>by cases hc
  |halt=>exactλc hc=>by cases hc
theorem Ep(bk:List (List Int)):∀ws∈fT bk,∀w∈ws,e9 w:=λws hw=>by
 obtain⟨l,_,rfl⟩:=KZ.mp hw;exact v9 l
theorem gP{cd:List (List (List Nat))}(hC:Cd cd){r:Row}(hr:r.Ok k):(bK cd r).length<=136:=by
 have:=qQ hC hr;unfold bK;rw[Ke];lia
inductive dJ where
 |put (b n:Nat)|two (w:Fin 3) (a b:Nat)|one (w:Fin 2) (b:Nat)|jump (g:Int)|zero (b:Nat) (g:Int)|halt
inductive Bp where
 |s (z:Str)|n (k:Int)
noncomputable def dJ.ps:dJ->List Bp
 |.put b n=>[.s "put",.s (cS b),.n (n:Nat)]
 |.two w a b=>[.s (w2 w),.s (cS a),.s (cS b)]
 |.one w b=>[.s (w1 w),.s (cS b)]
 |.jump g=>[.s "jump",.n g]
 |.zero b g=>[.s "zero",.s (cS b),.n g]
 |.halt=>[.s "halt"]
def dJ.Ok:dJ->Prop
 |.put b _=>b<8
 |.two _ a b=>a<8/\b<8
 |.one _ b=>b<8
 |.jump _=>True
 |.zero b _=>b<8
 |.halt=>True
noncomputable def dJ.rel(e:Int):dJ->dJ
 |.jump g=>.jump (g-e)
 |.zero b g=>.zero b (g-e)
 |r=>r
noncomputable def rF(x:RW×Nat):dJ:=match x.1.vs with
 |[(.box b,_)]=>.one (if x.1.wi=4 then 0 else 1) b
 |[(.go d,e)]=>.jump ((e:Int)+d)
 |[(.box a,_),(.box b,_)]=>.two (if x.1.wi=1 then 0 else if x.1.wi=2 then 1 else 2) a b
 |[(.box b,_),(.num n,_)]=>.put b n
 |[(.box b,_),(.go d,e)]=>.zero b ((e:Int)+d)
 |_=>.halt
theorem IM{cd:List (List (List Nat))}{k:Kd}{y:List (PV×Nat)×Nat}(h:qS cd z [k] p=some y):∃x,mi cd z p k=some x/\y=([x],x.2):=by
 obtain⟨x,hx,h⟩:=M7.mp h;cases h;exact⟨x,hx,rfl⟩
theorem Ib{cd:List (List (List Nat))}{k l:Kd}{y:List (PV×Nat)×Nat}(h:qS cd z [k,l] p=some y):∃x x',mi cd z p k=some x/\mi cd z x.2 l=some x'/\y=([x,x'],x'.2):=by
 obtain⟨x,hx,h⟩:=M7.mp h;obtain⟨y',hy,rfl⟩:=KD.mp h;obtain⟨x',hx',rfl⟩:=IM hy;exact⟨x,x',hx,hx',rfl⟩
theorem fo{cd:List (List (List Nat))}{x:PV×Nat}(hR:vo cd)(h:mi cd z p .box=some x):∃b e,x=(.box b,e)/\b<8:=by
 have h8:=(y9 hR h).2.2;obtain⟨v,_,rfl⟩:=KD.mp h;exact⟨_,_,rfl,h8 _ rfl⟩
theorem Fi{cd:List (List (List Nat))}{x:PV×Nat}(h:mi cd z p .num=some x):∃n e,x=(.num n,e):=by
 obtain⟨v,_,rfl⟩:=KD.mp h;exact⟨_,_,rfl⟩
theorem Du{cd:List (List (List Nat))}{x:PV×Nat}(h:mi cd z p .go=some x):∃d e,x=(.go d,e):=by
 obtain⟨v,_,rfl⟩:=KD.mp h;exact⟨_,_,rfl⟩
theorem Ew{cd:List (List (List Nat))}{ks:List Kd}{y:List (PV×Nat)×Nat}(hR:vo cd)(h:qS cd z ks p=some y):p<=y.2/\(p<=z.length->y.2<=z.length):=by
 induction ks generalizing p y with
 |nil=>cases h;exact⟨Kk _,id⟩
 |cons k ks ih =>
  rw[qS] at h;obtain⟨x,hx,h⟩:=M7.mp h;obtain⟨y',hy,rfl⟩:=KD.mp h;obtain⟨i1,i2⟩:=ih hy;obtain⟨j1,j2,_⟩:=y9 hR hx;exact⟨by show p<=y'.2;lia,λ_=>i2 j2⟩
theorem yH(hL:jk ls)(ho:lN ls=true):Pf (wordsOf Cw.gB ls):=by
 have hc:=canon hL (LA ho);have hg:∀(i:Nat) (h:i<(wordsOf Cw.gB ls).length),(wordsOf Cw.gB ls)[i]=(wordsOf Cw.gB ls).getD i []:=λi h=>by
  rw[Kt,Ka h];rfl
 refine⟨λw hw e=>?_,λi j hi hj hne hp=>?_⟩
 ·obtain⟨i,hi,rfl⟩:=NS.mp hw;have hi':i<ls.length:=by rw[<- hc.len];exact hi
  have h1:=hc.Hu i hi';rw[<- hg i hi,e,LH] at h1;unfold b8 at h1;rw[Kt,Ka hi'] at h1;have h2:=hL.2.2 _ (K1 hi');have h1':0=(ls[i]).toNat:=h1;lia
 ·have hi':i<ls.length:=by rw[<- hc.len];exact hi
  have hj':j<ls.length:=by rw[<- hc.len];exact hj
  rw[hg i hi,hg j hj] at hp;have:(ls.getD i 0<ls.getD j 0\/(ls.getD i 0=ls.getD j 0/\i<j))\/(ls.getD j 0<ls.getD i 0\/(ls.getD j 0=ls.getD i 0/\j<i)):=by lia
  rcases this with h|h
  ·exact (hc.part i j hi' hj' h).not.1 hp
  ·exact (hc.part j i hj' hi' h).not.2 hp
theorem Dh{bk:List (List Int)}(h:Bk bk):∀ws∈fT bk,Pf ws:=λws hw=>by
 obtain⟨l,hl,rfl⟩:=KZ.mp hw;obtain⟨a,b,c,e,_,_,_,h4⟩:=h;exact yH (h4 l hl).1 (h4 l hl).2
theorem qc{bk:List (List Int)}(h:Bk bk):JX (fT bk):=by
 refine⟨⟨h.cd,Dh h⟩,λws hw w hw2=>?_⟩;obtain⟨l,hl,rfl⟩:=KZ.mp hw;obtain⟨a,b,c,e,_,_,_,h4⟩:=h;have hc:=canon (h4 l hl).1 (LA (h4 l hl).2);obtain⟨i,hi,rfl⟩:=NS.mp hw2;have hi':i<l.length:=by rw[<- hc.len];exact hi
 have h1:=hc.Hu i hi';rw[Kt,Ka hi] at h1;unfold b8 at h1;rw[Kt,Ka hi'] at h1;have h2:=(h4 l hl).1.2.2 _ (K1 hi');have h3:((wordsOf Cw.gB l)[i]).length=(l[i]).toNat:=h1;lia
noncomputable def II.v:II->V
 |.s z=>.str z
 |.n k=>.int (k:Nat)
noncomputable def Row.vs(r:Row):List V:=r.ps.map II.v
noncomputable def Pk.v:Pk->V
 |.box b=>.str (cS b)
 |.num n=>.int (n:Nat)
 |.goal g=>.int (g:Nat)
theorem Row.Ik(r:Row):r.vs=.str r.wd::r.gz.map Pk.v:=by cases r<;>rfl
noncomputable def PV.v(behind:Nat):PV->V
 |.box b=>.str (cS b)
 |.num n=>.int (n:Int)
 |.go d=>.int ((behind:Int)+d)
noncomputable def PV.l:PV->V
 |.box b=>.str (cS b)
 |.num n=>.int (n:Int)
 |.go d=>.int d
noncomputable def RW.v(r:RW):List V:=.str (cZ.getD r.wi (Str.ofString ""))::r.vs.map λx=>x.1.v x.2
noncomputable def RW.l(r:RW):List V:=.str (cZ.getD r.wi (Str.ofString ""))::r.vs.map λx=>x.1.l
noncomputable def Bp.v:Bp->V
 |.s z=>.str z
 |.n k=>.int k
noncomputable def dJ.vs(r:dJ):List V:=r.ps.map Bp.v
theorem Jr{cd:List (List (List Nat))}{x:RW×Nat}(hR:vo cd)(h:AX cd z p=some x):(rF x).Ok/\x.1.v=(rF x).vs/\x.1.l=((rF x).rel x.2).vs/\p<x.2/\x.2<=z.length:=by
 obtain⟨c0,c1,c2,rfl,l0,l1,l2⟩:=hR.eW.ex;obtain⟨v,hv,h⟩:=M7.mp h;obtain⟨y,hy,rfl⟩:=KD.mp h;obtain⟨w1,_,w3,w4⟩:=fu (hR.pf c0 (by simp)).ne hv
 obtain⟨i1,i2⟩:=Ew hR hy;obtain⟨wi,e⟩:=v;dsimp only at *;refine and_assoc.mp (and_assoc.mp ⟨?_,by show p<y.2;lia,i2 w4⟩)
 have far:∀(e:Nat) (d:Int),(e:Int)+d-(e:Int)=d:=λe d=>by lia
 have:wi=0\/wi=1\/wi=2\/wi=3\/wi=4\/wi=5\/wi=6\/wi=7\/wi=8:=by lia
 rcases this with rfl|rfl|rfl|rfl|rfl|rfl|rfl|rfl|rfl
 ·obtain⟨x,x',hx,hx',rfl⟩:=Ib hy;obtain⟨b,e,rfl,hb⟩:=fo hR hx;obtain⟨n,e',rfl⟩:=Fi hx';exact⟨⟨hb,rfl⟩,rfl⟩
 ·obtain⟨x,x',hx,hx',rfl⟩:=Ib hy;obtain⟨b,e,rfl,hb⟩:=fo hR hx;obtain⟨n,e',rfl,hb'⟩:=fo hR hx';exact⟨⟨⟨hb,hb'⟩,rfl⟩,rfl⟩
 ·obtain⟨x,x',hx,hx',rfl⟩:=Ib hy;obtain⟨b,e,rfl,hb⟩:=fo hR hx;obtain⟨n,e',rfl,hb'⟩:=fo hR hx';exact⟨⟨⟨hb,hb'⟩,rfl⟩,rfl⟩
 ·obtain⟨x,x',hx,hx',rfl⟩:=Ib hy;obtain⟨b,e,rfl,hb⟩:=fo hR hx;obtain⟨n,e',rfl,hb'⟩:=fo hR hx';exact⟨⟨⟨hb,hb'⟩,rfl⟩,rfl⟩
 ·obtain⟨x,hx,rfl⟩:=IM hy;obtain⟨b,e,rfl,hb⟩:=fo hR hx;exact⟨⟨hb,rfl⟩,rfl⟩
 ·obtain⟨x,hx,rfl⟩:=IM hy;obtain⟨b,e,rfl,hb⟩:=fo hR hx;exact⟨⟨hb,rfl⟩,rfl⟩
 ·obtain⟨x,hx,rfl⟩:=IM hy;obtain⟨d,e,rfl⟩:=Du hx;refine⟨⟨trivial,rfl⟩,?_⟩;show [_,V.int d]=[_,.int ((e:Int)+d-(e:Int))];rw[far];rfl
 ·obtain⟨x,x',hx,hx',rfl⟩:=Ib hy;obtain⟨b,e,rfl,hb⟩:=fo hR hx;obtain⟨d,e',rfl⟩:=Du hx';refine⟨⟨hb,rfl⟩,?_⟩;show [_,_,V.int d]=[_,_,.int ((e':Int)+d-(e':Int))];rw[far];rfl
 ·cases hy;exact⟨⟨trivial,rfl⟩,rfl⟩
noncomputable def y_(K:PJ):Sp:=λvs H Q _=>∃(a:Addr) (ls:List Int),vs=[.ref a]/\(H a=some (.tup (iV ls))\/H a=some (.lst (iV ls)))/\jk ls/\∀H',KB [] H H'->Q (.bl (lN ls)) H'
theorem sy(h:H a=some (.tup xs)\/H a=some (.lst xs)):∃b,sq H a=some (b,xs):=h.elim (λh=>⟨_,aL h⟩) λh=>⟨_,aI h⟩
theorem yR(ha:H a=some (.tup (iV ls))\/H a=some (.lst (iV ls)))(hn:ls.length<64)(q:∀ns':List Int,ns'.Perm ls->ns'.Pairwise (·<=·)->∀l,H l=none->Q (.ref l) (upd H l (.lst (ns'.map V.int)))):Y.zo K [.ref a] H Q:=ha.elim (λh=>.inl ⟨a,ls,rfl,aY.of h,hn,q⟩) λh=>.inr ⟨a,ls,rfl,bB.of h,hn,q⟩
theorem FP(T:Txt K mg)(F:HasFn K mg "can_be" iM ["lengths"]):au P w K mg base aZ 1 "can_be" ["lengths"] (y_ K):=by
 refine F.fL cN (λvs H Q E h=>?_) (λf cdv A outer s H vs Q E hr h=>?_)
 ·obtain⟨a,ls,rfl,_⟩:=h;rfl
 ·have hu:=aS hr;obtain⟨a,ls,rfl,ha,hL,q⟩:=h;refine⟨_,(Z.aq (Z.set (i:=1) cN.nd rfl (by right) Z.int)
   (Z.aq (Z.set (i:=2) cN.nd rfl (by right) Z.int)
   (Z.aq (Z.set (i:=3) cN.nd rfl (by right) (Z.cb (Z.c_ K rfl) rfl T.cU (by decide +kernel) (Z.cons (Z.v 0) Z.nil)))
   (Z.aq (Z.hV KR rfl (Z.any K rfl (Z.cb (Y.rC K rfl) rfl T.kx (by decide +kernel) (Z.cons (Z.v 0) Z.nil))) (Z.aO (i:=4) cN.nd rfl (by right)) (Z.aq (Z.eF (Z.bu b6 (Z.v 1) Z.int) (Z.aA (Z.ret Z.bl)) Z.bU)
   (Z.aq (Z.oG KR (Z.tw (Z.yO (Z.bu hZ (Z.v 2) (Z.v 4)) (Z.qE (Z.bu hZ (Z.v 1) (Z.v 3))))) (Z.aq (Z.set (i:=1) cN.nd rfl (by right) (Z.op cK (Z.v 1) Z.int))
   (Z.aA (Z.set (i:=2) cN.nd rfl (by right) (Z.op (Z.bf K rfl) (Z.v 2) Z.int)))))
   (Z.aq (Z.eF (Z.bu yU (Z.v 1) (Z.v 3)) (Z.aA (Z.ret Z.bl)) Z.bU)
   (Z.aq (Z.set (i:=1) cN.nd rfl (by right) (Z.op cW (Z.v 1) Z.int))
   (Z.aA (Z.set (i:=3) cN.nd rfl (by right) (Z.op cW (Z.v 3) Z.int))))))))
   (Z.aA (Z.ret Z.bl)))))),?_⟩
  refine ax λN hN=>?_;walk_at "rz";rw[hN];clear hN N;refine ax λN hN=>?_;walk_at "rz";rw[hN];clear hN N;obtain⟨kd,hsq⟩:=sy ha;refine ax λN hN=>?_;exists hsq;rw[hN];clear hN N;refine ax λN hN=>?_;walk_at "rz";refine yR ha (by have:=hL.2.1;lia) λrs hp hs l hl=>?_
  have k1:KB [] H (upd H l (.lst (rs.map V.int))):=KB.new hl;have s1:upd H l (.lst (rs.map V.int)) l=some (.lst (iV rs)):=aa;generalize upd H l (.lst (rs.map V.int))=H1 at *;simp only[aI s1];refine gT (xs:=iV rs) (λi σ H'=>∃(f d n:Int) (s4:Option V),H1=H'/\(∀x∈rs.drop i,1<=x/\x<=40/\d<=x)/\0<=f/\0<=d/\n=(rs.drop i).length/\(lN ls=true ↔ Kr.fit ((rs.drop i).map Int.toNat) f.toNat d.toNat 40)/\σ=[some (.ref a),some (.int f),some (.int d),some (.int n),s4]) ⟨1,0,_,none,rfl,λx hx=>by have:=hL.2.2 x (hp.mem_iff.mp hx);lia,by decide,by decide,by rw[Lw,hp.length_eq,aR],?_,rfl⟩ ?_ ?_ ?_
  ·unfold lN KS Kr.fit;rw[MO,Lw,Kr.iG (hp.map Int.toNat),show (1:Int).toNat*2^(40-(0:Int).toNat)=2^40 from rfl]
  ·rintro i σ H' _ ⟨f,d,n,s4,rfl,_⟩;exact bB.of s1
  ·rintro i x σ H' hx ⟨f,d,n,s4,rfl,hb,f0,d0,hn,hi,rfl⟩;obtain⟨hir,rfl⟩:=iu hx;have ed:=Lq hir;have hs2:(rs.drop i).Pairwise (·<=·):=List.Pairwise.drop hs;rw[ed] at hb hn hi hs2;generalize rs[i]=l at *;generalize rs.drop (i+1)=r at *;obtain⟨hl1,hl2,hl3⟩:=hb l (by simp)
   have hle:∀x∈r,l<=x:=(KY.mp hs2).1;unfold bp;refine ax λM hM=>?_;by_cases hf:f=0
   ·exists Kj hf;have:lN ls=false:=by
     cases c:lN ls with
     |false=>rfl
     |true=>have:=hi.mp c;rw[hf] at this;exact absurd this Kr.zU
    rw[this] at q;exact q _ k1
   ·exists Ki hf;rw[hM];clear hM M;refine ax λM hM=>?_;refine⟨λm σ H'=>H1=H'/\∃f d:Int,0<f/\0<=d/\d<=l/\m=(l-d).toNat/\(lN ls=true ↔ Kr.fit ((l::r).map Int.toNat) f.toNat d.toNat 40)/\σ=[some (.ref a),some (.int f),some (.int d),some (.int n),some (.int l)],⟨_,rfl,f,d,by lia,d0,hl3,rfl,hi,rfl⟩,?_⟩
    rintro m σ H' ⟨rfl,f,d,f0,d0,dl,rfl,hi,rfl⟩;have after:(d=l\/n<=f)->M [some (.ref a),some (.int f),some (.int d),some (.int n),some (.int l)] H1:=λhc=>by
     rw[hM];clear hM M;refine ax λM hM=>?_;by_cases h3:n<=f
     ·exists Kj h3;have:lN ls=true:=hi.mpr (Kr.sR (λx hx=>by
       obtain⟨y,hy,rfl⟩:=KZ.mp hx;rcases Kl.mp hy with rfl|hy
       ·lia
       ·have:=hle y hy;lia) (by rw[Kc];lia))
      rw[this] at q;exact q _ k1
     ·exists Ki h3;rw[hM];clear hM M;refine ax λM hM=>?_;walk_at "rz";rw[hM];clear hM M;refine qU λM hM=>?_;walk_at "rz";rw[hM];have hd:d=l:=hc.resolve_right h3;subst hd;refine⟨f-1,d,n-1,some _,rfl,λx hx'=>⟨(hb x (by simp[hx'])).1,(hb x (by simp[hx'])).2.1,hle x hx'⟩,by lia,d0,by rw[hn,Kq];lia,?_,rfl⟩
      rw[hi,K9,Kr.x_ (by lia),show (f-1).toNat=f.toNat-1 by lia]
    by_cases c1:d<l
    ·by_cases c2:f<n
     ·exists Kj c1,Kj c2;refine⟨λσ' H'=>∃m',m'<(l-d).toNat/\(H1=H'/\∃f d:Int,0<f/\0<=d/\d<=l/\m'=(l-d).toNat/\(lN ls=true ↔ Kr.fit ((l::r).map Int.toNat) f.toNat d.toNat 40)/\σ'=[some (.ref a),some (.int f),some (.int d),some (.int n),some (.int l)]),λ_ _ h=>h,?_⟩;refine⟨.inr (by decide),?_⟩
      refine⟨_,?_,rfl,f*2,d+1,by lia,by lia,by lia,rfl,?_,rfl⟩
      ·lia
      ·rw[hi,Kr.rM (l:=l.toNat) (by lia) (by lia),show (f*2).toNat=f.toNat*2 by lia,show (d+1).toNat=d.toNat+1 by lia]
     ·exists Kj c1,Ki c2;exact after (.inr (by lia))
    ·exists Ki c1;exact after (.inl (by lia))
  ·rintro σ H' ⟨f,d,n,s4,rfl,_,_,_,_,hi,rfl⟩;rw[aR,N8] at hi;show N _ _;rw[hN];clear hN N;walk_at "rz";have:lN ls=true:=hi.mpr (Kz _);rw[this] at q;exact q _ k1
noncomputable def JF:Option (List Nat)->V
 |none=>.aX
 |some w=>.str (wd w)
theorem si(ws:List (List Nat)):(wV ws).length=ws.length:=Kc ..
noncomputable def yl(K:PJ):Sp:=λvs H Q _=>∃(a:Addr) (ls:List Int),vs=[.ref a]/\H a=some (.tup (iV ls))/\jk ls/\lN ls=true/\∀b H',KB [] H H'->H' b=some (.tup (wV (wordsOf Cw.gB ls)))->Q (.ref b) H'
theorem BB(T:Txt K mg)(F:HasFn K mg "code_of" df ["lengths"])(hcan_be:au P w K mg base aZ 1 "can_be" ["lengths"] (y_ K))(hword_behind:au P w K mg base aZ 1 "word_behind" ["ahead","length"] Il):au P w K mg base aZ 4 "code_of" ["lengths"] (yl K):=by
 obtain⟨c,Pt,htab,hcc⟩:=T.pK.ex;refine F.HR eM (λvs H Q E h=>?_) (λf cdv A outer s H vs Q E hr hm eW h=>?_)
 ·obtain⟨a,ls,rfl,_⟩:=h;rfl
 ·have:=hcc _ _ ⟨hm,eW⟩;subst this;have hu:=aS hr;obtain⟨a,ls,rfl,ha,hL,ho,q⟩:=h;refine⟨_,(Z.aq (Z.eF (Z.Cp (Z.wI K rfl (Z.fn hcan_be (hr.mono (by decide)) rfl az (Z.cons (Z.v 0) Z.nil)))) (Z.aA Z.Jv) Z.bU)
   (Z.aq (Z.setC (j:=1) eM.nd rfl (by right) (osc:=af df) (ON:=["lengths","words","ahead","thing"]) (own:=["length"]) (N:=["length","lengths","words","ahead","thing"]) ⟨rfl,by decide +kernel,rfl,by decide +kernel,by decide +kernel,by decide +kernel,by decide +kernel,by decide +kernel⟩ rfl rfl rfl (Z.any K rfl (Z.v 0)) (λ_ _ _ _=>(Z.aO (i:=0) (show List.Nodup (["length","lengths","words","ahead","thing"]:List Str) by decide +kernel) rfl (by right))) (λ_ _ _ _=>Z.lV) (λ_ _ _ _=>Z.str))
   (Z.aq (Z.set (i:=2) eM.nd rfl (by right) Z.aX)
   (Z.aq (Z.hV KR rfl (Z.any K rfl (Z.GV (k:=0) (j:=0) K rfl (by decide) htab rfl rfl rfl rfl rfl T.kx (Z.cons (Z.ct Y.oR rfl T.e_ (by decide +kernel) (Z.cons (Z.cb (Z.c_ K rfl) rfl T.cU (by decide +kernel) (Z.cons (Z.v 0) Z.nil)) Z.nil)) Z.nil) (hr.mono (by decide)) rfl (by decide) rfl rfl rfl rfl rfl rfl rfl (λ_ _ _ _=>rfl))) (Z.aO (i:=3) eM.nd rfl (by right)) (Z.aq (Z.asg (Z.fn hword_behind (hr.mono (by decide)) rfl az (Z.cons (Z.v 2) (Z.cons (Z.ix (Z.aP K rfl hu) (Z.v 0) (Z.v 3)) Z.nil))) (Z.pJ (Z.v 1) (Z.v 3)))
   (Z.aA (Z.set (i:=2) eM.nd rfl (by right) (Z.ix (Z.aP K rfl hu) (Z.v 1) (Z.v 3))))))
   (Z.aA (Z.ret (Z.ct (Z.cc K rfl) rfl T.cg (by decide +kernel) (Z.cons (Z.v 1) Z.nil)))))))),?_⟩
  refine ax λN hN=>?_;walk_at "rz";refine⟨a,ls,rfl,.inl ha,hL,λH1 k1=>?_⟩;exists ho,P9;rw[Ki (λz=>Bool.noConfusion z),hN];clear hN N;have ha1:=k1 _ _ ha (by simp)
  refine ax λN hN=>?_;exists aL ha1;refine cq (xs:=iV ls) (Kn (show _<=20 by rw[aR];exact hL.2.1) (by decide)) (λD i ys H'=>H' D=some (.lst ys)/\ys=wV (List.replicate i [])/\KB [] H1 H'/\H1 D=none) (λD hD=>⟨aa,rfl,KB.new hD,hD⟩) (λD i ys H' h=>⟨h.1,by rw[h.2.1,si,Kw]⟩) (λD i ys H' h=>aY.of (h.2.2.1 _ _ ha1 (by simp))) ?_ ?_
  ·rintro D i ys H' x R hx ⟨g1,rfl,g3,g4⟩ kk;walk_at "rz";refine kk _ _ g1 ⟨aa,?_,λb o e _=>?_,g4⟩
   ·rw[NU,wV,wV,Kv];rfl
   ·rw[ae (ao e g4)];exact g3 b o e (by simp)
  rintro D ys H2 ⟨g1,rfl,g3,g4⟩;rw[aR] at g1;show N _ _;rw[hN];clear hN N;refine ax λN hN=>?_;walk_at "rz";rw[hN];clear hN N;have h02:=k1.trans g3;have D0:H D=none:=k1.free (by simp) g4
  have ha2:=h02 _ _ ha (by simp)
  refine ax λN hN=>?_;exists aL ha2;refine .inl ⟨_,rfl,λr hr0=>?_⟩;have k3:KB [] H2 (upd H2 r (.mK 0 ((iV ls).length:Nat))):=KB.new hr0;have s3:upd H2 r (.mK 0 ((iV ls).length:Nat)) r=some (.mK 0 (ls.length:Nat)):=by rw[aa,aR]
  generalize upd H2 r (.mK 0 ((iV ls).length:Nat))=H3 at *;have le:(ki ls.length).length=ls.length:=by rw[Kc,Lc]
  have ha3:=k3 _ _ ha2 (by simp)
  refine⟨r,ki ls.length,ls,rfl,⟨ls.length,s3,rfl⟩,le.symm,by rw[le];have:=hL.2.1;lia,λi v k e1 e2 H' g=>?_,λH4 l g hl=>?_⟩
  ·have hi:i<ls.length:=(Kf.mp e2).1;have e3:(ki ls.length)[i]?=some (.int (i:Int)):=by simp[hi]
   rw[e3] at e1;cases e1;exact⟨_,a,iV ls,rfl,rfl,aY.of (g.same _ _ ha3),b7 (by unfold iV;rw[Kp,e2];rfl)⟩
  have eo:j0 ls (ki ls.length)=(bC ls).map λk=>V.int ((k:Nat):Int):=tJ ..;rw[eo];have k4:KB [] H3 (upd H4 l (.lst ((bC ls).map λk=>V.int ((k:Nat):Int)))):=λb o e _=>by rw[ae (ao (g.same _ _ e) hl)];exact g.same _ _ e
  have s4:upd H4 l (.lst ((bC ls).map λk=>V.int ((k:Nat):Int))) l=_:=aa;have gD4:=k4 _ _ (k3 _ _ g1 (by simp)) (by simp)
  have lD:l≠D:=λz=>by
   have:=g.same _ _ (k3 _ _ g1 (by simp))
   rw[<- z,hl] at this;cases this
  generalize upd H4 l (.lst ((bC ls).map λk=>V.int ((k:Nat):Int)))=H5 at *;have h05:KB [] H H5:=h02.trans (k3.trans k4);have a5:a≠D:=λz=>by rw[z,D0] at ha;cases ha
  clear k3 k4 g hl hr0 s3 ha3 le eo g1 h02 ha2 g3 g4 ha1 k1;refine gT (xs:=(bC ls).map λk=>V.int ((k:Nat):Int)) (λi σ H'=>∃o:Option V,i<=(bC ls).length/\(∀v,(fN ls ((bC ls).take i)).1=some v->v.length<=40)/\H' D=some (.lst (wV (fN ls ((bC ls).take i)).2))/\H' l=some (.lst ((bC ls).map λk=>V.int ((k:Nat):Int)))/\KB [] H H'/\σ=[some (.ref a),some (.ref D),some (JF (fN ls ((bC ls).take i)).1),o]) ⟨none,Kz _,(λv z=>by cases z),gD4,s4,h05,rfl⟩ (λi σ H' _ h=>by obtain⟨o,_,_,_,h,_⟩:=h;exact bB.of h) ?_ ?_
  ·rintro i x σ H' hx ⟨o,hi,hw,gD,gl,h0,rfl⟩;have hio:i<(bC ls).length:=by have:=(Kf.mp hx).1;rw[Kc] at this;exact this
   obtain rfl:x=.int (((bC ls)[i]:Nat):Int):=by
    rw[Kp,Ka hio] at hx;exact (Option.some.inj hx).symm
   have hth:(bC ls)[i]<ls.length:=jQ (K1 hio);have eT:(bC ls).take (i+1)=(bC ls).take i++[(bC ls)[i]]:=by rw[L9,Ka hio];rfl
   rw[eT];generalize (bC ls)[i]=th at *;generalize (bC ls).take i=done at *;have ex:cL (iV ls) (th:Int)=some (.int ls[th]):=DY hth;have hlt:=hL.2.2 _ (K1 hth);have en:ls[th]=((b8 ls th:Nat):Int):=by
    unfold b8;rw[Kt,Ka hth];simp;lia
   have hn20:b8 ls th<=40:=by lia
   have eD:fN ls (done++[th])=Cw.along Cw.gB (b8 ls) [th] (fN ls done):=Cw.iR _ _ _;have hwl:(fN ls done).2.length=ls.length:=ET ls done;have gt:=aL (h0 _ _ ha (by simp))
   obtain⟨n,hn⟩:∃n,b8 ls th=n:=⟨_,rfl⟩;rw[hn] at en hn20;have fin:∀y:List Nat,y.length<=40->fN ls (done++[th])=(some y,(fN ls done).2.set th y)->∀M,M=(λσ H'=>∃o:Option V,i+1<=(bC ls).length/\(∀v,(fN ls (done++[th])).1=some v->v.length<=40)/\H' D=some (.lst (wV (fN ls (done++[th])).2))/\H' l=some (.lst ((bC ls).map λk=>V.int ((k:Nat):Int)))/\KB [] H H'/\σ=[some (.ref a),some (.ref D),some (JF (fN ls (done++[th])).1),o])->M [some (.ref a),some (.ref D),some (.str (wd y)),some (.int (th:Nat))] (upd H' D (.lst ((wV (fN ls done).2).set th (.str (wd y))))):=λy hy e M hM=>by
    rw[hM,e];refine⟨some _,hio,λv z=>by cases z;exact hy,?_,by rw[ae lD];exact gl,λb u e _=>by rw[ae (ao e D0)];exact h0 _ _ e (by simp),rfl⟩
    rw[aa];unfold wV;rw[Mw]
   have xk:jP (wV (fN ls done).2).length (th:Int)=some th:=by rw[rA (by lia) (by rw[si,hwl];lia),KN]
   have setI:∀y:List Nat,cL ((wV (fN ls done).2).set th (.str (wd y))) (th:Int)=some (.str (wd y)):=λy=>b7 (ML (by rw[si,hwl];exact hth))
   unfold bp;refine ax λM hM=>?_;exists gt,ex
   cases hs:(fN ls done).1 with
   |none =>
    refine⟨n,hn20,.inl ⟨by rw[en];rfl,?_⟩⟩
    exists gD,xk;rw[hM];clear hM M;dsimp only;refine qU λM hM=>?_;exists setI;refine fin _ (by rw[List.length_replicate];exact hn20) ?_ M hM
    rw[eD];generalize fN ls done=st at *;obtain⟨x,ws⟩:=st;obtain rfl:x=none:=hs;subst hn;rfl
   |some v =>
    refine⟨n,hn20,.inr ⟨v,by rw[en];rfl,hw v hs,?_⟩⟩
    exists gD,xk;rw[hM];clear hM M;dsimp only;refine qU λM hM=>?_;exists setI;refine fin _ (tU (hw v hs) hn20) ?_ M hM;rw[eD];generalize fN ls done=st at *;obtain⟨x,ws⟩:=st;obtain rfl:x=some v:=hs;subst hn;rfl
  ·rintro σ H' ⟨o,_,_,gD,_,h0,rfl⟩;rw[Kc,Li] at gD;show N _ _;rw[hN];clear hN N;exists aI gD;exactλb hb=>q b _ (h0.trans (KB.new hb)) aa
noncomputable def aQ:Row->Option Nat
 |.jump g=>some g
 |.zero _ g=>some g
 |_=>none
theorem pre_split{a:List Nat}(h:a++b <+: z.drop p):a <+: z.drop p/\b <+: z.drop (p+a.length):=by
 obtain⟨y,e⟩:=h;refine⟨⟨b++y,by rw[<- e,K2]⟩,y,?_⟩
 rw[<- Pw,<- e,K2,Pr]
theorem tR{ws:List (List Nat)}(h:Pf ws)(ht:t<ws.length)(hp:ws.getD t [] <+: z.drop p):jE ws z p=some (t,p+(ws.getD t []).length):=by
 unfold jE;rw[h.th ht hp];rfl
theorem Eo:Pf vm:=⟨nj,λi j hi hj hne=>by
 rcases lM hi with rfl|rfl|rfl<;>rcases lM hj with rfl|rfl|rfl<;>first|exact absurd rfl hne|decide +revert⟩
theorem kE{cd:List (List (List Nat))}{b:Nat}(hR:vo cd)(hb:b<8)(hp:aU cd (2,b) <+: z.drop p):mi cd z p .box=some (.box b,p+(aU cd (2,b)).length):=by
 obtain⟨c0,c1,c2,rfl,l0,l1,l2⟩:=hR.eW.ex;show (jE c2 z p).map _=_;rw[tR (hR.pf c2 (by simp)) (by lia) hp];rfl
theorem FC{cd:List (List (List Nat))}{n:Nat}(hR:vo cd)(hn:n<65536)(hp:aU cd (1,bN n)++(fk n).tail <+: z.drop p):mi cd z p .num=some (.num n,p+(aU cd (1,bN n)++(fk n).tail).length):=by
 obtain⟨c0,c1,c2,rfl,l0,l1,l2⟩:=hR.eW.ex;have hb:=jJ hn;obtain⟨h1,y,e⟩:=pre_split hp;have hl:=hp.length_le;rw[Ke,KP] at hl;have htl:(fk n).tail.length=bN n-1:=by rw[List.length_tail,uH]
 have hc:=tR (hR.pf c1 (by simp)) (by lia) h1
 have h0:=(fu (hR.pf c1 (by simp)).ne hc).2.2.1
 replace hc:jE c1 z p=some (bN n,p+(aU [c0,c1,c2] (1,bN n)).length):=hc
 show (yg c1 z p).map _=_;unfold yg;rw[hc];dsimp only
 replace h0:p<p+(aU [c0,c1,c2] (1,bN n)).length:=h0
 generalize aU [c0,c1,c2] (1,bN n)=w at *;by_cases c:bN n=0
 ·rw[Kj c];have e0:=vK c;subst e0;rw[Ke,htl,c];rfl
 ·rw[Ki c,Kj (by lia),<- e,<- htl,Oe]
  have hn0:0<n:=by
   rcases Ml n with e|e
   ·subst e;exact absurd (by decide +kernel) c
   ·exact e
  rw[BX hn0,Ke,Nd];rfl
theorem kT{w:Nat}(d:Int):(dR w d).length=(dD w).length+bH w:=by
 unfold dR;rw[Ke,e8];rfl
theorem DA{cd:List (List (List Nat))}(hk:k<3)(h1:-cT k<=d)(h2:d<cT k)(hp:dR k d <+: z.drop p):mi cd z p .go=some (.go d,p+(dR k d).length):=by
 obtain⟨hh,y,e⟩:=pre_split hp;have hl:=hp.length_le;rw[kT,KP] at hl;have hc:=tR (t:=k) Eo hk (by rw[ze hk];exact hh)
 rw[ze hk] at hc;have h16:0<bH k:=by rcases lM hk with rfl|rfl|rfl<;>decide
 have h2h:(2:Int)^bH k=2*cT k:=by rcases lM hk with rfl|rfl|rfl<;>decide
 have hl2:(bV d (bH k) []).length=bH k:=by rw[e8];rfl
 show (gA z p).map _=_;unfold gA;rw[hc];dsimp only;rw[if_pos (by lia),<- e,kT]
 have et:(bV d (bH k) []++y).take (bH k)=bV d (bH k) []:=by
  conv=>lhs;arg 1;rw[<- hl2]
  rw[Oe]
 rw[et,tV,Nd];have hv:=js (bH k) d;rw[h2h] at hv;have:BK k (Cw.val (bV d (bH k) []))=d:=by
  unfold BK;rw[hv];by_cases c:0<=d
  ·rw[Ny c (by lia),Ki (by lia)]
  ·have:d % (2*cT k)=d+2*cT k:=by
    rw[<- Int.add_emod_right];exact Ny (by lia) (by lia)
   rw[this,Kj (by lia)];lia
 rw[this];rfl
noncomputable def d_(cd:List (List (List Nat)))(r:Row)(w:Nat)(d:Int):List Nat:=bK cd r++(match aQ r with|none=>[]|some _=>dR w d)
noncomputable def Row.m(g:Int):Row->dJ
 |.put b n=>.put b n
 |.two u a b=>.two u a b
 |.one u b=>.one u b
 |.jump _=>.jump g
 |.zero b _=>.zero b g
 |.halt=>.halt
theorem E8{cd:List (List (List Nat))}{n:Nat}{r:Row}(hR:vo cd)(hr:r.Ok n)(hd:∀t,aQ r=some t->k<3/\-cT k<=d/\d<cT k)(hp:d_ cd r k d <+: z.drop p):∃x,AX cd z p=some x/\x.2=p+(d_ cd r k d).length/\rF x=r.m ((x.2:Int)+d):=by
 have hw:∀{i:Nat} {y:List Nat},i<9->aU cd (0,i)++y <+: z.drop p->jE (cd.getD 0 []) z p=some (i,p+(aU cd (0,i)).length)/\y <+: z.drop (p+(aU cd (0,i)).length):=λ{i y} hi h=>by
  obtain⟨h1,h2⟩:=pre_split h;obtain⟨c0,c1,c2,rfl,l0,l1,l2⟩:=hR.eW.ex;exact⟨tR (hR.pf c0 (by simp)) (by rw[show [c0,c1,c2].getD 0 []=c0 from rfl];lia) h1,h2⟩
 have fin:∀(i:Nat) (y:List Nat) (v:List (PV×Nat)) (e:Nat),i<9->d_ cd r k d=aU cd (0,i)++y->(y <+: z.drop (p+(aU cd (0,i)).length)->qS cd z (Bi i) (p+(aU cd (0,i)).length)=some (v,e))->e=p+(d_ cd r k d).length->rF (⟨i,v⟩,e)=r.m ((e:Int)+d)->∃x,AX cd z p=some x/\x.2=p+(d_ cd r k d).length/\rF x=r.m ((x.2:Int)+d):=λi y v e hi e1 e2 e3 e4=>by
  rw[e1] at hp;obtain⟨h1,h2⟩:=hw hi hp;refine⟨(⟨i,v⟩,e),?_,e3,e4⟩;unfold AX;rw[h1,Nc,e2 h2];rfl
 cases r with
 |put b n' =>
  have e0:d_ cd (.put b n') k d=aU cd (0,0)++(aU cd (2,b)++(aU cd (1,bN n')++(fk n').tail)):=by
   simp[d_,bK,cR,Row.gz,Pk.qT,Row.wi,gE,aQ]
  refine fin 0 _ [(.box b,p+(aU cd (0,0)).length+(aU cd (2,b)).length),(.num n',p+(aU cd (0,0)).length+(aU cd (2,b)).length+(aU cd (1,bN n')++(fk n').tail).length)] (p+(aU cd (0,0)).length+(aU cd (2,b)).length+(aU cd (1,bN n')++(fk n').tail).length) (by decide) e0 (λhy=>?_) ?_ rfl
  ·obtain⟨y1,y2⟩:=pre_split hy;show (mi cd z _ .box).bind _=_;rw[kE hR hr.1 y1,Nc];show ((mi cd z _ .num).bind _).map _=_;rw[FC hR hr.2 y2];rfl
  ·rw[e0];simp only[Ke];lia
 |two u a b =>
  have hu:(1+(u:Nat))<9:=(by decide:∀u:_root_.Fin 3,1+(u:Nat)<9) u
  have e0:d_ cd (.two u a b) k d=aU cd (0,1+(u:Nat))++(aU cd (2,a)++aU cd (2,b)):=by
   simp[d_,bK,cR,Row.gz,Pk.qT,Row.wi,gE,aQ]
  have ek:Bi (1+(u:Nat))=[.box,.box]:=by rcases FH u with rfl|rfl|rfl<;>rfl
  refine fin (1+(u:Nat)) _ [(.box a,p+(aU cd (0,1+(u:Nat))).length+(aU cd (2,a)).length),(.box b,p+(aU cd (0,1+(u:Nat))).length+(aU cd (2,a)).length+(aU cd (2,b)).length)] (p+(aU cd (0,1+(u:Nat))).length+(aU cd (2,a)).length+(aU cd (2,b)).length) hu e0 (λhy=>?_) ?_ ?_
  ·obtain⟨y1,y2⟩:=pre_split hy;rw[ek];show (mi cd z _ .box).bind _=_;rw[kE hR hr.1 y1,Nc];show ((mi cd z _ .box).bind _).map _=_;rw[kE hR hr.2 y2];rfl
  ·rw[e0];simp only[Ke];lia
  ·rcases FH u with rfl|rfl|rfl<;>rfl
 |one u b =>
  have hu:(4+(u:Nat))<9:=(by decide:∀u:_root_.Fin 2,4+(u:Nat)<9) u
  have e0:d_ cd (.one u b) k d=aU cd (0,4+(u:Nat))++aU cd (2,b):=by
   simp[d_,bK,cR,Row.gz,Pk.qT,Row.wi,gE,aQ]
  have ek:Bi (4+(u:Nat))=[.box]:=by rcases nr u with rfl|rfl<;>rfl
  refine fin (4+(u:Nat)) _ [(.box b,p+(aU cd (0,4+(u:Nat))).length+(aU cd (2,b)).length)] (p+(aU cd (0,4+(u:Nat))).length+(aU cd (2,b)).length) hu e0 (λhy=>?_) ?_ ?_
  ·rw[ek];show (mi cd z _ .box).bind _=_;rw[kE hR hr hy];rfl
  ·rw[e0];simp only[Ke];lia
  ·rcases nr u with rfl|rfl<;>rfl
 |jump g =>
  have e0:d_ cd (.jump g) k d=aU cd (0,6)++dR k d:=by
   simp[d_,bK,cR,Row.gz,Pk.qT,Row.wi,gE,aQ]
  obtain⟨d1,d2,d3⟩:=hd g rfl;refine fin 6 _ [(.go d,p+(aU cd (0,6)).length+(dR k d).length)] (p+(aU cd (0,6)).length+(dR k d).length) (by decide) e0 (λhy=>?_) ?_ rfl
  ·show (mi cd z _ .go).bind _=_;rw[DA d1 d2 d3 hy];rfl
  ·rw[e0];simp only[Ke];lia
 |zero b g =>
  have e0:d_ cd (.zero b g) k d=aU cd (0,7)++(aU cd (2,b)++dR k d):=by
   simp[d_,bK,cR,Row.gz,Pk.qT,Row.wi,gE,aQ]
  obtain⟨d1,d2,d3⟩:=hd g rfl;refine fin 7 _ [(.box b,p+(aU cd (0,7)).length+(aU cd (2,b)).length),(.go d,p+(aU cd (0,7)).length+(aU cd (2,b)).length+(dR k d).length)] (p+(aU cd (0,7)).length+(aU cd (2,b)).length+(dR k d).length) (by decide) e0 (λhy=>?_) ?_ rfl
  ·obtain⟨y1,y2⟩:=pre_split hy;show (mi cd z _ .box).bind _=_;rw[kE hR hr.1 y1,Nc];show ((mi cd z _ .go).bind _).map _=_;rw[DA d1 d2 d3 y2];rfl
  ·rw[e0];simp only[Ke];lia
 |halt =>
  have e0:d_ cd .halt k d=aU cd (0,8)++[]:=by
   simp[d_,bK,cR,Row.gz,Pk.qT,Row.wi,gE,aQ]
  refine fin 8 _ [] (p+(aU cd (0,8)).length) (by decide) e0 (λhy=>rfl) ?_ rfl
  rw[e0];simp only[Ke];rfl
noncomputable def IS:Nat->Nat
 |0=>5
 |1=>10
 |_=>18
noncomputable def addW:Option Nat->Nat->Nat
 |none,_=>0
 |some _,w=>IS w
theorem Bq(g:Option Nat)(w:Nat):addW g w<=18:=by
 unfold addW IS;split
 ·decide
 ·split<;>decide
noncomputable def jf:Nat->List Nat->List (Option Nat)->List Nat->List Nat
 |a,s::ss,g::gs,w::ws=>a::jf (a+s+addW g w) ss gs ws
 |a,_,_,_=>[a]
theorem nM(a:Nat)(ss:List Nat)(gs:List (Option Nat))(ws:List Nat):∃l,jf a ss gs ws=a::l:=by
 unfold jf;split
 ·exact⟨_,rfl⟩
 ·exact⟨_,rfl⟩
theorem jS:∀(ss:List Nat) (gs:List (Option Nat)) (ws:List Nat) (a:Nat),gs.length=ss.length->ws.length=ss.length->(jf a ss gs ws).length=ss.length+1
 |[],_,_,_,_,_=>by unfold jf;rfl
 |s::ss,[],_,_,h,_=>by cases h
 |s::ss,_::_,[],_,_,h=>by cases h
 |s::ss,g::gs,w::ws,a,h1,h2=>by
  rw[jf,Kq,jS ss gs ws _ (Nat.succ.inj h1) (Nat.succ.inj h2)];rfl
theorem zw:∀(ss:List Nat) (gs:List (Option Nat)) (ws:List Nat) (a:Nat),(∀s∈ss,s<=150)->∀v∈jf a ss gs ws,a<=v/\v<=a+168*ss.length
 |[],_,_,a,_,v,h=>by
  have:v=a:=by unfold jf at h;simpa using h
  rw[this];simp
 |s::ss,[],_,a,_,v,h=>by
  have:v=a:=by unfold jf at h;simpa using h
  rw[this];simp
 |s::ss,_::_,[],a,_,v,h=>by
  have:v=a:=by unfold jf at h;simpa using h
  rw[this];simp
 |s::ss,g::gs,w::ws,a,hs,v,h=>by
  rw[jf] at h;have h1:=hs s Km;have h2:=Bq g w;rw[Kq];rcases Kl.mp h with rfl|h
  ·exact⟨Kk _,Nat.le_add_right _ _⟩
  ·have:=zw ss gs ws _ (λx hx=>hs x (Ko _ hx)) v h;lia
theorem rX:∀(ss:List Nat) (gs:List (Option Nat)) (ws:List Nat) (a k:Nat) (s:Nat) (g:Option Nat) (w:Nat),ss[k]?=some s->gs[k]?=some g->ws[k]?=some w->(jf a ss gs ws).getD (k+1) 0=(jf a ss gs ws).getD k 0+s+addW g w
 |[],_,_,_,_,_,_,_,h,_,_=>by simp at h
 |s::ss,[],_,_,_,_,_,_,_,h,_=>by simp at h
 |s::ss,_::_,[],_,_,_,_,_,_,_,h=>by simp at h
 |s::ss,g::gs,w::ws,a,0,s',g',w',h1,h2,h3=>by
  simp at h1 h2 h3;subst h1;subst h2;subst h3;rw[jf];obtain⟨l,e⟩:=nM (a+s+addW g w) ss gs ws;rw[e];rfl
 |s::ss,g::gs,w::ws,a,k+1,s',g',w',h1,h2,h3=>by
  rw[jf];have:=rX ss gs ws (a+s+addW g w) k s' g' w' (by simpa using h1) (by simpa using h2) (by simpa using h3)
  simpa using this
noncomputable def gh(sp:List Nat)(t k:Nat):Int:=(sp.getD t 0:Int)-(sp.getD (k+1) 0:Int)
noncomputable def AW(w:Nat)(d:Int):Bool:=decide (-cT w<=d) && decide (d<cT w)
theorem jO:∀{ws:List Nat},(∀w∈ws,w<3)->ws.sum<=2*ws.length
 |[],_=>Kk _
 |w::ws,h=>by
  have h1:=h w Km;have h2:=jO λx hx=>h x (Ko _ hx);rw[M8,Kq];lia
theorem xC(hs:∀s∈ss,s<=150)(i:Nat):(jf 0 ss gs ws).getD i 0<=168*ss.length:=by
 rw[Kt]
 cases c:(jf 0 ss gs ws)[i]? with
 |none=>exact Kz _
 |some v=>have:=zw ss gs ws 0 hs v (Le c);show v<=_;lia
noncomputable def Bv(ss:List Nat)(gs:List (Option Nat))(ws:List Nat):Prop:=∀(k t w:Nat),gs[k]?=some (some t)->ws[k]?=some w->AW w (gh (jf 0 ss gs ws) t k)=true
noncomputable def jA(cd:List (List (List Nat)))(rs:List Row):List Nat:=rs.map λr=>(bK cd r).length
noncomputable def Co(sp:List Nat)(k w:Nat):Option Nat->List Nat
 |none=>[]
 |some t=>dR w (gh sp t k)
noncomputable def oI(cd:List (List (List Nat)))(sp:List Nat):Nat->List Row->List Nat->List Nat
 |k,r::rs,w::ws=>bK cd r++Co sp k w (aQ r)++oI cd sp (k+1) rs ws
 |_,_,_=>[]
theorem jL{r:Row}{n:Nat}(h:r.Ok n)(e:aQ r=some t):t<=n:=by
 cases r with
 |jump g=>cases e;exact h
 |zero b g=>cases e;exact h.2
 |put=>cases e
 |two=>cases e
 |one=>cases e
 |halt=>cases e
theorem uZ{w:Nat}(h:w<3)(d:Int):(dR w d).length=IS w:=by
 rw[kT];rcases lM h with rfl|rfl|rfl<;>rfl
structure Laid (cd:List (List (List Nat))) (rs:List Row) (ws sp z:List Nat):Prop where
 hR:vo cd
 len:ws.length=rs.length
 le:rs.length<=64
 ok:∀r∈rs,r.Ok rs.length
 lt:∀w∈ws,w<3
 oM:sp=jf 0 (jA cd rs) (rs.map aQ) ws
 fit:Bv (jA cd rs) (rs.map aQ) ws
 hz:z=oI cd sp 0 rs ws
section
variable {cd:List (List (List Nat))} {rs:List Row} {ws sp z:List Nat}
theorem Laid.sl(L:Laid cd rs ws sp z):sp.length=rs.length+1:=by
 rw[L.oM,jS _ _ _ _ (by unfold jA;rw[Kc,Kc]) (by unfold jA;rw[Kc];exact L.len)]
 unfold jA;rw[Kc]
noncomputable def BJ(sp:List Nat)(k:Nat)(r:Row):Int:=match aQ r with|none=>0|some t=>gh sp t k
theorem Laid.row(L:Laid cd rs ws sp z)(hk:k<rs.length):∃w,ws[k]?=some w/\w<3/\sp.getD (k+1) 0=sp.getD k 0+(d_ cd rs[k] w (BJ sp k rs[k])).length/\oI cd sp k (rs.drop k) (ws.drop k)=d_ cd rs[k] w (BJ sp k rs[k])++oI cd sp (k+1) (rs.drop (k+1)) (ws.drop (k+1))/\∀t,aQ rs[k]=some t->w<3/\-cT w<=BJ sp k rs[k]/\BJ sp k rs[k]<cT w:=by
 have hw:k<ws.length:=by rw[L.len];exact hk
 have ew:=Ka hw;have lw:=L.lt _ (K1 hw);have er:=Ka hk;have okr:=L.ok _ (K1 hk);refine⟨ws[k],ew,lw,?_,?_,?_⟩
 ·have:=rX (jA cd rs) (rs.map aQ) ws 0 k (bK cd rs[k]).length (aQ rs[k]) ws[k] (by unfold jA;rw[Kp,er];rfl) (by rw[Kp,er];rfl) ew
  rw[<- L.oM] at this;rw[this,d_,Ke,Nd];congr 2
  cases e:aQ rs[k] with
  |none=>rfl
  |some t=>exact (uZ lw _).symm
 ·rw[Lq hk,Lq hw,oI,d_];congr 2;unfold Co BJ
  cases e:aQ rs[k] with
  |none=>rfl
  |some t=>rfl
 ·intro t et;have hf:=L.fit k t ws[k] (by rw[Kp,er];exact K_ some et) ew
  rw[<- L.oM] at hf;unfold AW at hf;rw[Lo] at hf;unfold BJ;rw[et];exact⟨lw,LA hf.1,LA hf.2⟩
theorem Laid.at(L:Laid cd rs ws sp z):∀k,k<=rs.length->z.drop (sp.getD k 0)=oI cd sp k (rs.drop k) (ws.drop k)/\sp.getD k 0<=z.length
 |0,_=>by
  have e:sp.getD 0 0=0:=by
   rw[L.oM];obtain⟨l,e⟩:=nM 0 (jA cd rs) (rs.map aQ) ws;rw[e];rfl
  rw[e,Lw];exact⟨L.hz,Kz _⟩
 |k+1,hk=>by
  obtain⟨h1,h2⟩:=L.at k (by lia)
  obtain⟨w,_,_,e1,e2,_⟩:=L.row (show k<rs.length by lia)
  rw[e2] at h1;have hl:=K_ List.length h1;rw[KP,Ke] at hl;refine⟨?_,by lia⟩
  rw[e1,<- Pw,h1,Pr]
theorem Laid.pos(L:Laid cd rs ws sp z){w:Nat}(hk:k<rs.length):0<(d_ cd rs[k] w d).length:=by
 have g0:=L.hR.eW.at (p:=(0,rs[k].wi)) (.inl ⟨rfl,rs[k].AS⟩);obtain⟨c0,c1,c2,e,l0,l1,l2⟩:=L.hR.eW.ex;have hne:aU cd (0,rs[k].wi)≠[]:=by
  refine (L.hR.pf c0 (by rw[e];simp)).ne _ ?_
  have:=g0.2.1;rw[e] at this ⊢;exact Le this
 unfold d_ bK cR;rw[Ke,Ke,List.flatMap_cons,Ke];have:=N_.mpr hne;lia
theorem Laid.up(L:Laid cd rs ws sp z)(hk:k<rs.length):sp.getD k 0<sp.getD (k+1) 0:=by
 obtain⟨w,_,_,e1,_⟩:=L.row hk;have:=L.pos (w:=w) (d:=BJ sp k rs[k]) hk;lia
theorem Laid.mono(L:Laid cd rs ws sp z):∀(i d:Nat),i+d+1<=rs.length->sp.getD i 0<sp.getD (i+d+1) 0
 |i,0,h=>L.up (by lia)
 |i,d+1,h=>MT (L.mono i d (by lia)) (L.up (show i+d+1<rs.length by lia))
theorem Laid.last(L:Laid cd rs ws sp z):z.length=sp.getD rs.length 0:=by
 obtain⟨h1,h2⟩:=L.at rs.length (Kk _);rw[N8] at h1;have hl:=K_ List.length h1;rw[KP,show (oI cd sp rs.length [] (ws.drop rs.length)).length=0 by unfold oI;rfl] at hl
 lia
theorem Laid.JW(L:Laid cd rs ws sp z):z.length<=20000:=by
 rw[L.last,L.oM];have:=xC (ss:=jA cd rs) (gs:=rs.map aQ) (ws:=ws) (λs hs=>by
  obtain⟨r,hr,rfl⟩:=KZ.mp hs;have:=gP L.hR.eW (L.ok r hr)
  lia) rs.length
 have l:(jA cd rs).length=rs.length:=Kc ..;have:=L.le;lia
end
noncomputable def bP(H:Hp)(p dq:Addr)(n:Nat):Prop:=∃(cells:List Int) (i t z:Int),H p=some (.lst [.ref dq,.int i,.int t,.int z])/\H dq=some (.lst (iV cells))/\(∀c∈cells,0<=c)/\0<=i/\i<=cells.length/\cells.length<=63/\0<=t/\t<=n
theorem bP.mono{p:Addr}{n m:Nat}(h:bP H p dq n)(hm:n<=m):bP H p dq m:=by
 obtain⟨cells,i,t,z,h1,h2,h3,h4,h5,h6,h7,h8⟩:=h;exact⟨cells,i,t,z,h1,h2,h3,h4,h5,h6,h7,by lia⟩
theorem bP.keep{p:Addr}{n:Nat}(h:bP H p dq n)(k:KB ex H H')(n1:p∉ex)(n2:dq∉ex):bP H' p dq n:=by
 obtain⟨cells,i,t,z,h1,h2,h3⟩:=h;exact⟨cells,i,t,z,k _ _ h1 n1,k _ _ h2 n2,h3⟩
theorem bP.kb{p:Addr}{n:Nat}(h:bP H p dq n)(k:KB [] H H'):bP H' p dq n:=h.keep k (by simp) (by simp)
theorem bP.lst{p:Addr}{n:Nat}(h:bP H p dq n):∀b∈[p,dq],∃ys,H b=some (.lst ys):=by
 obtain⟨cells,i,t,z,h1,h2,h3⟩:=h;intro b hb;simp only[Kl,K7,Lp] at hb;rcases hb with rfl|rfl
 ·exact⟨_,h1⟩
 ·exact⟨_,h2⟩
theorem bP.new{p l:Addr}{n:Nat}(h:bP H p dq n)(hl:H l=none):l∉[p,dq]:=λz=>by
 obtain⟨ys,e⟩:=h.lst l z;rw[hl] at e;cases e
theorem bP.tup{p:Addr}{n:Nat}(h:bP H p dq n)(k:KB [p,dq] H H')(e:H a=some (.tup xs)):H' a=some (.tup xs):=Ft k h.lst e
def DF:Sp:=λvs H Q _=>∃c k:Int,vs=[.int c,.int k]/\0<=k/\k<2^60/\∀v:Int,Q (.int v) H
theorem Fz(F:HasFn K mg "_law_mix" fY ["number","turn"]):au P w K mg base aZ 1 "_law_mix" ["number","turn"] DF:=by
 refine F.fL gO (λvs H Q E h=>?_) (λf cdv A outer s H vs Q E hr h=>?_)
 ·obtain⟨c,k,rfl,_⟩:=h;rfl
 ·obtain⟨c,k,rfl,h0,h1,q⟩:=h;have hu:=aS hr;refine⟨_,(Z.aq (Z.set (i:=2) gO.nd rfl (by right) (Z.op cY (Z.op (Z.bf K rfl) (Z.op (Z.bf K rfl) (Z.op (Z.bf K rfl) (Z.op cY (Z.v 0) Z.int) (Z.op cK (Z.op cK Z.int (Z.v 1)) (Z.v 1))) (Z.op cK Z.int (Z.v 1))) Z.int) Z.int))
   (Z.aq (Z.set (i:=2) gO.nd rfl (by right) (Z.op cY (Z.op cK (Z.v 2) (Z.v 2)) Z.int))
   (Z.aA (Z.ret (Z.op oK (Z.op cY (Z.op (Z.bf K rfl) (Z.op cK (Z.v 2) Z.int) (Z.v 1)) Z.int) Z.int))))),?_⟩
  refine ax λN hN=>?_;walk_at "rz";refine⟨by decide,.inl (by decide),.inr ⟨by lia,by lia⟩,.inl (by decide),by decide,?_⟩
  rw[hN];clear hN N;generalize hx:(c % 1999999927+7001*k*k+40009*k+17) % 2147483629=x;have hx1:0<=x/\x<2147483629:=by rw[<- hx];exact⟨MJ _ (by decide),MK _ (by decide)⟩
  refine ax λN hN=>?_;walk_at "rz";refine⟨.inl ⟨by lia,by lia⟩,by decide,?_⟩
  rw[hN];clear hN N;generalize hy:x*x % 2147483587=y;have hy1:0<=y/\y<2147483587:=by rw[<- hy];exact⟨MJ _ (by decide),MK _ (by decide)⟩
  walk_at "rz";exact⟨.inr (by decide),by decide,⟨by decide,by decide⟩,q _⟩
def yP(K:PJ):Sp:=λvs H Q _=>∃(a:Addr) (ns:List Int),vs=[.ref a]/\bB K H a (ns.map V.int)/\∀p dq H',bP H' p dq 0->KB [] H H'->Q (.ref p) H'
theorem C0(T:Txt K mg)(F:HasFn K mg "_law_deck" dP ["script"]):au P w K mg base aZ 1 "_law_deck" ["script"] (yP K):=by
 refine F.fL nO (λvs H Q E h=>?_) (λf cdv A outer s H vs Q E hr h=>?_)
 ·obtain⟨a,ns,rfl,_⟩:=h;rfl
 ·obtain⟨a,ns,rfl,hS,q⟩:=h;have hu:=aS hr;refine⟨_,(Z.aA (Z.ret (Z.lst (Z.cons (Z.comp (osc:=af dP) (ON:=["script"]) (own:=["cell"]) (N:=["cell","script"]) ⟨rfl,by decide +kernel,rfl,by decide +kernel,by decide +kernel,by decide +kernel,by decide +kernel,by decide +kernel⟩ rfl rfl rfl (Z.any K rfl (Z.slice (Z.Dx K rfl) (Z.v 0) Z.Cb (Z.xc Z.int))) (λ_ _ _ _=>(Z.aO (i:=0) (show List.Nodup (["cell","script"]:List Str) by decide +kernel) rfl (by right))) (λ_ _ _ _=>Z.lV) (λ_ _ _ _=>(Z.cb zQ rfl T.ID (by decide +kernel) (Z.cons (Z.v 0) Z.nil)))) (Z.cons Z.int (Z.cons Z.int (Z.cons (Z.op cY (Z.op (Z.bf K rfl) (Z.cb (Z.DW K rfl rfl) rfl T.Av (by decide +kernel) (Z.cons (Z.slice (Z.Dx K rfl) (Z.v 0) Z.Cb (Z.xc Z.int)) Z.nil)) (Z.op cK Z.int (Z.cb (Z.E5 K rfl) rfl T.cU (by decide +kernel) (Z.cons (Z.v 0) Z.nil)))) Z.int) Z.nil))))))),?_⟩
  have ec:eC (ns.map V.int) none (some 63)=iV (ns.take 63):=by
   unfold eC iV;rw[HT.fD,show HT.b_ (ns.map V.int).length (ns.map V.int).length (some 63)=min 63 (ns.map V.int).length from HT.fM _ _ 63,Kc,Nn,Lw,<- N5];congr 1;rw[List.take_eq_take_iff];lia
  have hm:(ns.take 63).length<=63:=by rw[K8];lia
  generalize ns.take 63=ms at ec hm;walk_at "rz";refine⟨a,_,rfl,hS,λc hc=>?_⟩;rw[ec];have k1:KB [] H (upd H c (.lst (iV ms))):=KB.new hc;have s1:upd H c (.lst (iV ms)) c=some (.lst (iV ms)):=aa;generalize upd H c (.lst (iV ms))=H1 at *;simp only[aI s1];refine gj (xs:=iV ms) (Kn (show _<=63 by rw[aR];exact hm) (by decide)) (λD i ys H'=>H' D=some (.lst ys)/\KB [] H1 H'/\H1 D=none/\∃bs:List Int,ys=iV bs/\bs.length=i/\∀b∈bs,0<=b) (λD hD=>⟨aa,KB.new hD,hD,[],rfl,rfl,λb hb=>nomatch hb⟩) (λD i ys H' h=>⟨h.1,by obtain⟨_,_,_,bs,rfl,e,_⟩:=h;rw[aR,e]⟩) (λD i ys H' h=>bB.of (h.2.1 _ _ s1 (by simp))) ?_ ?_
  ·rintro D i ys H' x R hx ⟨g1,g2,g3,bs,rfl,g4,g5⟩ k;obtain⟨hi,rfl⟩:=iu hx;walk_at "rz";refine k _ _ g1 ⟨aa,λb o e _=>?_,g3,bs++[_],(fO bs [_]).symm,by rw[Ke,g4];rfl,λb hb=>?_⟩
   ·rw[ae (ao e g3)];exact g2 b o e (by simp)
   ·rcases KJ.mp hb with z|z
    ·exact g5 b z
    ·rw[Ku.mp z];split<;>lia
  ·rintro D ys H' ⟨g1,g2,g3,bs,rfl,g4,g5⟩;rw[aR] at g4;refine⟨a,_,rfl,(k1.trans g2).IA (by simp) hS,λd hd=>?_⟩
   rw[ec];have k2:KB [] H' (upd H' d (.lst (iV ms))):=KB.new hd;have s2:upd H' d (.lst (iV ms)) d=some (.lst (iV ms)):=aa;generalize upd H' d (.lst (iV ms))=H2 at *;have kk:=(k1.trans g2).trans k2;refine⟨d,ms,rfl,bB.of s2,.ref a,_,rfl,.inl ⟨_,kk.IA (by simp) hS,rfl⟩,.inl (by decide),by decide,by decide,λp hp=>?_⟩
   have gD:=k2 _ _ g1 (by simp)
   exact q p D _ ⟨bs,0,0,_,aa,by rw[ae (ao gD hp)];exact gD,g5,by decide,by lia,by lia,by decide,by decide⟩ (kk.trans (KB.new hp))
noncomputable def ft:Sp:=λvs H Q _=>∃(p dq:Addr) (m:Int) (n:Nat),vs=[.ref p,.int m]/\bP H p dq n/\n<2^50/\0<m/\m<2^30/\∀(v:Nat) H',(v:Int)<m->bP H' p dq (n+1)->KB [p,dq] H H'->Q (.int (v:Nat)) H'
theorem BW(T:Txt K mg)(F:HasFn K mg "_law_draw" fi ["deck","most"])(h_law_mix:au P w K mg base aZ 1 "_law_mix" ["number","turn"] DF):au P w K mg base aZ 2 "_law_draw" ["deck","most"] ft:=by
 refine F.fL iD (λvs H Q E h=>?_) (λf cdv A outer s H vs Q E hr h=>?_)
 ·obtain⟨p,dq,m,n,rfl,_⟩:=h;rfl
 ·obtain⟨p,c,m,n,rfl,⟨cells,i,t,z,hp,hc,hn0,i0,i1,k63,t0,t1⟩,hn,hm0,hm1,q⟩:=h;have hu:=aS hr;have hcp:c≠p:=by
   rintro rfl;rw[hp] at hc
   cases cells<;>cases hc
  have sp:=aI hp;have fin:∀(a:Int) (H':Hp),bP H' p c (n+1)->KB [p,c] H H'->Q (.int (a % m)) H':=λa H' D k=>by
   have h0:=MJ a (Int.ne_of_gt hm0);have h1:=MK a hm0;have:=q (a % m).toNat H' (by lia) D k
   rwa [Int.toNat_of_nonneg h0] at this
  refine⟨_,(Z.aq (Z.asg (Z.op (Z.bf K rfl) (Z.ix (Z.aP K rfl hu) (Z.v 0) Z.int) Z.int) (Z.pJ (Z.v 0) Z.int))
   (Z.aq (Z.eF (Z.bu b6 (Z.ix (Z.aP K rfl hu) (Z.v 0) Z.int) (Z.cb (Z.c_ K rfl) rfl T.cU (by decide +kernel) (Z.cons (Z.ix (Z.aP K rfl hu) (Z.v 0) Z.int) Z.nil))) (Z.aA (Z.ret (Z.op cY (Z.fn h_law_mix (hr.mono (by decide)) rfl az (Z.cons (Z.ix (Z.aP K rfl hu) (Z.v 0) Z.int) (Z.cons (Z.ix (Z.aP K rfl hu) (Z.v 0) Z.int) Z.nil))) (Z.v 1)))) Z.bU)
   (Z.aq (Z.set (i:=2) iD.nd rfl (by right) (Z.ix (Z.aP K rfl hu) (Z.ix (Z.aP K rfl hu) (Z.v 0) Z.int) (Z.ix (Z.aP K rfl hu) (Z.v 0) Z.int)))
   (Z.aq (Z.eF (Z.bu hZ (Z.v 2) (Z.op rK Z.int Z.int)) (Z.aq (Z.asg (Z.op (Z.bf K rfl) (Z.ix (Z.aP K rfl hu) (Z.v 0) Z.int) Z.int) (Z.pJ (Z.v 0) Z.int))
   (Z.aA (Z.ret (Z.op cY (Z.fn h_law_mix (hr.mono (by decide)) rfl az (Z.cons (Z.v 2) (Z.cons (Z.ix (Z.aP K rfl hu) (Z.v 0) Z.int) Z.nil))) (Z.v 1))))) Z.bU)
   (Z.aq (Z.asg (Z.op oK (Z.v 2) (Z.v 1)) (Z.pJ (Z.ix (Z.aP K rfl hu) (Z.v 0) Z.int) (Z.ix (Z.aP K rfl hu) (Z.v 0) Z.int)))
   (Z.aA (Z.ret (Z.op cY (Z.v 2) (Z.v 1))))))))),?_⟩
  have x1:jP 4 1=some 1:=by decide
  have x2:jP 4 2=some 2:=by decide
  refine ax λN hN=>?_;exists sp,hp,x2;have k1:KB [p,c] H (upd H p (.lst [.ref c,.int i,.int (t+1),.int z])):=KB.set (by simp)
  have p1:upd H p (.lst [.ref c,.int i,.int (t+1),.int z]) p=_:=aa;have c1:upd H p (.lst [.ref c,.int i,.int (t+1),.int z]) c=some (.lst (iV cells)):=by rw[ae hcp];exact hc
  generalize upd H p (.lst [.ref c,.int i,.int (t+1),.int z])=H1 at *;have s1:=aI p1;have sc:=aI c1;rw[hN];clear hN N;refine ax λN hN=>?_;exists s1,sc,aR;by_cases e1:i=(cells.length:Nat)
  ·exists Kj e1,s1;refine⟨_,_,rfl,by lia,by lia,λv=>?_⟩
   walk_at "rz";exact⟨hm0,fin v H1 ⟨cells,i,t+1,z,p1,c1,hn0,i0,i1,k63,by lia,by lia⟩ k1⟩
  ·rw[Ki e1,hN];clear hN N;obtain⟨j,rfl⟩:∃j:Nat,i=(j:Int):=⟨i.toNat,by lia⟩
   have hj:j<cells.length:=by lia
   have aj:=DY hj;have hv0:=hn0 _ (K1 hj);refine ax λN hN=>?_;exists s1,sc,aj;generalize cells[j]=v at *;rw[hN];clear hN N;refine ax λN hN=>?_;walk_at "rz";refine⟨⟨by decide,by decide,by decide⟩,?_⟩
   by_cases e2:v<10^(18:Int).toNat
   ·rw[Kj e2];exists s1,p1,x1;have k2:KB [p,c] H1 (upd H1 p (.lst [.ref c,.int ((j:Int)+1),.int (t+1),.int z])):=KB.set (by simp)
    have p2:upd H1 p (.lst [.ref c,.int ((j:Int)+1),.int (t+1),.int z]) p=_:=aa;have c2:upd H1 p (.lst [.ref c,.int ((j:Int)+1),.int (t+1),.int z]) c=some (.lst (iV cells)):=by rw[ae hcp];exact c1
    generalize upd H1 p (.lst [.ref c,.int ((j:Int)+1),.int (t+1),.int z])=H2 at *;refine⟨_,_,rfl,by lia,by lia,λv=>?_⟩
    walk_at "rz";exact⟨hm0,fin v H2 ⟨cells,(j:Int)+1,t+1,z,p2,c2,hn0,by lia,by lia,k63,by lia,by lia⟩ (k1.trans k2)⟩
   ·rw[Ki e2,hN];clear hN N;have xj:jP (iV cells).length (j:Int)=some j:=by rw[rA (by lia) (by rw[aR];lia)];simp
    refine ax λM hM=>?_;exists s1,c1,xj;refine⟨⟨hm0,by lia⟩,?_⟩
    rw[Ee];have k2:KB [p,c] H1 (upd H1 c (.lst (iV (cells.set j (v / m))))):=KB.set (by simp)
    have c2:upd H1 c (.lst (iV (cells.set j (v / m)))) c=_:=aa;have p2:upd H1 c (.lst (iV (cells.set j (v / m)))) p=_:=(ae hcp.symm).trans p1;generalize upd H1 c (.lst (iV (cells.set j (v / m))))=H2 at *;rw[hM];clear hM M;walk_at "rz";refine⟨hm0,fin v H2 ⟨cells.set j (v / m),j,t+1,z,p2,c2,λx hx=>?_,by lia,by rw[Ld];lia,by rw[Ld];exact k63,by lia,by lia⟩ (k1.trans k2)⟩
    rcases Lr hx with hx|rfl
    ·exact hn0 x hx
    ·exact Int.ediv_nonneg hv0 (by lia)
theorem Ii(l:List Nat)(a:Nat):(iV (nZ l)).eraseIdx a=iV (nZ (l.eraseIdx a)):=by
 unfold iV nZ;simp only[NF,Kv,N5,PB]
theorem yo(l:List Nat)(n k:Nat):je (iV (nZ l)) n (V.int (k:Int))=iV (nZ (je l n k)):=by
 unfold je iV nZ;simp only[Kv,N5,PB,K9]
theorem fP(l:List Nat):(iV (nZ l)).length=l.length:=by rw[aR,bj]
noncomputable def sf(K:PJ):Sp:=λvs H Q _=>∃(p dq:Addr) (m n:Nat),vs=[.ref p,.int (m:Nat)]/\bP H p dq n/\n<2^40/\2<=m/\m<=17/\∀(ls:List Int) (a:Addr) H',bP H' p dq (n+60)->KB [p,dq] H H'->H' a=some (.tup (iV ls))->ls.length=m->jk ls->lN ls=true->Q (.ref a) H'
theorem y0(T:Txt K mg)(F:HasFn K mg "_law_lengths" dn ["deck","many"])(h_law_draw:au P w K mg base aZ 2 "_law_draw" ["deck","most"] ft):au P w K mg base aZ 3 "_law_lengths" ["deck","many"] (sf K):=by
 refine F.fL cB (λvs H Q E h=>?_) (λf cdv A outer s H vs Q E hr h=>?_)
 ·obtain⟨p,dq,m,n,rfl,_⟩:=h;rfl
 ·have hu:=aS hr;obtain⟨p,dq,m,n,rfl,hd,hn,hm2,hm,q⟩:=h;refine⟨_,(Z.aq (Z.set (i:=2) cB.nd rfl (by right) (Z.lst (Z.cons Z.int Z.nil)))
   (Z.aq (Z.hV KR rfl (Z.xl rfl T.e_ (Z.cons (Z.op cW (Z.v 1) Z.int) Z.nil)) (Z.aO (i:=3) cB.nd rfl (by right)) (Z.aq (Z.set (i:=4) cB.nd rfl (by right) (Z.op (Z.bf K rfl) (Z.bm K rfl PySem.F.plainAttrs_list PySem.F.slot_list_pop PySem.F.type_list_pop Aa (Z.v 2) (Z.cons (Z.fn h_law_draw (hr.mono (by decide)) rfl az (Z.cons (Z.v 0) (Z.cons (Z.cb (Z.c_ K rfl) rfl T.cU (by decide +kernel) (Z.cons (Z.v 2) Z.nil)) Z.nil))) Z.nil)) Z.int))
   (Z.aq (Z.expr (Z.bm K rfl PySem.F.plainAttrs_list PySem.F.slot_list_insert PySem.F.type_list_insert mR (Z.v 2) (Z.cons (Z.fn h_law_draw (hr.mono (by decide)) rfl az (Z.cons (Z.v 0) (Z.cons (Z.op (Z.bf K rfl) (Z.cb (Z.c_ K rfl) rfl T.cU (by decide +kernel) (Z.cons (Z.v 2) Z.nil)) Z.int) Z.nil))) (Z.cons (Z.v 4) Z.nil))))
   (Z.aA (Z.expr (Z.bm K rfl PySem.F.plainAttrs_list PySem.F.slot_list_insert PySem.F.type_list_insert mR (Z.v 2) (Z.cons (Z.fn h_law_draw (hr.mono (by decide)) rfl az (Z.cons (Z.v 0) (Z.cons (Z.op (Z.bf K rfl) (Z.cb (Z.c_ K rfl) rfl T.cU (by decide +kernel) (Z.cons (Z.v 2) Z.nil)) Z.int) Z.nil))) (Z.cons (Z.v 4) Z.nil))))))))
   (Z.aq (Z.eF (Z.bu b6 (Z.fn h_law_draw (hr.mono (by decide)) rfl az (Z.cons (Z.v 0) (Z.cons Z.int Z.nil))) Z.int) (Z.aq (Z.set (i:=5) cB.nd rfl (by right) (Z.fn h_law_draw (hr.mono (by decide)) rfl az (Z.cons (Z.v 0) (Z.cons (Z.v 1) Z.nil))))
   (Z.aA (Z.asg (Z.cb (mU rfl) rfl T.DO (by decide +kernel) (Z.cons Z.int (Z.cons (Z.op (Z.bf K rfl) (Z.op (Z.bf K rfl) (Z.ix (Z.aP K rfl hu) (Z.v 2) (Z.v 5)) Z.int) (Z.fn h_law_draw (hr.mono (by decide)) rfl az (Z.cons (Z.v 0) (Z.cons Z.int Z.nil)))) Z.nil))) (Z.pJ (Z.v 2) (Z.v 5))))) Z.bU)
   (Z.aA (Z.ret (Z.ct (Z.cc K rfl) rfl T.cg (by decide +kernel) (Z.cons (Z.v 2) Z.nil))))))),?_⟩
  refine ax λN hN=>?_;walk_at "rz";refine⟨by decide,λd hd0=>?_⟩
  have k1:KB [] H (upd H d (.lst [.int 0])):=KB.new hd0;have s1:upd H d (.lst [.int 0]) d=some (.lst (iV (nZ [0]))):=aa;generalize upd H d (.lst [.int 0])=H1 at *;have nd:=hd.new hd0;have dp:p≠d:=λz=>nd (by simp[z])
  have ddq:dq≠d:=λz=>nd (by simp[z])
  rw[hN];clear hN N;refine ax λN hN=>?_;walk_at "rz";refine⟨by lia,by lia,?_⟩
  have setD:∀{G:Hp} {n:Nat} {o:HO},bP G p dq n->bP (upd G d o) p dq n:=λh=>h.keep (KB.set (ex:=[d]) (by simp)) (by simpa using dp) (by simpa using ddq)
  have keep:∀{G G':Hp},KB [p,dq] H G->KB [p,dq] G G'->KB [p,dq] H G':=λa b=>a.trans b;have keepD:∀{G:Hp} {o:HO},KB [p,dq] H G->KB [p,dq] H (upd G d o):=λa b o e z=>by rw[ae (ao e hd0)];exact a b o e z
  refine eI (λi σ H'=>∃(l:List Nat) (o3 o4:Option V),Pt l/\l.length=i+1/\bP H' p dq (n+3*i)/\KB [p,dq] H H'/\H' d=some (.lst (iV (nZ l)))/\σ=[some (.ref p),some (.int (m:Nat)),some (.ref d),o3,o4,none]) ⟨[0],none,none,⟨by decide,by simp,.inl rfl⟩,rfl,hd.kb k1,k1.all,s1,rfl⟩ ?_ ?_
  ·rintro i σ H' hi ⟨l,o3,o4,hl,hli,hD,hk,gd,rfl⟩;unfold bp;refine ax λM hM=>?_;exists aI gd,fP;refine⟨.inl ⟨rfl,_,bB.of gd⟩,p,dq,_,_,rfl,hD,by lia,by lia,by lia,λa H2 ha D2 k2=>?_⟩
   have ha':a<l.length:=by lia
   have hle:=l.length_eraseIdx_of_lt ha';have gd2:=k2 _ _ gd nd;have six:seqIndex? (a:Int) (iV (nZ l)).length=some a:=by
    rw[fP];unfold seqIndex?;simp;lia
   have enZ:(iV (nZ l))[a]?=some (.int ((l[a]:Nat):Int)):=by unfold iV nZ;rw[Kp,Kp,Ka ha'];rfl
   refine⟨d,_,_,a,_,rfl,rfl,gd2,by lia,by lia,six,enZ,?_⟩
   rw[Ii];have D3:=setD (o:=.lst (iV (nZ (l.eraseIdx a)))) D2;have K3:=keepD (o:=.lst (iV (nZ (l.eraseIdx a)))) (hk.trans k2);have g3:upd H2 d (.lst (iV (nZ (l.eraseIdx a)))) d=_:=aa;generalize upd H2 d (.lst (iV (nZ (l.eraseIdx a))))=H3 at *;walk_at "rz";rw[show ((l[a]:Nat):Int)+1=((l[a]+1:Nat):Int) from rfl,hM];clear hM M;refine ax λM hM=>?_;exists aI g3,fP,hle;refine⟨.inl ⟨rfl,_,bB.of g3⟩,p,dq,_,_,rfl,D3,by lia,by lia,by lia,λv H4 hv D4 k4=>?_⟩
   have g4:=k4 _ _ g3 nd;refine⟨d,_,_,_,rfl,rfl,g4,by lia,by lia,Lm (show _<=20 by rw[fP];lia) (by decide),?_⟩
   rw[fP,yo,hle];generalize hl2:je (l.eraseIdx a) (min (v:Int).toNat (l.length-1)) (l[a]+1)=l2;have le2:l2.length=l.length:=by rw[<- hl2,B8,hle];lia
   have pe2:l2.Perm ((l[a]+1)::l.eraseIdx a):=by rw[<- hl2];exact qB ..
   clear hl2;have D5:=setD (o:=.lst (iV (nZ l2))) D4;have K5:=keepD (o:=.lst (iV (nZ l2))) (K3.trans k4);have g5:upd H4 d (.lst (iV (nZ l2))) d=_:=aa;generalize upd H4 d (.lst (iV (nZ l2)))=H5 at *;rw[hM];clear hM M;dsimp only;refine qU λM hM=>?_;exists aI g5,fP;refine⟨.inl ⟨rfl,_,bB.of g5⟩,p,dq,_,_,rfl,D5,by lia,by lia,by lia,λv H6 hv D6 k6=>?_⟩
   have g6:=k6 _ _ g5 nd;refine⟨d,_,_,_,rfl,rfl,g6,by lia,by lia,Lm (show _<=20 by rw[fP];lia) (by decide),?_⟩
   rw[fP,yo];obtain⟨hP3,hL3⟩:=hl.next ha' (by lia) ((qB l2 (min (v:Int).toNat l2.length) (l[a]+1)).trans (List.Perm.cons _ pe2))
   rw[hM];exact⟨_,some _,some _,hP3,by lia,(setD D6).mono (by lia),keepD (K5.trans k6),aa,rfl⟩
  ·rintro σ H' ⟨l,o3,o4,hl,hli,hD,hk,gd,rfl⟩;have hlm:l.length=m:=by lia
   show N _ _;rw[hN];clear hN N;have h1:∀x∈l,1<=x:=by
    rcases hl.one with e|e
    ·exfalso;rw[e] at hlm;simp at hlm;lia
    ·exact e
   have fin:∀(l:List Nat) (G:Hp),G d=some (.lst (iV (nZ l)))->KB [p,dq] H G->l.length=m->(∀x∈l,1<=x/\x<=20)->Kr.ks 40 l<=2^40->bP G p dq (n+60)->∀t,G t=none->Q (.ref t) (upd G t (.tup (iV (nZ l)))):=λl G hg hK a b c e t ht=>by
    refine q (nZ l) t _ (e.kb (KB.new ht)) (hK.trans (KB.new ht)) aa (by rw[bj];exact a) ⟨by rw[bj];lia,by rw[bj];lia,λx hx=>?_⟩ (EA c)
    obtain⟨y,hy,rfl⟩:=KZ.mp hx;have:=b y hy;exact⟨by lia,by lia⟩
   refine ax λN hN=>?_;walk_at "rz";refine⟨p,dq,2,_,rfl,hD,by lia,by decide,by decide,λv H2 hv D2 k2=>?_⟩
   have g2:=k2 _ _ gd nd;by_cases c:(v:Int)=0
   ·exists Kj c;refine⟨p,dq,(m:Nat),_,rfl,D2,by lia,by lia,by lia,λa H3 ha D3 k3=>?_⟩
    have g3:=k3 _ _ g2 nd;have ha':a<l.length:=by lia
    have ea:cL (iV (nZ l)) (a:Int)=some (.int ((l[a]:Nat):Int)):=b7 (by unfold iV nZ;rw[Kp,Kp,Ka ha'];rfl)
    exists aI g3,ea;refine⟨p,dq,5,_,rfl,D3,by lia,by decide,by decide,λv H4 hv D4 k4=>?_⟩
    have g4:=k4 _ _ g3 nd;obtain⟨nz,enz,hnz⟩:∃nz:Nat,(if ((l[a]:Nat):Int)+1+(v:Int)<20 then ((l[a]:Nat):Int)+1+(v:Int) else 20)=(nz:Int)/\l[a]<=nz/\nz<=20:=by
     have:=hl.le _ (K1 ha');by_cases c:((l[a]:Nat):Int)+1+(v:Int)<20
     ·rw[Kj c];exact⟨l[a]+1+v,by lia,by lia,by lia⟩
     ·rw[Ki c];exact⟨20,rfl,by lia,by lia⟩
    have ei:jP (iV (nZ l)).length (a:Int)=some a:=by rw[fP,rA (by lia) (by lia)];simp
    exists enz,g4,ei;have es:(iV (nZ l)).set a (.int (nz:Int))=iV (nZ (l.set a nz)):=by unfold iV nZ;rw[Mw,Mw]
    rw[es];have D5:=setD (o:=.lst (iV (nZ (l.set a nz)))) D4;have K5:=keepD (o:=.lst (iV (nZ (l.set a nz)))) ((hk.trans k2).trans (k3.trans k4));have g5:upd H4 d (.lst (iV (nZ (l.set a nz)))) d=_:=aa;generalize upd H4 d (.lst (iV (nZ (l.set a nz))))=H5 at *;rw[hN];clear hN N;exists aI g5;refine fin _ H5 g5 K5 (by rw[Ld];exact hlm) (λx hx=>?_) (Kn (yE ha' hnz.1) (OD hl.ks)) (D5.mono (by lia))
    rcases Lr hx with hx|rfl
    ·exact⟨h1 x hx,by have:=hl.le x hx;lia⟩
    ·exact⟨by have:=h1 _ (K1 ha');lia,hnz.2⟩
   ·exists Ki c;rw[hN];clear hN N;exists aI g2;exact fin l H2 g2 (hk.trans k2) hlm (λx hx=>⟨h1 x hx,by have:=hl.le x hx;lia⟩) (OD hl.ks) (D2.mono (by lia))
noncomputable def vd(H:Hp)(ca:Addr)(cd:List (List (List Nat))):Prop:=∃a0 a1 a2,H ca=some (.lst [.ref a0,.ref a1,.ref a2])/\H a0=some (.tup (wV (cd.getD 0 [])))/\H a1=some (.tup (wV (cd.getD 1 [])))/\H a2=some (.tup (wV (cd.getD 2 [])))
theorem vd.keep{ca:Addr}{cd:List (List (List Nat))}(h:vd H ca cd)(k:KB ex H H')(n:ca∉ex)(hx:∀b∈ex,∀xs,H b≠some (.tup xs)):vd H' ca cd:=by
 obtain⟨a0,a1,a2,h1,h2,h3,h4⟩:=h;exact⟨a0,a1,a2,k _ _ h1 n,k _ _ h2 λz=>hx _ z _ h2,k _ _ h3 λz=>hx _ z _ h3,k _ _ h4 λz=>hx _ z _ h4⟩
theorem vd.kb{ca:Addr}{cd:List (List (List Nat))}(h:vd H ca cd)(k:KB [] H H'):vd H' ca cd:=h.keep k (by simp) (by simp)
def IP(H:Hp)(v:V):Option (PV×Nat)->Prop
 |none=>v=.aX
 |some x=>∃t,v=.ref t/\H t=some (.tup [x.1.v x.2,.int (x.2:Nat)])
theorem HJ{b:Nat}(h:b<8):cL [V.str "a",.str "b",.str "c",.str "d",.str "e",.str "f",.str "g",.str "h"] (b:Int)=some (.str (cS b)):=by
 show cL (GD.map V.str) (b:Int)=_;exact b7 (by rw[Kp,(xI h).1];rfl)
noncomputable def qC(K:PJ):Sp:=λvs H Q _=>∃(ca:Addr) (cd:List (List (List Nat))) (z:List Nat) (p:Nat) (k:Kd),vs=[.str k.s,.ref ca,.str (wd z),.int (p:Nat)]/\vd H ca cd/\vo cd/\e9 z/\z.length<=1000000/\∀v H',KB [] H H'->IP H' v (mi cd z p k)->Q v H'
theorem wb(T:Txt K mg)(F:HasFn K mg "part_at" gX ["kind","codes","bits","place"])(hcoded_at:au P w K mg base aZ 2 "coded_at" ["code","bits","place"] (iE K))(hnumber_at:au P w K mg base aZ 3 "number_at" ["code","bits","place"] (uU K))(hgoal_at:au P w K mg base aZ 3 "goal_at" ["bits","place"] (oZ K)):au P w K mg base aZ 4 "part_at" ["kind","codes","bits","place"] (qC K):=by
 obtain⟨u1,hg_OF_CLASSES,hr_OF_CLASSES⟩:=T.iL;obtain⟨u2,hg_OF_BOXES,hr_OF_BOXES⟩:=T.kh;obtain⟨aB,hg_BOXES,sB⟩:=T.jK;have hr_BOXES:RelV (.ref aB) (.ref aB):=rfl;refine F.fL lL (λvs H Q E h=>?_) (λf cdv A outer s H vs Q E hr h=>?_)
 ·obtain⟨ca,cd,z,p,k,rfl,_⟩:=h;rfl
 ·have hu:=aS hr;obtain⟨ca,cd,z,p,k,rfl,hc,hR,hb,hz,q⟩:=h;refine⟨_,(Z.aq (Z.eF (Z.bu b6 (Z.v 0) Z.str) (Z.aA (Z.ret (Z.fn hnumber_at (hr.mono (by decide)) rfl az (Z.cons (Z.ix (Z.aP K rfl hu) (Z.v 1) (Z.glob rfl hg_OF_CLASSES hr_OF_CLASSES)) (Z.cons (Z.v 2) (Z.cons (Z.v 3) Z.nil)))))) Z.bU)
   (Z.aq (Z.eF (Z.bu b6 (Z.v 0) Z.str) (Z.aA (Z.ret (Z.fn hgoal_at (hr.mono (by decide)) rfl az (Z.cons (Z.v 2) (Z.cons (Z.v 3) Z.nil))))) Z.bU)
   (Z.aq (Z.set (i:=4) lL.nd rfl (by right) (Z.fn hcoded_at (hr.mono (by decide)) rfl az (Z.cons (Z.ix (Z.aP K rfl hu) (Z.v 1) (Z.glob rfl hg_OF_BOXES hr_OF_BOXES)) (Z.cons (Z.v 2) (Z.cons (Z.v 3) Z.nil)))))
   (Z.aA (Z.ret (Z.BA (Z.bu eG (Z.v 4) Z.aX) Z.aX (Z.tup (Z.cons (Z.ix (Z.hW K rfl) (Z.glob rfl hg_BOXES hr_BOXES) (Z.ix (Z.aP K rfl hu) (Z.v 4) Z.int)) (Z.cons (Z.ix (Z.aP K rfl hu) (Z.v 4) Z.int) Z.nil))))))))),?_⟩
  obtain⟨c0,c1,c2,rfl,l0,l1,l2⟩:=hR.eW.ex;have n1:=(hR.pf c1 (by simp)).ne
  have n2:=(hR.pf c2 (by simp)).ne
  obtain⟨a0,a1,a2,g,g0,g1,g2⟩:=hc;have sg:=aI g;refine ax λN hN=>?_
  cases k with
  |box =>
   replace q:∀v H',KB [] H H'->IP H' v ((jE c2 z p).map λx=>(.box x.1,x.2))->Q v H':=q
   exists Ki (by decide +kernel:¬ Kd.s .box=Str.ofString "number")
   rw[hN];clear hN N;refine ax λN hN=>?_;exists Ki (by decide +kernel:¬ Kd.s .box=Str.ofString "goal")
   rw[hN];clear hN N;refine ax λN hN=>?_;exists sg;refine⟨a2,c2,z,p,rfl,aY.of g2,n2,by lia,hz,λv H1 k1 o1=>?_⟩
   rw[hN];clear hN N
   cases c:jE c2 z p with
   |none =>
    rw[c] at q o1;obtain rfl:v=.aX:=o1;walk_at "rz";exact q _ _ k1 rfl
   |some x =>
    rw[c] at q o1;have hb:=(fu n2 c).1;obtain⟨t,rfl,ht⟩:=o1;exists Ki (show ¬ V.ref t=V.aX from V.noConfusion),aL ht;refine⟨aB,_,_,_,rfl,rfl,sB H1,HJ (show x.1<8 by lia),?_⟩
    exists aL ht;exact⟨by decide,λb2 hb2=>q _ _ (k1.trans (KB.new hb2)) ⟨b2,rfl,aa⟩⟩
  |num =>
   replace q:∀v H',KB [] H H'->IP H' v ((yg c1 z p).map λx=>(.num x.1,x.2))->Q v H':=q
   exists Kj (show Kd.s .num=Str.ofString "number" from rfl),sg;refine⟨a1,c1,z,p,rfl,aY.of g1,n1,by lia,hb,hz,λv H1 k1 o1=>q v H1 k1 ?_⟩
   cases c:yg c1 z p with
   |none=>rw[c] at o1;exact o1
   |some x=>rw[c] at o1;exact o1
  |go =>
   replace q:∀v H',KB [] H H'->IP H' v ((gA z p).map λx=>(.go x.1,x.2))->Q v H':=q
   exists Ki (by decide +kernel:¬ Kd.s .go=Str.ofString "number")
   rw[hN];clear hN N;refine ax λN hN=>?_;exists Kj (show Kd.s .go=Str.ofString "goal" from rfl);refine⟨z,p,rfl,hb,hz,λv H1 k1 o1=>q v H1 k1 ?_⟩
   cases c:gA z p with
   |none=>rw[c] at o1;exact o1
   |some x=>rw[c] at o1;exact o1
noncomputable def IF(H:Hp)(v:V):Option (RW×Nat)->Prop
 |none=>v=.aX
 |some x=>∃t r,v=.ref t/\H t=some (.tup [.ref r,.int (x.2:Nat)])/\H r=some (.tup x.1.v)
noncomputable def ug(K:PJ):Sp:=λvs H Q _=>∃(ca:Addr) (cd:List (List (List Nat))) (z:List Nat) (p:Int),vs=[.ref ca,.str (wd z),.int p]/\vd H ca cd/\vo cd/\e9 z/\z.length<=1000000/\∀v H',KB [] H H'->IF H' v (xq cd z p)->Q v H'
noncomputable def cm:=bX
theorem zL(T:Txt K mg)(F:HasFn K mg "row_at" i4 ["codes","bits","place"])(hcoded_at:au P w K mg base aZ 2 "coded_at" ["code","bits","place"] (iE K))(hpart_at:au P w K mg base aZ 4 "part_at" ["kind","codes","bits","place"] (qC K)):au P w K mg base aZ 5 "row_at" ["codes","bits","place"] (ug K):=by
 obtain⟨u1,hg_OF_WORDS,hr_OF_WORDS⟩:=T.kC;obtain⟨dS,hg_SHAPES,hd0⟩:=T.kJ;have hd_SHAPES:lH K dS cm:=hd0;have hr_SHAPES:RelV (.ref dS) (.ref dS):=rfl;clear hd0;refine F.fL de (λvs H Q E h=>?_) (λf cdv A outer s H vs Q E hr h=>?_)
 ·obtain⟨ca,cd,z,p,rfl,_⟩:=h;rfl
 ·have hu:=aS hr;obtain⟨ca,cd,z,p,rfl,hc,hR,hb,hz,q⟩:=h;refine⟨_,(Z.aq (Z.eF (Z.bu hZ (Z.v 2) Z.int) (Z.aA (Z.ret Z.aX)) Z.bU)
   (Z.aq (Z.set (i:=3) de.nd rfl (by right) (Z.fn hcoded_at (hr.mono (by decide)) rfl az (Z.cons (Z.ix (Z.aP K rfl hu) (Z.v 0) (Z.glob rfl hg_OF_WORDS hr_OF_WORDS)) (Z.cons (Z.v 1) (Z.cons (Z.v 2) Z.nil)))))
   (Z.aq (Z.eF (Z.bu eG (Z.v 3) Z.aX) (Z.aA (Z.ret Z.aX)) Z.bU)
   (Z.aq (Z.set (i:=4) de.nd rfl (by right) (Z.ix (Z.aP K rfl hu) (Z.ct (lh (D:=cm) K rfl rfl) rfl T.sh (by decide +kernel) (Z.cons (Z.glob rfl hg_SHAPES hr_SHAPES) Z.nil)) (Z.ix (Z.aP K rfl hu) (Z.v 3) Z.int)))
   (Z.aq (Z.set (i:=5) de.nd rfl (by right) (Z.lst (Z.cons (Z.v 4) Z.nil)))
   (Z.aq (Z.set (i:=6) de.nd rfl (by right) (Z.ix (Z.aP K rfl hu) (Z.v 3) Z.int))
   (Z.aq (Z.hV KR rfl (Z.seq K rfl (Z.Js K rfl rfl hg_SHAPES hd_SHAPES (Z.v 4))) (Z.aO (i:=7) de.nd rfl (by right)) (Z.aq (Z.set (i:=8) de.nd rfl (by right) (Z.fn hpart_at (hr.mono (by decide)) rfl az (Z.cons (Z.v 7) (Z.cons (Z.v 0) (Z.cons (Z.v 1) (Z.cons (Z.v 6) Z.nil))))))
   (Z.aq (Z.eF (Z.bu eG (Z.v 8) Z.aX) (Z.aA (Z.ret Z.aX)) Z.bU)
   (Z.aq (Z.expr (Z.bm K rfl PySem.F.plainAttrs_list PySem.F.slot_list_append PySem.F.type_list_append cC (Z.v 5) (Z.cons (Z.ix (Z.aP K rfl hu) (Z.v 8) Z.int) Z.nil)))
   (Z.aA (Z.set (i:=6) de.nd rfl (by right) (Z.ix (Z.aP K rfl hu) (Z.v 8) Z.int)))))))
   (Z.aA (Z.ret (Z.tup (Z.cons (Z.ct (Z.cc K rfl) rfl T.cg (by decide +kernel) (Z.cons (Z.v 5) Z.nil)) (Z.cons (Z.v 6) Z.nil)))))))))))),?_⟩
  refine ax λN hN=>?_;by_cases hp:p<0
  ·unfold xq at q;rw[Kj hp] at q;exists Kj hp;exact q _ _ (KB.refl _ _) rfl
  obtain⟨p,rfl⟩:∃p':Nat,p=(p':Int):=⟨p.toNat,by lia⟩
  rw[uQ] at q;exists Ki hp;rw[hN];clear hN N;refine ax λN hN=>?_;obtain⟨c0,c1,c2,rfl,l0,l1,l2⟩:=hR.eW.ex;have n0:=(hR.pf c0 (by simp)).ne
  have hc':=hc;obtain⟨a0,a1,a2,g,g0,g1,g2⟩:=hc';exists aI g;refine⟨a0,c0,z,p,rfl,aY.of g0,n0,by lia,hz,λv H1 k1 o1=>?_⟩
  rw[hN];clear hN N;refine ax λN hN=>?_;unfold AX at q
  replace q:∀v H',KB [] H H'->IF H' v ((jE c0 z p).bind λx=>(qS [c0,c1,c2] z (Bi x.1) x.2).map λy=>(⟨x.1,y.1⟩,y.2))->Q v H':=q
  cases c:jE c0 z p with
  |none =>
   rw[c] at q o1;obtain rfl:v=.aX:=o1;walk_at "rz";exact q _ _ k1 rfl
  |some x =>
   rw[c] at q o1;obtain⟨wi,e⟩:=x;have h9:wi<9:=by have:=(fu n0 c).1;dsimp only at this;lia
   replace q:∀v H',KB [] H H'->IF H' v ((qS [c0,c1,c2] z (Bi wi) e).map λy=>(⟨wi,y.1⟩,y.2))->Q v H':=q
   obtain⟨t,rfl,ht⟩:=o1;dsimp only at ht;exists if_neg (show ¬ V.ref t=V.aX from V.noConfusion);rw[hN];clear hN N;refine ax λN hN=>?_;have ak:cL (cm.map λp=>V.str p.1) (wi:Int)=some (.str (cZ.getD wi (Str.ofString ""))):=b7 (by
    show (cZ.map V.str)[wi]?=_;rw[Kp,Kt,Ka (show wi<cZ.length from h9)];rfl)
   walk_at "rz";refine⟨dS,rfl,hd_SHAPES,by decide,λl hl=>?_⟩
   have k2:KB [] H1 (upd H1 l (.lst (cm.map λp=>V.str p.1))):=KB.new hl;have s2:upd H1 l (.lst (cm.map λp=>V.str p.1)) l=some (.lst (cm.map λp=>V.str p.1)):=aa;generalize upd H1 l (.lst (cm.map λp=>V.str p.1))=H2 at *;have ht2:=k2 _ _ ht (by simp)
   exists aL ht2,aI s2,ak;have h02:KB [] H H2:=k1.trans k2;clear k1 k2 s2 hl ht ak;rw[hN];clear hN N;have hlen:(Bi wi).length<=2:=by
    have:wi=0\/wi=1\/wi=2\/wi=3\/wi=4\/wi=5\/wi=6\/wi=7\/wi=8:=by lia
    rcases this with rfl|rfl|rfl|rfl|rfl|rfl|rfl|rfl|rfl<;>decide
   have e1:=Br h9;generalize hps:Bi wi=ks0 at *;generalize hw9:cZ.getD wi (Str.ofString "")=W at *;refine ax λN hN=>?_;walk_at "rz";refine⟨by decide,λrl hrl=>?_⟩
   have k3:KB [] H2 (upd H2 rl (.lst [.str W])):=KB.new hrl;have s3:upd H2 rl (.lst [.str W]) rl=some (.lst [.str W]):=aa;generalize upd H2 rl (.lst [.str W])=H3 at *;have hrl0:H rl=none:=h02.free (by simp) hrl
   have h03:KB [] H H3:=h02.trans k3;have ht3:=k3 _ _ ht2 (by simp)
   rw[hN];clear hN N;refine ax λN hN=>?_;exists aL ht3;rw[hN];clear hN N;refine ax λN hN=>?_;walk_at "rz";refine⟨W,_,rfl,e1,λpk kt=>?_⟩;have st:∀H,aY K H pk ((ks0.map Kd.s).map V.str):=λH=>.inr kt;refine .inr ⟨⟨_,st H3⟩,?_⟩;have kL:∀{H4 H5:Hp},KB [rl] H4 H5->KB [rl] H H4->KB [] H H5:=λa b c o e _=>a _ _ (b _ _ e (by simpa using ao e hrl0)) (by simpa using ao e hrl0)
   refine AQ (xs:=(ks0.map Kd.s).map V.str) (λi σ H'=>∃(acc:List (PV×Nat)) (a:Nat) (o7 o8:Option V),i<=ks0.length/\(qS [c0,c1,c2] z ks0 e=(qS [c0,c1,c2] z (ks0.drop i) a).map λy=>(acc++y.1,y.2))/\acc.length=i/\H' rl=some (.lst (.str W::acc.map λx=>x.1.v x.2))/\KB [] H H'/\σ=[some (.ref ca),some (.str (wd z)),some (.int (p:Nat)),some (.ref t),some (.str W),some (.ref rl),some (.int (a:Nat)),o7,o8]) ⟨[],e,none,none,Kz _,by rw[Lw];cases qS [c0,c1,c2] z ks0 e<;>rfl,rfl,s3,h03,rfl⟩ (λi σ H' _ _=>st H') ?_ ?_
   ·rintro i x σ H' hx ⟨acc,a,o7,o8,hi,ep,hacc,hrl',h0',rfl⟩;have hi2:i<ks0.length:=by have:=(Kf.mp hx).1;rw[Kc,Kc] at this;exact this
    obtain rfl:x=.str (ks0[i]).s:=by
     rw[Kp,Kp,Ka hi2] at hx;exact (Option.some.inj hx).symm
    rw[Lq hi2,qS] at ep;generalize ks0[i]=k at *;unfold bp;refine ax λM hM=>?_;walk_at "rz";refine⟨ca,[c0,c1,c2],z,a,k,rfl,hc.kb h0',hR,hb,hz,λv H5 k5 o5=>?_⟩;rw[hM];clear hM M;have h05:=h0'.trans k5
    cases c3:mi [c0,c1,c2] z a k with
    |none =>
     rw[c3] at ep o5;obtain rfl:v=.aX:=o5;have ep':qS [c0,c1,c2] z ks0 e=none:=ep;rw[ep'] at q;refine ax λM hM=>?_;walk_at "rz";exact q _ _ h05 rfl
    |some x =>
     rw[c3] at ep o5;obtain⟨t5,rfl,ht5⟩:=o5;refine ax λM hM=>?_;exists Ki (show ¬ V.ref t5=V.aX from V.noConfusion);rw[hM];clear hM M;refine ax λM hM=>?_;exists aL ht5;have hr5:=k5 _ _ hrl' (by simp)
     refine⟨.inl ⟨rfl,_,bB.of hr5⟩,rl,_,_,rfl,rfl,hr5,KI (show _<4 by rw[Kq,Kc];lia) (by decide),?_⟩
     rw[hM];clear hM M;have nt:t5≠rl:=λz=>by rw[z,hr5] at ht5;cases ht5
     have e6:(V.str W::acc.map λx=>x.1.v x.2)++[x.1.v x.2]=.str W::(acc++[x]).map λx=>x.1.v x.2:=by rw[Kv];rfl
     rw[e6];have s6:upd H5 rl (.lst (.str W::(acc++[x]).map λx=>x.1.v x.2)) rl=_:=aa;have ht6:=(ae (o:=HO.lst (.str W::(acc++[x]).map λx=>x.1.v x.2)) (H:=H5) nt).trans ht5;have h06:KB [] H (upd H5 rl (.lst (.str W::(acc++[x]).map λx=>x.1.v x.2))):=λc o e _=>by rw[ae (ao e hrl0)];exact h05 _ _ e (by simp)
     generalize upd H5 rl (.lst (.str W::(acc++[x]).map λx=>x.1.v x.2))=H6 at *;dsimp only;refine qU λM hM=>?_;exists aL ht6;rw[hM];refine⟨acc++[x],x.2,some _,some _,hi2,?_,by rw[List.length_append,hacc];rfl,s6,h06,rfl⟩
     rw[ep,Nc]
     cases qS [c0,c1,c2] z (ks0.drop (i+1)) x.2 with
     |none=>rfl
     |some y=>show some (acc++(x::y.1),y.2)=some ((acc++[x])++y.1,y.2);rw[K2];rfl
   ·rintro σ H' ⟨acc,a,o7,o8,_,ep,_,hrl',h0',rfl⟩;rw[Kc,Kc,N8] at ep;have ep':qS [c0,c1,c2] z ks0 e=some (acc,a):=by rw[ep];show some (acc++[],a)=_;rw[Lb]
    rw[ep'] at q;show N _ _;rw[hN];clear hN N;exists aI hrl';intro rt hrt;have k7:KB [] H' (upd H' rt (.tup (.str W::acc.map λx=>x.1.v x.2))):=KB.new hrt;have s7:upd H' rt (.tup (.str W::acc.map λx=>x.1.v x.2)) rt=_:=aa;generalize upd H' rt (.tup (.str W::acc.map λx=>x.1.v x.2))=H7 at *;refine⟨by decide,λtt htt=>q _ _ ((h0'.trans k7).trans (KB.new htt)) ⟨tt,rt,rfl,aa,?_⟩⟩
    rw[ae (ao s7 htt),s7];show some (HO.tup (V.str W::_))=some (.tup (RW.v ⟨wi,acc⟩));unfold RW.v;rw[hw9]
def NT(ex:List Addr)(H:Hp):Prop:=∀b∈ex,∀xs,H b≠some (.tup xs)
theorem NT.nil(H:Hp):NT [] H:=λb hb=>nomatch hb
theorem bP.nt{p:Addr}{n:Nat}(h:bP H p dq n):NT [p,dq] H:=λb hb xs e=>by
 obtain⟨ys,e'⟩:=h.lst b hb;rw[e] at e';cases e'
noncomputable def vG(H:Hp)(b:Addr)(bk:List (List Int)):Prop:=∃as:List Addr,H b=some (.tup (as.map V.ref))/\as.length=bk.length/\∀(i:Nat) (a:Addr),as[i]?=some a->H a=some (.tup (iV (bk.getD i [])))
theorem vG.keep{b:Addr}{bk:List (List Int)}(h:vG H b bk)(k:KB ex H H')(hx:NT ex H):vG H' b bk:=by
 obtain⟨as,h1,h2,h3⟩:=h;exact⟨as,k _ _ h1 λz=>hx _ z _ h1,h2,λi a e=>k _ _ (h3 i a e) λz=>hx _ z _ (h3 i a e)⟩
theorem vG.kb{b:Addr}{bk:List (List Int)}(h:vG H b bk)(k:KB [] H H'):vG H' b bk:=h.keep k (NT.nil _)
theorem rn{l:List α}(h:l.length=3):∃a b c,l=[a,b,c]:=by
 rcases l with _|⟨a,_|⟨b,_|⟨c,_|⟨d,l⟩⟩⟩⟩<;>first|exact⟨_,_,_,rfl⟩ | (exfalso;revert h;simp)
noncomputable def nq(K:PJ):Sp:=λvs H Q _=>∃(b:Addr) (bk:List (List Int)),vs=[.ref b]/\vG H b bk/\Bk bk/\∀ca H',H ca=none->KB [] H H'->vd H' ca (fT bk)->Q (.ref ca) H'
theorem As(T:Txt K mg)(F:HasFn K mg "codes_of" eE ["book"])(hcode_of:au P w K mg base aZ 4 "code_of" ["lengths"] (yl K)):au P w K mg base aZ 6 "codes_of" ["book"] (nq K):=by
 refine F.fL qi (λvs H Q E h=>?_) (λf cdv A outer s H vs Q E hr h=>?_)
 ·obtain⟨b,bk,rfl,_⟩:=h;rfl
 ·have hu:=aS hr;obtain⟨b,bk,rfl,hb,hB,q⟩:=h;obtain⟨as,hb1,hb2,hb3⟩:=hb;obtain⟨l0,l1,l2,rfl,_,_,_,hl⟩:=hB;refine⟨_,(Z.aA (Z.ret (Z.comp (osc:=af eE) (ON:=["book"]) (own:=["lengths"]) (N:=["lengths","book"]) ⟨rfl,by decide +kernel,rfl,by decide +kernel,by decide +kernel,by decide +kernel,by decide +kernel,by decide +kernel⟩ rfl rfl rfl (Z.any K rfl (Z.v 0)) (λ_ _ _ _=>(Z.aO (i:=0) (show List.Nodup (["lengths","book"]:List Str) by decide +kernel) rfl (by right))) (λ_ _ _ _=>Z.lV) (λ_ _ _ _=>(Z.fn hcode_of (hr.mono (by decide)) rfl az (Z.cons (Z.v 0) Z.nil)))))),?_⟩
  exists aL hb1;refine cq (xs:=as.map V.ref) (Kn (show _<=3 by rw[Kc,hb2];exact Kk 3) (by decide)) (λD i ys H'=>H D=none/\H' D=some (.lst ys)/\KB [] H H'/\∃cs:List Addr,ys=cs.map V.ref/\cs.length=i/\∀(j:Nat) (c:Addr),cs[j]?=some c->H' c=some (.tup (wV (wordsOf Cw.gB (List.getD [l0,l1,l2] j []))))) (λD hD=>⟨hD,aa,KB.new hD,[],rfl,rfl,λj c e=>nomatch e⟩) (λD i ys H' h=>⟨h.2.1,by obtain⟨_,_,_,cs,rfl,e,_⟩:=h;rw[Kc,e]⟩) (λD i ys H' h=>aY.of (h.2.2.1 _ _ hb1 (by simp))) ?_ ?_
  ·rintro D i ys H' x R hx ⟨g0,g1,g2,cs,rfl,g4,g5⟩ kk;obtain⟨a,ea,rfl⟩:∃a,as[i]?=some a/\x=.ref a:=by
    rw[Kp] at hx;obtain⟨a,e,rfl⟩:=KD.mp hx;exact⟨a,e,rfl⟩
   have hi:i<3:=by have:=(Kf.mp ea).1;rw[hb2] at this;exact this
   have hm:List.getD [l0,l1,l2] i []∈[l0,l1,l2]:=by
    rcases lM hi with rfl|rfl|rfl<;>simp
   walk_at "rz";refine⟨a,_,rfl,g2 _ _ (hb3 i a ea) (by simp),(hl _ hm).1,(hl _ hm).2,λc H5 k5 e5=>?_⟩
   have gD:=k5 _ _ g1 (by simp)
   have cD:c≠D:=λz=>by rw[z,gD] at e5;cases e5
   refine kk _ _ gD ⟨g0,aa,λu o e _=>by rw[ae (ao e g0)];exact k5 _ _ (g2 _ _ e (by simp)) (by simp),cs++[c],by rw[Kv];rfl,by rw[Ke,g4];rfl,λj d e=>?_⟩
   rcases Lh j cs.length with hj|hj
   ·rw[KC hj] at e;have e6:=k5 _ _ (g5 j d e) (by simp)
    rw[ae (λz=>by rw[z,gD] at e6;cases e6)];exact e6
   ·rw[K4 hj] at e;obtain⟨hj2,rfl⟩:=Kf.mp e;have:j=i:=by simp at hj2;lia
    subst this;rw[ae (show _≠D by simpa using cD)]
    simpa using e5
  ·rintro D ys H' ⟨g0,g1,g2,cs,rfl,g4,g5⟩;rw[Kc,hb2] at g4;obtain⟨c0,c1,c2,rfl⟩:=rn g4;exact q D H' g0 g2 ⟨c0,c1,c2,g1,g5 0 c0 rfl,g5 1 c1 rfl,g5 2 c2 rfl⟩
noncomputable def yC(K:PJ):Sp:=λvs H Q _=>∃(p dq:Addr) (n:Nat),vs=[.ref p]/\bP H p dq n/\n<2^38/\∀(bk:List (List Int)) (b:Addr) H',bP H' p dq (n+200)->KB [p,dq] H H'->vG H' b bk->Bk bk->Q (.ref b) H'
theorem Bo(T:Txt K mg)(F:HasFn K mg "_law_book" dQ ["deck"])(h_law_draw:au P w K mg base aZ 2 "_law_draw" ["deck","most"] ft)(h_law_lengths:au P w K mg base aZ 3 "_law_lengths" ["deck","many"] (sf K)):au P w K mg base aZ 4 "_law_book" ["deck"] (yC K):=by
 refine F.fL nH (λvs H Q E h=>?_) (λf cdv A outer s H vs Q E hr h=>?_)
 ·obtain⟨p,dq,n,rfl,_⟩:=h;rfl
 ·have hu:=aS hr;obtain⟨p,dq,n,rfl,hd,hn,q⟩:=h;refine⟨_,(Z.aq (Z.eF (Z.bu b6 (Z.fn h_law_draw (hr.mono (by decide)) rfl az (Z.cons (Z.v 0) (Z.cons Z.int Z.nil))) Z.int) (Z.aA (Z.ret (Z.tup (Z.cons (Z.op (Y.nJ K rfl) (Z.tup (Z.cons Z.int Z.nil)) Z.int) (Z.cons (Z.op (Y.nJ K rfl) (Z.tup (Z.cons Z.int Z.nil)) Z.int) (Z.cons (Z.op (Y.nJ K rfl) (Z.tup (Z.cons Z.int Z.nil)) Z.int) Z.nil)))))) Z.bU)
   (Z.aA (Z.ret (Z.ct (Z.cc K rfl) rfl T.cg (by decide +kernel) (Z.cons (Z.comp (osc:=af dQ) (ON:=["deck"]) (own:=["many"]) (N:=["many","deck"]) ⟨rfl,by decide +kernel,rfl,by decide +kernel,by decide +kernel,by decide +kernel,by decide +kernel,by decide +kernel⟩ rfl rfl rfl (Z.any K rfl (Z.tup (Z.consts rfl))) (λ_ _ _ _=>(Z.aO (i:=0) (show List.Nodup (["many","deck"]:List Str) by decide +kernel) rfl (by right))) (λ_ _ _ _=>Z.lV) (λ_ _ _ _=>(Z.fn h_law_lengths (hr.mono (by decide)) rfl az (Z.cons (Z.v 1) (Z.cons (Z.v 0) Z.nil))))) Z.nil))))),?_⟩
  refine ax λN hN=>?_;walk_at "rz";refine⟨p,dq,4,_,rfl,hd,by lia,by decide,by decide,λv H1 hv D1 k1=>?_⟩
  by_cases c:(v:Int)=0
  ·exists Kj c;have rep:∀(G:Hp) (j k:Int) (Q:VK),1<k->k<=20->(∀t u G',KB [] G G'->G t=none->u≠t->G' u=some (.tup (iV (List.replicate k.toNat j)))->Q (.ref u) G')->(0+1<=sizeLine/\∀t,G t=none->Y.D_ K (.ref t) (.int k) (upd G t (.tup [.int j])) Q):=λG j k Q h1 h2 q=>by
    refine⟨by decide,λt ht=>.inr ⟨t,k,_,rfl,rfl,aY.of aa,by simp,(show 1<=1000 by decide),h1,by lia,λu hu=>?_⟩⟩
    have e:(List.replicate k.toNat [V.int j]).flatten=iV (List.replicate k.toNat j):=by
     unfold iV;rw[MI];generalize k.toNat=m
     induction m with
     |zero=>rfl
     |succ m ih=>rw[KW,KL,ih];rfl
    rw[e];have ut:u≠t:=λz=>by rw[z,aa] at hu;cases hu
    exact q t u _ ((KB.new ht).trans (KB.new hu)) ht ut aa
   refine rep H1 4 9 _ (by decide) (by decide) λt1 u1 G1 g1 _ _ e1=>?_
   refine rep G1 5 17 _ (by decide) (by decide) λt2 u2 G2 g2 _ _ e2=>?_
   refine rep G2 3 8 _ (by decide) (by decide) λt3 u3 G3 g3 _ _ e3=>⟨by decide,λb hb=>?_⟩
   have kk:KB [] H1 (upd G3 b (.tup [.ref u1,.ref u2,.ref u3])):=((g1.trans g2).trans g3).trans (KB.new hb);have up:∀{x:Addr} {o:HO},G3 x=some o->upd G3 b (.tup [.ref u1,.ref u2,.ref u3]) x=some o:=λe=>by rw[ae (ao e hb)];exact e
   refine q [List.replicate 9 4,List.replicate 17 5,List.replicate 8 3] b _ ((D1.kb kk).mono (by lia)) (k1.trans kk.all) ⟨[u1,u2,u3],aa,rfl,λi a e=>?_⟩ ⟨_,_,_,rfl,rfl,rfl,rfl,λl hl=>?_⟩
   ·have hi:i<3:=(Kf.mp e).1;rcases lM hi with rfl|rfl|rfl
    ·cases e;exact up (g3 _ _ (g2 _ _ e1 (by simp)) (by simp))
    ·cases e;exact up (g3 _ _ e2 (by simp))
    ·cases e;exact up e3
   have rr:∀(n:Nat) (k:Int),0<n->n<=20->1<=k->k<=20->jk (List.replicate n k):=λn k a b c d=>⟨by rw[Kw];exact a,by rw[Kw];exact b,λx hx=>by rw[(Lz.mp hx).2];lia⟩
   rcases Kl.mp hl with rfl|hl
   ·exact⟨rr 9 4 (by decide) (by decide) (by decide) (by decide),by decide +kernel⟩
   ·rcases Kl.mp hl with rfl|hl
    ·exact⟨rr 17 5 (by decide) (by decide) (by decide) (by decide),by decide +kernel⟩
    ·rw[Ku.mp hl];exact⟨rr 8 3 (by decide) (by decide) (by decide) (by decide),by decide +kernel⟩
  ·exists Ki c;rw[hN];clear hN N;walk_at "rz";refine⟨by decide,λt ht=>?_⟩
   have k2:KB [] H1 (upd H1 t (.tup [.int 9,.int 17,.int 8])):=KB.new ht;have s2:upd H1 t (.tup [.int 9,.int 17,.int 8]) t=some (.tup (iV [9,17,8])):=aa;generalize upd H1 t (.tup [.int 9,.int 17,.int 8])=H2 at *;have D2:=D1.kb k2;refine cq (xs:=iV [9,17,8]) (by decide) (λD i ys H'=>H2 D=none/\H' D=some (.lst ys)/\bP H' p dq (n+1+60*i)/\KB [p,dq] H2 H'/\∃(as:List Addr) (done:List (List Int)),ys=as.map V.ref/\as.length=i/\done.map List.length=[9,17,8].take i/\(∀l∈done,jk l/\lN l=true)/\∀(j:Nat) (a:Addr),as[j]?=some a->H' a=some (.tup (iV (done.getD j [])))) (λD hD=>⟨hD,aa,D2.kb (KB.new hD),KB.new hD,[],[],rfl,rfl,rfl,(λl h=>nomatch h),λj a e=>nomatch e⟩) (λD i ys H' h=>⟨h.2.1,by obtain⟨_,_,_,_,as,_,rfl,e,_⟩:=h;rw[Kc,e]⟩) (λD i ys H' h=>aY.of (h.2.2.2.1 _ _ s2 λz=>D2.nt _ z _ s2)) ?_ ?_
   ·rintro D i ys H' x R hx ⟨g0,g1,gd,gk,as,done,rfl,ga,gl,gok,gat⟩ kk;obtain⟨hi,rfl⟩:=iu hx;have nD:=D2.new g0;have dl:done.length=i:=by
     have:=K_ List.length gl;rw[Kc,K8] at this;have h3:([9,17,8]:List Nat).length=3:=rfl;have hi3:i<3:=hi;lia
    have key:∀m:Nat,2<=m->m<=17->([9,17,8]:List Nat).take (i+1)=([9,17,8]:List Nat).take i++[m]->sf K [.ref p,.int (m:Nat)] H' R E0:=λm m2 m17 em=>by
     refine⟨p,dq,m,_,rfl,gd,by have:i<3:=hi;lia,m2,m17,λls a H5 D5 k5 e5 l1 l2 l3=>?_⟩
     have gD:=k5 _ _ g1 nD;have aD:a≠D:=λz=>by rw[z,gD] at e5;cases e5
     have pD:p≠D:=λz=>nD (by simp[z])
     have qD:dq≠D:=λz=>nD (by simp[z])
     refine kk _ _ gD ⟨g0,aa,(D5.keep (KB.set (ex:=[D]) (by simp)) (by simpa using pD) (by simpa using qD)).mono (by lia),λu o e z=>by rw[ae (ao e g0)];exact k5 _ _ (gk _ _ e z) z,as++[a],done++[ls],by rw[Kv];rfl,by rw[Ke,ga];rfl,by rw[Kv,gl,em];rw[K9,l1];rfl,λl hl=>?_,λj b e=>?_⟩
     ·rcases KJ.mp hl with hl|hl
      ·exact gok l hl
      ·rw[Ku.mp hl];exact⟨l2,l3⟩
     ·rcases Lh j as.length with hj|hj
      ·rw[KC hj] at e;have e6:=gd.tup k5 (gat j b e);rw[ae (λz=>by rw[z,gD] at e6;cases e6),e6,Kt,Kt,KC (by lia)]
      ·rw[K4 hj] at e;obtain⟨hj2,rfl⟩:=Kf.mp e;have hj3:j=as.length:=by simp at hj2;lia
       subst hj3;simp only[L8,Mf];rw[ae aD,e5,Kt,K4 (by lia),show as.length-done.length=0 by lia]
       rfl
    walk_at "rz";rcases lM (show i<3 from hi) with rfl|rfl|rfl
    ·exact key 9 (by decide) (by decide) rfl
    ·exact key 17 (by decide) (by decide) rfl
    ·exact key 8 (by decide) (by decide) rfl
   ·rintro D ys H' ⟨g0,g1,gd,gk,as,done,rfl,ga,gl,gok,gat⟩;exists aI g1;intro b hb;have gl':done.map List.length=[9,17,8]:=gl;have h3:done.length=3:=by have:=K_ List.length gl';rw[Kc] at this;exact this
    obtain⟨x,y,z,rfl⟩:=rn h3;simp only[K9,Mh,List.cons.injEq] at gl';refine q [x,y,z] b _ ((gd.kb (KB.new hb)).mono (by show n+1+60*3<=_;lia)) (k1.trans (k2.all.trans (gk.trans (KB.new hb)))) ⟨as,aa,by rw[ga];rfl,λj a e=>?_⟩ ⟨x,y,z,rfl,gl'.1,gl'.2.1,gl'.2.2.1,gok⟩
    have:=gat j a e;rw[ae (ao this hb)];exact this
noncomputable def pU:Sp:=λvs H Q _=>∃(p dq:Addr) (n:Nat),vs=[.ref p]/\bP H p dq n/\n<2^40/\∀(v:Nat) H',bP H' p dq (n+2)->KB [p,dq] H H'->v<65536->Q (.int (v:Nat)) H'
theorem xm(T:Txt K mg)(F:HasFn K mg "_law_number" dH ["deck"])(h_law_draw:au P w K mg base aZ 2 "_law_draw" ["deck","most"] ft):au P w K mg base aZ 3 "_law_number" ["deck"] pU:=by
 refine F.fL eK (λvs H Q E h=>?_) (λf cdv A outer s H vs Q E hr h=>?_)
 ·obtain⟨p,dq,n,rfl,_⟩:=h;rfl
 ·have hu:=aS hr;obtain⟨p,dq,n,rfl,hd,hn,q⟩:=h;refine⟨_,(Z.aq (Z.set (i:=1) eK.nd rfl (by right) (Z.fn h_law_draw (hr.mono (by decide)) rfl az (Z.cons (Z.v 0) (Z.cons Z.int Z.nil))))
   (Z.aq (Z.eF (Z.bu b6 (Z.v 1) Z.int) (Z.aA (Z.ret Z.int)) Z.bU)
   (Z.aq (Z.set (i:=2) eK.nd rfl (by right) (Z.op El Z.int (Z.op cW (Z.v 1) Z.int)))
   (Z.aA (Z.ret (Z.op (Z.bf K rfl) (Z.v 2) (Z.fn h_law_draw (hr.mono (by decide)) rfl az (Z.cons (Z.v 0) (Z.cons (Z.v 2) Z.nil))))))))),?_⟩
  refine ax λN hN=>?_;walk_at "rz";refine⟨p,dq,17,n,rfl,hd,by lia,by decide,by decide,λz H1 hz D1 k1=>?_⟩
  rw[hN];clear hN N;refine ax λN hN=>?_;by_cases a0:(z:Int)=0
  ·exists Kj a0;exact q 0 H1 (D1.mono (by lia)) k1 (by decide)
  ·exists Ki a0;rw[hN];clear hN N;refine ax λN hN=>?_;walk_at "rz";refine⟨⟨by lia,by lia,by decide⟩,?_⟩
   rw[hN];clear hN N;obtain⟨j,ej,hj⟩:∃j:Nat,((z:Int)-1).toNat=j/\j<=15:=⟨_,rfl,by lia⟩
   rw[ej,Int.one_mul];have p1:(0:Int)<2^j:=Pg (by decide)
   have p2:(2:Int)^j<=2^15:=by
    have:2^j<=2^15:=LY (by decide) hj
    exact_mod_cast this
   generalize (2:Int)^j=t at p1 p2;walk_at "rz";refine⟨p,dq,t,n+1,rfl,D1,by lia,p1,by lia,λv H2 hv D2 k2=>?_⟩
   walk_at "rz";obtain⟨k,ek⟩:∃k:Nat,t+(v:Int)=k:=⟨(t+(v:Int)).toNat,by lia⟩
   rw[ek];exact q k H2 D2 (k1.trans k2) (by lia)
theorem two8{c:Nat}(h1:(c:Int)<2):∃m:Int,cL [V.int 2,.int 8] (c:Int)=some (.int m)/\0<m/\m<=8:=by
 have:c=0\/c=1:=by lia
 rcases this with rfl|rfl
 ·exact⟨2,rfl,by decide,by decide⟩
 ·exact⟨8,rfl,by decide,by decide⟩
theorem oW{p:Addr}{n:Nat}(D:bP H p dq n)(hn:n<2^49)(q:∀b H',b<8->bP H' p dq (n+2)->KB [p,dq] H H'->Q (.str (cS b)) H'):
  0+1+1<=sizeLine/\∀m,H m=none->ft [.ref p,.int 2] (upd H m (.lst [.int 2,.int 8])) (λy H2=>Dd K (.ref m) y H2 λx H1=>ft [.ref p,x] H1 (λy H2=>Dd K (.str (Str.ofString "abcdefgh")) y H2 Q) E0) E0:=by
 refine⟨by decide,λm hm=>⟨p,dq,2,n,rfl,D.kb (KB.new hm),by lia,by decide,by decide,λd H2 hd D2 k2=>?_⟩⟩
 have s2:=aI (k2 m _ aa (D.new hm));have kk:KB [p,dq] H H2:=(KB.new hm).trans k2;obtain⟨x,ha,x0,x8⟩:=two8 hd;exists s2,ha;refine⟨p,dq,x,n+1,rfl,D2,by lia,x0,by lia,λy H3 hy D3 k3=>?_⟩
 have hb:=FN (show 0<=(y:Int) by lia) (show (y:Int)<8 by lia)
 exists hb;exact⟨by decide +kernel,q y H3 (by lia) D3 (kk.trans k3)⟩
noncomputable def Ec(K:PJ):Sp:=λvs H Q _=>∃(p dq:Addr) (many n:Nat),vs=[.ref p,.int (many:Nat)]/\bP H p dq n/\n<2^38/\many<1000/\∀(r:Row) (a:Addr) H',r.Ok many->H' a=some (.tup r.vs)->bP H' p dq (n+5)->KB [p,dq] H H'->Q (.ref a) H'
theorem FV(T:Txt K mg)(F:HasFn K mg "_law_row" gc ["deck","goals"])(h_law_draw:au P w K mg base aZ 2 "_law_draw" ["deck","most"] ft)(h_law_number:au P w K mg base aZ 3 "_law_number" ["deck"] pU):au P w K mg base aZ 4 "_law_row" ["deck","goals"] (Ec K):=by
 refine F.fL ff (λvs H Q E h=>?_) (λf cdv A outer s H vs Q E hr h=>?_)
 ·obtain⟨p,dq,many,n,rfl,_⟩:=h;rfl
 ·have hu:=aS hr;obtain⟨p,dq,many,n,rfl,hd,hn,hmy,q⟩:=h;refine⟨_,(Z.aq (Z.set (i:=2) ff.nd rfl (by right) (Z.lst (Z.consts rfl)))
   (Z.aq (Z.set (i:=3) ff.nd rfl (by right) (Z.ix (Z.aP K rfl hu) (Z.v 2) (Z.fn h_law_draw (hr.mono (by decide)) rfl az (Z.cons (Z.v 0) (Z.cons Z.int Z.nil)))))
   (Z.aq (Z.set (i:=4) ff.nd rfl (by right) (Z.ix (Z.aP K rfl hu) Z.str (Z.fn h_law_draw (hr.mono (by decide)) rfl az (Z.cons (Z.v 0) (Z.cons (Z.ix (Z.aP K rfl hu) (Z.lst (Z.consts rfl)) (Z.fn h_law_draw (hr.mono (by decide)) rfl az (Z.cons (Z.v 0) (Z.cons Z.int Z.nil)))) Z.nil)))))
   (Z.aq (Z.eF (Z.bu b6 (Z.v 3) Z.str) (Z.aA (Z.ret (Z.tup (Z.cons (Z.v 3) (Z.cons (Z.v 4) (Z.cons (Z.fn h_law_number (hr.mono (by decide)) rfl az (Z.cons (Z.v 0) Z.nil)) Z.nil)))))) Z.bU)
   (Z.aq (Z.eF (Z.bu (Z.Ia K rfl hu) (Z.v 3) (Z.tup (Z.consts rfl))) (Z.aA (Z.ret (Z.tup (Z.cons (Z.v 3) (Z.cons (Z.v 4) (Z.cons (Z.ix (Z.aP K rfl hu) Z.str (Z.fn h_law_draw (hr.mono (by decide)) rfl az (Z.cons (Z.v 0) (Z.cons (Z.ix (Z.aP K rfl hu) (Z.lst (Z.consts rfl)) (Z.fn h_law_draw (hr.mono (by decide)) rfl az (Z.cons (Z.v 0) (Z.cons Z.int Z.nil)))) Z.nil)))) Z.nil)))))) Z.bU)
   (Z.aq (Z.eF (Z.bu (Z.Ia K rfl hu) (Z.v 3) (Z.tup (Z.consts rfl))) (Z.aA (Z.ret (Z.tup (Z.cons (Z.v 3) (Z.cons (Z.v 4) Z.nil))))) Z.bU)
   (Z.aq (Z.eF (Z.bu b6 (Z.v 3) Z.str) (Z.aA (Z.ret (Z.tup (Z.cons (Z.v 3) (Z.cons (Z.fn h_law_draw (hr.mono (by decide)) rfl az (Z.cons (Z.v 0) (Z.cons (Z.op (Z.bf K rfl) (Z.v 1) Z.int) Z.nil))) Z.nil))))) Z.bU)
   (Z.aq (Z.eF (Z.bu b6 (Z.v 3) Z.str) (Z.aA (Z.ret (Z.tup (Z.cons (Z.v 3) (Z.cons (Z.v 4) (Z.cons (Z.fn h_law_draw (hr.mono (by decide)) rfl az (Z.cons (Z.v 0) (Z.cons (Z.op (Z.bf K rfl) (Z.v 1) Z.int) Z.nil))) Z.nil)))))) Z.bU)
   (Z.aA (Z.ret (Z.tup (Z.cons (Z.v 3) Z.nil)))))))))))),?_⟩
  refine ax λN hN=>?_;walk_at "rz";refine⟨by decide,λl hl=>?_⟩
  have k1:KB [] H (upd H l (.lst [.str (Str.ofString "put"),.str (Str.ofString "put"),.str (Str.ofString "add"),.str (Str.ofString "sub"),.str (Str.ofString "copy"),.str (Str.ofString "tell"),.str (Str.ofString "tell"),.str (Str.ofString "hear"),.str (Str.ofString "jump"),.str (Str.ofString "zero"),.str (Str.ofString "zero"),.str (Str.ofString "halt")])):=KB.new hl;have s1:upd H l (.lst [.str (Str.ofString "put"),.str (Str.ofString "put"),.str (Str.ofString "add"),.str (Str.ofString "sub"),.str (Str.ofString "copy"),.str (Str.ofString "tell"),.str (Str.ofString "tell"),.str (Str.ofString "hear"),.str (Str.ofString "jump"),.str (Str.ofString "zero"),.str (Str.ofString "zero"),.str (Str.ofString "halt")]) l=_:=aa;generalize upd H l _=H1 at *;have D1:=hd.kb k1;have nl:=hd.new hl;rw[hN];clear hN N;refine ax λN hN=>?_;walk_at "rz";refine⟨p,dq,12,n,rfl,D1,by lia,by decide,by decide,λc H2 hc D2 k2=>?_⟩
  have s2:=k2 _ _ s1 nl;obtain⟨v,hv,ha⟩:=FK (xs:=[V.str (Str.ofString "put"),.str (Str.ofString "put"),.str (Str.ofString "add"),.str (Str.ofString "sub"),.str (Str.ofString "copy"),.str (Str.ofString "tell"),.str (Str.ofString "tell"),.str (Str.ofString "hear"),.str (Str.ofString "jump"),.str (Str.ofString "zero"),.str (Str.ofString "zero"),.str (Str.ofString "halt")]) (i:=c) hc;exists aI s2,ha;have kk2:KB [p,dq] H H2:=k1.all.trans k2;clear ha hc k1 k2 s1 s2 nl hl;rw[hN];clear hN N;refine ax λN hN=>?_;walk_at "rz";refine oW D2 (by lia) λbn H3 hb8 D3 k3=>?_
  have kk3:=kk2.trans k3;clear k3 D2 kk2 D1;rw[hN];clear hN N;have hv6:v=.str "put"\/(∃w,v=.str (w2 w))\/(∃w,v=.str (w1 w))\/v=.str "jump"\/v=.str "zero"\/v=.str "halt":=by
   simp only[Kl,K7,Lp] at hv;rcases hv with h|h|h|h|h|h|h|h|h|h|h|h<;>subst h<;>first|exact .inl rfl|exact .inr (.inl ⟨0,rfl⟩)|exact .inr (.inl ⟨1,rfl⟩)|exact .inr (.inl ⟨2,rfl⟩)|exact .inr (.inr (.inl ⟨0,rfl⟩))|exact .inr (.inr (.inl ⟨1,rfl⟩))|exact .inr (.inr (.inr (.inl rfl)))|exact .inr (.inr (.inr (.inr (.inl rfl))))|exact .inr (.inr (.inr (.inr (.inr rfl))))
  clear hv;have tell:∀(r:Row) (G:Hp) (m:Nat),r.Ok many->bP G p dq m->m<=n+5->KB [p,dq] H G->∀t,G t=none->Q (.ref t) (upd G t (.tup r.vs)):=λr G m ok D hm k t ht=>q r t _ ok aa ((D.kb (KB.new ht)).mono hm) (k.trans (KB.new ht));refine ax λN hN=>?_;rcases hv6 with rfl|⟨u,rfl⟩|⟨u,rfl⟩|hv
  ·exists (show (Str.ofString "put"=Str.ofString "put")=True from eq_true rfl),MQ;refine⟨p,dq,n+3,rfl,D3,by lia,λk H4 D4 k4 hk=>⟨by decide,λt ht=>?_⟩⟩
   exact tell (.put bn k) H4 _ ⟨hb8,hk⟩ D4 (by lia) (kk3.trans k4) t ht
  ·have n1:∀u,w2 u≠"put":=by decide +kernel
   have i1:∀u,qM (.str (w2 u)) [.str "add",.str "sub",.str "copy"]=true:=by decide +kernel
   exists Ki (n1 u);rw[hN];clear hN N;refine ax λN hN=>?_;exists i1 u;refine⟨by decide,λt0 ht0=>⟨rfl,rfl,?_⟩⟩
   refine oW (D3.kb (KB.new ht0)) (by lia) λb2 H4 hb2 D4 k4=>⟨by decide,λt ht=>?_⟩
   exact tell (.two u bn b2) H4 _ ⟨hb8,hb2⟩ D4 (by lia) ((kk3.trans (KB.new ht0)).trans k4) t ht
  ·have n1:∀u,w1 u≠"put":=by decide +kernel
   have i1:∀u,qM (.str (w1 u)) [.str "add",.str "sub",.str "copy"]=false:=by decide +kernel
   have i2:∀u,qM (.str (w1 u)) [.str "tell",.str "hear"]=true:=by decide +kernel
   exists Ki (n1 u);rw[hN];clear hN N;refine ax λN hN=>?_;exists i1 u;refine⟨by decide,λt0 ht0=>⟨rfl,rfl,?_⟩⟩
   rw[hN];clear hN N;refine ax λN hN=>?_;exists i2 u;refine⟨by decide,λt1 ht1=>⟨rfl,rfl,by decide,λt ht=>?_⟩⟩
   exact tell (.one u bn) _ _ hb8 ((D3.kb (KB.new ht0)).kb (KB.new ht1)) (by lia) ((kk3.trans (KB.new ht0)).trans (KB.new ht1)) t ht
  ·have n1:∀z∈([("jump"),("zero"),("halt")]:List Str),z≠"put"/\qM (.str z) [.str "add",.str "sub",.str "copy"]=false/\qM (.str z) [.str "tell",.str "hear"]=false:=by decide +kernel
   obtain⟨z,hz,rfl⟩:∃z∈([("jump"),("zero"),("halt")]:List Str),v=.str z:=by rcases hv with rfl|rfl|rfl<;>exact⟨_,by simp,rfl⟩
   obtain⟨e1,e2,e3⟩:=n1 z hz;exists Ki e1;rw[hN];clear hN N;refine ax λN hN=>?_;exists e2;refine⟨by decide,λt0 ht0=>⟨rfl,rfl,?_⟩⟩
   rw[hN];clear hN N;refine ax λN hN=>?_;exists e3;refine⟨by decide,λt1 ht1=>⟨rfl,rfl,?_⟩⟩
   have D4:=(D3.kb (KB.new (o:=.tup [.str "add",.str "sub",.str "copy"]) ht0)).kb (KB.new (o:=.tup [.str "tell",.str "hear"]) ht1);have kk4:=(kk3.trans (KB.new (o:=.tup [.str "add",.str "sub",.str "copy"]) ht0)).trans (KB.new (o:=.tup [.str "tell",.str "hear"]) ht1);rw[hN];clear hN N;generalize upd (upd H3 t0 _) t1 _=H4 at *;refine ax λN hN=>?_;rcases hv with hv|hv
   ·cases hv;exists Kj (rfl:Str.ofString "jump"=Str.ofString "jump");refine⟨p,dq,(many:Int)+1,n+3,rfl,D4,by lia,by lia,by lia,λg H5 hg D5 k5=>⟨by decide,λt ht=>?_⟩⟩
    exact tell (.jump g) H5 _ (show g<=many by lia) D5 (by lia) (kk4.trans k5) t ht
   ·have nh:z≠"jump":=by rcases hv with hv|hv<;>cases hv<;>decide +kernel
    exists Ki nh;rw[hN];clear hN N;refine ax λN hN=>?_;rcases hv with hv|hv
    ·cases hv;exists Kj (rfl:Str.ofString "zero"=Str.ofString "zero");refine⟨p,dq,(many:Int)+1,n+3,rfl,D4,by lia,by lia,by lia,λg H5 hg D5 k5=>⟨by decide,λt ht=>?_⟩⟩
     exact tell (.zero bn g) H5 _ ⟨hb8,(show g<=many by lia)⟩ D5 (by lia) (kk4.trans k5) t ht
    ·cases hv;have nz:Str.ofString "halt"≠Str.ofString "zero":=by decide +kernel
     exists Ki nz;rw[hN];clear hN N;walk_at "rz";exact⟨by decide,λt ht=>tell .halt H4 _ trivial D4 (by lia) kk4 t ht⟩
noncomputable def PA(H:Hp)(as:List Addr)(rs:List Row):Prop:=as.length=rs.length/\∀(i:Nat) (q:Addr) (r:Row),as[i]?=some q->rs[i]?=some r->H q=some (.tup r.vs)
theorem PA.snoc{rs:List Row}{q:Addr}{r:Row}(h:PA H as rs)(e:H q=some (.tup r.vs)):PA H (as++[q]) (rs++[r]):=by
 refine⟨by rw[Ke,Ke,h.1];rfl,λi q' r' e1 e2=>?_⟩
 rcases Lh i as.length with hi|hi
 ·rw[KC hi] at e1;rw[KC (by rw[<- h.1];exact hi)] at e2
  exact h.2 i q' r' e1 e2
 ·have h1:=h.1;rw[K4 hi] at e1;rw[K4 (by lia),<- h1] at e2
  obtain⟨hj,rfl⟩:=Kf.mp e1;obtain⟨hj2,rfl⟩:=Kf.mp e2;have:i-as.length=0:=by simp at hj;lia
  simp only[this,Mf];exact e
theorem PA.keep{rs:List Row}(h:PA H as rs)(k:KB ex H H')(hx:NT ex H):PA H' as rs:=⟨h.1,λi q r e1 e2=>k _ _ (h.2 i q r e1 e2) λz=>hx q z _ (h.2 i q r e1 e2)⟩
theorem FE(h:H D=some (.lst ys)):NT [D] H:=λb hb xs e=>by
 rw[Ku.mp hb,h] at e;cases e
def vJ(H:Hp)(a:Addr)(rs:List Row):Prop:=∃as:List Addr,H a=some (.tup (as.map V.ref))/\PA H as rs
theorem vJ.keep{rs:List Row}(h:vJ H a rs)(k:KB ex H H')(hx:NT ex H):vJ H' a rs:=by
 obtain⟨as,h1,h2⟩:=h;exact⟨as,k _ _ h1 λz=>hx a z _ h1,h2.keep k hx⟩
theorem vJ.kb{rs:List Row}(h:vJ H a rs)(k:KB [] H H'):vJ H' a rs:=h.keep k (NT.nil _)
noncomputable def yV:Sp:=λvs H Q _=>∃(p dq:Addr) (m n:Nat),vs=[.ref p,.int (m:Nat)]/\bP H p dq n/\n<2^37/\m<=60/\∀(rs:List Row) (a:Addr) H',rs.length<=m->(∀r∈rs,r.Ok rs.length)->vJ H' a rs->bP H' p dq (n+1+5*m)->KB [p,dq] H H'->Q (.ref a) H'
theorem CK(T:Txt K mg)(F:HasFn K mg "_law_program" cJ ["deck","most"])(h_law_draw:au P w K mg base aZ 2 "_law_draw" ["deck","most"] ft)(h_law_row:au P w K mg base aZ 4 "_law_row" ["deck","goals"] (Ec K)):au P w K mg base aZ 5 "_law_program" ["deck","most"] yV:=by
 refine F.fL gn (λvs H Q E h=>?_) (λf cdv A outer s H vs Q E hr h=>?_)
 ·obtain⟨p,dq,m,n,rfl,_⟩:=h;rfl
 ·have hu:=aS hr;obtain⟨p,dq,m,n,rfl,hd,hn,hm,q⟩:=h;refine⟨_,(Z.aq (Z.set (i:=2) gn.nd rfl (by right) (Z.fn h_law_draw (hr.mono (by decide)) rfl az (Z.cons (Z.v 0) (Z.cons (Z.op (Z.bf K rfl) (Z.v 1) Z.int) Z.nil))))
   (Z.aA (Z.ret (Z.ct (Z.cc K rfl) rfl T.cg (by decide +kernel) (Z.cons (Z.comp (osc:=af cJ) (ON:=["deck","most","many"]) (own:=["k"]) (N:=["k","deck","most","many"]) ⟨rfl,by decide +kernel,rfl,by decide +kernel,by decide +kernel,by decide +kernel,by decide +kernel,by decide +kernel⟩ rfl rfl rfl (Z.xl rfl T.e_ (Z.cons (Z.v 2) Z.nil)) (λ_ _ _ _=>(Z.aO (i:=0) (show List.Nodup (["k","deck","most","many"]:List Str) by decide +kernel) rfl (by right))) (λ_ _ _ _=>Z.lV) (λ_ _ _ _=>(Z.fn h_law_row (hr.mono (by decide)) rfl az (Z.cons (Z.v 1) (Z.cons (Z.v 3) Z.nil))))) Z.nil))))),?_⟩
  refine ax λN hN=>?_;walk_at "rz";refine⟨p,dq,(m:Int)+1,n,rfl,hd,by lia,by lia,by lia,λv H1 hv D1 k1=>?_⟩
  rw[hN];clear hN N;walk_at "rz";refine⟨by lia,by lia,?_⟩
  rw[KN];refine ju (Kn (show v<=1000 by lia) (by decide)) (λD i ys H'=>H1 D=none/\H' D=some (.lst ys)/\i<=v/\bP H' p dq (n+1+5*i)/\KB [p,dq] H1 H'/\∃(as:List Addr) (rs:List Row),ys=as.map V.ref/\rs.length=i/\(∀r∈rs,r.Ok v)/\PA H' as rs) (λD hD=>⟨hD,aa,Kz _,D1.kb (KB.new hD),KB.new hD,[],[],rfl,rfl,(λr hr=>absurd hr K7),rfl,λi q r e=>nomatch e⟩) (λD i ys H' h=>⟨h.2.1,by obtain⟨_,_,_,_,_,as,rs,rfl,e,_,e2⟩:=h;rw[Kc,e2.1,e]⟩) ?_ ?_
  ·rintro D i ys H' R hi ⟨g0,g1,g2,gD,gk,as,rs,rfl,e1,e2,e3⟩ kk;have nD:=D1.new g0;have pD:p≠D:=λz=>nD (by simp[z])
   have qD:dq≠D:=λz=>nD (by simp[z])
   walk_at "rz";refine⟨p,dq,v,_,rfl,gD,by lia,by lia,λr a H5 hr hra D5 k5=>?_⟩
   have gD5:=k5 _ _ g1 nD;have e35:PA H5 (as++[a]) (rs++[r]):=(e3.keep k5 gD.nt).snoc hra;refine kk _ _ gD5 ⟨g0,aa,by lia,(D5.keep (KB.set (ex:=[D]) (by simp)) (by simpa using pD) (by simpa using qD)).mono (by lia),λu o e z=>by rw[ae (ao e g0)];exact k5 _ _ (gk _ _ e z) z,as++[a],rs++[r],by rw[Kv];rfl,by rw[Ke,e1];rfl,λr' hr'=>?_,e35.keep (KB.set (ex:=[D]) (by simp)) (FE gD5)⟩
   rcases KJ.mp hr' with h|h
   ·exact e2 r' h
   ·rw[Ku.mp h];exact hr
  ·rintro D ys H' ⟨g0,g1,g2,gD,gk,as,rs,rfl,e1,e2,e3⟩;exists aI g1;intro b hb;have kb:=KB.new (ex:=[]) (o:=.tup (as.map V.ref)) hb;refine q rs b _ (by lia) (by rw[e1];exact e2) ⟨as,aa,e3.keep kb (NT.nil _)⟩ ((gD.kb kb).mono (by lia)) (k1.trans (gk.trans kb.all))
noncomputable def cO:Option Nat->V
 |none=>.aX
 |some t=>.int (t:Nat)
noncomputable def p0:Sp:=λvs H Q _=>∃(a c:Addr) (rs:List Row) (ks:List Nat),vs=[.ref a,.ref c]/\vJ H a rs/\rs.length<=64/\(∀r∈rs,r.Ok rs.length)/\H c=some (.tup (iV (nZ ks)))/\ks.length=rs.length/\(∀k∈ks,k<=40)/\∀(bk:List (List Int)) b H',KB [] H H'->vG H' b bk->Bk bk->Q (.ref b) H'
def ym:Sp:=λvs H Q _=>∃(n m:Int),vs=[.int n,.int m]/\-1<=m/\m<=40/\Q (.str (wd (bV n m.toNat []))) H
theorem Ei(T:Txt K mg)(F:HasFn K mg "last_figures" dz ["number","many"]):au P w K mg base aZ 1 "last_figures" ["number","many"] ym:=by
 refine F.fL bT (λvs H Q E h=>?_) (λf cdv A outer s H vs Q E hr h=>?_)
 ·obtain⟨n,m,rfl,_⟩:=h;rfl
 ·have hu:=aS hr;obtain⟨n,m,rfl,hm0,hm,q⟩:=h;refine⟨_,(Z.aq (Z.set (i:=2) bT.nd rfl (by right) Z.str)
   (Z.aq (Z.set (i:=3) bT.nd rfl (by right) (Z.v 0))
   (Z.aq (Z.hV KR rfl (Z.xl rfl T.e_ (Z.cons (Z.v 1) Z.nil)) (Z.aO (i:=4) bT.nd rfl (by right)) (Z.aq (Z.set (i:=2) bT.nd rfl (by right) (Z.op (Z.bf K rfl) (Z.ct vW rfl T.Ha (by decide +kernel) (Z.cons (Z.op cY (Z.v 3) Z.int) Z.nil)) (Z.v 2)))
   (Z.aA (Z.set (i:=3) bT.nd rfl (by right) (Z.op oK (Z.v 3) Z.int)))))
   (Z.aA (Z.ret (Z.v 2)))))),?_⟩
  refine ax λN hN=>?_;walk_at "rz";rw[hN];clear hN N;refine ax λN hN=>?_;walk_at "rz";rw[hN];clear hN N;refine ax λN hN=>?_;walk_at "rz";refine⟨by lia,by lia,?_⟩
  have hk:m.toNat<=40:=by lia
  generalize m.toNat=k at *;refine eI (λi σ H'=>∃(l:Int) (acc:List Nat) (o:Option V),H'=H/\i<=k/\bV l (k-i) acc=bV n k []/\acc.length=i/\σ=[some (.int n),some (.int m),some (.str (wd acc)),some (.int l),o]) ⟨n,[],none,rfl,Kz _,rfl,rfl,by rw[xy]⟩ ?_ ?_
  ·rintro i σ H' hi ⟨l,acc,o,rfl,_,e,hl,rfl⟩;unfold bp;refine ax λM hM=>?_;exists Gr;rw[lq,bA,bA];refine⟨by decide,by rcases Int.emod_two_eq l with h|h<;>rw[h]<;>decide,Kn (show _<=50 by simp;lia) (by decide),?_⟩
   rw[hM];clear hM M;refine qU λM hM=>?_;walk_at "rz";refine⟨⟨by decide,by decide⟩,?_⟩
   rw[hM];refine⟨l / 2,dg l::acc,some _,rfl,hi,?_,by rw[Kq,hl],rfl⟩
   rw[<- e,show k-i=(k-(i+1))+1 by lia]
   rfl
  ·rintro σ H' ⟨l,acc,o,rfl,_,e,_,rfl⟩;show N _ _;rw[hN];clear hN N;walk_at "rz";rw[L8] at e;rw[<- e] at q;exact q
theorem sF(n:Nat):bV (n:Int) (((bN n:Nat):Int)-1).toNat []=(fk n).tail:=by
 unfold fk
 cases e:bN n with
 |zero=>rfl
 |succ b =>
  obtain⟨d,ed⟩:=lj b (n:Int) [];rw[ed,show (((b+1:Nat):Int)-1).toNat=b by lia];rfl
def mD:Sp:=λvs H Q _=>∃(n:Nat),vs=[.int (n:Nat)]/\n<65536/\Q (.str (wd (fk n).tail)) H
theorem qY(T:Txt K mg)(F:HasFn K mg "figures_behind_first" bJ ["number"])(hlast_figures:au P w K mg base aZ 1 "last_figures" ["number","many"] ym):au P w K mg base aZ 2 "figures_behind_first" ["number"] mD:=by
 refine F.fL fz (λvs H Q E h=>?_) (λf cdv A outer s H vs Q E hr h=>?_)
 ·obtain⟨n,rfl,_⟩:=h;rfl
 ·have hu:=aS hr;obtain⟨n,rfl,hn,q⟩:=h;have hb:=jJ hn;refine⟨_,(Z.aA (Z.ret (Z.fn hlast_figures (hr.mono (by decide)) rfl az (Z.cons (Z.v 0) (Z.cons (Z.op cW (Z.JE K rfl PySem.F.plainAttrs_int PySem.F.slot_int_bit_length PySem.F.type_int_bit_length Y.uz (Z.v 0)) Z.int) Z.nil))))),?_⟩
  walk_at "rz";refine⟨rfl,?_⟩;refine⟨_,rfl,rfl,?_⟩;walk_at "rz";refine⟨_,_,rfl,?_,?_,?_⟩
  ·show (-1:Int)<=((bN n:Nat):Int)-1;lia
  ·show ((bN n:Nat):Int)-1<=40;lia
  ·show Q (.str (wd (bV (n:Int) (((bN n:Nat):Int)-1).toNat []))) H;rw[sF];exact q
def uj:Sp:=λvs H Q _=>∃(k:Nat) (d:Int),vs=[.int (k:Nat),.int d]/\k<3/\Q (.str (wd (dR k d))) H
theorem ye(T:Txt K mg)(F:HasFn K mg "jump_written" dw ["width","distance"])(hlast_figures:au P w K mg base aZ 1 "last_figures" ["number","many"] ym):au P w K mg base aZ 2 "jump_written" ["width","distance"] uj:=by
 obtain⟨ah,hg_HEADS,kt_HEADS⟩:=T.nS;obtain⟨aw,hg_WIDTHS,kt_WIDTHS⟩:=T.j_;have hr_HEADS:RelV (.ref ah) (.ref ah):=rfl;have hr_WIDTHS:RelV (.ref aw) (.ref aw):=rfl;refine F.fL j9 (λvs H Q E h=>?_) (λf cdv A outer s H vs Q E hr h=>?_)
 ·obtain⟨k,d,rfl,_⟩:=h;rfl
 ·have hu:=aS hr;obtain⟨k,d,rfl,hk,q⟩:=h;refine⟨_,(Z.aA (Z.ret (Z.op (Z.bf K rfl) (Z.ix (Z.hW K rfl) (Z.glob rfl hg_HEADS hr_HEADS) (Z.v 0)) (Z.fn hlast_figures (hr.mono (by decide)) rfl az (Z.cons (Z.v 1) (Z.cons (Z.ix (Z.hW K rfl) (Z.glob rfl hg_WIDTHS hr_WIDTHS) (Z.v 0)) Z.nil)))))),?_⟩
  walk_at "rz";have p2:cL [V.str (Str.ofString "0"),.str (Str.ofString "10"),.str (Str.ofString "11")] (k:Int)=some (.str (wd (dD k))):=by
   rcases lM hk with rfl|rfl|rfl
   ·exact K_ (λz=>some (V.str z)) (by decide +kernel)
   ·exact K_ (λz=>some (V.str z)) (by decide +kernel)
   ·exact K_ (λz=>some (V.str z)) (by decide +kernel)
  have p3:cL [V.int 4,.int 8,.int 16] (k:Int)=some (.int ((bH k:Nat):Int)):=by rcases lM hk with rfl|rfl|rfl<;>rfl
  have p4:bH k<=16/\(dD k).length<=2:=by rcases lM hk with rfl|rfl|rfl<;>decide
  refine⟨ah,_,_,_,rfl,rfl,kt_HEADS H,p2,aw,_,_,_,rfl,rfl,kt_WIDTHS H,p3,_,_,rfl,by lia,by lia,?_⟩
  rw[KN];walk_at "rz";rw[lq,bA,bA,e8];exact⟨Kn (show _<=30 by simp;lia) (by decide),q⟩
theorem uK{X:Cx}{tk:Nat}{tp:Pos}{e1 e2:Expr}{ta:TA}{p pos:Pos}(K:PJ)(hK:X.K=K)(hg:Gl X "zip")(hm:X.mg "zip"=none)(ha:QA X [e1,e2] ta)(h1:autoParam (eX e1=true) ℜ0)(h2:autoParam (eX e2=true) ℜ0):QI X (.Tuple es tk tp) (.Call (.Name "zip" p) [e1,e2] [] pos) (Af K ta):=by
 subst hK;exact⟨Dp hg hm ha.h h1 h2⟩
theorem i7(K:PJ)(ta:TA)(σ:L2.St)(H:Hp)(R:It->Hp->Prop):L2.Af K ta σ H R=ta σ H λvs H1=>∃p q:Bool×Addr,vs=[V.ref p.2,V.ref q.2]/\(∃xs,iI K p.1 H1 p.2 xs)/\(∃ys,iI K q.1 H1 q.2 ys)/\∀n,R (B7 K (fE n [p,q])) H1:=rfl
theorem iZ{g:TG}{tb:TS}{D:Ends}{k1 k2:Bool}{b:Addr}{n:Nat}(hxy:xs.length=ys.length)(Pv:Nat->L2.St->Hp->Prop)(h0:Pv 0 σ H)(hl:∀i σ H,Pv i σ H->iI K k1 H a xs/\iI K k2 H b ys)
  (hs:∀i x y σ H p,xs[i]?=some x->ys[i]?=some y->Pv i σ H->H p=none->g (.ref p) σ (upd H p (.tup [x,y])) λσ2 H2=>tb {D with nx:=Pv (i+1),ct:=Pv (i+1),bk:=D.nx} σ2 H2) (hd:∀σ H,Pv xs.length σ H->D.nx σ H):sS (B7 K (fE n [(k1,a),(k2,b)])) g tb D σ H:=by
 refine⟨λi m σ H=>m=xs.length-i/\i<=xs.length/\Pv i σ H,⟨xs.length,by simp,Kz _,h0⟩,?_⟩
 rintro i m σ H ⟨rfl,hi,p⟩;obtain⟨q1,q2⟩:=hl i σ H p;by_cases hlt:i<xs.length
 ·have hl2:i<ys.length:=by lia
  refine .inr ⟨⟨[xs[i],ys[i]],.cons ⟨xs,q1,by simp[hlt]⟩ (.cons ⟨ys,q2,by simp[hl2]⟩ .nil)⟩,Pv (i+1),λσ' H' p'=>⟨xs.length-(i+1),by lia,rfl,hlt,p'⟩,λx H' z=>?_⟩
  obtain⟨c',vs,pr,fr,rfl,rfl⟩:=z;obtain⟨v1,vs,rfl,e1,pr⟩:=Paired.fe pr;obtain⟨v2,vs,rfl,e2,pr⟩:=Paired.fe pr;cases pr;exact hs i v1 v2 σ H c' (e1 xs q1) (e2 ys q2) p fr
 ·have e:i=xs.length:=by lia
  subst e;exact .inl ⟨⟨[],(k1,n,a),_,[],rfl,.nil,xs,q1,rfl⟩,hd σ H p⟩
noncomputable def yZ(H:Hp)(ps:List Addr)(l:List (Nat×Nat)):Prop:=ps.length=l.length/\∀(j:Nat) (q:Addr) (x:Nat×Nat),ps[j]?=some q->l[j]?=some x->H q=some (.tup [.int (x.1:Nat),.int (x.2:Nat)])
theorem yZ.snoc{ps:List Addr}{l:List (Nat×Nat)}{q:Addr}{x:Nat×Nat}(h:yZ H ps l)(e:H q=some (.tup [.int (x.1:Nat),.int (x.2:Nat)])):yZ H (ps++[q]) (l++[x]):=by
 refine⟨by rw[Ke,Ke,h.1];rfl,λi q' r' e1 e2=>?_⟩
 rcases Lh i ps.length with hi|hi
 ·rw[KC hi] at e1;rw[KC (by rw[<- h.1];exact hi)] at e2
  exact h.2 i q' r' e1 e2
 ·have h1:=h.1;rw[K4 hi] at e1;rw[K4 (by lia),<- h1] at e2
  obtain⟨hj,rfl⟩:=Kf.mp e1;obtain⟨hj2,rfl⟩:=Kf.mp e2;have:i-ps.length=0:=by simp at hj;lia
  simp only[this,Mf];exact e
theorem uF(h:H D=some (.lst ys)):NT [D] H:=λb hb xs e=>by
 rw[Ku.mp hb,h] at e;cases e
theorem yZ.keep{ps:List Addr}{l:List (Nat×Nat)}(h:yZ H ps l)(k:KB ex H H')(hx:NT ex H):yZ H' ps l:=⟨h.1,λi q r e1 e2=>k _ _ (h.2 i q r e1 e2) λz=>hx q z _ (h.2 i q r e1 e2)⟩
theorem Jq(x:V)(xs:List V):eC (x::xs) (some 1) none=xs:=by
 unfold eC;rw[HT.fD,show (some (1:Int))=some ((1:Nat):Int) from rfl,HT.fM];simp
theorem DN{x:V}(h:H a=some (.tup (x::xs)))(q:∀p,H p=none->Q (.ref p) (upd H p (.tup xs))):r9 K (.ref a) (some 1) none H Q:=⟨a,x::xs,rfl,aY.of h,λz=>by
 have:=z.1;rw[show (some (1:Int))=some ((1:Nat):Int) from rfl,HT.fM] at this;simp at this,by rw[Jq];exact q⟩
noncomputable def lA:Sp:=λvs H Q _=>∃(ra:Addr) (r:Row) (k:Nat),vs=[.ref ra]/\H ra=some (.tup r.vs)/\r.Ok k/\∀D ps H',H D=none->KB [] H H'->H' D=some (.lst (ps.map V.ref))->yZ H' ps (cR r)->Q (.ref D) H'
theorem wO(T:Txt K mg)(F:HasFn K mg "coded_things" dy ["row"]):au P w K mg base aZ 1 "coded_things" ["row"] lA:=by
 obtain⟨u0,hg_OF_WORDS,hr_OF_WORDS⟩:=T.kC;obtain⟨u1,hg_OF_CLASSES,hr_OF_CLASSES⟩:=T.iL;obtain⟨u2,hg_OF_BOXES,hr_OF_BOXES⟩:=T.kh;obtain⟨aB,hg_BOXES,sB⟩:=T.jK;have hr_BOXES:RelV (.ref aB) (.ref aB):=rfl;obtain⟨_,oB,hmB,hoB,hdB⟩:=T.CF;rw[hg_BOXES] at hmB;cases hmB;have tyB:∀H,GB K "tuple" (.ref aB) H:=λH=>.inr (.inl ⟨rfl,oB,hoB,by
  rcases sB (λ_=>none) with h|⟨o,_,_,h1,h2,_⟩
  ·rcases h with h|⟨_,h⟩
   ·cases h
   ·cases h
  ·rw[hoB] at h1;cases h1;exact h2,hdB⟩)
 obtain⟨dS,hg_SHAPES,hd0⟩:=T.kJ;have hd_SHAPES:lH K dS cm:=hd0;have hr_SHAPES:RelV (.ref dS) (.ref dS):=rfl;refine F.fL cV (λvs H Q E h=>?_) (λf cdv A outer s H vs Q E hr h=>?_)
 ·obtain⟨ra,r,k,rfl,_⟩:=h;rfl
 ·have hu:=aS hr;obtain⟨ra,r,k,rfl,hra,ba,q⟩:=h;refine⟨_,(Z.aq (Z.set (i:=1) cV.nd rfl (by right) (Z.lst (Z.cons (Z.tup (Z.cons (Z.glob rfl hg_OF_WORDS hr_OF_WORDS) (Z.cons (Z.bm K rfl PySem.F.plainAttrs_list PySem.F.slot_list_index PySem.F.type_list_index Y.Cy (Z.ct (lh (D:=cm) K rfl rfl) rfl T.sh (by decide +kernel) (Z.cons (Z.glob rfl hg_SHAPES hr_SHAPES) Z.nil)) (Z.cons (Z.ix (Z.aP K rfl hu) (Z.v 0) Z.int) Z.nil)) Z.nil))) Z.nil)))
   (Z.aq (Z.hV KR rfl (uK K rfl rfl T.oY (Z.cons (Z.Js K rfl rfl hg_SHAPES hd_SHAPES (Z.ix (Z.aP K rfl hu) (Z.v 0) Z.int)) (Z.cons (Z.slice (Z.HN K rfl) (Z.v 0) (Z.xc Z.int) Z.Cb) Z.nil))) (Z.jc (n:=2) K rfl rfl (Z.bz (Z.aO (i:=2) cV.nd rfl (by right)) (Z.bz (Z.aO (i:=3) cV.nd rfl (by right)) Z.fA))) (Z.aA (Z.eF (Z.bu b6 (Z.v 2) Z.str) (Z.aA (Z.expr (Z.bm K rfl PySem.F.plainAttrs_list PySem.F.slot_list_append PySem.F.type_list_append cC (Z.v 1) (Z.cons (Z.tup (Z.cons (Z.glob rfl hg_OF_BOXES hr_OF_BOXES) (Z.cons (Z.bm K rfl PySem.F.plainAttrs_tuple PySem.F.slot_tuple_index PySem.F.type_tuple_index (Gw (X:=_)) (Z.glob rfl hg_BOXES hr_BOXES) (Z.cons (Z.v 3) Z.nil)) Z.nil))) Z.nil)))) (Z.aA (Z.eF (Z.bu b6 (Z.v 2) Z.str) (Z.aA (Z.expr (Z.bm K rfl PySem.F.plainAttrs_list PySem.F.slot_list_append PySem.F.type_list_append cC (Z.v 1) (Z.cons (Z.tup (Z.cons (Z.glob rfl hg_OF_CLASSES hr_OF_CLASSES) (Z.cons (Z.JE K rfl PySem.F.plainAttrs_int PySem.F.slot_int_bit_length PySem.F.type_int_bit_length Y.uz (Z.v 3)) Z.nil))) Z.nil)))) Z.bU)))))
   (Z.aA (Z.ret (Z.v 1))))),?_⟩
  have a0:cL r.vs 0=some (.str r.wd):=by cases r<;>rfl
  refine ax λN hN=>?_;exists aL hra,a0;refine⟨dS,rfl,hd_SHAPES,by decide,λl hl=>?_⟩
  have k1:=KB.new (ex:=[]) (o:=.lst (cm.map λp=>V.str p.1)) hl;have s1:upd H l (.lst (cm.map λp=>V.str p.1)) l=some (.lst (cm.map λp=>V.str p.1)):=aa;generalize upd H l (.lst (cm.map λp=>V.str p.1))=H1 at *;refine⟨.inl ⟨rfl,_,bB.of s1⟩,?_⟩;have hra1:=k1 _ _ hra (by simp)
  exists aL hra1,a0;refine⟨l,cZ,r.wd,r.wi,rfl,s1,rfl,(DR r).1,(DR r).2,⟨by decide,λp1 hp1=>⟨by decide,λD hD=>?_⟩⟩⟩
  have kp1:=KB.new (ex:=[]) (o:=.tup [.int 0,.int (r.wi:Nat)]) hp1;have sp1:upd H1 p1 (.tup [.int 0,.int (r.wi:Nat)]) p1=_:=aa;generalize upd H1 p1 (.tup [.int 0,.int (r.wi:Nat)])=H2 at *;have kD:=KB.new (ex:=[]) (o:=.lst [.ref p1]) hD;have sD:upd H2 D (.lst [.ref p1]) D=some (.lst ([p1].map V.ref)):=aa;generalize upd H2 D (.lst [.ref p1])=H3 at *;have hDH:H D=none:=(k1.trans kp1).free (by simp) hD
  have th3:yZ H3 [p1] [(0,r.wi)]:=⟨rfl,λj q x e1 e2=>by
   have hj:j<1:=(Kf.mp e1).1;obtain rfl:j=0:=by lia
   cases e1;cases e2
   exact kD _ _ sp1 (by simp)⟩
  have k03:=(k1.trans kp1).trans kD;rw[hN];clear hN N;clear sp1 hp1 s1 hl hD hra1;refine ax λN hN=>?_;have hra3:=k03 _ _ hra (by simp)
  exists i7,aL hra3,a0;refine⟨_,_,rfl,xn r,λpk kt=>?_⟩;rw[Row.Ik] at hra3;refine DN hra3 λtl htl=>?_;have kt3:=KB.new (ex:=[]) (o:=.tup (r.gz.map Pk.v)) htl;have st3:upd H3 tl (.tup (r.gz.map Pk.v)) tl=_:=aa;generalize upd H3 tl (.tup (r.gz.map Pk.v))=H4 at *;have k04:=k03.trans kt3;have ktq:∀G:Hp,aY K G pk ((r.gz.map Pk.kd).map V.str):=λG=>.inr kt;refine⟨(false,pk),(false,tl),⟨rfl,rfl⟩,⟨_,ktq _⟩,⟨_,aY.of st3⟩,λn=>?_⟩;refine iZ (xs:=(r.gz.map Pk.kd).map V.str) (ys:=r.gz.map Pk.v) (by rw[Kc,Kc,Kc]) (λi σ H'=>∃(ps:List Addr) (o2 o3:Option V),i<=r.gz.length/\KB [] H H'/\H' tl=some (.tup (r.gz.map Pk.v))/\H' D=some (.lst (ps.map V.ref))/\yZ H' ps ((0,r.wi)::(r.gz.take i).flatMap Pk.qT)/\σ=[some (.ref ra),some (.ref D),o2,o3]) ⟨[p1],none,none,Kz _,k04,st3,kt3 _ _ sD (by simp),th3.keep kt3 (NT.nil _),rfl⟩ (λi σ H' h=>by obtain⟨_,_,_,_,_,h1,_⟩:=h;exact⟨ktq _,aY.of h1⟩) ?_ ?_
  ·rintro i x y σ H' z hx hy ⟨ps,o2,o3,hi,hk,h1,h2,h3,rfl⟩ hz;have hlt:i<r.gz.length:=by have:=(Kf.mp hy).1;rw[Kc] at this;exact this
   have ep:=Ka hlt;have pok:=Row.Ac ba _ (K1 hlt);have et:(r.gz.take (i+1)).flatMap Pk.qT=(r.gz.take i).flatMap Pk.qT++(r.gz[i]).qT:=by rw[L9,ep,List.flatMap_append];simp
   rw[Kp,Kp,ep] at hx;rw[Kp,ep] at hy;generalize r.gz[i]=pt at *
   cases hx;cases hy
   unfold bp;refine⟨z,_,rfl,aY.of aa,rfl,_,_,rfl,_,_,rfl,rfl,?_⟩;have kz:=KB.new (ex:=[]) (o:=.tup [.str pt.kd,pt.v]) hz;generalize upd H' z (.tup [.str pt.kd,pt.v])=H5 at *;have hk5:=hk.trans kz;have h15:=kz _ _ h1 (by simp)
   have h25:=kz _ _ h2 (by simp)
   have h35:=h3.keep kz (NT.nil _);dsimp only;refine qU λM hM=>?_;have psl:ps.length<=4:=by
    have e:=h3.1;rw[e];have c:=oJ r;unfold cR at c;rw[Kq] at c ⊢;have:((r.gz.take i).flatMap Pk.qT).length<=(r.gz.flatMap Pk.qT).length:=by
     rw[<- Lk i r.gz,List.flatMap_append,Ke,Lk];exact Nat.le_add_right _ _
    lia
   have fin:∀(u v:Nat) (G:Hp) (t:Addr),pt.qT=[(u,v)]->KB [] H5 G->G t=none->M [some (.ref ra),some (.ref D),some (.str pt.kd),some pt.v] (upd (upd G t (.tup [.int (u:Nat),.int (v:Nat)])) D (.lst (ps.map V.ref++[.ref t]))):=λu v G t ec kG ht=>by
    rw[hM];have kt':=KB.new (ex:=[]) (o:=.tup [.int (u:Nat),.int (v:Nat)]) ht;have st':upd G t (.tup [.int (u:Nat),.int (v:Nat)]) t=some (.tup [.int (u:Nat),.int (v:Nat)]):=aa;generalize upd G t (.tup [.int (u:Nat),.int (v:Nat)])=G2 at *;have k52:=kG.trans kt';have hD2:=k52 _ _ h25 (by simp)
    have nt:=uF hD2;refine⟨ps++[t],_,_,hlt,λb o e _=>by rw[ae (ao e hDH)];exact k52 _ _ (hk5 _ _ e (by simp)) (by simp),by rw[ae (λz=>by rw[z] at h15;rw[h25] at h15;cases h15)];exact k52 _ _ h15 (by simp),by rw[aa,Kv];rfl,?_,rfl⟩
    rw[et,ec,<- L5];exact ((h35.keep k52 (NT.nil _)).snoc (q:=t) (x:=(u,v)) st').keep (KB.set (ex:=[D]) (by simp)) nt
   cases pt with
   |box b =>
    obtain⟨e1,e2⟩:=xI (b:=b) pok;walk_at "rz";rw[Kj (show (Pk.box b).kd=Str.ofString "box" from rfl)];refine⟨.inl ⟨rfl,_,bB.of h25⟩,tyB _,aB,GD,cS b,b,rfl,sB _,rfl,e1,e2,by decide,λt ht=>?_⟩
    have h26:upd H5 t (.tup [.int 2,.int (b:Nat)]) D=some (.lst (ps.map V.ref)):=by rw[ae (ao h25 ht)];exact h25
    exact⟨D,_,_,rfl,rfl,h26,Lm (show _<=10 by rw[Kc];lia) (by decide),fin 2 b H5 t rfl (KB.refl _ _) ht⟩
   |num n =>
    walk_at "rz";rw[Ki (show ¬ (Pk.num n).kd=Str.ofString "box" from (by decide +kernel:¬ Str.ofString "number"=Str.ofString "box")),Kj (show (Pk.num n).kd=Str.ofString "number" from rfl)]
    refine⟨.inl ⟨rfl,_,bB.of h25⟩,rfl,(n:Int),rfl,rfl,by decide,λt ht=>?_⟩
    have h26:upd H5 t (.tup [.int 1,.int (bN n:Nat)]) D=some (.lst (ps.map V.ref)):=by rw[ae (ao h25 ht)];exact h25
    exact⟨D,_,_,rfl,rfl,h26,Lm (show _<=10 by rw[Kc];lia) (by decide),fin 1 (bN n) H5 t rfl (KB.refl _ _) ht⟩
   |goal g =>
    walk_at "rz";rw[Ki (show ¬ (Pk.goal g).kd=Str.ofString "box" from (by decide +kernel:¬ Str.ofString "goal"=Str.ofString "box")),Ki (show ¬ (Pk.goal g).kd=Str.ofString "number" from (by decide +kernel:¬ Str.ofString "goal"=Str.ofString "number"))]
    rw[hM];exact⟨ps,_,_,hlt,hk5,h15,h25,by rw[et];show yZ H5 ps ((0,r.wi)::((r.gz.take i).flatMap Pk.qT++[]));rw[Lb];exact h35,rfl⟩
  ·rintro σ H' ⟨ps,o2,o3,hi,hk,h1,h2,h3,rfl⟩;show N _ _;rw[hN];clear hN N;walk_at "rz";refine q D ps H' hDH hk h2 ?_;rw[Kc,Kc,Li] at h3;exact h3
theorem ql(hn:xs.length<=sizeLine)(Pv:Addr->Nat->List V->Hp->Prop)(h0:∀D,H D=none->Pv D 0 [] (upd H D (.lst [])))(hD:∀D i ys H',Pv D i ys H'->H' D=some (.lst ys)/\ys.length=i)
  (hl:∀D i ys H',Pv D i ys H'->bB K H' a xs)
  (hs:∀D i ys H' x,xs[i]?=some x->Pv D i ys H'->∃q u v,x=.ref q/\H' q=some (.tup [u,v])/\∀R:VK,(∀v H5,H5 D=some (.lst ys)->Pv D (i+1) (ys++[v]) (upd H5 D (.lst (ys++[v])))->R v H5)->te (some u::some v::σ) H' R) (hd:∀D ys H',Pv D xs.length ys H'->Q (.ref D) H') :
  j5 (xt K a) 2 (ma K 2 (dX (bp 0) (dX (bp 1) lU))) dW te Q σ H:=by
 intro D hD0;refine⟨λi m ys σ' H'=>m=xs.length-i/\i<=xs.length/\Pv D i ys H'/\∃o1 o2,σ'=o1::o2::σ,⟨xs.length,by simp,Kz _,h0 D hD0,none,none,rfl⟩,?_⟩
 rintro i m ys σ' H' ⟨rfl,hi,p,o1,o2,rfl⟩;obtain⟨hDi,hly⟩:=hD _ _ _ _ p;have q:=hl _ _ _ _ p;refine⟨hDi,?_⟩;by_cases hlt:i<xs.length
 ·refine .inr ⟨⟨xs,xs[i],q,by simp[hlt]⟩,by lia,λx H2 y=>?_⟩
  obtain⟨rfl,y⟩:=y;obtain⟨t,u,v,rfl,ht,h⟩:=hs D i ys H2 x (y xs q) p;refine⟨t,[u,v],rfl,aY.of ht,rfl,u,[v],rfl,v,[],rfl,rfl,?_⟩;unfold dW;dsimp only;rw[if_pos rfl];exact h _ λv H5 q1 q2=>⟨q1,xs.length-(i+1),by lia,rfl,hlt,q2,_,_,rfl⟩
 ·have e:i=xs.length:=by lia
  subst e;exact .inl ⟨⟨xs,q,Kk _⟩,hd D ys H' p⟩
noncomputable def tD(K:PJ):Sp:=λvs H Q _=>∃(ra ca:Addr) (r:Row) (k:Nat) (cd:List (List (List Nat))),vs=[.ref ra,.ref ca]/\H ra=some (.tup r.vs)/\r.Ok k/\vd H ca cd/\Cd cd/\∀H',KB [] H H'->Q (.str (wd (bK cd r))) H'
theorem yB(T:Txt K mg)(F:HasFn K mg "bits_ahead_of_goal" bF ["row","codes"])(hcoded_things:au P w K mg base aZ 1 "coded_things" ["row"] lA)(hfigures_behind_first:au P w K mg base aZ 2 "figures_behind_first" ["number"] mD):au P w K mg base aZ 3 "bits_ahead_of_goal" ["row","codes"] (tD K):=by
 refine F.fL d8 (λvs H Q E h=>?_) (λf cdv A outer s H vs Q E hr h=>?_)
 ·obtain⟨ra,ca,r,k,cd,rfl,_⟩:=h;rfl
 ·have hu:=aS hr;obtain⟨ra,ca,r,k,cd,rfl,hra,ba,eW,hC,q⟩:=h;refine⟨_,(Z.aq (Z.set (i:=2) d8.nd rfl (by right) (Z.bm K rfl PySem.F.plainAttrs_str PySem.F.slot_str_join PySem.F.type_str_join (Z.yN K rfl) Z.str (Z.cons (Z.comp (osc:=af bF) (ON:=["row","codes","bits"]) (own:=["which","thing"]) (N:=["which","thing","row","codes","bits"]) ⟨rfl,by decide +kernel,rfl,by decide +kernel,by decide +kernel,by decide +kernel,by decide +kernel,by decide +kernel⟩ rfl rfl rfl (Z.any K rfl (Z.fn hcoded_things (hr.mono (by decide)) rfl az (Z.cons (Z.v 0) Z.nil))) (λ_ _ _ _=>(Z.jc (n:=2) K rfl rfl (Z.bz (Z.aO (i:=0) (show List.Nodup (["which","thing","row","codes","bits"]:List Str) by decide +kernel) rfl (by right)) (Z.bz (Z.aO (i:=1) (show List.Nodup (["which","thing","row","codes","bits"]:List Str) by decide +kernel) rfl (by right)) Z.fA)))) (λ_ _ _ _=>Z.lV) (λ_ _ _ _=>(Z.ix (Z.aP K rfl hu) (Z.ix (Z.aP K rfl hu) (Z.v 3) (Z.v 0)) (Z.v 1)))) Z.nil)))
   (Z.aA (Z.ret (Z.BA (Z.bu b6 (Z.ix (Z.aP K rfl hu) (Z.v 0) Z.int) Z.str) (Z.op (Z.bf K rfl) (Z.v 2) (Z.fn hfigures_behind_first (hr.mono (by decide)) rfl az (Z.cons (Z.ix (Z.aP K rfl hu) (Z.v 0) (Z.un iq Z.int)) Z.nil))) (Z.v 2))))),?_⟩
  have a0:cL r.vs 0=some (.str r.wd):=by cases r<;>rfl
  refine ax λN hN=>?_;walk_at "rz";refine⟨rfl,ra,r,k,rfl,hra,ba,λD ps H1 hD k1 hD1 th=>?_⟩;exists aI hD1;have hcd1:vd H1 ca cd:=eW.keep k1 (by simp) (λb hb=>nomatch hb)
  have thl:=th.1;have cl:=oJ r;refine ql (xs:=ps.map V.ref) (Kn (show _<=3 by rw[Kc];lia) (by decide)) (λL i ys H'=>H1 L=none/\H' L=some (.lst ys)/\KB [] H1 H'/\i<=(cR r).length/\ys=(((cR r).take i).map λp=>wd (aU cd p)).map V.str) (λL hL=>⟨hL,aa,KB.new hL,Kz _,rfl⟩) (λL i ys H' h=>⟨h.2.1,by rw[h.2.2.2.2,Kc,Kc,K8];have:=h.2.2.2.1;lia⟩) (λL i ys H' h=>bB.of (h.2.2.1 _ _ hD1 (by simp))) ?_ ?_
  ·rintro L i ys H' x hx ⟨g0,g1,gk,hi,rfl⟩;obtain⟨c,ec,rfl⟩:∃c,ps[i]?=some c/\x=.ref c:=by
    rw[Kp] at hx;obtain⟨c,e,rfl⟩:=KD.mp hx;exact⟨c,e,rfl⟩
   have hlt:i<(cR r).length:=by have:=(Kf.mp ec).1;lia
   have er:=Ka hlt;have et:(cR r).take (i+1)=(cR r).take i++[(cR r)[i]]:=by rw[L9,er];rfl
   have hc:=gk _ _ (th.2 i c _ ec er) (by simp)
   have ck:=rL ba _ (K1 hlt);generalize (cR r)[i]=pr at *;refine⟨c,_,_,rfl,hc,λR kk=>?_⟩;have g:=hC.at ck;obtain⟨a0',a1',a2',y1,y2,y3,y4⟩:=hcd1;have y1':=gk _ _ y1 (by simp)
   obtain⟨ai,e1,e2⟩:∃ai,cL [V.ref a0',.ref a1',.ref a2'] (pr.1:Int)=some (.ref ai)/\H' ai=some (.tup (wV (cd.getD pr.1 []))):=by
    rcases ck with ⟨h,_⟩|⟨h,_⟩|⟨h,_⟩<;>rw[h]
    ·exact⟨a0',rfl,gk _ _ y2 (by simp)⟩
    ·exact⟨a1',rfl,gk _ _ y3 (by simp)⟩
    ·exact⟨a2',rfl,gk _ _ y4 (by simp)⟩
   have e3:cL (wV (cd.getD pr.1 [])) (pr.2:Int)=some (.str (wd (aU cd pr))):=b7 (by unfold wV;rw[Kp,g.2.1];rfl)
   exists aI y1',e1,aL e2,e3;exact kk _ _ g1 ⟨g0,aa,λu o e _=>by rw[ae (ao e g0)];exact gk _ _ e (by simp),hlt,by rw[et,Kv,Kv];rfl⟩
  rintro L ys H2 ⟨_,gL,k2,_,rfl⟩;rw[Kc,thl,Li] at gL;have k02:=k1.trans k2;have hl:=qQ hC ba;have e1:((cR r).map λp=>wd (aU cd p))=((cR r).map (aU cd)).map wd:=by rw[LP];rfl
  have e2:(((cR r).map λp=>wd (aU cd p)).map λx=>x.length).sum=((cR r).flatMap (aU cd)).length:=by
   rw[List.length_flatMap,LP];rfl
  refine⟨_,L,_,rfl,rfl,bB.of gL,?_,?_⟩
  ·rw[e2,show (Str.ofString "").length=0 from by decide +kernel];lia
  rw[e1,nU,<- List.flatMap_def];rw[hN];clear hN N;have hra2:=k02 _ _ hra (by simp)
  exists aL hra2,a0;have hh:bK cd r=(cR r).flatMap (aU cd)++gE r:=rfl;have qq:=q H2 k02;rw[hh] at qq;generalize (cR r).flatMap (aU cd)=y at *;by_cases hp:r.wd=Str.ofString "put"
  ·obtain⟨b,n,rfl⟩:∃b n,r=.put b n:=by
    cases r with
    |put b n=>exact⟨b,n,rfl⟩
    |two u b c=>exact absurd hp ((by decide +kernel:∀u,¬ w2 u=Str.ofString "put") u)
    |one u b=>exact absurd hp ((by decide +kernel:∀u,¬ w1 u=Str.ofString "put") u)
    |jump g=>exact absurd hp (show ¬ Str.ofString "jump"=Str.ofString "put" from by decide +kernel)
    |zero b g=>exact absurd hp (show ¬ Str.ofString "zero"=Str.ofString "put" from by decide +kernel)
    |halt=>exact absurd hp (show ¬ Str.ofString "halt"=Str.ofString "put" from by decide +kernel)
   rw[Kj hp];refine⟨n,rfl,ba.2,?_⟩;walk_at "rz";rw[lq,bA,bA];exact⟨Kn (show _<=200 by have:=hl.2;show y.length+(gE (.put b n)).length<=200;lia) (by decide),qq⟩
  ·rw[Ki hp];have et:gE r=[]:=by cases r<;>first|rfl|exact absurd rfl hp
   rw[et,Lb] at qq;exact qq
noncomputable def vv:Option Nat->Nat->V
 |none,_=>.aX
 |some _,w=>.int (w:Nat)
noncomputable def ip(gs:List (Option Nat))(ws:List Nat):List V:=List.zipWith vv gs ws
theorem xX(h:ws.length=gs.length):(ip gs ws).length=gs.length:=by unfold ip;rw[List.length_zipWith];lia
theorem oo{g:Option Nat}{w:Nat}(h1:gs[i]?=some g)(h2:ws[i]?=some w):(ip gs ws)[i]?=some (vv g w):=by
 unfold ip;rw[List.getElem?_zipWith,h1,h2]
def Ds:Sp:=λvs H Q _=>∃(g:Option Nat) (w:Nat),vs=[vv g w]/\w<3/\Q (.int (addW g w:Nat)) H
theorem FY(T:Txt K mg)(F:HasFn K mg "own_part" fQ ["width"]):au P w K mg base aZ 1 "own_part" ["width"] Ds:=by
 obtain⟨ah,hg_HEADS,kt_HEADS⟩:=T.nS;obtain⟨aw,hg_WIDTHS,kt_WIDTHS⟩:=T.j_;have hr_HEADS:RelV (.ref ah) (.ref ah):=rfl;have hr_WIDTHS:RelV (.ref aw) (.ref aw):=rfl;refine F.fL pY (λvs H Q E h=>?_) (λf cdv A outer s H vs Q E hr h=>?_)
 ·obtain⟨g,w,rfl,_⟩:=h;rfl
 ·have hu:=aS hr;obtain⟨g,k,rfl,hk,q⟩:=h;refine⟨_,(Z.aA (Z.ret (Z.BA (Z.bu eG (Z.v 0) Z.aX) Z.int (Z.op (Z.bf K rfl) (Z.cb (Z.c_ K rfl) rfl T.cU (by decide +kernel) (Z.cons (Z.ix (Z.hW K rfl) (Z.glob rfl hg_HEADS hr_HEADS) (Z.v 0)) Z.nil)) (Z.ix (Z.hW K rfl) (Z.glob rfl hg_WIDTHS hr_WIDTHS) (Z.v 0)))))),?_⟩
  cases g with
  |none =>
   unfold vv;walk_at "rz";exact q
  |some t =>
   have p2:cL [V.str (Str.ofString "0"),.str (Str.ofString "10"),.str (Str.ofString "11")] (k:Int)=some (.str (wd (dD k))):=by
    rcases lM hk with rfl|rfl|rfl
    ·exact K_ (λz=>some (V.str z)) (by decide +kernel)
    ·exact K_ (λz=>some (V.str z)) (by decide +kernel)
    ·exact K_ (λz=>some (V.str z)) (by decide +kernel)
   have p3:cL [V.int 4,.int 8,.int 16] (k:Int)=some (.int ((bH k:Nat):Int)):=by rcases lM hk with rfl|rfl|rfl<;>rfl
   unfold vv;walk_at "rz";rw[Ki (show ¬ V.int (k:Nat)=V.aX from λz=>nomatch z)];refine⟨ah,_,_,_,rfl,rfl,kt_HEADS H,p2,?_⟩;walk_at "rz";rw[bA];refine⟨Kn (show (dD k).length<=2 by rcases lM hk with rfl|rfl|rfl<;>decide) (by decide),aw,_,_,_,rfl,rfl,kt_WIDTHS H,p3,?_⟩
   walk_at "rz";rw[show ((dD k).length:Int)+(bH k:Nat)=((addW (some t) k:Nat):Int) by rcases lM hk with rfl|rfl|rfl<;>rfl]
   exact q
theorem vf{l:List Nat}{v:V}(h:(iV (nZ l))[i]?=some v):∃x:Nat,l[i]?=some x/\v=.int (x:Nat):=by
 unfold iV nZ at h;rw[LP,Kp] at h;obtain⟨x,e,rfl⟩:=KD.mp h;exact⟨x,e,rfl⟩
theorem eZ(l:List Nat):(iV (nZ l)).length=l.length:=by rw[aR,bj]
theorem sI{l:List Nat}(h:i<l.length):cL (iV (nZ l)) (i:Int)=some (.int ((l.getD i 0:Nat):Int)):=b7 (by unfold iV nZ;rw[LP,Kp,Ka h,Kt,Ka h];rfl)
theorem Cz{l:List Nat}(h:i<l.length):cL (iV (nZ (l.take (i+1)))) (-1)=some (.int ((l.getD i 0:Nat):Int)):=by
 have hi2:(l.take (i+1)).length=i+1:=by rw[K8];lia
 unfold cL jP;rw[Ki (by decide),Kj (by rw[eZ,hi2];lia),eZ,hi2,show -1+((i+1:Nat):Int)=(i:Int) by lia]
 show (iV (nZ (l.take (i+1))))[((i:Nat):Int).toNat]?=_;rw[KN];unfold iV nZ;rw[LP,Kp,Nj (MW i),Ka h,Kt,Ka h];rfl
noncomputable def kn(K:PJ):Sp:=λvs H Q _=>∃(a b:Addr) (k:Bool) (ss:List Nat) (gs:List (Option Nat)) (ws:List Nat),vs=[.ref a,.ref b]/\H a=some (.lst (iV (nZ ss)))/\iI K k H b (ip gs ws)/\(∀H',KB [] H H'->iI K k H' b (ip gs ws))/\gs.length=ss.length/\ws.length=ss.length/\ss.length<=64/\(∀w∈ws,w<3)/\∀d H',H d=none->KB [] H H'->H' d=some (.lst (iV (nZ (jf 0 ss gs ws))))->Q (.ref d) H'
theorem vZ(T:Txt K mg)(F:HasFn K mg "row_starts" ee ["sizes","widths"])(hown_part:au P w K mg base aZ 1 "own_part" ["width"] Ds):au P w K mg base aZ 2 "row_starts" ["sizes","widths"] (kn K):=by
 refine F.fL dE (λvs H Q E h=>?_) (λf cdv A outer s H vs Q E hr h=>?_)
 ·obtain⟨a,b,k,ss,gs,ws,rfl,_⟩:=h;rfl
 ·have hu:=aS hr;obtain⟨a,b,k,ss,gs,ws,rfl,ha,hb,hbk,h1,h2,h3,h4,q⟩:=h;have hl:=jS ss gs ws 0 h1 h2;have hat:=rX ss gs ws 0;obtain⟨l0,e0⟩:=nM 0 ss gs ws;refine⟨_,(Z.aq (Z.set (i:=2) dE.nd rfl (by right) (Z.lst (Z.cons Z.int Z.nil)))
   (Z.aq (Z.hV KR rfl (uK K rfl rfl T.oY (Z.cons (Z.v 0) (Z.cons (Z.v 1) Z.nil))) (Z.jc (n:=2) K rfl rfl (Z.bz (Z.aO (i:=3) dE.nd rfl (by right)) (Z.bz (Z.aO (i:=4) dE.nd rfl (by right)) Z.fA))) (Z.aA (Z.expr (Z.bm K rfl PySem.F.plainAttrs_list PySem.F.slot_list_append PySem.F.type_list_append cC (Z.v 2) (Z.cons (Z.op (Z.bf K rfl) (Z.op (Z.bf K rfl) (Z.ix (Z.aP K rfl hu) (Z.v 2) (Z.un iq Z.int)) (Z.v 3)) (Z.fn hown_part (hr.mono (by decide)) rfl az (Z.cons (Z.v 4) Z.nil))) Z.nil)))))
   (Z.aA (Z.ret (Z.v 2))))),?_⟩
  generalize oM:jf 0 ss gs ws=sp at *;refine ax λN hN=>?_;walk_at "rz";refine⟨by decide,λfd hfd=>?_⟩
  have k1:=KB.new (ex:=[]) (o:=.lst [.int 0]) hfd;have s1:upd H fd (.lst [.int 0]) fd=some (.lst (iV (nZ (sp.take 1)))):=by rw[aa,e0];rfl
  generalize upd H fd (.lst [.int 0])=H1 at *;rw[hN];clear hN N;refine ax λN hN=>?_;exists i7;refine⟨(true,a),(k,b),⟨rfl,rfl⟩,⟨_,bB.of (k1 _ _ ha (by simp))⟩,⟨_,hbk _ k1⟩,λn=>?_⟩
  refine iZ (xs:=iV (nZ ss)) (ys:=ip gs ws) (by rw[eZ,xX (by lia),h1]) (λi σ H'=>∃o3 o4:Option V,i<=ss.length/\KB [] H H'/\H' fd=some (.lst (iV (nZ (sp.take (i+1)))))/\σ=[some (.ref a),some (.ref b),some (.ref fd),o3,o4]) ⟨none,none,Kz _,k1,s1,rfl⟩ (λi σ H' ⟨_,_,_,k,_⟩=>⟨bB.of (k _ _ ha (by simp)),hbk _ k⟩) ?_ ?_
  ·rintro i x y σ H' p hx hy ⟨o3,o4,hi,hk,gf,rfl⟩ hp;obtain⟨s0,es,rfl⟩:=vf hx;have hlt:i<ss.length:=(Kf.mp es).1;have eg:=Ka (show i<gs.length by lia)
   have ew:=Ka (show i<ws.length by lia)
   have lw:=h4 _ (K1 (show i<ws.length by lia))
   generalize gs[i]'_=g at eg;generalize ws[i]'_=w0 at ew lw;have en:=hat i s0 g w0 es eg ew;rw[oo eg ew] at hy;cases hy;unfold bp;refine⟨p,_,rfl,aY.of aa,rfl,_,_,rfl,_,_,rfl,rfl,?_⟩;have k2:=hk.trans (KB.new (o:=.tup [.int (s0:Nat),vv g w0]) hp);have gf2:upd H' p (.tup [.int (s0:Nat),vv g w0]) fd=some (.lst (iV (nZ (sp.take (i+1))))):=by rw[ae (ao gf hp)];exact gf
   generalize upd H' p (.tup [.int (s0:Nat),vv g w0])=H2 at *;have et:sp.take (i+1+1)=sp.take (i+1)++[sp.getD (i+1) 0]:=by
    rw[L9,Kt,Ka (show i+1<sp.length by lia)];rfl
   have lst:=Cz (l:=sp) (i:=i) (by lia)
   dsimp only;refine qU λM hM=>?_;exists aI gf2,lst;refine⟨.inl ⟨rfl,_,bB.of gf2⟩,g,w0,rfl,lw,?_⟩;walk_at "rz";refine⟨fd,_,_,rfl,rfl,gf2,Nat.lt_of_le_of_lt (show _<=1000 by rw[eZ,List.length_take];lia) (by decide),?_⟩
   rw[hM];refine⟨_,_,hlt,λu o e _=>by rw[ae (ao e hfd)];exact k2 _ _ e (by simp),?_,rfl⟩
   rw[aa,et,en];unfold nZ;rw[Kv,fO];rfl
  ·rintro σ H' ⟨o3,o4,hi,hk,gf,rfl⟩;show N _ _;rw[hN];clear hN N;walk_at "rz";rw[La (by rw[hl,eZ];exact Kk _)] at gf
   exact q fd H' hfd hk gf
noncomputable def rS:Sp:=λvs H Q _=>∃(a b:Addr) (sp:List Nat) (gs:List (Option Nat)) (k t:Nat),vs=[.ref a,.ref b,.int (k:Nat)]/\H a=some (.lst (iV (nZ sp)))/\H b=some (.lst (gs.map cO))/\gs[k]?=some (some t)/\t<sp.length/\k+1<sp.length/\Q (.int (gh sp t k)) H
theorem B9(T:Txt K mg)(F:HasFn K mg "distance_of" dI ["starts","goals","row"]):au P w K mg base aZ 1 "distance_of" ["starts","goals","row"] rS:=by
 refine F.fL lF (λvs H Q E h=>?_) (λf cdv A outer s H vs Q E hr h=>?_)
 ·obtain⟨a,b,sp,gs,k,t,rfl,_⟩:=h;rfl
 ·have hu:=aS hr;obtain⟨a,b,sp,gs,k,t,rfl,ha,hb,hg,ht,hk,q⟩:=h;refine⟨_,(Z.aA (Z.ret (Z.op cW (Z.ix (Z.aP K rfl hu) (Z.v 0) (Z.ix (Z.aP K rfl hu) (Z.v 1) (Z.v 2))) (Z.ix (Z.aP K rfl hu) (Z.v 0) (Z.op (Z.bf K rfl) (Z.v 2) Z.int))))),?_⟩;have ag:cL (gs.map cO) (k:Int)=some (.int (t:Nat)):=b7 (by rw[Kp,hg];rfl)
  have as1:=sI ht;have as2:cL (iV (nZ sp)) ((k:Int)+1)=some (.int ((sp.getD (k+1) 0:Nat):Int)):=sI hk;exists aI hb,ag,aI ha,as1,as2;exact q
noncomputable def zR:Sp:=λvs H Q _=>∃(a b c:Addr) (sp:List Nat) (gs:List (Option Nat)) (ws:List Nat) (k t w:Nat),vs=[.ref a,.ref b,.ref c,.int (k:Nat)]/\H a=some (.lst (iV (nZ sp)))/\H b=some (.lst (gs.map cO))/\H c=some (.lst (ip gs ws))/\gs[k]?=some (some t)/\ws[k]?=some w/\w<3/\t<sp.length/\k+1<sp.length/\Q (.bl (AW w (gh sp t k))) H
theorem CS(T:Txt K mg)(F:HasFn K mg "fits" nV ["starts","goals","widths","row"])(hdistance_of:au P w K mg base aZ 1 "distance_of" ["starts","goals","row"] rS):au P w K mg base aZ 2 "fits" ["starts","goals","widths","row"] zR:=by
 obtain⟨ah,hg_HALVES,kt_HALVES⟩:=T.pQ;have hr_HALVES:RelV (.ref ah) (.ref ah):=rfl;refine F.fL tX (λvs H Q E h=>?_) (λf cdv A outer s H vs Q E hr h=>?_)
 ·obtain⟨a,b,c,sp,gs,ws,k,t,w,rfl,_⟩:=h;rfl
 ·have hu:=aS hr;obtain⟨a,b,c,sp,gs,ws,k,t,w0,rfl,ha,hb,hc,hg,hw,lw,ht,hk,q⟩:=h;refine⟨_,(Z.aq (Z.set (i:=4) tX.nd rfl (by right) (Z.ix (Z.hW K rfl) (Z.glob rfl hg_HALVES hr_HALVES) (Z.ix (Z.aP K rfl hu) (Z.v 2) (Z.v 3))))
   (Z.aA (Z.ret (Z.chain (Iv) (hZ) (Z.un iq (Z.v 4)) (Z.fn hdistance_of (hr.mono (by decide)) rfl az (Z.cons (Z.v 0) (Z.cons (Z.v 1) (Z.cons (Z.v 3) Z.nil)))) (Z.v 4))))),?_⟩
  have aw:cL (ip gs ws) (k:Int)=some (.int (w0:Nat)):=b7 (oo hg hw);have ah':cL [V.int 8,.int 128,.int 32768] (w0:Int)=some (.int (cT w0)):=by rcases lM lw with rfl|rfl|rfl<;>rfl
  refine ax λN hN=>?_;exists aI hc,aw;refine⟨ah,_,_,_,rfl,rfl,kt_HALVES H,ah',?_⟩;rw[hN];clear hN N;walk_at "rz";refine⟨a,b,sp,gs,k,t,rfl,ha,hb,hg,ht,hk,?_⟩;walk_at "rz";unfold AW at q;by_cases c1:-cT w0<=gh sp t k
  ·rw[Kj c1];rw[KG c1,P6] at q;exact q
  ·rw[Ki c1];rw[KH c1,Oa] at q;exact q
noncomputable def kU(sp:List Nat)(gs:List (Option Nat))(ws:List Nat)(k:Nat):Bool:=match gs[k]?,ws[k]? with
 |some (some t),some w=>!AW w (gh sp t k)
 |_,_=>false
noncomputable def eU(ss:List Nat)(gs:List (Option Nat))(ws:List Nat):Option Nat:=(List.range' 0 gs.length).find? (kU (jf 0 ss gs ws) gs ws)
noncomputable def tY(K:PJ):Sp:=λvs H Q _=>∃(a b c:Addr) (ss:List Nat) (gs:List (Option Nat)) (ws:List Nat),vs=[.ref a,.ref b,.ref c]/\H a=some (.lst (iV (nZ ss)))/\H b=some (.lst (gs.map cO))/\H c=some (.lst (ip gs ws))/\gs.length=ss.length/\ws.length=ss.length/\ss.length<=64/\(∀t,some t∈gs->t<=ss.length)/\(∀w∈ws,w<3)/\∀H',KB [] H H'->Q (xw (eU ss gs ws)) H'
theorem xT(T:Txt K mg)(F:HasFn K mg "first_too_narrow" cx ["sizes","goals","widths"])(hrow_starts:au P w K mg base aZ 2 "row_starts" ["sizes","widths"] (kn K))(hfits:au P w K mg base aZ 2 "fits" ["starts","goals","widths","row"] zR):au P w K mg base aZ 3 "first_too_narrow" ["sizes","goals","widths"] (tY K):=by
 refine F.fL cf (λvs H Q E h=>?_) (λf cdv A outer s H vs Q E hr h=>?_)
 ·obtain⟨a,b,c,ss,gs,ws,rfl,_⟩:=h;rfl
 ·have hu:=aS hr;obtain⟨a,b,c,ss,gs,ws,rfl,ha,hb,hc,h1,h2,h3,h5,h4,q⟩:=h;refine⟨_,(Z.aq (Z.set (i:=3) cf.nd rfl (by right) (Z.fn hrow_starts (hr.mono (by decide)) rfl az (Z.cons (Z.v 0) (Z.cons (Z.v 2) Z.nil))))
   (Z.aq (Z.hV KR rfl (Z.DM K rfl rfl T.eY (Z.cons (Z.v 1) Z.nil)) (Z.jc (n:=2) K rfl rfl (Z.bz (Z.aO (i:=4) cf.nd rfl (by right)) (Z.bz (Z.aO (i:=5) cf.nd rfl (by right)) Z.fA))) (Z.aA (Z.eF (Z.tw (Z.yO (Z.bu jR (Z.v 5) Z.aX) (Z.qE (Z.Cp (Z.wI K rfl (Z.fn hfits (hr.mono (by decide)) rfl az (Z.cons (Z.v 3) (Z.cons (Z.v 1) (Z.cons (Z.v 2) (Z.cons (Z.v 4) Z.nil)))))))))) (Z.aA (Z.ret (Z.v 4))) Z.bU)))
   (Z.aA (Z.ret Z.aX)))),?_⟩
  refine ax λN hN=>?_;walk_at "rz";refine⟨a,c,true,ss,gs,ws,rfl,ha,bB.of hc,λH' k=>bB.of (k _ _ hc (by simp)),h1,h2,h3,h4,λd H1 hd k1 g1=>?_⟩
  rw[hN];clear hN N;have sl:=jS ss gs ws 0 h1 h2;unfold eU at q;generalize jf 0 ss gs ws=sp at *;refine ax λN hN=>?_;walk_at "rz";refine⟨⟨_,bB.of (k1 _ _ hb (by simp))⟩,?_⟩
  refine lG (xs:=gs.map cO) (λi σ H'=>∃o4 o5:Option V,KB [] H H'/\H' d=some (.lst (iV (nZ sp)))/\i<=gs.length/\(List.range' i (gs.length-i)).find? (kU sp gs ws)=(List.range' 0 gs.length).find? (kU sp gs ws)/\σ=[some (.ref a),some (.ref b),some (.ref c),some (.ref d),o4,o5]) ⟨none,none,k1,g1,Kz _,rfl,rfl⟩ (λi σ H' _ h=>by obtain⟨_,_,k,_⟩:=h;exact bB.of (k _ _ hb (by simp))) ?_ ?_
  ·rintro i x σ H' p hx ⟨o4,o5,hk,gd,hi,ef,rfl⟩ hp;have hlt:i<gs.length:=by have:=(Kf.mp hx).1;rw[Kc] at this;exact this
   have eg:=Ka hlt;have gm:=K1 hlt;have ew:=Ka (show i<ws.length by lia)
   have lw:=h4 _ (K1 (show i<ws.length by lia))
   generalize gs[i]'_=g at eg gm;generalize ws[i]'_=w0 at ew lw;rw[Kp,eg] at hx;cases hx;rw[show gs.length-i=(gs.length-(i+1))+1 by lia,LS,LX] at ef
   unfold bp;refine⟨p,_,rfl,aY.of aa,rfl,_,_,rfl,_,_,rfl,rfl,?_⟩;have kz:=KB.new (ex:=[]) (o:=.tup [.int i,cO g]) hp;generalize upd H' p (.tup [.int i,cO g])=H2 at *;have hk2:=hk.trans kz;have gd2:=kz _ _ gd (by simp)
   dsimp only;refine qU λM hM=>?_;refine Et λA B hA hB=>?_;walk_at "rz";have go:kU sp gs ws i=false->∀G:Hp,KB [] H G->G d=some (.lst (iV (nZ sp)))->B [some (.ref a),some (.ref b),some (.ref c),some (.ref d),some (.int (i:Int)),some (cO g)] G:=λhf G kG gG=>by
    rw[hB];show M _ _;rw[hM];rw[hf] at ef;exact⟨_,_,kG,gG,hlt,ef,rfl⟩
   cases g with
   |none =>
    rw[Ki (show ¬ ¬ cO none=V.aX from λz=>z rfl)];exact go (by unfold kU;rw[eg]) _ hk2 gd2
   |some t =>
    rw[Kj (show ¬ cO (some t)=V.aX from λz=>nomatch z)];have ht:t<=ss.length:=h5 t gm;refine⟨d,b,c,sp,gs,ws,i,t,w0,rfl,gd2,hk2 _ _ hb (by simp),hk2 _ _ hc (by simp),eg,ew,lw,by lia,by lia,?_⟩
    have et:kU sp gs ws i=!AW w0 (gh sp t i):=by unfold kU;rw[eg,ew]
    refine⟨_,rfl,?_⟩
    cases co:AW w0 (gh sp t i) with
    |true=>
     rw[Ki (by decide)]
     exact go (by rw[et,co];rfl) _ hk2 gd2
    |false =>
     rw[Kj rfl,hA];rw[et,co] at ef;have ef':some i=(List.range' 0 gs.length).find? (kU sp gs ws):=ef;rw[<- ef'] at q;walk_at "rz";exact q _ hk2
  ·rintro σ H' ⟨o4,o5,hk,gd,hi,ef,rfl⟩;show N _ _;rw[hN];clear hN N;rw[Kc,L8] at ef;have ef':none=(List.range' 0 gs.length).find? (kU sp gs ws):=ef;rw[<- ef'] at q;walk_at "rz";exact q _ hk
noncomputable def p7:Sp:=λvs H Q _=>∃(b:Addr) (gs:List (Option Nat)),vs=[.ref b]/\H b=some (.lst (gs.map cO))/\gs.length<=64/\∀d H',H d=none->KB [] H H'->H' d=some (.lst (ip gs (List.replicate gs.length 0)))->Q (.ref d) H'
theorem Dl(gs:List (Option Nat)):ip gs (List.replicate gs.length 0)=gs.map λg=>vv g 0:=by
 induction gs with
 |nil=>rfl
 |cons g gs ih=>rw[Kq,KW,K9,<- ih];rfl
theorem wg(T:Txt K mg)(F:HasFn K mg "narrowest" dN ["goals"]):au P w K mg base aZ 1 "narrowest" ["goals"] p7:=by
 refine F.fL oy (λvs H Q E h=>?_) (λf cdv A outer s H vs Q E hr h=>?_)
 ·obtain⟨b,gs,rfl,_⟩:=h;rfl
 ·have hu:=aS hr;obtain⟨b,gs,rfl,hb,hl,q⟩:=h;refine⟨_,(Z.aA (Z.ret (Z.comp (osc:=af dN) (ON:=["goals"]) (own:=["goal"]) (N:=["goal","goals"]) ⟨rfl,by decide +kernel,rfl,by decide +kernel,by decide +kernel,by decide +kernel,by decide +kernel,by decide +kernel⟩ rfl rfl rfl (Z.any K rfl (Z.v 0)) (λ_ _ _ _=>(Z.aO (i:=0) (show List.Nodup (["goal","goals"]:List Str) by decide +kernel) rfl (by right))) (λ_ _ _ _=>Z.lV) (λ_ _ _ _=>(Z.BA (Z.bu eG (Z.v 0) Z.aX) Z.aX Z.int))))),?_⟩
  exists aI hb;refine gj (xs:=gs.map cO) (Kn (show _<=64 by rw[Kc];exact hl) (by decide)) (λD i ys H'=>H D=none/\H' D=some (.lst ys)/\KB [] H H'/\ys=((gs.take i).map λg=>vv g 0)/\i<=gs.length) (λD hD=>⟨hD,aa,KB.new hD,rfl,Kz _⟩) (λD i ys H' h=>⟨h.2.1,by rw[h.2.2.2.1,Kc,K8];have:=h.2.2.2.2;lia⟩) (λD i ys H' h=>bB.of (h.2.2.1 _ _ hb (by simp))) ?_ ?_
  ·rintro D i ys H' x R hx ⟨g0,g1,gk,rfl,hi⟩ kk;have hlt:i<gs.length:=by have:=(Kf.mp hx).1;rw[Kc] at this;exact this
   have eg:=Ka hlt;have et:gs.take (i+1)=gs.take i++[gs[i]]:=by rw[L9,eg];rfl
   rw[Kp,eg] at hx;cases hx;have fin:R (vv gs[i] 0) H':=kk _ _ g1 ⟨g0,aa,λu o e _=>by rw[ae (ao e g0)];exact gk _ _ e (by simp),by rw[et,Kv];rfl,hlt⟩
   walk_at "rz"
   cases hg:gs[i] with
   |none=>rw[hg] at fin;rw[Kj (show cO none=V.aX from rfl)];exact fin
   |some t=>rw[hg] at fin;rw[Ki (show ¬ cO (some t)=V.aX from λz=>nomatch z)];exact fin
  ·rintro D ys H' ⟨g0,g1,gk,rfl,hi⟩;refine q D H' g0 gk ?_;rw[g1,Kc,Li,Dl]
noncomputable def Az(ss:List Nat)(gs:List (Option Nat)):Nat->List Nat->List Nat
 |0,ws=>ws
 |m+1,ws=>match eU ss gs ws with
  |none=>ws
  |some k=>Az ss gs m (ws.set k (ws.getD k 0+1))
noncomputable def Ah(ss:List Nat)(gs:List (Option Nat)):List Nat:=Az ss gs (2*ss.length+1) (List.replicate ss.length 0)
theorem EE{gs:List (Option Nat)}{ws:List Nat}(hs:∀s∈ss,s<=150)(hn:ss.length<=64)(t k:Nat):AW 2 (gh (jf 0 ss gs ws) t k)=true:=by
 have h3:=xC (gs:=gs) (ws:=ws) hs t;have h4:=xC (gs:=gs) (ws:=ws) hs (k+1);unfold AW gh;rw[KG (show -cT 2<=_ by show -32768<=_;lia),KG (show _<cT 2 by show _<32768;lia)]
 rfl
theorem kM(hs:∀s∈ss,s<=150)(hn:ss.length<=64)(hl:ws.length=ss.length)(hg:gs.length=ss.length)(hw:∀w∈ws,w<3)(h:eU ss gs ws=some k):∃t w,gs[k]?=some (some t)/\ws[k]?=some w/\w<2:=by
 have h1:=List.find?_some h;have h2:=OB h;unfold kU at h1;have hk:k<gs.length:=by have:=List.mem_range'.mp h2;obtain⟨i,hi,e⟩:=this;lia
 have eg:=Ka hk;have ew:=Ka (show k<ws.length by lia)
 have lw:=hw _ (K1 (show k<ws.length by lia))
 rw[eg,ew] at h1;generalize gs[k]'_=g at *;generalize ws[k]'_=w at *
 cases g with
 |none=>cases h1
 |some t =>
  refine⟨t,w,eg,ew,?_⟩;rcases Lh w 2 with c|c
  ·exact c
  ·have:w=2:=by lia
   subst this
   replace h1:(!AW 2 (gh (jf 0 ss gs ws) t k))=true:=h1
   rw[EE hs hn t k] at h1;cases h1
theorem so(h:eU ss gs ws=none):Bv ss gs ws:=λk t w h1 h2=>by
 have hk:k<gs.length:=(Kf.mp h1).1;have:=List.find?_eq_none.mp h k (List.mem_range'.mpr ⟨k,hk,by lia⟩)
 unfold kU at this;rw[h1,h2] at this
 simpa using this
theorem vp{l:List Nat}{w:Nat}(h:l[k]?=some w):(l.set k (l.getD k 0+1)).sum=l.sum+1:=by
 induction l generalizing k with
 |nil=>cases h
 |cons x l ih =>
  cases k with
  |zero=>show ((x+1)::l).sum=_;rw[M8,M8];lia
  |succ k=>show (x::l.set k (l.getD k 0+1)).sum=_;rw[M8,M8,ih (by simpa using h)];lia
theorem EZ{v:Nat}(h:gs[k]?=some (some t)):(ip gs ws).set k (.int (v:Nat))=ip gs (ws.set k v):=by
 induction gs generalizing ws k with
 |nil=>cases h
 |cons g gs ih =>
  cases ws with
  |nil=>rfl
  |cons w ws =>
   cases k with
   |zero=>cases h;rfl
   |succ k=>show vv g w::(ip gs ws).set k _=vv g w::ip gs (ws.set k v);rw[ih (by simpa using h)]
structure Wy (ss:List Nat) (gs:List (Option Nat)) (ws:List Nat):Prop where
 len:ws.length=ss.length
 lt:∀w∈ws,w<3
 to:Az ss gs (2*ss.length+1-ws.sum) ws=Ah ss gs
theorem Wy.zero(ss:List Nat)(gs:List (Option Nat)):Wy ss gs (List.replicate ss.length 0):=⟨Kw ..,λw hw=>by rw[(Lz.mp hw).2];decide,by rw[MN,PH];rfl⟩
theorem Wy.next(h:Wy ss gs ws)(hs:∀s∈ss,s<=150)(hn:ss.length<=64)(hg:gs.length=ss.length)(hf:eU ss gs ws=some k):Wy ss gs (ws.set k (ws.getD k 0+1))/\(ws.set k (ws.getD k 0+1)).sum=ws.sum+1/\ws.sum<2*ss.length:=by
 obtain⟨t,w,e1,e2,e3⟩:=kM hs hn h.len hg h.lt hf;have es:=vp e2;have eg:ws.getD k 0=w:=by rw[Kt,e2];rfl
 have hlt:∀x∈ws.set k (ws.getD k 0+1),x<3:=λx hx=>by
  rcases Lr hx with z|z
  ·exact h.lt x z
  ·rw[z,eg];lia
 have hb:=jO hlt;rw[Ld,h.len,es] at hb;refine⟨⟨by rw[Ld,h.len],hlt,?_⟩,es,by lia⟩
 rw[es,<- h.to,show 2*ss.length+1-ws.sum=(2*ss.length+1-(ws.sum+1))+1 by lia,Az,hf]
theorem Wy.done(h:Wy ss gs ws)(hf:eU ss gs ws=none):Ah ss gs=ws:=by
 rw[<- h.to];have hb:=jO h.lt;rw[h.len] at hb;rw[show 2*ss.length+1-ws.sum=(2*ss.length-ws.sum)+1 by lia,Az,hf]
theorem Wy.fit(hs:∀s∈ss,s<=150)(hn:ss.length<=64)(hg:gs.length=ss.length):∀(m:Nat) (ws:List Nat),Wy ss gs ws->2*ss.length+1-ws.sum<=m->Wy ss gs (Ah ss gs)/\Bv ss gs (Ah ss gs)
 |0,ws,h,hm=>by
  have hb:=jO h.lt;rw[h.len] at hb;lia
 |m+1,ws,h,hm=>by
  cases hf:eU ss gs ws with
  |none=>rw[h.done hf];exact⟨h,so hf⟩
  |some k =>
   obtain⟨h1,h2,h3⟩:=h.next hs hn hg hf;exact Wy.fit hs hn hg m _ h1 (by lia)
theorem Hx(hs:∀s∈ss,s<=150)(hn:ss.length<=64)(hg:gs.length=ss.length):(Ah ss gs).length=ss.length/\(∀w∈Ah ss gs,w<3)/\Bv ss gs (Ah ss gs):=by
 obtain⟨h1,h2⟩:=Wy.fit hs hn hg _ _ (Wy.zero ss gs) (Kk _);exact⟨h1.len,h1.lt,h2⟩
noncomputable def pC(K:PJ):Sp:=λvs H Q _=>∃(a b:Addr) (ss:List Nat) (gs:List (Option Nat)),vs=[.ref a,.ref b]/\H a=some (.lst (iV (nZ ss)))/\H b=some (.lst (gs.map cO))/\gs.length=ss.length/\ss.length<=64/\(∀s∈ss,s<=150)/\(∀t,some t∈gs->t<=ss.length)/\∀t u v H',KB [] H H'->H' t=some (.tup [.ref u,v])->H' u=some (.tup (ip gs (Ah ss gs)))->Q (.ref t) H'
theorem v_(T:Txt K mg)(F:HasFn K mg "raised_till_good" cw ["sizes","goals"])(hnarrowest:au P w K mg base aZ 1 "narrowest" ["goals"] p7)(hfirst_too_narrow:au P w K mg base aZ 3 "first_too_narrow" ["sizes","goals","widths"] (tY K)):au P w K mg base aZ 4 "raised_till_good" ["sizes","goals"] (pC K):=by
 obtain⟨uW,hg_WIDEST,hr_WIDEST⟩:=T.yj;refine F.fL bI (λvs H Q E h=>?_) (λf cdv A outer s H vs Q E hr h=>?_)
 ·obtain⟨a,b,ss,gs,rfl,_⟩:=h;rfl
 ·have hu:=aS hr;obtain⟨a,b,ss,gs,rfl,ha,hb,hg,hn,hs,ht,q⟩:=h;refine⟨_,(Z.aq (Z.set (i:=2) bI.nd rfl (by right) (Z.fn hnarrowest (hr.mono (by decide)) rfl az (Z.cons (Z.v 1) Z.nil)))
   (Z.aq (Z.set (i:=3) bI.nd rfl (by right) (Z.lst Z.nil))
   (Z.aq (Z.set (i:=4) bI.nd rfl (by right) (Z.fn hfirst_too_narrow (hr.mono (by decide)) rfl az (Z.cons (Z.v 0) (Z.cons (Z.v 1) (Z.cons (Z.v 2) Z.nil)))))
   (Z.aq (Z.oG KR (Z.bu jR (Z.v 4) Z.aX) (Z.aq (Z.eF (Z.bu b6 (Z.ix (Z.aP K rfl hu) (Z.v 2) (Z.v 4)) (Z.glob rfl hg_WIDEST hr_WIDEST)) (Z.aA Z.Jv) Z.bU)
   (Z.aq (Z.asg (Z.op (Z.bf K rfl) (Z.ix (Z.aP K rfl hu) (Z.v 2) (Z.v 4)) Z.int) (Z.pJ (Z.v 2) (Z.v 4)))
   (Z.aq (Z.expr (Z.bm K rfl PySem.F.plainAttrs_list PySem.F.slot_list_append PySem.F.type_list_append cC (Z.v 3) (Z.cons (Z.v 4) Z.nil)))
   (Z.aA (Z.set (i:=4) bI.nd rfl (by right) (Z.fn hfirst_too_narrow (hr.mono (by decide)) rfl az (Z.cons (Z.v 0) (Z.cons (Z.v 1) (Z.cons (Z.v 2) Z.nil))))))))))
   (Z.aA (Z.ret (Z.tup (Z.cons (Z.ct (Z.cc K rfl) rfl T.cg (by decide +kernel) (Z.cons (Z.v 2) Z.nil)) (Z.cons (Z.ct (Z.cc K rfl) rfl T.cg (by decide +kernel) (Z.cons (Z.v 3) Z.nil)) Z.nil))))))))),?_⟩
  refine ax λN hN=>?_;walk_at "rz";refine⟨b,gs,rfl,hb,by lia,λd H1 hd k1 g1=>?_⟩
  rw[hg] at g1;rw[hN];clear hN N;refine ax λN hN=>?_;walk_at "rz";refine⟨Kz _,λpp hpp=>?_⟩;have k2:=KB.new (ex:=[]) (o:=.lst []) hpp;have s2:upd H1 pp (.lst []) pp=some (.lst (iV (nZ []))):=aa;generalize upd H1 pp (.lst [])=H2 at *;have g2:=k2 _ _ g1 (by simp)
  have k02:=k1.trans k2;have hppH:H pp=none:=k1.free (by simp) hpp
  have dpp:d≠pp:=λz=>by rw[z,hpp] at g1;cases g1
  rw[hN];clear hN N;refine ax λN hN=>?_;walk_at "rz";have wy0:=Wy.zero ss gs;refine⟨a,b,d,ss,gs,_,rfl,k02 _ _ ha (by simp),k02 _ _ hb (by simp),g2,hg,wy0.len,hn,ht,wy0.lt,λH3 k3=>?_⟩
  rw[hN];clear hN N;have k03:=k02.trans k3;have g3:=k3 _ _ g2 (by simp)
  have s3:=k3 _ _ s2 (by simp)
  refine ax λN hN=>?_;refine⟨λm σ H'=>∃(ws pa:List Nat),m=2*ss.length-ws.sum/\Wy ss gs ws/\pa.length=ws.sum/\KB [] H H'/\H' d=some (.lst (ip gs ws))/\H' pp=some (.lst (iV (nZ pa)))/\σ=[some (.ref a),some (.ref b),some (.ref d),some (.ref pp),some (xw (eU ss gs ws))],⟨2*ss.length,_,[],by rw[MN,PH];rfl,wy0,by rw[MN,PH];rfl,k03,g3,s3,rfl⟩,?_⟩
  rintro m σ H' ⟨ws,pa,rfl,wy,hpa,hk,gd,gp,rfl⟩;walk_at "rz"
  cases hf:eU ss gs ws with
  |none =>
   rw[Ki (show ¬ ¬ xw none=V.aX from λz=>z rfl)];show N _ _;rw[hN];clear hN N;rw[wy.done hf] at q;exists aI gd;intro u hu';have k5:=KB.new (ex:=[]) (o:=.tup (ip gs ws)) hu';have s5:upd H' u (.tup (ip gs ws)) u=_:=aa;have gp5:=k5 _ _ gp (by simp)
   generalize upd H' u (.tup (ip gs ws))=H5 at *;exists aI gp5;intro u2 hu2;have k6:=KB.new (ex:=[]) (o:=.tup (iV (nZ pa))) hu2;have s6:=k6 _ _ s5 (by simp)
   generalize upd H5 u2 (.tup (iV (nZ pa)))=H6 at *;refine⟨by decide,λt ht=>?_⟩
   have k7:=KB.new (ex:=[]) (o:=.tup [.ref u,.ref u2]) ht;exact q t u _ _ (hk.trans (k5.trans (k6.trans k7))) aa (k7 _ _ s6 (by simp))
  |some k =>
   rw[Kj (show ¬ xw (some k)=V.aX from λz=>nomatch z)];obtain⟨t,w0,e1,e2,e3⟩:=kM hs hn wy.len hg wy.lt hf;obtain⟨wn,ws1,ws2⟩:=wy.next hs hn hg hf;refine⟨λσ' H'=>∃m',m'<2*ss.length-ws.sum/\∃(ws pa:List Nat),m'=2*ss.length-ws.sum/\Wy ss gs ws/\pa.length=ws.sum/\KB [] H H'/\H' d=some (.lst (ip gs ws))/\H' pp=some (.lst (iV (nZ pa)))/\σ'=[some (.ref a),some (.ref b),some (.ref d),some (.ref pp),some (xw (eU ss gs ws))],λ_ _ h=>h,?_⟩;have aw:cL (ip gs ws) (k:Int)=some (.int (w0:Nat)):=b7 (oo e1 e2);have eg:ws.getD k 0=w0:=by rw[Kt,e2];rfl
   rw[eg] at wn ws1;show Dd K (V.ref d) (.int (k:Nat)) H' _;exists aI gd,aw;have c2:¬ (w0:Int)=2:=by lia
   have c3:jP (ip gs ws).length (k:Int)=some k:=by
    have hkl:=(Kf.mp e2).1;have:=wy.len;rw[xX (by lia)]
    unfold jP;rw[Kj (by lia),Kj (by lia),KN]
   rw[Ki c2];show Dd K (V.ref d) (.int (k:Nat)) H' _;exists aI gd,aw;show Aj (V.ref d) (.int (k:Nat)) (.int ((w0:Int)+1)) H' _;exists gd,c3;rw[show ((w0:Int)+1)=((w0+1:Nat):Int) from rfl,EZ e1];have hdd:H d=none:=hd;have kd:KB [] H (upd H' d (.lst (ip gs (ws.set k (w0+1))))):=λu o e z=>by rw[ae (ao e hdd)];exact hk _ _ e z
   have gd5:upd H' d (.lst (ip gs (ws.set k (w0+1)))) d=_:=aa;have gp5:upd H' d (.lst (ip gs (ws.set k (w0+1)))) pp=some (.lst (iV (nZ pa))):=by rw[ae dpp.symm];exact gp
   generalize upd H' d (.lst (ip gs (ws.set k (w0+1))))=H5 at *;refine⟨.inl ⟨rfl,_,bB.of gp5⟩,pp,_,_,rfl,rfl,gp5,Lm (show _<=1000 by rw[eZ,hpa];lia) (by decide),?_⟩
   have kp:KB [] H (upd H5 pp (.lst (iV (nZ pa)++[xw (some k)]))):=λu o e z=>by rw[ae (ao e hppH)];exact kd _ _ e z
   have gd6:upd H5 pp (.lst (iV (nZ pa)++[xw (some k)])) d=some (.lst (ip gs (ws.set k (w0+1)))):=by rw[ae dpp];exact gd5
   have gp6:upd H5 pp (.lst (iV (nZ pa)++[xw (some k)])) pp=some (.lst (iV (nZ (pa++[k])))):=by rw[aa];unfold nZ;rw[Kv,fO];rfl
   generalize upd H5 pp (.lst (iV (nZ pa)++[xw (some k)]))=H6 at *;refine⟨a,b,d,ss,gs,_,rfl,kp _ _ ha (by simp),kp _ _ hb (by simp),gd6,hg,wn.len,hn,ht,wn.lt,λH7 k7=>?_⟩
   exact⟨2*ss.length-(ws.sum+1),by lia,ws.set k (w0+1),pa++[k],by rw[ws1],wn,by rw[Ke,ws1,hpa];rfl,kp.trans k7,k7 _ _ gd6 (by simp),k7 _ _ gp6 (by simp),rfl⟩
noncomputable def p_(K:PJ):Sp:=λvs H Q _=>∃(a b:Addr) (ss:List Nat) (gs:List (Option Nat)),vs=[.ref a,.ref b]/\H a=some (.lst (iV (nZ ss)))/\H b=some (.lst (gs.map cO))/\gs.length=ss.length/\ss.length<=64/\(∀s∈ss,s<=150)/\(∀t,some t∈gs->t<=ss.length)/\∀u H',KB [] H H'->H' u=some (.tup (ip gs (Ah ss gs)))->Q (.ref u) H'
theorem wL(T:Txt K mg)(F:HasFn K mg "least_widths" dk ["sizes","goals"])(hraised_till_good:au P w K mg base aZ 4 "raised_till_good" ["sizes","goals"] (pC K)):au P w K mg base aZ 5 "least_widths" ["sizes","goals"] (p_ K):=by
 refine F.fL jB (λvs H Q E h=>?_) (λf cdv A outer s H vs Q E hr h=>?_)
 ·obtain⟨a,b,ss,gs,rfl,_⟩:=h;rfl
 ·have hu:=aS hr;obtain⟨a,b,ss,gs,rfl,ha,hb,hg,hn,hs,ht,q⟩:=h;refine⟨_,(Z.aA (Z.ret (Z.ix (Z.aP K rfl hu) (Z.fn hraised_till_good (hr.mono (by decide)) rfl az (Z.cons (Z.v 0) (Z.cons (Z.v 1) Z.nil))) Z.int))),?_⟩
  walk_at "rz";refine⟨a,b,ss,gs,rfl,ha,hb,hg,hn,hs,ht,λt u v H' k h1 h2=>?_⟩;exists aL h1,BQ;exact q u H' k h2
noncomputable def qe:Sp:=λvs H Q _=>∃(c:Addr) (ks:List Nat),vs=[.ref c,.int 12]/\H c=some (.tup (iV (nZ ks)))/\8<=ks.length/\ks.length<=17/\∀(ls:List Int) a H',KB [] H H'->H' a=some (.tup (iV ls))->ls.length=ks.length->jk ls->lN ls=true->Q (.ref a) H'
structure C5 (H H0:Hp) (sa a0 a1 a2:Addr) (k0 k1 k2:List Nat):Prop where
 s:H sa=some (.lst [.ref a0,.ref a1,.ref a2])
 h0:H a0=some (.lst (iV (nZ k0)))
 h1:H a1=some (.lst (iV (nZ k1)))
 h2:H a2=some (.lst (iV (nZ k2)))
 l0:k0.length=9
 l1:k1.length=17
 l2:k2.length=8
theorem C5.kb{H0:Hp}{sa a0 a1 a2:Addr}(h:C5 H H0 sa a0 a1 a2 k0 k1 k2)(k:KB [] H H'):C5 H' H0 sa a0 a1 a2 k0 k1 k2:=⟨k _ _ h.s (by simp),k _ _ h.h0 (by simp),k _ _ h.h1 (by simp),k _ _ h.h2 (by simp),h.l0,h.l1,h.l2⟩
theorem C5.put{H0:Hp}{sa a0 a1 a2:Addr}(h:C5 H H0 sa a0 a1 a2 k0 k1 k2)(hn:[a0,a1,a2].Nodup){pr:Nat×Nat}(ck:(pr.1=0/\pr.2<9)\/(pr.1=1/\pr.2<17)\/(pr.1=2/\pr.2<8)):∃(aw:Addr) (kw:List Nat),cL [V.ref a0,.ref a1,.ref a2] (pr.1:Int)=some (.ref aw)/\H aw=some (.lst (iV (nZ kw)))/\pr.2<kw.length/\aw∈[a0,a1,a2]/\∀x:Nat,∃k0 k1 k2,C5 (upd H aw (.lst (iV (nZ (kw.set pr.2 x))))) H0 sa a0 a1 a2 k0 k1 k2:=by
 have ns:∀{b:Addr} {k:List Nat},H b=some (.lst (iV (nZ k)))->3<k.length->sa≠b:=λ{b k} e hk z=>by
  have:=h.s;rw[z,e] at this;have e2:=K_ List.length (HO.lst.inj (Option.some.inj this));rw[aR,bj] at e2;simp at e2;lia
 have l0:=h.l0;have l1:=h.l1;have l2:=h.l2;have s0:=ns h.h0 (by lia)
 have s1:=ns h.h1 (by lia)
 have s2:=ns h.h2 (by lia)
 simp only[LG,Kl,K7,Lp,not_or] at hn;obtain⟨⟨n01,n02⟩,n12,_⟩:=hn;rcases ck with ⟨e,hp⟩|⟨e,hp⟩|⟨e,hp⟩<;>rw[e]
 ·exact⟨a0,k0,rfl,h.h0,by lia,by simp,λx=>⟨k0.set pr.2 x,k1,k2,by rw[ae s0];exact h.s,aa,by rw[ae (L0 n01)];exact h.h1,by rw[ae (L0 n02)];exact h.h2,by rw[Ld];exact l0,l1,l2⟩⟩
 ·exact⟨a1,k1,rfl,h.h1,by lia,by simp,λx=>⟨k0,k1.set pr.2 x,k2,by rw[ae s1];exact h.s,by rw[ae n01];exact h.h0,aa,by rw[ae (L0 n12)];exact h.h2,l0,by rw[Ld];exact l1,l2⟩⟩
 ·exact⟨a2,k2,rfl,h.h2,by lia,by simp,λx=>⟨k0,k1,k2.set pr.2 x,by rw[ae s2];exact h.s,by rw[ae n02];exact h.h0,by rw[ae n12];exact h.h1,aa,l0,l1,by rw[Ld];exact l2⟩⟩
theorem wG(T:Txt K mg)(F:HasFn K mg "book_of" eA ["program","counts"])(hcoded_things:au P w K mg base aZ 1 "coded_things" ["row"] lA)(hleast_lengths:au P w K mg base aZ 6 "least_lengths" ["counts","bound"] qe):au P w K mg base aZ 7 "book_of" ["program","counts"] p0:=by
 obtain⟨aH,hg_HOW_MANY,sH⟩:=T.rQ;have hr_HOW_MANY:RelV (.ref aH) (.ref aH):=rfl;obtain⟨uL,hg_LONGEST,hr_LONGEST⟩:=T.vP;refine F.fL dA (λvs H Q E h=>?_) (λf cdv A outer s H vs Q E hr h=>?_)
 ·obtain⟨a,c,rs,ks,rfl,_⟩:=h;rfl
 ·have hu:=aS hr;obtain⟨a,c,rs,ks,rfl,hp,hl,ba,hc,hkl,hk40,q⟩:=h;refine⟨_,(Z.aq (Z.setC (j:=2) dA.nd rfl (by right) (osc:=af eA) (ON:=["program","counts","sums","row","count","which","thing"]) (own:=["many"]) (N:=["many","program","counts","sums","row","count","which","thing"]) ⟨rfl,by decide +kernel,rfl,by decide +kernel,by decide +kernel,by decide +kernel,by decide +kernel,by decide +kernel⟩ rfl rfl rfl (Z.seq K rfl (Z.glob rfl hg_HOW_MANY hr_HOW_MANY)) (λ_ _ _ _=>(Z.aO (i:=0) (show List.Nodup (["many","program","counts","sums","row","count","which","thing"]:List Str) by decide +kernel) rfl (by right))) (λ_ _ _ _=>Z.lV) (λ_ _ _ _=>(Z.op cK (Z.lst (Z.cons Z.int Z.nil)) (Z.v 0))))
   (Z.aq (Z.hV KR rfl (uK K rfl rfl T.oY (Z.cons (Z.v 0) (Z.cons (Z.v 1) Z.nil))) (Z.jc (n:=2) K rfl rfl (Z.bz (Z.aO (i:=3) dA.nd rfl (by right)) (Z.bz (Z.aO (i:=4) dA.nd rfl (by right)) Z.fA))) (Z.aA (Z.hV KR rfl (Z.any K rfl (Z.fn hcoded_things (hr.mono (by decide)) rfl az (Z.cons (Z.v 3) Z.nil))) (Z.jc (n:=2) K rfl rfl (Z.bz (Z.aO (i:=5) dA.nd rfl (by right)) (Z.bz (Z.aO (i:=6) dA.nd rfl (by right)) Z.fA))) (Z.aA (Z.asg (Z.op (Z.bf K rfl) (Z.ix (Z.aP K rfl hu) (Z.ix (Z.aP K rfl hu) (Z.v 2) (Z.v 5)) (Z.v 6)) (Z.v 4)) (Z.pJ (Z.ix (Z.aP K rfl hu) (Z.v 2) (Z.v 5)) (Z.v 6)))))))
   (Z.aA (Z.ret (Z.ct (Z.cc K rfl) rfl T.cg (by decide +kernel) (Z.cons (Z.comp (osc:=af eA) (ON:=["program","counts","sums","row","count","which","thing"]) (own:=["counted"]) (N:=["counted","program","counts","sums","row","count","which","thing"]) ⟨rfl,by decide +kernel,rfl,by decide +kernel,by decide +kernel,by decide +kernel,by decide +kernel,by decide +kernel⟩ rfl rfl rfl (Z.any K rfl (Z.v 2)) (λ_ _ _ _=>(Z.aO (i:=0) (show List.Nodup (["counted","program","counts","sums","row","count","which","thing"]:List Str) by decide +kernel) rfl (by right))) (λ_ _ _ _=>Z.lV) (λ_ _ _ _=>(Z.fn hleast_lengths (hr.mono (by decide)) rfl az (Z.cons (Z.ct (Z.cc K rfl) rfl T.cg (by decide +kernel) (Z.cons (Z.v 0) Z.nil)) (Z.cons (Z.glob rfl hg_LONGEST hr_LONGEST) Z.nil))))) Z.nil)))))),?_⟩
  refine ax λN hN=>?_;walk_at "rz";refine .inr ⟨⟨_,sH H⟩,?_⟩;have er:∀m:Nat,(List.replicate m [V.int 0]).flatten=iV (nZ (List.replicate m 0)):=λm=>by
   unfold iV nZ;rw[MI,MI]
   induction m with
   |zero=>rfl
   |succ m ih=>rw[KW,KL,ih];rfl
  refine cq (xs:=[.int 9,.int 17,.int 8]) (by decide) (λD i ys H'=>H D=none/\H' D=some (.lst ys)/\KB [] H H'/\∃ds:List Addr,ys=ds.map V.ref/\ds.length=i/\ds.Nodup/\∀(j:Nat) (d:Addr),ds[j]?=some d->H d=none/\d≠D/\H' d=some (.lst (iV (nZ (List.replicate ([9,17,8].getD j 0) 0))))) (λD hD=>⟨hD,aa,KB.new hD,[],rfl,rfl,List.nodup_nil,λj d e=>nomatch e⟩) (λD i ys H' h=>⟨h.2.1,by obtain⟨_,_,_,ds,rfl,e,_⟩:=h;rw[Kc,e]⟩) (λD i ys H' h=>sH H') ?_ ?_
  ·rintro D i ys H' x R hx ⟨g0,g1,gk,ds,rfl,e1,e2,e3⟩ kk;have hi:i<3:=(Kf.mp hx).1;obtain⟨m,rfl,hm,hm17⟩:∃m:Nat,x=.int (m:Nat)/\[9,17,8].getD i 0=m/\m<=17:=by
    rcases lM hi with rfl|rfl|rfl
    ·cases hx;exact⟨9,rfl,rfl,by decide⟩
    ·cases hx;exact⟨17,rfl,rfl,by decide⟩
    ·cases hx;exact⟨8,rfl,rfl,by decide⟩
   walk_at "rz";refine⟨by decide,λp1 hp1=>?_⟩
   refine⟨p1,_,_,rfl,rfl,aa,by lia,by lia,Kn (show _<=20 by simp;lia) (by decide),λu hu'=>?_⟩
   rw[KN,er];have k1:=KB.new (ex:=[]) (o:=.lst [.int 0]) hp1;have k2:=KB.new (ex:=[]) (o:=.lst (iV (nZ (List.replicate m 0)))) hu';have k12:=k1.trans k2;have su:upd (upd H' p1 (.lst [.int 0])) u (.lst (iV (nZ (List.replicate m 0)))) u=_:=aa;have hu0:H' u=none:=k1.free (by simp) hu'
   generalize upd (upd H' p1 (.lst [.int 0])) u (.lst (iV (nZ (List.replicate m 0))))=G at *;have uD:u≠D:=λz=>by rw[z,g1] at hu0;cases hu0
   refine kk _ _ (k12 _ _ g1 (by simp)) ⟨g0,aa,λb o e _=>by rw[ae (ao e g0)];exact k12 _ _ (gk _ _ e (by simp)) (by simp),ds++[u],by rw[Kv];rfl,by rw[Ke,e1];rfl,?_,λj d e=>?_⟩
   ·refine List.nodup_append.mpr ⟨e2,(Nt _ _),λb hb b' hb' z=>?_⟩;rw[Ku.mp hb'] at z;subst z;obtain⟨j,hj,rfl⟩:=NS.mp hb;have:=(e3 j _ (Ka hj)).2.2;rw[hu0] at this;cases this
   ·rcases Lh j ds.length with hj|hj
    ·rw[KC hj] at e;obtain⟨q1,q2,q3⟩:=e3 j d e;exact⟨q1,q2,by rw[ae q2];exact k12 _ _ q3 (by simp)⟩
    ·rw[K4 hj] at e;obtain⟨hj2,rfl⟩:=Kf.mp e;have:j=i:=by simp at hj2;lia
     subst this;simp only[e1,L8,Mf];exact⟨gk.free (by simp) hu0,uD,by rw[ae uD,su,hm]⟩
  rintro sa ys H1 ⟨g0,g1,gk,ds,rfl,e1,e2,e3⟩;obtain⟨a0,a1,a2,rfl⟩:=rn (show ds.length=3 from e1);have sm0:C5 H1 H sa a0 a1 a2 (List.replicate 9 0) (List.replicate 17 0) (List.replicate 8 0):=⟨g1,(e3 0 a0 rfl).2.2,(e3 1 a1 rfl).2.2,(e3 2 a2 rfl).2.2,rfl,rfl,rfl⟩;have n0:=e3 0 a0 rfl;have n1:=e3 1 a1 rfl;have n2:=e3 2 a2 rfl;show N _ _;rw[hN];clear hN N;refine ax λN hN=>?_;exists i7;have hpk:∀{G:Hp},KB [] H G->vJ G a rs:=λk=>hp.kb k;obtain⟨as,ha,hpa⟩:=hp;have hpl:=hpa.1;refine⟨(false,a),(false,c),⟨rfl,rfl⟩,⟨_,aY.of (gk _ _ ha (by simp))⟩,⟨_,aY.of (gk _ _ hc (by simp))⟩,λn=>?_⟩
  have newA:∀b∈[a0,a1,a2],H b=none:=λb hb=>by
   simp only[Kl,K7,Lp] at hb;rcases hb with rfl|rfl|rfl
   ·exact n0.1
   ·exact n1.1
   ·exact n2.1
  refine iZ (xs:=as.map V.ref) (ys:=iV (nZ ks)) (by rw[Kc,aR,bj];lia) (λi σ H'=>∃(k0 k1 k2:List Nat) (o3 o4 o5 o6:Option V),KB [] H H'/\C5 H' H sa a0 a1 a2 k0 k1 k2/\σ=[some (.ref a),some (.ref c),some (.ref sa),o3,o4,o5,o6]) ⟨_,_,_,none,none,none,none,gk,sm0,rfl⟩ (λi σ H' h=>by obtain⟨_,_,_,_,_,_,_,k,_⟩:=h;exact⟨aY.of (k _ _ ha (by simp)),aY.of (k _ _ hc (by simp))⟩) ?_ ?_
  ·rintro i x y σ H' z hx hy ⟨k0,k1,k2,o3,o4,o5,o6,hk,sm,rfl⟩ hz;obtain⟨ra,ea,rfl⟩:∃u,as[i]?=some u/\x=.ref u:=by
    rw[Kp] at hx;obtain⟨u,e,rfl⟩:=KD.mp hx;exact⟨u,e,rfl⟩
   have hlt:i<rs.length:=by have:=(Kf.mp ea).1;lia
   have er':=Ka hlt;have hra:=hk _ _ (hpa.2 i ra _ ea er') (by simp)
   have rok:=ba _ (List.getElem_mem hlt);generalize rs[i]=r at *;obtain⟨cn,ec,rfl⟩:=vf hy;unfold bp;refine⟨z,_,rfl,aY.of aa,rfl,_,_,rfl,_,_,rfl,rfl,?_⟩;have kz:=KB.new (ex:=[]) (o:=.tup [.ref ra,.int (cn:Nat)]) hz;generalize upd H' z (.tup [.ref ra,.int (cn:Nat)])=H2 at *;dsimp only;refine qU λM hM=>?_;walk_at "rz";refine⟨ra,r,_,rfl,kz _ _ hra (by simp),rok,λD ps H3 hD k3 hD3 th=>?_⟩
   have sm3:=(sm.kb kz).kb k3;have hk3:=hk.trans (kz.trans k3);exists aI hD3;have Dn:∀b∈[a0,a1,a2],D≠b:=λb hb zz=>by
    have sm2:=sm.kb kz;simp only[Kl,K7,Lp] at hb;rcases hb with rfl|rfl|rfl
    ·have e:=sm2.h0;rw[<- zz,hD] at e;cases e
    ·have e:=sm2.h1;rw[<- zz,hD] at e;cases e
    ·have e:=sm2.h2;rw[<- zz,hD] at e;cases e
   refine gT (xs:=ps.map V.ref) (λj σ G=>∃(k0 k1 k2:List Nat) (o5 o6:Option V),KB [] H G/\C5 G H sa a0 a1 a2 k0 k1 k2/\G D=some (.lst (ps.map V.ref))/\yZ G ps (cR r)/\σ=[some (.ref a),some (.ref c),some (.ref sa),some (.ref ra),some (.int (cn:Nat)),o5,o6]) ⟨k0,k1,k2,o5,o6,hk3,sm3,hD3,th,rfl⟩ (λj σ G _ h=>by obtain⟨_,_,_,_,_,_,_,h,_⟩:=h;exact bB.of h) ?_ ?_
   ·rintro j x σ G hx' ⟨k0,k1,k2,o5,o6,kG,smG,gD,thG,rfl⟩;obtain⟨t,et,rfl⟩:∃u,ps[j]?=some u/\x=.ref u:=by
     rw[Kp] at hx';obtain⟨u,e,rfl⟩:=KD.mp hx';exact⟨u,e,rfl⟩
    have thl:=thG.1;have hj:j<(cR r).length:=by have:=(Kf.mp et).1;lia
    have ht:=thG.2 j t _ et (List.getElem?_eq_getElem hj);have ck:=rL rok _ (List.getElem_mem hj);generalize (cR r)[j]=pr at *;obtain⟨aw,kw,w1,w2,w3,w4,w5⟩:=smG.put e2 ck;refine⟨t,_,rfl,aY.of ht,rfl,_,_,rfl,_,_,rfl,rfl,?_⟩;dsimp only;refine qU λM2 hM2=>?_;have av:cL (iV (nZ kw)) (pr.2:Int)=some (.int ((kw.getD pr.2 0:Nat):Int)):=sI w3;have c3:jP (iV (nZ kw)).length (pr.2:Int)=some pr.2:=by
     rw[eZ];unfold jP;rw[Kj (by lia),Kj (by lia),KN]
    exists aI smG.s,w1,aI w2,av,w2,c3;have es:(iV (nZ kw)).set pr.2 (.int (((kw.getD pr.2 0:Nat):Int)+(cn:Int)))=iV (nZ (kw.set pr.2 (kw.getD pr.2 0+cn))):=by unfold iV nZ;rw[Mw,Mw];rfl
    rw[es,hM2];obtain⟨k0',k1',k2',sm'⟩:=w5 (kw.getD pr.2 0+cn);exact⟨k0',k1',k2',_,_,λb o e _=>by rw[ae (ao e (newA aw w4))];exact kG _ _ e (by simp),sm',by rw[ae (Dn aw w4)];exact gD,thG.keep (KB.set (ex:=[aw]) (by simp)) (uF w2),rfl⟩
   ·rintro σ G ⟨k0,k1,k2,o5,o6,kG,smG,gD,thG,rfl⟩;show M _ _;rw[hM];exact⟨k0,k1,k2,_,_,_,_,kG,smG,rfl⟩
  ·rintro σ H' ⟨k0,k1,k2,o3,o4,o5,o6,hk,sm,rfl⟩;show N _ _;rw[hN];clear hN N;exists aI sm.s;have kts:∀{j:Nat} {x:V},[V.ref a0,.ref a1,.ref a2][j]?=some x->∃(b:Addr) (k:List Nat),x=.ref b/\H' b=some (.lst (iV (nZ k)))/\8<=k.length/\k.length<=17/\([9,17,8]:List Nat).take (j+1)=([9,17,8]:List Nat).take j++[k.length]:=λ{j x} e=>by
    have hj:j<3:=(Kf.mp e).1;have l0:=sm.l0;have l1:=sm.l1;have l2:=sm.l2;rcases lM hj with rfl|rfl|rfl
    ·cases e;exact⟨a0,k0,rfl,sm.h0,by lia,by lia,by rw[l0];rfl⟩
    ·cases e;exact⟨a1,k1,rfl,sm.h1,by lia,by lia,by rw[l1];rfl⟩
    ·cases e;exact⟨a2,k2,rfl,sm.h2,by lia,by lia,by rw[l2];rfl⟩
   refine gj (xs:=[V.ref a0,.ref a1,.ref a2]) (show 3<=sizeLine by decide) (λD i ys G=>H' D=none/\G D=some (.lst ys)/\KB [] H' G/\∃(bs:List Addr) (done:List (List Int)),ys=bs.map V.ref/\bs.length=i/\done.map List.length=([9,17,8]:List Nat).take i/\(∀l∈done,jk l/\lN l=true)/\∀(j:Nat) (b:Addr),bs[j]?=some b->G b=some (.tup (iV (done.getD j [])))) (λD hD=>⟨hD,aa,KB.new hD,[],[],rfl,rfl,rfl,(λl hl=>absurd hl K7),λj b e=>nomatch e⟩) (λD i ys G h=>⟨h.2.1,by obtain⟨_,_,_,bs,done,rfl,e,_⟩:=h;rw[Kc,e]⟩) (λD i ys G h=>bB.of (h.2.2.1 _ _ sm.s (by simp))) ?_ ?_
   ·rintro D i ys G x R hx ⟨g0,g1,gk',bs,done,rfl,ga,gl,gok,gat⟩ kk;obtain⟨b,k,rfl,hb,hk8,hk17,em⟩:=kts hx;have hb':=gk' _ _ hb (by simp)
    exists aI hb';intro ta hta;have kt:=KB.new (ex:=[]) (o:=.tup (iV (nZ k))) hta;refine⟨ta,k,rfl,aa,hk8,hk17,λls r G5 k5 e5 l1 l2 l3=>?_⟩;have k15:=kt.trans k5;have gD:=k15 _ _ g1 (by simp)
    have rD:r≠D:=λz=>by rw[z,gD] at e5;cases e5
    have gl':done.length=bs.length:=by
     have:=K_ List.length gl;rw[Kc,K8] at this;have hi3:i<3:=(Kf.mp hx).1;rw[this,ga];simp;lia
    refine kk _ _ gD ⟨g0,aa,λu o e _=>by rw[ae (ao e g0)];exact k15 _ _ (gk' _ _ e (by simp)) (by simp),bs++[r],done++[ls],by rw[Kv];rfl,by rw[Ke,ga];rfl,by rw[Kv,gl,em,K9,l1];rfl,λl hl'=>?_,λj b' e=>?_⟩
    ·rcases KJ.mp hl' with h|h
     ·exact gok l h
     ·rw[Ku.mp h];exact⟨l2,l3⟩
    ·rcases Lh j bs.length with hj|hj
     ·rw[KC hj] at e;have e6:=k15 _ _ (gat j b' e) (by simp)
      rw[ae (λz=>by rw[z,gD] at e6;cases e6),e6,Kt,Kt,KC (by lia)]
     ·rw[K4 hj] at e;obtain⟨hj2,rfl⟩:=Kf.mp e;have hj3:j=bs.length:=by simp at hj2;lia
      subst hj3;simp only[L8,Mf];rw[ae rD,e5,Kt,K4 (by lia),show bs.length-done.length=0 by lia]
      rfl
   ·rintro D ys G ⟨g0,g1,gk',bs,done,rfl,ga,gl,gok,gat⟩;have gl2:done.map List.length=[9,17,8]:=gl;have h3:done.length=3:=by have:=K_ List.length gl2;rw[Kc] at this;exact this
    obtain⟨x,y,z,rfl⟩:=rn h3;simp only[K9,Mh,List.cons.injEq] at gl2;exists aI g1;intro b hb;refine q [x,y,z] b _ (hk.trans (gk'.trans (KB.new hb))) ⟨bs,aa,by rw[ga];rfl,λj a' e=>?_⟩ ⟨x,y,z,rfl,gl2.1,gl2.2.1,gl2.2.2.1,gok⟩
    have:=gat j a' e;rw[ae (ao this hb)];exact this
theorem E2{X:Cx}{e:Expr}{t:TA}{p pos kpos lpos p1 p2 p3:Pos}{cj:Nat}{x y:Str}{c Pt:Addr}{params:Arguments}{scope:Scope}(K:PJ)(hK:X.K=K)(hx:y∈dO)(ht:PySem.W.tabIn K y=some (c,Pt))(hcode:X.env.code=.ref c)(hq:X.env.qual=y++".<locals>.")(hdef:defaultsOf params X.env=([],[]))(hcl:closureFor scope X.env=pure [])
  (hg:Gl X "sorted") (hm:X.mg "sorted"=none) (ha:QA X [e] t) (hr:bR (k+3) X.A)
  (hsc:scope={kind:=.function,names:=[(x,.local)],isGenerator:=false,isCoroutine:=false,more:=[]}) (hx1:(x ==("__debug__":Str))=false) (hx2:(x ==("__classdict__":Str))=false)
  (hbind:∀c' pm ctv u,bindArgs (PySem.W.kla_fn "<lambda>" ((y++".<locals>.")++"<lambda>") params (.Subscript (.Name x p1) (.Constant (.int 0) cj p2) p3) scope [] pm (.ref c') ctv) ⟨[u],[]⟩=pure [(x,u)]) (h1:autoParam (eX e=true) ℜ0) :
  QE X (.Call (.Name "sorted" p) [e] [⟨some "key",.Lambda params (.Subscript (.Name x p1) (.Constant (.int 0) cj p2) p3) scope lpos,kpos⟩] pos) (AH (An K) t):=by
 subst hK;exact⟨AA hg hm ha.h h1 hr (xB hx ht hcode hq hdef hcl) hsc hx1 hx2 hbind⟩
theorem GU{X:Cx}{e:Expr}(K:PJ)(hK:X.K=K)(m:Nat){i:Int}(hi:i=(m:Int)){j j2:Nat}{pos p1 p2 p3:Pos}(he:QE X e te):QE X (.Subscript e (.Slice (some (.Constant (.int i) j p1)) none (some (.Constant (.int 2) j2 p3)) p2) pos) (Gf K m te):=by
 subst hK;exact⟨Gh hi he.h⟩
theorem Gb(K:PJ)(m:Nat)(te:TE)(σ:L2.St)(H:Hp)(Q:VK):Gf K m te σ H Q=te σ H λx H1=>∃a xs,x=V.ref a/\bB K H1 a xs/\∀p,H1 p=none->Q (.ref p) (upd H1 p (.lst (i3 (xs.drop m)))):=rfl
theorem Jd{i j:Int}(q:Q (.int (i+j)) H):Y.yw K (.int i) (.int j) H Q:=.inl ⟨_,_,rfl,rfl,q⟩
theorem Iw{b:Addr}(ha:H a=some (.lst xs))(hb:H b=some (.lst ys))(hn:xs.length+ys.length<=sizeLine)(q:∀p,H p=none->Q (.ref p) (upd H p (.lst (xs++ys)))):Y.yw K (.ref a) (.ref b) H Q:=.inr (.inr (.inl ⟨_,_,_,_,rfl,rfl,ha,hb,hn,q⟩))
def xv(D:Addr)(H:Hp)(z:V×List Nat):Prop:=∃(p q:Addr) (w:Int),z.1=.ref p/\H p=some (.tup [.int w,.ref q])/\H q=some (.lst (iV (nZ z.2)))/\q≠D
def vY(H:Hp)(z:V×List Nat):Prop:=∃(p q:Addr) (w:Int),z.1=.ref p/\H p=some (.tup [.int w,.ref q])/\H q=some (.lst (iV (nZ z.2)))
theorem xv.it{z:V×List Nat}(h:xv D H z):vY H z:=by
 obtain⟨p,q,w,a,b,c,_⟩:=h;exact⟨p,q,w,a,b,c⟩
theorem vY.kb{z:V×List Nat}(h:vY H z)(k:KB [] H H'):vY H' z:=by
 obtain⟨p,q,w,a,b,c⟩:=h;exact⟨p,q,w,a,k _ _ b (by simp),k _ _ c (by simp)⟩
theorem xv.kb{z:V×List Nat}(h:xv D H z)(k:KB [] H H'):xv D H' z:=by
 obtain⟨p,q,w,a,b,c,d⟩:=h;exact⟨p,q,w,a,k _ _ b (by simp),k _ _ c (by simp),d⟩
theorem xv.set{z:V×List Nat}(h:xv D H z)(hD:H D=some (.lst xs)):xv D (upd H D (.lst ys)) z:=by
 obtain⟨p,q,w,a,b,c,d⟩:=h;exact⟨p,q,w,a,by rw[ae (λe=>by rw[e,hD] at b;cases b)];exact b,by rw[ae d];exact c,d⟩
theorem Bf(h:∀z∈Us,vY H z):∃kz:List Int,kz.length=Us.length/\∀(i:Nat) z k,Us[i]?=some z->kz[i]?=some k->∃p q:Addr,z.1=.ref p/\H p=some (.tup [.int k,.ref q]):=by
 induction Us with
 |nil=>exact⟨[],rfl,λi z k e=>nomatch e⟩
 |cons x Us ih =>
  obtain⟨kz,e1,e2⟩:=ih λz hz=>h z (Ko _ hz);obtain⟨p,q,w,a,b,c⟩:=h x Km;refine⟨w::kz,by rw[Kq,Kq,e1],λi z k e3 e4=>?_⟩
  cases i with
  |zero=>cases e3;cases e4;exact⟨p,q,a,b⟩
  |succ i=>exact e2 i z k (by simpa using e3) (by simpa using e4)
theorem oz{v:V}(h:(Us.map Prod.fst)[i]?=some v):∃z,Us[i]?=some z/\v=z.1:=by
 rw[Kp] at h;obtain⟨z,e,rfl⟩:=KD.mp h;exact⟨z,e,rfl⟩
noncomputable def vn:Sp:=λvs H Q _=>∃(a:Addr) (Us:List (V×List Nat)),vs=[.ref a]/\H a=some (.lst (Us.map Prod.fst))/\(∀z∈Us,vY H z)/\Us.length<64/\∀(Us':List (V×List Nat)) (b:Addr) H',Us'.Perm Us->KB [] H H'->H' b=some (.lst (Us'.map Prod.fst))->Q (.ref b) H'
theorem Ag(T:Txt K mg)(F:HasFn K mg "by_worth" cX ["shelf"]):au P w K mg base aZ 4 "by_worth" ["shelf"] vn:=by
 obtain⟨c,Pt,htab,hcc⟩:=T.oi.ex;refine F.HR qx (λvs H Q E h=>?_) (λf cdv A outer s H vs Q E hr hm eW h=>?_)
 ·obtain⟨a,Us,rfl,_⟩:=h;rfl
 ·have:=hcc _ _ ⟨hm,eW⟩;subst this;have hu:=aS hr;obtain⟨a,Us,rfl,ha,hz,hl,q⟩:=h;refine⟨_,(Z.aA (Z.ret (E2 (k:=0) K rfl (by decide) htab rfl rfl rfl rfl rfl T.kx (Z.cons (Z.v 0) Z.nil) (hr.mono (by decide)) rfl rfl rfl (λ_ _ _ _=>rfl)))),?_⟩
  walk_at "rz";obtain⟨kz,e1,e2⟩:=Bf hz;refine⟨a,Us.map Prod.fst,kz,rfl,bB.of ha,by rw[e1,Kc],by rw[Kc];exact hl,λi v k e3 e4 H' g=>?_,λH2 D g hD=>?_⟩
  ·obtain⟨z,e5,rfl⟩:=oz e3;obtain⟨p,r,e6,e7⟩:=e2 i z k e5 e4;exact⟨p,_,e6,aY.of (g.same _ _ e7)⟩
  ·rw[tJ];exact q (j0 kz Us) D _ (iN e1) (λb o e _=>by rw[ae (ao (g.same _ _ e) hD)];exact g.same _ _ e) aa
theorem rJ:∀(l:List α) (i:Nat),(i3 l)[i]?=l[2*i]?
 |[],i=>by simp[i3,Ai]
 |[x],i=>by
  cases i with
  |zero=>rfl
  |succ i=>rw[show 2*(i+1)=2*i+1+1 by lia];simp[i3,Ai]
 |x::y::r,i=>by
  cases i with
  |zero=>rfl
  |succ i=>rw[show 2*(i+1)=2*i+1+1 by lia,Lg,Lg,<- rJ r i];rfl
theorem iy:∀l:List α,(i3 l).length=(l.length+1) / 2
 |[]=>by simp[i3,Ai]
 |[x]=>by simp[i3,Ai]
 |x::y::r=>by
  show (x::i3 r).length=_;rw[Kq,iy r];simp only[Kq];lia
theorem rH{b:Addr}{n:Nat}(hn:xs.length<=sizeLine)(hyx:ys.length<=xs.length)(Pv:Addr->Nat->List V->Hp->Prop)(h0:∀D,H D=none->Pv D 0 [] (upd H D (.lst [])))(hD:∀D i ws H',Pv D i ws H'->H' D=some (.lst ws)/\ws.length=i)
  (hl:∀D i ws H',Pv D i ws H'->bB K H' a xs/\bB K H' b ys)
  (hs:∀D i ws H' x y p (R:VK),xs[i]?=some x->ys[i]?=some y->Pv D i ws H'->H' p=none->(∀v H5,H5 D=some (.lst ws)->Pv D (i+1) (ws++[v]) (upd H5 D (.lst (ws++[v])))->R v H5)->te (some x::some y::σ) (upd H' p (.tup [x,y])) R) (hd:∀D ws H',Pv D (ys.length) ws H'->Q (.ref D) H') :
  j5 (B7 K (fE n [(true,a),(true,b)])) 2 (ma K 2 (dX (bp 0) (dX (bp 1) lU))) dW te Q σ H:=by
 intro D hD0;refine⟨λi m ws σ' H'=>m=ys.length-i/\i<=ys.length/\Pv D i ws H'/\∃o1 o2,σ'=o1::o2::σ,⟨ys.length,by simp,Kz _,h0 D hD0,none,none,rfl⟩,?_⟩
 rintro i m ws σ' H' ⟨rfl,hi,p,o1,o2,rfl⟩;obtain⟨hDi,hly⟩:=hD _ _ _ _ p;obtain⟨q1,q2⟩:=hl _ _ _ _ p;have q1':iI K true H' a xs:=q1;have q2':iI K true H' b ys:=q2;refine⟨hDi,?_⟩;by_cases hlt:i<ys.length
 ·have hl1:i<xs.length:=by lia
  refine .inr ⟨⟨[xs[i],ys[i]],.cons ⟨xs,q1',by simp[hl1]⟩ (.cons ⟨ys,q2',by simp[hlt]⟩ .nil)⟩,by lia,λx H2 z=>?_⟩
  obtain⟨c,vs,pr,fr,rfl,rfl⟩:=z;obtain⟨y1,vs,rfl,e1,pr⟩:=Paired.fe pr;obtain⟨y2,vs,rfl,e2,pr⟩:=Paired.fe pr;cases pr;refine HA ?_;unfold dW;dsimp only;rw[if_pos rfl];exact hs D i ws H' y1 y2 c _ (e1 xs q1') (e2 ys q2') p fr λv H5 q1 q2=>⟨q1,ys.length-(i+1),by lia,rfl,hlt,q2,_,_,rfl⟩
 ·have e:i=ys.length:=by lia
  subst e;by_cases hxe:xs.length=ys.length
  ·exact .inl ⟨⟨[],(true,n,a),_,[],rfl,.nil,xs,q1',hxe⟩,hd D ws H' p⟩
  ·exact .inl ⟨⟨[(true,n,a)],(true,n+1,b),[],[xs[ys.length]'(by lia)],rfl,.cons ⟨xs,q1',by simp⟩ .nil,ys,q2',rfl⟩,hd D ws H' p⟩
theorem oQ{x:List Nat}(h:x∈X):x.length<=X.flatten.length:=by
 induction X with
 |nil=>cases h
 |cons y X ih =>
  rw[KL,Ke];rcases Kl.mp h with rfl|h
  ·lia
  ·have:=ih h;lia
noncomputable def uf:Sp:=λvs H Q _=>∃(a:Addr) (Us:List (V×List Nat)),vs=[.ref a]/\H a=some (.lst (Us.map Prod.fst))/\(∀z∈Us,vY H z)/\Us.length<=64/\(Us.map Prod.snd).flatten.length<=1000/\∀(Vs:List (V×List Nat)) (b:Addr) H',KB [] H H'->H' b=some (.lst (Vs.map Prod.fst))->(∀z∈Vs,vY H' z)->Vs.map Prod.snd=Pn.pk (Us.map Prod.snd)->Q (.ref b) H'
theorem AB(T:Txt K mg)(F:HasFn K mg "packs_of" eV ["shelf"]):au P w K mg base aZ 1 "packs_of" ["shelf"] uf:=by
 refine F.fL qf (λvs H Q E h=>?_) (λf cdv A outer s H vs Q E hr h=>?_)
 ·obtain⟨a,Us,rfl,_⟩:=h;rfl
 ·have hu:=aS hr;obtain⟨a,Us,rfl,ha,hz,hl,ht,q⟩:=h;refine⟨_,(Z.aA (Z.ret (Z.comp (osc:=af eV) (ON:=["shelf"]) (own:=["one","other"]) (N:=["one","other","shelf"]) ⟨rfl,by decide +kernel,rfl,by decide +kernel,by decide +kernel,by decide +kernel,by decide +kernel,by decide +kernel⟩ rfl rfl rfl (uK K rfl rfl T.oY (Z.cons (GU K rfl 0 rfl (Z.v 0)) (Z.cons (GU K rfl 1 rfl (Z.v 0)) Z.nil))) (λ_ _ _ _=>(Z.jc (n:=2) K rfl rfl (Z.bz (Z.aO (i:=0) (show List.Nodup (["one","other","shelf"]:List Str) by decide +kernel) rfl (by right)) (Z.bz (Z.aO (i:=1) (show List.Nodup (["one","other","shelf"]:List Str) by decide +kernel) rfl (by right)) Z.fA)))) (λ_ _ _ _=>Z.lV) (λ_ _ _ _=>(Z.tup (Z.cons (Z.op (Y.nW K rfl) (Z.ix (Z.aP K rfl hu) (Z.v 0) Z.int) (Z.ix (Z.aP K rfl hu) (Z.v 1) Z.int)) (Z.cons (Z.op (Y.nW K rfl) (Z.ix (Z.aP K rfl hu) (Z.v 0) Z.int) (Z.ix (Z.aP K rfl hu) (Z.v 1) Z.int)) Z.nil))))))),?_⟩
  exists Gb,i7;refine⟨a,_,rfl,bB.of ha,λp1 hp1=>?_⟩;have k1:=KB.new (ex:=[]) (o:=.lst (i3 ((Us.map Prod.fst).drop 0))) hp1;have s1:upd H p1 (.lst (i3 ((Us.map Prod.fst).drop 0))) p1=_:=aa;generalize upd H p1 (.lst (i3 ((Us.map Prod.fst).drop 0)))=H1 at *;refine⟨a,_,rfl,bB.of (k1 _ _ ha (by simp)),λp2 hp2=>?_⟩
  have k2:=KB.new (ex:=[]) (o:=.lst (i3 ((Us.map Prod.fst).drop 1))) hp2;have s2:upd H1 p2 (.lst (i3 ((Us.map Prod.fst).drop 1))) p2=_:=aa;generalize upd H1 p2 (.lst (i3 ((Us.map Prod.fst).drop 1)))=H2 at *;have s1':=k2 _ _ s1 (by simp)
  have k12:=k1.trans k2;refine⟨(true,p1),(true,p2),⟨rfl,rfl⟩,⟨_,bB.of s1'⟩,⟨_,bB.of s2⟩,λn=>?_⟩;have l1:(i3 ((Us.map Prod.fst).drop 0)).length=(Us.length+1) / 2:=by rw[iy,Lw,Kc]
  have l2:(i3 ((Us.map Prod.fst).drop 1)).length=Us.length / 2:=by rw[iy,KP,Kc];lia
  have pl:(Pn.pk (Us.map Prod.snd)).length=Us.length / 2:=by rw[Pn.mZ,Kc]
  refine rH (xs:=i3 ((Us.map Prod.fst).drop 0)) (ys:=i3 ((Us.map Prod.fst).drop 1)) (Kn (show _<=64 by lia) (by decide)) (by lia) (λD i ws G=>H2 D=none/\G D=some (.lst ws)/\KB [] H2 G/\∃Vs:List (V×List Nat),ws=Vs.map Prod.fst/\(∀z∈Vs,xv D G z)/\Vs.length=i/\Vs.map Prod.snd=(Pn.pk (Us.map Prod.snd)).take i) (λD hD=>⟨hD,aa,KB.new hD,[],rfl,(λz hz=>absurd hz K7),rfl,rfl⟩) (λD i ws G h=>⟨h.2.1,by obtain⟨_,_,_,Vs,rfl,_,e,_⟩:=h;rw[Kc,e]⟩) (λD i ws G h=>⟨bB.of (h.2.2.1 _ _ s1' (by simp)),bB.of (h.2.2.1 _ _ s2 (by simp))⟩) ?_ ?_
  ·rintro D i ws G x y p R hx hy ⟨g0,g1,gk,Vs,rfl,gi,gl,gs⟩ hp kk;rw[rJ,Lw] at hx;rw[rJ,Ly,show 1+2*i=2*i+1 by lia] at hy
   obtain⟨z1,e1,rfl⟩:=oz hx;obtain⟨z2,e2,rfl⟩:=oz hy;have kz:=KB.new (ex:=[]) (o:=.tup [z1.1,z2.1]) hp;generalize upd G p (.tup [z1.1,z2.1])=G1 at *;have kG:=gk.trans kz;have m1:=Le e1;have m2:=Le e2;obtain⟨a1,b1,w1,v1,t1,c1⟩:=((hz z1 m1).kb k12).kb kG;obtain⟨a2,b2,w2,v2,t2,c2⟩:=((hz z2 m2).kb k12).kb kG;have n1:=oQ (LD (f:=Prod.snd) m1);have n2:=oQ (LD (f:=Prod.snd) m2);have ep:(Pn.pk (Us.map Prod.snd))[i]?=some (z1.2++z2.2):=by rw[Pn.DX,Kp,Kp,e1,e2];rfl
   rw[v1,v2];have at0:∀(u:Int) (v:V),cL [V.int u,v] 0=some (.int u):=λu v=>rfl;have at1:∀(u:Int) (v:V),cL [V.int u,v] 1=some v:=λu v=>rfl;exists aL t1,aL t2,at0,at1;refine Jd ?_;exists aL t1,aL t2,at0,at1;refine Iw c1 c2 (by rw[aR,aR,bj,bj];exact Kn (show _<=2000 by lia) (by decide)) λl hl'=>?_
   have kl:=KB.new (ex:=[]) (o:=.lst (iV (nZ z1.2)++iV (nZ z2.2))) hl';have sl':upd G1 l (.lst (iV (nZ z1.2)++iV (nZ z2.2))) l=_:=aa;have gD:=kz _ _ g1 (by simp)
   have lD:l≠D:=λz=>by rw[z,gD] at hl';cases hl'
   generalize upd G1 l (.lst (iV (nZ z1.2)++iV (nZ z2.2)))=G2 at *;refine⟨by decide,λt ht'=>?_⟩
   have kt:=KB.new (ex:=[]) (o:=.tup [.int (w1+w2),.ref l]) ht';have st':upd G2 t (.tup [.int (w1+w2),.ref l]) t=_:=aa;generalize upd G2 t (.tup [.int (w1+w2),.ref l])=G3 at *;have kk3:=kz.trans (kl.trans kt);have gD3:=kk3 _ _ g1 (by simp)
   refine kk _ _ gD3 ⟨g0,aa,λu o e _=>by rw[ae (ao e g0)];exact kk3 _ _ (gk _ _ e (by simp)) (by simp),Vs++[(.ref t,z1.2++z2.2)],by rw[Kv];rfl,λz hz'=>?_,by rw[Ke,gl];rfl,?_⟩
   ·rcases KJ.mp hz' with h|h
    ·exact ((gi z h).kb kk3).set gD3
    ·rw[Ku.mp h];refine xv.set ⟨t,l,w1+w2,rfl,st',?_,lD⟩ gD3;rw[kt _ _ sl' (by simp)]
     unfold iV nZ;rw[Kv,Kv]
   ·rw[Kv,gs,L9,ep];rfl
  ·rintro D ws G ⟨g0,g1,gk,Vs,rfl,gi,gl,gs⟩;refine q Vs D G (k12.trans gk) g1 (λz hz'=>(gi z hz').it) ?_;rw[gs,La (by rw[l2,pl];lia)]
theorem FO:200000<=sizeLine:=by decide
noncomputable def DC:List Key:=[.inr "a",.inr "b",.inr "c",.inr "d",.inr "e",.inr "f",.inr "g",.inr "h"]
structure ie where
 given:List Int
 heard:Nat
 told:List Int
 bs:List Int
structure MA where
 m:Addr
 dx:Addr
 gv:Addr
 tl:Addr
 bx:Addr
noncomputable def Aq(a:MA)(h:Nat):List (Str×V):=[("given",.ref a.gv),("heard",.int (h:Nat)),("told",.ref a.tl),("boxes",.ref a.bx)]
structure MS (K:PJ) (C:Addr) (H:Hp) (a:MA) (st:ie):Prop where
 om:H a.m=some (.ins C a.dx (Aq a st.heard))
 od:H a.dx=some (.own a.m)
 og:H a.gv=some (.tup (iV st.given))
 ot:H a.tl=some (.lst (iV st.told))
 ob:H a.bx=some (.dK (DC.zip (iV st.bs)))
 l8:st.bs.length=8
 hh:st.heard<=st.given.length
noncomputable def MF(a:MA):List Addr:=[a.m,a.tl,a.bx]
theorem qp(a:MA)(h:Nat):(Aq a h).lookup ("given":Str)=some (.ref a.gv):=rfl
theorem lI(a:MA)(h:Nat):(Aq a h).lookup ("heard":Str)=some (.int (h:Nat)):=rfl
theorem vb(a:MA)(h:Nat):(Aq a h).lookup ("told":Str)=some (.ref a.tl):=rfl
theorem fI(a:MA)(h:Nat):(Aq a h).lookup ("boxes":Str)=some (.ref a.bx):=rfl
theorem vS(a:MA)(h k:Nat):dU "heard" (.int (k:Nat)) (Aq a h)=Aq a k:=rfl
theorem MS.ne1{a:MA}{st:ie}(M:MS K C H a st):a.tl≠a.m/\a.bx≠a.m/\a.gv≠a.m/\a.dx≠a.m/\a.bx≠a.tl/\a.gv≠a.tl/\a.dx≠a.tl/\a.gv≠a.bx/\a.dx≠a.bx:=by
 have h1:=M.om;have h2:=M.od;have h3:=M.og;have h4:=M.ot;have h5:=M.ob;have ap:∀{x y:Addr} {o o':HO},H x=some o->H y=some o'->o≠o'->x≠y:=λh h' n e=>n (by rw[e] at h;exact Option.some.inj (h.symm.trans h'))
 exact⟨ap h4 h1 (by simp),ap h5 h1 (by simp),ap h3 h1 (by simp),ap h2 h1 (by simp),ap h5 h4 (by simp),ap h3 h4 (by simp),ap h2 h4 (by simp),ap h3 h5 (by simp),ap h2 h5 (by simp)⟩
noncomputable def ud(K:PJ)(C:Addr):Sp:=λvs H Q _=>∃(a:MA) (st:ie),vs=[.ref a.m]/\MS K C H a st /\
 (st.given.length<=st.heard->Q (.int 0) H)/\∀x,st.given[st.heard]?=some x->∀H',MS K C H' a {st with heard:=st.heard+1}->KB (MF a) H H'->Q (.int x) H'
theorem qa(T:Txt K mg)(cM:mh K C)(na_given:bL K C "given")(na_heard:bL K C "heard")(F:lB K "heard_number" "Machine.heard_number" aF f fd):cP P w K mg base aZ 1 f fd ["self"] (ud K C):=by
 refine F.ok fH (λvs H Q E h=>?_) (λcdv A outer s H vs Q E hr h=>?_)
 ·obtain⟨a,st,rfl,_⟩:=h;rfl
 ·obtain⟨a,st,rfl,M,q1,q2⟩:=h;have hu:=aS hr;have key:∃t,QB (gy aZ P w K mg base ["self"] "Machine.heard_number" (af aF) f cdv A outer s H E).qW (aT aF) t/\t {nx:=λ_ H'=>Q .aX H',rt:=Q} (start ["self"] [.ref a.m]) H:=by
   refine⟨_,(Z.aq (Z.eF (Z.bu yU (Z.fld K rfl (Z.v 0)) (Z.cb (Z.c_ K rfl) rfl T.cU (by decide +kernel) (Z.cons (Z.fld K rfl (Z.v 0)) Z.nil))) (Z.aA (Z.ret Z.int)) Z.bU)
   (Z.aq (Z.zJ K rfl (Z.v 0) (Z.op (Z.bf K rfl) (Z.fld K rfl (Z.v 0)) Z.int))
   (Z.aA (Z.ret (Z.ix (Z.aP K rfl hu) (Z.fld K rfl (Z.v 0)) (Z.op cW (Z.fld K rfl (Z.v 0)) Z.int)))))),?_⟩
   have e1:sq H a.gv=some (false,iV st.given):=aL M.og;have hl:(iV st.given).length=st.given.length:=Kc ..;refine ax λN hN=>?_;walk_at "rz";refine⟨a.m,C,a.dx,_,_,rfl,M.om,cM,na_heard,lI a _,a.m,C,a.dx,_,_,rfl,M.om,cM,na_given,qp a _,?_⟩;simp only[L2.Ap.xE,e1,hl];walk_at "rz";by_cases h1:st.given.length<=st.heard
   ·rw[Kj (by omega)]
    exact q1 h1
   ·rw[Ki (by omega),hN];clear hN N
    have h2:st.heard<st.given.length:=by omega
    obtain⟨n1,n2,n3,n4,n5,n6,n7,n8,n9⟩:=M.ne1;have M':MS K C (upd H a.m (.ins C a.dx (Aq a (st.heard+1)))) a {st with heard:=st.heard+1}:=⟨aa,by rw[ae n4];exact M.od,by rw[ae n3];exact M.og,by rw[ae n1];exact M.ot,by rw[ae n2];exact M.ob,M.l8,h2⟩
    refine ax λN hN=>?_;walk_at "rz";refine⟨a.m,C,a.dx,_,_,rfl,M.om,cM,na_heard,lI a _,?_⟩;walk_at "rz";refine⟨a.m,C,a.dx,_,rfl,M.om,cM,na_heard,(show 4<1000 by decide),?_⟩
    rw[show ((st.heard:Nat):Int)+1=((st.heard+1:Nat):Int) from rfl,vS,hN];clear hN N;walk_at "rz";refine⟨a.m,C,a.dx,_,_,rfl,M'.om,cM,na_given,qp a _,a.m,C,a.dx,_,_,rfl,M'.om,cM,na_heard,lI a _,?_⟩;have e2:sq (upd H a.m (.ins C a.dx (Aq a (st.heard+1)))) a.gv=some (false,iV st.given):=aL M'.og;have e3:cL (iV st.given) (((st.heard+1:Nat):Int)-1)=some (V.int st.given[st.heard]):=by
     rw[show ((st.heard+1:Nat):Int)-1=((st.heard:Nat):Int) by omega]
     exact b7 (by unfold iV;rw[Kp,Ka h2];rfl)
    simp only[L2.Ap.vt,L2.Ap.gr,e2,e3];exact q2 _ (Ka h2) _ M' (KB.set (by unfold MF;simp))
  obtain⟨t,hb,ht⟩:=key;exact⟨t,hb.h,ht⟩
noncomputable def tM(bs:List Int)(b:Nat):Int:=bs[b]?.getD 0
theorem rR:∀(b:Nat),b<8->∀bs:List Int,bs.length=8->ik (DC.zip (iV bs)) (.inr (cS b))=some (.int (tM bs b)):=by
 intro b hb bs hl;obtain⟨x0,x1,x2,x3,x4,x5,x6,x7,rfl⟩:=He hl;rcases GC hb with rfl|rfl|rfl|rfl|rfl|rfl|rfl|rfl<;>rfl
theorem Em:∀(b:Nat),b<8->∀(bs:List Int) (x:Int),bs.length=8->putK (DC.zip (iV bs)) (.inr (cS b)) (.int x)=DC.zip (iV (bs.set b x)):=by
 intro b hb bs x hl;obtain⟨x0,x1,x2,x3,x4,x5,x6,x7,rfl⟩:=He hl;rcases GC hb with rfl|rfl|rfl|rfl|rfl|rfl|rfl|rfl<;>rfl
noncomputable def d7(st:ie):Int×ie:=match st.given[st.heard]? with
 |some x=>(x,{st with heard:=st.heard+1})
 |none=>(0,st)
noncomputable def cE(st:ie):dJ->Int×ie
 |.put _ n=>((n:Nat),st)
 |.two w a b=>((match w with
  |0=>(tM st.bs a+tM st.bs b) % 65536
  |1=>(tM st.bs a-tM st.bs b) % 65536
  |2=>tM st.bs b % 65536),st)
 |.one _ _=>((d7 st).1 % 65536,(d7 st).2)
 |_=>(0,st)
noncomputable def isNum:dJ->Bool
 |.put _ _=>true
 |.two _ _ _=>true
 |.one 1 _=>true
 |_=>false
noncomputable def DV(K:PJ)(C:Addr):Sp:=λvs H Q _=>∃(a:MA) (st:ie) (p:Addr) (r:dJ),vs=[.ref a.m,.ref p]/\MS K C H a st/\H p=some (.tup r.vs)/\r.Ok/\isNum r=true /\
 ∀H',MS K C H' a (cE st r).2->KB (MF a) H H'->Q (.int (cE st r).1) H'
theorem AJ{fh:Addr}{d_heard_number:FuncData}(T:Txt K mg)(cM:mh K C)(na_boxes:bL K C "boxes")(mm_heard_number:Meth K C "heard_number" fh)(bm_heard_number:Binds K d_heard_number ["self"] [])(FO_heard_number:cP P w K mg base aZ 1 fh d_heard_number ["self"] (ud K C))(F:lB K "number_for" "Machine.number_for" aJ f fd):cP P w K mg base aZ 2 f fd ["self","row"] (DV K C):=by
 obtain⟨u_WHOLE,hg_WHOLE,hr_WHOLE⟩:=T.BG;refine F.ok bO (λvs H Q E h=>?_) (λcdv A outer s H vs Q E hr h=>?_)
 ·obtain⟨a,st,p,r,rfl,_⟩:=h;rfl
 ·obtain⟨a,st,p,r,rfl,M,hp,ba,hi,q⟩:=h;have hu:=aS hr;have key:∃t,QB (gy aZ P w K mg base ["self","row","word","old","other"] "Machine.number_for" (af aJ) f cdv A outer s H E).qW (aT aJ) t/\t {nx:=λ_ H'=>Q .aX H',rt:=Q} (start ["self","row","word","old","other"] [.ref a.m,.ref p]) H:=by
   refine⟨_,(Z.aq (Z.set (i:=2) bO.nd rfl (by right) (Z.ix (Z.aP K rfl hu) (Z.v 1) Z.int))
   (Z.aq (Z.eF (Z.bu b6 (Z.v 2) Z.str) (Z.aA (Z.ret (Z.ix (Z.aP K rfl hu) (Z.v 1) Z.int))) Z.bU)
   (Z.aq (Z.eF (Z.bu b6 (Z.v 2) Z.str) (Z.aA (Z.ret (Z.op cY (Z.pq K rfl (Z.v 0) cM mm_heard_number FO_heard_number (hr.mono (by decide)) bm_heard_number az) (Z.glob rfl hg_WHOLE hr_WHOLE)))) Z.bU)
   (Z.aq (Z.set (i:=3) bO.nd rfl (by right) (Z.yJ hu (Z.fld K rfl (Z.v 0)) (Z.ix (Z.aP K rfl hu) (Z.v 1) Z.int)))
   (Z.aq (Z.set (i:=4) bO.nd rfl (by right) (Z.yJ hu (Z.fld K rfl (Z.v 0)) (Z.ix (Z.aP K rfl hu) (Z.v 1) Z.int)))
   (Z.aq (Z.eF (Z.bu b6 (Z.v 2) Z.str) (Z.aA (Z.ret (Z.op cY (Z.op (Z.bf K rfl) (Z.v 3) (Z.v 4)) (Z.glob rfl hg_WHOLE hr_WHOLE)))) Z.bU)
   (Z.aq (Z.eF (Z.bu b6 (Z.v 2) Z.str) (Z.aA (Z.ret (Z.op cY (Z.op cW (Z.v 3) (Z.v 4)) (Z.glob rfl hg_WHOLE hr_WHOLE)))) Z.bU)
   (Z.aA (Z.ret (Z.op cY (Z.v 4) (Z.glob rfl hg_WHOLE hr_WHOLE))))))))))),?_⟩
   have e1:sq H p=some (false,r.vs):=aL hp;refine ax λN hN=>?_;walk_at "rz";simp only[L2.Ap.gr,e1];have dg:∀b,b<8->wc H a.bx (.str (cS b)) (some (.int (tM st.bs b))):=λb hb=>.inl ⟨_,.inr (cS b),.inl M.ob,rfl,(rR b hb st.bs M.l8).symm⟩;have sD:∀{x y:Str} {P1 P2:Prop},x≠y->P2->(if x=y then P1 else P2):=λh h2=>by rw[Ki h];exact h2
   cases r with
   |put b n =>
    show N [some (.ref a.m),some (.ref p),some (.str "put"),none,none] H;rw[hN];clear hN N;refine ax λN hN=>?_;walk_at "rz";simp only[L2.Ap.gr,e1];exact q H M (KB.refl _ _)
   |two u b c =>
    show N [some (.ref a.m),some (.ref p),some (.str (w2 u)),none,none] H;have hput:w2 u≠"put":=(show ∀u,w2 u≠"put" by decide +kernel) u
    have hhear:w2 u≠"hear":=(show ∀u,w2 u≠"hear" by decide +kernel) u
    rw[hN];clear hN N;refine ax λN hN=>?_;walk_at "rz";refine sD hput ?_;rw[hN];clear hN N;refine ax λN hN=>?_;walk_at "rz";refine sD hhear ?_;rw[hN];clear hN N;refine ax λN hN=>?_;walk_at "rz";refine⟨a.m,C,a.dx,_,_,rfl,M.om,cM,na_boxes,fI a _,?_⟩;simp only[L2.Ap.gr,e1];refine⟨a.bx,_,rfl,dg b ba.1,?_⟩;rw[hN];clear hN N;refine ax λN hN=>?_;walk_at "rz";refine⟨a.m,C,a.dx,_,_,rfl,M.om,cM,na_boxes,fI a _,?_⟩;simp only[L2.Ap.gr,e1];refine⟨a.bx,_,rfl,dg c ba.2,?_⟩;rw[hN];clear hN N;have fin:=q H M (KB.refl _ _);have hs:w2 1="sub":=rfl;refine ax λN hN=>?_;walk_at "rz";rcases FH u with rfl|rfl|rfl
    ·rw[Kj (show w2 0="add" from rfl)];exact⟨by decide,fin⟩
    ·refine sD (by decide +kernel) ?_
     rw[hN];clear hN N;refine ax λN hN=>?_;walk_at "rz";rw[Kj (show w2 1="sub" from rfl)];exact⟨by decide,fin⟩
    ·refine sD (by decide +kernel) ?_
     rw[hN];clear hN N;refine ax λN hN=>?_;walk_at "rz";refine sD (by decide +kernel) ?_
     rw[hN];clear hN N;walk_at "rz";exact⟨by decide,fin⟩
   |one u b =>
    have hu1:u=1:=by
     rcases nr u with h|h
     ·rw[h] at hi;cases hi
     ·exact h
    subst hu1;show N [some (.ref a.m),some (.ref p),some (.str "hear"),none,none] H;rw[hN];clear hN N;refine ax λN hN=>?_;walk_at "rz";refine sD (by decide +kernel) ?_
    rw[hN];clear hN N;refine ax λN hN=>?_;walk_at "rz";refine⟨a.m,a.dx,_,rfl,M.om,rfl,a,st,rfl,M,λh=>?_,λx hx H' M' kb=>?_⟩
    ·have e0:d7 st=(0,st):=by unfold d7;rw[LU.mpr h]
     have e2:cE st (.one 1 b)=(0 % 65536,st):=by unfold cE;rw[e0]
     rw[e2] at q;walk_at "rz";exact⟨by decide,q H M (KB.refl _ _)⟩
    ·have e0:d7 st=(x,{st with heard:=st.heard+1}):=by unfold d7;rw[hx]
     have e2:cE st (.one 1 b)=(x % 65536,{st with heard:=st.heard+1}):=by unfold cE;rw[e0]
     rw[e2] at q;walk_at "rz";exact⟨by decide,q H' M' kb⟩
   |jump g=>cases hi
   |zero b g=>cases hi
   |halt=>cases hi
  obtain⟨t,hb,ht⟩:=key;exact⟨t,hb.h,ht⟩
noncomputable def carry(st:ie):dJ->Bool×ie
 |.jump _=>(true,st)
 |.zero b _=>(decide (tM st.bs b=0),st)
 |.one 0 b=>(false,{st with told:=st.told++[tM st.bs b]})
 |.halt=>(false,st)
 |.put b n=>(false,{(cE st (.put b n)).2 with bs:=(cE st (.put b n)).2.bs.set b (cE st (.put b n)).1})
 |.two w a b=>(false,{(cE st (.two w a b)).2 with bs:=(cE st (.two w a b)).2.bs.set a (cE st (.two w a b)).1})
 |.one 1 b=>(false,{(cE st (.one 1 b)).2 with bs:=(cE st (.one 1 b)).2.bs.set b (cE st (.one 1 b)).1})
noncomputable def vh(K:PJ)(C:Addr):Sp:=λvs H Q _=>∃(a:MA) (st:ie) (p:Addr) (r:dJ),vs=[.ref a.m,.ref p]/\MS K C H a st/\H p=some (.tup r.vs)/\r.Ok/\st.told.length<100000 /\
 ∀H',MS K C H' a (carry st r).2->KB (MF a) H H'->Q (.bl (carry st r).1) H'
theorem pV{fn:Addr}{d_number_for:FuncData}(T:Txt K mg)(cM:mh K C)(na_boxes:bL K C "boxes")(na_told:bL K C "told")(mm_number_for:Meth K C "number_for" fn)(bm_number_for:Binds K d_number_for ["self","row"] [])(FO_number_for:cP P w K mg base aZ 2 fn d_number_for ["self","row"] (DV K C))(F:lB K "carry_out" "Machine.carry_out" aN f fd):cP P w K mg base aZ 3 f fd ["self","row"] (vh K C):=by
 refine F.ok dM (λvs H Q E h=>?_) (λcdv A outer s H vs Q E hr h=>?_)
 ·obtain⟨a,st,p,r,rfl,_⟩:=h;rfl
 ·obtain⟨a,st,p,r,rfl,M,hp,ba,htl,q⟩:=h;have hu:=aS hr;have key:∃t,QB (gy aZ P w K mg base ["self","row","word"] "Machine.carry_out" (af aN) f cdv A outer s H E).qW (aT aN) t/\t {nx:=λ_ H'=>Q .aX H',rt:=Q} (start ["self","row","word"] [.ref a.m,.ref p]) H:=by
   refine⟨_,(Z.aq (Z.set (i:=2) dM.nd rfl (by right) (Z.ix (Z.aP K rfl hu) (Z.v 1) Z.int))
   (Z.aq (Z.eF (Z.bu b6 (Z.v 2) Z.str) (Z.aA (Z.ret Z.bl)) Z.bU)
   (Z.aq (Z.eF (Z.bu b6 (Z.v 2) Z.str) (Z.aA (Z.ret (Z.cmp b6 (Z.yJ hu (Z.fld K rfl (Z.v 0)) (Z.ix (Z.aP K rfl hu) (Z.v 1) Z.int)) Z.int))) Z.bU)
   (Z.aq (Z.eF (Z.bu b6 (Z.v 2) Z.str) (Z.aA (Z.expr (Z.bm K rfl PySem.F.plainAttrs_list PySem.F.slot_list_append PySem.F.type_list_append cC (Z.fld K rfl (Z.v 0)) (Z.cons (Z.yJ hu (Z.fld K rfl (Z.v 0)) (Z.ix (Z.aP K rfl hu) (Z.v 1) Z.int)) Z.nil)))) (Z.aA (Z.eF (Z.bu xG (Z.v 2) Z.str) (Z.aA (Z.dput hu (Z.fld K rfl (Z.v 0)) (Z.ix (Z.aP K rfl hu) (Z.v 1) Z.int) (Z.BO K rfl (Z.v 0) cM mm_number_for FO_number_for (hr.mono (by decide)) bm_number_for az (Z.cons (Z.v 1) Z.nil)))) Z.bU)))
   (Z.aA (Z.ret Z.bl)))))),?_⟩
   have e1:sq H p=some (false,r.vs):=aL hp;obtain⟨n1,n2,n3,n4,n5,n6,n7,n8,n9⟩:=M.ne1;refine ax λN hN=>?_;walk_at "rz";simp only[L2.Ap.gr,e1];have dg:∀b,b<8->wc H a.bx (.str (cS b)) (some (.int (tM st.bs b))):=λb hb=>.inl ⟨_,.inr (cS b),.inl M.ob,rfl,(rR b hb st.bs M.l8).symm⟩;have sD:∀{x y:Str} {P1 P2:Prop},x≠y->P2->(if x=y then P1 else P2):=λh h2=>by rw[Ki h];exact h2
   have go:∀(r':dJ) (wd:Str) (b:Nat),r.vs=.str wd::.str (cS b)::(r.vs.drop 2)->b<8->isNum r=true->wd≠"jump"->wd≠"zero"->wd≠"tell"->wd≠"halt"->carry st r=(false,{(cE st r).2 with bs:=(cE st r).2.bs.set b (cE st r).1})->N [some (.ref a.m),some (.ref p),some (.str wd)] H:=by
    intro r' wd b ev hb hi w1 w2 w3 w4 ec;rw[hN];clear hN N;refine ax λN hN=>?_;walk_at "rz";refine sD w1 ?_;rw[hN];clear hN N;refine ax λN hN=>?_;walk_at "rz";refine sD w2 ?_;rw[hN];clear hN N;refine ax λN hN=>?_;walk_at "rz";refine sD w3 ?_;rw[Kj (show ¬ wd="halt" from w4)];refine⟨a.m,a.dx,_,rfl,M.om,rfl,a,st,p,r,rfl,M,hp,ba,hi,λH1 M1 kb=>?_⟩;have hp1:H1 p=some (.tup r.vs):=kb _ _ hp (by
     unfold MF;simp only[Kl,K7,Lp,not_or];exact⟨λe=>(by rw[e,M.om] at hp;cases hp),λe=>(by rw[e,M.ot] at hp;cases hp),λe=>(by rw[e,M.ob] at hp;cases hp)⟩)
    have e2:sq H1 p=some (false,r.vs):=aL hp1;refine⟨a.m,C,a.dx,_,_,rfl,M1.om,cM,na_boxes,fI a _,?_⟩;rw[e2,ev];simp only[CV];obtain⟨k1,k2,k3,k4,k5,k6,k7,k8,k9⟩:=M1.ne1;refine⟨a.bx,_,rfl,.inl ⟨_,.inr (cS b),M1.ob,rfl,?_,rfl⟩,?_⟩
    ·have l8:=M1.l8;rw[OU];exact Lm (Nat.min_le_left _ _) (by decide)
    rw[Em b hb _ _ M1.l8,hN];clear hN N;walk_at "rz";rw[ec] at q;refine q _ ⟨by rw[ae k2.symm];exact M1.om,by rw[ae k9];exact M1.od,by rw[ae k8];exact M1.og,by rw[ae k5.symm];exact M1.ot,aa,by rw[Ld];exact M1.l8,M1.hh⟩ (kb.trans (KB.set (by unfold MF;simp)))
   cases r with
   |put b n=>exact go (.put b n) "put" b rfl ba rfl (by decide +kernel) (by decide +kernel) (by decide +kernel) (by decide +kernel) rfl
   |two u b c=>exact go (.two u b c) (w2 u) b rfl ba.1 rfl ((show ∀u,w2 u≠"jump" by decide +kernel) u) ((show ∀u,w2 u≠"zero" by decide +kernel) u) ((show ∀u,w2 u≠"tell" by decide +kernel) u) ((show ∀u,w2 u≠"halt" by decide +kernel) u) rfl
   |one u b =>
    rcases nr u with rfl|rfl
    rotate_left
    ·exact go (.one 1 b) "hear" b rfl ba rfl (by decide +kernel) (by decide +kernel) (by decide +kernel) (by decide +kernel) rfl
    ·show N [some (.ref a.m),some (.ref p),some (.str "tell")] H;rw[hN];clear go hN N;refine ax λN hN=>?_;walk_at "rz";refine sD (by decide +kernel) ?_
     rw[hN];clear hN N;refine ax λN hN=>?_;walk_at "rz";refine sD (by decide +kernel) ?_
     rw[hN];clear hN N;refine ax λN hN=>?_;walk_at "rz";refine⟨a.m,C,a.dx,_,_,rfl,M.om,cM,na_told,vb a _,Or.inl ⟨rfl,_,bB.of M.ot⟩,a.m,C,a.dx,_,_,rfl,M.om,cM,na_boxes,fI a _,?_⟩;simp only[L2.Ap.gr,e1];refine⟨a.bx,_,rfl,dg b ba,?_⟩;refine⟨a.tl,_,_,rfl,rfl,M.ot,?_,?_⟩
     ·unfold iV;rw[Kc];exact MT htl (KI (by decide) FO)
     rw[hN];clear hN N;walk_at "rz";refine q _ ⟨by rw[ae n1.symm];exact M.om,by rw[ae n7];exact M.od,by rw[ae n6];exact M.og,?_,by rw[ae n5];exact M.ob,M.l8,M.hh⟩ (KB.set (by unfold MF;simp))
     rw[aa];show some (HO.lst (iV st.told++[V.int (tM st.bs b)]))=some (.lst (iV (st.told++[tM st.bs b])));unfold iV;rw[Kv];rfl
   |jump g =>
    show N [some (.ref a.m),some (.ref p),some (.str "jump")] H;rw[hN];clear go hN N;refine ax λN hN=>?_;walk_at "rz";exact q H M (KB.refl _ _)
   |zero b g =>
    show N [some (.ref a.m),some (.ref p),some (.str "zero")] H;rw[hN];clear go hN N;refine ax λN hN=>?_;walk_at "rz";refine sD (by decide +kernel) ?_
    rw[hN];clear hN N;refine ax λN hN=>?_;walk_at "rz";refine⟨a.m,C,a.dx,_,_,rfl,M.om,cM,na_boxes,fI a _,?_⟩;simp only[L2.Ap.gr,e1];refine⟨a.bx,_,rfl,dg b ba,?_⟩;walk_at "rz";exact q H M (KB.refl _ _)
   |halt =>
    show N [some (.ref a.m),some (.ref p),some (.str "halt")] H;rw[hN];clear go hN N;refine ax λN hN=>?_;walk_at "rz";refine sD (by decide +kernel) ?_
    rw[hN];clear hN N;refine ax λN hN=>?_;walk_at "rz";refine sD (by decide +kernel) ?_
    rw[hN];clear hN N;refine ax λN hN=>?_;walk_at "rz";refine sD (by decide +kernel) ?_
    rw[Ki (by simp),hN];clear hN N
    walk_at "rz";exact q H M (KB.refl _ _)
  obtain⟨t,hb,ht⟩:=key;exact⟨t,hb.h,ht⟩
noncomputable def jy:dJ->Option Int
 |.jump g=>some g
 |.zero _ g=>some g
 |_=>none
noncomputable def iX(r:dJ):V:=match jy r with
 |some g=>.int g
 |none=>.aX
def iK:Sp:=λvs H Q _=>∃(p:Addr) (r:dJ),vs=[.ref p]/\H p=some (.tup r.vs)/\Q (iX r) H
theorem y8(T:Txt K mg)(F:HasFn K mg "goal_of" gR ["row"]):au P w K mg base aZ 1 "goal_of" ["row"] iK:=by
 obtain⟨dS,hg_SHAPES,hd0⟩:=T.kJ;have hd_SHAPES:lH K dS bX:=hd0;refine F.fL sL (λvs H Q E h=>?_) (λf cdv A outer s H vs Q E hr h=>?_)
 ·obtain⟨p,r,rfl,_⟩:=h;rfl
 ·have hu:=aS hr;obtain⟨p,r,rfl,hp,q⟩:=h;refine⟨_,(Z.aA (Z.ret (Z.BA (Z.bu (Z.IG K rfl) Z.str (Z.Js K rfl rfl hg_SHAPES hd_SHAPES (Z.ix (Z.aP K rfl hu) (Z.v 0) Z.int))) (Z.ix (Z.aP K rfl hu) (Z.v 0) (Z.un iq Z.int)) Z.aX))),?_⟩;have sp:=aL hp;have kt1:∀{pk:Addr} {xs:List V},HL K pk xs->bB K H pk xs\/aY K H pk xs:=λh=>.inr (.inr h);obtain⟨w,ws,e0,ed,ef,h⟩:∃(w:Str) (ws:List Str),cL r.vs 0=some (.str w)/\KTD.datumAt w bX=some ws/\(ws.map V.str).all cQ=true/\(qM (.str "goal") (ws.map V.str)=true/\cL r.vs (-1)=some (iX r)\/qM (.str "goal") (ws.map V.str)=false/\iX r=.aX):=by
   cases r with
   |jump g=>exact⟨_,_,rfl,(by decide +kernel:KTD.datumAt ("jump":Str) bX=some [("goal":Str)]),rfl,.inl ⟨by decide +kernel,rfl⟩⟩
   |zero b g=>exact⟨_,_,rfl,(by decide +kernel:KTD.datumAt ("zero":Str) bX=some [("box":Str),"goal"]),rfl,.inl ⟨by decide +kernel,rfl⟩⟩
   |put b n=>exact⟨_,_,rfl,(by decide +kernel:KTD.datumAt ("put":Str) bX=some [("box":Str),"number"]),rfl,.inr ⟨by decide +kernel,rfl⟩⟩
   |two u b c=>exact⟨_,_,rfl,(by decide +kernel:∀u:_root_.Fin 3,KTD.datumAt (w2 u) bX=some [("box":Str),"box"]) u,rfl,.inr ⟨by decide +kernel,rfl⟩⟩
   |one u b=>exact⟨_,_,rfl,(by decide +kernel:∀u:_root_.Fin 2,KTD.datumAt (w1 u) bX=some [("box":Str)]) u,rfl,.inr ⟨by decide +kernel,rfl⟩⟩
   |halt=>exact⟨_,_,rfl,(by decide +kernel:KTD.datumAt ("halt":Str) bX=some ([]:List Str)),rfl,.inr ⟨by decide +kernel,rfl⟩⟩
  exists sp,e0;refine⟨_,_,rfl,ed,λpk kt=>⟨pk,_,rfl,kt1 kt,rfl,ef,?_⟩⟩;refine⟨_,rfl,?_⟩;rcases h with ⟨h1,h2⟩|⟨h1,h2⟩
  ·rw[Ki Kx,h1,Kj rfl];simp only[sp,h2];exact q
  ·rw[Ki Kx,h1,Ki Kx];rw[h2] at q;exact q
noncomputable def place(st:ie)(r:dJ)(bh en:Int):Int:=match r with
 |.halt=>en
 |r=>if (carry st r).1=true then ((jy r).getD 0) else bh
noncomputable def Bs(K:PJ)(C:Addr):Sp:=λvs H Q _=>∃(a:MA) (st:ie) (p:Addr) (r:dJ) (bh en:Int),vs=[.ref a.m,.ref p,.int bh,.int en]/\MS K C H a st/\H p=some (.tup r.vs)/\r.Ok/\st.told.length<100000 /\
 ∀H',MS K C H' a (carry st r).2->KB (MF a) H H'->Q (.int (place st r bh en)) H'
theorem oT{fc:Addr}{d_carry_out:FuncData}(T:Txt K mg)(hgoal_of:au P w K mg base aZ 1 "goal_of" ["row"] iK)(cM:mh K C)(mm_carry_out:Meth K C "carry_out" fc)(bm_carry_out:Binds K d_carry_out ["self","row"] [])(FO_carry_out:cP P w K mg base aZ 3 fc d_carry_out ["self","row"] (vh K C))(F:lB K "place_next" "Machine.place_next" aK f fd):cP P w K mg base aZ 4 f fd ["self","row","behind","end"] (Bs K C):=by
 refine F.ok d5 (λvs H Q E h=>?_) (λcdv A outer s H vs Q E hr h=>?_)
 ·obtain⟨a,st,p,r,bh,en,rfl,_⟩:=h;rfl
 ·obtain⟨a,st,p,r,bh,en,rfl,M,hp,ba,htl,q⟩:=h;have hu:=aS hr;have key:∃t,QB (gy aZ P w K mg base ["self","row","behind","end","goes"] "Machine.place_next" (af aK) f cdv A outer s H E).qW (aT aK) t/\t {nx:=λ_ H'=>Q .aX H',rt:=Q} (start ["self","row","behind","end","goes"] [.ref a.m,.ref p,.int bh,.int en]) H:=by
   refine⟨_,(Z.aq (Z.set (i:=4) d5.nd rfl (by right) (Z.BO K rfl (Z.v 0) cM mm_carry_out FO_carry_out (hr.mono (by decide)) bm_carry_out az (Z.cons (Z.v 1) Z.nil)))
   (Z.aq (Z.eF (Z.bu b6 (Z.ix (Z.aP K rfl hu) (Z.v 1) Z.int) Z.str) (Z.aA (Z.ret (Z.v 3))) Z.bU)
   (Z.aA (Z.ret (Z.BA (Z.wI K rfl (Z.v 4)) (Z.fn hgoal_of (hr.mono (by decide)) rfl az (Z.cons (Z.v 1) Z.nil)) (Z.v 2)))))),?_⟩
   refine ax λN hN=>?_;walk_at "rz";refine⟨a.m,a.dx,_,rfl,M.om,rfl,a,st,p,r,rfl,M,hp,ba,htl,λH1 M1 kb=>?_⟩;have hp1:H1 p=some (.tup r.vs):=kb _ _ hp (by
    unfold MF;simp only[Kl,K7,Lp,not_or];exact⟨λe=>(by rw[e,M.om] at hp;cases hp),λe=>(by rw[e,M.ot] at hp;cases hp),λe=>(by rw[e,M.ob] at hp;cases hp)⟩)
   have e2:sq H1 p=some (false,r.vs):=aL hp1;walk_at "rz";rw[hN];clear hN N;refine ax λN hN=>?_;walk_at "rz";simp only[L2.Ap.gr,e2];have fin:=q H1 M1 kb;by_cases hh:r=.halt
   ·subst hh;show DE (.str "halt") (.str "halt") H1 _;simp only[L2.Ap.BF];exact⟨_,rfl,by rw[Kj (by simp)];exact fin⟩
   ·obtain⟨wd,hw,hne⟩:∃wd,cL r.vs 0=some (.str wd)/\wd≠"halt":=by
     cases r with
     |put b n=>exact⟨_,rfl,by decide +kernel⟩
     |two u b c=>exact⟨_,rfl,(show ∀u,w2 u≠"halt" by decide +kernel) u⟩
     |one u b=>exact⟨_,rfl,(show ∀u,w1 u≠"halt" by decide +kernel) u⟩
     |jump g=>exact⟨_,rfl,by decide +kernel⟩
     |zero b g=>exact⟨_,rfl,by decide +kernel⟩
     |halt=>exact absurd rfl hh
    have ep:place st r bh en=if (carry st r).1=true then ((jy r).getD 0) else bh:=by
     cases r<;>first|rfl|exact absurd rfl hh
    rw[hw];simp only[L2.Ap.BF];refine⟨_,rfl,?_⟩;rw[Ki (by simpa using hne),hN];clear hN N
    walk_at "rz"
    cases hc:(carry st r).1 with
    |false =>
     rw[Ki (by decide)]
     rw[ep,hc] at fin;exact fin
    |true =>
     rw[Kj rfl];obtain⟨g,hg⟩:∃g,jy r=some g:=by
      cases r with
      |put b n=>cases hc
      |two u b c=>cases hc
      |one u b =>
       rcases nr u with rfl|rfl<;>cases hc
      |jump g=>exact⟨g,rfl⟩
      |zero b g=>exact⟨g,rfl⟩
      |halt=>cases hc
     refine⟨p,r,rfl,hp1,?_⟩;have hT:iX r=.int g:=by unfold iX;rw[hg]
     have:=q H1 M1 kb;rw[ep,hc,hg] at this;rw[hT];exact this
  obtain⟨t,hb,ht⟩:=key;exact⟨t,hb.h,ht⟩
def Ge(K:PJ)(C:Addr):Sp:=λvs H Q _=>∃(a:MA) (st:ie),vs=[.ref a.m]/\MS K C H a st/\∀p,H p=none->Q (.ref p) (upd H p (.tup (iV st.told)))
theorem uh(T:Txt K mg)(cM:mh K C)(na_told:bL K C "told")(F:lB K "told_numbers" "Machine.told_numbers" aG f fd):cP P w K mg base aZ 1 f fd ["self"] (Ge K C):=by
 refine F.ok f9 (λvs H Q E h=>?_) (λcdv A outer s H vs Q E hr h=>?_)
 ·obtain⟨a,st,rfl,_⟩:=h;rfl
 ·obtain⟨a,st,rfl,M,q⟩:=h;have hu:=aS hr;have key:∃t,QB (gy aZ P w K mg base ["self"] "Machine.told_numbers" (af aG) f cdv A outer s H E).qW (aT aG) t/\t {nx:=λ_ H'=>Q .aX H',rt:=Q} (start ["self"] [.ref a.m]) H:=by
   refine⟨_,(Z.aA (Z.ret (Z.ct (Z.cc K rfl) rfl T.cg (by decide +kernel) (Z.cons (Z.fld K rfl (Z.v 0)) Z.nil)))),?_⟩
   have e1:sq H a.tl=some (true,iV st.told):=aI M.ot;walk_at "rz";refine⟨a.m,C,a.dx,_,_,rfl,M.om,cM,na_told,vb a _,?_⟩;simp only[L2.Ap.tq,e1];exactλp hp=>q p hp
  obtain⟨t,hb,ht⟩:=key;exact⟨t,hb.h,ht⟩
noncomputable def GJ:List Str:=["a","b","c","d","e","f","g","h"]
noncomputable def C3(K:PJ)(C:Addr):Sp:=λvs H Q _=>∃(a:MA) (st:ie),vs=[.ref a.m]/\MS K C H a st/\∀p H',H p=none->H' p=some (.tup (iV st.bs))->KB [] H H'->Q (.ref p) H'
theorem q5(T:Txt K mg)(cM:mh K C)(na_boxes:bL K C "boxes")(F:lB K "box_numbers" "Machine.box_numbers" aC f fd):cP P w K mg base aZ 1 f fd ["self"] (C3 K C):=by
 obtain⟨b,hg_BOXES,kt0⟩:=T.jK;have hr_BOXES:RelV (.ref b) (.ref b):=rfl;have kt:∀H,aY K H b (GJ.map V.str):=kt0;refine F.ok fX (λvs H Q E h=>?_) (λcdv A outer s H vs Q E hr h=>?_)
 ·obtain⟨a,st,rfl,_⟩:=h;rfl
 ·obtain⟨a,st,rfl,M,q⟩:=h;have hu:=aS hr;have key:∃t,QB (gy aZ P w K mg base ["self"] "Machine.box_numbers" (af aC) f cdv A outer s H E).qW (aT aC) t/\t {nx:=λ_ H'=>Q .aX H',rt:=Q} (start ["self"] [.ref a.m]) H:=by
   refine⟨_,(Z.aA (Z.ret (Z.ct (Z.cc K rfl) rfl T.cg (by decide +kernel) (Z.cons (Z.comp (osc:=af aC) (ON:=["self"]) (own:=["box"]) (N:=["box","self"]) ⟨rfl,by decide +kernel,rfl,by decide +kernel,by decide +kernel,by decide +kernel,by decide +kernel,by decide +kernel⟩ rfl rfl rfl (Z.seq K rfl (Z.glob rfl hg_BOXES hr_BOXES)) (λ_ _ _ _=>(Z.aO (i:=0) (show List.Nodup (["box","self"]:List Str) by decide +kernel) rfl (by right))) (λ_ _ _ _=>Z.lV) (λ_ _ _ _=>(Z.yJ hu (Z.fld K rfl (Z.v 1)) (Z.v 0)))) Z.nil)))),?_⟩
   walk_at "rz";refine .inr ⟨⟨_,kt _⟩,?_⟩;have l8:=M.l8;refine cq (xs:=GJ.map V.str) (by decide) (λD i ys H'=>H D=none/\KB [] H H'/\H' D=some (.lst ys)/\ys=iV (st.bs.take i)/\i<=8) (λD hD=>⟨hD,KB.new hD,aa,by simp[iV],by decide⟩) (λD i ys H' ⟨h1,h2,h3,h4,h5⟩=>⟨h3,by rw[h4];unfold iV;rw[Kc,K8];omega⟩) (λD i ys H' _=>kt _) ?_ ?_
   ·rintro D i ys H' x R hx ⟨h1,h2,h3,h4,h5⟩ k;have hi:i<8:=by
     rcases Lh i 8 with c|c
     ·exact c
     ·rw[LU.mpr (by exact c)] at hx;cases hx
    have ex:x=.str (cS i):=by
     rcases GC hi with rfl|rfl|rfl|rfl|rfl|rfl|rfl|rfl<;>exact (Option.some.inj hx).symm
    subst ex;have om':=h2 _ _ M.om (by simp)
    have ob':=h2 _ _ M.ob (by simp)
    walk_at "rz";refine⟨a.m,C,a.dx,_,_,rfl,om',cM,na_boxes,fI a _,a.bx,_,rfl,.inl ⟨_,.inr (cS i),.inl ob',rfl,(rR i hi st.bs l8).symm⟩,?_⟩;refine k _ H' h3 ⟨h1,λb o e _=>?_,aa,?_,by omega⟩
    ·rw[ae (ao e h1)];exact h2 b o e (by simp)
    ·have hb:i<st.bs.length:=by omega
     rw[h4,N7 hb];unfold iV tM;rw[Kv,Ka hb];rfl
   ·rintro D ys H' ⟨h1,h2,h3,h4,h5⟩;have e1:sq H' D=some (true,ys):=aI h3;simp only[L2.Ap.tq,e1];refineλp hp=>q p _ (h2.free (by simp) hp) ?_ (h2.trans (KB.new hp))
    rw[aa,h4];have:st.bs.take (GJ.map V.str).length=st.bs:=La (by rw[l8];decide)
    rw[this]
  obtain⟨t,hb,ht⟩:=key;exact⟨t,hb.h,ht⟩
noncomputable def G0(g:List Int):ie:=⟨g,0,[],[0,0,0,0,0,0,0,0]⟩
noncomputable def Fg(K:PJ)(C:Addr):Sp:=λvs H Q _=>∃(x dx gv:Addr) (g:List Int),vs=[.ref x,.ref gv]/\H x=some (.ins C dx [])/\H dx=some (.own x)/\H gv=some (.tup (iV g)) /\
 ∀H' tl bx,H tl=none->H bx=none->MS K C H' ⟨x,dx,gv,tl,bx⟩ (G0 g)->KB [x] H H'->Q .aX H'
theorem uI(T:Txt K mg)(cM:mh K C)(na_given:bL K C "given")(na_heard:bL K C "heard")(na_told:bL K C "told")(na_boxes:bL K C "boxes")(F:lB K "__init__" "Machine.__init__" aM f fd):cP P w K mg base aZ 1 f fd ["self","given"] (Fg K C):=by
 obtain⟨b,hg_BOXES,kt0⟩:=T.jK;have hr_BOXES:RelV (.ref b) (.ref b):=rfl;have kt:∀H,aY K H b (GJ.map V.str):=kt0;refine F.ok hU (λvs H Q E h=>?_) (λcdv A outer s H vs Q E hr h=>?_)
 ·obtain⟨x,dx,gv,g,rfl,_⟩:=h;rfl
 ·obtain⟨x,dx,gv,g,rfl,ox,od,og,q⟩:=h;have hu:=aS hr;have key:∃t,QB (gy aZ P w K mg base ["self","given"] "Machine.__init__" (af aM) f cdv A outer s H E).qW (aT aM) t/\t {nx:=λ_ H'=>Q .aX H',rt:=Q} (start ["self","given"] [.ref x,.ref gv]) H:=by
   refine⟨_,(Z.aq (Z.zJ K rfl (Z.v 0) (Z.v 1))
   (Z.aq (Z.zJ K rfl (Z.v 0) Z.int)
   (Z.aq (Z.zJ K rfl (Z.v 0) (Z.lst Z.nil))
   (Z.aA (Z.zJ K rfl (Z.v 0) (Z.ct (p8 K rfl) rfl T.Gq (by decide +kernel) (Z.cons (Z.comp (osc:=af aM) (ON:=["self","given"]) (own:=["box"]) (N:=["box","self","given"]) ⟨rfl,by decide +kernel,rfl,by decide +kernel,by decide +kernel,by decide +kernel,by decide +kernel,by decide +kernel⟩ rfl rfl rfl (Z.seq K rfl (Z.glob rfl hg_BOXES hr_BOXES)) (λ_ _ _ _=>(Z.aO (i:=0) (show List.Nodup (["box","self","given"]:List Str) by decide +kernel) rfl (by right))) (λ_ _ _ _=>Z.lV) (λ_ _ _ _=>(Z.tup (Z.cons (Z.v 0) (Z.cons Z.int Z.nil))))) Z.nil))))))),?_⟩
   have ndx:dx≠x:=by rintro rfl;rw[ox] at od;cases od
   have ngx:gv≠x:=by rintro rfl;rw[ox] at og;cases og
   refine ax λN hN=>?_;walk_at "rz";refine⟨x,C,dx,_,rfl,ox,cM,na_given,by decide,?_⟩
   rw[hN];clear hN N;refine ax λN hN=>?_;walk_at "rz";refine⟨x,C,dx,_,rfl,aa,cM,na_heard,(show 1<1000 by decide),?_⟩
   rw[hN];clear hN N;rw[m_];refine ax λN hN=>?_;walk_at "rz";refine⟨by decide,λtl htl=>?_⟩
   have ntl:tl≠x:=by rintro rfl;rw[aa] at htl;cases htl
   have htl0:H tl=none:=by rw[ae ntl] at htl;exact htl
   refine⟨x,C,dx,dU "heard" (.int 0) (dU "given" (.ref gv) []),rfl,by rw[ae ntl.symm];exact aa,cM,na_told,(show 2<1000 by decide),?_⟩
   rw[hN];clear hN N;have ntd:tl≠dx:=λe=>by rw[e,od] at htl0;cases htl0
   have ntg:tl≠gv:=λe=>by rw[e,og] at htl0;cases htl0
   obtain⟨H3,e3⟩:∃H3,H3=upd (upd (upd H x (.ins C dx (dU "heard" (.int 0) (dU "given" (.ref gv) [])))) tl (.lst [])) x (.ins C dx (dU "told" (.ref tl) (dU "heard" (.int 0) (dU "given" (.ref gv) [])))):=⟨_,rfl⟩;rw[<- e3];have x3:H3 x=some (.ins C dx [("given",.ref gv),("heard",.int 0),("told",.ref tl)]):=by rw[e3];exact aa
   have t3:H3 tl=some (.lst []):=by rw[e3,ae ntl];exact aa
   have d3:H3 dx=some (.own x):=by rw[e3,ae ndx,ae ntd.symm,ae ndx];exact od
   have g3:H3 gv=some (.tup (iV g)):=by rw[e3,ae ngx,ae ntg.symm,ae ngx];exact og
   have k3:KB [x] H H3:=by
    rw[e3];exact ((KB.set (by simp)).trans (KB.new htl)).trans (KB.set (by simp))
   clear e3;walk_at "rz";refine .inr ⟨⟨_,kt _⟩,?_⟩;refine cq (xs:=GJ.map V.str) (by decide) (λD i ys H'=>H3 D=none/\KB [] H3 H'/\H' D=some (.lst ys)/\ys.length=i/\i<=8/\∀j,j<i->∃p,ys[j]?=some (.ref p)/\H' p=some (.tup [.str (cS j),.int 0])) (λD hD=>⟨hD,KB.new hD,aa,rfl,by decide,λj hj=>absurd hj (MG _)⟩) (λD i ys H' ⟨h1,h2,h3,h4,h5⟩=>⟨h3,h4⟩) (λD i ys H' _=>kt _) ?_ ?_
   ·rintro D i ys H' z R hx ⟨h1,h2,h3,h4,h5,h6⟩ k;have hi:i<8:=by
     rcases Lh i 8 with c|c
     ·exact c
     ·rw[LU.mpr (by exact c)] at hx;cases hx
    have ex:z=.str (cS i):=by
     rcases GC hi with rfl|rfl|rfl|rfl|rfl|rfl|rfl|rfl<;>exact (Option.some.inj hx).symm
    subst ex;walk_at "rz";refine⟨by decide,λp hp=>?_⟩
    have npD:p≠D:=by rintro rfl;rw[h3] at hp;cases hp
    refine k _ _ (by rw[ae npD.symm];exact h3) ⟨h1,λc o e _=>?_,aa,by rw[Ke,h4];rfl,by omega,λj hj=>?_⟩
    ·have hc:=h2 c o e (by simp)
     rw[ae (ao e h1),ae (ao hc hp)];exact hc
    ·rcases Lh j i with c|c
     ·obtain⟨p',e1,e2⟩:=h6 j c;have n1:p'≠D:=by rintro rfl;rw[h3] at e2;cases e2
      exact⟨p',by rw[KC (by omega)];exact e1,by rw[ae n1,ae (ao e2 hp)];exact e2⟩
     ·have:j=i:=by omega
      subst this;exact⟨p,by rw[K4 (by omega),h4];simp,by rw[ae npD];exact aa⟩
   ·rintro D ys H' ⟨h1,h2,h3,h4,h5,h6⟩;have hl:(GJ.map V.str).length=8:=rfl;rw[hl] at h4 h6;refine⟨D,ys,DC.zip (iV (G0 g).bs),rfl,h3,⟨h4,λj k z e=>?_⟩,(show 8<=20000 by decide),λp hp=>?_⟩
    ·have hj:j<8:=by
      rcases Lh j 8 with c|c
      ·exact c
      ·rw[LU.mpr (by exact c)] at e;cases e
     obtain⟨p,e1,e2⟩:=h6 j hj;refine⟨p,e1,?_⟩;rw[e2];rcases GC hj with rfl|rfl|rfl|rfl|rfl|rfl|rfl|rfl<;>(cases e;rfl)
    ·have hm:gK [] (DC.zip (iV (G0 g).bs))=DC.zip (iV (G0 g).bs):=by
      rw[Y.ml _ [] ?_,LM];show (DC.map λk=>k).Nodup
      decide +kernel
     rw[hm];have x4:=h2 _ _ x3 (by simp)
     have t4:=h2 _ _ t3 (by simp)
     have d4:=h2 _ _ d3 (by simp)
     have g4:=h2 _ _ g3 (by simp)
     have px:p≠x:=λe=>by rw[e,x4] at hp;cases hp
     have pt:p≠tl:=λe=>by rw[e,t4] at hp;cases hp
     have pd:p≠dx:=λe=>by rw[e,d4] at hp;cases hp
     have pg:p≠gv:=λe=>by rw[e,g4] at hp;cases hp
     have hp3:H3 p=none:=h2.free (by simp) hp
     have hp0:H p=none:=k3.free (by simpa using px) hp3
     refine⟨x,C,dx,[("given",.ref gv),("heard",.int 0),("told",.ref tl)],rfl,by rw[ae px.symm];exact x4,cM,na_boxes,(show 3<1000 by decide),?_⟩
     refine q _ tl p htl0 hp0 ⟨aa,by rw[ae ndx,ae pd.symm];exact d4,by rw[ae ngx,ae pg.symm];exact g4,by rw[ae ntl,ae pt.symm];exact t4,by rw[ae px];exact aa,rfl,Kz _⟩ ?_
     exact ((k3.trans h2.all).trans (KB.new hp)).trans (KB.set (by simp))
  obtain⟨t,hb,ht⟩:=key;exact⟨t,hb.h,ht⟩
structure BS where
 st:ie
 at_:Int
 rd:Int
noncomputable def zd(cd:List (List (List Nat)))(z:List Nat)(p:Int):Option (dJ×Nat):=(xq cd z p).map λx=>(rF x,x.2)
noncomputable def kR(z:List Nat)(c:BS)(x:dJ×Nat):BS:=⟨(carry c.st x.1).2,place c.st x.1 (x.2:Nat) (z.length:Nat),c.rd+(x.2:Nat)-c.at_⟩
noncomputable def d6(cd:List (List (List Nat)))(z:List Nat):Nat->BS->BS
 |0,c=>c
 |n+1,c=>match zd cd z c.at_ with
  |none=>c
  |some x=>d6 cd z n (kR z c x)
noncomputable def qd(cd:List (List (List Nat)))(z:List Nat)(c:BS):Str:=if c.at_=(z.length:Nat) then "halt" else match zd cd z c.at_ with
 |none=>"bad"
 |some _=>"more"
noncomputable def Fs(g:List Int):BS:=⟨G0 g,0,0⟩
noncomputable def EM(H:Hp)(v:V)(cd:List (List (List Nat)))(z:List Nat)(c:BS):Prop:=∃t p1 p2,v=.ref t/\H t=some (.tup [.str (qd cd z c),.ref p1,.int c.rd,.ref p2])/\H p1=some (.tup (iV c.st.told))/\H p2=some (.tup (iV c.st.bs))
theorem uy(st:ie)(r:dJ):(carry st r).2.told.length<=st.told.length+1:=by
 have hh:(d7 st).2.told=st.told:=by unfold d7;split<;>rfl
 cases r with
 |put b n=>exact Ln _
 |two u a b=>exact Ln _
 |one u b =>
  rcases nr u with rfl|rfl
  ·show (st.told++[tM st.bs b]).length<=_;rw[Ke];exact Kk _
  ·show (d7 st).2.told.length<=_;rw[hh];exact Ln _
 |jump g=>exact Ln _
 |zero b g=>exact Ln _
 |halt=>exact Ln _
theorem sj{cd:List (List (List Nat))}{n:Nat}{c:BS}(h:xq cd z c.at_=none):d6 cd z n c=c:=by
 cases n with
 |zero=>rfl
 |succ k=>rw[d6];unfold zd;rw[h];rfl
theorem rW{cd:List (List (List Nat))}{n:Nat}{c:BS}{y:RW×Nat}(h:xq cd z c.at_=some y):d6 cd z (n+1) c=d6 cd z n (kR z c (rF y,y.2)):=by
 rw[d6];unfold zd;rw[h];rfl
theorem vA{m:Str}{a:MA}{h:Nat}(h1:m≠"given")(h2:m≠"heard")(h3:m≠"told")(h4:m≠"boxes"):(Aq a h).lookup m=none:=by
 unfold Aq;rw[Lf,KO.mpr h1,Lf,KO.mpr h2,Lf,KO.mpr h3,Lf,KO.mpr h4];rfl
theorem MS.kb{a:MA}{st:ie}(M:MS K C H a st)(k:KB [] H H'):MS K C H' a st:=⟨k _ _ M.om (by simp),k _ _ M.od (by simp),k _ _ M.og (by simp),k _ _ M.ot (by simp),k _ _ M.ob (by simp),M.l8,M.hh⟩
noncomputable def za(K:PJ):Sp:=λvs H Q _=>∃(b gv:Addr) (bk:List (List Int)) (z:List Nat) (g:List Int) (most:Nat),vs=[.str (wd z),.ref b,.ref gv,.int (most:Nat)]/\vG H b bk/\H gv=some (.tup (iV g))/\Bk bk/\vo (fT bk)/\e9 z/\z.length<=1000000/\most<=10000/\∀v H',KB [] H H'->EM H' v (fT bk) z (d6 (fT bk) z most (Fs g))->Q v H'
theorem Bu(T:Txt K mg)(hgoal_of:au P w K mg base aZ 1 "goal_of" ["row"] iK)(hcodes_of:au P w K mg base aZ 6 "codes_of" ["book"] (nq K))(hrow_at:au P w K mg base aZ 5 "row_at" ["codes","bits","place"] (ug K))(F:HasFn K mg "run_bits" fS ["bits","book","given","most"]):au P w K mg base aZ 7 "run_bits" ["bits","book","given","most"] (za K):=by
 obtain⟨C_Machine,f___init__,f_place_next,f_carry_out,f_number_for,f_heard_number,f_told_numbers,f_box_numbers,d___init__,d_place_next,d_carry_out,d_number_for,d_heard_number,d_told_numbers,d_box_numbers,hC_Machine,cM,na_given,na_heard,na_told,na_boxes,mm___init__,FM___init__,bm___init__,mm_place_next,FM_place_next,bm_place_next,mm_carry_out,FM_carry_out,bm_carry_out,mm_number_for,FM_number_for,bm_number_for,mm_heard_number,FM_heard_number,bm_heard_number,mm_told_numbers,FM_told_numbers,bm_told_numbers,mm_box_numbers,FM_box_numbers,bm_box_numbers⟩:=T.mc;have FO_heard_number:=qa (P:=P) (w:=w) (mg:=mg) (base:=base) T cM na_given na_heard FM_heard_number;have FO_number_for:=AJ (P:=P) (w:=w) (mg:=mg) (base:=base) T cM na_boxes mm_heard_number bm_heard_number FO_heard_number FM_number_for;have FO_carry_out:=pV (P:=P) (w:=w) (mg:=mg) (base:=base) T cM na_boxes na_told mm_number_for bm_number_for FO_number_for FM_carry_out;have FO_place_next:=oT T hgoal_of cM mm_carry_out bm_carry_out FO_carry_out FM_place_next;have FO_told_numbers:=uh (P:=P) (w:=w) (mg:=mg) (base:=base) T cM na_told FM_told_numbers;have FO_box_numbers:=q5 (P:=P) (w:=w) (mg:=mg) (base:=base) T cM na_boxes FM_box_numbers;have FO___init__:=uI (P:=P) (w:=w) (mg:=mg) (base:=base) T cM na_given na_heard na_told na_boxes FM___init__;refine F.fL bo (λvs H Q E h=>?_) (λf cdv A outer s H vs Q E hr h=>?_)
 ·obtain⟨b,gv,bk,z,g,most,rfl,_⟩:=h;rfl
 ·obtain⟨bb,gv,bk,z,g,most,rfl,hbk,og,hBk,hR,hb,hz,hmo,q⟩:=h;have hu:=aS hr;refine⟨_,(Z.aq (Z.set (i:=4) bo.nd rfl (by right) (Z.fn hcodes_of (hr.mono (by decide)) rfl az (Z.cons (Z.v 1) Z.nil)))
   (Z.aq (Z.set (i:=5) bo.nd rfl (by right) (Z.make K rfl mm___init__ FO___init__ (hr.mono (by decide)) rfl hC_Machine bm___init__ az (Z.cons (Z.v 2) Z.nil)))
   (Z.aq (Z.set (i:=6) bo.nd rfl (by right) Z.int)
   (Z.aq (Z.set (i:=7) bo.nd rfl (by right) Z.int)
   (Z.aq (Z.set (i:=8) bo.nd rfl (by right) Z.int)
   (Z.aq (Z.set (i:=9) bo.nd rfl (by right) (Z.fn hrow_at (hr.mono (by decide)) rfl az (Z.cons (Z.v 4) (Z.cons (Z.v 0) (Z.cons (Z.v 8) Z.nil)))))
   (Z.aq (Z.oG KR (Z.tw (Z.yO (Z.bu jR (Z.v 9) Z.aX) (Z.qE (Z.bu hZ (Z.v 7) (Z.v 3))))) (Z.aq (Z.set (i:=6) bo.nd rfl (by right) (Z.op cW (Z.op (Z.bf K rfl) (Z.v 6) (Z.ix (Z.aP K rfl hu) (Z.v 9) Z.int)) (Z.v 8)))
   (Z.aq (Z.set (i:=7) bo.nd rfl (by right) (Z.op (Z.bf K rfl) (Z.v 7) Z.int))
   (Z.aq (Z.set (i:=8) bo.nd rfl (by right) (Z.BO K rfl (Z.v 5) cM mm_place_next FO_place_next (hr.mono (by decide)) bm_place_next az (Z.cons (Z.ix (Z.aP K rfl hu) (Z.v 9) Z.int) (Z.cons (Z.ix (Z.aP K rfl hu) (Z.v 9) Z.int) (Z.cons (Z.cb (Z.c_ K rfl) rfl T.cU (by decide +kernel) (Z.cons (Z.v 0) Z.nil)) Z.nil)))))
   (Z.aA (Z.set (i:=9) bo.nd rfl (by right) (Z.fn hrow_at (hr.mono (by decide)) rfl az (Z.cons (Z.v 4) (Z.cons (Z.v 0) (Z.cons (Z.v 8) Z.nil))))))))))
   (Z.aq (Z.eF (Z.bu b6 (Z.v 8) (Z.cb (Z.c_ K rfl) rfl T.cU (by decide +kernel) (Z.cons (Z.v 0) Z.nil))) (Z.aA (Z.set (i:=10) bo.nd rfl (by right) Z.str)) (Z.aA (Z.set (i:=10) bo.nd rfl (by right) (Z.BA (Z.bu eG (Z.v 9) Z.aX) Z.str Z.str))))
   (Z.aA (Z.ret (Z.tup (Z.cons (Z.v 10) (Z.cons (Z.pq K rfl (Z.v 5) cM mm_told_numbers FO_told_numbers (hr.mono (by decide)) bm_told_numbers az) (Z.cons (Z.v 6) (Z.cons (Z.pq K rfl (Z.v 5) cM mm_box_numbers FO_box_numbers (hr.mono (by decide)) bm_box_numbers az) Z.nil))))))))))))))),?_⟩
  refine ax λN hN=>?_;walk_at "rz";refine⟨bb,bk,rfl,hbk,hBk,λca H1 hca k1 rc=>?_⟩;rw[hN];clear hN N;generalize eW:fT bk=cd at *;have og1:=k1 _ _ og (by simp)
  refine ax λN hN=>?_;walk_at "rz";intro x dx hx0 hdx0 hxd;have gx:gv≠x:=λzz=>by rw[zz,hx0] at og1;cases og1
  have gd:gv≠dx:=λzz=>by rw[zz,hdx0] at og1;cases og1
  refine⟨x,dx,gv,g,rfl,aa,by rw[ae hxd];exact aa,by rw[ae gx,ae gd];exact og1,λH2 tl bx htl hbx M2 kb2=>⟨rfl,?_⟩⟩
  have k12:KB [] H1 H2:=λc o e _=>kb2 c o (by rw[ae (ao e hx0),ae (ao e hdx0)];exact e) (by simpa using ao e hx0)
  obtain⟨a,ea⟩:∃a:MA,a=⟨x,dx,gv,tl,bx⟩:=⟨_,rfl⟩;have em:x=a.m:=by rw[ea]
  rw[<- ea] at M2;rw[em];have new:∀b,b∈MF a->H1 b=none:=λb hb=>by
   have un:∀{c:Addr},upd (upd H1 dx (HO.own x)) x (HO.ins C_Machine dx []) c=none->H1 c=none:=λ{c} e=>by
    by_cases c1:c=x
    ·rw[c1];exact hx0
    ·rw[ae c1] at e;by_cases c2:c=dx
     ·rw[c2];exact hdx0
     ·rw[ae c2] at e;exact e
   rw[ea] at hb;simp only[MF,Kl,K7,Lp] at hb;rcases hb with rfl|rfl|rfl
   ·exact hx0
   ·exact un htl
   ·exact un hbx
  have Hv:∀{G:Hp} {st:ie},MS K C_Machine G a st->∀b,b∈MF a->∃o,G b=some o:=λM b hb=>by
   simp only[MF,Kl,K7,Lp] at hb;rcases hb with rfl|rfl|rfl
   ·exact⟨_,M.om⟩
   ·exact⟨_,M.ot⟩
   ·exact⟨_,M.ob⟩
  have ntp:∀{G:Hp} {st:ie},MS K C_Machine G a st->∀b∈MF a,∀xs,G b≠some (.tup xs):=λM b hb xs e=>by
   simp only[MF,Kl,K7,Lp] at hb;rcases hb with rfl|rfl|rfl
   ·rw[M.om] at e;cases e
   ·rw[M.ot] at e;cases e
   ·rw[M.ob] at e;cases e
  have nca:ca∉MF a:=λz=>by
   obtain⟨_,_,_,e,_⟩:=rc;rw[new ca z] at e;cases e
  have rc2:vd H2 ca cd:=rc.kb k12;have old2:KB [] H H2:=k1.trans k12;have keepH:∀{G G':Hp},KB [] H G->KB (MF a) G G'->KB [] H G':=λo k c u e _=>k _ _ (o _ _ e (by simp)) λzz=>by
   have:=k1 _ _ e (by simp)
   rw[new c zz] at this;cases this
  clear hx0 hdx0 hxd gx gd htl hbx kb2 rc k12 og1 hca em;rw[hN];clear hN N;refine ax λN hN=>?_;walk_at "rz";rw[hN];clear hN N;refine ax λN hN=>?_;walk_at "rz";rw[hN];clear hN N;refine ax λN hN=>?_;walk_at "rz";rw[hN];clear hN N;refine ax λN hN=>?_;walk_at "rz";refine⟨ca,cd,z,0,rfl,rc2,hR,hb,hz,λv H3 k3 r3=>?_⟩;rw[hN];clear hN N;obtain⟨R,eR⟩:∃R,R=d6 cd z most (Fs g):=⟨_,rfl⟩;rw[<- eR] at q;refine ax λN hN=>?_;refine⟨λm σ H'=>∃(n:Nat) (c:BS) (v:V),n<=most/\m=most-n/\R=d6 cd z (most-n) c/\c.st.told.length<=n/\MS K C_Machine H' a c.st/\KB [] H H'/\vd H' ca cd/\IF H' v (xq cd z c.at_)/\σ=[some (V.str (wd z)),some (.ref bb),some (V.ref gv),some (V.int (most:Nat)),some (V.ref ca),some (V.ref a.m),some (V.int c.rd),some (V.int (n:Nat)),some (V.int c.at_),some v,none],⟨most,0,Fs g,v,Kz _,rfl,eR,Kz _,M2.kb k3,old2.trans k3,rc2.kb k3,r3,rfl⟩,?_⟩;clear M2 rc2 r3 k3 old2 v;rintro m σ H4 ⟨n,c,v,hn,rfl,hrun,htl,M4,old4,rc4,r4,rfl⟩;have lz:(wd z).length<=sizeLine:=by rw[bA];exact Kn hz (by decide)
  have fin:R=c->N [some (V.str (wd z)),some (.ref bb),some (V.ref gv),some (V.int (most:Nat)),some (V.ref ca),some (V.ref a.m),some (V.int c.rd),some (V.int (n:Nat)),some (V.int c.at_),some v,none] H4:=λhc=>by
   rw[hN];clear hN N;subst hc;refine ax λN hN=>?_;have ret:N [some (V.str (wd z)),some (.ref bb),some (V.ref gv),some (V.int (most:Nat)),some (V.ref ca),some (V.ref a.m),some (V.int R.rd),some (V.int (n:Nat)),some (V.int R.at_),some v,some (V.str (qd cd z R))] H4:=by
    rw[hN];clear hN N;walk_at "rz";refine⟨a.m,a.dx,_,rfl,M4.om,vA (by decide +kernel) (by decide +kernel) (by decide +kernel) (by decide +kernel),a,R.st,rfl,M4,λp1 hp1=>?_⟩
    have k5:KB [] H4 (upd H4 p1 (.tup (iV R.st.told))):=KB.new hp1;have t5:upd H4 p1 (.tup (iV R.st.told)) p1=some (.tup (iV R.st.told)):=aa;generalize upd H4 p1 (.tup (iV R.st.told))=H5 at *;have M5:=M4.kb k5;refine⟨a.m,a.dx,_,rfl,M5.om,vA (by decide +kernel) (by decide +kernel) (by decide +kernel) (by decide +kernel),a,R.st,rfl,M5,λp2 H6 hp2 t6 k6=>?_⟩
    refine⟨by decide,λp3 hp3=>?_⟩
    have o6:KB [] H H6:=old4.trans (k5.trans k6);have up:∀{b:Addr} {o:HO},H6 b=some o->upd H6 p3 (.tup [V.str (qd cd z R),V.ref p1,V.int R.rd,V.ref p2]) b=some o:=λe=>by rw[ae (ao e hp3)];exact e
    exact q _ _ (o6.trans (KB.new hp3)) ⟨p3,p1,p2,rfl,aa,up (k6 _ _ t5 (by simp)),up t6⟩
   walk_at "rz";refine⟨lz,?_⟩;rw[bA];unfold qd zd at ret;by_cases c1:R.at_=(z.length:Nat)
   ·rw[Kj c1] at ret ⊢;exact ret
   ·rw[Ki c1] at ret ⊢
    cases hx:xq cd z R.at_ with
    |none =>
     rw[hx] at r4 ret;obtain rfl:v=.aX:=r4;rw[Kj rfl];exact ret
    |some y =>
     rw[hx] at r4 ret;obtain⟨fa,_,rfl,_⟩:=r4;rw[Ki (show ¬ V.ref fa=V.aX from λzz=>nomatch zz)];exact ret
  walk_at "rz"
  cases hx:xq cd z c.at_ with
  |none =>
   rw[hx] at r4;obtain rfl:v=.aX:=r4;rw[Ki (by simp)]
   exact fin (by rw[hrun];exact sj hx)
  |some y =>
   rw[hx] at r4;obtain⟨fa,ra,rfl,o4,ora⟩:=r4;rw[Kj (show ¬ V.ref fa=V.aX from λzz=>nomatch zz)];by_cases c2:((n:Nat):Int)<(most:Nat)
   ·rw[Kj c2];obtain⟨p,hp,hpx⟩:∃p:Nat,c.at_=p/\AX cd z p=some y:=by
     unfold xq at hx;by_cases c3:c.at_<0
     ·rw[Kj c3] at hx;cases hx
     ·rw[Ki c3] at hx;exact⟨c.at_.toNat,by lia,hx⟩
    obtain⟨mok,mt,_,_,_⟩:=Jr hR hpx;rw[mt] at ora;have s4:=aL o4;have nx:d6 cd z (most-n) c=d6 cd z (most-(n+1)) (kR z c (rF y,y.2)):=by
     rw[show most-n=(most-(n+1))+1 by lia]
     exact rW hx
    refine⟨λσ' H'=>∃m',m'<most-n/\∃n c v,n<=most/\m'=most-n/\R=d6 cd z (most-n) c/\c.st.told.length<=n/\MS K C_Machine H' a c.st/\KB [] H H'/\vd H' ca cd/\IF H' v (xq cd z c.at_)/\σ'=[some (V.str (wd z)),some (.ref bb),some (V.ref gv),some (V.int (most:Nat)),some (V.ref ca),some (V.ref a.m),some (V.int c.rd),some (V.int (n:Nat)),some (V.int c.at_),some v,none],λ_ _ h=>h,?_⟩;simp only[L2.Ap.gr,s4,CV,L2.Ap.DU,L2.Ap.vt];refine⟨a.m,a.dx,_,rfl,M4.om,vA (by decide +kernel) (by decide +kernel) (by decide +kernel) (by decide +kernel),?_⟩
    simp only[L2.Ap.gr,s4,BQ,CV];refine⟨lz,a,c.st,ra,rF y,(y.2:Nat),_,rfl,M4,ora,mok,by lia,λH5 M5 k5=>?_⟩
    have rc5:=rc4.keep k5 nca (ntp M4);have old5:=keepH old4 k5;refine⟨ca,cd,z,_,rfl,rc5,hR,hb,hz,λv6 H6 k6 r6=>?_⟩;have tle:=uy c.st (rF y);rw[bA] at r6;refine⟨most-(n+1),by lia,n+1,kR z c (rF y,y.2),v6,by lia,rfl,hrun.trans nx,?_,M5.kb k6,old5.trans k6,rc5.kb k6,r6,?_⟩
    ·show (carry c.st (rF y)).2.told.length<=n+1;lia
    ·rw[bA];rfl
   ·rw[Ki c2];refine fin ?_;rw[hrun,show most-n=0 by lia];rfl
theorem Bx{cd:List (List (List Nat))}(hR:vo cd):AX cd z z.length=none:=by
 obtain⟨c0,c1,c2,rfl,l0,l1,l2⟩:=hR.eW.ex
 cases c:jE c0 z z.length with
 |none=>show (jE c0 z z.length).bind _=none;rw[c];rfl
 |some x=>have:=fu (hR.pf c0 (by simp)).ne c;lia
theorem u_{cd:List (List (List Nat))}:zd cd z (p:Int)=(AX cd z p).map λx=>(rF x,x.2):=by unfold zd;rw[uQ]
theorem Cg{cd:List (List (List Nat))}(hR:vo cd):zd cd z (z.length:Nat)=none:=by rw[u_,Bx hR];rfl
theorem jU(st:ie)(r:Row)(g g':Int):carry st (r.m g)=carry st (r.m g'):=by
 cases r with
 |one u b=>rcases nr u with rfl|rfl<;>rfl
 |_=>rfl
def Hl(rs:List Row):Prop:=rs≠[]/\(∀(i:Nat) (r:Row),rs[i]?=some r->i+1=rs.length->r=.halt\/∃g,r=.jump g)/\∀r∈rs,aQ r≠some rs.length
noncomputable def o_(rs:List Row)(sp z:List Nat)(i:Nat):Int:=if i<rs.length then ((sp.getD i 0:Nat):Int) else ((z.length:Nat):Int)
noncomputable def EI(st:ie)(r:Row)(i n:Nat):Nat:=match r with
 |.halt=>n
 |r=>if (carry st (r.m 0)).1=true then (aQ r).getD 0 else i+1
theorem ig{st:ie}{r:Row}{g:Int}(h:(carry st (r.m g)).1=true):∃t,aQ r=some t:=by
 cases r with
 |put b n=>cases h
 |two u a b=>cases h
 |one u b=>rcases nr u with rfl|rfl<;>cases h
 |jump g=>exact⟨_,rfl⟩
 |zero b g=>exact⟨_,rfl⟩
 |halt=>cases h
theorem AF{st:ie}{rs:List Row}{r:Row}(hi:i<rs.length)(hr:r.Ok rs.length):EI st r i rs.length<=rs.length:=by
 by_cases hh:r=.halt
 ·subst hh;exact Kk _
 ·have e:EI st r i rs.length=if (carry st (r.m 0)).1=true then (aQ r).getD 0 else i+1:=by cases r<;>first|rfl|exact absurd rfl hh
  rw[e];split
  ·rename_i c;obtain⟨t,ht⟩:=ig c;rw[ht];exact jL hr ht
  ·exact hi
section
variable {cd:List (List (List Nat))} {rs:List Row} {ws sp z:List Nat}
theorem Laid.n_(L:Laid cd rs ws sp z)(y:List Nat)(h:y=[]\/Hl rs)(ht:t<=rs.length)(hn:y=[]\/t≠rs.length):o_ rs sp (z++y) t=((sp.getD t 0:Nat):Int):=by
 unfold o_;by_cases c:t<rs.length
 ·rw[Kj c]
 ·rw[Ki c];have e:t=rs.length:=by lia
  rcases hn with rfl|hn
  ·rw[Lb,L.last,e]
  ·exact absurd e hn
theorem Laid.read(L:Laid cd rs ws sp z)(y:List Nat)(hi:i<rs.length):zd cd (z++y) (o_ rs sp (z++y) i)=some (rs[i].m ((sp.getD ((aQ rs[i]).getD 0) 0:Nat):Int),sp.getD (i+1) 0):=by
 obtain⟨w,_,_,e1,e2,e3⟩:=L.row hi;obtain⟨a1,a2⟩:=L.at i (Mg hi);have hp:d_ cd rs[i] w (BJ sp i rs[i]) <+: (z++y).drop (sp.getD i 0):=by
  rw[NV a2,a1,e2,K2];exact Nr _ _
 obtain⟨x,hx,hx2,hm⟩:=E8 L.hR (L.ok _ (K1 hi)) e3 hp;unfold o_;rw[Kj hi,u_,hx];show some (rF x,x.2)=_;rw[hm,hx2,<- e1];congr 2
 cases c:aQ rs[i] with
 |none=>generalize rs[i]=r at *;cases r<;>first|rfl|cases c
 |some t =>
  unfold BJ;rw[c];show rs[i].m (((sp.getD (i+1) 0:Nat):Int)+gh sp t i)=rs[i].m ((sp.getD t 0:Nat):Int);unfold gh;congr 1;lia
theorem Laid.step(L:Laid cd rs ws sp z)(y:List Nat)(hy:y=[]\/Hl rs){c:BS}(hi:i<rs.length)(ha:c.at_=o_ rs sp (z++y) i):∃x,zd cd (z++y) c.at_=some x/\(kR (z++y) c x).st=(carry c.st (rs[i].m 0)).2/\(kR (z++y) c x).at_=o_ rs sp (z++y) (EI c.st rs[i] i rs.length)/\(kR (z++y) c x).rd=c.rd+((sp.getD (i+1) 0:Nat):Int)-((sp.getD i 0:Nat):Int):=by
 refine⟨_,by rw[ha];exact L.read y hi,?_,?_,?_⟩
 ·show (carry c.st (rs[i].m _)).2=_;rw[jU _ _ _ 0]
 ·show place c.st (rs[i].m _) _ _=_;have ba:=L.ok _ (K1 hi);have er:=Ka hi;have hg:=λh:Hl rs=>h.2.2 _ (K1 hi);have hl:=λh:Hl rs=>h.2.1 i _ er;generalize rs[i]=r at *;by_cases hh:r=.halt
  ·subst hh;show ((z++y).length:Int)=o_ rs sp (z++y) rs.length;unfold o_;rw[Ki (LQ _)]
  ·have e1:EI c.st r i rs.length=if (carry c.st (r.m 0)).1=true then (aQ r).getD 0 else i+1:=by cases r<;>first|rfl|exact absurd rfl hh
   generalize hgg:((sp.getD ((aQ r).getD 0) 0:Nat):Int)=g;have e2:∀bh en:Int,place c.st (r.m g) bh en=if (carry c.st (r.m g)).1=true then ((jy (r.m g)).getD 0) else bh:=λbh en=>by cases r<;>first|rfl|exact absurd rfl hh
   rw[e2,e1,jU _ _ g 0];by_cases hc:(carry c.st (r.m 0)).1=true
   ·rw[Kj hc,Kj hc];obtain⟨t,ht⟩:=ig hc;have eg:jy (r.m g)=some g:=by cases r<;>first|rfl|cases ht
    rw[eg,ht];rw[ht] at hgg;show g=o_ rs sp (z++y) t;rw[L.n_ y hy (jL ba ht) (hy.imp id λh e=>hg h (by rw[ht,e]))]
    exact hgg.symm
   ·rw[Ki hc,Ki hc];refine (L.n_ y hy hi (hy.imp id λh e=>?_)).symm;rcases hl h e with rfl|⟨g',rfl⟩
    ·exact hh rfl
    ·exact hc rfl
 ·show c.rd+_-c.at_=_;rw[ha];unfold o_;rw[Kj hi]
end
theorem EX{cd:List (List (List Nat))}{rs:List Row}(L:Laid cd rs ws sp z)(y:List Nat)(h:i<rs.length):o_ rs sp (z++y) i≠(((z++y).length:Nat):Int):=by
 unfold o_;rw[Kj h];have:=L.mono i (rs.length-i-1) (by lia)
 rw[show i+(rs.length-i-1)+1=rs.length by lia,<- L.last] at this
 rw[Ke];lia
theorem Cs{cd:List (List (List Nat))}{rs:List Row}(L:Laid cd rs ws sp z)(y:List Nat){c:BS}(hi:i<=rs.length)(ha:c.at_=o_ rs sp (z++y) i):qd cd (z++y) c=if i=rs.length then "halt" else "more":=by
 unfold qd;by_cases h:i<rs.length
 ·rw[Ki (by rw[ha];exact EX L y h),ha,L.read y h,Ki (by lia)]
 ·rw[Kj (by rw[ha];unfold o_;rw[Ki h]),Kj (by lia)]
structure Je (g w:List Int) (k:Nat) (a b:ie):Prop where
 ga:a.given=g
 gb:b.given=w
 told:a.told=b.told
 bs:a.bs=b.bs
 le:b.heard<=k
 hd:a.heard=min b.heard g.length
theorem Je.step{g w:List Int}{a b:ie}(h:Je g w k a b)(hw:∀i,i<=k->w[i]?=some (g[i]?.getD 0))(r:dJ):Je g w (k+1) (carry a r).2 (carry b r).2/\(carry a r).1=(carry b r).1:=by
 obtain⟨h1,h2,h3,h4,h5,h6⟩:=h;obtain⟨ag,ah,at',ab⟩:=a;obtain⟨bg,bh,bt,bb⟩:=b;dsimp only at *;subst h1;subst h2;subst h3;subst h4
 cases r with
 |put x n=>exact⟨⟨rfl,rfl,rfl,rfl,LL h5,h6⟩,rfl⟩
 |two u x y=>exact⟨⟨rfl,rfl,rfl,rfl,LL h5,h6⟩,rfl⟩
 |jump g=>exact⟨⟨rfl,rfl,rfl,rfl,LL h5,h6⟩,rfl⟩
 |zero x g=>exact⟨⟨rfl,rfl,rfl,rfl,LL h5,h6⟩,rfl⟩
 |halt=>exact⟨⟨rfl,rfl,rfl,rfl,LL h5,h6⟩,rfl⟩
 |one u x =>
  rcases nr u with rfl|rfl
  ·exact⟨⟨rfl,rfl,rfl,rfl,LL h5,h6⟩,rfl⟩
  ·have hb:=hw bh h5;have eb:d7 ⟨bg,bh,at',ab⟩=(ag[bh]?.getD 0,⟨bg,bh+1,at',ab⟩):=by
    unfold d7;dsimp only;rw[hb]
   refine⟨?_,rfl⟩;have ec:∀s:ie,(carry s (.one 1 x)).2={(d7 s).2 with bs:=(d7 s).2.bs.set x ((d7 s).1 % 65536)}:=λ_=>rfl
   rw[ec,ec,eb];by_cases c:bh<ag.length
   ·have ea:d7 ⟨ag,ah,at',ab⟩=(ag[bh]?.getD 0,⟨ag,ah+1,at',ab⟩):=by
     unfold d7;dsimp only;rw[h6,Nat.min_eq_left (Nat.le_of_lt c),List.getElem?_eq_getElem c];rfl
    rw[ea];exact⟨rfl,rfl,rfl,rfl,N6 h5,by show ah+1=min (bh+1) _;lia⟩
   ·have ea:d7 ⟨ag,ah,at',ab⟩=(ag[bh]?.getD 0,⟨ag,ah,at',ab⟩):=by
     unfold d7;dsimp only;rw[h6,Nat.min_eq_right (by lia),List.getElem?_eq_none (Nat.le_refl _),List.getElem?_eq_none (by lia)];rfl
    rw[ea];exact⟨rfl,rfl,rfl,rfl,N6 h5,by show ah=min (bh+1) _;lia⟩
theorem yc{B:lR}(l:List Int):dC K H B (iV l) (l.map T.int):=by
 induction l with
 |nil=>exact .nil
 |cons x l ih=>exact .cons (.int x) ih
theorem BH(x:Int):Y.DQ (.int x) (.int x)=true:=by unfold Y.DQ;exact KG rfl
theorem ng(n:Nat)(x:Int):oN n (.int x) (.int x) true:=by
 have:=oN.flat (n:=n) (t:=.int x) (u:=.int x) rfl rfl
 rwa [BH] at this
theorem Ce(n:Nat)(x:Str):oN n (.str x) (.str x) true:=by
 have:=oN.flat (n:=n) (t:=.str x) (u:=.str x) rfl rfl
 rwa [show Y.DQ (.str x) (.str x)=true from by unfold Y.DQ;exact KG rfl] at this
theorem all_true(n:Nat):nI n n (λ_=>true)=true:=ji rfl λ_ _=>rfl
theorem iH(n:Nat)(l:List Int):oN (n+1) (.tup (l.map T.int)) (.tup (l.map T.int)) true:=by
 have:=oN.tup (n:=n) (xs:=l.map T.int) (ys:=l.map T.int) (λ_=>true) λj x y h1 h2=>by
  rw[h1] at h2;cases h2;rw[Kp] at h1;obtain⟨k,_,rfl⟩:=KD.mp h1;exact ng n k
 rwa [all_true] at this
structure Tl where
 how:Str
 told:List Int
 rd:Int
 bs:List Int
noncomputable def wu(cd:List (List (List Nat)))(z:List Nat)(c:BS):Tl:=⟨qd cd z c,c.st.told,c.rd,c.st.bs⟩
noncomputable def AU(H:Hp)(v:V)(x:Tl):Prop:=∃t p1 p2,v=.ref t/\H t=some (.tup [.str x.how,.ref p1,.int x.rd,.ref p2])/\H p1=some (.tup (iV x.told))/\H p2=some (.tup (iV x.bs))
theorem EM.tl{v:V}{cd:List (List (List Nat))}{c:BS}(h:EM H v cd z c):AU H v (wu cd z c):=h
theorem AU.keep{v:V}{x:Tl}(h:AU H v x)(k:KB ex H H')(hx:NT ex H):AU H' v x:=by
 obtain⟨t,p1,p2,e,a1,a2,a3⟩:=h;exact⟨t,p1,p2,e,k _ _ a1 λz=>hx _ z _ a1,k _ _ a2 λz=>hx _ z _ a2,k _ _ a3 λz=>hx _ z _ a3⟩
theorem AU.kb{v:V}{x:Tl}(h:AU H v x)(k:KB [] H H'):AU H' v x:=h.keep k (NT.nil _)
def no:lR:=λ_=>False
theorem uX{neg:Bool}{b:Addr}{vs ws:List V}{xs:List T}(ha:H a=some (.tup vs))(hb:H b=some (.tup ws))(r1:dC K H no vs xs)(r2:dC K H no ws xs)(he:∀x∈xs,oN 4 x x true)(q:Q (.bl (!neg)) H):Y.wz K 4 neg (.ref a) (.ref b) H Q:=by
 refine⟨no,a,b,vs,ws,xs,xs,λ_=>true,rfl,rfl,.inl ⟨aY.of ha,aY.of hb⟩,r1,r2,λj x y h1 h2=>?_,?_⟩
 ·rw[h1] at h2;cases h2;exact he x (Le h1)
 ·rw[all_true]
  cases neg<;>exact q
theorem fb{p:Addr}{l:List Int}(h:H p=some (.tup (iV l))):Rep K H no (.ref p) (.tup (l.map T.int)):=.tup (λz=>z) h (yc l)
theorem IE{neg:Bool}{v u:V}{x:Tl}(h1:AU H v x)(h2:AU H u x)(q:Q (.bl (!neg)) H):Y.wz K 4 neg v u H Q:=by
 obtain⟨t,p1,p2,rfl,a1,a2,a3⟩:=h1;obtain⟨t',p1',p2',rfl,b1,b2,b3⟩:=h2;refine uX a1 b1 (xs:=[.str x.how,.tup (x.told.map T.int),.int x.rd,.tup (x.bs.map T.int)]) (.cons (.str _) (.cons (fb a2) (.cons (.int _) (.cons (fb a3) .nil)))) (.cons (.str _) (.cons (fb b2) (.cons (.int _) (.cons (fb b3) .nil)))) (λy hy=>?_) q;simp only[Kl,K7,Lp] at hy;rcases hy with rfl|rfl|rfl|rfl
 ·exact Ce _ _
 ·exact iH _ _
 ·exact ng _ _
 ·exact iH _ _
theorem Cj(h:H a=some (.tup xs))(q1:eC xs lo hi=xs->Q (.ref a) H)(q2:∀p,H p=none->Q (.ref p) (upd H p (.tup (eC xs lo hi)))):Y.Cu K (.ref a) lo hi H Q:=by
 by_cases z:HT.b_ xs.length 0 lo=0/\HT.b_ xs.length xs.length hi=xs.length
 ·exact .inr (.inr ⟨a,xs,rfl,aY.of h,z.1,z.2,q1 (by unfold eC;rw[z.1,z.2,Nn,Lw,Li])⟩)
 ·exact .inr (.inl ⟨a,xs,rfl,aY.of h,z,q2⟩)
theorem yD(xs:List V)(n:Nat):eC xs none (some (n:Int))=xs.take n:=by
 unfold eC;rw[HT.fD,HT.fM,Lw,Nn];rcases Nat.le_total n xs.length with c|c
 ·rw[NR c]
 ·rw[Nat.min_eq_right c,Li,La c]
theorem C6(h:H a=some (.lst xs))(q:∀p,H p=none->Q (.ref p) (upd H p (.lst (eC xs lo hi)))):Y.Cu K (.ref a) lo hi H Q:=.inl ⟨a,xs,rfl,bB.of h,q⟩
noncomputable def qF:Sp:=λvs H Q _=>∃(c:Addr) (ks:List Nat) (b:Nat),vs=[.ref c,.int (b:Nat)]/\H c=some (.tup (iV (nZ ks)))/\2<=ks.length/\ks.length<=20/\1<=b/\b<=40/\∀(S:List (List Nat)) (d:Addr) H',Pn.fG ks.length b S->KB [] H H'->H' d=some (.lst (iV (nZ (S.take (2*ks.length-2)).flatten)))->Q (.ref d) H'
theorem wq(T:Txt K mg)(F:HasFn K mg "chosen_things" cA ["counts","bound"])(hby_worth:au P w K mg base aZ 4 "by_worth" ["shelf"] vn)(hpacks_of:au P w K mg base aZ 1 "packs_of" ["shelf"] uf):au P w K mg base aZ 5 "chosen_things" ["counts","bound"] qF:=by
 refine F.fL b9 (λvs H Q E h=>?_) (λf cdv A outer s H vs Q E hr h=>?_)
 ·obtain⟨c,ks,b,rfl,_⟩:=h;rfl
 ·have hu:=aS hr;obtain⟨c,ks,b,rfl,hc,hn2,hn,hb1,hb,q⟩:=h;refine⟨_,(Z.aq (Z.setC (j:=2) b9.nd rfl (by right) (osc:=af cA) (ON:=["counts","bound","coins","shelf","depth","chosen","item"]) (own:=["thing","count"]) (N:=["thing","count","counts","bound","coins","shelf","depth","chosen","item"]) ⟨rfl,by decide +kernel,rfl,by decide +kernel,by decide +kernel,by decide +kernel,by decide +kernel,by decide +kernel⟩ rfl rfl rfl (Z.enum K rfl rfl T.eY (Z.cons (Z.v 0) Z.nil)) (λ_ _ _ _=>(Z.jc (n:=2) K rfl rfl (Z.bz (Z.aO (i:=0) (show List.Nodup (["thing","count","counts","bound","coins","shelf","depth","chosen","item"]:List Str) by decide +kernel) rfl (by right)) (Z.bz (Z.aO (i:=1) (show List.Nodup (["thing","count","counts","bound","coins","shelf","depth","chosen","item"]:List Str) by decide +kernel) rfl (by right)) Z.fA)))) (λ_ _ _ _=>Z.lV) (λ_ _ _ _=>(Z.tup (Z.cons (Z.v 1) (Z.cons (Z.lst (Z.cons (Z.v 0) Z.nil)) Z.nil)))))
   (Z.aq (Z.set (i:=3) b9.nd rfl (by right) (Z.fn hby_worth (hr.mono (by decide)) rfl az (Z.cons (Z.v 2) Z.nil)))
   (Z.aq (Z.hV KR rfl (Z.IT rfl T.e_ (Z.cons Z.int (Z.cons (Z.v 1) Z.nil))) (Z.aO (i:=4) b9.nd rfl (by right)) (Z.aA (Z.set (i:=3) b9.nd rfl (by right) (Z.fn hby_worth (hr.mono (by decide)) rfl az (Z.cons (Z.op (Y.nW K rfl) (Z.v 2) (Z.fn hpacks_of (hr.mono (by decide)) rfl az (Z.cons (Z.v 3) Z.nil))) Z.nil)))))
   (Z.aq (Z.set (i:=5) b9.nd rfl (by right) (Z.lst Z.nil))
   (Z.aq (Z.hV KR rfl (Z.any K rfl (Z.slice (Y.FR K rfl) (Z.v 3) Z.Cb (Z.xc (Z.op cW (Z.op cK Z.int (Z.cb (Z.c_ K rfl) rfl T.cU (by decide +kernel) (Z.cons (Z.v 0) Z.nil))) Z.int)))) (Z.aO (i:=6) b9.nd rfl (by right)) (Z.aA (Z.expr (Z.bm K rfl PySem.F.plainAttrs_list PySem.F.slot_list_extend PySem.F.type_list_extend Y.Er (Z.v 5) (Z.cons (Z.ix (Z.aP K rfl hu) (Z.v 6) Z.int) Z.nil)))))
   (Z.aA (Z.ret (Z.v 5)))))))),?_⟩
  refine ax λN hN=>?_;exists aL hc;refine⟨⟨_,aY.of hc⟩,?_⟩;refine qK (xs:=iV (nZ ks)) (Kn (show _<=20 by rw[aR,bj];exact hn) (by decide)) (λD i ws G=>H D=none/\G D=some (.lst ws)/\KB [] H G/\∃Vs:List (V×List Nat),ws=Vs.map Prod.fst/\(∀z∈Vs,xv D G z)/\Vs.length=i/\Vs.map Prod.snd=Pn.coins i) (λD hD=>⟨hD,aa,KB.new hD,[],rfl,(λz hz=>absurd hz K7),rfl,rfl⟩) (λD i ws G h=>⟨h.2.1,by obtain⟨_,_,_,Vs,rfl,_,e,_⟩:=h;rw[Kc,e]⟩) (λD i ws G h=>aY.of (h.2.2.1 _ _ hc (by simp))) ?_ ?_
  ·rintro D i ws G x p R hx ⟨g0,g1,gk,Vs,rfl,gi,gl,gs⟩ hp kk;obtain⟨hi,rfl⟩:=iu hx;generalize (nZ ks)[i]=ct at *;have kz:=KB.new (ex:=[]) (o:=.tup [.int (i:Nat),.int ct]) hp;generalize upd G p (.tup [.int (i:Nat),.int ct])=G1 at *;walk_at "rz";refine⟨by decide,λl hl'=>?_⟩
   have kl:=KB.new (ex:=[]) (o:=.lst [.int (i:Nat)]) hl';have sl':upd G1 l (.lst [.int (i:Nat)]) l=_:=aa;have gD:=kz _ _ g1 (by simp)
   have lD:l≠D:=λz=>by rw[z,gD] at hl';cases hl'
   generalize upd G1 l (.lst [.int (i:Nat)])=G2 at *;refine⟨by decide,λt ht'=>?_⟩
   have kt:=KB.new (ex:=[]) (o:=.tup [.int ct,.ref l]) ht';have st':upd G2 t (.tup [.int ct,.ref l]) t=_:=aa;generalize upd G2 t (.tup [.int ct,.ref l])=G3 at *;have kk3:=kz.trans (kl.trans kt);have gD3:=kk3 _ _ g1 (by simp)
   refine kk _ _ gD3 ⟨g0,aa,λu o e _=>by rw[ae (ao e g0)];exact kk3 _ _ (gk _ _ e (by simp)) (by simp),Vs++[(.ref t,[i])],by rw[Kv];rfl,λz hz'=>?_,by rw[Ke,gl];rfl,by rw[Kv,gs,Pn.kX];rfl⟩
   rcases KJ.mp hz' with h|h
   ·exact ((gi z h).kb kk3).set gD3
   ·rw[Ku.mp h];exact xv.set ⟨t,l,ct,rfl,st',kt _ _ sl' (by simp),lD⟩ gD3
  rintro D ws H1 ⟨g0,g1,gk,Vs,rfl,gi,gl,gs⟩;rw[aR,bj] at gl gs;have gi':∀z∈Vs,vY H1 z:=λz hz=>(gi z hz).it;clear gi;show N _ _;rw[hN];clear hN N;refine ax λN hN=>?_;walk_at "rz";refine⟨D,Vs,rfl,g1,gi',by lia,λZ0 s0 H2 hpm k2 hs0=>?_⟩
  rw[hN];clear hN N;have sh0:Pn.fG ks.length 1 (Z0.map Prod.snd):=⟨[],rfl,by rw[show Pn.pk []=[] from by simp[Pn.pk],Lb,<- gs];exact hpm.map _⟩
  have it0:∀z∈Z0,vY H2 z:=λz hz=>(gi' z (hpm.mem_iff.mp hz)).kb k2;refine ax λN hN=>?_;walk_at "rz";have eb:((b:Int)-1).toNat=b-1:=by lia
  refine⟨1,b,⟨rfl,rfl⟩,⟨by decide,by decide,by lia,by lia⟩,?_⟩
  rw[eb];refine eI (λi σ G=>∃(o:Option V) (Us:List (V×List Nat)) (sa:Addr),i<=b-1/\KB [] H1 G/\G sa=some (.lst (Us.map Prod.fst))/\(∀z∈Us,vY G z)/\Pn.fG ks.length (i+1) (Us.map Prod.snd)/\σ=[some (.ref c),some (.int (b:Nat)),some (.ref D),some (.ref sa),o,none,none]) ⟨none,Z0,s0,Kz _,k2,hs0,it0,sh0,rfl⟩ ?_ ?_
  ·rintro i σ G hi ⟨o,Us,sa,hib,kG,hsa,hit,hsh,rfl⟩;have hln:=hsh.len (by lia)
   rw[Kc] at hln;have hth:=hsh.th;have hth2:ks.length*(i+1)<=20*40:=Od hn (by lia)
   unfold bp;dsimp only;refine qU λM hM=>?_;walk_at "rz";refine⟨sa,Us,rfl,hsa,hit,by lia,by lia,λYp b' G1 k1 hb' hit' hsn=>?_⟩
   have hpl:=Pn.mZ (Us.map Prod.snd);rw[<- hsn,Kc,Kc] at hpl;refine Iw (k1 _ _ (kG _ _ g1 (by simp)) (by simp)) hb' (by rw[Kc,Kc];exact Kn (show _<=100 by lia) (by decide)) λl hl'=>?_
   rw[<- Kv];have kl:=KB.new (ex:=[]) (o:=.lst ((Vs++Yp).map Prod.fst)) hl';have sl':upd G1 l (.lst ((Vs++Yp).map Prod.fst)) l=_:=aa;generalize upd G1 l (.lst ((Vs++Yp).map Prod.fst))=G2 at *;have k12:=kG.trans (k1.trans kl);refine⟨l,Vs++Yp,rfl,sl',λz hz=>?_,by rw[Ke];lia,λUs' s' G3 hpm' k3 hs'=>?_⟩
   ·rcases KJ.mp hz with h|h
    ·exact (gi' z h).kb k12
    ·exact (hit' z h).kb kl
   rw[hM];refine⟨_,Us',s',hi,k12.trans k3,hs',λz hz=>?_,⟨_,hsh,?_⟩,rfl⟩
   ·rcases KJ.mp (hpm'.mem_iff.mp hz) with h|h
    ·exact ((gi' z h).kb k12).kb k3
    ·exact ((hit' z h).kb kl).kb k3
   ·rw[<- gs,<- hsn,<- Kv];exact hpm'.map _
  ·rintro σ G ⟨o,Us,sa,_,kG,hsa,hit,hsh,rfl⟩;rw[show b-1+1=b by lia] at hsh
   show N _ _;rw[hN];clear hN N;refine ax λN hN=>?_;walk_at "rz";refine⟨Kz _,λch hch=>?_⟩;have kc:=KB.new (ex:=[]) (o:=.lst []) hch;have sc':upd G ch (.lst []) ch=some (.lst []):=aa;generalize upd G ch (.lst [])=G1 at *;rw[hN];clear hN N;have hc1:=kc _ _ (kG _ _ (gk _ _ hc (by simp)) (by simp)) (by simp)
   refine ax λN hN=>?_;have el:(2*(((iV (nZ ks)).length:Nat):Int)-2)=((2*ks.length-2:Nat):Int):=by rw[aR,bj];lia
   exists aL hc1,el;refine⟨.inl ⟨by decide,by decide⟩,?_⟩
   refine C6 (kc _ _ hsa (by simp)) λp hp=>?_
   rw[yD,<- N5];have kp:=KB.new (ex:=[]) (o:=.lst ((Us.take (2*ks.length-2)).map Prod.fst)) hp;have sp':upd G1 p (.lst ((Us.take (2*ks.length-2)).map Prod.fst)) p=_:=aa;have hpc:p≠ch:=λz=>by rw[z,sc'] at hp;cases hp
   have sc2:=kp _ _ sc' (by simp)
   generalize upd G1 p (.lst ((Us.take (2*ks.length-2)).map Prod.fst))=G2 at *;have hth:=hsh.th;have hth2:ks.length*b<=20*40:=Od hn hb;have eS:(Us.take (2*ks.length-2)).map Prod.snd=(Us.map Prod.snd).take (2*ks.length-2):=N5;have hsub:∀z∈Us.take (2*ks.length-2),vY G z:=λz hz=>hit z (NO hz);have hfl:((Us.take (2*ks.length-2)).map Prod.snd).flatten.length<=800:=by
    have e2:(Us.map Prod.snd).flatten=((Us.map Prod.snd).take (2*ks.length-2)).flatten++((Us.map Prod.snd).drop (2*ks.length-2)).flatten:=by rw[<- LF,Lk]
    rw[e2,Ke] at hth;rw[eS];lia
   have q':=q (Us.map Prod.snd) ch;rw[<- eS] at q';generalize Us.take (2*ks.length-2)=W at *;have kHG:KB [] H G:=gk.trans kG;have hchH:H ch=none:=kHG.free (by simp) hch
   exists aI sp';refine gT (xs:=W.map Prod.fst) (λj σ G'=>∃o2:Option V,j<=W.length/\KB [] G G'/\G' p=some (.lst (W.map Prod.fst))/\G' ch=some (.lst (iV (nZ ((W.take j).map Prod.snd).flatten)))/\σ=[some (.ref c),some (.int (b:Nat)),some (.ref D),some (.ref sa),o,some (.ref ch),o2]) ⟨none,Kz _,kc.trans kp,sp',sc2,rfl⟩ (λj σ G' _ h=>by obtain⟨_,_,_,h,_⟩:=h;exact bB.of h) ?_ ?_
   ·rintro j x σ G' hx ⟨o2,hj,k',hp',hc',rfl⟩;obtain⟨z,ez,rfl⟩:=oz hx;have hjl:=(Kf.mp ez).1;obtain⟨a1,b1,w1,v1,t1,c1⟩:=hsub z (Le ez);have bc:b1≠ch:=λe=>by rw[e,hch] at c1;cases c1
    have t1':=k' _ _ t1 (by simp)
    have c1':=k' _ _ c1 (by simp)
    have e3:(W.take (j+1)).map Prod.snd=(W.take j).map Prod.snd++[z.2]:=by rw[L9,ez,Kv];rfl
    have hlen:(((W.take j).map Prod.snd).flatten).length+z.2.length<=800:=by
     have e4:(W.map Prod.snd).flatten=((W.take (j+1)).map Prod.snd).flatten++((W.drop (j+1)).map Prod.snd).flatten:=by rw[<- LF,<- Kv,Lk]
     rw[e4,e3,LF,Ke,Ke] at hfl;simp at hfl;simp;lia
    unfold bp;rw[v1];dsimp only;refine qU λM hM=>?_;have at1:∀(u:Int) (v:V),cL [V.int u,v] 1=some v:=λu v=>rfl;exists aL t1',at1;refine⟨.inl ⟨rfl,_,bB.of hc'⟩,?_⟩;exists aL t1',at1;refine⟨ch,b1,_,_,rfl,rfl,bc,hc',c1',by rw[aR,aR,bj,bj];exact Nat.le_trans (show _<=800 from hlen) (by decide),?_⟩
    rw[hM];refine⟨_,hjl,λu o e _=>by rw[ae (ao e hch)];exact k' _ _ e (by simp),by rw[ae hpc];exact hp',?_,rfl⟩
    rw[aa,e3,LF];unfold iV nZ;simp
   ·rintro σ G' ⟨o2,_,k',hp',hc',rfl⟩;show N _ _;rw[hN];clear hN N;walk_at "rz";rw[Kc,Li] at hc';exact q' G' hsh (kHG.trans k') hc'
theorem E9(L l n:Nat):Kr.ks L (List.replicate n l)=n*2^(L-l):=by
 induction n with
 |zero=>simp[Kr.ks]
 |succ n ih=>rw[KW,Kr.ks,ih,Mr];lia
theorem Ff(l:List Nat)(i:Nat):(nZ l).count (i:Int)=l.count i:=by
 induction l with
 |nil=>rfl
 |cons x l ih =>
  unfold nZ at *;rw[K9,NP,NP,ih];congr 1;by_cases h:x=i
  ·subst h;simp
  ·have:¬ (x:Int)=(i:Int):=by lia
   simp[h,this]
theorem zr(T:Txt K mg)(F:HasFn K mg "least_lengths" bS ["counts","bound"])(hcan_be:au P w K mg base aZ 1 "can_be" ["lengths"] (y_ K))(hchosen_things:au P w K mg base aZ 5 "chosen_things" ["counts","bound"] qF):au P w K mg base aZ 6 "least_lengths" ["counts","bound"] qe:=by
 refine F.fL dB (λvs H Q E h=>?_) (λf cdv A outer s H vs Q E hr h=>?_)
 ·obtain⟨c,ks,rfl,_⟩:=h;rfl
 ·have hu:=aS hr;obtain⟨c,ks,rfl,hc,hn8,hn,q⟩:=h;refine⟨_,(Z.aq (Z.set (i:=2) dB.nd rfl (by right) (Z.cb (Z.c_ K rfl) rfl T.cU (by decide +kernel) (Z.cons (Z.v 0) Z.nil)))
   (Z.aq (Z.eF (Z.tw (Z.JC (Z.bu hZ (Z.v 1) Z.int) (Z.HZ (Z.Cp (Z.wI K rfl (Z.fn hcan_be (hr.mono (by decide)) rfl az (Z.cons (Z.comp (osc:=af bS) (ON:=["counts","bound","things","chosen"]) (own:=["count"]) (N:=["count","counts","bound","things","chosen"]) ⟨rfl,by decide +kernel,rfl,by decide +kernel,by decide +kernel,by decide +kernel,by decide +kernel,by decide +kernel⟩ rfl rfl rfl (Z.any K rfl (Z.v 0)) (λ_ _ _ _=>(Z.aO (i:=0) (show List.Nodup (["count","counts","bound","things","chosen"]:List Str) by decide +kernel) rfl (by right))) (λ_ _ _ _=>Z.lV) (λ_ _ _ _=>(Z.v 2))) Z.nil))))))) (Z.aA Z.Jv) Z.bU)
   (Z.aq (Z.eF (Z.bu b6 (Z.v 2) Z.int) (Z.aA (Z.ret (Z.tup (Z.cons Z.int Z.nil)))) Z.bU)
   (Z.aq (Z.set (i:=3) dB.nd rfl (by right) (Z.fn hchosen_things (hr.mono (by decide)) rfl az (Z.cons (Z.v 0) (Z.cons (Z.cb (mU rfl) rfl T.DO (by decide +kernel) (Z.cons (Z.v 1) (Z.cons (Z.op cW (Z.v 2) Z.int) Z.nil))) Z.nil))))
   (Z.aA (Z.ret (Z.ct (Z.cc K rfl) rfl T.cg (by decide +kernel) (Z.cons (Z.comp (osc:=af bS) (ON:=["counts","bound","things","chosen"]) (own:=["thing"]) (N:=["thing","counts","bound","things","chosen"]) ⟨rfl,by decide +kernel,rfl,by decide +kernel,by decide +kernel,by decide +kernel,by decide +kernel,by decide +kernel⟩ rfl rfl rfl (Z.xl rfl T.e_ (Z.cons (Z.v 2) Z.nil)) (λ_ _ _ _=>(Z.aO (i:=0) (show List.Nodup (["thing","counts","bound","things","chosen"]:List Str) by decide +kernel) rfl (by right))) (λ_ _ _ _=>Z.lV) (λ_ _ _ _=>(Z.bm K rfl PySem.F.plainAttrs_list PySem.F.slot_list_count PySem.F.type_list_count Y.ED (Z.v 4) (Z.cons (Z.v 0) Z.nil)))) Z.nil)))))))),?_⟩
  refine ax λN hN=>?_;exists aL hc;rw[aR,bj,hN];clear hN N;refine ax λN hN=>?_;refine Et λA B hA hB=>?_;exists aL hc,Ki (show ¬ (12:Int)<1 by decide)
  refine cq (xs:=iV (nZ ks)) (Kn (show _<=20 by rw[aR,bj];lia) (by decide)) (λD i ys G=>H D=none/\G D=some (.lst ys)/\KB [] H G/\ys=iV (List.replicate i 12)) (λD hD=>⟨hD,aa,KB.new hD,rfl⟩) (λD i ys G h=>⟨h.2.1,by rw[h.2.2.2,aR,Kw]⟩) (λD i ys G h=>aY.of (h.2.2.1 _ _ hc (by simp))) ?_ ?_
  ·rintro D i ys G x R hx ⟨g0,g1,gk,rfl⟩ kk;walk_at "rz";refine kk _ _ g1 ⟨g0,aa,λu o e _=>by rw[ae (ao e g0)];exact gk _ _ e (by simp),?_⟩
   rw[NU,fO];rfl
  rintro D ys H1 ⟨g0,g1,gk,rfl⟩;rw[aR,bj] at g1;refine⟨D,_,rfl,.inr g1,⟨by rw[Kw];lia,by rw[Kw];lia,λx hx=>by rw[List.eq_of_mem_replicate hx];decide⟩,λH2 k2=>?_⟩
  have ho:lN (List.replicate ks.length 12)=true:=by
   unfold lN KS;rw[MI,E9];exact KG (Kn (NQ _ hn) (by decide))
  exists ho,P9;rw[Ki (λz=>Bool.noConfusion z),hB];clear hA hB A B;have hc2:=k2 _ _ (gk _ _ hc (by simp)) (by simp)
  walk_at "rz";rw[hN];clear hN N;refine ax λN hN=>?_;refine Et λA B hA hB=>?_;exists Ki (show ¬ ((ks.length:Nat):Int)=1 by lia)
  rw[hB];clear hA hB A B;walk_at "rz";rw[hN];clear hN N;refine ax λN hN=>?_;have eb:(if ((ks.length:Nat):Int)-1<12 then ((ks.length:Nat):Int)-1 else 12)=((min 12 (ks.length-1):Nat):Int):=by split<;>lia
  exists eb;refine⟨c,ks,min 12 (ks.length-1),rfl,hc2,by lia,by lia,by lia,by lia,λS d H3 hS k3 hd=>?_⟩
  rw[hN];clear hN N;have k03:KB [] H H3:=gk.trans (k2.trans k3);walk_at "rz";refine⟨by lia,by lia,?_⟩
  rw[KN];refine ju (Kn (show _<=20 by lia) (by decide)) (λD i ys G=>H3 D=none/\G D=some (.lst ys)/\KB [] H3 G/\ys=iV ((List.range i).map λi=>(((S.take (2*ks.length-2)).flatten.count i:Nat):Int))) (λD hD=>⟨hD,aa,KB.new hD,rfl⟩) (λD i ys G h=>⟨h.2.1,by rw[h.2.2.2,aR,Kc,Lc]⟩) ?_ ?_
  ·rintro D' i ys G R hi ⟨g0',g1',gk',rfl⟩ kk;have hd':=gk' _ _ hd (by simp)
   walk_at "rz";refine⟨.inl ⟨rfl,_,bB.of hd'⟩,d,_,_,rfl,hd',rfl,?_⟩;rw[Int.zero_add,Ff];refine kk _ _ g1' ⟨g0',aa,λu o e _=>by rw[ae (ao e g0')];exact gk' _ _ e (by simp),?_⟩
   rw[Mn,Kv,fO];rfl
  rintro D' ys G ⟨g0',g1',gk',rfl⟩;exists aI g1';intro t ht;have hp:ks.length<=2^min 12 (ks.length-1):=Kn hn (Kn (show 17<=2^7 by decide) (LY (by decide) (by lia)))
  obtain⟨L1,L2⟩:=zY hS (by lia) (by lia) hp (by lia) rfl
  exact q _ t _ (k03.trans (gk'.trans (KB.new ht))) aa (by rw[Kc,Lc]) L1 L2
noncomputable def xr(cd:List (List (List Nat)))(rs:List Row):List V:=rs.map λr=>.str (wd (bK cd r))
theorem Ie(r:Row):r.vs=(r.m (((aQ r).getD 0:Nat):Int)).vs:=by cases r<;>rfl
theorem Ej(r:Row):iX (r.m (((aQ r).getD 0:Nat):Int))=cO (aQ r):=by cases r<;>rfl
noncomputable def rj(bk:List (List Int))(rs:List Row):List Nat:=Ah (jA (fT bk) rs) (rs.map aQ)
noncomputable def vL(bk:List (List Int))(rs:List Row):List Nat:=jf 0 (jA (fT bk) rs) (rs.map aQ) (rj bk rs)
noncomputable def jb(bk:List (List Int))(rs:List Row):List Nat:=oI (fT bk) (vL bk rs) 0 rs (rj bk rs)
theorem uO{bk:List (List Int)}{rs:List Row}(hB:Bk bk)(h2:rs.length<=64)(h3:∀r∈rs,r.Ok rs.length):Laid (fT bk) rs (rj bk rs) (vL bk rs) (jb bk rs):=by
 have sl:(jA (fT bk) rs).length=rs.length:=Kc ..;have gl:(rs.map aQ).length=rs.length:=Kc ..;obtain⟨l1,l2,l3⟩:=Hx (ss:=jA (fT bk) rs) (gs:=rs.map aQ) (λs hs=>by
  obtain⟨r,hr,rfl⟩:=KZ.mp hs;have:=gP hB.cd (h3 r hr)
  lia) (by rw[sl];exact h2) (by rw[gl,sl])
 exact⟨(qc hB).1,by unfold rj;rw[l1,sl],h2,h3,l2,rfl,l3,rfl⟩
theorem Ba(xs:List V):eC xs none (some (-1))=xs.dropLast:=by
 unfold eC;rw[HT.fD,Lw,Nn,ND];congr 1;unfold HT.b_;simp only[show ((-1:Int)<0)=True from eq_true (by decide),MQ]
 lia
noncomputable def tG:Sp:=λvs H Q _=>∃(a b:Addr) (bk:List (List Int)) (rs:List Row),vs=[.ref a,.ref b]/\vJ H a rs/\vG H b bk/\Bk bk/\rs.length<=64/\(∀r∈rs,r.Ok rs.length)/\∀t u H',KB [] H H'->H' t=some (.tup [.str (wd (jb bk rs)),.ref u])->H' u=some (.tup (iV (nZ (vL bk rs)).dropLast))->Q (.ref t) H'
theorem Di(T:Txt K mg)(F:HasFn K mg "pack_rows" cI ["program","book"])(hcodes_of:au P w K mg base aZ 6 "codes_of" ["book"] (nq K))(hbits_ahead_of_goal:au P w K mg base aZ 3 "bits_ahead_of_goal" ["row","codes"] (tD K))(hgoal_of:au P w K mg base aZ 1 "goal_of" ["row"] iK)(hleast_widths:au P w K mg base aZ 5 "least_widths" ["sizes","goals"] (p_ K))(hrow_starts:au P w K mg base aZ 2 "row_starts" ["sizes","widths"] (kn K))(hjump_written:au P w K mg base aZ 2 "jump_written" ["width","distance"] uj)(hdistance_of:au P w K mg base aZ 1 "distance_of" ["starts","goals","row"] rS):au P w K mg base aZ 7 "pack_rows" ["program","book"] tG:=by
 refine F.fL bD (λvs H Q E h=>?_) (λf cdv A outer s H vs Q E hr h=>?_)
 ·obtain⟨a,b,bk,rs,rfl,_⟩:=h;rfl
 ·have hu:=aS hr;obtain⟨a,b,bk,rs,rfl,hp,hb,hB,h2,h3,q⟩:=h;have hC:=hB.cd;have L:=uO hB h2 h3;unfold jb at q L;have ew:rj bk rs=Ah (jA (fT bk) rs) (rs.map aQ):=rfl;have es:vL bk rs=jf 0 (jA (fT bk) rs) (rs.map aQ) (rj bk rs):=rfl;refine⟨_,(Z.aq (Z.set (i:=2) bD.nd rfl (by right) (Z.fn hcodes_of (hr.mono (by decide)) rfl az (Z.cons (Z.v 1) Z.nil)))
   (Z.aq (Z.setC (j:=3) bD.nd rfl (by right) (osc:=af cI) (ON:=["program","book","codes","firsts","sizes","goals","widths","starts","bits","row","first"]) (own:=["row"]) (N:=["row","program","book","codes","firsts","sizes","goals","widths","starts","bits",".row","first"]) ⟨rfl,by decide +kernel,rfl,by decide +kernel,by decide +kernel,by decide +kernel,by decide +kernel,by decide +kernel⟩ rfl rfl rfl (Z.any K rfl (Z.v 0)) (λ_ _ _ _=>(Z.aO (i:=0) (show List.Nodup (["row","program","book","codes","firsts","sizes","goals","widths","starts","bits",".row","first"]:List Str) by decide +kernel) rfl (by right))) (λ_ _ _ _=>Z.lV) (λ_ _ _ _=>(Z.fn hbits_ahead_of_goal (hr.mono (by decide)) rfl az (Z.cons (Z.v 0) (Z.cons (Z.v 3) Z.nil)))))
   (Z.aq (Z.setC (j:=4) bD.nd rfl (by right) (osc:=af cI) (ON:=["program","book","codes","firsts","sizes","goals","widths","starts","bits","row","first"]) (own:=["first"]) (N:=["first","program","book","codes","firsts","sizes","goals","widths","starts","bits","row",".first"]) ⟨rfl,by decide +kernel,rfl,by decide +kernel,by decide +kernel,by decide +kernel,by decide +kernel,by decide +kernel⟩ rfl rfl rfl (Z.any K rfl (Z.v 3)) (λ_ _ _ _=>(Z.aO (i:=0) (show List.Nodup (["first","program","book","codes","firsts","sizes","goals","widths","starts","bits","row",".first"]:List Str) by decide +kernel) rfl (by right))) (λ_ _ _ _=>Z.lV) (λ_ _ _ _=>(Z.cb (Z.c_ K rfl) rfl T.cU (by decide +kernel) (Z.cons (Z.v 0) Z.nil))))
   (Z.aq (Z.setC (j:=5) bD.nd rfl (by right) (osc:=af cI) (ON:=["program","book","codes","firsts","sizes","goals","widths","starts","bits","row","first"]) (own:=["row"]) (N:=["row","program","book","codes","firsts","sizes","goals","widths","starts","bits",".row","first"]) ⟨rfl,by decide +kernel,rfl,by decide +kernel,by decide +kernel,by decide +kernel,by decide +kernel,by decide +kernel⟩ rfl rfl rfl (Z.any K rfl (Z.v 0)) (λ_ _ _ _=>(Z.aO (i:=0) (show List.Nodup (["row","program","book","codes","firsts","sizes","goals","widths","starts","bits",".row","first"]:List Str) by decide +kernel) rfl (by right))) (λ_ _ _ _=>Z.lV) (λ_ _ _ _=>(Z.fn hgoal_of (hr.mono (by decide)) rfl az (Z.cons (Z.v 0) Z.nil))))
   (Z.aq (Z.set (i:=6) bD.nd rfl (by right) (Z.fn hleast_widths (hr.mono (by decide)) rfl az (Z.cons (Z.v 4) (Z.cons (Z.v 5) Z.nil))))
   (Z.aq (Z.set (i:=7) bD.nd rfl (by right) (Z.fn hrow_starts (hr.mono (by decide)) rfl az (Z.cons (Z.v 4) (Z.cons (Z.v 6) Z.nil))))
   (Z.aq (Z.set (i:=8) bD.nd rfl (by right) (Z.lst Z.nil))
   (Z.aq (Z.hV KR rfl (Z.DM K rfl rfl T.eY (Z.cons (Z.v 3) Z.nil)) (Z.jc (n:=2) K rfl rfl (Z.bz (Z.aO (i:=9) bD.nd rfl (by right)) (Z.bz (Z.aO (i:=10) bD.nd rfl (by right)) Z.fA))) (Z.aq (Z.expr (Z.bm K rfl PySem.F.plainAttrs_list PySem.F.slot_list_append PySem.F.type_list_append cC (Z.v 8) (Z.cons (Z.v 10) Z.nil)))
   (Z.aA (Z.eF (Z.bu jR (Z.ix (Z.aP K rfl hu) (Z.v 5) (Z.v 9)) Z.aX) (Z.aA (Z.expr (Z.bm K rfl PySem.F.plainAttrs_list PySem.F.slot_list_append PySem.F.type_list_append cC (Z.v 8) (Z.cons (Z.fn hjump_written (hr.mono (by decide)) rfl az (Z.cons (Z.ix (Z.aP K rfl hu) (Z.v 6) (Z.v 9)) (Z.cons (Z.fn hdistance_of (hr.mono (by decide)) rfl az (Z.cons (Z.v 7) (Z.cons (Z.v 5) (Z.cons (Z.v 9) Z.nil)))) Z.nil))) Z.nil)))) Z.bU))))
   (Z.aA (Z.ret (Z.tup (Z.cons (Z.bm K rfl PySem.F.plainAttrs_str PySem.F.slot_str_join PySem.F.type_str_join (Z.yN K rfl) Z.str (Z.cons (Z.v 8) Z.nil)) (Z.cons (Z.ct (Z.cc K rfl) rfl T.cg (by decide +kernel) (Z.cons (Z.slice (Z.HN K rfl) (Z.v 7) Z.Cb (Z.xc (Z.un iq Z.int))) Z.nil)) Z.nil))))))))))))),?_⟩
  refine ax λN hN=>?_;walk_at "rz";refine⟨b,bk,rfl,hb,hB,λca H1 hca k1 cdl=>?_⟩;rw[hN];clear hN N;generalize fT bk=cd at *;generalize rj bk rs=ws at *;generalize vL bk rs=sp at *;have hp1:=hp.kb k1;refine ax λN hN=>?_;obtain⟨ps,hps,hpa⟩:=hp1;have hpl:=hpa.1;exists aL hps;refine cq (xs:=ps.map V.ref) (Kn (show _<=64 by rw[Kc];lia) (by decide)) (λD i ys H'=>H1 D=none/\H' D=some (.lst ys)/\KB [] H1 H'/\ys=xr cd (rs.take i)/\i<=rs.length) (λD hD=>⟨hD,aa,KB.new hD,rfl,Kz _⟩) (λD i ys H' h=>⟨h.2.1,by rw[h.2.2.2.1,xr,Kc,K8];have:=h.2.2.2.2;lia⟩) (λD i ys H' h=>aY.of (h.2.2.1 _ _ hps (by simp))) ?_ ?_
  ·rintro D i ys H' x R hx ⟨g0,g1,gk,rfl,hi⟩ kk;obtain⟨u,eu,rfl⟩:∃u,ps[i]?=some u/\x=.ref u:=by
    rw[Kp] at hx;obtain⟨u,e,rfl⟩:=KD.mp hx;exact⟨u,e,rfl⟩
   have hlt:i<rs.length:=by have:=(Kf.mp eu).1;lia
   have er:=Ka hlt;have et:rs.take (i+1)=rs.take i++[rs[i]]:=by rw[L9,er];rfl
   walk_at "rz";refine⟨u,ca,rs[i],rs.length,cd,rfl,gk _ _ (hpa.2 i u _ eu er) (by simp),h3 _ (K1 hlt),cdl.kb gk,hC,λH5 k5=>?_⟩
   exact kk _ _ (k5 _ _ g1 (by simp)) ⟨g0,aa,λu o e _=>by rw[ae (ao e g0)];exact k5 _ _ (gk _ _ e (by simp)) (by simp),by rw[et];unfold xr;rw[Kv];rfl,hlt⟩
  rintro pl ys H2 ⟨_,gp,k2,rfl,_⟩;rw[Kc,hpl,Li] at gp;show N _ _;rw[hN];clear hN N;have k02:=k1.trans k2;clear cdl hps hpa hpl k2 k1 hca;refine ax λN hN=>?_;exists aI gp;refine gj (xs:=xr cd rs) (Kn (show _<=64 by rw[xr,Kc];exact h2) (by decide)) (λD i ys H'=>H2 D=none/\H' D=some (.lst ys)/\KB [] H2 H'/\ys=iV (nZ (jA cd (rs.take i)))/\i<=rs.length) (λD hD=>⟨hD,aa,KB.new hD,rfl,Kz _⟩) (λD i ys H' h=>⟨h.2.1,by rw[h.2.2.2.1,eZ,jA,Kc,K8];have:=h.2.2.2.2;lia⟩) (λD i ys H' h=>bB.of (h.2.2.1 _ _ gp (by simp))) ?_ ?_
  ·rintro D i ys H' x R hx ⟨g0,g1,gk,rfl,hi⟩ kk;have hlt:i<rs.length:=by have:=(Kf.mp hx).1;rw[xr,Kc] at this;exact this
   have er:=Ka hlt;have et:rs.take (i+1)=rs.take i++[rs[i]]:=by rw[L9,er];rfl
   have ex:x=.str (wd (bK cd rs[i])):=by
    unfold xr at hx;rw[Kp,er] at hx;exact (Option.some.inj hx).symm
   subst ex;have h136:=gP hC (h3 _ (K1 hlt));exists bA;exact⟨Kn h136 (by decide),kk _ _ g1 ⟨g0,aa,λu o e _=>by rw[ae (ao e g0)];exact gk _ _ e (by simp),by rw[et];unfold jA nZ iV;rw[Kv,Kv,Kv];rfl,hlt⟩⟩
  rintro sa ys H3 ⟨_,gsz,k3,rfl,_⟩;rw[show (xr cd rs).length=rs.length from Kc ..,Li] at gsz;show N _ _;rw[hN];clear hN N;have k03:=k02.trans k3;have gp3:=k3 _ _ gp (by simp)
  refine ax λN hN=>?_;obtain⟨ps,hps,hpa⟩:=hp.kb k03;have hpl:=hpa.1;exists aL hps;refine cq (xs:=ps.map V.ref) (Kn (show _<=64 by rw[Kc];lia) (by decide)) (λD i ys H'=>H3 D=none/\H' D=some (.lst ys)/\KB [] H3 H'/\ys=((rs.take i).map aQ).map cO/\i<=rs.length) (λD hD=>⟨hD,aa,KB.new hD,rfl,Kz _⟩) (λD i ys H' h=>⟨h.2.1,by rw[h.2.2.2.1,Kc,Kc,K8];have:=h.2.2.2.2;lia⟩) (λD i ys H' h=>aY.of (h.2.2.1 _ _ hps (by simp))) ?_ ?_
  ·rintro D i ys H' x R hx ⟨g0,g1,gk,rfl,hi⟩ kk;obtain⟨u,eu,rfl⟩:∃u,ps[i]?=some u/\x=.ref u:=by
    rw[Kp] at hx;obtain⟨u,e,rfl⟩:=KD.mp hx;exact⟨u,e,rfl⟩
   have hlt:i<rs.length:=by have:=(Kf.mp eu).1;lia
   have er:=Ka hlt;have et:rs.take (i+1)=rs.take i++[rs[i]]:=by rw[L9,er];rfl
   have hu':=gk _ _ (hpa.2 i u _ eu er) (by simp)
   rw[Ie] at hu';walk_at "rz";refine⟨u,_,rfl,hu',?_⟩;rw[Ej];exact kk _ _ g1 ⟨g0,aa,λu o e _=>by rw[ae (ao e g0)];exact gk _ _ e (by simp),by rw[et,Kv,Kv];rfl,hlt⟩
  rintro ga ys H4 ⟨_,gg,k4,rfl,_⟩;rw[Kc,hpl,Li] at gg;show N _ _;rw[hN];clear hN N;clear hps hpa hpl;have k04:=k03.trans k4;have gp4:=k4 _ _ gp3 (by simp)
  have gsz4:=k4 _ _ gsz (by simp)
  have DN:(jA cd rs).length=rs.length:=Kc ..;have gl1:(rs.map aQ).length=rs.length:=Kc ..;have sb:∀s∈jA cd rs,s<=150:=λs hs=>by
   obtain⟨r,hr',rfl⟩:=KZ.mp hs;have:=gP hC (h3 r hr');lia
  have gb:∀t,some t∈rs.map aQ->t<=(jA cd rs).length:=λt ht=>by
   obtain⟨r,hr',e⟩:=KZ.mp ht;rw[DN];exact jL (h3 r hr') e
  clear gp gp3 gsz k02 k03 k3 k4;refine ax λN hN=>?_;walk_at "rz";refine⟨sa,ga,jA cd rs,rs.map aQ,rfl,gsz4,gg,by rw[gl1,DN],by rw[DN];exact h2,sb,gb,λwa H5 k5 g5=>?_⟩
  rw[<- ew] at g5;rw[hN];clear hN N;have wl:=L.len;have wt:=L.lt;refine ax λN hN=>?_;walk_at "rz";refine⟨sa,wa,false,jA cd rs,rs.map aQ,ws,rfl,k5 _ _ gsz4 (by simp),aY.of g5,λH' k=>aY.of (k _ _ g5 (by simp)),by rw[gl1,DN],by rw[wl,DN],by rw[DN];exact h2,wt,λpa H6 _ k6 g6=>?_⟩
  rw[<- es] at g6;rw[hN];clear hN N;have spl:=L.sl;have k56:=k5.trans k6;have k06:=k04.trans k56;have gp6:=k56 _ _ gp4 (by simp)
  have gg6:=k56 _ _ gg (by simp)
  have gw6:=k6 _ _ g5 (by simp)
  clear k56 gp4 gg g5 k5 k6 gsz4 k04 sb gb;refine ax λN hN=>?_;walk_at "rz";refine⟨Kz _,λbl hbl=>?_⟩;have k7:=KB.new (ex:=[]) (o:=.lst []) hbl;have s7:upd H6 bl (.lst []) bl=some (.lst []):=aa;generalize upd H6 bl (.lst [])=H7 at *;have hblH:H bl=none:=k06.free (by simp) hbl
  rw[hN];clear hN N;refine ax λN hN=>?_;walk_at "rz";have gp7:=k7 _ _ gp6 (by simp)
  refine⟨⟨_,bB.of gp7⟩,?_⟩;have keepB:∀{G:Hp} {o:HO},KB [] H6 G->KB [] H6 (upd G bl o):=λk u o' e z=>by rw[ae (ao e hbl)];exact k u o' e z
  refine lG (xs:=xr cd rs) (λi σ H'=>∃(acc:List (List Nat)) (o9 o10:Option V),i<=rs.length/\KB [] H6 H'/\H' bl=some (.lst ((acc.map wd).map V.str))/\acc.flatten++oI cd sp i (rs.drop i) (ws.drop i)=oI cd sp 0 rs ws/\acc.length<=2*i/\acc.flatten.length<=200*i/\σ=[some (.ref a),some (.ref b),some (.ref ca),some (.ref pl),some (.ref sa),some (.ref ga),some (.ref wa),some (.ref pa),some (.ref bl),o9,o10]) ⟨[],none,none,Kz _,k7,s7,rfl,Kz _,Kz _,rfl⟩ (λi σ H' _ h=>by obtain⟨_,_,_,_,k,_⟩:=h;exact bB.of (k _ _ gp6 (by simp))) ?_ ?_
  ·rintro i x σ H' p hx ⟨acc,o9,o10,hi,hk,gb,ex,hx1,hx2,rfl⟩ hp';have hlt:i<rs.length:=by have:=(Kf.mp hx).1;rw[xr,Kc] at this;exact this
   have er:=Ka hlt;have ewi:=Ka (show i<ws.length by lia)
   have lw:=wt _ (K1 (show i<ws.length by lia))
   have okr:=h3 _ (K1 hlt);rw[Lq hlt,Lq (show i<ws.length by lia),oI] at ex
   unfold xr at hx;rw[Kp,er] at hx;generalize rs[i]'_=r at *;generalize ws[i]'_=w0 at *;cases hx;have h136:=gP hC okr;have ag:cL ((rs.map aQ).map cO) (i:Int)=some (cO (aQ r)):=b7 (by rw[Kp,Kp,er];rfl)
   unfold bp;refine⟨p,_,rfl,aY.of aa,rfl,_,_,rfl,_,_,rfl,rfl,?_⟩;have kz:=KB.new (ex:=[]) (o:=.tup [.int i,.str (wd (bK cd r))]) hp';generalize upd H' p (.tup [.int i,.str (wd (bK cd r))])=G1 at *;have hk1:=hk.trans kz;have gb1:=kz _ _ gb (by simp)
   dsimp only;refine ax λM hM=>?_;walk_at "rz";refine⟨.inl ⟨rfl,_,bB.of gb1⟩,bl,_,_,rfl,rfl,gb1,Nat.lt_of_le_of_lt (show _<=1000 by rw[List.length_map,List.length_map];lia) (by decide),?_⟩
   have gb2:upd G1 bl (.lst ((acc.map wd).map V.str++[.str (wd (bK cd r))])) bl=some (.lst (((acc++[bK cd r]).map wd).map V.str)):=by rw[aa,Kv,Kv];rfl
   have hk2:=keepB (o:=.lst ((acc.map wd).map V.str++[.str (wd (bK cd r))])) hk1;generalize upd G1 bl (.lst ((acc.map wd).map V.str++[.str (wd (bK cd r))]))=G2 at *;rw[hM];clear hM M;dsimp only;refine qU λM hM=>?_;refine Et λA B hA hB'=>?_;exists aI (hk2 _ _ gg6 (by simp)),ag
   have f1:(acc++[bK cd r]).flatten=acc.flatten++bK cd r:=by simp
   cases eg:aQ r with
   |none =>
    rw[Ki (show ¬ ¬ cO none=V.aX from λz=>z rfl),hB'];show M _ _;rw[hM];refine⟨acc++[bK cd r],_,_,hlt,hk2,gb2,?_,by rw[Ke];simp;lia,by rw[f1,Ke];lia,rfl⟩
    rw[<- ex,eg,f1];simp[Co]
   |some g =>
    rw[eg] at ag;rw[Kj (show ¬ cO (some g)=V.aX from λz=>nomatch z),hA];clear hA hB';have hg:g<=rs.length:=jL okr eg;have egs:(rs.map aQ)[i]?=some (some g):=by rw[Kp,er];exact K_ some eg
    have aw:cL (ip (rs.map aQ) ws) (i:Int)=some (.int (w0:Nat)):=b7 (oo egs ewi);exists aL (hk2 _ _ gw6 (by simp)),aw
    refine⟨.inl ⟨rfl,_,bB.of gb2⟩,pa,ga,sp,rs.map aQ,i,g,rfl,hk2 _ _ g6 (by simp),hk2 _ _ gg6 (by simp),egs,by lia,by lia,w0,gh sp g i,rfl,lw,?_⟩
    refine⟨bl,_,_,rfl,rfl,gb2,Lm (show _<=1000 by rw[Kc,Kc,Ke];simp;lia) (by decide),?_⟩
    rw[hM];have jl:=uZ lw (gh sp g i);have f2:(acc++[bK cd r]++[dR w0 (gh sp g i)]).flatten=acc.flatten++bK cd r++dR w0 (gh sp g i):=by simp
    have jl2:IS w0<=18:=by rcases lM lw with rfl|rfl|rfl<;>decide
    refine⟨acc++[bK cd r]++[dR w0 (gh sp g i)],_,_,hlt,keepB hk2,by rw[aa];simp only[Kv,K9,Mh],?_,by rw[Ke,Ke];simp;lia,by rw[f2,Ke,Ke,jl];lia,rfl⟩
    rw[<- ex,eg,f2];simp[Co]
  ·rintro σ H' ⟨acc,o9,o10,hi,hk,gb,ex,hx1,hx2,rfl⟩;show N _ _;rw[hN];clear hN N;rw[show (xr cd rs).length=rs.length from Kc ..] at *;rw[N8] at ex;have ex':acc.flatten=oI cd sp 0 rs ws:=by rw[<- ex];unfold oI;exact (Lb _).symm
   walk_at "rz";have e2:((acc.map wd).map λx=>x.length).sum=acc.flatten.length:=by
    rw[List.length_flatten,LP];rfl
   refine⟨rfl,_,bl,_,rfl,rfl,bB.of gb,?_,?_⟩
   ·rw[e2,show (Str.ofString "").length=0 from by decide +kernel];lia
   rw[nU,ex'];exists aI (hk _ _ g6 (by simp))
   rw[Ba];intro q1 hq1 l2 hl2;have k8:=KB.new (ex:=[]) (o:=.lst (iV (nZ sp)).dropLast) hq1;generalize upd H' q1 (.lst (iV (nZ sp)).dropLast)=G1 at *;have k9:=KB.new (ex:=[]) (o:=.tup (iV (nZ sp)).dropLast) hl2;have s9:upd G1 l2 (.tup (iV (nZ sp)).dropLast) l2=_:=aa;generalize upd G1 l2 (.tup (iV (nZ sp)).dropLast)=G2 at *;refine⟨by decide,λt ht=>?_⟩
   have k10:=KB.new (ex:=[]) (o:=.tup [.str (wd (oI cd sp 0 rs ws)),.ref l2]) ht;refine q t l2 _ (k06.trans (hk.trans (k8.trans (k9.trans k10)))) aa ?_;rw[k10 _ _ s9 (by simp)]
   unfold iV;rw[List.map_dropLast]
structure RS where
 st:ie
 at_:Nat
 tn:List Nat
noncomputable def mL(rs:List Row)(c:RS)(r:Row):RS:=⟨(carry c.st (r.m 0)).2,EI c.st r c.at_ rs.length,c.tn.set c.at_ (c.tn.getD c.at_ 0+1)⟩
noncomputable def bM(rs:List Row):Nat->RS->RS
 |0,c=>c
 |n+1,c=>match rs[c.at_]? with
  |none=>c
  |some r=>bM rs n (mL rs c r)
noncomputable def uw(rs:List Row)(g:List Int):RS:=⟨G0 g,0,List.replicate rs.length 0⟩
noncomputable def jH(rs:List Row)(c:RS):Str:=if c.at_<rs.length then "more" else "halt"
noncomputable def JQ(H:Hp)(v:V)(rs:List Row)(c:RS):Prop:=∃t p1 p2 p3,v=.ref t/\H t=some (.tup [.str (jH rs c),.ref p1,.ref p2,.ref p3])/\H p1=some (.tup (iV c.st.told))/\H p2=some (.tup (iV (nZ c.tn)))/\H p3=some (.tup (iV c.st.bs))
theorem xh(st:ie)(r:Row)(i n:Nat):place st (r.m (((aQ r).getD 0:Nat):Int)) ((i:Int)+1) (n:Int)=((EI st r i n:Nat):Int):=by
 by_cases hh:r=.halt
 ·subst hh;rfl
 ·have e1:EI st r i n=if (carry st (r.m 0)).1=true then (aQ r).getD 0 else i+1:=by cases r<;>first|rfl|exact absurd rfl hh
  have e2:∀(g bh en:Int),place st (r.m g) bh en=if (carry st (r.m g)).1=true then ((jy (r.m g)).getD 0) else bh:=λg bh en=>by cases r<;>first|rfl|exact absurd rfl hh
  rw[e2,e1,jU _ _ _ 0];by_cases hc:(carry st (r.m 0)).1=true
  ·rw[Kj hc,Kj hc];obtain⟨t,ht⟩:=ig hc;have eg:∀g,jy (r.m g)=some g:=λg=>by cases r<;>first|rfl|cases ht
   rw[eg];rfl
  ·rw[Ki hc,Ki hc];rfl
theorem Jf{r:Row}{n:Nat}(h:r.Ok n)(g:Int):(r.m g).Ok:=by
 cases r with
 |put b n=>exact h.1
 |two u a b=>exact h
 |one u b=>exact h
 |jump g=>exact trivial
 |zero b g=>exact h.1
 |halt=>exact trivial
noncomputable def zW(K:PJ):Sp:=λvs H Q _=>∃(a gv:Addr) (rs:List Row) (g:List Int) (most:Nat),vs=[.ref a,.ref gv,.int (most:Nat)]/\vJ H a rs/\H gv=some (.tup (iV g))/\rs.length<=64/\(∀r∈rs,r.Ok rs.length)/\most<=10000/\∀v H',KB [] H H'->JQ H' v rs (bM rs most (uw rs g))->Q v H'
theorem CP(T:Txt K mg)(hgoal_of:au P w K mg base aZ 1 "goal_of" ["row"] iK)(F:HasFn K mg "run_rows" eJ ["program","given","most"]):au P w K mg base aZ 7 "run_rows" ["program","given","most"] (zW K):=by
 obtain⟨C_Machine,f___init__,f_place_next,f_carry_out,f_number_for,f_heard_number,f_told_numbers,f_box_numbers,d___init__,d_place_next,d_carry_out,d_number_for,d_heard_number,d_told_numbers,d_box_numbers,hC_Machine,cM,na_given,na_heard,na_told,na_boxes,mm___init__,FM___init__,bm___init__,mm_place_next,FM_place_next,bm_place_next,mm_carry_out,FM_carry_out,bm_carry_out,mm_number_for,FM_number_for,bm_number_for,mm_heard_number,FM_heard_number,bm_heard_number,mm_told_numbers,FM_told_numbers,bm_told_numbers,mm_box_numbers,FM_box_numbers,bm_box_numbers⟩:=T.mc;have FO_heard_number:=qa (P:=P) (w:=w) (mg:=mg) (base:=base) T cM na_given na_heard FM_heard_number;have FO_number_for:=AJ (P:=P) (w:=w) (mg:=mg) (base:=base) T cM na_boxes mm_heard_number bm_heard_number FO_heard_number FM_number_for;have FO_carry_out:=pV (P:=P) (w:=w) (mg:=mg) (base:=base) T cM na_boxes na_told mm_number_for bm_number_for FO_number_for FM_carry_out;have FO_place_next:=oT T hgoal_of cM mm_carry_out bm_carry_out FO_carry_out FM_place_next;have FO_told_numbers:=uh (P:=P) (w:=w) (mg:=mg) (base:=base) T cM na_told FM_told_numbers;have FO_box_numbers:=q5 (P:=P) (w:=w) (mg:=mg) (base:=base) T cM na_boxes FM_box_numbers;have FO___init__:=uI (P:=P) (w:=w) (mg:=mg) (base:=base) T cM na_given na_heard na_told na_boxes FM___init__;refine F.fL cu (λvs H Q E h=>?_) (λf cdv A outer s H vs Q E hr h=>?_)
 ·obtain⟨a,gv,rs,g,most,rfl,_⟩:=h;rfl
 ·obtain⟨pa,gv,rs,g,most,rfl,hp,og1,hl,ba,hmo,q⟩:=h;have hu:=aS hr;refine⟨_,(Z.aq (Z.set (i:=3) cu.nd rfl (by right) (Z.make K rfl mm___init__ FO___init__ (hr.mono (by decide)) rfl hC_Machine bm___init__ az (Z.cons (Z.v 1) Z.nil)))
   (Z.aq (Z.setC (j:=4) cu.nd rfl (by right) (osc:=af eJ) (ON:=["program","given","most","machine","turns","at","done","how"]) (own:=["row"]) (N:=["row","program","given","most","machine","turns","at","done","how"]) ⟨rfl,by decide +kernel,rfl,by decide +kernel,by decide +kernel,by decide +kernel,by decide +kernel,by decide +kernel⟩ rfl rfl rfl (Z.any K rfl (Z.v 0)) (λ_ _ _ _=>(Z.aO (i:=0) (show List.Nodup (["row","program","given","most","machine","turns","at","done","how"]:List Str) by decide +kernel) rfl (by right))) (λ_ _ _ _=>Z.lV) (λ_ _ _ _=>Z.int))
   (Z.aq (Z.set (i:=5) cu.nd rfl (by right) Z.int)
   (Z.aq (Z.set (i:=6) cu.nd rfl (by right) Z.int)
   (Z.aq (Z.oG KR (Z.tw (Z.yO (Z.bu hZ (Z.v 5) (Z.cb (Z.c_ K rfl) rfl T.cU (by decide +kernel) (Z.cons (Z.v 0) Z.nil))) (Z.qE (Z.bu hZ (Z.v 6) (Z.v 2))))) (Z.aq (Z.asg (Z.op (Z.bf K rfl) (Z.ix (Z.aP K rfl hu) (Z.v 4) (Z.v 5)) Z.int) (Z.pJ (Z.v 4) (Z.v 5)))
   (Z.aq (Z.set (i:=6) cu.nd rfl (by right) (Z.op (Z.bf K rfl) (Z.v 6) Z.int))
   (Z.aA (Z.set (i:=5) cu.nd rfl (by right) (Z.BO K rfl (Z.v 3) cM mm_place_next FO_place_next (hr.mono (by decide)) bm_place_next az (Z.cons (Z.ix (Z.aP K rfl hu) (Z.v 0) (Z.v 5)) (Z.cons (Z.op (Z.bf K rfl) (Z.v 5) Z.int) (Z.cons (Z.cb (Z.c_ K rfl) rfl T.cU (by decide +kernel) (Z.cons (Z.v 0) Z.nil)) Z.nil)))))))))
   (Z.aq (Z.set (i:=7) cu.nd rfl (by right) (Z.BA (Z.bu hZ (Z.v 5) (Z.cb (Z.c_ K rfl) rfl T.cU (by decide +kernel) (Z.cons (Z.v 0) Z.nil))) Z.str Z.str))
   (Z.aA (Z.ret (Z.tup (Z.cons (Z.v 7) (Z.cons (Z.pq K rfl (Z.v 3) cM mm_told_numbers FO_told_numbers (hr.mono (by decide)) bm_told_numbers az) (Z.cons (Z.ct (Z.cc K rfl) rfl T.cg (by decide +kernel) (Z.cons (Z.v 4) Z.nil)) (Z.cons (Z.pq K rfl (Z.v 3) cM mm_box_numbers FO_box_numbers (hr.mono (by decide)) bm_box_numbers az) Z.nil))))))))))))),?_⟩
  refine ax λN hN=>?_;walk_at "rz";intro x dx hx0 hdx0 hxd;have gx:gv≠x:=λzz=>by rw[zz,hx0] at og1;cases og1
  have gd:gv≠dx:=λzz=>by rw[zz,hdx0] at og1;cases og1
  refine⟨x,dx,gv,g,rfl,aa,by rw[ae hxd];exact aa,by rw[ae gx,ae gd];exact og1,λH2 tl bx htl hbx M2 kb2=>⟨rfl,?_⟩⟩
  have k12:KB [] H H2:=λc o e _=>kb2 c o (by rw[ae (ao e hx0),ae (ao e hdx0)];exact e) (by simpa using ao e hx0)
  obtain⟨a,ea⟩:∃a:MA,a=⟨x,dx,gv,tl,bx⟩:=⟨_,rfl⟩;have em:x=a.m:=by rw[ea]
  rw[<- ea] at M2;rw[em];have new:∀b,b∈MF a->H b=none:=λb hb=>by
   have un:∀{c:Addr},upd (upd H dx (HO.own x)) x (HO.ins C_Machine dx []) c=none->H c=none:=λ{c} e=>by
    by_cases c1:c=x
    ·rw[c1];exact hx0
    ·rw[ae c1] at e;by_cases c2:c=dx
     ·rw[c2];exact hdx0
     ·rw[ae c2] at e;exact e
   rw[ea] at hb;simp only[MF,Kl,K7,Lp] at hb;rcases hb with rfl|rfl|rfl
   ·exact hx0
   ·exact un htl
   ·exact un hbx
  have ntp:∀{G:Hp} {st:ie},MS K C_Machine G a st->NT (MF a) G:=λM b hb xs e=>by
   simp only[MF,Kl,K7,Lp] at hb;rcases hb with rfl|rfl|rfl
   ·rw[M.om] at e;cases e
   ·rw[M.ot] at e;cases e
   ·rw[M.ob] at e;cases e
  have keepH:∀{G G':Hp},KB [] H G->KB (MF a) G G'->KB [] H G':=λo k c u e _=>k _ _ (o _ _ e (by simp)) λzz=>by rw[new c zz] at e;cases e
  clear gx gd htl hbx kb2 og1 em;rw[hN];clear hN N;refine ax λN hN=>?_;obtain⟨ps,hps,hpa⟩:=hp.kb k12;have hpl:=hpa.1;exists aL hps;refine cq (xs:=ps.map V.ref) (Kn (show _<=64 by rw[Kc];lia) (by decide)) (λD i ys H'=>H2 D=none/\H' D=some (.lst ys)/\KB [] H2 H'/\ys=iV (nZ (List.replicate i 0))) (λD hD=>⟨hD,aa,KB.new hD,rfl⟩) (λD i ys H' h=>⟨h.2.1,by rw[h.2.2.2,aR,bj,Kw]⟩) (λD i ys H' h=>aY.of (h.2.2.1 _ _ hps (by simp))) ?_ ?_
  ·rintro D i ys H' z R hz ⟨g0,g1,gk,rfl⟩ kk;walk_at "rz";exact kk _ _ g1 ⟨g0,aa,λu o e _=>by rw[ae (ao e g0)];exact gk _ _ e (by simp),by rw[NU];unfold nZ iV;rw[Kv,Kv];rfl⟩
  rintro tn ys H3 ⟨htn,gtn,k3,rfl⟩;rw[Kc,hpl] at gtn;have M3:=M2.kb k3;have k03:=k12.trans k3;have ntn:tn∉MF a:=λz=>by
   have:∃o,H2 tn=some o:=by
    simp only[MF,Kl,K7,Lp] at z;rcases z with rfl|rfl|rfl
    ·exact⟨_,M2.om⟩
    ·exact⟨_,M2.ot⟩
    ·exact⟨_,M2.ob⟩
   obtain⟨o,e⟩:=this;rw[htn] at e;cases e
  have htnH:H tn=none:=k12.free (by simp) htn
  show N _ _;rw[hN];clear hN N;refine ax λN hN=>?_;walk_at "rz";rw[hN];clear hN N;refine ax λN hN=>?_;walk_at "rz";rw[hN];clear hN N;obtain⟨R,eR⟩:∃R,R=bM rs most (uw rs g):=⟨_,rfl⟩;rw[<- eR] at q;clear hps hpa hpl k3 M2 k12;refine ax λN hN=>?_;refine⟨λm σ H'=>∃(n:Nat) (c:RS),n<=most/\m=most-n/\R=bM rs (most-n) c/\c.st.told.length<=n/\c.at_<=rs.length/\c.tn.length=rs.length/\MS K C_Machine H' a c.st/\KB [] H H'/\H' tn=some (.lst (iV (nZ c.tn)))/\σ=[some (V.ref pa),some (V.ref gv),some (V.int (most:Nat)),some (V.ref a.m),some (V.ref tn),some (V.int (c.at_:Nat)),some (V.int (n:Nat)),none],⟨most,0,uw rs g,Kz _,rfl,eR,Kz _,Kz _,Kw ..,M3,k03,gtn,rfl⟩,?_⟩;rintro m σ H4 ⟨n,c,hn,rfl,hrun,htl,hat,htl2,M4,old4,gt4,rfl⟩;obtain⟨ps,hps,hpa⟩:=hp.kb old4;have hpl:=hpa.1;have fin:R=c->N [some (V.ref pa),some (V.ref gv),some (V.int (most:Nat)),some (V.ref a.m),some (V.ref tn),some (V.int (c.at_:Nat)),some (V.int (n:Nat)),none] H4:=λhc=>by
   rw[hN];clear hN N;subst hc;refine ax λN hN=>?_;have ret:N [some (V.ref pa),some (V.ref gv),some (V.int (most:Nat)),some (V.ref a.m),some (V.ref tn),some (V.int (R.at_:Nat)),some (V.int (n:Nat)),some (V.str (jH rs R))] H4:=by
    rw[hN];clear hN N;walk_at "rz";refine⟨a.m,a.dx,_,rfl,M4.om,vA (by decide +kernel) (by decide +kernel) (by decide +kernel) (by decide +kernel),a,R.st,rfl,M4,λp1 hp1=>?_⟩
    have k5:KB [] H4 (upd H4 p1 (.tup (iV R.st.told))):=KB.new hp1;have t5:upd H4 p1 (.tup (iV R.st.told)) p1=some (.tup (iV R.st.told)):=aa;generalize upd H4 p1 (.tup (iV R.st.told))=H5 at *;have M5:=M4.kb k5;exists aI (k5 _ _ gt4 (by simp))
    intro p2 hp2;have k6:KB [] H5 (upd H5 p2 (.tup (iV (nZ R.tn)))):=KB.new hp2;have t6:upd H5 p2 (.tup (iV (nZ R.tn))) p2=some (.tup (iV (nZ R.tn))):=aa;generalize upd H5 p2 (.tup (iV (nZ R.tn)))=H6 at *;have M6:=M5.kb k6;refine⟨a.m,a.dx,_,rfl,M6.om,vA (by decide +kernel) (by decide +kernel) (by decide +kernel) (by decide +kernel),a,R.st,rfl,M6,λp3 H7 hp3 t7 k7=>?_⟩
    refine⟨by decide,λp4 hp4=>?_⟩
    have k8:=KB.new (ex:=[]) (o:=.tup [.str (jH rs R),.ref p1,.ref p2,.ref p3]) hp4;exact q _ _ (old4.trans (k5.trans (k6.trans (k7.trans k8)))) ⟨p4,p1,p2,p3,rfl,aa,k8 _ _ (k7 _ _ (k6 _ _ t5 (by simp)) (by simp)) (by simp),k8 _ _ (k7 _ _ t6 (by simp)) (by simp),k8 _ _ t7 (by simp)⟩
   exists aL hps,Kc,hpl;unfold jH at ret;by_cases c1:R.at_<rs.length
   ·rw[Kj c1] at ret;rw[Kj (show (R.at_:Int)<(rs.length:Nat) by lia)]
    exact ret
   ·rw[Ki c1] at ret;rw[Ki (show ¬ (R.at_:Int)<(rs.length:Nat) by lia)]
    exact ret
  exists aL hps,Kc,hpl;by_cases c1:(c.at_:Int)<(rs.length:Nat)
  ·rw[Kj c1];have hlt:c.at_<rs.length:=by lia
   have er:=Ka hlt;by_cases c2:((n:Nat):Int)<(most:Nat)
   ·rw[Kj c2];have nx:bM rs (most-n) c=bM rs (most-(n+1)) (mL rs c rs[c.at_]):=by
     rw[show most-n=(most-(n+1))+1 by lia,bM,er]
    refine⟨λσ' H'=>∃m',m'<most-n/\∃(n:Nat) (c:RS),n<=most/\m'=most-n/\R=bM rs (most-n) c/\c.st.told.length<=n/\c.at_<=rs.length/\c.tn.length=rs.length/\MS K C_Machine H' a c.st/\KB [] H H'/\H' tn=some (.lst (iV (nZ c.tn)))/\σ'=[some (V.ref pa),some (V.ref gv),some (V.int (most:Nat)),some (V.ref a.m),some (V.ref tn),some (V.int (c.at_:Nat)),some (V.int (n:Nat)),none],λ_ _ h=>h,?_⟩;have av:cL (iV (nZ c.tn)) (c.at_:Int)=some (.int ((c.tn.getD c.at_ 0:Nat):Int)):=b7 (by unfold iV nZ;rw[LP,Kp,Ka (show c.at_<c.tn.length by lia),Kt,Ka (show c.at_<c.tn.length by lia)];rfl)
    have c3:jP (iV (nZ c.tn)).length (c.at_:Int)=some c.at_:=by
     rw[aR,bj];unfold jP;rw[Kj (by lia),Kj (by lia),KN]
    exists aI gt4,av,gt4,c3;have es:(iV (nZ c.tn)).set c.at_ (.int (((c.tn.getD c.at_ 0:Nat):Int)+1))=iV (nZ (c.tn.set c.at_ (c.tn.getD c.at_ 0+1))):=by unfold iV nZ;rw[Mw,Mw];rfl
    rw[es];have kt:KB [tn] H4 (upd H4 tn (.lst (iV (nZ (c.tn.set c.at_ (c.tn.getD c.at_ 0+1)))))):=KB.set (by simp)
    have gt5:upd H4 tn (.lst (iV (nZ (c.tn.set c.at_ (c.tn.getD c.at_ 0+1))))) tn=_:=aa;have old5:KB [] H (upd H4 tn (.lst (iV (nZ (c.tn.set c.at_ (c.tn.getD c.at_ 0+1)))))):=λu o e z=>by rw[ae (ao e htnH)];exact old4 _ _ e z
    generalize upd H4 tn (.lst (iV (nZ (c.tn.set c.at_ (c.tn.getD c.at_ 0+1)))))=H5 at *;have ne:∀b∈MF a,b∉[tn]:=λb hb z=>ntn (by rw[<- Ku.mp z];exact hb)
    have ntd:∀{b:Addr} {o:HO},H4 b=some o->(∀xs,o≠.lst xs)->b∉[tn]:=λe ho z=>by
     rw[Ku.mp z,gt4] at e;cases e;exact ho _ rfl
    have M5:MS K C_Machine H5 a c.st:=⟨kt _ _ M4.om (ne _ (by unfold MF;simp)),kt _ _ M4.od (ntd M4.od (λxs z=>nomatch z)),kt _ _ M4.og (ntd M4.og (λxs z=>nomatch z)),kt _ _ M4.ot (ne _ (by unfold MF;simp)),kt _ _ M4.ob (ne _ (by unfold MF;simp)),M4.l8,M4.hh⟩
    obtain⟨qs,hqs,hqa⟩:=hp.kb old5;have hql:=hqa.1;have eq1:=Ka (show c.at_<qs.length by lia)
    generalize qs[c.at_]'_=ra at eq1;have ar:cL (qs.map V.ref) (c.at_:Int)=some (.ref ra):=b7 (by rw[Kp,eq1];rfl)
    have hra:=hqa.2 _ _ _ eq1 er;have rok:=ba _ (K1 hlt);generalize rs[c.at_]=r at *;rw[Ie] at hra;refine⟨a.m,a.dx,_,rfl,M5.om,vA (by decide +kernel) (by decide +kernel) (by decide +kernel) (by decide +kernel),?_⟩
    exists aL hqs,ar,Kc,hql;refine⟨a,c.st,ra,r.m _,_,_,rfl,M5,hra,Jf rok _,by lia,λH6 M6 k6=>?_⟩
    rw[xh];have tle:=uy c.st (r.m (((aQ r).getD 0:Nat):Int));rw[jU _ _ _ 0] at M6 tle;refine⟨most-(n+1),by lia,n+1,mL rs c r,by lia,rfl,hrun.trans nx,?_,AF hlt rok,by show (c.tn.set _ _).length=_;rw[Ld];exact htl2,M6,keepH old5 k6,k6 _ _ gt5 ntn,rfl,rfl⟩
    show (carry c.st (r.m 0)).2.told.length<=n+1;lia
   ·rw[Ki c2];refine fin ?_;rw[hrun,show most-n=0 by lia];rfl
  ·rw[Ki c1];refine fin ?_;rw[hrun]
   cases hz:most-n with
   |zero=>rfl
   |succ z=>rw[bM,NC (show rs.length<=c.at_ by lia)]
noncomputable def cnt(sp:List Nat):Nat->List Nat->Int
 |_,[]=>0
 |k,t::ts=>(t:Int)*(((sp.getD (k+1) 0:Nat):Int)-((sp.getD k 0:Nat):Int))+cnt sp (k+1) ts
theorem uM(sp:List Nat):∀(ts:List Nat) (k i:Nat),i<ts.length->cnt sp k (ts.set i (ts.getD i 0+1))=cnt sp k ts+((sp.getD (k+i+1) 0:Nat):Int)-((sp.getD (k+i) 0:Nat):Int)
 |[],_,_,h=>absurd h (MG _)
 |t::ts,k,0,_=>by
  show ((t+1:Nat):Int)*_+_=(t:Int)*_+_+_-_;rw[Nat.add_zero,show ((t+1:Nat):Int)=(t:Int)+1 from rfl,Int.add_mul,Int.one_mul];lia
 |t::ts,k,i+1,h=>by
  show (t:Int)*_+cnt sp (k+1) (ts.set i (ts.getD i 0+1))=(t:Int)*_+cnt sp (k+1) ts+_-_;rw[uM sp ts (k+1) i (by simpa using h),show k+1+i=k+(i+1) by lia]
  lia
theorem pw(sp:List Nat):∀(n k:Nat),cnt sp k (List.replicate n 0)=0
 |0,_=>rfl
 |n+1,k=>by rw[KW,cnt,pw sp n (k+1)];simp
structure Sd (rs:List Row) (sp z:List Nat) (c:RS) (d:BS):Prop where
 le:c.at_<=rs.length
 tl:c.tn.length=rs.length
 st:d.st=c.st
 at_:d.at_=o_ rs sp z c.at_
 rd:d.rd=cnt sp 0 c.tn
theorem oE{cd:List (List (List Nat))}{rs:List Row}(L:Laid cd rs ws sp z):∀(m:Nat) (c:RS) (d:BS),Sd rs sp z c d->Sd rs sp z (bM rs m c) (d6 cd z m d)
 |0,_,_,h=>h
 |m+1,c,d,h=>by
  obtain⟨h1,h2,h3,h4,h5⟩:=h;by_cases hc:c.at_<rs.length
  ·have hst:=L.step [] (.inl rfl) (c:=d) hc (by rw[Lb];exact h4)
   rw[Lb] at hst;obtain⟨x,e1,e2,e3,e4⟩:=hst;rw[bM,d6,e1,Ka hc];refine oE L m _ _ ⟨AF hc (L.ok _ (K1 hc)),by show (c.tn.set _ _).length=_;rw[Ld];exact h2,by rw[e2,h3];rfl,by rw[e3,h3];rfl,?_⟩
   rw[e4,h5];show _=cnt sp 0 (c.tn.set c.at_ (c.tn.getD c.at_ 0+1));rw[uM sp c.tn 0 c.at_ (by lia),Ms]
  ·have n1:zd cd z d.at_=none:=by rw[h4];unfold o_;rw[Ki hc];exact Cg L.hR
   rw[bM,d6,n1,NC (show rs.length<=c.at_ by lia)]
   exact⟨h1,h2,h3,h4,h5⟩
theorem nX{cd:List (List (List Nat))}{rs:List Row}(L:Laid cd rs ws sp z)(g:List Int):Sd rs sp z (uw rs g) (Fs g):=by
 refine⟨Kz _,Kw ..,rfl,?_,(pw sp rs.length 0).symm⟩;have e:=L.n_ [] (.inl rfl) (t:=0) (Kz _) (.inl rfl);rw[Lb] at e;show (0:Int)=o_ rs sp z 0;rw[e,L.oM];obtain⟨l,e⟩:=nM 0 (jA cd rs) (rs.map aQ) ws;rw[e];rfl
theorem wk{cd:List (List (List Nat))}{rs:List Row}(L:Laid cd rs ws sp z){c:RS}{d:BS}(h:Sd rs sp z c d):qd cd z d=jH rs c:=by
 have e:=Cs L [] (c:=d) h.le (by rw[Lb];exact h.at_)
 rw[Lb] at e;rw[e];unfold jH;by_cases hc:c.at_<rs.length
 ·rw[Kj hc,Ki (by lia)]
 ·rw[Ki hc,Kj (by have:=h.le;lia)]
theorem tQ{rs:List Row}:∀(m:Nat) (c:RS),c.tn.length=rs.length->∃j,j<=m/\(bM rs m c).tn.sum=c.tn.sum+j/\bM rs j c=bM rs m c
 |0,c,_=>⟨0,Kk _,rfl,rfl⟩
 |m+1,c,h=>by
  cases e:rs[c.at_]? with
  |none=>exact⟨0,Kz _,by rw[bM,e];rfl,by rw[bM,bM,e]⟩
  |some r =>
   have hlt:=(Kf.mp e).1;obtain⟨j,h1,h2,h3⟩:=tQ (rs:=rs) m (mL rs c r) (by show (c.tn.set _ _).length=_;rw[Ld];exact h)
   have es:(mL rs c r).tn.sum=c.tn.sum+1:=vp (Ka (show c.at_<c.tn.length by lia))
   refine⟨j+1,by lia,?_,?_⟩
   ·rw[bM,e];show (bM rs m (mL rs c r)).tn.sum=_;rw[h2,es];lia
   ·rw[bM,bM,e];exact h3
theorem Bg{cd:List (List (List Nat))}{rs:List Row}(L:Laid cd rs ws sp z)(g:List Int)(most:Nat):wu cd z (d6 cd z most (Fs g))=⟨jH rs (bM rs most (uw rs g)),(bM rs most (uw rs g)).st.told,cnt sp 0 (bM rs most (uw rs g)).tn,(bM rs most (uw rs g)).st.bs⟩/\wu cd z (d6 cd z (bM rs most (uw rs g)).tn.sum (Fs g))=wu cd z (d6 cd z most (Fs g))/\(bM rs most (uw rs g)).tn.sum<=most:=by
 have s1:=oE L most _ _ (nX L g);have e1:∀{c:RS} {d:BS},Sd rs sp z c d->wu cd z d=⟨jH rs c,c.st.told,cnt sp 0 c.tn,c.st.bs⟩:=λh=>by unfold wu;rw[wk L h,h.st,h.rd]
 obtain⟨j,h1,h2,h3⟩:=tQ most (uw rs g) (Kw ..);have h2':(bM rs most (uw rs g)).tn.sum=j:=by
  rw[h2];show (List.replicate rs.length 0).sum+j=j;rw[MN];lia
 rw[h2'];have s2:=oE L j _ _ (nX L g);rw[h3] at s2;exact⟨e1 s1,by rw[e1 s1,e1 s2],h1⟩
theorem GO{X:Cx}{tk:Nat}{tp:Pos}{e1 e2 e3:Expr}{ta:TA}{p pos:Pos}(K:PJ)(hK:X.K=K)(hg:Gl X "zip")(hm:X.mg "zip"=none)(ha:QA X [e1,e2,e3] ta)(h1:autoParam (eX e1=true) ℜ0)(h2:autoParam (eX e2=true) ℜ0)(h3:autoParam (eX e3=true) ℜ0):QI X (.Tuple es tk tp) (.Call (.Name "zip" p) [e1,e2,e3] [] pos) (zN K ta):=by
 subst hK;exact⟨CT hg hm ha.h h1 h2 h3⟩
theorem zv(K:PJ)(ta:TA)(σ:L2.St)(H:Hp)(R:It->Hp->Prop):L2.zN K ta σ H R=ta σ H λvs H1=>∃p q r:Bool×Addr,vs=[V.ref p.2,V.ref q.2,V.ref r.2]/\(∃xs,iI K p.1 H1 p.2 xs)/\(∃ys,iI K q.1 H1 q.2 ys)/\(∃zs,iI K r.1 H1 r.2 zs)/\∀n,R (B7 K (fE n [p,q,r])) H1:=rfl
theorem rf{b c:Addr}{zs:List V}{n:Nat}(hxy:xs.length=ys.length)(hxz:xs.length<=zs.length)(hn:xs.length<=sizeLine)(Pv:Addr->Nat->List V->Hp->Prop)(h0:∀D,H D=none->Pv D 0 [] (upd H D (.lst [])))(hD:∀D i ws H',Pv D i ws H'->H' D=some (.lst ws)/\ws.length=i)
  (hl:∀D i ws H',Pv D i ws H'->aY K H' a xs/\aY K H' b ys/\bB K H' c zs)
  (hs:∀D i ws H' x y z p (R:VK),xs[i]?=some x->ys[i]?=some y->zs[i]?=some z->Pv D i ws H'->H' p=none->(∀v H5,H5 D=some (.lst ws)->Pv D (i+1) (ws++[v]) (upd H5 D (.lst (ws++[v])))->R v H5)->te (some x::some y::some z::σ) (upd H' p (.tup [x,y,z])) R) (hd:∀D ws H',Pv D xs.length ws H'->Q (.ref D) H') :
  j5 (B7 K (fE n [(false,a),(false,b),(true,c)])) 3 (ma K 3 (dX (bp 0) (dX (bp 1) (dX (bp 2) lU)))) dW te Q σ H:=by
 intro D hD0;refine⟨λi m ws σ' H'=>m=xs.length-i/\i<=xs.length/\Pv D i ws H'/\∃o1 o2 o3,σ'=o1::o2::o3::σ,⟨xs.length,by simp,Kz _,h0 D hD0,none,none,none,rfl⟩,?_⟩
 rintro i m ws σ' H' ⟨rfl,hi,p,o1,o2,o3,rfl⟩;obtain⟨hDi,hly⟩:=hD _ _ _ _ p;obtain⟨q1,q2,q3⟩:=hl _ _ _ _ p;have q1':iI K false H' a xs:=q1;have q2':iI K false H' b ys:=q2;have q3':iI K true H' c zs:=q3;refine⟨hDi,?_⟩;by_cases hlt:i<xs.length
 ·have hl2:i<ys.length:=by lia
  have hl3:i<zs.length:=by lia
  refine .inr ⟨⟨[xs[i],ys[i],zs[i]],.cons ⟨xs,q1',by simp[hlt]⟩ (.cons ⟨ys,q2',by simp[hl2]⟩ (.cons ⟨zs,q3',by simp[hl3]⟩ .nil))⟩,by lia,λx H2 y=>?_⟩
  obtain⟨c',vs,pr,fr,rfl,rfl⟩:=y;obtain⟨v1,vs,rfl,e1,pr⟩:=Paired.fe pr;obtain⟨v2,vs,rfl,e2,pr⟩:=Paired.fe pr;obtain⟨v3,vs,rfl,e3,pr⟩:=Paired.fe pr;cases pr;refine⟨c',_,rfl,aY.of aa,rfl,_,_,rfl,_,_,rfl,_,_,rfl,rfl,?_⟩;unfold dW;dsimp only;rw[if_pos rfl];exact hs D i ws H' v1 v2 v3 c' _ (e1 xs q1') (e2 ys q2') (e3 zs q3') p fr λv H5 g1 g2=>⟨g1,xs.length-(i+1),by lia,rfl,hlt,g2,_,_,_,rfl⟩
 ·have e:i=xs.length:=by lia
  subst e;exact .inl ⟨⟨[],(false,n,a),_,[],rfl,.nil,xs,q1',rfl⟩,hd D ws H' p⟩
theorem C4(bk:List (List Int))(rs:List Row):e9 (jb bk rs):=by
 have go:∀{cd:List (List (List Nat))} (_:∀ws∈cd,∀w∈ws,e9 w) (sp:List Nat) (rs:List Row) (ws:List Nat) (k:Nat),e9 (oI cd sp k rs ws):=λ{cd} h sp rs=>by
  induction rs with
  |nil=>exactλws k c hc=>by unfold oI at hc;cases hc
  |cons r rs ih =>
   intro ws k
   cases ws with
   |nil=>exactλc hc=>by unfold oI at hc;cases hc
   |cons w ws =>
    rw[oI];refine e9.app (e9.app (yx h r) ?_) (ih ws (k+1))
    cases aQ r with
    |none=>exactλc hc=>by cases hc
    |some t =>
     refine e9.app ?_ (iw _ _ _ λc hc=>by cases hc)
     match w with
     |0=>exactλc hc=>.inl (Ku.mp hc)
     |1=>exactλc hc=>by simp[dD] at hc;exact hc.symm
     |_+2=>exactλc hc=>by simp[dD] at hc;exact .inr hc
 exact go (Ep bk) _ _ _ _
theorem vi(h:H a=some (.tup xs))(q:∀p G,KB [] H G->G p=some (.tup (eC xs lo hi))->Q (.ref p) G):Y.Cu K (.ref a) lo hi H Q:=Cj h (λe=>q a H (KB.refl _ _) (by rw[e];exact h)) (λp hp=>q p _ (KB.new hp) aa)
noncomputable def jx(sp:List Nat):Nat->List Nat->List Int
 |_,[]=>[]
 |k,t::ts=>(t:Int)*(((sp.getD (k+1) 0:Nat):Int)-((sp.getD k 0:Nat):Int))::jx sp (k+1) ts
theorem mT(sp:List Nat):∀(ts:List Nat) (k:Nat),(jx sp k ts).sum=cnt sp k ts
 |[],_=>rfl
 |t::ts,k=>by rw[jx,M8,mT sp ts (k+1)];rfl
theorem jq(sp:List Nat):∀(ts:List Nat) (k:Nat),(jx sp k ts).length=ts.length
 |[],_=>rfl
 |t::ts,k=>by rw[jx,Kq,jq sp ts (k+1)];rfl
theorem pX(sp:List Nat):∀(ts:List Nat) (k i t:Nat),ts[i]?=some t->(jx sp k ts)[i]?=some ((t:Int)*(((sp.getD (k+i+1) 0:Nat):Int)-((sp.getD (k+i) 0:Nat):Int)))
 |[],_,_,_,h=>by cases h
 |t::ts,k,0,t',h=>by cases h;rfl
 |t::ts,k,i+1,t',h=>by
  rw[jx,Lg,pX sp ts (k+1) i t' (by simpa using h),show k+1+i=k+(i+1) by lia]
theorem my(xs:List V):eC xs (some 1) none=xs.drop 1:=by
 unfold eC;rw[HT.fD,show (some (1:Int))=some ((1:Nat):Int) from rfl,HT.fM];rcases Lh 0 xs.length with h|h
 ·rw[NR h,La (by rw[KP];exact Kk _)]
 ·have:xs=[]:=Mc.mp (by lia)
  subst this;rfl
theorem Bb{n:Nat}(hl:sp.length=n+1)(h:i<n):((nZ sp).dropLast.drop 1++[((sp.getD n 0:Nat):Int)])[i]?=some ((sp.getD (i+1) 0:Nat):Int)/\(nZ sp).dropLast[i]?=some ((sp.getD i 0:Nat):Int):=by
 have at':∀{j:Nat},j<n->(nZ sp).dropLast[j]?=some ((sp.getD j 0:Nat):Int):=λ{j} hj=>by
  rw[ND,Nj (by rw[bj];lia)]
  unfold nZ;rw[Kp,Ka (show j<sp.length by lia),Kt,Ka (show j<sp.length by lia)];rfl
 refine⟨?_,at' h⟩;have ld:((nZ sp).dropLast.drop 1).length=n-1:=by rw[KP,LZ,bj,hl];lia
 rcases Lh i (n-1) with c|c
 ·rw[KC (by lia),Ly,PF 1 i]
  exact at' (by lia)
 ·have:i=n-1:=by lia
  rw[K4 (by lia),ld,this,L8]
  show some _=some _;rw[show n-1+1=n by lia]
theorem Ef(l:List Nat):(nZ l).sum=((l.sum:Nat):Int):=by
 induction l with
 |nil=>rfl
 |cons x l ih =>
  show (x:Int)+(nZ l).sum=_;rw[ih,M8];rfl
noncomputable def mq:Sp:=λvs H Q _=>∃(a b gv:Addr) (bk:List (List Int)) (rs:List Row) (g:List Int) (most:Nat),vs=[.ref a,.ref b,.ref gv,.int (most:Nat)]/\vJ H a rs/\vG H b bk/\Bk bk/\H gv=some (.tup (iV g))/\rs.length<=64/\(∀r∈rs,r.Ok rs.length)/\most<=1000/\∀H',KB [] H H'->Q (.bl true) H'
theorem sJ(T:Txt K mg)(F:HasFn K mg "_law_right" dm ["program","book","given","most"])(hrun_rows:au P w K mg base aZ 7 "run_rows" ["program","given","most"] (zW K))(hpack_rows:au P w K mg base aZ 7 "pack_rows" ["program","book"] tG)(hrun_bits:au P w K mg base aZ 7 "run_bits" ["bits","book","given","most"] (za K)):au P w K mg base aZ 8 "_law_right" ["program","book","given","most"] mq:=by
 refine F.fL bw (λvs H Q E h=>?_) (λf cdv A outer s H vs Q E hr h=>?_)
 ·obtain⟨a,b,gv,bk,rs,g,most,rfl,_⟩:=h;rfl
 ·have hu:=aS hr;obtain⟨a,b,gv,bk,rs,g,most,rfl,hp,hb,hB,hg,hl,ba,hm,q⟩:=h;have L:=uO hB hl ba;have hR:=(qc hB).1;have r36:=Bg L g most;refine⟨_,(Z.aq (Z.asg (Z.fn hrun_rows (hr.mono (by decide)) rfl az (Z.cons (Z.v 0) (Z.cons (Z.v 2) (Z.cons (Z.v 3) Z.nil)))) (Z.jc (n:=4) K rfl rfl (Z.bz (Z.aO (i:=4) bw.nd rfl (by right)) (Z.bz (Z.aO (i:=5) bw.nd rfl (by right)) (Z.bz (Z.aO (i:=6) bw.nd rfl (by right)) (Z.bz (Z.aO (i:=7) bw.nd rfl (by right)) Z.fA))))))
   (Z.aq (Z.asg (Z.fn hpack_rows (hr.mono (by decide)) rfl az (Z.cons (Z.v 0) (Z.cons (Z.v 1) Z.nil))) (Z.jc (n:=2) K rfl rfl (Z.bz (Z.aO (i:=8) bw.nd rfl (by right)) (Z.bz (Z.aO (i:=9) bw.nd rfl (by right)) Z.fA))))
   (Z.aq (Z.set (i:=10) bw.nd rfl (by right) (Z.op (Z.bf K rfl) (Z.ct (Z.EW K rfl) rfl T.sh (by decide +kernel) (Z.cons (Z.slice (Y.FR K rfl) (Z.v 9) (Z.xc Z.int) Z.Cb) Z.nil)) (Z.lst (Z.cons (Z.cb (Z.c_ K rfl) rfl T.cU (by decide +kernel) (Z.cons (Z.v 8) Z.nil)) Z.nil))))
   (Z.aq (Z.set (i:=11) bw.nd rfl (by right) (Z.cb (Z.DW K rfl rfl) rfl T.Av (by decide +kernel) (Z.cons (Z.comp (osc:=af dm) (ON:=["program","book","given","most","how","told","turns","boxes","bits","spots","ends","count","found"]) (own:=["turn","begin","end"]) (N:=["turn","begin","end","program","book","given","most","how","told","turns","boxes","bits","spots","ends","count","found"]) ⟨rfl,by decide +kernel,rfl,by decide +kernel,by decide +kernel,by decide +kernel,by decide +kernel,by decide +kernel⟩ rfl rfl rfl (GO K rfl rfl T.oY (Z.cons (Z.v 6) (Z.cons (Z.v 9) (Z.cons (Z.v 10) Z.nil)))) (λ_ _ _ _=>(Z.jc (n:=3) K rfl rfl (Z.bz (Z.aO (i:=0) (show List.Nodup (["turn","begin","end","program","book","given","most","how","told","turns","boxes","bits","spots","ends","count","found"]:List Str) by decide +kernel) rfl (by right)) (Z.bz (Z.aO (i:=1) (show List.Nodup (["turn","begin","end","program","book","given","most","how","told","turns","boxes","bits","spots","ends","count","found"]:List Str) by decide +kernel) rfl (by right)) (Z.bz (Z.aO (i:=2) (show List.Nodup (["turn","begin","end","program","book","given","most","how","told","turns","boxes","bits","spots","ends","count","found"]:List Str) by decide +kernel) rfl (by right)) Z.fA))))) (λ_ _ _ _=>Z.lV) (λ_ _ _ _=>(Z.op cK (Z.v 0) (Z.op cW (Z.v 2) (Z.v 1))))) Z.nil)))
   (Z.aq (Z.eF (Z.bu (Y.FU K rfl (rZ hr)) (Z.fn hrun_bits (hr.mono (by decide)) rfl az (Z.cons (Z.v 8) (Z.cons (Z.v 1) (Z.cons (Z.v 2) (Z.cons (Z.v 3) Z.nil))))) (Z.tup (Z.cons (Z.v 4) (Z.cons (Z.v 5) (Z.cons (Z.v 11) (Z.cons (Z.v 7) Z.nil)))))) (Z.aA (Z.ret Z.bl)) Z.bU)
   (Z.aq (Z.set (i:=12) bw.nd rfl (by right) (Z.fn hrun_bits (hr.mono (by decide)) rfl az (Z.cons (Z.v 8) (Z.cons (Z.v 1) (Z.cons (Z.v 2) (Z.cons (Z.cb (Y.w8 K rfl rfl) rfl T.Av (by decide +kernel) (Z.cons (Z.v 6) Z.nil)) Z.nil))))))
   (Z.aA (Z.ret (Z.and (Z.cmp (Y.xR K rfl (rZ hr)) (Z.slice (Y.FR K rfl) (Z.v 12) (Z.xc Z.int) Z.Cb) (Z.tup (Z.cons (Z.v 5) (Z.cons (Z.v 11) (Z.cons (Z.v 7) Z.nil))))) (Z.one (Z.cmp (Y.xR K rfl (rZ hr)) (Z.ix (Z.aP K rfl hu) (Z.v 12) Z.int) (Z.v 4)))))))))))),?_⟩
  refine ax λN hN=>?_;walk_at "rz";refine⟨a,gv,rs,g,most,rfl,hp,hg,hl,ba,by lia,λv1 H1 k1 o1=>?_⟩
  have tl:(bM rs most (uw rs g)).tn.length=rs.length:=(oE L most _ _ (nX L g)).tl;generalize bM rs most (uw rs g)=c at *;obtain⟨t1,p1,p2,p3,rfl,a1,a2,a3,a4⟩:=o1;unfold bp;refine⟨t1,_,rfl,aY.of a1,rfl,_,_,rfl,_,_,rfl,_,_,rfl,_,_,rfl,rfl,?_⟩;rw[hN];clear hN N;refine ax λN hN=>?_;walk_at "rz";refine⟨a,b,bk,rs,rfl,hp.kb k1,hb.kb k1,hB,hl,ba,λt2 sa H2 k2 e1 e2=>?_⟩;refine⟨t2,_,rfl,aY.of e1,rfl,_,_,rfl,_,_,rfl,rfl,?_⟩;rw[hN];clear hN N;have k02:=k1.trans k2;have zl:=L.JW;have ezl:=L.last;have spl:=L.sl;have bnz:e9 (jb bk rs):=C4 bk rs;generalize jb bk rs=z at *;generalize vL bk rs=sp at *;generalize eW:fT bk=cd at *;refine ax λN hN=>?_;walk_at "rz";refine vi e2 λs1 G kG g1=>?_;rw[my,show (iV (nZ sp).dropLast).drop 1=iV ((nZ sp).dropLast.drop 1) from PB.symm] at g1;refine⟨s1,_,rfl,.inr (aY.of g1),λl hl'=>?_⟩;have kl:=KB.new (ex:=[]) (o:=.lst (iV ((nZ sp).dropLast.drop 1))) hl';have sl':upd G l (.lst (iV ((nZ sp).dropLast.drop 1))) l=_:=aa;generalize upd G l (.lst (iV ((nZ sp).dropLast.drop 1)))=G2 at *;rw[bA];refine⟨Kn (show _<=20000 by lia) (by decide),by decide,λl2 hl2=>?_⟩
  have kl2:=KB.new (ex:=[]) (o:=.lst [.int (z.length:Nat)]) hl2;have sl2':upd G2 l2 (.lst [.int (z.length:Nat)]) l=some (.lst (iV ((nZ sp).dropLast.drop 1))):=by rw[ae (ao sl' hl2)];exact sl'
  rw[sl2'];refine⟨Kn (show _<=100 by rw[aR,KP,LZ,bj];simp;lia) (by decide),λea hea=>?_⟩
  have kea:=KB.new (ex:=[]) (o:=.lst (iV ((nZ sp).dropLast.drop 1)++[.int (z.length:Nat)])) hea;have gea:upd (upd G2 l2 (.lst [.int (z.length:Nat)])) ea (.lst (iV ((nZ sp).dropLast.drop 1)++[.int (z.length:Nat)])) ea=some (.lst (iV ((nZ sp).dropLast.drop 1++[((sp.getD rs.length 0:Nat):Int)]))):=by rw[aa,ezl,fO];rfl
  have k24:KB [] H2 (upd (upd G2 l2 (.lst [.int (z.length:Nat)])) ea (.lst (iV ((nZ sp).dropLast.drop 1)++[.int (z.length:Nat)]))):=kG.trans (kl.trans (kl2.trans kea));generalize upd (upd G2 l2 (.lst [.int (z.length:Nat)])) ea (.lst (iV ((nZ sp).dropLast.drop 1)++[.int (z.length:Nat)]))=H3 at *;clear kG g1 hl' kl sl' hl2 kl2 sl2' hea kea;have k03:=k02.trans k24;have k13:=k2.trans k24;rw[hN];clear hN N;obtain⟨r1,r2,r3⟩:=r36;refine ax λN hN=>?_;exists zv;refine⟨(false,p2),(false,sa),(true,ea),⟨rfl,rfl,rfl⟩,⟨_,aY.of (k13 _ _ a3 (by simp))⟩,⟨_,aY.of (k24 _ _ e2 (by simp))⟩,⟨_,bB.of gea⟩,λn=>?_⟩
  refine rf (xs:=iV (nZ c.tn)) (ys:=iV (nZ sp).dropLast) (zs:=iV ((nZ sp).dropLast.drop 1++[((sp.getD rs.length 0:Nat):Int)])) (by rw[aR,aR,bj,LZ,bj];lia) (by rw[aR,aR,bj,Ke,KP,LZ,bj];simp;lia) (Kn (show _<=64 by rw[aR,bj];lia) (by decide)) (λD i ws H'=>H3 D=none/\H' D=some (.lst ws)/\KB [] H3 H'/\i<=rs.length/\ws=iV ((jx sp 0 c.tn).take i)) (λD hD=>⟨hD,aa,KB.new hD,Kz _,rfl⟩) (λD i ws H' h=>⟨h.2.1,by rw[h.2.2.2.2,aR,K8,jq];have:=h.2.2.2.1;lia⟩) (λD i ws H' h=>⟨aY.of (h.2.2.1 _ _ (k13 _ _ a3 (by simp)) (by simp)),aY.of (h.2.2.1 _ _ (k24 _ _ e2 (by simp)) (by simp)),bB.of (h.2.2.1 _ _ gea (by simp))⟩) ?_ ?_
  ·rintro D i ws H' x y z' p R hx hy hz ⟨g0,g1,gk,hi,rfl⟩ hp' kk;obtain⟨hlt,rfl⟩:=iu hx;rw[bj] at hlt;have hin:i<rs.length:=by lia
   obtain⟨q1,q2⟩:=Bb spl hin;obtain⟨hy',rfl⟩:=iu hy;obtain⟨hz',rfl⟩:=iu hz;have kz:=KB.new (ex:=[]) (o:=.tup [V.int (nZ c.tn)[i],V.int ((nZ sp).dropLast[i]),V.int (((nZ sp).dropLast.drop 1++[((sp.getD rs.length 0:Nat):Int)])[i])]) hp';have v1:(nZ c.tn)[i]'(by rw[bj];lia)=((c.tn[i]'hlt:Nat):Int):=by unfold nZ;rw[List.getElem_map]
   have w1:=Option.some.inj ((Ka hz').symm.trans q1);have w2:=Option.some.inj ((Ka hy').symm.trans q2);rw[w1,w2,v1] at kz ⊢;have et:=pX sp c.tn 0 i _ (Ka hlt);rw[Ms] at et;have b1:=(L.at i (by lia)).2
   have b2:=(L.at (i+1) (by lia)).2
   walk_at "rz";refine⟨.inr ⟨by lia,by lia⟩,kk _ _ (kz _ _ g1 (by simp)) ⟨g0,aa,λu o e _=>by rw[ae (ao e g0)];exact kz _ _ (gk _ _ e (by simp)) (by simp),hin,?_⟩⟩
   rw[L9,et,fO];rfl
  rintro D ws H4 ⟨_,gD,k4,_,rfl⟩;rw[aR,bj,tl] at gD;rw[La (by rw[jq,tl];exact Kk _)] at gD
  refine⟨D,_,rfl,bB.of gD,?_⟩;rw[mT];rw[hN];clear hN N;have k04:=k03.trans k4;have k14:=k13.trans k4;have a24:=k14 _ _ a2 (by simp)
  have a34:=k14 _ _ a3 (by simp)
  have a44:=k14 _ _ a4 (by simp)
  clear gea e2 e1 gD;refine ax λN hN=>?_;refine Et λA B hA hB'=>?_;walk_at "rz";refine⟨b,gv,bk,z,g,most,rfl,hb.kb k04,k04 _ _ hg (by simp),hB,by rw[eW];exact hR,bnz,by lia,by lia,λv5 H5 k5 o5=>?_⟩
  refine⟨by decide,λt5 ht5=>.inr ?_⟩
  have kt5:=KB.new (ex:=[]) (o:=.tup [.str (jH rs c),.ref p1,.int (cnt sp 0 c.tn),.ref p3]) ht5;have st5:upd H5 t5 (.tup [.str (jH rs c),.ref p1,.int (cnt sp 0 c.tn),.ref p3]) t5=_:=aa;generalize upd H5 t5 (.tup [.str (jH rs c),.ref p1,.int (cnt sp 0 c.tn),.ref p3])=H6 at *;have k46:=k5.trans kt5;have tl5:AU H6 v5 ⟨jH rs c,c.st.told,cnt sp 0 c.tn,c.st.bs⟩:=by
   have:=o5.tl.kb kt5;rw[eW,r1] at this;exact this
  refine IE (neg:=true) tl5 ⟨t5,p1,p3,rfl,st5,k46 _ _ a24 (by simp),k46 _ _ a44 (by simp)⟩ ⟨false,rfl,?_⟩
  rw[Ki Kx,hB'];show N _ _;rw[hN];clear hN N hA hB' A B;have k06:=k04.trans k46;refine ax λN hN=>?_;walk_at "rz";refine⟨p2,nZ c.tn,rfl,.inr (aY.of (k46 _ _ a34 (by simp))),?_⟩
  rw[Ef];refine⟨b,gv,bk,z,g,c.tn.sum,rfl,hb.kb k06,k06 _ _ hg (by simp),hB,by rw[eW];exact hR,bnz,by lia,by lia,λv7 H7 k7 o7=>?_⟩
  have t7:=o7.tl;rw[eW,r2,r1] at t7;rw[hN];clear hN N;obtain⟨u7,q1,q2,rfl,b1,b2,b3⟩:=t7;dsimp only at b1 b2 b3;walk_at "rz";refine vi b1 λs1 G kG g1=>?_;rw[my] at g1;refine⟨by decide,λt8 ht8=>.inr ?_⟩
  have kt8:=KB.new (ex:=[]) (o:=.tup [.ref p1,.int (cnt sp 0 c.tn),.ref p3]) ht8;have st8:upd G t8 (.tup [.ref p1,.int (cnt sp 0 c.tn),.ref p3]) t8=_:=aa;generalize upd G t8 (.tup [.ref p1,.int (cnt sp 0 c.tn),.ref p3])=H8 at *;have k78:=kG.trans kt8;have k48:=k46.trans (k7.trans k78);have g18:H8 s1=some (.tup [.ref q1,.int (cnt sp 0 c.tn),.ref q2]):=kt8 _ _ g1 (by simp)
  refine uX (neg:=false) g18 st8 (xs:=[.tup (c.st.told.map L2.T.int),.int (cnt sp 0 c.tn),.tup (c.st.bs.map L2.T.int)]) (.cons (fb (k78 _ _ b2 (by simp))) (.cons (.int _) (.cons (fb (k78 _ _ b3 (by simp))) .nil))) (.cons (fb (k48 _ _ a24 (by simp))) (.cons (.int _) (.cons (fb (k48 _ _ a44 (by simp))) .nil))) (λy hy=>?_) ?_
  ·simp only[Kl,K7,Lp] at hy;rcases hy with rfl|rfl|rfl
   ·exact iH _ _
   ·exact ng _ _
   ·exact iH _ _
  refine⟨true,rfl,?_⟩;rw[Kj rfl];exists aL (k78 _ _ b1 (by simp)),BQ
  refine .inl (.inl ?_);simp only[L2.Ap.BF];rw[KG trivial];exact q _ (k06.trans (k7.trans k78))
noncomputable def uY:Sp:=λvs H Q _=>∃(p dq:Addr) (n:Nat),vs=[.ref p]/\bP H p dq n/\n<2^38/\∀(g:List Int) (a:Addr) H',g.length<=40->H' a=some (.tup (iV g))->bP H' p dq (n+100)->KB [p,dq] H H'->Q (.ref a) H'
theorem A2(T:Txt K mg)(F:HasFn K mg "_law_given" dY ["deck"])(h_law_draw:au P w K mg base aZ 2 "_law_draw" ["deck","most"] ft):au P w K mg base aZ 3 "_law_given" ["deck"] uY:=by
 refine F.fL dF (λvs H Q E h=>?_) (λf cdv A outer s H vs Q E hr h=>?_)
 ·obtain⟨p,dq,n,rfl,_⟩:=h;rfl
 ·have hu:=aS hr;obtain⟨p,dq,n,rfl,hd,hn,q⟩:=h;refine⟨_,(Z.aq (Z.set (i:=1) dF.nd rfl (by right) (Z.lst Z.nil))
   (Z.aq (Z.hV KR rfl (Z.xl rfl T.e_ (Z.cons (Z.fn h_law_draw (hr.mono (by decide)) rfl az (Z.cons (Z.v 0) (Z.cons (Z.ix (Z.aP K rfl hu) (Z.lst (Z.consts rfl)) (Z.ct m6 rfl T.ve (by decide +kernel) (Z.cons (Z.cmp b6 (Z.fn h_law_draw (hr.mono (by decide)) rfl az (Z.cons (Z.v 0) (Z.cons Z.int Z.nil))) Z.int) Z.nil))) Z.nil))) Z.nil)) (Z.aO (i:=2) dF.nd rfl (by right)) (Z.aq (Z.set (i:=3) dF.nd rfl (by right) (Z.fn h_law_draw (hr.mono (by decide)) rfl az (Z.cons (Z.v 0) (Z.cons (Z.op rK Z.int Z.int) Z.nil))))
   (Z.aA (Z.expr (Z.bm K rfl PySem.F.plainAttrs_list PySem.F.slot_list_append PySem.F.type_list_append cC (Z.v 1) (Z.cons (Z.ix (Z.aP K rfl hu) (Z.lst (Z.cons (Z.op cY (Z.v 3) Z.int) (Z.cons (Z.op cY (Z.v 3) Z.int) (Z.cons (Z.v 3) (Z.cons (Z.op cW Z.int (Z.v 3)) (Z.cons (Z.op (Z.bf K rfl) (Z.op cK (Z.v 3) (Z.op rK Z.int Z.int)) Z.int) Z.nil)))))) (Z.fn h_law_draw (hr.mono (by decide)) rfl az (Z.cons (Z.v 0) (Z.cons Z.int Z.nil)))) Z.nil))))))
   (Z.aA (Z.ret (Z.ct (Z.cc K rfl) rfl T.cg (by decide +kernel) (Z.cons (Z.v 1) Z.nil)))))),?_⟩
  refine ax λN hN=>?_;walk_at "rz";refine⟨by decide,λfd hfd=>?_⟩
  have k1:KB [] H (upd H fd (.lst [])):=KB.new hfd;have s1:upd H fd (.lst []) fd=some (.lst (iV [])):=aa;generalize upd H fd (.lst [])=H1 at *;have nf:=hd.new hfd;have fp:p≠fd:=λz=>nf (by simp[z])
  have fq:dq≠fd:=λz=>nf (by simp[z])
  rw[hN];clear hN N;refine ax λN hN=>?_;walk_at "rz";refine⟨by decide,λl hl=>?_⟩
  have k2:KB [] H1 (upd H1 l (.lst [.int 4,.int 41])):=KB.new hl;have s2:upd H1 l (.lst [.int 4,.int 41]) l=_:=aa;generalize upd H1 l (.lst [.int 4,.int 41])=H2 at *;have D2:=hd.kb (k1.trans k2);have nl:=(hd.kb k1).new hl;refine⟨p,dq,6,n,rfl,D2,by lia,by decide,by decide,λv1 H3 hv1 D3 k3=>?_⟩
  obtain⟨m,hm,em⟩:∃m:Int,(0<m/\m<=41)/\cL [V.int 4,.int 41] (if (v1:Int)=0 then 1 else 0)=some (.int m):=by
   by_cases c:(v1:Int)=0
   ·rw[Kj c];exact⟨41,by decide,rfl⟩
   ·rw[Ki c];exact⟨4,by decide,rfl⟩
  exists aI (k3 _ _ s2 nl),em;refine⟨p,dq,m,_,rfl,D3,by lia,hm.1,by lia,λv2 H4 hv2 D4 k4=>?_⟩
  have hk4:KB [p,dq] H H4:=k1.all.trans (k2.all.trans (k3.trans k4));have g4:=k4 _ _ (k3 _ _ (k2 _ _ s1 (by simp)) nf) nf
  walk_at "rz";refine⟨by lia,by lia,?_⟩
  rw[KN];refine eI (λi σ H'=>∃(g:List Int) (o2 o3:Option V),g.length=i/\bP H' p dq (n+2+2*i)/\KB [p,dq] H H'/\H' fd=some (.lst (iV g))/\σ=[some (.ref p),some (.ref fd),o2,o3]) ⟨[],none,none,rfl,D4,hk4,g4,rfl⟩ ?_ ?_
  ·rintro i σ H' hi ⟨g,o2,o3,hg,hD,hk,gf,rfl⟩;generalize (0:Int)+((i:Nat):Int)=kI;unfold bp;refine ax λM hM=>?_;walk_at "rz";have cp:w_ 10 7:=by unfold w_;decide
   have cp9:w_ 10 9:=by unfold w_;decide
   refine⟨cp,p,dq,10000000,_,rfl,hD,by lia,by decide,by decide,λu1 H5 hu1 D5 k5=>?_⟩
   have hk5:=hk.trans k5;have gf5:=k5 _ _ gf nf;rw[hM];clear hM M;dsimp only;refine qU λM hM=>?_;walk_at "rz";refine⟨.inl ⟨rfl,_,bB.of gf5⟩,by decide,by decide,cp9,.inl ⟨by lia,by lia⟩,by decide,λl6 hl6=>?_⟩
   have D6:=D5.kb (KB.new (o:=.lst [.int ((u1:Int) % 3),.int ((u1:Int) % 65537),.int (u1:Int),.int (0-(u1:Int)),.int ((u1:Int)*10^(9:Int).toNat+7)]) hl6);have k6:KB [] H5 (upd H5 l6 (.lst [.int ((u1:Int) % 3),.int ((u1:Int) % 65537),.int (u1:Int),.int (0-(u1:Int)),.int ((u1:Int)*10^(9:Int).toNat+7)])):=KB.new hl6;have s6:upd H5 l6 (.lst [.int ((u1:Int) % 3),.int ((u1:Int) % 65537),.int (u1:Int),.int (0-(u1:Int)),.int ((u1:Int)*10^(9:Int).toNat+7)]) l6=_:=aa;generalize upd H5 l6 (.lst [.int ((u1:Int) % 3),.int ((u1:Int) % 65537),.int (u1:Int),.int (0-(u1:Int)),.int ((u1:Int)*10^(9:Int).toNat+7)])=H6 at *;refine⟨p,dq,5,_,rfl,D6,by lia,by decide,by decide,λu2 H7 hu2 D7 k7=>?_⟩
   obtain⟨x,ex⟩:∃x:Int,cL [V.int ((u1:Int) % 3),.int ((u1:Int) % 65537),.int (u1:Int),.int (0-(u1:Int)),.int ((u1:Int)*10^(9:Int).toNat+7)] (u2:Int)=some (.int x):=by
    rcases (show u2=0\/u2=1\/u2=2\/u2=3\/u2=4 by lia) with rfl|rfl|rfl|rfl|rfl<;>exact⟨_,rfl⟩
   have n6:=D5.new hl6;have gf7:=k7 _ _ (k6 _ _ gf5 (by simp)) nf
   exists aI (k7 _ _ s6 n6),ex;refine⟨fd,_,_,rfl,rfl,gf7,Lm (show _<=1000 by rw[aR];lia) (by decide),?_⟩
   rw[hM];exact⟨g++[x],some _,some _,by rw[Ke,hg];rfl,(D7.keep (KB.set (ex:=[fd]) (by simp)) (by simpa using fp) (by simpa using fq)).mono (by lia),λb o e z=>by rw[ae (ao e hfd)];exact (hk5.trans (k6.all.trans k7)) b o e z,by rw[aa,fO];rfl,rfl⟩
  ·rintro σ H' ⟨g,o2,o3,hg,hD,hk,gf,rfl⟩;show N _ _;rw[hN];clear hN N;exists aI gf;exactλa ha=>q g a _ (by lia) aa ((hD.kb (KB.new ha)).mono (by lia)) (hk.trans (KB.new ha))
theorem Fn(T:Txt K mg)(F:lB K "law" "law" gF f fd)(h_law_deck:au P w K mg base aZ 1 "_law_deck" ["script"] (yP K))(h_law_program:au P w K mg base aZ 5 "_law_program" ["deck","most"] yV)(h_law_book:au P w K mg base aZ 4 "_law_book" ["deck"] (yC K))(hbook_of:au P w K mg base aZ 7 "book_of" ["program","counts"] p0)(h_law_given:au P w K mg base aZ 3 "_law_given" ["deck"] uY)(h_law_draw:au P w K mg base aZ 2 "_law_draw" ["deck","most"] ft)(h_law_right:au P w K mg base aZ 8 "_law_right" ["program","book","given","most"] mq):cP P w K mg base aZ 9 f fd ["script"] (pW K):=by
 refine BD F gC (λvs H Q E h=>?_) (λcdv A outer s H vs Q E hr h=>?_)
 ·obtain⟨a,ns,rfl,_⟩:=h;rfl
 ·obtain⟨a,ns,rfl,hS,hl,q⟩:=h;have hu:=aS hr;refine⟨_,(Z.aq (Z.set (i:=1) gC.nd rfl (by right) (Z.fn h_law_deck (hr.mono (by decide)) rfl az (Z.cons (Z.v 0) Z.nil)))
   (Z.aq (Z.hV KR rfl (Z.xl rfl T.e_ (Z.cons Z.int Z.nil)) (Z.aO (i:=2) gC.nd rfl (by right)) (Z.aq (Z.set (i:=3) gC.nd rfl (by right) (Z.fn h_law_program (hr.mono (by decide)) rfl az (Z.cons (Z.v 1) (Z.cons (Z.ix (Z.aP K rfl hu) (Z.lst (Z.consts rfl)) (Z.fn h_law_draw (hr.mono (by decide)) rfl az (Z.cons (Z.v 1) (Z.cons Z.int Z.nil)))) Z.nil))))
   (Z.aq (Z.set (i:=4) gC.nd rfl (by right) (Z.fn h_law_book (hr.mono (by decide)) rfl az (Z.cons (Z.v 1) Z.nil)))
   (Z.aq (Z.eF (Z.bu b6 (Z.fn h_law_draw (hr.mono (by decide)) rfl az (Z.cons (Z.v 1) (Z.cons Z.int Z.nil))) Z.int) (Z.aA (Z.set (i:=4) gC.nd rfl (by right) (Z.fn hbook_of (hr.mono (by decide)) rfl az (Z.cons (Z.v 3) (Z.cons (Z.ct (Z.cc K rfl) rfl T.cg (by decide +kernel) (Z.cons (Z.comp (osc:=af gF) (ON:=["script","deck","turn","program","book","given","most"]) (own:=["row"]) (N:=["row","script","deck","turn","program","book","given","most"]) ⟨rfl,by decide +kernel,rfl,by decide +kernel,by decide +kernel,by decide +kernel,by decide +kernel,by decide +kernel⟩ rfl rfl rfl (Z.any K rfl (Z.v 3)) (λ_ _ _ _=>(Z.aO (i:=0) (show List.Nodup (["row","script","deck","turn","program","book","given","most"]:List Str) by decide +kernel) rfl (by right))) (λ_ _ _ _=>Z.lV) (λ_ _ _ _=>(Z.fn h_law_draw (hr.mono (by decide)) rfl az (Z.cons (Z.v 2) (Z.cons Z.int Z.nil))))) Z.nil)) Z.nil))))) Z.bU)
   (Z.aq (Z.set (i:=5) gC.nd rfl (by right) (Z.fn h_law_given (hr.mono (by decide)) rfl az (Z.cons (Z.v 1) Z.nil)))
   (Z.aq (Z.set (i:=6) gC.nd rfl (by right) (Z.fn h_law_draw (hr.mono (by decide)) rfl az (Z.cons (Z.v 1) (Z.cons (Z.ix (Z.aP K rfl hu) (Z.lst (Z.consts rfl)) (Z.ct m6 rfl T.ve (by decide +kernel) (Z.cons (Z.cmp b6 (Z.fn h_law_draw (hr.mono (by decide)) rfl az (Z.cons (Z.v 1) (Z.cons Z.int Z.nil))) Z.int) Z.nil))) Z.nil))))
   (Z.aA (Z.eF (Z.Cp (Z.wI K rfl (Z.fn h_law_right (hr.mono (by decide)) rfl az (Z.cons (Z.v 3) (Z.cons (Z.v 4) (Z.cons (Z.v 5) (Z.cons (Z.v 6) Z.nil))))))) (Z.aA (Z.ret Z.bl)) Z.bU))))))))
   (Z.aA (Z.ret Z.bl)))),?_⟩
  refine ax λN hN=>?_;walk_at "rz";refine⟨a,ns,rfl,hS,λp dq H1 D1 k1=>?_⟩;rw[hN];clear hN N;refine ax λN hN=>?_;walk_at "rz";refine⟨by decide,by decide,?_⟩
  refine eI (n:=3) (λi σ H'=>∃s2 s3 s4 s5 s6:Option V,bP H' p dq (2000*i)/\σ=[some (.ref a),some (.ref p),s2,s3,s4,s5,s6]) ⟨none,none,none,none,none,D1,rfl⟩ ?_ ?_
  ·rintro i σ H' hi ⟨s2,s3,s4,s5,s6,hD,rfl⟩;generalize (0:Int)+((i:Nat):Int)=kI;unfold bp;refine ax λM hM=>?_;walk_at "rz";refine⟨by decide,λl hl=>?_⟩
   have k3:KB [] H' (upd H' l (.lst [.int 8,.int 8,.int 8,.int 60])):=KB.new hl;have s3':upd H' l (.lst [.int 8,.int 8,.int 8,.int 60]) l=_:=aa;generalize upd H' l (.lst [.int 8,.int 8,.int 8,.int 60])=H3 at *;have nl:=hD.new hl;refine⟨p,dq,4,_,rfl,hD.kb k3,by lia,by decide,by decide,λv1 H4 hv1 D4 k4=>?_⟩
   obtain⟨m,hm,em⟩:∃m:Nat,m<=60/\cL [V.int 8,.int 8,.int 8,.int 60] (v1:Int)=some (.int (m:Nat)):=by
    rcases (show v1=0\/v1=1\/v1=2\/v1=3 by lia) with rfl|rfl|rfl|rfl
    ·exact⟨8,by decide,rfl⟩
    ·exact⟨8,by decide,rfl⟩
    ·exact⟨8,by decide,rfl⟩
    ·exact⟨60,by decide,rfl⟩
   exists aI (k4 _ _ s3' nl),em;refine⟨p,dq,m,_,rfl,D4,by lia,by lia,λrs pa H5 hrl hrs hpa D5 k5=>?_⟩
   rw[hM];clear hM M;clear k3 k4 k5 s3' nl hl em D4 hD;refine ax λM hM=>?_;walk_at "rz";refine⟨p,dq,_,rfl,D5,by lia,λbk1 b1 H6 D6 k6 hb1 hB1=>?_⟩
   have hpa6:=hpa.keep k6 D5.nt;rw[hM];clear hM M;refine ax λM hM=>?_;have fin:∀(G:Hp) (b:Addr) (bk:List (List Int)),vJ G pa rs->vG G b bk->Bk bk->bP G p dq (2000*i+1000)->M [some (.ref a),some (.ref p),some (.int kI),some (.ref pa),some (.ref b),s5,s6] G:=λG b bk hpG hbG hB DG=>by
    rw[hM];clear hM M;refine ax λM hM=>?_;walk_at "rz";refine⟨p,dq,_,rfl,DG,by lia,λg ga G1 hgl hga D1 k1=>?_⟩
    have hp1:=hpG.keep k1 DG.nt;have hb1':=hbG.keep k1 DG.nt;rw[hM];clear hM M;refine ax λM hM=>?_;walk_at "rz";refine⟨by decide,λl hl=>?_⟩
    have k7:KB [] G1 (upd G1 l (.lst [.int 61,.int 401])):=KB.new hl;have s7':upd G1 l (.lst [.int 61,.int 401]) l=_:=aa;generalize upd G1 l (.lst [.int 61,.int 401])=G2 at *;have nl:=D1.new hl;refine⟨p,dq,6,_,rfl,D1.kb k7,by lia,by decide,by decide,λv2 G3 hv2 D3 k8=>?_⟩
    obtain⟨x,hx,ex⟩:∃x:Int,(0<x/\x<=401)/\cL [V.int 61,.int 401] (if (v2:Int)=0 then 1 else 0)=some (.int x):=by
     by_cases c:(v2:Int)=0
     ·rw[Kj c];exact⟨401,by decide,rfl⟩
     ·rw[Ki c];exact⟨61,by decide,rfl⟩
    exists aI (k8 _ _ s7' nl),ex;refine⟨p,dq,x,_,rfl,D3,by lia,hx.1,by lia,λmost G4 hmo D4 k9=>?_⟩
    have hp4:=((hp1.kb k7).keep k8 (D1.kb k7).nt).keep k9 D3.nt;have hb4:=((hb1'.kb k7).keep k8 (D1.kb k7).nt).keep k9 D3.nt;have hg4:=D3.tup k9 ((D1.kb k7).tup k8 (k7 _ _ hga (by simp)))
    rw[hM];clear hM M;dsimp only;refine qU λM hM=>?_;refine Et λA B hA hB'=>?_;walk_at "rz";refine⟨pa,b,ga,bk,rs,g,most,rfl,hp4,hb4,hB,hg4,by lia,hrs,by lia,λG5 k10=>?_⟩
    exists P9;rw[Ki (by decide),hB']
    show M _ _;rw[hM];exact⟨_,_,_,_,_,(D4.kb k10).mono (by lia),rfl⟩
   refine Et λA B hA hB'=>?_;walk_at "rz";refine⟨p,dq,2,_,rfl,D6,by lia,by decide,by decide,λv2 H7 hv2 D7 k7=>?_⟩
   have hpa7:=hpa6.keep k7 D6.nt;walk_at "rz";by_cases c:(v2:Int)=0
   ·rw[Kj c,hA];clear hA hB';obtain⟨as,ha,hpl,_⟩:=hpa7;exists aL ha;refine cq (xs:=as.map V.ref) (Kn (show _<=64 by rw[Kc];lia) (by decide)) (λD i' ys H'=>H7 D=none/\H' D=some (.lst ys)/\bP H' p dq (2000*i+600+i')/\KB [p,dq] H7 H'/\∃ks:List Nat,ys=iV (nZ ks)/\ks.length=i'/\i'<=rs.length/\∀k∈ks,k<=40) (λD hD=>⟨hD,aa,(D7.kb (KB.new hD)).mono (by lia),KB.new hD,[],rfl,rfl,Kz _,λw hw=>absurd hw K7⟩) (λD i' ys H' h=>⟨h.2.1,by obtain⟨_,_,_,_,ks,rfl,e,_⟩:=h;rw[aR,bj,e]⟩) (λD i' ys H' h=>aY.of (h.2.2.2.1 _ _ ha λz=>D7.nt _ z _ ha)) ?_ ?_
    ·rintro D i' ys H' x R hx ⟨g0,g1,gD,gk,ks,rfl,e1,e2,e3⟩ kk;have hlt:i'<rs.length:=by have:=(Kf.mp hx).1;rw[Kc] at this;lia
     have nD:=D7.new g0;have pD:p≠D:=λz=>nD (by simp[z])
     have qD:dq≠D:=λz=>nD (by simp[z])
     walk_at "rz";refine⟨p,dq,41,_,rfl,gD,by lia,by decide,by decide,λv G5 hv D5 k5=>?_⟩
     refine kk _ _ (k5 _ _ g1 nD) ⟨g0,aa,(D5.keep (KB.set (ex:=[D]) (by simp)) (by simpa using pD) (by simpa using qD)).mono (by lia),λu o e z=>by rw[ae (ao e g0)];exact k5 _ _ (gk _ _ e z) z,ks++[v],by unfold nZ;rw[Kv,fO];rfl,by rw[Ke,e1];rfl,hlt,λw hw=>?_⟩
     rcases KJ.mp hw with h|h
     ·exact e3 w h
     ·rw[Ku.mp h];lia
    rintro wa ys G5 ⟨_,gw,D5,k5,ks,rfl,e1,_,e3⟩;rw[Kc,hpl] at e1 D5;have hpa5:=(hpa6.keep k7 D6.nt).keep k5 D7.nt;exists aI gw;intro ca hca;have kca:=KB.new (ex:=[]) (o:=.tup (iV (nZ ks))) hca;refine⟨pa,ca,rs,ks,rfl,hpa5.kb kca,by lia,hrs,aa,e1,e3,λbk b G6 k6' hb6 hB6=>?_⟩
    exact fin G6 b bk ((hpa5.kb kca).kb k6') hb6 hB6 (((D5.kb kca).kb k6').mono (by lia))
   ·rw[Ki c,hB'];exact fin H7 b1 bk1 hpa7 (hb1.keep k7 D6.nt) hB1 (D7.mono (by lia))
  ·rintro σ H' ⟨s2,s3,s4,s5,s6,_,rfl⟩;show N _ _;rw[hN];clear hN N;walk_at "rz";exact q _
theorem E7(T:Txt K mg)(f_goal_of:HasFn K mg "goal_of" gR ["row"])(f_run_rows:HasFn K mg "run_rows" eJ ["program","given","most"])(f_can_be:HasFn K mg "can_be" iM ["lengths"])(f_least_lengths:HasFn K mg "least_lengths" bS ["counts","bound"])(f_chosen_things:HasFn K mg "chosen_things" cA ["counts","bound"])(f_by_worth:HasFn K mg "by_worth" cX ["shelf"])(f_packs_of:HasFn K mg "packs_of" eV ["shelf"])(f_code_of:HasFn K mg "code_of" df ["lengths"])(f_word_behind:HasFn K mg "word_behind" dG ["ahead","length"])(f_thing_at:HasFn K mg "thing_at" fZ ["code","bits","place"])(f_least_widths:HasFn K mg "least_widths" dk ["sizes","goals"])(f_raised:HasFn K mg "raised_till_good" cw ["sizes","goals"])(f_narrowest:HasFn K mg "narrowest" dN ["goals"])(f_first:HasFn K mg "first_too_narrow" cx ["sizes","goals","widths"])(f_fits:HasFn K mg "fits" nV ["starts","goals","widths","row"])(f_distance:HasFn K mg "distance_of" dI ["starts","goals","row"])(f_starts:HasFn K mg "row_starts" ee ["sizes","widths"])(f_own:HasFn K mg "own_part" fQ ["width"])(f_book_of:HasFn K mg "book_of" eA ["program","counts"])(f_things:HasFn K mg "coded_things" dy ["row"])(f_codes_of:HasFn K mg "codes_of" eE ["book"])(f_pack:HasFn K mg "pack_rows" cI ["program","book"])(f_ahead:HasFn K mg "bits_ahead_of_goal" bF ["row","codes"])(f_behindF:HasFn K mg "figures_behind_first" bJ ["number"])(f_jumpW:HasFn K mg "jump_written" dw ["width","distance"])(f_fig:HasFn K mg "last_figures" dz ["number","many"])(f_row_at:HasFn K mg "row_at" i4 ["codes","bits","place"])(f_coded_at:HasFn K mg "coded_at" fV ["code","bits","place"])(f_part_at:HasFn K mg "part_at" gX ["kind","codes","bits","place"])(f_number_at:HasFn K mg "number_at" fj ["code","bits","place"])(f_goal_at:HasFn K mg "goal_at" gQ ["bits","place"])(f_run_bits:HasFn K mg "run_bits" fS ["bits","book","given","most"])(l_deck:HasFn K mg "_law_deck" dP ["script"])(l_mix:HasFn K mg "_law_mix" fY ["number","turn"])(l_draw:HasFn K mg "_law_draw" fi ["deck","most"])(l_lengths:HasFn K mg "_law_lengths" dn ["deck","many"])(l_book:HasFn K mg "_law_book" dQ ["deck"])(l_number:HasFn K mg "_law_number" dH ["deck"])(l_row:HasFn K mg "_law_row" gc ["deck","goals"])(l_program:HasFn K mg "_law_program" cJ ["deck","most"])(l_given:HasFn K mg "_law_given" dY ["deck"])(l_right:HasFn K mg "_law_right" dm ["program","book","given","most"])(F:lB K "law" "law" gF f fd):cP P w K mg base aZ 9 f fd ["script"] (pW K):=by
 have dr:=BW (P:=P) (w:=w) (base:=base) T l_draw (Fz l_mix);have ca:=Au (P:=P) (w:=w) (base:=base) T f_coded_at (xK T f_thing_at);have lr:=FV (P:=P) (w:=w) (base:=base) T l_row dr (xm T l_number dr);have cb:=FP (P:=P) (w:=w) (base:=base) T f_can_be;have cs:=As T f_codes_of (BB (P:=P) (w:=w) (base:=base) T f_code_of cb (wY T f_word_behind));have go:=y8 (P:=P) (w:=w) (base:=base) T f_goal_of;have rb:=Bu (P:=P) (w:=w) (base:=base) T go cs (zL T f_row_at ca (wb T f_part_at ca (yf T f_number_at ca) (vQ T f_goal_at ca))) f_run_bits;have th:=wO (P:=P) (w:=w) (base:=base) T f_things;have fg:=Ei (P:=P) (w:=w) (base:=base) T f_fig;have st:=vZ (P:=P) (w:=w) (base:=base) T f_starts (FY T f_own);have di:=B9 (P:=P) (w:=w) (base:=base) T f_distance;have pk:=Di T f_pack cs (yB T f_ahead th (qY T f_behindF fg)) go (wL T f_least_widths (v_ T f_raised (wg T f_narrowest) (xT T f_first st (CS T f_fits di)))) st (ye T f_jumpW fg) di;exact Fn T F (C0 T l_deck) (CK T l_program dr lr) (Bo T l_book dr (y0 T l_lengths dr)) (wG T f_book_of th (zr T f_least_lengths cb (wq T f_chosen_things (Ag T f_by_worth) (AB T f_packs_of)))) (A2 T l_given dr) dr (sJ T l_right (CP T go f_run_rows) pk rb)
local macro_rules | `(tactic| walk_at "b1") => `(tactic| (intro _ _ _ _ _ _ us hl; obtain ⟨_, e⟩ := L2.Y.wQ hl; subst e; rfl))
theorem fv{x:Str}{st:Stmt}{ps:List Str}{oc:Value}{od an:Option Addr}{osl:Array (Option Value)}{kV doc pm cdv ct:Value}(X:K.In h)(G:h.Ns mainGlobals mg)(a:PySem.W.nsIn K mainGlobals x=some (some (.ref f)))
  (l:K.lookup f=some ⟨oc,od,.func (PySem.W.fnOf x x (bW st) (aT st) (af st) .none kV doc pm an cdv ct),osl⟩) (c:PySem.W.codeIn K cdv x=true) (k:PySem.W.keepIn K (.ref f)=true)
  (hb:∀(kV doc pm:Value) (an:Option Addr) (cdv ct:Value) (us:List Value),us.length=ps.length->bindArgs (PySem.W.fnOf x x (bW st) (aT st) (af st) .none kV doc pm an cdv ct) ⟨us,[]⟩=pure (ps.zip us)):HasFn K mg x st ps:=
 ⟨f,_,cF l c k,(cF l c k).binds hb,PySem.W.mg_of X G a⟩
theorem all_mk{l:PySem.W.OpenLaw}{w:World}{fa:Addr}(X:K.In h)(G:h.Ns mainGlobals mg)(hfa:mg "law"=some (.ref fa))
  {f5 f7 f42:Addr} {od5 an5 od7 an7 od42 an42:Option Addr} {sl5 sl7 sl42:Array (Option Value)} {oc5 kV5 dc5 pm5 cd5 ct5 oc7 kV7 dc7 pm7 cd7 ct7 oc42 kV42 dc42 pm42 cd42 ct42:Value}
  {q0:Addr} {qn0:Nat} {qs0:Array (Option Value)} {w0_0 w0_1 w0_2 w0_3 w0_4 w0_5 w0_6 w0_7:Tok}
  {q1:Addr} {qd1:Option Addr} {qn1:Nat} {qs1:Array (Option Value)} {w1_0 w1_1 w1_2:Tok}
  {q2:Addr} {qd2:Option Addr} {qn2:Nat} {qs2:Array (Option Value)} {w2_0 w2_1 w2_2:Tok}
  {q3:Addr} {qd3:Option Addr} {qn3:Nat} {qs3:Array (Option Value)} {w3_0 w3_1 w3_2:Tok}
  {w4_0:Tok}
  {w5_0:Tok}
  {w6_0:Tok}
  {w7_0:Tok}
  {w8_0:Tok}
  {w9_0:Tok}
  {q10:Addr} {qd10:Option Addr} {qn10:Nat} {qs10:Array (Option Value)} {w10_0 w10_1 w10_2:Tok}
  {dd0:Addr} {dh0_ep:Nat} {dh0_0 dh0_1 dh0_2 dh0_3 dh0_4 dh0_5 dh0_6 dh0_7 dh0_8:Int} {dp0_0 dp0_1 dp0_2 dp0_3 dp0_4 dp0_5 dp0_6 dp0_7 dp0_8:Addr} {do0_0 do0_1 do0_2 do0_3 do0_4 do0_5 do0_6 do0_7 do0_8:Option Addr} {dn0_0 dn0_1 dn0_2 dn0_3 dn0_4 dn0_5 dn0_6 dn0_7 dn0_8:Nat} {ds0_0 ds0_1 ds0_2 ds0_3 ds0_4 ds0_5 ds0_6 ds0_7 ds0_8:Array (Option Value)} {dt0_0 dt0_1 dt0_2 dt0_3 dt0_4 dt0_5 dt0_6 dt0_7 dt0_8 dw0_0_0 dw0_0_1 dw0_1_0 dw0_1_1 dw0_2_0 dw0_2_1 dw0_3_0 dw0_3_1 dw0_4_0 dw0_5_0 dw0_6_0 dw0_7_0 dw0_7_1:Tok}
  {mC mf0 mf1 mf2 mf3 mf4 mf5 mf6:Addr} {mod0 man0 mod1 man1 mod2 man2 mod3 man3 mod4 man4 mod5 man5 mod6 man6:Option Addr} {msl0 msl1 msl2 msl3 msl4 msl5 msl6:Array (Option Value)} {moc0 mkV0 mdc0 mpm0 mcd0 mct0 moc1 mkV1 mdc1 mpm1 mcd1 mct1 moc2 mkV2 mdc2 mpm2 mcd2 mct2 moc3 mkV3 mdc3 mpm3 mcd3 mct3 moc4 mkV4 mdc4 mpm4 mcd4 mct4 moc5 mkV5 mdc5 mpm5 mcd5 mct5 moc6 mkV6 mdc6 mpm6 mcd6 mct6:Value}
      
      
  (F0:HasFn K mg "goal_of" gR ["row"])
  (F1:HasFn K mg "run_rows" eJ ["program","given","most"])
  (F2:HasFn K mg "can_be" iM ["lengths"])
  (F3:HasFn K mg "least_lengths" bS ["counts","bound"])
  (F4:HasFn K mg "chosen_things" cA ["counts","bound"])
  (a5:PySem.W.nsIn K mainGlobals "by_worth"=some (some (.ref f5))) (l5:K.lookup f5=some ⟨oc5,od5,.func (PySem.W.fnOf "by_worth" "by_worth" (bW cX) (aT cX) (af cX) .none kV5 dc5 pm5 an5 cd5 ct5),sl5⟩) (c5:PySem.W.codeIn K cd5 "by_worth"=true) (k5:PySem.W.keepIn K (.ref f5)=true)
  (F6:HasFn K mg "packs_of" eV ["shelf"])
  (a7:PySem.W.nsIn K mainGlobals "code_of"=some (some (.ref f7))) (l7:K.lookup f7=some ⟨oc7,od7,.func (PySem.W.fnOf "code_of" "code_of" (bW df) (aT df) (af df) .none kV7 dc7 pm7 an7 cd7 ct7),sl7⟩) (c7:PySem.W.codeIn K cd7 "code_of"=true) (k7:PySem.W.keepIn K (.ref f7)=true)
  (F8:HasFn K mg "word_behind" dG ["ahead","length"])
  (F9:HasFn K mg "thing_at" fZ ["code","bits","place"])
  (F10:HasFn K mg "least_widths" dk ["sizes","goals"])
  (F11:HasFn K mg "raised_till_good" cw ["sizes","goals"])
  (F12:HasFn K mg "narrowest" dN ["goals"])
  (F13:HasFn K mg "first_too_narrow" cx ["sizes","goals","widths"])
  (F14:HasFn K mg "fits" nV ["starts","goals","widths","row"])
  (F15:HasFn K mg "distance_of" dI ["starts","goals","row"])
  (F16:HasFn K mg "row_starts" ee ["sizes","widths"])
  (F17:HasFn K mg "own_part" fQ ["width"])
  (F18:HasFn K mg "book_of" eA ["program","counts"])
  (F19:HasFn K mg "coded_things" dy ["row"])
  (F20:HasFn K mg "codes_of" eE ["book"])
  (F21:HasFn K mg "pack_rows" cI ["program","book"])
  (F22:HasFn K mg "bits_ahead_of_goal" bF ["row","codes"])
  (F23:HasFn K mg "figures_behind_first" bJ ["number"])
  (F24:HasFn K mg "jump_written" dw ["width","distance"])
  (F25:HasFn K mg "last_figures" dz ["number","many"])
  (F26:HasFn K mg "row_at" i4 ["codes","bits","place"])
  (F27:HasFn K mg "coded_at" fV ["code","bits","place"])
  (F28:HasFn K mg "part_at" gX ["kind","codes","bits","place"])
  (F29:HasFn K mg "number_at" fj ["code","bits","place"])
  (F30:HasFn K mg "goal_at" gQ ["bits","place"])
  (F31:HasFn K mg "run_bits" fS ["bits","book","given","most"])
  (F32:HasFn K mg "_law_deck" dP ["script"])
  (F33:HasFn K mg "_law_mix" fY ["number","turn"])
  (F34:HasFn K mg "_law_draw" fi ["deck","most"])
  (F35:HasFn K mg "_law_lengths" dn ["deck","many"])
  (F36:HasFn K mg "_law_book" dQ ["deck"])
  (F37:HasFn K mg "_law_number" dH ["deck"])
  (F38:HasFn K mg "_law_row" gc ["deck","goals"])
  (F39:HasFn K mg "_law_program" cJ ["deck","most"])
  (F40:HasFn K mg "_law_given" dY ["deck"])
  (F41:HasFn K mg "_law_right" dm ["program","book","given","most"])
  (a42:PySem.W.nsIn K mainGlobals "law"=some (some (.ref f42))) (l42:K.lookup f42=some ⟨oc42,od42,.func (PySem.W.fnOf "law" "law" (bW gF) (aT gF) (af gF) .none kV42 dc42 pm42 an42 cd42 ct42),sl42⟩) (c42:PySem.W.codeIn K cd42 "law"=true) (k42:PySem.W.keepIn K (.ref f42)=true)
  (z0:PySem.W.nsIn K mainGlobals "abs"=some none)
  (z1:PySem.W.nsIn K mainGlobals "dict"=some none)
  (z2:PySem.W.nsIn K mainGlobals "enumerate"=some none)
  (z3:PySem.W.nsIn K mainGlobals "int"=some none)
  (z4:PySem.W.nsIn K mainGlobals "len"=some none)
  (z5:PySem.W.nsIn K mainGlobals "list"=some none)
  (z6:PySem.W.nsIn K mainGlobals "min"=some none)
  (z7:PySem.W.nsIn K mainGlobals "range"=some none)
  (z8:PySem.W.nsIn K mainGlobals "sorted"=some none)
  (z9:PySem.W.nsIn K mainGlobals "str"=some none)
  (z10:PySem.W.nsIn K mainGlobals "sum"=some none)
  (z11:PySem.W.nsIn K mainGlobals "tuple"=some none)
  (z12:PySem.W.nsIn K mainGlobals "zip"=some none)
  (g0:PySem.W.nsIn K mainGlobals "BOXES"=some (some (.ref q0))) (m0:K.lookup q0=some ⟨.type "tuple",none,.seq #[.str "a" w0_0,.str "b" w0_1,.str "c" w0_2,.str "d" w0_3,.str "e" w0_4,.str "f" w0_5,.str "g" w0_6,.str "h" w0_7] qn0,qs0⟩)
  (g1:PySem.W.nsIn K mainGlobals "HALVES"=some (some (.ref q1))) (m1:K.lookup q1=some ⟨.type "tuple",qd1,.seq #[.int 8 w1_0,.int 128 w1_1,.int 32768 w1_2] qn1,qs1⟩)
  (g2:PySem.W.nsIn K mainGlobals "HEADS"=some (some (.ref q2))) (m2:K.lookup q2=some ⟨.type "tuple",qd2,.seq #[.str "0" w2_0,.str "10" w2_1,.str "11" w2_2] qn2,qs2⟩)
  (g3:PySem.W.nsIn K mainGlobals "HOW_MANY"=some (some (.ref q3))) (m3:K.lookup q3=some ⟨.type "tuple",qd3,.seq #[.int 9 w3_0,.int 17 w3_1,.int 8 w3_2] qn3,qs3⟩)
  (g4:PySem.W.nsIn K mainGlobals "LONGEST"=some (some (.int 12 w4_0)))
  (g5:PySem.W.nsIn K mainGlobals "OF_BOXES"=some (some (.int 2 w5_0)))
  (g6:PySem.W.nsIn K mainGlobals "OF_CLASSES"=some (some (.int 1 w6_0)))
  (g7:PySem.W.nsIn K mainGlobals "OF_WORDS"=some (some (.int 0 w7_0)))
  (g8:PySem.W.nsIn K mainGlobals "WHOLE"=some (some (.int 65536 w8_0)))
  (g9:PySem.W.nsIn K mainGlobals "WIDEST"=some (some (.int 2 w9_0)))
  (g10:PySem.W.nsIn K mainGlobals "WIDTHS"=some (some (.ref q10))) (m10:K.lookup q10=some ⟨.type "tuple",qd10,.seq #[.int 4 w10_0,.int 8 w10_1,.int 16 w10_2] qn10,qs10⟩)
  (dg0:PySem.W.nsIn K mainGlobals "SHAPES"=some (some (.ref dd0))) (dz0:(dd0 == sysModules)=false) (dl0:K.lookup dd0=some ⟨.type "dict",none,.dict #[⟨dh0_0,.str "put" dt0_0,.ref dp0_0⟩,⟨dh0_1,.str "add" dt0_1,.ref dp0_1⟩,⟨dh0_2,.str "sub" dt0_2,.ref dp0_2⟩,⟨dh0_3,.str "copy" dt0_3,.ref dp0_3⟩,⟨dh0_4,.str "tell" dt0_4,.ref dp0_4⟩,⟨dh0_5,.str "hear" dt0_5,.ref dp0_5⟩,⟨dh0_6,.str "jump" dt0_6,.ref dp0_6⟩,⟨dh0_7,.str "zero" dt0_7,.ref dp0_7⟩,⟨dh0_8,.str "halt" dt0_8,.ref dp0_8⟩] dh0_ep,#[]⟩)
  (dm0_0:K.lookup dp0_0=some ⟨.type "tuple",do0_0,.seq #[.str "box" dw0_0_0,.str "number" dw0_0_1] dn0_0,ds0_0⟩)
  (dm0_1:K.lookup dp0_1=some ⟨.type "tuple",do0_1,.seq #[.str "box" dw0_1_0,.str "box" dw0_1_1] dn0_1,ds0_1⟩)
  (dm0_2:K.lookup dp0_2=some ⟨.type "tuple",do0_2,.seq #[.str "box" dw0_2_0,.str "box" dw0_2_1] dn0_2,ds0_2⟩)
  (dm0_3:K.lookup dp0_3=some ⟨.type "tuple",do0_3,.seq #[.str "box" dw0_3_0,.str "box" dw0_3_1] dn0_3,ds0_3⟩)
  (dm0_4:K.lookup dp0_4=some ⟨.type "tuple",do0_4,.seq #[.str "box" dw0_4_0] dn0_4,ds0_4⟩)
  (dm0_5:K.lookup dp0_5=some ⟨.type "tuple",do0_5,.seq #[.str "box" dw0_5_0] dn0_5,ds0_5⟩)
  (dm0_6:K.lookup dp0_6=some ⟨.type "tuple",do0_6,.seq #[.str "goal" dw0_6_0] dn0_6,ds0_6⟩)
  (dm0_7:K.lookup dp0_7=some ⟨.type "tuple",do0_7,.seq #[.str "box" dw0_7_0,.str "goal" dw0_7_1] dn0_7,ds0_7⟩)
  (dm0_8:K.lookup dp0_8=some ⟨.type "tuple",do0_8,.seq #[] dn0_8,ds0_8⟩)
  (mq0:PySem.W.nsIn K mainGlobals "Machine"=some (some (.ref mC)))
  (mq1:PySem.W.plainGet K mC Str.empty=true)
  (mq2:PySem.W.hasDictIn K mC=true)
  (mq3:PySem.W.plainOver K mC=true)
  (mq4:PySem.W.findIn K (.ref mC) "__setattr__"=some (some (.builtin "object.__setattr__")))
  (mq5:PySem.W.findIn K (.ref mC) "given"=some none)
  (mq6:PySem.W.findIn K (.ref mC) "heard"=some none)
  (mq7:PySem.W.findIn K (.ref mC) "told"=some none)
  (mq8:PySem.W.findIn K (.ref mC) "boxes"=some none)
  (mq9:PySem.W.findIn K (.ref mC) "__init__"=some (some (.ref mf0)))
  (mq10:PySem.W.isFn K (.ref mf0)=true)
  (mq11:PySem.W.keepIn K (.ref mf0)=true)
  (mq12:K.lookup mf0=some ⟨moc0,mod0,.func (PySem.W.fnOf "__init__" "Machine.__init__" (bW aM) (aT aM) (af aM) .none mkV0 mdc0 mpm0 man0 mcd0 mct0),msl0⟩)
  (mq13:PySem.W.codeIn K mcd0 "Machine.__init__"=true)
  (mq14:PySem.W.makesIn K mC=true)
  (mq15:PySem.W.keepIn K (.ref mC)=true)
  (mq16:PySem.W.findIn K (.ref mC) "place_next"=some (some (.ref mf1)))
  (mq17:PySem.W.isFn K (.ref mf1)=true)
  (mq18:PySem.W.keepIn K (.ref mf1)=true)
  (mq19:K.lookup mf1=some ⟨moc1,mod1,.func (PySem.W.fnOf "place_next" "Machine.place_next" (bW aK) (aT aK) (af aK) .none mkV1 mdc1 mpm1 man1 mcd1 mct1),msl1⟩)
  (mq20:PySem.W.codeIn K mcd1 "Machine.place_next"=true)
  (mq21:PySem.W.findIn K (.ref mC) "carry_out"=some (some (.ref mf2)))
  (mq22:PySem.W.isFn K (.ref mf2)=true)
  (mq23:PySem.W.keepIn K (.ref mf2)=true)
  (mq24:K.lookup mf2=some ⟨moc2,mod2,.func (PySem.W.fnOf "carry_out" "Machine.carry_out" (bW aN) (aT aN) (af aN) .none mkV2 mdc2 mpm2 man2 mcd2 mct2),msl2⟩)
  (mq25:PySem.W.codeIn K mcd2 "Machine.carry_out"=true)
  (mq26:PySem.W.findIn K (.ref mC) "number_for"=some (some (.ref mf3)))
  (mq27:PySem.W.isFn K (.ref mf3)=true)
  (mq28:PySem.W.keepIn K (.ref mf3)=true)
  (mq29:K.lookup mf3=some ⟨moc3,mod3,.func (PySem.W.fnOf "number_for" "Machine.number_for" (bW aJ) (aT aJ) (af aJ) .none mkV3 mdc3 mpm3 man3 mcd3 mct3),msl3⟩)
  (mq30:PySem.W.codeIn K mcd3 "Machine.number_for"=true)
  (mq31:PySem.W.findIn K (.ref mC) "heard_number"=some (some (.ref mf4)))
  (mq32:PySem.W.isFn K (.ref mf4)=true)
  (mq33:PySem.W.keepIn K (.ref mf4)=true)
  (mq34:K.lookup mf4=some ⟨moc4,mod4,.func (PySem.W.fnOf "heard_number" "Machine.heard_number" (bW aF) (aT aF) (af aF) .none mkV4 mdc4 mpm4 man4 mcd4 mct4),msl4⟩)
  (mq35:PySem.W.codeIn K mcd4 "Machine.heard_number"=true)
  (mq36:PySem.W.findIn K (.ref mC) "told_numbers"=some (some (.ref mf5)))
  (mq37:PySem.W.isFn K (.ref mf5)=true)
  (mq38:PySem.W.keepIn K (.ref mf5)=true)
  (mq39:K.lookup mf5=some ⟨moc5,mod5,.func (PySem.W.fnOf "told_numbers" "Machine.told_numbers" (bW aG) (aT aG) (af aG) .none mkV5 mdc5 mpm5 man5 mcd5 mct5),msl5⟩)
  (mq40:PySem.W.codeIn K mcd5 "Machine.told_numbers"=true)
  (mq41:PySem.W.findIn K (.ref mC) "box_numbers"=some (some (.ref mf6)))
  (mq42:PySem.W.isFn K (.ref mf6)=true)
  (mq43:PySem.W.keepIn K (.ref mf6)=true)
  (mq44:K.lookup mf6=some ⟨moc6,mod6,.func (PySem.W.fnOf "box_numbers" "Machine.box_numbers" (bW aC) (aT aC) (af aC) .none mkV6 mdc6 mpm6 man6 mcd6 mct6),msl6⟩)
  (mq45:PySem.W.codeIn K mcd6 "Machine.box_numbers"=true)
  (le_by_worth:cd5=.ref lc_by_worth) (lk_by_worth:K.lookup lc_by_worth=some ⟨lO_by_worth,lD_by_worth,.fields lv_by_worth,lS_by_worth⟩) (lw_by_worth:lv_by_worth[11]?=some (.ref lp_by_worth))
  (le_code_of:cd7=.ref lc_code_of) (lk_code_of:K.lookup lc_code_of=some ⟨lO_code_of,lD_code_of,.fields lv_code_of,lS_code_of⟩) (lw_code_of:lv_code_of[11]?=some (.ref lp_code_of))
  : ∃fd:FuncData,(∀(s:Shared) (v:Value),BindsTo s fd ⟨[v],[]⟩ [("script",v)])/\∀base:Heap,K.In base->base.Ns mainGlobals mg->cP l.prog w K mg base aZ 30 fa fd ["script"] (pW K):=by
 have e:=hfa.symm.trans (PySem.W.mg_of X G a42);cases e
 have T:Txt K mg:=⟨PySem.W.mg_none_of X G z0,PySem.W.mg_none_of X G z1,PySem.W.mg_none_of X G z2,PySem.W.mg_none_of X G z3,PySem.W.mg_none_of X G z4,PySem.W.mg_none_of X G z5,PySem.W.mg_none_of X G z6,PySem.W.mg_none_of X G z7,PySem.W.mg_none_of X G z8,PySem.W.mg_none_of X G z9,PySem.W.mg_none_of X G z10,PySem.W.mg_none_of X G z11,PySem.W.mg_none_of X G z12,⟨q0,PySem.W.mg_of X G g0,λH=>.inr ⟨_,_,_,m0,rfl,rfl,(by show 8<=sizeLine;decide),(.cons ⟨w0_0,rfl⟩ (.cons ⟨w0_1,rfl⟩ (.cons ⟨w0_2,rfl⟩ (.cons ⟨w0_3,rfl⟩ (.cons ⟨w0_4,rfl⟩ (.cons ⟨w0_5,rfl⟩ (.cons ⟨w0_6,rfl⟩ (.cons ⟨w0_7,rfl⟩ .nil))))))))⟩⟩,⟨q1,PySem.W.mg_of X G g1,λH=>.inr ⟨_,_,_,m1,rfl,rfl,(by show 3<=sizeLine;decide),(.cons ⟨w1_0,rfl⟩ (.cons ⟨w1_1,rfl⟩ (.cons ⟨w1_2,rfl⟩ .nil)))⟩⟩,⟨q2,PySem.W.mg_of X G g2,λH=>.inr ⟨_,_,_,m2,rfl,rfl,(by show 3<=sizeLine;decide),(.cons ⟨w2_0,rfl⟩ (.cons ⟨w2_1,rfl⟩ (.cons ⟨w2_2,rfl⟩ .nil)))⟩⟩,⟨q3,PySem.W.mg_of X G g3,λH=>.inr ⟨_,_,_,m3,rfl,rfl,(by show 3<=sizeLine;decide),(.cons ⟨w3_0,rfl⟩ (.cons ⟨w3_1,rfl⟩ (.cons ⟨w3_2,rfl⟩ .nil)))⟩⟩,⟨_,PySem.W.mg_of X G g4,⟨_,rfl⟩⟩,⟨_,PySem.W.mg_of X G g5,⟨_,rfl⟩⟩,⟨_,PySem.W.mg_of X G g6,⟨_,rfl⟩⟩,⟨_,PySem.W.mg_of X G g7,⟨_,rfl⟩⟩,⟨_,PySem.W.mg_of X G g8,⟨_,rfl⟩⟩,⟨_,PySem.W.mg_of X G g9,⟨_,rfl⟩⟩,⟨q10,PySem.W.mg_of X G g10,λH=>.inr ⟨_,_,_,m10,rfl,rfl,(by show 3<=sizeLine;decide),(.cons ⟨w10_0,rfl⟩ (.cons ⟨w10_1,rfl⟩ (.cons ⟨w10_2,rfl⟩ .nil)))⟩⟩,⟨q0,_,PySem.W.mg_of X G g0,m0,rfl⟩,⟨dd0,PySem.W.mg_of X G dg0,dz0,_,_,_,dl0,⟨rfl,rfl,rfl⟩,rfl,(.cons rfl ⟨dp0_0,rfl,⟨_,_,_,dm0_0,rfl,rfl,(by show 2<=sizeLine;decide),(.cons ⟨dw0_0_0,rfl⟩ (.cons ⟨dw0_0_1,rfl⟩ .nil))⟩⟩ (.cons rfl ⟨dp0_1,rfl,⟨_,_,_,dm0_1,rfl,rfl,(by show 2<=sizeLine;decide),(.cons ⟨dw0_1_0,rfl⟩ (.cons ⟨dw0_1_1,rfl⟩ .nil))⟩⟩ (.cons rfl ⟨dp0_2,rfl,⟨_,_,_,dm0_2,rfl,rfl,(by show 2<=sizeLine;decide),(.cons ⟨dw0_2_0,rfl⟩ (.cons ⟨dw0_2_1,rfl⟩ .nil))⟩⟩ (.cons rfl ⟨dp0_3,rfl,⟨_,_,_,dm0_3,rfl,rfl,(by show 2<=sizeLine;decide),(.cons ⟨dw0_3_0,rfl⟩ (.cons ⟨dw0_3_1,rfl⟩ .nil))⟩⟩ (.cons rfl ⟨dp0_4,rfl,⟨_,_,_,dm0_4,rfl,rfl,(by show 1<=sizeLine;decide),(.cons ⟨dw0_4_0,rfl⟩ .nil)⟩⟩ (.cons rfl ⟨dp0_5,rfl,⟨_,_,_,dm0_5,rfl,rfl,(by show 1<=sizeLine;decide),(.cons ⟨dw0_5_0,rfl⟩ .nil)⟩⟩ (.cons rfl ⟨dp0_6,rfl,⟨_,_,_,dm0_6,rfl,rfl,(by show 1<=sizeLine;decide),(.cons ⟨dw0_6_0,rfl⟩ .nil)⟩⟩ (.cons rfl ⟨dp0_7,rfl,⟨_,_,_,dm0_7,rfl,rfl,(by show 2<=sizeLine;decide),(.cons ⟨dw0_7_0,rfl⟩ (.cons ⟨dw0_7_1,rfl⟩ .nil))⟩⟩ (.cons rfl ⟨dp0_8,rfl,⟨_,_,_,dm0_8,rfl,rfl,(by show 0<=sizeLine;decide),.nil⟩⟩ .nil)))))))))⟩,⟨_,_,_,_,_,_,_,_,_,_,_,_,_,_,_,PySem.W.mg_of X G mq0,⟨mq1,mq2,mq3,mq4⟩,mq5,mq6,mq7,mq8,⟨mq14,mq9,mq10,mq15⟩,cF (st:=aM) mq12 mq13 mq11,(cF (st:=aM) mq12 mq13 mq11).binds (ps:=["self","given"]) (λ_ _ _ _ _ _ us hl=>by obtain⟨_,_,rfl⟩:=Y.xY hl;rfl),⟨mq16,mq17,mq18⟩,cF (st:=aK) mq19 mq20 mq18,(cF (st:=aK) mq19 mq20 mq18).binds (ps:=["self","row","behind","end"]) (λ_ _ _ _ _ _ us hl=>by obtain⟨_,_,_,_,rfl⟩:=Y.HQ hl;rfl),⟨mq21,mq22,mq23⟩,cF (st:=aN) mq24 mq25 mq23,(cF (st:=aN) mq24 mq25 mq23).binds (ps:=["self","row"]) (λ_ _ _ _ _ _ us hl=>by obtain⟨_,_,rfl⟩:=Y.xY hl;rfl),⟨mq26,mq27,mq28⟩,cF (st:=aJ) mq29 mq30 mq28,(cF (st:=aJ) mq29 mq30 mq28).binds (ps:=["self","row"]) (λ_ _ _ _ _ _ us hl=>by obtain⟨_,_,rfl⟩:=Y.xY hl;rfl),⟨mq31,mq32,mq33⟩,cF (st:=aF) mq34 mq35 mq33,(cF (st:=aF) mq34 mq35 mq33).binds (ps:=["self"]) (λ_ _ _ _ _ _ us hl=>by obtain⟨_,rfl⟩:=Y.wQ hl;rfl),⟨mq36,mq37,mq38⟩,cF (st:=aG) mq39 mq40 mq38,(cF (st:=aG) mq39 mq40 mq38).binds (ps:=["self"]) (λ_ _ _ _ _ _ us hl=>by obtain⟨_,rfl⟩:=Y.wQ hl;rfl),⟨mq41,mq42,mq43⟩,cF (st:=aC) mq44 mq45 mq43,(cF (st:=aC) mq44 mq45 mq43).binds (ps:=["self"]) (λ_ _ _ _ _ _ us hl=>by obtain⟨_,rfl⟩:=Y.wQ hl;rfl)⟩,mG.mk' X G (iB a5 l5 le_by_worth lk_by_worth lw_by_worth),mG.mk' X G (iB a7 l7 le_code_of lk_code_of lw_code_of)⟩
 have F5:HasFn K mg "by_worth" cX ["shelf"]:=fv X G a5 l5 c5 k5 (by walk_at "b1")
 have F7:HasFn K mg "code_of" df ["lengths"]:=fv X G a7 l7 c7 k7 (by walk_at "b1")
 exact⟨PySem.W.fnOf "law" "law" (bW gF) (aT gF) (af gF) .none kV42 dc42 pm42 an42 cd42 ct42,λs v=>.of_eq rfl,λbase _ _=>(E7 T F0 F1 F2 F3 F4 F5 F6 F7 F8 F9 F10 F11 F12 F13 F14 F15 F16 F17 F18 F19 F20 F21 F22 F23 F24 F25 F26 F27 F28 F29 F30 F31 F32 F33 F34 F35 F36 F37 F38 F39 F40 F41 (cF (st:=gF) l42 c42 k42)).mono (by decide)⟩
theorem walk{l:PySem.W.OpenLaw}{loose:List Str}{XP:(Str->Option Value)->Heap->Prop}{YP:World->Heap->Prop}{d:DefRec}{K:Params->PJ}(hn:l.most=some 63)(hdf:d.params.defaults=[])
  (hY:∀(w:World) (h:Heap),YP w h->(K w.params).In h)
  (F:∀(w:World) (mg:Str->Option Value) (fa:Addr) (h:Heap),(K w.params).In h->h.Ns mainGlobals mg->mg d.name=some (.ref fa)->∃fd:FuncData,(∀(s:Shared) (u:Value),BindsTo s fd ⟨[u],[]⟩ [("script",u)])/\∀base:Heap,(K w.params).In base->base.Ns mainGlobals mg->cP l.prog w (K w.params) mg base aZ 30 fa fd ["script"] (pW (K w.params))) (hL:∀(w:World) (h:Heap),(K w.params).In h->iF q (K w.params)) :
  PySem.W.WalkO q loose XP YP l.row.toRowW d [] (λf vs=>PySem.call f vs):=
 L2.B5 (n:=63) (k:=30) (x:="script") (CX:=λ_=>aZ) (sp:=λw=>pW (K w.params)) hn (by decide) hdf ⟨rfl,by decide,by decide,rfl⟩ hY F (λ_ _ a ns hl _ hS=>⟨a,ns,rfl,hS,hl,λ_=>rfl⟩) (λ_ _ _ _ _ z=>z) hL
theorem Gx(_:K.In h){la_by_worth:Addr}{lo_by_worth:Value}{ld_by_worth:Option Addr}{lfd_by_worth:FuncData}{ls_by_worth:Array (Option Value)}{la_code_of:Addr}{lo_code_of:Value}{ld_code_of:Option Addr}{lfd_code_of:FuncData}{ls_code_of:Array (Option Value)}(nt:PySem.W.noTabs K=true)
  (ma_by_worth:PySem.W.nsIn K mainGlobals "by_worth"=some (some (.ref la_by_worth))) (ml_by_worth:K.lookup la_by_worth=some ⟨lo_by_worth,ld_by_worth,.func lfd_by_worth,ls_by_worth⟩) (mc_by_worth:lfd_by_worth.code=.ref lc_by_worth) (mk_by_worth:K.lookup lc_by_worth=some ⟨lO_by_worth,lD_by_worth,.fields lv_by_worth,lS_by_worth⟩) (mw_by_worth:lv_by_worth[11]?=some (.ref lp_by_worth)) (mr_by_worth:((recsOf q).find? (λe=>e.name ==("by_worth":Str))).isSome=true)
  (ma_by_weight:PySem.W.nsIn K mainGlobals "by_weight"=some none)
  (ma_code_of:PySem.W.nsIn K mainGlobals "code_of"=some (some (.ref la_code_of))) (ml_code_of:K.lookup la_code_of=some ⟨lo_code_of,ld_code_of,.func lfd_code_of,ls_code_of⟩) (mc_code_of:lfd_code_of.code=.ref lc_code_of) (mk_code_of:K.lookup lc_code_of=some ⟨lO_code_of,lD_code_of,.fields lv_code_of,lS_code_of⟩) (mw_code_of:lv_code_of[11]?=some (.ref lp_code_of)) (mr_code_of:((recsOf q).find? (λe=>e.name ==("code_of":Str))).isSome=true)
  (mn:[lp_by_worth,lp_code_of].Nodup)
  : iF q K:=iF.of nt (iB ma_by_worth ml_by_worth mc_by_worth mk_by_worth mw_by_worth) (sX ma_by_weight) (iB ma_code_of ml_code_of mc_code_of mk_code_of mw_code_of) (by first|exact mn|simp) (.inr mr_by_worth) (.inl rfl) (.inr mr_code_of)
end
end G
open PySem PySem.W PyProof.Rows
local macro_rules | `(tactic| walk_at "b1") => `(tactic| (intro _ _ _ _ _ _ us hl; obtain ⟨_, e⟩ := L2.Y.wQ hl; subst e; rfl))
local macro_rules | `(tactic| walk_at "b2") => `(tactic| (intro _ _ _ _ _ _ us hl; obtain ⟨_, _, e⟩ := L2.Y.xY hl; subst e; rfl))
local macro_rules | `(tactic| walk_at "b3") => `(tactic| (intro _ _ _ _ _ _ us hl; obtain ⟨_, _, _, e⟩ := L2.Y.rn hl; subst e; rfl))
local macro_rules | `(tactic| walk_at "b4") => `(tactic| (intro _ _ _ _ _ _ us hl; obtain ⟨_, _, _, _, e⟩ := L2.Y.HQ hl; subst e; rfl))
set_option maxRecDepth 100000 in
set_option maxHeartbeats 0 in
theorem PySem.Challenge.cw_shortrows_k36_whole_run_as_the_rows_holds : PySem.Challenge.rw_shortrows_k36_whole_run_as_the_rows.Holds := by
 w_on;o_law;k_head;(case hw=>w_witness2)
 k_fill
 refine G.walk (l:=PySem.Challenge.rw_shortrows_k36_whole_run_as_the_rows) rfl rfl (λw h Y=>by first|exact PySem.W.kIn_of Y|exact PySem.W.km_in_of Y) ?F ?L
 case F =>
  intro w mg fa h KX GN hmg
  refine' G.all_mk KX GN hmg (G.fv KX GN ?a0 ?l0 ?c0 ?k0 (by walk_at "b1")) (G.fv KX GN ?a1 ?l1 ?c1 ?k1 (by walk_at "b3")) (G.fv KX GN ?a2 ?l2 ?c2 ?k2 (by walk_at "b1")) (G.fv KX GN ?a3 ?l3 ?c3 ?k3 (by walk_at "b2")) (G.fv KX GN ?a4 ?l4 ?c4 ?k4 (by walk_at "b2")) ?a5 ?l5 ?c5 ?k5 (G.fv KX GN ?a6 ?l6 ?c6 ?k6 (by walk_at "b1")) ?a7 ?l7 ?c7 ?k7 (G.fv KX GN ?a8 ?l8 ?c8 ?k8 (by walk_at "b2")) (G.fv KX GN ?a9 ?l9 ?c9 ?k9 (by walk_at "b3")) (G.fv KX GN ?a10 ?l10 ?c10 ?k10 (by walk_at "b2")) (G.fv KX GN ?a11 ?l11 ?c11 ?k11 (by walk_at "b2")) (G.fv KX GN ?a12 ?l12 ?c12 ?k12 (by walk_at "b1")) (G.fv KX GN ?a13 ?l13 ?c13 ?k13 (by walk_at "b3")) (G.fv KX GN ?a14 ?l14 ?c14 ?k14 (by walk_at "b4")) (G.fv KX GN ?a15 ?l15 ?c15 ?k15 (by walk_at "b3")) (G.fv KX GN ?a16 ?l16 ?c16 ?k16 (by walk_at "b2")) (G.fv KX GN ?a17 ?l17 ?c17 ?k17 (by walk_at "b1")) (G.fv KX GN ?a18 ?l18 ?c18 ?k18 (by walk_at "b2")) (G.fv KX GN ?a19 ?l19 ?c19 ?k19 (by walk_at "b1")) (G.fv KX GN ?a20 ?l20 ?c20 ?k20 (by walk_at "b1")) (G.fv KX GN ?a21 ?l21 ?c21 ?k21 (by walk_at "b2")) (G.fv KX GN ?a22 ?l22 ?c22 ?k22 (by walk_at "b2")) (G.fv KX GN ?a23 ?l23 ?c23 ?k23 (by walk_at "b1")) (G.fv KX GN ?a24 ?l24 ?c24 ?k24 (by walk_at "b2")) (G.fv KX GN ?a25 ?l25 ?c25 ?k25 (by walk_at "b2")) (G.fv KX GN ?a26 ?l26 ?c26 ?k26 (by walk_at "b3")) (G.fv KX GN ?a27 ?l27 ?c27 ?k27 (by walk_at "b3")) (G.fv KX GN ?a28 ?l28 ?c28 ?k28 (by walk_at "b4")) (G.fv KX GN ?a29 ?l29 ?c29 ?k29 (by walk_at "b3")) (G.fv KX GN ?a30 ?l30 ?c30 ?k30 (by walk_at "b2")) (G.fv KX GN ?a31 ?l31 ?c31 ?k31 (by walk_at "b4")) (G.fv KX GN ?a32 ?l32 ?c32 ?k32 (by walk_at "b1")) (G.fv KX GN ?a33 ?l33 ?c33 ?k33 (by walk_at "b2")) (G.fv KX GN ?a34 ?l34 ?c34 ?k34 (by walk_at "b2")) (G.fv KX GN ?a35 ?l35 ?c35 ?k35 (by walk_at "b2")) (G.fv KX GN ?a36 ?l36 ?c36 ?k36 (by walk_at "b1")) (G.fv KX GN ?a37 ?l37 ?c37 ?k37 (by walk_at "b1")) (G.fv KX GN ?a38 ?l38 ?c38 ?k38 (by walk_at "b2")) (G.fv KX GN ?a39 ?l39 ?c39 ?k39 (by walk_at "b2")) (G.fv KX GN ?a40 ?l40 ?c40 ?k40 (by walk_at "b1")) (G.fv KX GN ?a41 ?l41 ?c41 ?k41 (by walk_at "b4")) ?a42 ?l42 ?c42 ?k42 ?z0 ?z1 ?z2 ?z3 ?z4 ?z5 ?z6 ?z7 ?z8 ?z9 ?z10 ?z11 ?z12 ?gq0 ?mq0 ?gq1 ?mq1 ?gq2 ?mq2 ?gq3 ?mq3 ?gq4 ?gq5 ?gq6 ?gq7 ?gq8 ?gq9 ?gq10 ?mq10 ?dg0 ?dz0 ?dl0 ?dm0_0 ?dm0_1 ?dm0_2 ?dm0_3 ?dm0_4 ?dm0_5 ?dm0_6 ?dm0_7 ?dm0_8 ?mq_0 ?mq_1 ?mq_2 ?mq_3 ?mq_4 ?mq_5 ?mq_6 ?mq_7 ?mq_8 ?mq_9 ?mq_10 ?mq_11 ?mq_12 ?mq_13 ?mq_14 ?mq_15 ?mq_16 ?mq_17 ?mq_18 ?mq_19 ?mq_20 ?mq_21 ?mq_22 ?mq_23 ?mq_24 ?mq_25 ?mq_26 ?mq_27 ?mq_28 ?mq_29 ?mq_30 ?mq_31 ?mq_32 ?mq_33 ?mq_34 ?mq_35 ?mq_36 ?mq_37 ?mq_38 ?mq_39 ?mq_40 ?mq_41 ?mq_42 ?mq_43 ?mq_44 ?mq_45 ?le_by_worth ?lk_by_worth ?lw_by_worth ?le_code_of ?lk_code_of ?lw_code_of
  (case a0|l0|c0|k0|a1|l1|c1|k1|a2|l2|c2|k2|a3|l3|c3|k3|a4|l4|c4|k4|a5|l5|c5|k5|a6|l6|c6|k6|a7|l7|c7|k7|a8|l8|c8|k8|a9|l9|c9|k9|a10|l10|c10|k10|a11|l11|c11|k11|a12|l12|c12|k12|a13|l13|c13|k13|a14|l14|c14|k14|a15|l15|c15|k15|a16|l16|c16|k16|a17|l17|c17|k17|a18|l18|c18|k18|a19|l19|c19|k19|a20|l20|c20|k20|a21|l21|c21|k21|a22|l22|c22|k22|a23|l23|c23|k23|a24|l24|c24|k24|a25|l25|c25|k25|a26|l26|c26|k26|a27|l27|c27|k27|a28|l28|c28|k28|a29|l29|c29|k29|a30|l30|c30|k30|a31|l31|c31|k31|a32|l32|c32|k32|a33|l33|c33|k33|a34|l34|c34|k34|a35|l35|c35|k35|a36|l36|c36|k36|a37|l37|c37|k37|a38|l38|c38|k38|a39|l39|c39|k39|a40|l40|c40|k40|a41|l41|c41|k41|a42|l42|c42|k42=>k_is)
  (case z0=>k_is)
  (case z1=>k_is)
  (case z2=>k_is)
  (case z3=>k_is)
  (case z4=>k_is)
  (case z5=>k_is)
  (case z6=>k_is)
  (case z7=>k_is)
  (case z8=>k_is)
  (case z9=>k_is)
  (case z10=>k_is)
  (case z11=>k_is)
  (case z12=>k_is)
  (case gq0=>k_is)
  (case mq0=>k_is)
  (case gq1=>k_is)
  (case mq1=>k_is)
  (case gq2=>k_is)
  (case mq2=>k_is)
  (case gq3=>k_is)
  (case mq3=>k_is)
  (case gq4=>k_is)
  (case gq5=>k_is)
  (case gq6=>k_is)
  (case gq7=>k_is)
  (case gq8=>k_is)
  (case gq9=>k_is)
  (case gq10=>k_is)
  (case mq10=>k_is)
  (case dg0=>k_is)
  (case dl0=>k_is)
  (case dm0_0=>k_is)
  (case dm0_1=>k_is)
  (case dm0_2=>k_is)
  (case dm0_3=>k_is)
  (case dm0_4=>k_is)
  (case dm0_5=>k_is)
  (case dm0_6=>k_is)
  (case dm0_7=>k_is)
  (case dm0_8=>k_is)
  (case dz0=>rfl)
  (case mq_0=>k_is)
  (case mq_1=>k_is)
  (case mq_2=>k_is)
  (case mq_3=>k_is)
  (case mq_4=>k_is)
  (case mq_5=>k_is)
  (case mq_6=>k_is)
  (case mq_7=>k_is)
  (case mq_8=>k_is)
  (case mq_9=>k_is)
  (case mq_10=>k_is)
  (case mq_11=>k_is)
  (case mq_12=>k_is)
  (case mq_13=>k_is)
  (case mq_14=>k_is)
  (case mq_15=>k_is)
  (case mq_16=>k_is)
  (case mq_17=>k_is)
  (case mq_18=>k_is)
  (case mq_19=>k_is)
  (case mq_20=>k_is)
  (case mq_21=>k_is)
  (case mq_22=>k_is)
  (case mq_23=>k_is)
  (case mq_24=>k_is)
  (case mq_25=>k_is)
  (case mq_26=>k_is)
  (case mq_27=>k_is)
  (case mq_28=>k_is)
  (case mq_29=>k_is)
  (case mq_30=>k_is)
  (case mq_31=>k_is)
  (case mq_32=>k_is)
  (case mq_33=>k_is)
  (case mq_34=>k_is)
  (case mq_35=>k_is)
  (case mq_36=>k_is)
  (case mq_37=>k_is)
  (case mq_38=>k_is)
  (case mq_39=>k_is)
  (case mq_40=>k_is)
  (case mq_41=>k_is)
  (case mq_42=>k_is)
  (case mq_43=>k_is)
  (case mq_44=>k_is)
  (case mq_45=>k_is)
  (case le_by_worth=>exact rfl)
  (case lk_by_worth=>k_is)
  (case lw_by_worth=>exact rfl)
  (case le_code_of=>exact rfl)
  (case lk_code_of=>k_is)
  (case lw_code_of=>exact rfl)
 case L =>
  intro w h KX
  refine' G.Gx KX (by kernel_rfl) ?ma_by_worth ?ml_by_worth ?mc_by_worth ?mk_by_worth ?mw_by_worth ?mr_by_worth ?ma_by_weight ?ma_code_of ?ml_code_of ?mc_code_of ?mk_code_of ?mw_code_of ?mr_code_of ?mn
  (case ma_by_worth=>k_is)
  (case ml_by_worth=>k_is)
  (case mc_by_worth=>exact rfl)
  (case mk_by_worth=>k_is)
  (case mw_by_worth=>exact rfl)
  (case mr_by_worth=>exact rfl)
  (case ma_by_weight=>k_is)
  (case ma_code_of=>k_is)
  (case ml_code_of=>k_is)
  (case mc_code_of=>exact rfl)
  (case mk_code_of=>k_is)
  (case mw_code_of=>exact rfl)
  (case mr_code_of=>exact rfl)
  (case mn=>decide)
end
