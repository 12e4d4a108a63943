import PyProof.Rows.All
import Wide.All
import OpenK.AllK
import Wide.FinOn
import Lean
import PyProof.EqAt
import PyProof.EqKinds
import PyProof.TupleCall
import KE.KSortKey
import KE.KLam
import PySem.Challenge.RW_shortrows_k33_whole_packed_and_back
namespace PySem.W.Fast
def tw1703383982347006:=0
def tw5239616345521529948:=0
def tw17581380472977316294:=0
def tw1602554763042945773:=0
def tw16951991829944105875:=0
def tw14223373374287127392:=0
def tw3402911350215006083:=0
def tw14002507442252390866:=0
def tw15373090233588480140:=0
def tw8282464537901746902:=0
def tw10033922937469993037:=0
def tw17068001817086947503:=0
def tw13079911036733488874:=0
def tw14327029986567351945:=0
def tw18203491393482497654:=0
def tw11573581552069282455:=0
def tw7560992838677576929:=0
def tw5489724545052650711:=0
def tw6927538912420438274:=0
def tw8471700548808698588:=0
def tw11162074337403728631:=0
def tw11468639098689300311:=0
def tw13202280270089648439:=0
def tw13035762294225919716:=0
def tw1621684725817096873:=0
def tw12697826116856595965:=0
def tw13327744313532564077:=0
def tw10804089673224407272:=0
def tw2320940486737494531:=0
def tw17345366247852536849:=0
def tw15146612546247908211:=0
def tw5492905524876310063:=0
def tw15914100237441163542:=0
def tw6976946462804027574:=0
def tw569954268112827307:=0
def tw7688731883409021840:=0
def tw6099190058975344015:=0
def tw8641101830339665667:=0
def tw3219754500419560318:=0
def tw14853029800864649148:=0
def tw9912034540120878200:=0
def tw15340309350894800382:=0
def tw5752516504616969154:=0
def tw2974337560344653174:=0
def tw14144522693627458684:=0
def tw3910326761589595727:=0
def tw15859781983823885468:=0
def tw18362676574867422168:=0
def tw2078815592066222721:=0
def tw7987282567249102320:=0
def tw2684342392613729686:=0
def tw14829317096786808991:=0
def tw9570903783851241465:=0
def tw17536648770229929640:=0
def tw1187347065327425925:=0
def tw7934169932151103542:=0
def tw16200380199067004729:=0
def tw4731014125778618065:=0
def tw12665088810933444462:=0
def tw7421457663951539073:=0
def tw6234141781032080137:=0
def tw14890061833213740945:=0
def tw5919679107404071769:=0
def tw8848593144723074832:=0
def tw1761487211140303752:=0
def tw9799145746489715174:=0
def tw14549382147828931496:=0
def tw15820711327460815247:=0
def tw5626635686084772278:=0
def tw14541690420980648157:=0
def tw3936208076488589817:=0
def tw16922174660580018800:=0
def tw16665189718563267724:=0
def tw10326092797824638696:=0
def tw2416618576291722398:=0
def tw13491836726848568534:=0
def tw9381805859570447906:=0
def tw16700950826744249201:=0
def tw6947055362545016308:=0
def tw6312778104626791395:=0
def tw1958639638162570589:=0
def tw467268581722075304:=0
def tw4139633489535564176:=0
def tw18225823396325080923:=0
def tw7098705989435770917:=0
def tw63874154867076161:=0
def tw15903962065519686392:=0
def tw6232879239290824751:=0
def tw10945497053859366328:=0
def tw14311649155271155608:=0
def tw4657135749012777511:=0
def tw9726242012056834776:=0
def tw7645972086490311416:=0
def tw11010323976168440696:=0
def tw10865255799675512620:=0
def tw8657213119587356259:=0
def tw15960743126376042134:=0
def tw11264354732137257140:=0
def tw10251940747964818724:=0
def tw15329516690197939617:=0
def tw3580303131940810787:=0
def tw5813729442786162108:=0
def tw16770922427097859210:=0
def tw3837407289185156862:=0
def tw15861862114680128605:=0
def tw14877509309702278859:=0
def tw16280562049511354715:=0
def tw5328726056567515553:=0
def tw14486470582995552844:=0
def tw148358849902874050:=0
def tw16464642101865172402:=0
def tw17622689525956522746:=0
def tw2625703602036011965:=0
def tw17727200923153952270:=0
def tw15532139380163562401:=0
def tw13103627065759849929:=0
def tw4724808128331171544:=0
def tw4943346568163674723:=0
def tw9074417321098478079:=0
def tw13152818569156447486:=0
def tw13832991630202194691:=0
def tw8117946552608322976:=0
def tw17573781083053333572:=0
def tw10397369254284147099:=0
def tw10719094838385135953:=0
def tw9699437631694526124:=0
end PySem.W.Fast
set_option Elab.async false
set_option linter.all false
set_option maxRecDepth 100000
set_option maxHeartbeats 4000000
noncomputable section
set_option compiler.extract_closed false
theorem ℜz0(_:True:=by rfl):True:=⟨⟩
def ℜ0:Lean.Syntax:=ℜz0._auto_1
theorem ℜz1(_:True:=by decide):True:=⟨⟩
def ℜ1:Lean.Syntax:=ℜz1._auto_1
theorem ℜz2(_:True:=by first|exact .inl rfl|exact .inr rfl|assumption):True:=⟨⟩
def ℜ2:Lean.Syntax:=ℜz2._auto_1
theorem ℜz3(_:True:=by intro _;rfl):True:=⟨⟩
def ℜ3:Lean.Syntax:=ℜz3._auto_1
theorem ℜz4(_:True:=by first|exact Or.inl rfl|exact Or.inr (Or.inl rfl)|exact Or.inr (Or.inr rfl)):True:=⟨⟩
def ℜ4:Lean.Syntax:=ℜz4._auto_1
theorem ℜz5(_:True:=by with_unfolding_all rfl):True:=⟨⟩
def ℜ5:Lean.Syntax:=ℜz5._auto_1
theorem ℜz6(_:True:=by decide +kernel):True:=⟨⟩
def ℜ6:Lean.Syntax:=ℜz6._auto_1
namespace L2
open PySem PySem.Spec PyProof.Rows
variable{us:List Value}{x:Str}{u:Value}{a b:Addr}{o:Obj}{base h:Heap}{items:Array Value}{P:Program}{w:World}{K:W.Frag}{g':Array GenState}{ch fp:List Addr}{e tg:Expr}{N:List Str}{i j:Nat}{M:Model}{E Q:Value->Shared->Prop}{s':Shared}{pins:List (Addr×Obj)}{f:Value->Value->Sem Value}{es:List Expr}{g:Int->Int->Int}{body:List Stmt}{op':CmpOp}{mA mg:Str->Option Value}{fd:FuncData}{kindOf:Str->Option NameKind}{scope:Scope}
def K1:=@List.getElem?_eq_getElem
def K2:=@List.length_map
def K4:=@PySem.wpAny_bind
def K6:=@List.length_append
def K7:=@List.getElem?_eq_some_iff
def K8:=@List.getElem?_map
def K9:=@PySem.Heap.get?_push_of_some
def KA:=@Nat.le_trans
def KC:=@List.size_toArray
def KD:=@List.getD_eq_getElem?_getD
def KG:=@List.mem_cons_self
def KH:=@Nat.le_refl
def KI:=@List.mem_cons_of_mem
def KJ:=@if_neg
def KL:=@List.mem_cons
def KN:=@List.map_append
def KO:=@if_pos
def KP:=@Bool.false_ne_true
def KQ:=@List.length_cons
def KR:=@PySem.wpAny_pure
def KU:=@List.mem_singleton
def KW:=@Nat.zero_le
def KY:=@List.length_replicate
def KZ:=@List.getElem_mem
def K_:=@List.length_take
def La:=@PySem.Heap.get?_push_size
def Lb:=@PySem.Heap.lt_size
def Lc:=@Option.map_eq_some_iff
def Ld:=@List.append_assoc
def Le:=@List.getElem?_append_right
def Lf:=@decide_eq_false
def Lg:=@Int.toNat_natCast
def Lh:=@List.mem_append_right
def Li:=@decide_eq_true
def Lj:=@List.getElem?_append_left
def Ll:=@Nat.ne_of_lt
def Lm:=@PySem.PassesOwn.never
def Ln:=@List.not_mem_nil
def Lo:=@List.length_range
def Lp:=@List.map_cons
def Lq:=@List.mem_append
def Lr:=@List.flatten_cons
def Ls:=@Nat.lt_of_lt_of_le
def Lu:=@List.mem_of_getElem?
def Lv:=@Array.getElem?_toList
def Lw:=@congrArg
def Ly:=@List.length_drop
def Lz:=@List.take_length
def L3:=@List.mem_map
def L4:=@List.pairwise_cons
def L5:=@Array.length_toList
def L6:=@List.replicate_succ
def L7:=@List.drop_eq_getElem_cons
def L8:=@List.take_succ
def L9:=@List.take_of_length_le
def LA:=@List.mem_range
def LC:=@of_decide_eq_true
def LD:=@List.drop_zero
def LF:=@List.append_nil
def LG:=@Nat.lt_of_le_of_lt
def LH:=@Nat.lt_or_ge
def LI:=@List.take_append_drop
def LJ:=@beq_eq_false_iff_ne
def LK:=@Bool.and_eq_true
def LL:=@List.getElem?_cons_succ
def LM:=@List.map_map
def LN:=@PyProof.Rows.callWith_type1
def LO:=@PySem.wpAny_callSpecial?_slot
def LP:=@PySem.wpAny_holding
def LQ:=@PySem.wpAny_mono
def LR:=@List.length_set
def LS:=@List.length_nil
def LU:=@Nat.sub_self
def LV:=@PySem.wpAny_call_entry
def LW:=@List.getElem?_eq_none_iff
def LX:=@List.mem_or_eq_of_mem_set
def LY:=@List.getElem?_toArray
def LZ:=@PySem.W.mg_none_of
def L_:=@List.nil_append
def Ma:=@List.getElem?_drop
def Mb:=@List.mem_replicate
def Mc:=@Ne.symm
def Md:=@beq_self_eq_true
def Me:=@List.cons_append
def Mf:=@List.pairwise_append
def Mg:=@List.getElem_cons_zero
def Mh:=@or_false
def Mi:=@PySem.Heap.SameBut.update
def Mj:=@List.mem_map_of_mem
def Mk:=@List.flatten_append
def Ml:=@List.take_succ_cons
def Mm:=@List.nodup_cons
def Mn:=@List.lookup_cons
def Mo:=@List.getElem?_take
def Mp:=@List.perm_middle
def Mq:=@PySem.Heap.size_push
def Mr:=@PySem.wpAny_newObj_type
def Ms:=@Nat.ne_of_gt
def Mt:=@PySem.sizeLine_eq
def Mv:=@Nat.zero_add
def Mw:=@List.all_eq_true
def Mx:=@List.range'_succ
def My:=@List.drop_length
def Mz:=@PyProof.Rows.slot_tuple_getitem
def M0:=@Nat.le_succ
def M1:=@Nat.le_of_lt
def M4:=@List.mem_append_left
def M5:=@List.find?_cons
def M6:=@Nat.min_self
def M7:=@List.range_succ
def M8:=@List.mem_of_mem_take
def M9:=@Nat.pow_le_pow_right
def MA:=@List.pairwise_map
def MB:=@decide_eq_true_eq
def MC:=@Nat.lt_irrefl
def MD:=@List.all_cons
def ME:=@List.map_take
def MF:=@PySem.wpAny_typeNameOfWhole_keyiter
def MG:=@List.length_eq_zero_iff
def MH:=@List.mem_reverse
def MI:=@List.getElem?_set_self
def MJ:=@PySem.call_meets
def MK:=@List.map_nil
def ML:=@Bool.false_eq_true
def MM:=@Nat.pow_succ
def MN:=@List.map_set
def MO:=@List.map_replicate
def MP:=@PySem.wpAny_passesOwn
def MQ:=@PySem.F.slot_tuple_iterator_next
def MR:=@Array.getElem?_eq_some_iff
def MS:=@List.ext_getElem?
def MT:=@List.pairwise_iff_getElem
def MU:=@PySem.W.kia_one
def MV:=@if_true
def MW:=@PySem.W.mg_of
def MX:=@if_false
def MY:=@decide_eq_decide
def MZ:=@Nat.sub_zero
def M_:=@PySem.F.slot_list_getattribute
def Na:=@List.ext_getElem
def Nb:=@PySem.wpAny_typeNameOf_keyiter
def Nc:=@List.getElem?_range
def Nd:=@List.length_reverse
def Nf:=@Array.toList_append
def Ng:=@List.prefix_of_prefix_length_le
def Nh:=@PySem.wpAny_getItem_str_slice
def Ni:=@Option.bind_eq_some_iff
def Nj:=@Nat.mul_assoc
def Nk:=@List.sum_cons
def Nl:=@Bool.eq_iff_iff
def Nm:=@PySem.wpAny_Call_Name_kw
def Nn:=@List.forIn_cons
def Np:=@PySem.wpAny_pyIter_tuple
def Nq:=@PySem.codeAny_builtin
def Nr:=@Nat.not_lt_zero
def Nt:=@Int.emod_nonneg
def Nu:=@Int.emod_lt_of_pos
def Nv:=@PySem.wpAny_field
def Nw:=@PySem.wpAny_truthy_bool
def Nx:=@Nat.lt_succ_of_lt
def Ny:=@List.flatMap_cons
def Nz:=@PySem.Heap.get?_update_self
def N0:=@List.length_singleton
def N1:=@PySem.wpAny_seqItems
def N2:=@List.dropLast_eq_take
def N3:=@List.getElem?_set_ne
def N4:=@PySem.Around.under_plainId
def N5:=@List.getElem?_append
def N6:=@List.reverse_reverse
def N7:=@Array.toArray_toList
def N8:=@List.mem_iff_getElem
def N9:=@Option.bind_some
def NA:=@PySem.wpAny_newList
def NB:=@Nat.add_assoc
def NC:=@List.filterMap_cons
def ND:=@List.dropWhile_cons
def NF:=@List.length_pos_iff
def NG:=@PyProof.Rows.get?_update_seq
def NH:=@PySem.W.KasT.kasWp_bind
def NI:=@List.mem_of_find?_eq_some
def NJ:=@Nat.min_eq_left
def NK:=@List.mem_filterMap
def NL:=@List.getElem?_take_of_lt
def NM:=@Nat.succ_mul
def NN:=@Nat.mul_comm
def NO:=@Nat.lt_trans
def NP:=@PySem.Obj.data_mapFields
def NQ:=@List.Pairwise.imp_of_mem
def NR:=@List.set_cons_zero
def NS:=@PySem.wpAny_setField_rec
def NU:=@Nat.eq_zero_or_pos
def NV:=@List.prefix_append
def NW:=@Bool.false_and
def NX:=@List.take_left
def NY:=@List.getElem?_replicate
def NZ:=@PySem.SeqAt.eq_list_lengthsAt
def N_:=@List.pairwise_singleton
def Oa:=@PySem.wpAny_pyIter_enum
def Ob:=@PySem.wpAny_pyIter_list
def Oc:=@PySem.wpAny_dictEntries
def Od:=@Nat.lt_trichotomy
def Oe:=@Int.emod_eq_of_lt
def Of:=@PySem.Heap.get?_update_other
def Og:=@List.pairwise_lt_range
def Oh:=@List.append_eq_nil_iff
def Oi:=@List.dropWhile_sublist
def Oj:=@List.sum_replicate_nat
def Ol:=@List.any_cons
def Om:=@PyProof.Rows.listUpdate_at
def Oo:=@Bool.and_true
def Oq:=@PySem.wpAny_attempt
def Ot:=@Nat.lt_succ_self
def Ou:=@PySem.Heap.size_update
def Ov:=@Array.toList_inj
def Ow:=@List.nodup_range
def Ox:=@Nat.min_eq_right
def Oy:=@List.pairwise_reverse
def Oz:=@List.mem_iff_getElem?
def O0:=@PySem.wpAny_isOneOf_keyiter
def O1:=@List.set_append_right
def O2:=@Int.emod_add_mul_ediv
def O3:=@List.eraseIdx_eq_take_drop_succ
def O4:=@PySem.wpAny_execs_nil
def O5:=@List.foldl_cons
def O6:=@PySem.wpAny_loadPart'
def O7:=@PySem.wpAny_typeOf
def O8:=@PyProof.Rows.listItems_at
def O9:=@PySem.post_val_or_str
def OA:=@List.range_eq_range'
def OB:=@List.count_cons
def OC:=@Nat.mul_le_mul_right
def OD:=@List.length_dropLast
def OE:=@List.takeWhile_cons
def OF:=@List.map_congr_left
def OG:=@List.reverse_append
def OH:=@List.toList_toArray
def OI:=@PySem.F.args_tuple_iterator_next_1
def OJ:=@PySem.wpAny_setField
def OK:=@Nat.mul_le_mul
def OL:=@Bool.and_false
def OM:=@PySem.wpAny_fieldsOf
def OO:=@PySem.wpAny_ite_true
def OP:=@Nat.pow_add
def OQ:=@Array.append_empty
def OR:=@PySem.F.entry_tuple_iterator_next
def OS:=@PySem.SeqAt.EqAt.of_refs
def OT:=@Array.getD_eq_getD_getElem?
def OU:=@List.getElem_range
def OV:=@Int.natAbs_natCast
def OW:=@PySem.Calls.Name_function_global
def OX:=@PySem.wpAny_standAt
def OY:=@PySem.wpAny_letOwnedTupleGo_enum
def OZ:=@PySem.SeqAt.RcNeAt.lists_lengths
def O_:=@Array.getElem?_eq_none_iff
def Pa:=@PySem.slot_list_getitem
def Pb:=@bne_self_eq_false
def Pc:=@Nat.le_succ_of_le
def Pd:=@List.map_dropLast
def Pe:=@Nat.sub_le
def Pg:=@PySem.typeIs_int
def Ph:=@PySem.wpAny_binaryOp_repeat_ref
def Pj:=@PySem.wpAny_rule
def Pl:=@bne_iff_ne
def Pm:=@PySem.Calls.call_function_entry
def Po:=@List.extract_eq_take_drop
def Pp:=@List.exists_mem_of_ne_nil
def Pq:=@Nat.not_lt
def Pr:=@Array.getElem?_eq_getElem
def Pu:=@PySem.wpAny_eqBool_int
def Pw:=@PySem.wpAny_eqBool_str
def Px:=@Option.isSome_iff_exists
def Py:=@PySem.wpAny_getItem_list_slice
def Pz:=@Nat.succ_le_succ
def P0:=@PySem.wpAny_comprehension_free
def P1:=@PySem.callType_new
def P2:=@List.map_snd_zip
def P4:=@List.Perm.eq_of_pairwise
def P5:=@List.countP_cons
def P6:=@List.zipIdx_cons
def P7:=@List.length_tail
def P8:=@Int.pow_succ
def P9:=@Nat.le_total
def PB:=@PySem.wpAny_pyNext_enum_itemD
def PC:=@Nat.add_sub_cancel_left
def PD:=@List.of_mem_zip
def PF:=@PySem.SeqAt.eq_listAt
def PJ:=@List.length_zip
def PL:=@PySem.wpAny_dictEpoch
def PN:=@List.find?_some
def PQ:=@List.mem_range'
def PR:=@PySem.wpAny_pyNext_list_item
def PX:=@PySem.Calls.callWith_builtin
def PY:=@PySem.wpAny_pyNext_enum_endD
def PZ:=@Int.le_refl
def P_:=@List.length_eq_one_iff
def Qa:=@List.drop_of_length_le
def Qb:=@Array.getElem?_eq_none
def Qc:=@Nat.lt_of_succ_lt_succ
def Qd:=@Nat.pow_pos
def Qe:=@Nat.add_mul
def Qg:=@PySem.fitsIndex_both
def Qk:=@List.drop_left
def Ql:=@List.eq_nil_or_concat
def Qm:=@PySem.wpAny_newTuple
def Qn:=@List.drop_drop
def Qo:=@List.countP_mono_left
def Qp:=@List.singleton_append
def Qq:=@List.take_zero
def Qs:=@PySem.typeIs_str
def Qv:=@Bool.true_and
def Qx:=@PySem.plainId_quiet
def Qy:=@Int.mul_assoc
def Qz:=@Bool.not_true
def Q0:=@PySem.seqIndex_neg
def Q2:=@Nat.le_of_eq
def Q6:=@Nat.add_zero
def Q7:=@Nat.mul_zero
def Q8:=@Int.zero_add
abbrev Key:=Sum Int Str
noncomputable def iW:Key->Value->Bool
 |.inl k,v=>Value.isInt k v
 |.inr x,v=>Value.isStrOf x v
noncomputable def Ju(w:World):Key->Int
 |.inl k=>hashInt k
 |.inr x=>hashStr w x
theorem bG:∀{k:Key} {v:Value},iW k v=true->(∃i t,k=Sum.inl i/\v=Value.int i t)\/(∃x t,k=Sum.inr x/\v=Value.str x t)
 |.inl i,v,h=>by
  obtain⟨t,e⟩:=Value.isInt_shape (k:=i) (v:=v) h;exact .inl ⟨i,t,rfl,e⟩
 |.inr x,v,h=>by
  obtain⟨t,e⟩:=Value.isStrOf_shape (x:=x) (v:=v) h;exact .inr ⟨x,t,rfl,e⟩
theorem wU(i:Int)(t:Tok):iW (.inl i) (.int i t)=true:=by simp[iW,Value.isInt]
theorem xl(x:Str)(t:Tok):iW (.inr x) (.str x t)=true:=by simp[iW,Value.isStrOf]
theorem Gj(a b:Int):decide ((Sum.inl a:Key)=Sum.inl b)=(a == b):=by
 by_cases e:a=b
 ·subst e;simp
 ·have h:¬ (Sum.inl a:Key)=Sum.inl b:=λq=>e (Sum.inl.inj q);rw[Lf h];exact (LJ.mpr e).symm
theorem GL(a b:Str):decide ((Sum.inr a:Key)=Sum.inr b)=decide (a=b):=by
 by_cases e:a=b
 ·subst e;simp
 ·have h:¬ (Sum.inr a:Key)=Sum.inr b:=λq=>e (Sum.inr.inj q);rw[Lf h,Lf e]
theorem FI(a:Int)(b:Str):decide ((Sum.inl a:Key)=Sum.inr b)=false:=Lf (λq=>nomatch q)
theorem EN(a:Str)(b:Int):decide ((Sum.inr a:Key)=Sum.inl b)=false:=Lf (λq=>nomatch q)
def cF(prog:Program)(w:World):PySem.KeyKind prog w Key where
 is:=iW
 hash:=Ju w
 inj:=λv a b ha hb=>by
  rcases bG ha with ⟨i,t,rfl,rfl⟩|⟨x,t,rfl,rfl⟩
  ·rcases bG hb with ⟨j,u,rfl,e⟩|⟨y,u,rfl,e⟩
   ·injection e with e1 _;rw[e1]
   ·exact nomatch e
  ·rcases bG hb with ⟨j,u,rfl,e⟩|⟨y,u,rfl,e⟩
   ·exact nomatch e
   ·injection e with e1 _;rw[e1]
 byValue:=λk v h=>by
  rcases bG h with ⟨i,t,rfl,rfl⟩|⟨x,t,rfl,rfl⟩<;>rfl
 pyHash:=λhv h=>by
  rcases bG hv with ⟨i,t,rfl,rfl⟩|⟨x,t,rfl,rfl⟩
  ·exact wpAny_pyHash_int h
  ·exact wpAny_pyHash_str h
 eqBool:=λhu hv h=>by
  rcases bG hu with ⟨i,t,rfl,rfl⟩|⟨x,t,rfl,rfl⟩
  ·rcases bG hv with ⟨j,u,rfl,rfl⟩|⟨y,u,rfl,rfl⟩
   ·rw[Gj] at h;exact Pu h
   ·rw[FI] at h;exact SeqAt.EqAt.int_str i t y u _ _ _ _ h
  ·rcases bG hv with ⟨j,u,rfl,rfl⟩|⟨y,u,rfl,rfl⟩
   ·rw[EN] at h;exact SeqAt.EqAt.str_int x t j u _ _ _ _ h
   ·rw[GL] at h;exact Pw h
 «strs»:=λk x t v h=>by
  rcases bG h with ⟨i,u,rfl,e⟩|⟨y,u,rfl,e⟩
  ·exact nomatch e
  ·injection e with e1 _
   subst e1
   cases v<;>rfl
theorem qU(prog:Program)(w:World)(i:Int)(t:Tok):(cF prog w).is (.inl i) (.int i t)=true:=wU i t
theorem pM(prog:Program)(w:World)(x:Str)(t:Tok):(cF prog w).is (.inr x) (.str x t)=true:=xl x t
inductive V where
 |aO|bl (b:Bool)|int (i:Int)|str (x:Str)|rq (b:Array UInt8)|Hb (b:UInt64)|ref (a:Addr)|ty (n:String)
 deriving DecidableEq
variable{xs:List V}
def RelV:V->Value->Prop
 |.aO,u=>u=Value.none
 |.bl b,u=>u=Value.bool b
 |.int i,u=>∃t,u=Value.int i t
 |.str x,u=>∃t,u=Value.str x t
 |.rq b,u=>∃t,u=Value.bytes b t
 |.Hb b,u=>∃t,u=Value.float b t
 |.ref a,u=>u=Value.ref a
 |.ty n,u=>u=Value.type n
abbrev Vals:List V->List Value->Prop:=Paired RelV
theorem Vals.length(r:Vals xs us):xs.length=us.length:=Paired.length r
theorem Vals.get:∀{xs:List V} {us:List Value} {i:Nat} {x:V},Vals xs us->xs[i]?=some x->∃u,us[i]?=some u/\RelV x u
 |_,_,_,_,.nil,e=>by simp at e
 |_,_,0,_,.cons r _,e=>by simp at e;subst e;exact⟨_,rfl,r⟩
 |_,_,i+1,x,.cons _ t,e=>by
  obtain⟨u,h1,h2⟩:=Vals.get (i:=i) (x:=x) t (by simpa using e)
  exact⟨u,by simpa using h1,h2⟩
theorem Vals.set{x:V}(r:RelV x u):∀{xs:List V} {us:List Value} (i:Nat),Vals xs us->Vals (xs.set i x) (us.set i u)
 |_,_,_,.nil=>.nil
 |_,_,0,.cons _ t=>.cons r t
 |_,_,i+1,.cons q t=>.cons q (Vals.set r i t)
theorem Vals.append:∀{xs ys:List V} {us ws:List Value},Vals xs us->Vals ys ws->Vals (xs++ys) (us++ws)
 |_,_,_,_,.nil,s=>s
 |_,_,_,_,.cons r t,s=>.cons r (Vals.append t s)
theorem Vals.take:∀{xs:List V} {us:List Value} (n:Nat),Vals xs us->Vals (xs.take n) (us.take n)
 |_,_,0,_=>.nil
 |_,_,_+1,.nil=>.nil
 |_,_,n+1,.cons r t=>.cons r (Vals.take n t)
theorem Vals.drop:∀{xs:List V} {us:List Value} (n:Nat),Vals xs us->Vals (xs.drop n) (us.drop n)
 |_,_,0,r=>r
 |_,_,_+1,.nil=>.nil
 |_,_,n+1,.cons _ t=>Vals.drop n t
def jQ:Option V->Option Value->Prop
 |some v,some u=>RelV v u
 |none,none=>True
 |_,_=>False
def KV{κ:Type}:List (κ×V)->List (κ×Value)->Prop:=Paired λ(p:κ×V) (q:κ×Value)=>p.1=q.1/\RelV p.2 q.2
noncomputable def kV:Key->V
 |.inl i=>.int i
 |.inr x=>.str x
inductive HO where
 |lst (xs:List V)
 |tup (xs:List V)
 |dK (kvs:List (Key×V))|dT (kvs:List (List Key×V))
 |set (S:Int->Bool) (n:Nat)
 |ins (C dx:Addr) (fs:List (Str×V))
 |own (x:Addr)
 |xd (fs:List (Str×V))
 |met (f x:Addr)
 |nq (lo hi:Int)
 |i9 (o:Obj) (u:HO)
 |Ad (ps:Array Value)
 |ext (φ:Heap->Prop)
abbrev Hp:=Addr->Option HO
variable{H:Hp}
noncomputable def upd(H:Hp)(a:Addr)(o:HO):Hp:=λb=>if b=a then some o else H b
theorem aa{o:HO}:upd H a o a=some o:=by unfold upd;rw[KO rfl]
theorem af{o:HO}(h:b≠a):upd H a o b=H b:=by unfold upd;rw[KJ h]
theorem uF{o u:HO}:upd (upd H a o) a u=upd H a u:=by
 funext b;unfold upd;split<;>rfl
theorem ae{o:HO}(h:H a=some o)(h':H b=none):a≠b:=by
 intro e;subst e;rw[h] at h';cases h'
noncomputable def Jm:List Value->Str
 |.str q _::_=>q
 |_=>Str.ofString ""
def A1(ps:Array Value):Str:=Jm ps.toList
def Ej(H:Hp)(q:Str)(cv:Value):Prop:=∃(c:Addr) (oc:Obj) (vs:Array Value) (t:Tok),cv=.ref c/\H c=some (.i9 oc (.own c))/\oc.data=.fields vs/\vs[1]?=some (.str q t)
def eF(h:Heap)(a:Addr)(items:Array Value):Prop:=∃o:Obj,h.get? a=some o/\o.cls=.type "tuple"/\∃n,o.data=.seq items n/\o.dict=none
theorem eF.to(x:eF h a items):IsTup h a items:=let ⟨o,e,c,n,d,_⟩:=x;⟨o,e,c,n,d⟩
theorem eF.new(h:Heap)(items:Array Value):eF (h.push {cls:=.type "tuple",data:=.seq items}) h.objs.size items:=⟨_,La h rfl,rfl,_,rfl,rfl⟩
theorem eF.lt(x:eF h a items):a<h.objs.size:=x.to.lt
section
variable (P:Program) (w:World)
def bw(H:Hp)(h:Heap)(a:Addr):HO->Prop
 |.lst xs=>xs.length<=sizeLine/\∃(its:List Value) (n:Nat),Vals xs its/\h.get? a=some {cls:=.type "list",data:=.seq its.toArray n}
 |.tup xs=>xs.length<=sizeLine/\∃its:List Value,Vals xs its/\eF h a its.toArray
 |.dK kvs=>kvs.length<=sizeLine/\(a == sysModules)=false/\∃vs,KV kvs vs/\h.DictOf (cF P w) a vs
 |.dT kvs=>kvs.length<=sizeLine/\(a == sysModules)=false/\∃xs:List (List Key×Addr×Value),
   Paired (λ(p:List Key×V) (q:List Key×Addr×Value)=>p.1=q.1/\H q.2.1=some (.tup (p.1.map kV))/\RelV p.2 q.2.2) kvs xs /\
   ∃o es ep,h.get? a=some o/\o.ExactDict/\o.data=.dict es ep/\es.toList=xs.map (entryOfKey (tupleKind (cF P w)))/\(xs.map (·.1)).Nodup
 |.set S n=>h.SetOf (intKind P w) a S n
 |.ins C dx fs=>H dx=some (.own a)/\fs.length<=1000/\dx≠a/\h.get? a=some (W.instObj C dx) /\
   ∃mA,h.Ns1 dx mA/\(∀f,jQ (fs.lookup f) (mA f))/\PySem.Within mA (fs.map (·.1))
 |.own _=>∃o,h.get? a=some o
 |.xd fs=>∃mA,h.Ns1 a mA/\∀f,jQ (fs.lookup f) (mA f)
 |.nq lo hi=>∃t u v,h.get? a=some {cls:=.type "range",data:=.fields #[.int lo t,.int hi u,.int 1 v]}
 |.i9 o u=>h.get? a=some o/\bw H h a u
 |.Ad ps=>∃qs:Array Value,h.get? a=some {cls:=.none,data:=.fields qs}/\TriplesOk qs.toList/\∀pos cv,codeAmong pos qs.toList=some cv->Ej H (A1 ps) cv
 |.met f x=>h.get? a=some (W.methodObj (.ref f) (.ref x))
 |.ext φ=>φ h/\(∃o,h.get? a=some o)/\∀h1 h2:Heap,φ h1->(∀o,h1.get? a=some o->h2.get? a=some o)->φ h2
def i_(H:Hp)(h:Heap):Prop:=∀a o,H a=some o->bw P w H h a o
end
section
variable {P:Program} {w:World} {H H':Hp} {h h':Heap} {a:Addr} {o:HO}
theorem bw.lt(x:bw P w H h a o):a<h.objs.size:=by
 cases o with
 |lst xs=>obtain⟨_,_,_,_,e⟩:=x;exact Lb e
 |tup xs=>obtain⟨_,_,_,p⟩:=x;exact p.lt
 |dK kvs=>obtain⟨_,_,_,_,o,_,_,e,_⟩:=x;exact Lb e
 |dT kvs=>obtain⟨_,_,_,_,o,_,_,e,_⟩:=x;exact Lb e
 |set S n=>obtain⟨o,_,_,_,e,_⟩:=x;exact Lb e
 |ins C dx fs=>obtain⟨_,_,_,e,_⟩:=x;exact Lb e
 |own y=>obtain⟨_,e⟩:=x;exact Lb e
 |xd fs=>obtain⟨_,⟨_,_,_,e,_⟩,_⟩:=x;exact Lb e
 |nq lo hi=>obtain⟨_,_,_,e⟩:=x;exact Lb e
 |i9 ob u=>obtain⟨e,_⟩:=x;exact Lb e
 |Ad ps=>obtain⟨_,e,_⟩:=x;exact Lb e
 |met f y=>exact Lb (show h.get? a=some _ from x)
 |ext φ=>obtain⟨_,⟨_,e⟩,_⟩:=x;exact Lb e
theorem Paired.Cp{α β:Type}{F G:α->β->Prop}:∀{l₁:List α} {l₂:List β},Paired F l₁ l₂->(∀a b,F a b->G a b)->Paired G l₁ l₂
 |_,_,.nil,_=>.nil
 |_,_,.cons r t,f=>.cons (f _ _ r) (Paired.Cp t f)
theorem bw.n_(x:bw P w H h a o)(k:∀b u,(b=a\/H b=some (.own a))->h.get? b=some u->h'.get? b=some u)
  (ho:∀b,H b=some (.own a)->H' b=some (.own a)) (ht:∀b xs,H b=some (.tup xs)->H' b=some (.tup xs)) (hz:∀b o u,H b=some (.i9 o u)->H' b=some (.i9 o u)):bw P w H' h' a o:=by
 induction o with
 |lst xs=>obtain⟨z,its,n,r,e⟩:=x;exact⟨z,its,n,r,k _ _ (.inl rfl) e⟩
 |tup xs=>obtain⟨z,its,r,ob,e,c⟩:=x;exact⟨z,its,r,ob,k _ _ (.inl rfl) e,c⟩
 |dK kvs=>obtain⟨z,y,vs,r,ob,es,ep,e,c⟩:=x;exact⟨z,y,vs,r,ob,es,ep,k _ _ (.inl rfl) e,c⟩
 |dT kvs =>
  obtain⟨z,y,xs,r,ob,es,ep,e,c⟩:=x;exact⟨z,y,xs,Paired.Cp r λp q z=>⟨z.1,ht _ _ z.2.1,z.2.2⟩,ob,es,ep,k _ _ (.inl rfl) e,c⟩
 |set S n=>obtain⟨ob,es,ep,t,e,c⟩:=x;exact⟨ob,es,ep,t,k _ _ (.inl rfl) e,c⟩
 |ins C dx fs =>
  obtain⟨d,z,ne,e,mA,⟨od,es,ep,e2,c⟩,r⟩:=x;exact⟨ho _ d,z,ne,k _ _ (.inl rfl) e,mA,⟨od,es,ep,k _ _ (.inr d) e2,c⟩,r⟩
 |own y=>obtain⟨ob,e⟩:=x;exact⟨ob,k _ _ (.inl rfl) e⟩
 |xd fs=>obtain⟨mA,⟨od,es,ep,e,c⟩,r⟩:=x;exact⟨mA,⟨od,es,ep,k _ _ (.inl rfl) e,c⟩,r⟩
 |nq lo hi=>obtain⟨t,u,v,e⟩:=x;exact⟨t,u,v,k _ _ (.inl rfl) e⟩
 |i9 ob u ih=>obtain⟨e,q⟩:=x;exact⟨k _ _ (.inl rfl) e,ih q⟩
 |Ad ps =>
  obtain⟨qs,e,t,f⟩:=x;exact⟨qs,k a _ (.inl rfl) e,t,λpos cv q=>let ⟨c,oc,vs,t',e1,e2,e3⟩:=f pos cv q;⟨c,oc,vs,t',e1,hz _ _ _ e2,e3⟩⟩
 |met f y =>
  have e:h.get? a=some (W.methodObj (.ref f) (.ref y)):=x;show h'.get? a=some (W.methodObj (.ref f) (.ref y));exact k a _ (.inl rfl) e
 |ext φ=>obtain⟨p,⟨o,e⟩,st⟩:=x;exact⟨st _ _ p λo q=>k _ _ (.inl rfl) q,⟨o,k _ _ (.inl rfl) e⟩,st⟩
theorem i_.lt(x:i_ P w H h)(e:H a=some o):a<h.objs.size:=(x a o e).lt
theorem i_.fresh(x:i_ P w H h)(e:h.objs.size<=a):H a=none:=by
 cases q:H a with
 |none=>rfl
 |some u=>exact absurd (Ls (x.lt q) e) (MC _)
theorem i_.kept(x:i_ P w H h)(k:∀b u,h.get? b=some u->h'.get? b=some u):i_ P w H h':=λa o e =>
 (x a o e).n_ (λb u _ q=>k b u q) (λ_ q=>q) (λ_ _ q=>q) λ_ _ _ q=>q
theorem i_.laid(x:i_ P w H h)(k:∀b u,h.get? b=some u->h'.get? b=some u)(hp:h.objs.size<=a)(new:bw P w (upd H a o) h' a o):i_ P w (upd H a o) h':=λb u e=>by
 have hn:=x.fresh hp;by_cases hb:b=a
 ·subst hb;rw[aa] at e;cases e;exact new
 ·rw[af hb] at e;exact (x b u e).n_ (λc v _ q=>k c v q) (λc q=>by rw[af (ae q hn)];exact q) (λc xs q=>by rw[af (ae q hn)];exact q) λc _ _ q=>by rw[af (ae q hn)];exact q
end
def Rd(H:Hp)(a:Addr)(u:HO):Prop:=H a=some u\/∃o,H a=some (.i9 o u)
theorem Rd.ok{u:HO}(r:Rd H a u)(x:i_ P w H h):bw P w H h a u:=by
 rcases r with r|⟨o,r⟩
 ·exact x a u r
 ·obtain⟨_,q⟩:=x a _ r;exact q
def Jg:Option HO->Prop
 |some (.lst _)=>True
 |some (.dK _)=>True
 |some (.dT _)=>True
 |some (.set _ _)=>True
 |some (.ins _ _ _)=>True
 |some (.ext _)=>True
 |_=>False
section
variable {P:Program} {w:World} {H:Hp} {h h':Heap} {x e:Addr} {o':HO}
theorem i_.write(ok:i_ P w H h)(mu:Jg (H x))(he:e=x\/H e=some (.own x))(k:∀b u,b≠e->h.get? b=some u->h'.get? b=some u)(heo:∃u,h'.get? e=some u)
  (new:bw P w (upd H x o') h' x o'):i_ P w (upd H x o') h':=λb u q=>by
 have nown:∀c y,H c=some (.own y)->c≠x:=λc y r z=>by subst z;rw[r] at mu;exact mu
 have ntup:∀c xs,H c=some (.tup xs)->c≠x:=λc xs r z=>by subst z;rw[r] at mu;exact mu
 have nfrz:∀c o1 u1,H c=some (.i9 o1 u1)->c≠x:=λc _ _ r z=>by subst z;rw[r] at mu;exact mu
 by_cases hb:b=x
 ·subst hb;rw[aa] at q;cases q;exact new
 ·rw[af hb] at q;by_cases hbe:b=e
  ·have q':H b=some (.own x):=by
    rcases he with z|z
    ·exact absurd (hbe.trans z) hb
    ·rw[hbe];exact z
   rw[q] at q';cases q';obtain⟨v,hv⟩:=heo;exact⟨v,by rw[hbe];exact hv⟩
  ·refine (ok b u q).n_ (λc v hc r=>k c v ?_ r) (λc r=>by rw[af (nown c b r)];exact r) (λc xs r=>by rw[af (ntup c xs r)];exact r) λc _ _ r=>by rw[af (nfrz c _ _ r)];exact r
   rcases hc with rfl|hc
   ·exact hbe
   ·rintro rfl;rcases he with z|z
    ·exact nown c b hc z
    ·rw[hc] at z;cases z;exact hb rfl
end
structure Un (fs ex:List Addr) (H H':Hp) (h h':Heap):Prop where
 keep:∀b o,h.get? b=some o->H b=none->b∉fs->b∉ex->h'.get? b=some o
 slot:∀b o,h.get? b=some o->H b=none->b∈fs->b∉ex->∃sl,h'.get? b=some {o with slots:=sl}
 free:∀b o,h.get? b=some o->H b=none->b∉ex->H' b=none
 there:∀b o,h.get? b=some o->b∉ex->∃o',h'.get? b=some o'
 pL:∀b xs,H b=some (.tup xs)->H' b=some (.tup xs)
 ot:∀b o u,H b=some (.i9 o u)->H' b=some (.i9 o u)
 me:∀b ps,H b=some (.Ad ps)->∃more,H' b=some (.Ad (ps++more))
section
variable {fs fs' ex ex':List Addr} {H H1 H2:Hp} {h h1 h2 h':Heap} {a x e:Addr} {o:HO}
theorem Un.any(u:Un fs ex H H1 h h1){ob:Obj}(q:h.get? b=some ob)(n:H b=none)(hx:b∉ex):∃sl,h1.get? b=some {ob with slots:=sl}:=by
 by_cases hb:b∈fs
 ·exact u.slot b ob q n hb hx
 ·exact⟨ob.slots,u.keep b ob q n hb hx⟩
theorem Un.kept(k:∀b u,h.get? b=some u->h'.get? b=some u):Un fs ex H H h h':=
 ⟨λb ob q _ _ _=>k b ob q,λb ob q _ _ _=>⟨ob.slots,k b ob q⟩,λ_ _ _ n _=>n,λb ob q _=>⟨ob,k b ob q⟩,λ_ _ q=>q,λ_ _ _ q=>q,λ_ ps q=>⟨#[],by rw[q];simp⟩⟩
theorem Un.refl:Un fs ex H H h h:=Un.kept λ_ _ q=>q
theorem Un.laid(k:∀b u,h.get? b=some u->h'.get? b=some u)(hp:h.objs.size<=a)(hn:H a=none):Un fs ex H (upd H a o) h h' where
 keep:=λb u q _ _ _=>k b u q
 slot:=λb u q _ _ _=>⟨u.slots,k b u q⟩
 free:=λb u q n _=>by rw[af (Ll (Ls (Lb q) hp))];exact n
 there:=λb u q _=>⟨u,k b u q⟩
 pL:=λb xs q=>by rw[af (ae q hn)];exact q
 ot:=λb u xs q=>by rw[af (ae q hn)];exact q
 me:=λb ps q=>⟨#[],by rw[af (ae q hn),q];simp⟩
theorem Un.write(mu:Jg (H x))(he:e=x\/H e=some (.own x))(k:∀b u,b≠e->h.get? b=some u->h'.get? b=some u)(heo:∃u,h'.get? e=some u):Un fs ex H (upd H x o) h h':=by
 have hx:∀b,H b=none->b≠x:=λb n z=>by subst z;rw[n] at mu;exact mu
 have hb:∀b,H b=none->b≠e:=λb n z=>by
  subst z;rcases he with r|r
  ·exact hx b n r
  ·rw[n] at r;cases r
 have hm:∀b u,H b=some u->¬ Jg (some u)->b≠x:=λb u q nm z=>by subst z;rw[q] at mu;exact nm mu
 refine⟨λb u q n _ _=>k b u (hb b n) q,λb u q n _ _=>⟨u.slots,k b u (hb b n) q⟩,λb u q n _=>by rw[af (hx b n)];exact n,λb u q _=>?_,
  λb xs q=>by rw[af (hm b _ q λz=>z)];exact q,λb u xs q=>by rw[af (hm b _ q λz=>z)];exact q,λb ps q=>⟨#[],by rw[af (hm b _ q λz=>z),q];simp⟩⟩
 by_cases hbe:b=e
 ·subst hbe;exact heo
 ·exact⟨u,k b u hbe q⟩
end
noncomputable def IY(h:Heap)(H:Hp):List Addr:=(List.range h.objs.size).filter λa=>(H a).isSome
def lZ(h:Heap)(H:Hp):Heap:=W.hideAll h (IY h H)
theorem wJ(h:Heap)(H:Hp):(lZ h H).objs.size=h.objs.size:=W.hideAll_size _ _
theorem i4(e:h.get? b=some o)(n:H b=none):(lZ h H).get? b=some o:=
 W.hideAll_get _ e λhm=>by
  have q:(H b).isSome=true:=(List.mem_filter.mp hm).2;rw[n] at q;simp at q
theorem C5(e:(lZ h H).get? b=some o):h.get? b=some o/\H b=none:=by
 have e':h.get? b=some o:=W.of_hideAll (IY h H) e;refine⟨e',?_⟩
 cases q:H b with
 |none=>rfl
 |some x =>
  have hm:b∈IY h H:=List.mem_filter.mpr ⟨LA.mpr (Lb e'),by simp[q]⟩
  have z:(lZ h H).get? b=none:=W.hideAll_none (IY h H) hm;rw[z] at e;cases e
noncomputable def Dy(g h:Heap)(L:Addr):List (Addr×Obj):=(List.range h.objs.size).filterMap λa=>if a=L\/(g.get? a).isSome=true then none else (h.get? a).map λo=>(a,o)
def rest(g h:Heap)(L d:Addr):List (Addr×Obj):=(Dy g h L).filter λp=>decide (p.1≠d)
noncomputable def d8:List Str:=["by_worth","by_weight","code_of"]
def bR(K:W.Frag):List (Addr×Addr×Str):=d8.filterMap λx=>(W.tabIn K x).map λp=>(p.1,p.2,(x++".<locals>.")++"<lambda>")
def TabsOk(K:W.Frag)(H:Hp):Prop:=∀t∈bR K,∃more,H t.2.1=some (.Ad (#[.str t.2.2 0]++more))
theorem TabsOk.un{fs ex:List Addr}{H1:Hp}{h1:Heap}(x:TabsOk K H)(u:Un fs ex H H1 h h1):TabsOk K H1:=λt ht=>by
 obtain⟨m,e⟩:=x t ht;obtain⟨m2,e2⟩:=u.me _ _ e;exact⟨m++m2,by rw[e2,Array.append_assoc]⟩
def FY(mg:Str->Option Value)(h:Heap):Prop:=∃bm ob,mg "__builtins__"=some (.ref bm)/\bm≠builtinsNs/\h.get? bm=some ob/\ob.cls=.type "module"/\ob.dict=some builtinsNs/\ob.data=.plain
structure Mod (K:W.Frag) (mg:Str->Option Value) (base:Heap):Prop where
 JK:K.In base
 glob:base.Ns mainGlobals mg
 blt:∃mb,base.Ns builtinsNs mb/\∀x:Str,x≠"__name__"->mb x=bootBuiltins x
 nolimit:base.NoLimit
 codes:∀t∈bR K,W.CodeHd base t.1 t.2.1
 bm:FY mg base
structure Cx where
 prog:Program
 w:World
 K:W.Frag
 mg:Str->Option Value
 base:Heap
 A:Around
 N:List Str
 s₀:Shared
 H₀:Hp
 env:Env
 outer:List Env
 stack:List Env
 ex:List Addr
 fn:Str->Bool
 calm:Bool
 pn:List (Addr×Obj)
 xe:Value->Shared->Prop
variable{X:Cx}
noncomputable def yh(l:List Env):List Addr:=l.filterMap (·.frame)
abbrev Cx.fs(X:Cx):List Addr:=yh X.outer
def IT(sc:Scope)(x:Str):Prop:=sc.names.lookup x=some .local\/sc.names.lookup x=some .cell\/sc.names.lookup x=some .free
def Loc(sc:Scope)(x:Str):Prop:=sc.names.lookup x=some .local\/sc.names.lookup x=some .cell
def Look(env:Env)(h:Heap)(m:Str->Option Value)(x:Str)(u:Value):Prop:=
 (env.kindOf x=some .local/\m x=some u)\/((env.kindOf x=some .cell\/env.kindOf x=some .free)/\∃c,env.cells.lookup x=some c/\h.IsCell c (some u))
structure Cx.Ok (X:Cx):Prop where
 mod:Mod X.K X.mg X.base
 kind:X.env.scope.kind=.function
 glob:X.env.globals=mainGlobals
 blt:X.env.builtins=builtinsNs
 above:X.s₀.heap.objs.size<=X.env.locals
 inj:∀x y c,X.env.cells.lookup x=some c->X.env.cells.lookup y=some c->x=y
 has:∀x,(X.env.kindOf x=some .cell\/X.env.kindOf x=some .free)->∃c,X.env.cells.lookup x=some c
 Hs:∀x c,X.fn x=true->X.env.cells.lookup x=some c->X.s₀.heap.objs.size<=c
 hd:X.calm=true->X.A.handled=none
 frames:X.A.frames=some X.stack
 Jf:X.stack=X.outer\/(X.stack=X.env::X.outer/\X.env.frame=some X.env.locals)
 Kb:∀b∈X.ex,b≠X.env.locals/\∀x c,X.env.cells.lookup x=some c->c≠b
 bs:∀b o,X.base.get? b=some o->X.s₀.heap.get? b=some o/\X.H₀ b=none
 BE:X.base.objs.size<=X.s₀.heap.objs.size
 xO:∀b o,X.base.get? b=some o->b∉X.ex
 Dm:∀b∈X.ex,b∉X.fs
 kA:X.s₀.heap.FunFrames X.base X.outer
 Ha:∀b∈X.fs,X.H₀ b=none
 tabs:TabsOk X.K X.H₀
structure Inv (X:Cx) (pins:List (Addr×Obj)) (σ:List (Option V)) (H:Hp) (s:Shared):Prop where
 ok:X.Ok
 os:s.os=X.s₀.os
 bare:AllBare s.gens
 base:Un X.fs X.ex X.H₀ H X.s₀.heap s.heap
 loc:∃m,s.heap.Ns X.env.locals m/\∀(i:Nat) (x:Str) (v:V),X.N[i]?=some x->σ[i]?=some (some v)->IT X.env.scope x->∃u,RelV v u/\Look X.env s.heap m x u
 cell:∀x c,X.env.cells.lookup x=some c->∃v,s.heap.IsCell c v
 free:H X.env.locals=none
 fQ:∀x c,X.env.cells.lookup x=some c->H c=none
 pin:∀p∈X.pn++pins,s.heap.get? p.1=some p.2/\H p.1=none/\p.1≠X.env.locals/\p.1∉X.fs/\∀v,p.2.data≠.cell v
 bg:i_ X.prog X.w H s.heap
 len:σ.length=X.N.length
section
variable {X:Cx} {pins:List (Addr×Obj)} {σ:List (Option V)} {H H':Hp} {s:Shared} {h':Heap}
theorem Cx.Ok.JG(ok:X.Ok)(e:X.base.get? b=some o):b∉X.fs:=λhb=>by
 have:=(ok.kA.mem hb).1;rw[e] at this;cases this
theorem Inv.bs(I:Inv X pins σ H s):∀b o,X.base.get? b=some o->s.heap.get? b=some o/\H b=none:=λb o e =>
 ⟨I.base.keep b o (I.ok.bs b o e).1 (I.ok.bs b o e).2 (I.ok.JG e) (I.ok.xO b o e),I.base.free b o (I.ok.bs b o e).1 (I.ok.bs b o e).2 (I.ok.xO b o e)⟩
theorem Inv.bk(I:Inv X pins σ H s):∀b o,X.base.get? b=some o->s.heap.get? b=some o:=λb o e=>(I.bs b o e).1
theorem Inv.mod(I:Inv X pins σ H s):Mod X.K X.mg X.base:=I.ok.mod
theorem Inv.mx(I:Inv X pins σ H s):X.K.In s.heap:=I.ok.mod.JK.keeps I.bk
theorem Inv.nolimit(I:Inv X pins σ H s):s.heap.NoLimit:=I.ok.mod.nolimit.keeps I.bk
theorem Inv.lt(I:Inv X pins σ H s):X.env.locals<s.heap.objs.size:=let ⟨_,hn,_⟩:=I.loc;hn.lt
theorem Inv.sz(I:Inv X pins σ H s):X.s₀.heap.objs.size<=s.heap.objs.size:=KA I.ok.above (M1 I.lt)
theorem Inv.Ik(I:Inv X pins σ H s)(h:s.heap.objs.size<=a):a∉X.fs:=λhb=>by
 obtain⟨_,o,ho,_⟩:=I.ok.kA.mem hb;exact absurd (Ls (Lb ho) (KA I.sz h)) (MC _)
theorem Inv.Gw(I:Inv X pins σ H s):∀x c,X.env.cells.lookup x=some c->c≠X.env.locals:=λx c e z=>by
 obtain⟨v,o,ho,hd⟩:=I.cell x c e;obtain⟨m,⟨o',es,ep,ho',hd',_⟩,_⟩:=I.loc;rw[z,ho'] at ho;cases ho;rw[hd'] at hd;cases hd
theorem Inv.kA(I:Inv X pins σ H s):s.heap.FunFrames X.base X.outer:=by
 have all:∀(l:List Env),(∀b∈yh l,b∈X.fs)->X.s₀.heap.FunFrames X.base l->s.heap.FunFrames X.base l:=by
  intro l
  induction l with
  |nil=>intro _ _;trivial
  |cons env r ih =>
   intro hs hl;obtain⟨hk,⟨L,o,hf,hn,ho,hd⟩,hr⟩:=hl;have hL:L∈X.fs:=hs L (by unfold yh;rw[NC,hf];exact KG)
   obtain⟨sl,e⟩:=I.base.slot L o ho (I.ok.Ha L hL) hL λz=>I.ok.Dm L z hL;exact⟨hk,⟨L,_,hf,hn,e,hd⟩,ih (λb hb=>hs b (by unfold yh;rw[NC,hf];exact KI _ hb)) hr⟩
 exact all X.outer (λ_ hb=>hb) I.ok.kA
theorem Inv.stack(I:Inv X pins σ H s):s.heap.FunFrames X.base X.stack:=by
 rcases I.ok.Jf with e|⟨e,hf⟩
 ·rw[e];exact I.kA
 ·rw[e];obtain⟨m,hn,_⟩:=I.loc;refine .cons (by rw[I.ok.kind];decide) hf hn ?_ I.kA
  exact Heap.get?_none_of_le (KA I.ok.BE I.ok.above)
theorem Inv.oy(I:Inv X pins σ H s):∀b∈yh X.stack,b∈X.env.locals::X.fs:=λb hb=>by
 rcases I.ok.Jf with e|⟨e,hf⟩
 ·rw[e] at hb;exact KI _ hb
 ·rw[e] at hb;unfold yh at hb;rw[NC,hf] at hb;exact hb
theorem Inv.oa(I:Inv X pins σ H s):∀b∈yh X.stack,H b=none:=λb hb=>by
 rcases KL.mp (I.oy b hb) with e|hb
 ·rw[e];exact I.free
 ·obtain⟨_,o,ho,_⟩:=I.ok.kA.mem hb;exact I.base.free b o ho (I.ok.Ha b hb) λz=>I.ok.Dm b z hb
theorem Inv.step{t':Nat}{d':Drawn}(I:Inv X pins σ H s)
  (hch:∀b∈ch,(b∈X.ex\/X.s₀.heap.objs.size<=b)/\b≠X.env.locals/\(∀x c,X.env.cells.lookup x=some c->c≠b)/\∀p∈X.pn++pins,p.1≠b)
  (keep:∀b o,b≠X.env.locals->b∉X.fs->b∉ch->s.heap.get? b=some o->H b=none->h'.get? b=some o)
  (slot:∀b o,b≠X.env.locals->b∈X.fs->b∉ch->s.heap.get? b=some o->H b=none->∃sl,h'.get? b=some {o with slots:=sl}) (free:∀b o,b∉ch->s.heap.get? b=some o->H b=none->H' b=none)
  (there:∀b o,b∉ch->s.heap.get? b=some o->∃o',h'.get? b=some o')
  (pL:∀b xs,H b=some (.tup xs)->H' b=some (.tup xs)) (ot:∀b o u,H b=some (.i9 o u)->H' b=some (.i9 o u)) (me:∀b ps,H b=some (.Ad ps)->∃more,H' b=some (.Ad (ps++more)))
  (ns:∀m,s.heap.Ns X.env.locals m->h'.Ns X.env.locals m) (bg:i_ X.prog X.w H' h') (hg:AllBare g') :
  Inv X pins σ H' {s with heap:=h',gens:=g',drawn:=d',toks:=t'}:=by
 have neL:∀b o,X.s₀.heap.get? b=some o->b≠X.env.locals:=λb o e=>Ll (Ls (Lb e) I.ok.above);have neC:∀b o,X.s₀.heap.get? b=some o->b∉X.ex->b∉ch:=λb o e hx hb=>by
  rcases (hch b hb).1 with z|z
  ·exact hx z
  ·exact absurd (Ls (Lb e) z) (MC _)
 have cellK:∀x c,X.env.cells.lookup x=some c->∀v,s.heap.IsCell c v->h'.IsCell c v:=λx c e v ⟨o,ho,hd⟩=>by
  have nch:c∉ch:=λz=>(hch c z).2.2.1 x c e rfl;by_cases hc:c∈X.fs
  ·obtain⟨sl,q⟩:=slot c o (I.Gw x c e) hc nch ho (I.fQ x c e);exact⟨_,q,hd⟩
  ·exact⟨o,keep c o (I.Gw x c e) hc nch ho (I.fQ x c e),hd⟩
 refine⟨I.ok,I.os,hg,⟨λb o e n hb hx=>?_,λb o e n hb hx=>?_,λb o e n hx=>?_,λb o e hx=>?_,λb xs e=>pL b xs (I.base.pL b xs e),λb o xs e=>ot b o xs (I.base.ot b o xs e),λb ps e=>?_⟩,?_,λx c e=>?_,?_,λx c e=>?_,λp hp=>?_,bg,I.len⟩
 ·exact keep b o (neL b o e) hb (neC b o e hx) (I.base.keep b o e n hb hx) (I.base.free b o e n hx)
 ·obtain⟨sl,e1⟩:=I.base.slot b o e n hb hx;obtain⟨sl',e2⟩:=slot b _ (neL b o e) hb (neC b o e hx) e1 (I.base.free b o e n hx);exact⟨sl',e2⟩
 ·obtain⟨o',e1⟩:=I.base.there b o e hx;exact free b o' (neC b o e hx) e1 (I.base.free b o e n hx)
 ·obtain⟨o',e1⟩:=I.base.there b o e hx;exact there b o' (neC b o e hx) e1
 ·obtain⟨m1,e1⟩:=I.base.me b ps e;obtain⟨m2,e2⟩:=me b _ e1;exact⟨m1++m2,by rw[e2,Array.append_assoc]⟩
 ·obtain⟨m,hn,hl⟩:=I.loc;refine⟨m,ns m hn,λi x v e1 e2 e3=>?_⟩;obtain⟨u,r,l⟩:=hl i x v e1 e2 e3;refine⟨u,r,?_⟩;rcases l with l|⟨k,c,e,z⟩
  ·exact .inl l
  ·exact .inr ⟨k,c,e,cellK x c e _ z⟩
 ·obtain⟨v,z⟩:=I.cell x c e;exact⟨v,cellK x c e v z⟩
 ·obtain⟨m,⟨o,_,_,ho,_⟩,_⟩:=I.loc;exact free _ o (λz=>(hch _ z).2.1 rfl) ho I.free
 ·obtain⟨v,o,ho,hd⟩:=I.cell x c e;exact free c o (λz=>(hch c z).2.2.1 x c e rfl) ho (I.fQ x c e)
 ·obtain⟨e,n,ne,nf,d⟩:=I.pin p hp;have nch:p.1∉ch:=λz=>(hch p.1 z).2.2.2 p hp rfl;exact⟨keep p.1 p.2 ne nf nch e n,free p.1 p.2 nch e n,ne,nf,d⟩
theorem Inv.un{t':Nat}(I:Inv X pins σ H s)(u:Un X.fs [] H H' s.heap h')(bg:i_ X.prog X.w H' h'):Inv X pins σ H' {s with heap:=h',toks:=t'}:=by
 obtain⟨m,⟨o,es,ep,ho,r⟩,_⟩:=id I.loc;obtain⟨sl,hL⟩:=u.any ho I.free (by simp)
 exact I.step (g':=s.gens) (d':=s.drawn) (ch:=[]) (λ_ z=>nomatch z) (λb o _ hb _ e n=>u.keep b o e n hb (by simp)) (λb o _ hb _ e n=>u.slot b o e n hb (by simp)) (λb o _ e n=>u.free b o e n (by simp)) (λb o _ e=>u.there b o e (by simp)) u.pL u.ot u.me (λm' hm=>by
  obtain⟨o',es',ep',ho',r'⟩:=hm;rw[ho] at ho';cases ho';exact⟨_,es',ep',hL,r'⟩) bg I.bare
theorem Inv.call{t':Nat}{d':Drawn}{ch:List Addr}(I:Inv X pins σ H s)(u:Un (yh X.stack) ch H H' s.heap h')(bg:i_ X.prog X.w H' h')(hg:AllBare g')
  (hch:∀b∈ch,(b∈X.ex\/X.s₀.heap.objs.size<=b)/\b≠X.env.locals/\(∀x c,X.env.cells.lookup x=some c->c≠b)/\∀p∈X.pn++pins,p.1≠b) :
  Inv X pins σ H' {s with heap:=h',gens:=g',drawn:=d',toks:=t'}:=by
 obtain⟨m,⟨o,es,ep,ho,r⟩,_⟩:=id I.loc;obtain⟨sl,hL⟩:=u.any ho I.free λz=>(hch _ z).2.1 rfl;exact I.step (ch:=ch) hch (λb o hL hb hc e n=>u.keep b o e n (λz=>(KL.mp (I.oy b z)).elim hL hb) hc) (λb o _ _ hc e n=>u.any e n hc) (λb o hc e n=>u.free b o e n hc) (λb o hc e=>u.there b o e hc) u.pL u.ot u.me (λm' hm=>by
  obtain⟨o',es',ep',ho',r'⟩:=hm;rw[ho] at ho';cases ho';exact⟨_,es',ep',hL,r'⟩) bg hg
theorem Inv.turned{t':Nat}{it:Addr}(I:Inv X pins σ H s)(k:∀b o,b≠it->s.heap.get? b=some o->h'.get? b=some o)(hn:H it=none)(hL:it≠X.env.locals)
  (h1:it∈X.ex\/X.s₀.heap.objs.size<=it) (h2:∀x c,X.env.cells.lookup x=some c->c≠it) (h3:∀p∈X.pn++pins,p.1≠it):Inv X pins σ H {s with heap:=h',toks:=t'}:=by
 have nit:∀b u,H b=some u->b≠it:=λb u e z=>by rw[z,hn] at e;cases e
 refine I.step (g':=s.gens) (d':=s.drawn) (ch:=[it]) (λb hb=>?_) (λb o _ _ hc e _=>k b o (λz=>hc (by simp[z])) e) (λb o _ _ hc e _=>⟨o.slots,k b o (λz=>hc (by simp[z])) e⟩) (λ_ _ _ _ n=>n)
  (λb o hc e=>⟨o,k b o (λz=>hc (by simp[z])) e⟩) (λ_ _ e=>e) (λ_ _ _ e=>e) (λb ps e=>⟨#[],by rw[e];simp⟩) (λm hm=>?_) (λb u e=>?_) I.bare
 ·have e:b=it:=by simpa using hb
  subst e;exact⟨h1,hL,h2,h3⟩
 ·obtain⟨o,es,ep,ho,r⟩:=hm;exact⟨o,es,ep,k _ o (Mc hL) ho,r⟩
 ·refine (I.bg b u e).n_ (λc v hc q=>k c v ?_ q) (λ_ q=>q) (λ_ _ q=>q) λ_ _ _ q=>q;rcases hc with z|z
  ·rw[z];exact nit b u e
  ·exact nit c _ z
theorem Inv.tok(I:Inv X pins σ H s)(t:Nat):Inv X pins σ H {s with toks:=t}:=I.un (h':=s.heap) (t':=t) Un.refl I.bg
theorem Inv.kept{t':Nat}(I:Inv X pins σ H s)(k:∀b u,s.heap.get? b=some u->h'.get? b=some u):Inv X pins σ H {s with heap:=h',toks:=t'}:=I.un (Un.kept k) (I.bg.kept k)
theorem Inv.laid{o:HO}{t':Nat}(I:Inv X pins σ H s)(k:∀b u,s.heap.get? b=some u->h'.get? b=some u)(hp:s.heap.objs.size<=a)(new:bw X.prog X.w (upd H a o) h' a o):
  Inv X pins σ (upd H a o) {s with heap:=h',toks:=t'}:=I.un (Un.laid k hp (I.bg.fresh hp)) (I.bg.laid k hp new)
theorem Inv.write{x e:Addr}{o:HO}{t':Nat}(I:Inv X pins σ H s)(mu:Jg (H x))(he:e=x\/H e=some (.own x))(k:∀b u,b≠e->s.heap.get? b=some u->h'.get? b=some u)(heo:∃u,h'.get? e=some u)
  (new:bw X.prog X.w (upd H x o) h' x o):Inv X pins σ (upd H x o) {s with heap:=h',toks:=t'}:=I.un (Un.write mu he k heo) (I.bg.write mu he k heo new)
theorem Inv.ou{pins':List (Addr×Obj)}(I:Inv X pins σ H s)(h:∀p∈pins',s.heap.get? p.1=some p.2/\H p.1=none/\p.1≠X.env.locals/\p.1∉X.fs/\∀v,p.2.data≠.cell v):Inv X pins' σ H s:=
 ⟨I.ok,I.os,I.bare,I.base,I.loc,I.cell,I.free,I.fQ,λp hp=>(Lq.mp hp).elim (λz=>I.pin p (M4 _ z)) (h p),I.bg,I.len⟩
theorem rh(hN:N.Nodup)(a:N[i]?=some x)(b:N[j]?=some x):i=j:=by
 obtain⟨h1,e1⟩:=K7.mp a;obtain⟨h2,e2⟩:=K7.mp b;exact (List.getElem_inj hN).mp (e1.trans e2.symm)
theorem mZ{A:Around}{v:V}{Q:Unit->Shared->Prop}(I:Inv X pins σ H s)(hN:X.N.Nodup)(hi:X.N[i]?=some x)(hx:Loc X.env.scope x)(r:RelV v u)
  (h:∀s',Inv X pins (σ.set i (some v)) H s'->(∃a,Heap.SameBut a s.heap s'.heap/\(a=X.env.locals\/X.env.cells.lookup x=some a))->Q () s') (hf:autoParam (X.fn x=true\/X.env.scope.names.lookup x=some .local) ℜ2):wpAny M A (storeName X.env x u) Q E s:=by
 obtain⟨m,hn,hl⟩:=id I.loc;have hcls:(X.env.scope.kind == .class || (X.env.scope.kind == .module && X.env.locals != X.env.globals))=false:=by rw[I.ok.kind];rfl
 have hiσ:i<σ.length:=by rw[I.len];exact (K7.mp hi).1
 have Gw:=I.Gw;have tracked:∀{a:Addr} {h':Heap},(∃o,s.heap.get? a=some o/\H a=none)->Heap.SameBut a s.heap h'->i_ X.prog X.w H h':=λ{a h'} ha hs b ob e=>by
  obtain⟨_,_,hfree⟩:=ha;refine (I.bg b ob e).n_ (λc w' hc q=>(hs.2 c ?_).trans q) (λ_ q=>q) (λ_ _ q=>q) λ_ _ _ q=>q;rintro rfl;rcases hc with rfl|hc
  ·rw[hfree] at e;cases e
  ·rw[hfree] at hc;cases hc
 rcases hx with hk|hk
 ·refine wpAny_storeName_local hk hn (λh' hn' hs=>?_) hcls;obtain⟨oL,_,_,hoL,_⟩:=id hn;refine h _ ⟨I.ok,I.os,I.bare,⟨λb o e n hb hx=>?_,λb o e n hb hx=>?_,I.base.free,λb o e hx=>?_,I.base.pL,I.base.ot,I.base.me⟩,⟨_,hn',λj y v' e1 e2 e3=>?_⟩,λy c e=>?_,I.free,I.fQ,λp hp=>?_,tracked ⟨oL,hoL,I.free⟩ hs,by simpa using I.len⟩ ⟨_,hs,.inl rfl⟩
  ·exact (hs.2 b (Ll (Ls (Lb e) I.ok.above))).trans (I.base.keep b o e n hb hx)
  ·obtain⟨sl,e1⟩:=I.base.slot b o e n hb hx;exact⟨sl,(hs.2 b (Ll (Ls (Lb e) I.ok.above))).trans e1⟩
  ·obtain⟨o',e1⟩:=I.base.there b o e hx;exact⟨o',(hs.2 b (Ll (Ls (Lb e) I.ok.above))).trans e1⟩
  ·by_cases hj:j=i
   ·subst hj;rw[hi] at e1;cases e1;rw[MI hiσ] at e2;cases e2;exact⟨u,r,.inl ⟨hk,by simp⟩⟩
   ·rw[N3 (Mc hj)] at e2;obtain⟨u',r',q⟩:=hl j y v' e1 e2 e3;refine⟨u',r',?_⟩;rcases q with ⟨k,e⟩|⟨k,c,e,z⟩
    ·refine .inl ⟨k,?_⟩;have:y≠x:=λe=>hj (rh hN e1 (e ▸ hi));simp[this,e]
    ·exact .inr ⟨k,c,e,z.sameBut hs (Gw y c e)⟩
  ·obtain⟨w',z⟩:=I.cell y c e;exact⟨w',z.sameBut hs (Gw y c e)⟩
  ·obtain⟨e,n,ne,nf,d⟩:=I.pin p hp;exact⟨(hs.2 p.1 ne).trans e,n,ne,nf,d⟩
 ·have hfn:X.fn x=true:=by
   rcases hf with z|z
   ·exact z
   ·rw[z] at hk;cases hk
  obtain⟨c,hc⟩:=I.ok.has x (.inl hk);obtain⟨w',z⟩:=I.cell x c hc;refine wpAny_storeName_cell I.ok.kind hk hc z (λh' hc' hs=>?_);obtain⟨oc,hoc,hocd⟩:=id z;refine h {s with heap:=h'} ⟨I.ok,I.os,I.bare,⟨λb o e n hb hx=>?_,λb o e n hb hx=>?_,I.base.free,λb o e hx=>?_,I.base.pL,I.base.ot,I.base.me⟩,⟨m,hn.sameBut hs (Mc (Gw x c hc)),λj y v' e1 e2 e3=>?_⟩,λy c' e=>?_,I.free,I.fQ,λp hp=>?_,tracked ⟨oc,hoc,I.fQ x c hc⟩ hs,by simpa using I.len⟩ ⟨c,hs,.inr hc⟩
  ·exact (hs.2 b (Ll (Ls (Lb e) (I.ok.Hs x c hfn hc)))).trans (I.base.keep b o e n hb hx)
  ·obtain⟨sl,e1⟩:=I.base.slot b o e n hb hx;exact⟨sl,(hs.2 b (Ll (Ls (Lb e) (I.ok.Hs x c hfn hc)))).trans e1⟩
  ·obtain⟨o',e1⟩:=I.base.there b o e hx;exact⟨o',(hs.2 b (Ll (Ls (Lb e) (I.ok.Hs x c hfn hc)))).trans e1⟩
  ·by_cases hj:j=i
   ·subst hj;rw[hi] at e1;cases e1;rw[MI hiσ] at e2;cases e2;exact⟨u,r,.inr ⟨.inl hk,c,hc,hc'⟩⟩
   ·rw[N3 (Mc hj)] at e2;obtain⟨u',r',q⟩:=hl j y v' e1 e2 e3;refine⟨u',r',?_⟩;rcases q with q|⟨k,c',e,z'⟩
    ·exact .inl q
    ·refine .inr ⟨k,c',e,z'.sameBut hs ?_⟩;rintro rfl;exact hj (rh hN e1 (I.ok.inj _ _ _ e hc ▸ hi))
  ·by_cases hcc:c'=c
   ·subst hcc;exact⟨_,hc'⟩
   ·obtain⟨w2,z2⟩:=I.cell y c' e;exact⟨w2,z2.sameBut hs hcc⟩
  ·obtain⟨e,n,ne,nf,d⟩:=I.pin p hp;refine⟨(hs.2 p.1 ?_).trans e,n,ne,nf,d⟩;intro q;rw[q,hoc] at e;have q':oc=p.2:=Option.some.inj e;exact d w' (by rw[<- q'];exact hocd)
theorem pP{A:Around}{v:V}{Q:Unit->Shared->Prop}(I:Inv X pins σ H s)(hN:X.N.Nodup)(hi:X.N[i]?=some x)(hx:Loc X.env.scope x)(r:RelV v u)
  (h:∀s',Inv X pins (σ.set i (some v)) H s'->Q () s') (hf:autoParam (X.fn x=true\/X.env.scope.names.lookup x=some .local) ℜ2):wpAny M A (storeName X.env x u) Q E s:=
 mZ I hN hi hx r (λs' I' _=>h s' I') hf
theorem Inv.Iu(I:Inv X pins σ H s)(ho:s'.os=s.os)(u:Un (yh X.stack) ch H H' s.heap s'.heap)(bg:i_ X.prog X.w H' s'.heap)(hg:AllBare s'.gens)
  (hch:∀b∈ch,(b∈X.ex\/X.s₀.heap.objs.size<=b)/\b≠X.env.locals/\(∀x c,X.env.cells.lookup x=some c->c≠b)/\∀p∈X.pn++pins,p.1≠b):Inv X pins σ H' s':=by
 obtain⟨h',g',d',t',o'⟩:=s';have e:o'=s.os:=ho;subst e;exact I.call (g':=g') (t':=t') (d':=d') u bg hg hch
end
abbrev XK:=Value->Option Addr->Hp->Prop
abbrev St:=List (Option V)
variable{σ:St}
abbrev VK:=V->Hp->Prop
abbrev TE:=St->Hp->VK->Prop
abbrev TT:=St->Hp->(Bool->Hp->Prop)->Prop
abbrev TA:=St->Hp->(List V->Hp->Prop)->Prop
structure Ends where
 nx:St->Hp->Prop
 rt:VK
 bk:St->Hp->Prop:=λ_ _=>False
 ct:St->Hp->Prop:=λ_ _=>False
variable{D:Ends}
abbrev TS:=Ends->St->Hp->Prop
variable{tb:TS}
def EP(X:Cx)(pins:List (Addr×Obj))(σ:St)(Q:VK)(u:Value)(s':Shared):Prop:=∃v H',Inv X pins σ H' s'/\RelV v u/\Q v H'
def TP(X:Cx)(pins:List (Addr×Obj))(σ:St)(Q:Bool->Hp->Prop)(b:Bool)(s':Shared):Prop:=∃H',Inv X pins σ H' s'/\Q b H'
def AP(X:Cx)(pins:List (Addr×Obj))(σ:St)(Q:List V->Hp->Prop)(us:List Value)(s':Shared):Prop:=∃vs H',Inv X pins σ H' s'/\Vals vs us/\Q vs H'
def SP(X:Cx)(pins:List (Addr×Obj))(D:Ends)(f:Flow)(s':Shared):Prop:=
 match f with
 |.next=>∃σ' H',Inv X pins σ' H' s'/\D.nx σ' H'
 |.brk=>∃σ' H',Inv X pins σ' H' s'/\D.bk σ' H'
 |.cont=>∃σ' H',Inv X pins σ' H' s'/\D.ct σ' H'
 |.ret u=>∃v σ' H',Inv X pins σ' H' s'/\RelV v u/\D.rt v H'
def PE(X:Cx)(e:Expr)(t:TE):Prop:=
 ∀(pins:List (Addr×Obj)) (s:Shared) (σ:St) (H:Hp) (Q:VK),Inv X pins σ H s->t σ H Q->wpAny (model X.prog X.w) X.A (eval e X.env) (EP X pins σ Q) X.xe s
def PT(X:Cx)(e:Expr)(t:TT):Prop:=
 ∀(pins:List (Addr×Obj)) (s:Shared) (σ:St) (H:Hp) (Q:Bool->Hp->Prop),Inv X pins σ H s->t σ H Q->wpAny (model X.prog X.w) X.A (isTrue e X.env (eval e X.env)) (TP X pins σ Q) X.xe s
def PW(X:Cx)(e:Expr)(t:TT):Prop:=
 ∀(whole:Sem Value) (pins:List (Addr×Obj)) (s:Shared) (σ:St) (H:Hp) (Q:Bool->Hp->Prop),Inv X pins σ H s->t σ H Q->wpAny (model X.prog X.w) X.A (isTrue e X.env whole) (TP X pins σ Q) X.xe s
theorem PW.pt{t:TT}(h:PW X e t):PT X e t:=h _
def PA(X:Cx)(es:List Expr)(t:TA):Prop:=
 ∀(pos:Pos) (pins:List (Addr×Obj)) (s:Shared) (σ:St) (H:Hp) (Q:List V->Hp->Prop),Inv X pins σ H s->t σ H Q->wpAny (model X.prog X.w) X.A (spliced (backTo pos (starEach es X.env))) (AP X pins σ Q) X.xe s
def PS(X:Cx)(st:Stmt)(t:TS):Prop:=
 ∀(pins:List (Addr×Obj)) (s:Shared) (σ:St) (H:Hp) (D:Ends),Inv X pins σ H s->t D σ H->wpAny (model X.prog X.w) X.A (exec st X.env) (SP X pins D) X.xe s
def rS(X:Cx)(st:List Stmt)(t:TS):Prop:=
 ∀(pins:List (Addr×Obj)) (s:Shared) (σ:St) (H:Hp) (D:Ends),Inv X pins σ H s->t D σ H->wpAny (model X.prog X.w) X.A (execs st X.env) (SP X pins D) X.xe s
theorem bS{α:Type}{t:Sem α}{Q Q':α->Shared->Prop}{A:Around}{s:Shared}(h:wpAny M A t Q E s)(hQ:∀a s,Q a s->Q' a s):wpAny M A t Q' E s:=LQ h hQ λ_ _ x=>x
section
variable {X:Cx}
def wZ(i:Nat):TE:=λσ H Q=>∃v,σ[i]?=some (some v)/\Q v H
def tC(v:V):TE:=λ_ H Q=>Q v H
theorem GG{pos:Pos}(hN:X.N[i]?=some x)(hv:IT X.env.scope x)(hd:autoParam ((x ==("__debug__":Str))=false) ℜ1)(fR:autoParam ((x ==("__classdict__":Str))=false) ℜ1):PE X (.Name x pos) (wZ i):=by
 intro pins s σ H Q I h;obtain⟨v,e,h⟩:=h;obtain⟨m,hn,hl⟩:=I.loc;obtain⟨u,r,l⟩:=hl i x v hN e hv;have fin:EP X pins σ Q u s:=⟨v,H,I,r,h⟩;rcases l with ⟨hk,hm⟩|⟨hk,c,hc,hcell⟩
 ·exact wpAny_Name (wpAny_loadName_local I.ok.kind hk hn hm fin) hd
 ·rcases hk with hk|hk
  ·exact wpAny_Name (wpAny_loadName_cell I.ok.kind hk hc hcell fin) hd
  ·exact wpAny_Name (wpAny_loadName_free I.ok.kind hk hc hcell fin fR) hd
theorem jW{i j pos}:PE X (.Constant (.int i) j pos) (tC (.int i)):=λ_ _ _ H _ I h=>wpAny_Constant_int ⟨.int i,H,I.tok _,⟨_,rfl⟩,h⟩
theorem DM{b j pos}:PE X (.Constant (.bool b) j pos) (tC (.bl b)):=λ_ _ _ H _ I h=>Constant_bool ⟨.bl b,H,I,rfl,h⟩
theorem yg{j pos}:PE X (.Constant .none j pos) (tC .aO):=λ_ _ _ H _ I h=>Constant_none ⟨.aO,H,I,rfl,h⟩
theorem yd{x j pos}:PE X (.Constant (.str x) j pos) (tC (.str x)):=λ_ _ _ H _ I h=>Calls.Constant_str ⟨.str x,H,I.tok _,⟨_,rfl⟩,h⟩
def Gl(X:Cx)(x:Str):Prop:=X.env.kindOf x=some .globalImplicit
theorem oC{s:Shared}{pos:Pos}(I:Inv X pins σ H s)(hg:Gl X x)(hm:X.mg x=some u)(h:Q u s)
  (hd:autoParam ((x ==("__debug__":Str))=false) ℜ1):wpAny (model X.prog X.w) X.A (eval (.Name x pos) X.env) Q E s:=
 OW I.ok.kind hg (Calls.loadGlobal_global (by rw[I.ok.glob];exact I.mod.glob.keeps I.bk) hm h) hd
theorem eX{s:Shared}{pos:Pos}(I:Inv X pins σ H s)(hg:Gl X x)(hm:X.mg x=none)(hv:bootBuiltins x=some u)(h:Q u s)
  (hn:autoParam (x≠"__name__") ℜ1) (hd:autoParam ((x ==("__debug__":Str))=false) ℜ1):wpAny (model X.prog X.w) X.A (eval (.Name x pos) X.env) Q E s:=by
 obtain⟨mb,h1,h2⟩:=I.mod.blt;exact OW I.ok.kind hg (Calls.loadGlobal_builtin (by rw[I.ok.glob];exact I.mod.glob.keeps I.bk) hm (by rw[I.ok.blt];exact h1.keeps I.bk) ((h2 x hn).trans hv) h) hd
theorem t_{v:V}{pos:Pos}(hg:Gl X x)(hm:X.mg x=some u)(r:RelV v u)(hd:autoParam ((x ==("__debug__":Str))=false) ℜ1):PE X (.Name x pos) (tC v):=
 λ_ _ _ H _ I h=>oC I hg hm ⟨v,H,I,r,h⟩ hd
theorem Di{v:V}{pos:Pos}(hg:Gl X x)(hm:X.mg x=none)(hv:bootBuiltins x=some u)(r:RelV v u)(hn:autoParam (x≠"__name__") ℜ1)(hd:autoParam ((x ==("__debug__":Str))=false) ℜ1):PE X (.Name x pos) (tC v):=
 λ_ _ _ H _ I h=>eX I hg hm hv ⟨v,H,I,r,h⟩ hn hd
variable {a b:Expr} {ta tb:TE} {pos:Pos}
variable {tA tB':TT} {rest:List Expr}
def Ab(t u:TT):TT:=λσ H Q=>t σ H λc H1=>if c=true then u σ H1 Q else Q false H1
def Hg(t u:TT):TT:=λσ H Q=>t σ H λc H1=>if c=true then Q true H1 else u σ H1 Q
def yS(t:TT):TT:=λσ H Q=>t σ H λc H1=>Q (!c) H1
theorem B_(ha:PT X a tA):PW X (.BoolOp .And [a] pos) tA:=by
 intro wh pins s σ H Q I h;refine isTrue_and (bS (ha pins s σ H Q I h) λc s1 e=>?_)
 cases c with
 |true=>exact isTrue_and_nil e
 |false=>exact e
theorem G7(ha:PT X a tA):PW X (.BoolOp .Or [a] pos) tA:=by
 intro wh pins s σ H Q I h;refine isTrue_or (bS (ha pins s σ H Q I h) λc s1 e=>?_)
 cases c with
 |false=>exact isTrue_or_nil e
 |true=>exact e
theorem Fn(ha:PT X a tA)(hb:PW X (.BoolOp .And (b::rest) pos) tB'):PW X (.BoolOp .And (a::b::rest) pos) (Ab tA tB'):=by
 intro wh pins s σ H Q I h;refine isTrue_and (bS (ha pins s σ H _ I h) λc s1 hq7=>?_);obtain⟨H1,I1,q1⟩:=hq7
 cases c with
 |true=>exact hb wh pins s1 σ H1 Q I1 q1
 |false=>exact⟨H1,I1,q1⟩
theorem II(ha:PT X a tA)(hb:PW X (.BoolOp .Or (b::rest) pos) tB'):PW X (.BoolOp .Or (a::b::rest) pos) (Hg tA tB'):=by
 intro wh pins s σ H Q I h;refine isTrue_or (bS (ha pins s σ H _ I h) λc s1 hq8=>?_);obtain⟨H1,I1,q1⟩:=hq8
 cases c with
 |true=>exact⟨H1,I1,q1⟩
 |false=>exact hb wh pins s1 σ H1 Q I1 q1
theorem GO(ha:PT X a tA):PT X (.UnaryOp .Not a pos) (yS tA):=by
 intro pins s σ H Q I h;exact isTrue_not (ha pins s σ H (λc H1=>Q (!c) H1) I h)
def HW(t:TT)(ta tb:TE):TE:=λσ H Q=>t σ H λc H1=>if c=true then ta σ H1 Q else tb σ H1 Q
theorem AZ{c:Expr}(hc:PT X c tA)(ha:PE X a ta)(hb:PE X b tb):PE X (.IfExp c a b pos) (HW tA ta tb):=by
 intro pins s σ H Q I h;refine wpAny_IfExp (bS (hc pins s σ H _ I h) λd s1 hq12=>?_);obtain⟨H1,I1,q1⟩:=hq12
 cases d with
 |true=>exact ha pins s1 σ H1 Q I1 q1
 |false=>exact hb pins s1 σ H1 Q I1 q1
end
def a_(K:W.Frag)(H:Hp)(a:Addr)(xs:List V):Prop:=
 Rd H a (.lst xs) \/
  ∃(o:Obj) (its:Array Value) (n:Nat),K.lookup a=some o/\o.cls=.type "list"/\o.dict=none/\o.data=.seq its n/\its.size<=sizeLine/\Vals xs its.toList
def aX(K:W.Frag)(H:Hp)(a:Addr)(xs:List V):Prop:=
 Rd H a (.tup xs) \/
  ∃(o:Obj) (its:Array Value) (n:Nat),K.lookup a=some o/\o.cls=.type "tuple"/\o.data=.seq its n/\its.size<=sizeLine/\Vals xs its.toList
noncomputable def JO:Value->Option V
 |.none=>some .aO
 |.bool b=>some (.bl b)
 |.int i _=>some (.int i)
 |.str x _=>some (.str x)
 |.bytes b _=>some (.rq b)
 |.float b _=>some (.Hb b)
 |.ref a=>some (.ref a)
 |.type n=>some (.ty n)
 |_=>none
theorem RelV.abs{x:V}(r:RelV x u):JO u=some x:=by
 cases x with
 |aO=>cases r;rfl
 |bl _=>cases r;rfl
 |int _=>obtain⟨t,rfl⟩:=r;rfl
 |str _=>obtain⟨t,rfl⟩:=r;rfl
 |rq _=>obtain⟨t,rfl⟩:=r;rfl
 |Hb _=>obtain⟨t,rfl⟩:=r;rfl
 |ref _=>cases r;rfl
 |ty _=>cases r;rfl
theorem RelV.inj{x y:V}(r:RelV x u)(q:RelV y u):x=y:=Option.some.inj (r.abs.symm.trans q.abs)
theorem Vals.inj:∀{xs ys:List V} {us:List Value},Vals xs us->Vals ys us->xs=ys
 |_,_,_,.nil,.nil=>rfl
 |_,_,_,.cons r t,.cons r' t'=>by rw[r.inj r',Vals.inj t t']
section
variable {X:Cx} {pins:List (Addr×Obj)} {σ:St} {H:Hp} {s:Shared} {a:Addr} {xs ys:List V}
theorem a_.of(h:H a=some (.lst xs)):a_ K H a xs:=.inl (.inl h)
theorem aX.of(h:H a=some (.tup xs)):aX K H a xs:=.inl (.inl h)
theorem Inv.list(I:Inv X pins σ H s)(h:a_ X.K H a xs):∃its:List Value,Vals xs its/\PlainL s.heap a its.toArray/\xs.length<=sizeLine:=by
 rcases h with h|⟨o,its,n,hk,hc,hd,hs,hz,r⟩
 ·obtain⟨z,its,n,r,e⟩:=h.ok I.bg;exact⟨its,r,⟨_,n,e,rfl,rfl,rfl⟩,z⟩
 ·refine⟨its.toList,r,⟨o,n,I.mx a o hk,hc,hd,by simpa using hs⟩,?_⟩
  have e:=r.length;simp only[L5] at e;lia
theorem Inv.tuple(I:Inv X pins σ H s)(h:aX X.K H a xs):∃its:List Value,Vals xs its/\IsTup s.heap a its.toArray/\xs.length<=sizeLine:=by
 rcases h with h|⟨o,its,n,hk,hc,hs,hz,r⟩
 ·obtain⟨z,its,r,p⟩:=h.ok I.bg;exact⟨its,r,p.to,z⟩
 ·refine⟨its.toList,r,⟨o,I.mx a o hk,hc,n,by simpa using hs⟩,?_⟩
  have e:=r.length;simp only[L5] at e;lia
theorem Inv.lK(I:Inv X pins σ H s)(h:a_ X.K H a xs)(h':a_ X.K H a ys):xs=ys:=by
 obtain⟨its,r,⟨o,n,e,_,_,d⟩,_⟩:=I.list h;obtain⟨its',r',⟨o',n',e',_,_,d'⟩,_⟩:=I.list h';rw[e] at e';cases e';rw[d] at d'
 injection d' with d1 _
 have:its=its':=by simpa using Lw Array.toList d1
 subst this;exact r.inj r'
theorem Inv.jf(I:Inv X pins σ H s)(h:aX X.K H a xs)(h':aX X.K H a ys):xs=ys:=by
 obtain⟨its,r,⟨o,e,_,n,d⟩,_⟩:=I.tuple h;obtain⟨its',r',⟨o',e',_,n',d'⟩,_⟩:=I.tuple h';rw[e] at e';cases e';rw[d] at d'
 injection d' with d1 _
 have:its=its':=by simpa using Lw Array.toList d1
 subst this;exact r.inj r'
end
abbrev Cx.mm(X:Cx)(E:Value->Shared->Prop):Cx:={X with xe:=E}
abbrev Cx.BQ(X:Cx):Cx:=X.mm λ_ _=>False
theorem Cx.Ok.mm(ok:X.Ok)(E:Value->Shared->Prop):(X.mm E).Ok:=
 ⟨ok.mod,ok.kind,ok.glob,ok.blt,ok.above,ok.inj,ok.has,ok.Hs,ok.hd,ok.frames,ok.Jf,ok.Kb,ok.bs,ok.BE,ok.xO,ok.Dm,ok.kA,ok.Ha,ok.tabs⟩
theorem Cx.Ok.gj(ok:(X.mm E).Ok):X.Ok:=
 ⟨ok.mod,ok.kind,ok.glob,ok.blt,ok.above,ok.inj,ok.has,ok.Hs,ok.hd,ok.frames,ok.Jf,ok.Kb,ok.bs,ok.BE,ok.xO,ok.Dm,ok.kA,ok.Ha,ok.tabs⟩
section
variable {X:Cx} {pins:List (Addr×Obj)} {σ:St} {H:Hp} {s:Shared} {E:Value->Shared->Prop}
theorem Inv.mm(I:Inv X pins σ H s)(E:Value->Shared->Prop):Inv (X.mm E) pins σ H s:=⟨I.ok.mm E,I.os,I.bare,I.base,I.loc,I.cell,I.free,I.fQ,I.pin,I.bg,I.len⟩
theorem Inv.gj(I:Inv (X.mm E) pins σ H s):Inv X pins σ H s:=⟨I.ok.gj,I.os,I.bare,I.base,I.loc,I.cell,I.free,I.fQ,I.pin,I.bg,I.len⟩
theorem SP.gj{f:Flow}(h:SP (X.mm E) pins D f s'):SP X pins D f s':=by
 cases f with
 |next=>obtain⟨σ',H',I,q⟩:=h;exact⟨σ',H',I.gj,q⟩
 |brk=>obtain⟨σ',H',I,q⟩:=h;exact⟨σ',H',I.gj,q⟩
 |cont=>obtain⟨σ',H',I,q⟩:=h;exact⟨σ',H',I.gj,q⟩
 |ret u=>obtain⟨v,σ',H',I,r,q⟩:=h;exact⟨v,σ',H',I.gj,r,q⟩
theorem rS.BQ{st:List Stmt}{t:TS}(h:rS X.BQ st t):rS X st t:=λpins s σ H D I hw =>
 LQ (h pins s σ H D (I.mm _) hw) (λ_ _ q=>q.gj) λ_ _ z=>False.elim z
end
section
variable {X:Cx} {st:Stmt} {rest:List Stmt} {t u:TS} {e:Expr} {te:TE} {pos:Pos}
def q_:TS:=λD σ H=>D.nx σ H
def wz(t u:TS):TS:=λD σ H=>t {D with nx:=u D} σ H
theorem B8:rS X [] q_:=λ_ _ σ H _ I h=>O4 ⟨σ,H,I,h⟩
theorem Ac(h1:PS X st t)(h2:rS X rest u):rS X (st::rest) (wz t u):=by
 intro pins s σ H D I h;refine wpAny_execs_cons (bS (h1 pins s σ H {D with nx:=u D} I h) λf s1 q=>?_)
 cases f with
 |next =>
  obtain⟨σ',H',I',q⟩:=q;exact h2 pins s1 σ' H' D I' q
 |ret v=>exact q
 |brk=>exact q
 |cont=>exact q
theorem BS(h1:PS X st t):rS X [st] t:=by
 intro pins s σ H D I h;refine wpAny_execs_cons (bS (h1 pins s σ H D I h) λf s1 q=>?_)
 cases f with
 |next=>exact O4 q
 |ret v=>exact q
 |brk=>exact q
 |cont=>exact q
theorem Inv.quiet{s:Shared}(I:Inv X pins σ H s):interactive X.env=false:=by simp[interactive,I.ok.kind]
def qd(te:TE):TS:=λD σ H=>te σ H λ_ H1=>D.nx σ H1
theorem Cq(he:PE X e te)(hs:autoParam (swapsWith e none pos.line X.env=pure false) ℜ0):PS X (.Expr e pos) (qd te):=by
 intro pins s σ H D I h;exact wpAny_Expr_any (bS (he pins s σ H _ I h) λv s1 ⟨x,H1,I1,r1,q1⟩=>⟨σ,H1,I1,q1⟩) I.quiet hs
def yi(te:TE):TS:=λD σ H=>te σ H D.rt
theorem Fy(he:PE X e te):PS X (.Return (some e) pos) (yi te):=by
 intro pins s σ H D I h;exact wpAny_Return_some (bS (he pins s σ H _ I h) λv s1 ⟨x,H1,I1,r1,q1⟩=>⟨x,σ,H1,I1,r1,q1⟩)
def oY(c:TT)(t u:TS):TS:=λD σ H=>c σ H λb H1=>if b=true then t D σ H1 else u D σ H1
theorem HA{c:Expr}{a b:List Stmt}{tc:TT}(hc:PT X c tc)(ha:rS X a t)(hb:rS X b u):PS X (.If c a b pos) (oY tc t u):=by
 intro pins s σ H D I h;refine wpAny_If (bS (hc pins s σ H _ I h) λd s1 hq13=>?_);obtain⟨H1,I1,q1⟩:=hq13
 cases d with
 |true=>exact ha pins s1 σ H1 D I1 q1
 |false=>exact hb pins s1 σ H1 D I1 q1
end
abbrev TG:=V->St->Hp->(St->Hp->Prop)->Prop
abbrev xF:=List V->St->Hp->(St->Hp->Prop)->Prop
def PG(X:Cx)(target:Expr)(t:TG):Prop:=
 ∀(pins:List (Addr×Obj)) (s:Shared) (σ:St) (H:Hp) (v:V) (u:Value) (Q:St->Hp->Prop),Inv X pins σ H s->RelV v u->t v σ H Q ->
  wpAny (model X.prog X.w) X.A (assign target X.env u) (λ_ s'=>∃σ' H',Inv X pins σ' H' s'/\Q σ' H') X.xe s
def Iw(X:Cx)(ts:List Expr)(t:xF):Prop:=
 ∀(pins:List (Addr×Obj)) (s:Shared) (σ:St) (H:Hp) (vs:List V) (us:List Value) (Q:St->Hp->Prop),Inv X pins σ H s->Vals vs us->t vs σ H Q ->
  wpAny (model X.prog X.w) X.A (assignInOrder ((assignEach ts X.env).map (·.2)) us) (λ_ s'=>∃σ' H',Inv X pins σ' H' s'/\Q σ' H') X.xe s
abbrev By:=V->V->V->Hp->(Hp->Prop)->Prop
def GS(X:Cx)(t:By):Prop:=
 ∀(pins:List (Addr×Obj)) (s:Shared) (σ:St) (H:Hp) (o i v:V) (ov iv u:Value) (Q:Hp->Prop),Inv X pins σ H s->RelV o ov->RelV i iv->RelV v u->t o i v H Q ->
  wpAny (model X.prog X.w) X.A (setItem ov iv u) (λ_ s'=>∃H',Inv X pins σ H' s'/\Q H') X.xe s
section
variable {X:Cx} {pos:Pos}
def aL(i:Nat):TG:=λv σ H Q=>Q (σ.set i (some v)) H
theorem C_(hN:X.N.Nodup)(hi:X.N[i]?=some x)(hx:Loc X.env.scope x)(hf:autoParam (X.fn x=true\/X.env.scope.names.lookup x=some .local) ℜ2):PG X (.Name x pos) (aL i):=by
 intro pins s σ H v u Q I r h;exact wpAny_assign_Name (pP I hN hi hx r (λs' I'=>⟨_,H,I',h⟩) hf)
def jP:xF:=λvs σ H Q=>vs=[]/\Q σ H
def d9(t:TG)(u:xF):xF:=λvs σ H Q=>∃v r,vs=v::r/\t v σ H λσ' H'=>u r σ' H' Q
theorem CF:Iw X [] jP:=by
 intro pins s σ H vs us Q I r h;obtain⟨e,h⟩:=h;subst e;cases r;exact assignInOrder_nil ⟨σ,H,I,h⟩
theorem zq{t:TG}{u:xF}(h1:PG X e t)(h2:Iw X es u)
  (hs:autoParam ((assignEach (e::es) X.env).map (·.2)=assign e X.env::(assignEach es X.env).map (·.2)) ℜ0):Iw X (e::es) (d9 t u):=by
 intro pins s σ H vs us Q I r h;obtain⟨v,vr,e1,h⟩:=h;subst e1
 cases r with
 |cons r rr =>
  rw[hs];refine assignInOrder_cons (bS (h1 pins s σ H _ _ _ I r h) λ_ s1 hq14=>?_);obtain⟨σ1,H1,I1,q1⟩:=hq14;exact h2 pins s1 σ1 H1 _ _ Q I1 rr q1
def kB(K:W.Frag)(n:Nat)(t:xF):TG:=λv σ H Q=>∃a xs,v=.ref a/\aX K H a xs/\xs.length=n/\t xs σ H Q
theorem Fd{k:Nat}{t:xF}{n:Nat}(hc:X.calm=true)(h:Iw X es t)
  (hn:autoParam ((assignEach es X.env).length=n) ℜ0) (hst:autoParam ((assignEach es X.env).findIdx? (·.1)=none) ℜ0):PG X (.Tuple es k pos) (kB X.K n t):=by
 intro pins s σ H v u Q I r hw;obtain⟨a,xs,e1,hq,hl,hw⟩:=hw;subst e1;cases r;obtain⟨its,rv,ht,hz⟩:=I.tuple hq;refine assign_Tuple_tuple (I.ok.hd hc) ht (by simp[hn,<- hl,rv.length]) hst λh' hx=>?_
 have I1:Inv X pins σ H {s with heap:=h'}:=I.kept (t':=s.toks) λb o e=>hx b o (Ll (Lb e)) e
 exact h pins _ σ H xs _ Q I1 (by simpa using rv) hw
def z_(to ti:TE)(t:By):TG:=λv σ H Q=>to σ H λo H1=>ti σ H1 λi H2=>t o i v H2 λH3=>Q σ H3
theorem Gk{o i:Expr}{to ti:TE}{t:By}(ho:PE X o to)(hi:PE X i ti)(hs:GS X t)
  (ha:autoParam (∀v,assign (.Subscript o i pos) X.env v=(do
   let ov <- holding [v] (eval o X.env)
   let iv <- holding [v,ov] (eval i X.env)
   standAt pos
   holding [v,ov,iv] (setItem ov iv v)
   release [v,ov,iv] [])) ℜ3):PG X (.Subscript o i pos) (z_ to ti t):=by
 intro pins s σ H v u Q I r h;rw[ha];refine K4 (LP (bS (ho pins s σ H _ I h) λov s1 hq15=>?_));obtain⟨x,H1,I1,r1,q1⟩:=hq15;refine K4 (LP (bS (hi pins s1 σ H1 _ I1 q1) λiv s2 hq16=>?_));obtain⟨y,H2,I2,r2,q2⟩:=hq16;refine K4 (OX (K4 (LP (bS (hs pins s2 σ H2 x y v ov iv u _ I2 r1 r2 r q2) λ_ s3 hq17=>?_))));obtain⟨H3,I3,q3⟩:=hq17;exact wpAny_release ⟨σ,H3,I3,q3⟩
def lQ(te:TE)(g:TG):TS:=λD σ H=>te σ H λx H1=>g x σ H1 D.nx
theorem Gy{te:TE}{g:TG}(he:PE X e te)(hg:PG X tg g)(hs:autoParam (swapsWithSole [tg] e pos.line X.env=pure false) ℜ0)(hw:autoParam (swappedStores [tg] e X.env=pure none) ℜ0)
  (h1:autoParam ((assignEach [tg] X.env).map (·.2)=[assign tg X.env]) ℜ0):PS X (.Assign [tg] e pos) (lQ te g):=by
 intro pins s σ H D I h;refine wpAny_Assign_stores (bS (he pins s σ H _ I h) λv s1 hq18=>?_) hs hw;obtain⟨x,H1,I1,r1,q1⟩:=hq18;rw[h1];exact bS (hg pins s1 σ H1 x v _ I1 r1 q1) λ_ s2 q=>q
theorem ET{te:TE}{pos':Pos}(hN:X.N.Nodup)(hi:X.N[i]?=some x)(hx:Loc X.env.scope x)(he:PE X e te)(hs:autoParam (swapsWith e (some (.Name x pos')) pos.line X.env=pure false) ℜ0)(hf:autoParam (X.fn x=true\/X.env.scope.names.lookup x=some .local) ℜ2):
  PS X (.Assign [.Name x pos'] e pos) (lQ te (aL i)):=by
 intro pins s σ H D I h;refine wpAny_Assign_Name (bS (he pins s σ H _ I h) λv s1 hq19=>?_) hs;obtain⟨y,H1,I1,r1,q1⟩:=hq19;exact pP I1 hN hi hx r1 (λs2 I2=>⟨_,H1,I2,q1⟩) hf
end
section
variable {X:Cx} {pos:Pos}
def AO(c:TT)(tb:TS):TS:=λD σ H=>∃W:Nat->St->Hp->Prop,(∃m,W m σ H)/\∀m σ H,W m σ H ->
 c σ H λb H1=>if b=true then ∃N:St->Hp->Prop,(∀σ' H',N σ' H'->∃m',m'<m/\W m' σ' H')/\tb {D with nx:=N,ct:=N,bk:=D.nx} σ H1 else D.nx σ H1
theorem Ay{c:Expr}{tc:TT}(hp:PassesOwn (model X.prog X.w) X.A X.env X.xe)(hc:PT X c tc)(hb:rS X body tb):PS X (.While c body [] pos) (AO tc tb):=by
 intro pins s σ H D I h;obtain⟨W,⟨m0,w0⟩,turn⟩:=h;refine wpAny_While (codeAny_whileLoop (λn s'=>∃σ' H',Inv X pins σ' H' s'/\W n σ' H') ?_ m0 ⟨σ,H,I,w0⟩);rintro n s1 ⟨σ1,H1,I1,w1⟩;refine MP hp (bS (hc pins s1 σ1 H1 _ I1 (turn n σ1 H1 w1)) λb s2 hq28=>?_);obtain⟨H2,I2,q2⟩:=hq28
 cases b with
 |true =>
  obtain⟨N,hN,q2⟩:=q2;rw[KO rfl];refine MP hp (bS (hb pins s2 σ1 H2 _ I2 q2) λf s3 q3=>?_)
  cases f with
  |next =>
   obtain⟨σ3,H3,I3,n3⟩:=q3;obtain⟨m',hm,w3⟩:=hN σ3 H3 n3;exact⟨m',hm,σ3,H3,I3,w3⟩
  |cont =>
   obtain⟨σ3,H3,I3,n3⟩:=q3;obtain⟨m',hm,w3⟩:=hN σ3 H3 n3;exact⟨m',hm,σ3,H3,I3,w3⟩
  |brk=>exact q3
  |ret v=>exact q3
 |false =>
  rw[KJ KP];exact O4 ⟨σ1,H2,I2,q2⟩
end
structure It where
 go:Nat->Hp->Prop
 Eo:Nat->Hp->V->Hp->Prop
 stop:Nat->Hp->Prop
def m6(X:Cx)(pins:List (Addr×Obj))(H:Hp)(b:Addr):Prop:=
 H b=none/\b≠X.env.locals/\b∉X.fs/\(b∈X.ex\/X.s₀.heap.objs.size<=b)/\(∀x c,X.env.cells.lookup x=some c->c≠b)/\∀p∈X.pn++pins,p.1≠b
theorem Inv.p6{H':Hp}{s:Shared}(I:Inv X pins σ H s)(hb:s.heap.objs.size<=b)(hn:H' b=none):m6 X pins H' b:=by
 refine⟨hn,Ms (Ls I.lt hb),I.Ik hb,.inr (KA I.sz hb),λx c e z=>?_,λp hp z=>?_⟩
 ·obtain⟨v,q⟩:=I.cell x c e;exact absurd (Ls q.lt (by rw[z];exact hb)) (MC _)
 ·exact absurd (Ls (Lb (I.pin p hp).1) (by rw[z];exact hb)) (MC _)
structure Turn (P:Program) (w:World) (K:W.Frag) (tg:Expr) (J:It) (fp:List Addr) (it:Addr) (tn:Nat->Heap->Prop):Prop where
 mem:it∈fp
 obj:∀i h,tn i h->∀b∈fp,∃o,h.get? b=some o/\∀v,o.data≠.cell v
 keep:∀i h h',tn i h->(∀b∈fp,∀o,h.get? b=some o->h'.get? b=some o)->tn i h'
 item:∀(X:Cx),X.prog=P->X.w=w->X.K=K->X.calm=true->∀(i:Nat) (pins:List (Addr×Obj)) (s:Shared) (σ:St) (H:Hp) (E:Value->Shared->Prop),Inv X pins σ H s->(∀b∈fp,m6 X pins H b)->tn i s.heap->J.go i H ->
  wpAny (model P w) X.A (pyNext (.ref it)) (λr s1=>∃u,r=some u /\
   wpAny (model P w) X.A (letOwnedTupleGo tg (.ref it) u) (λ_ s2=>∃x H',Inv X pins σ H' s2/\RelV x u/\J.Eo i H x H'/\tn (i+1) s2.heap/\∀b∈fp,H' b=none) E s1) E s
 done:∀(X:Cx),X.prog=P->X.w=w->X.K=K->X.calm=true->∀(i:Nat) (pins:List (Addr×Obj)) (s:Shared) (σ:St) (H:Hp) (E:Value->Shared->Prop),Inv X pins σ H s->(∀b∈fp,m6 X pins H b)->tn i s.heap->J.stop i H ->
  wpAny (model P w) X.A (pyNext (.ref it)) (λr s1=>r=none/\Inv X pins σ H s1) E s
 self:∀(A:Around) (i:Nat) (s:Shared) (Q:Value->Shared->Prop) (E:Value->Shared->Prop),tn i s.heap->Q (.ref it) s->wpAny (model P w) A (pyIter (.ref it)) Q E s
abbrev TI:=St->Hp->(It->Hp->Prop)->Prop
def JE(X:Cx)(pins:List (Addr×Obj))(σ:St)(tg:Expr)(R:It->Hp->Prop)(itv:Value)(s2:Shared):Prop:=
 ∃(it:Addr) (fp:List Addr) (tn:Nat->Heap->Prop) (J:It) (H':Hp),itv=.ref it/\Inv X pins σ H' s2/\Turn X.prog X.w X.K tg J fp it tn/\tn 0 s2.heap/\(∀b∈fp,m6 X pins H' b)/\R J H'
def PI(X:Cx)(tg iter:Expr)(wi:TI):Prop:=
 ∀(pins:List (Addr×Obj)) (s:Shared) (σ:St) (H:Hp) (R:It->Hp->Prop),Inv X pins σ H s->wi σ H R ->
  wpAny (model X.prog X.w) X.A (eval iter X.env) (λv s1=>wpAny (model X.prog X.w) X.A (pyIter v) (JE X pins σ tg R) X.xe s1) X.xe s
theorem yt{A:Around}{s:Shared}{it:Addr}{n:String}{vs:Array Value}{Q:Unit->Shared->Prop}(ho:s.heap.get? it=some o)(hc:o.cls=.type n)(hd:o.data=.fields vs)
    (hn:["enumerate","zip","dict_itemiterator","dict_reverseitemiterator","odict_iterator","itertools.zip_longest","itertools.pairwise"].contains n=false) (hQ:Q () s):wpAny M A (letOwnedTupleGo tg (.ref it) u) Q E s:=by
  unfold letOwnedTupleGo
  cases tg<;>first
    |exact KR hQ
    | (cases u<;>first
        |exact KR hQ
        | (refine K4 (wpAny_load ho ?_)
           rw[hc,hd];show wpAny M A (if (["enumerate","zip","dict_itemiterator","dict_reverseitemiterator","odict_iterator","itertools.zip_longest","itertools.pairwise"].contains n && vs[0]? == some (rawInt _))=true then _ else _) Q E s
           rw[KJ (by intro h;rw[hn,NW] at h;cases h)]
           exact KR hQ))
noncomputable def xB(K:W.Frag)(a:Addr):It:=
 ⟨λi H=>∃xs x,a_ K H a xs/\xs[i]?=some x,λi H x H'=>H'=H/\∀xs,a_ K H a xs->xs[i]?=some x,λi H=>∃xs,a_ K H a xs/\xs.length<=i⟩
noncomputable def tX(K:W.Frag)(a:Addr):It:=
 ⟨λi H=>∃xs x,aX K H a xs/\xs[i]?=some x,λi H x H'=>H'=H/\∀xs,aX K H a xs->xs[i]?=some x,λi H=>∃xs,aX K H a xs/\xs.length<=i⟩
noncomputable def xH(lo:Int)(n:Nat):It:=⟨λi _=>i<n,λi H x H'=>H'=H/\x=.int (lo+i),λi _=>n<=i⟩
theorem nr(a it:Addr):Turn P w K tg (xB K a) [it] it (λi h=>h.IsListIter it a i) where
 mem:=by simp
 obj:=λi h st b hb=>by
  have e:b=it:=by simpa using hb
  subst e;obtain⟨o,e,c,d⟩:=st;exact⟨o,e,λv z=>by rw[d] at z;cases z⟩
 keep:=λi h h' st k=>st.at λo e=>k it (by simp) o e
 item:=by
  intro X hP hw hK hc i pins s σ H E I hf st hg;subst hP hw hK;obtain⟨xs,x,hq,hx⟩:=hg;obtain⟨its,rv,p,hz⟩:=I.list hq;obtain⟨u,hu,ru⟩:=rv.get hx;obtain⟨f0,f1,f2,f3,f4,f5⟩:=hf it (by simp)
  refine PR st p.isList (x:=u) (by simpa using hu) λh' st' sb=>?_
  have I1:Inv X pins σ H {s with heap:=h'}:=I.turned (t':=s.toks) (λb o hb e=>(sb.2 b hb).trans e) f0 f1 f3 f4 f5
  obtain⟨o,e,c,d⟩:=id st';exact⟨u,rfl,yt (s:={s with heap:=h'}) e c d (by decide) ⟨x,H,I1,ru,⟨rfl,λys hy=>by rw[I.lK hy hq];exact hx⟩,st',λb hb=>(hf b hb).1⟩⟩
 done:=by
  intro X hP hw hK hc i pins s σ H E I hf st hg;subst hP hw hK;obtain⟨xs,hq,hx⟩:=hg;obtain⟨its,rv,p,hz⟩:=I.list hq;obtain⟨f0,f1,f2,f3,f4,f5⟩:=hf it (by simp)
  have hl:=rv.length;exact wpAny_pyNext_list_end (I.ok.hd hc) st p.isList (by simp;lia) λh' eb=>⟨rfl,I.turned (t':=s.toks) (λb o hb e=>eb b o hb e) f0 f1 f3 f4 f5⟩
 self:=λ_ _ _ _ _ st h=>wpAny_pyIter_listiter st h
theorem lT(a it:Addr):Turn P w K tg (tX K a) [it] it (λi h=>h.IsTupleIter it a i) where
 mem:=by simp
 obj:=λi h st b hb=>by
  have e:b=it:=by simpa using hb
  subst e;obtain⟨o,e,c,d⟩:=st;exact⟨o,e,λv z=>by rw[d] at z;cases z⟩
 keep:=λi h h' st k=>st.at λo e=>k it (by simp) o e
 item:=by
  intro X hP hw hK hc i pins s σ H E I hf st hg;subst hP hw hK;obtain⟨xs,x,hq,hx⟩:=hg;obtain⟨its,rv,p,hz⟩:=I.tuple hq;obtain⟨u,hu,ru⟩:=rv.get hx;obtain⟨f0,f1,f2,f3,f4,f5⟩:=hf it (by simp)
  refine wpAny_pyNext_tuple_item st (show s.heap.IsTuple a its.toArray from p) (x:=u) (by simpa using hu) λh' st' sb=>?_
  have I1:Inv X pins σ H {s with heap:=h'}:=I.turned (t':=s.toks) (λb o hb e=>(sb.2 b hb).trans e) f0 f1 f3 f4 f5
  obtain⟨o,e,c,d⟩:=id st';exact⟨u,rfl,yt (s:={s with heap:=h'}) e c d (by decide) ⟨x,H,I1,ru,⟨rfl,λys hy=>by rw[I.jf hy hq];exact hx⟩,st',λb hb=>(hf b hb).1⟩⟩
 done:=by
  intro X hP hw hK hc i pins s σ H E I hf st hg;subst hP hw hK;obtain⟨xs,hq,hx⟩:=hg;obtain⟨its,rv,p,hz⟩:=I.tuple hq;obtain⟨f0,f1,f2,f3,f4,f5⟩:=hf it (by simp)
  have hl:=rv.length;exact wpAny_pyNext_tuple_end (I.ok.hd hc) st (show s.heap.IsTuple a its.toArray from p) (by simp;lia) λh' eb=>⟨rfl,I.turned (t':=s.toks) (λb o hb e=>eb b o hb e) f0 f1 f3 f4 f5⟩
 self:=λ_ _ _ _ _ st h=>wpAny_pyIter_tupleiter st h
theorem sv{w:World}{K:PySem.W.Frag}(it:Addr)(lo:Int)(n:Nat):Turn P w K tg (xH lo n) [it] it (λi h=>IsRangeIter h it (lo+(i:Nat)*1) ((n:Int)-(i:Nat)) 1) where
 mem:=by simp
 obj:=λi h st b hb=>by
  have e:b=it:=by simpa using hb
  subst e;exact⟨_,st,λv z=>by
   have z':Data.fields _=Data.cell v:=z
   cases z'⟩
 keep:=λi h h' st k=>k it (by simp) _ st
 item:=by
  intro X hP hw hK hc i pins s σ H E I hf st hg;subst hP hw hK;obtain⟨f0,f1,f2,f3,f4,f5⟩:=hf it (by simp)
  have W:=Walks.range (prog:=X.prog) (w:=X.w) (I.ok.hd hc) it lo 1 n;refine W.item i s _ _ hg st λv h' tk hv st' kk=>?_;obtain⟨t,rfl⟩:=hv;have I1:Inv X pins σ H {s with heap:=h',toks:=tk}:=I.turned (λb o hb e=>kk b o (by simpa using hb) e) f0 f1 f3 f4 f5
  refine⟨_,rfl,yt (s:={s with heap:=h',toks:=tk}) (n:="range_iterator") st' rfl rfl (by decide) ⟨.int (lo+i),H,I1,⟨t,?_⟩,⟨rfl,rfl⟩,st',λb hb=>(hf b hb).1⟩⟩
  rw[Int.mul_one]
 done:=by
  intro X hP hw hK hc i pins s σ H E I hf st hg;subst hP hw hK;obtain⟨f0,f1,f2,f3,f4,f5⟩:=hf it (by simp)
  exact wpAny_pyNext_range_end (I.ok.hd hc) st (by have:n<=i:=hg;lia) λh' eb=>⟨rfl,I.turned (t':=s.toks) (λb o hb e=>eb b o hb e) f0 f1 f3 f4 f5⟩
 self:=λ_ _ _ _ _ st h=>wpAny_pyIter_rangeiter st h
section
variable {X:Cx} {tg:Expr}
theorem qx{s:Shared}{R:It->Hp->Prop}{lo hi:Int}{t u v:Tok}{tk:Nat}(I:Inv X pins σ H s)(h1:-(2^62)<=lo)(h2:lo<2^62)(h3:-(2^62)<=hi)(h4:hi<2^62)
  (q:R (xH lo (hi-lo).toNat) H):wpAny (model X.prog X.w) X.A (pyIter (.ref s.heap.objs.size)) (JE X pins σ tg R) E {s with heap:=s.heap.push {cls:=.type "range",data:=.fields #[.int lo t,.int hi u,.int 1 v]},toks:=tk}:=by
 refine wpAny_pyIter_range (IsRange.new ..) (small_one h1 h2 h3 h4) ?_;have I1:Inv X pins σ H {s with heap:=s.heap.push {cls:=.type "range",data:=.fields #[.int lo t,.int hi u,.int 1 v]},toks:=tk}:=I.kept λb o e=>K9 _ e
 refine⟨(s.heap.push {cls:=.type "range",data:=.fields #[.int lo t,.int hi u,.int 1 v]}).objs.size,[(s.heap.push {cls:=.type "range",data:=.fields #[.int lo t,.int hi u,.int 1 v]}).objs.size],_,_,H,rfl,
  I1.kept (t':=tk) λb o e=>K9 _ e,sv _ lo (hi-lo).toNat,?_,λb hb=>?_,q⟩
 ·have e1:lo+((0:Nat):Int)*1=lo:=by simp
  have e2:(((hi-lo).toNat:Nat):Int)-((0:Nat):Int)=Builtin.Range.rangeSize lo hi 1:=by rw[rangeSize_one];split<;>lia
  show IsRangeIter _ _ (lo+((0:Nat):Int)*1) ((((hi-lo).toNat:Nat):Int)-((0:Nat):Int)) 1;rw[e1,e2];exact La _ rfl
 ·have e:b=(s.heap.push {cls:=.type "range",data:=.fields #[.int lo t,.int hi u,.int 1 v]}).objs.size:=by simpa using hb
  subst e;exact I1.p6 (KH _) (I1.bg.fresh (KH _))
def mT(ta:TA):TI:=λσ H R=>ta σ H λvs H1=>∃j:Int,vs=[.int j]/\-(2^62)<=j/\j<2^62/\R (xH 0 j.toNat) H1
def mK(ta:TA):TI:=λσ H R=>ta σ H λvs H1=>∃i j:Int,vs=[.int i,.int j]/\(-(2^62)<=i/\i<2^62/\-(2^62)<=j/\j<2^62)/\R (xH i (j-i).toNat) H1
theorem xt{a:Expr}{ta:TA}{p pos:Pos}(hg:Gl X "range")(hm:X.mg "range"=none)(ha:PA X [a] ta)(hs:autoParam (starEach [a] X.env=[(false,eval a X.env)]) ℜ0):PI X tg (.Call (.Name "range" p) [a] [] pos) (mT ta):=by
 intro pins s σ H R I h;refine Call_ (eX I hg hm boot_range (LN (bS (ha pos pins s σ H _ I h) λus s1 hq31=>?_) hs rfl));obtain⟨vs,H1,I1,r1,q1⟩:=hq31;obtain⟨j,e,q1,q2,q⟩:=q1;subst e
 cases r1 with
 |cons r rr =>
  cases rr;obtain⟨t,rfl⟩:=r;exact call_range_1 (qx I1 (by lia) (by lia) q1 q2 (by simpa using q))
theorem wQ{a b:Expr}{ta:TA}{p pos:Pos}(hg:Gl X "range")(hm:X.mg "range"=none)(ha:PA X [a,b] ta)(hs:autoParam (starEach [a,b] X.env=[(false,eval a X.env),(false,eval b X.env)]) ℜ0)(hs2:autoParam (starEach [b] X.env=[(false,eval b X.env)]) ℜ0):
  PI X tg (.Call (.Name "range" p) [a,b] [] pos) (mK ta):=by
 intro pins s σ H R I h;refine Call_ (eX I hg hm boot_range (LN (bS (ha pos pins s σ H _ I h) λus s1 hq32=>?_) (by rw[hs,hs2]) (by rw[hs2];rfl)))
 obtain⟨vs,H1,I1,r1,q1⟩:=hq32;obtain⟨i,j,e,⟨q1,q2,q3,q4⟩,q⟩:=q1;subst e
 cases r1 with
 |cons r rr =>
  cases rr with
  |cons r' rr =>
   cases rr;obtain⟨t,rfl⟩:=r;obtain⟨t',rfl⟩:=r';exact call_range_2 (qx I1 q1 q2 q3 q4 q)
def GC(wi:TI)(g:TG)(tb:TS):TS:=λD σ H=>wi σ H λJ H1=>∃W:Nat->Nat->St->Hp->Prop,(∃m,W 0 m σ H1)/\∀i m σ H,W i m σ H ->
 (J.stop i H/\D.nx σ H)\/(J.go i H/\∃N:St->Hp->Prop,(∀σ' H',N σ' H'->∃m',m'<m/\W (i+1) m' σ' H')/\∀x H',J.Eo i H x H'->g x σ H' λσ2 H2=>tb {D with nx:=N,ct:=N,bk:=D.nx} σ2 H2)
noncomputable def ji(fp:List Addr)(h:Heap):List (Addr×Obj):=fp.filterMap λb=>(h.get? b).map λo=>(b,o)
theorem eE(hb:b∈fp)(e:h.get? b=some o):(b,o)∈ji fp h:=NK.mpr ⟨b,hb,by rw[e];rfl⟩
theorem vS{p:Addr×Obj}(hp:p∈ji fp h):p.1∈fp/\h.get? p.1=some p.2:=by
 obtain⟨b,hb,e⟩:=NK.mp hp
 cases q:h.get? b with
 |none=>rw[q] at e;cases e
 |some o =>
  rw[q] at e;have e':(b,o)=p:=Option.some.inj e;subst e';exact⟨hb,q⟩
theorem Inv.pinned{s:Shared}(I:Inv X pins σ H s)(hf:∀b∈fp,m6 X pins H b)(ho:∀b∈fp,∃o,s.heap.get? b=some o/\∀v,o.data≠.cell v):Inv X (pins++ji fp s.heap) σ H s:=
 I.ou λp hp=>(Lq.mp hp).elim (λz=>I.pin p (Lh _ z)) λz=>by
  obtain⟨hb,e⟩:=vS z;obtain⟨f0,f1,f2,_⟩:=hf p.1 hb;obtain⟨o,e',d⟩:=ho p.1 hb;rw[e] at e';cases e';exact⟨e,f0,f1,f2,d⟩
theorem Inv.fX{pl:List (Addr×Obj)}{s:Shared}(I:Inv X (pins++pl) σ H s):Inv X pins σ H s:=I.ou λp hp=>I.pin p (Lh _ (M4 _ hp))
theorem ES{iter:Expr}{wi:TI}{g:TG}{pos:Pos}(hp:PassesOwn (model X.prog X.w) X.A X.env X.xe)(hc:X.calm=true)(hi:PI X tg iter wi)(hg:PG X tg g)(hb:rS X body tb)
  (hs:autoParam (∀x,foldedSetIterable iter X.env x=pure x) ℜ3):PS X (.For tg iter body [] pos) (GC wi g tb):=by
 intro pins s σ H D I h;refine wpAny_For (bS (hi pins s σ H _ I h) λv s1 h1=>bS h1 λitv s2 h2=>?_) hs;obtain⟨it,fp,tn,J,H2,e,I2,T,st2,f2,W,⟨m0,w0⟩,turn⟩:=h2;subst e;have stat:∀{H':Hp},(∀b∈fp,H' b=none)->∀b∈fp,m6 X pins H' b:=λhn b hb=>⟨hn b hb,(f2 b hb).2⟩;refine codeAny_forLoop_any (λn s'=>∃i σ' H',Inv X pins σ' H' s'/\tn i s'.heap/\(∀b∈fp,H' b=none)/\W i n σ' H') ?_ m0 ⟨0,σ,H2,I2,st2,λb hb=>(f2 b hb).1,w0⟩;rintro n s3 ⟨i,σ3,H3,I3,st3,fr3,w3⟩;rcases turn i n σ3 H3 w3 with ⟨stop,qn⟩|⟨go,N,hN,step⟩
 ·refine MP hp (bS (T.done X rfl rfl rfl hc i pins s3 σ3 H3 X.xe I3 (stat fr3) st3 stop) λr s4 hq33=>?_);obtain⟨hr,I4⟩:=hq33;subst hr;exact O4 ⟨σ3,H3,I4,qn⟩
 ·refine MP hp (bS (T.item X rfl rfl rfl hc i pins s3 σ3 H3 X.xe I3 (stat fr3) st3 go) λr s4 hq34=>?_);obtain⟨u,hr,h4⟩:=hq34;subst hr;refine MP hp (bS h4 λ_ s5 hq35=>?_);obtain⟨x,H5,I5,r5,y5,st5,fr5⟩:=hq35;have I5':=I5.pinned (stat fr5) (T.obj _ _ st5);refine MP hp (bS (hg _ s5 σ3 H5 x u _ I5' r5 (step x H5 y5)) λ_ s6 hq36=>?_);obtain⟨σ6,H6,I6,q6⟩:=hq36;refine MP hp (bS (hb _ s6 σ6 H6 _ I6 q6) λf s7 q7=>?_);have again:∀{σ7:St} {H7:Hp},Inv X (pins++ji fp s5.heap) σ7 H7 s7->N σ7 H7->∃m,m<n/\∃i σ' H',Inv X pins σ' H' s7/\tn i s7.heap/\(∀b∈fp,H' b=none)/\W i m σ' H':=λ{σ7 H7} I7 n7=>by
   obtain⟨m',hm,w7⟩:=hN σ7 H7 n7;refine⟨m',hm,i+1,σ7,H7,I7.fX,T.keep _ _ _ st5 λb hb o e=>(I7.pin (b,o) (Lh _ (Lh _ (eE hb e)))).1,λb hb=>?_,w7⟩;obtain⟨o,e,d⟩:=T.obj _ _ st5 b hb;exact (I7.pin (b,o) (Lh _ (Lh _ (eE hb e)))).2.1
  cases f with
  |next=>obtain⟨σ7,H7,I7,n7⟩:=q7;exact again I7 n7
  |cont=>obtain⟨σ7,H7,I7,n7⟩:=q7;exact again I7 n7
  |brk=>obtain⟨σ7,H7,I7,q7⟩:=q7;exact⟨σ7,H7,I7.fX,q7⟩
  |ret v=>obtain⟨x7,σ7,H7,I7,r7,q7⟩:=q7;exact⟨x7,σ7,H7,I7.fX,r7,q7⟩
end
theorem AR{K:PySem.W.Frag}{g:TG}(Pv:Nat->St->Hp->Prop)(h0:Pv 0 σ H)(hl:∀i σ H,i<=xs.length->Pv i σ H->a_ K H a xs)
  (hs:∀i x σ H,xs[i]?=some x->Pv i σ H->g x σ H λσ2 H2=>tb {D with nx:=Pv (i+1),ct:=Pv (i+1),bk:=D.nx} σ2 H2) (hd:∀σ H,Pv xs.length σ H->D.nx σ H) :
  ∃W:Nat->Nat->St->Hp->Prop,(∃m,W 0 m σ H)/\∀i m σ H,W i m σ H ->
   ((xB K a).stop i H/\D.nx σ H)\/((xB K a).go i H/\∃N:St->Hp->Prop,(∀σ' H',N σ' H'->∃m',m'<m/\W (i+1) m' σ' H')/\∀x H',(xB K a).Eo i H x H'->g x σ H' λσ2 H2=>tb {D with nx:=N,ct:=N,bk:=D.nx} σ2 H2):=by
 refine⟨λi m σ H=>m=xs.length-i/\i<=xs.length/\Pv i σ H,⟨xs.length,by simp,KW _,h0⟩,?_⟩
 rintro i m σ H ⟨rfl,hi,p⟩;have q:=hl i σ H hi p;by_cases hlt:i<xs.length
 ·refine .inr ⟨⟨xs,xs[i],q,by simp[hlt]⟩,Pv (i+1),λσ' H' p'=>⟨xs.length-(i+1),by lia,rfl,hlt,p'⟩,λx H' y=>?_⟩
  obtain⟨e,y⟩:=y;subst e;exact hs i x σ _ (y xs q) p
 ·have e:i=xs.length:=by lia
  subst e;exact .inl ⟨⟨xs,q,KH _⟩,hd σ H p⟩
theorem D8{K:PySem.W.Frag}{g:TG}(Pv:Nat->St->Hp->Prop)(h0:Pv 0 σ H)(hl:∀i σ H,i<=xs.length->Pv i σ H->aX K H a xs)
  (hs:∀i x σ H,xs[i]?=some x->Pv i σ H->g x σ H λσ2 H2=>tb {D with nx:=Pv (i+1),ct:=Pv (i+1),bk:=D.nx} σ2 H2) (hd:∀σ H,Pv xs.length σ H->D.nx σ H) :
  ∃W:Nat->Nat->St->Hp->Prop,(∃m,W 0 m σ H)/\∀i m σ H,W i m σ H ->
   ((tX K a).stop i H/\D.nx σ H)\/((tX K a).go i H/\∃N:St->Hp->Prop,(∀σ' H',N σ' H'->∃m',m'<m/\W (i+1) m' σ' H')/\∀x H',(tX K a).Eo i H x H'->g x σ H' λσ2 H2=>tb {D with nx:=N,ct:=N,bk:=D.nx} σ2 H2):=by
 refine⟨λi m σ H=>m=xs.length-i/\i<=xs.length/\Pv i σ H,⟨xs.length,by simp,KW _,h0⟩,?_⟩
 rintro i m σ H ⟨rfl,hi,p⟩;have q:=hl i σ H hi p;by_cases hlt:i<xs.length
 ·refine .inr ⟨⟨xs,xs[i],q,by simp[hlt]⟩,Pv (i+1),λσ' H' p'=>⟨xs.length-(i+1),by lia,rfl,hlt,p'⟩,λx H' y=>?_⟩
  obtain⟨e,y⟩:=y;subst e;exact hs i x σ _ (y xs q) p
 ·have e:i=xs.length:=by lia
  subst e;exact .inl ⟨⟨xs,q,KH _⟩,hd σ H p⟩
theorem wx{lo:Int}{n:Nat}{g:TG}(Pv:Nat->St->Hp->Prop)(h0:Pv 0 σ H)
  (hs:∀i σ H,i<n->Pv i σ H->g (.int (lo+i)) σ H λσ2 H2=>tb {D with nx:=Pv (i+1),ct:=Pv (i+1),bk:=D.nx} σ2 H2) (hd:∀σ H,Pv n σ H->D.nx σ H) :
  ∃W:Nat->Nat->St->Hp->Prop,(∃m,W 0 m σ H)/\∀i m σ H,W i m σ H ->
   ((xH lo n).stop i H/\D.nx σ H)\/((xH lo n).go i H/\∃N:St->Hp->Prop,(∀σ' H',N σ' H'->∃m',m'<m/\W (i+1) m' σ' H')/\∀x H',(xH lo n).Eo i H x H'->g x σ H' λσ2 H2=>tb {D with nx:=N,ct:=N,bk:=D.nx} σ2 H2):=by
 refine⟨λi m σ H=>m=n-i/\i<=n/\Pv i σ H,⟨n,by simp,KW _,h0⟩,?_⟩
 rintro i m σ H ⟨rfl,hi,p⟩;by_cases hlt:i<n
 ·refine .inr ⟨hlt,Pv (i+1),λσ' H' p'=>⟨n-(i+1),by lia,rfl,hlt,p'⟩,λx H' y=>?_⟩
  obtain⟨e,y⟩:=y;subst e y;exact hs i σ _ hlt p
 ·have e:i=n:=by lia
  subst e;exact .inl ⟨KH _,hd σ H p⟩
abbrev R2:=V->V->Hp->VK->Prop
variable{r r':R2}
def cJ(X:Cx)(f:Value->Value->Sem Value)(r:R2):Prop:=
 ∀(pins:List (Addr×Obj)) (s:Shared) (σ:St) (H:Hp) (x y:V) (v u:Value) (Q:VK),Inv X pins σ H s->RelV x v->RelV y u->r x y H Q ->
  wpAny (model X.prog X.w) X.A (f v u) (EP X pins σ Q) X.xe s
def Jd(X:Cx)(f:Value->Sem Value)(r:V->Hp->VK->Prop):Prop:=
 ∀(pins:List (Addr×Obj)) (s:Shared) (σ:St) (H:Hp) (x:V) (v:Value) (Q:VK),Inv X pins σ H s->RelV x v->r x H Q ->
  wpAny (model X.prog X.w) X.A (f v) (EP X pins σ Q) X.xe s
def bt(X:Cx)(f:Value)(r:List V->Hp->VK->Prop):Prop:=
 ∀(pins:List (Addr×Obj)) (s:Shared) (σ:St) (H:Hp) (xs:List V) (us:List Value) (Q:VK),Inv X pins σ H s->Vals xs us->r xs H Q ->
  wpAny (model X.prog X.w) X.A (call f us) (EP X pins σ Q) X.xe s
def Jx(X:Cx)(r:V->Hp->(Bool->Hp->Prop)->Prop):Prop:=
 ∀(pins:List (Addr×Obj)) (s:Shared) (σ:St) (H:Hp) (x:V) (v:Value) (Q:Bool->Hp->Prop),Inv X pins σ H s->RelV x v->r x H Q ->
  wpAny (model X.prog X.w) X.A (truthy v) (TP X pins σ Q) X.xe s
def Aa(r:R2)(ta tb:TE):TE:=λσ H Q=>ta σ H λx H1=>tb σ H1 λy H2=>r x y H2 Q
def IE(r:V->Hp->VK->Prop)(ta:TE):TE:=λσ H Q=>ta σ H λx H1=>r x H1 Q
def rI(C:Int->Int->Prop)(g:Int->Int->V):R2:=λx y H Q=>∃i j,x=.int i/\y=.int j/\C i j/\Q (g i j) H
def Az(g:Int->Int->V):R2:=λx y H Q=>∃i j,x=.int i/\y=.int j/\Q (g i j) H
def rU(g:Int->V):V->Hp->VK->Prop:=λx H Q=>∃i,x=.int i/\Q (g i) H
section
variable {X:Cx} {a b c:Expr} {ta tb tc:TE} {pos:Pos}
theorem E8(ha:PE X a ta)(hb:PE X b tb){s:Shared}{R:V->V->Hp->Prop}(I:Inv X pins σ H s)
  (h:ta σ H λx H1=>tb σ H1 λy H2=>R x y H2)  
  (hf:∀v u s2 x y H2,Inv X pins σ H2 s2->RelV x v->RelV y u->R x y H2->wpAny (model X.prog X.w) X.A (f v u) Q X.xe s2) :
  wpAny (model X.prog X.w) X.A (eval a X.env) (λv s₁=>wpAny (model X.prog X.w) X.A (eval b X.env) (λu s₂=>wpAny (model X.prog X.w) X.A (f v u) Q X.xe s₂) X.xe s₁) X.xe s:=by
 refine bS (ha pins s σ H _ I h) λv s1 hq37=>?_;obtain⟨x,H1,I1,r1,q1⟩:=hq37;refine bS (hb pins s1 σ H1 _ I1 q1) λu s2 hq38=>?_;obtain⟨y,H2,I2,r2,q2⟩:=hq38;exact hf v u s2 x y H2 I2 r1 r2 q2
theorem Hz{op:Operator}(ho:cJ X (binaryOp op) r)(ha:PE X a ta)(hb:PE X b tb):PE X (.BinOp a op b pos) (Aa r ta tb):=by
 intro pins s σ H Q I h;exact wpAny_BinOp (E8 ha hb I h λv u s2 x y H2 I2 rx ry q=>ho pins s2 σ H2 x y v u Q I2 rx ry q)
theorem IK{op:UnaryOp}{r:V->Hp->VK->Prop}(ho:Jd X (unaryOp op) r)(ha:PE X a ta):PE X (.UnaryOp op a pos) (IE r ta):=by
 intro pins s σ H Q I h;exact UnaryOp_ (bS (ha pins s σ H _ I h) λv s1 ⟨x,H1,I1,r1,q1⟩=>ho pins s1 σ H1 x v Q I1 r1 q1)
theorem HX{C:Int->Int->Prop}
  (rule:∀(i j:Int) (t u:Tok) (s:Shared) (Q:Value->Shared->Prop) (E:Value->Shared->Prop),C i j->Q (.int (g i j) s.toks) {s with toks:=s.toks+1}->wpAny (model X.prog X.w) X.A (f (.int i t) (.int j u)) Q E s) :
  cJ X f (rI C λi j=>.int (g i j)):=by
 intro pins s σ H x y v u Q I rx ry h;obtain⟨i,j,rfl,rfl,hc,q⟩:=h;obtain⟨t,rfl⟩:=rx;obtain⟨t',rfl⟩:=ry;exact rule i j t t' s _ _ hc ⟨.int (g i j),H,I.tok _,⟨_,rfl⟩,q⟩
theorem Ij
  (rule:∀(i j:Int) (t u:Tok) (s:Shared) (Q:Value->Shared->Prop) (E:Value->Shared->Prop),Q (.int (g i j) s.toks) {s with toks:=s.toks+1}->wpAny (model X.prog X.w) X.A (f (.int i t) (.int j u)) Q E s) :
  cJ X f (Az λi j=>.int (g i j)):=by
 intro pins s σ H x y v u Q I rx ry h;obtain⟨i,j,rfl,rfl,q⟩:=h;obtain⟨t,rfl⟩:=rx;obtain⟨t',rfl⟩:=ry;exact rule i j t t' s _ _ ⟨.int (g i j),H,I.tok _,⟨_,rfl⟩,q⟩
theorem C9{g:Int->Int->Bool}
  (rule:∀(i j:Int) (t u:Tok) (s:Shared) (Q:Value->Shared->Prop) (E:Value->Shared->Prop),Q (.bool (g i j)) s->wpAny (model X.prog X.w) X.A (f (.int i t) (.int j u)) Q E s) :
  cJ X f (Az λi j=>.bl (g i j)):=by
 intro pins s σ H x y v u Q I rx ry h;obtain⟨i,j,rfl,rfl,q⟩:=h;obtain⟨t,rfl⟩:=rx;obtain⟨t',rfl⟩:=ry;exact rule i j t t' s _ _ ⟨.bl (g i j),H,I,rfl,q⟩
def Jz(i j:Int):Prop:=0<j/\j<1073741824
def HN(i j:Int):Prop:=0<=j/\j<=1000000/\i.natAbs<2^64
def zO(i j:Int):Prop:=(-(2^64)<i/\i<2^64)\/(-(2^64)<j/\j<2^64)
theorem zO.ok{i j:Int}(h:zO i j):IntMulOk i j:=by
 rcases h with ⟨h1,h2⟩|⟨h1,h2⟩
 ·exact .of_left (intBits_le_64 h1 h2)
 ·exact .of_right (intBits_le_64 h1 h2)
theorem yP:cJ X (binaryOp .Add) (Az λi j=>.int (i+j)):=Ij λ_ _ _ _ _ _ _ q=>add_int q
theorem cZ:cJ X (binaryOp .Sub) (Az λi j=>.int (i-j)):=Ij λ_ _ _ _ _ _ _ q=>sub_int q
theorem Fm:cJ X (binaryOp .Mult) (rI zO λi j=>.int (i*j)):=HX λ_ _ _ _ _ _ _ hc q=>mul_int q hc.ok
theorem jK:cJ X (binaryOp .FloorDiv) (rI Jz λi j=>.int (i / j)):=HX λi j _ _ _ _ _ hc q=>by
 have h1:(0:Int)<j:=hc.1;have h2:j<1073741824:=hc.2;exact floordiv_int (by lia) (by rw[Int.fdiv_eq_ediv_of_nonneg i (by lia)];exact q) (.inl (PyProof.noPylong_small (by lia)))
theorem eJ:cJ X (binaryOp .Mod) (rI (λ_ j=>0<j) λi j=>.int (i % j)):=HX λi j _ _ _ _ _ hc q=>by
 have h1:(0:Int)<j:=hc;exact mod_int' (by lia) (by rw[Int.fmod_eq_emod_of_nonneg i (by lia)];exact q)
theorem EH:cJ X (binaryOp .Pow) (rI HN λi j=>.int (i^j.toNat)):=HX λ_ _ _ _ _ _ _ hc q=>pow_int_small hc.1 hc.2.1 hc.2.2 q
theorem Et:cJ X (binaryOp .LShift) (rI HN λi j=>.int (i*2^j.toNat)):=HX λ_ _ _ _ _ _ _ hc q=>lshift_int_small hc.1 hc.2.1 hc.2.2 q
theorem Kv{f:Value->Sem Value}{g:Int->Int}
  (rule:∀(i:Int) (t:Tok) (s:Shared) (Q:Value->Shared->Prop) (E:Value->Shared->Prop),Q (.int (g i) s.toks) {s with toks:=s.toks+1}->wpAny (model X.prog X.w) X.A (f (.int i t)) Q E s) :
  Jd X f (rU λi=>.int (g i)):=by
 intro pins s σ H x v Q I rx h;obtain⟨i,rfl,q⟩:=h;obtain⟨t,rfl⟩:=rx;exact rule i t s _ _ ⟨.int (g i),H,I.tok _,⟨_,rfl⟩,q⟩
theorem cP:Jd X (unaryOp .USub) (rU λi=>.int (-i)):=Kv λ_ _ _ _ _ q=>neg_int q
end
noncomputable def Hd:V->V->Bool
 |.aO,.aO=>true|.aO,.int _=>true|.int _,.aO=>true|.aO,.bl _=>true|.bl _,.aO=>true|.aO,.str _=>true|.str _,.aO=>true
 |.int _,.int _=>true|.bl _,.bl _=>true|.str _,.str _=>true|.rq _,.rq _=>true
 |.int _,.str _=>true|.str _,.int _=>true|.bl _,.str _=>true|.str _,.bl _=>true
 |_,_=>false
def GH:R2:=λx y H Q=>Hd x y=true/\Q (.bl (decide (x=y))) H
def IL:R2:=λx y H Q=>Hd x y=true/\Q (.bl (!decide (x=y))) H
theorem uR{i j:Int}:decide (V.int i=V.int j)=(i == j):=by
 rw[Nl];simp
theorem An{i j:Bool}:decide (V.bl i=V.bl j)=(i == j):=by
 rw[Nl];simp
theorem uQ{i j:Str}:decide (V.str i=V.str j)=(i == j):=by
 rw[Nl];simp
theorem um{i j:Array UInt8}:decide (V.rq i=V.rq j)=(i.toList == j.toList):=by
 rw[Nl];cases i;cases j;simp
section
variable {X:Cx} {a b c:Expr} {ta tb tc:TE} {pos:Pos}
theorem aY{s:Shared}{Q:VK}{k k':Bool}(I:Inv X pins σ H s)(q:Q (.bl k) H)(e:k=k'):EP X pins σ Q (.bool k') s:=by
 subst e;exact⟨.bl k,H,I,rfl,q⟩
theorem Ee:cJ X (compareOp .Eq) GH:=by
 intro pins s σ H x y v u Q I rx ry h;obtain⟨hs,q⟩:=h
 cases x with
 |aO =>
  cases rx
  cases y with
  |aO=>cases ry;exact PySem.EqNone.eq_none_none (aY I q (by simp))
  |bl j=>cases ry;exact PySem.EqNone.eq_none_bool (aY I q (by simp))
  |int j=>obtain⟨t',rfl⟩:=ry;exact PySem.EqNone.eq_none_int (aY I q (by simp))
  |str j=>obtain⟨t',rfl⟩:=ry;exact PySem.EqNone.eq_none_str (aY I q (by simp))
  |_=>exact absurd (show false=true from hs) KP
 |bl i =>
  cases rx
  cases y with
  |aO=>cases ry;exact PySem.EqNone.eq_bool_none (aY I q (by simp))
  |bl j=>cases ry;exact eq_bool (aY I q An)
  |str j=>obtain⟨t',rfl⟩:=ry;exact PySem.EqMixed.eq_bool_str (aY I q (by simp))
  |_=>exact absurd (show false=true from hs) KP
 |int i =>
  obtain⟨t,rfl⟩:=rx
  cases y with
  |aO=>cases ry;exact PySem.EqNone.eq_int_none (aY I q (by simp))
  |int j=>obtain⟨t',rfl⟩:=ry;exact eq_int (aY I q uR)
  |str j=>obtain⟨t',rfl⟩:=ry;exact PySem.EqMixed.eq_int_str (aY I q (by simp))
  |_=>exact absurd (show false=true from hs) KP
 |str i =>
  obtain⟨t,rfl⟩:=rx
  cases y with
  |aO=>cases ry;exact PySem.EqNone.eq_str_none (aY I q (by simp))
  |bl j=>cases ry;exact PySem.EqMixed.eq_str_bool (aY I q (by simp))
  |int j=>obtain⟨t',rfl⟩:=ry;exact PySem.EqMixed.eq_str_int (aY I q (by simp))
  |str j=>obtain⟨t',rfl⟩:=ry;exact eq_str (aY I q uQ)
  |_=>exact absurd (show false=true from hs) KP
 |rq i =>
  obtain⟨t,rfl⟩:=rx
  cases y with
  |rq j=>obtain⟨t',rfl⟩:=ry;exact W.eq_bytes (aY I q um)
  |_=>exact absurd (show false=true from hs) KP
 |_=>cases y<;>exact absurd (show false=true from hs) KP
theorem DH:cJ X (compareOp .NotEq) IL:=by
 intro pins s σ H x y v u Q I rx ry h;obtain⟨hs,q⟩:=h
 cases x with
 |aO =>
  cases rx
  cases y with
  |aO=>cases ry;exact PySem.EqNone.ne_none_none (aY I q (by simp))
  |bl j=>cases ry;exact PySem.EqNone.ne_none_bool (aY I q (by simp))
  |int j=>obtain⟨t',rfl⟩:=ry;exact PySem.EqNone.ne_none_int (aY I q (by simp))
  |str j=>obtain⟨t',rfl⟩:=ry;exact PySem.EqNone.ne_none_str (aY I q (by simp))
  |_=>exact absurd (show false=true from hs) KP
 |bl i =>
  cases rx
  cases y with
  |aO=>cases ry;exact PySem.EqNone.ne_bool_none (aY I q (by simp))
  |bl j=>cases ry;exact ne_bool (aY I q (Lw not An))
  |str j=>obtain⟨t',rfl⟩:=ry;exact PySem.EqMixed.ne_bool_str (aY I q (by simp))
  |_=>exact absurd (show false=true from hs) KP
 |int i =>
  obtain⟨t,rfl⟩:=rx
  cases y with
  |aO=>cases ry;exact PySem.EqNone.ne_int_none (aY I q (by simp))
  |int j=>obtain⟨t',rfl⟩:=ry;exact ne_int (aY I q (Lw not uR))
  |str j=>obtain⟨t',rfl⟩:=ry;exact PySem.EqMixed.ne_int_str (aY I q (by simp))
  |_=>exact absurd (show false=true from hs) KP
 |str i =>
  obtain⟨t,rfl⟩:=rx
  cases y with
  |aO=>cases ry;exact PySem.EqNone.ne_str_none (aY I q (by simp))
  |bl j=>cases ry;exact PySem.EqMixed.ne_str_bool (aY I q (by simp))
  |int j=>obtain⟨t',rfl⟩:=ry;exact PySem.EqMixed.ne_str_int (aY I q (by simp))
  |str j=>obtain⟨t',rfl⟩:=ry;exact ne_str (aY I q (Lw not uQ))
  |_=>exact absurd (show false=true from hs) KP
 |rq i =>
  obtain⟨t,rfl⟩:=rx
  cases y with
  |rq j=>obtain⟨t',rfl⟩:=ry;exact W.ne_bytes (aY I q (Lw not um))
  |_=>exact absurd (show false=true from hs) KP
 |_=>cases y<;>exact absurd (show false=true from hs) KP
theorem iC:cJ X (compareOp .Lt) (Az λi j=>.bl (decide (i<j))):=C9 λ_ _ _ _ _ _ _ q=>lt_int q
theorem Ea:cJ X (compareOp .LtE) (Az λi j=>.bl (decide (i<=j))):=C9 λ_ _ _ _ _ _ _ q=>le_int q
theorem zN:cJ X (compareOp .Gt) (Az λi j=>.bl (decide (j<i))):=C9 λ_ _ _ _ _ _ _ q=>gt_int q
theorem Eh:cJ X (compareOp .GtE) (Az λi j=>.bl (decide (j<=i))):=C9 λ_ _ _ _ _ _ _ q=>ge_int q
theorem vR:cJ X (compareOp .In) (λx y H Q=>∃i j,x=.str i/\y=.str j/\Q (.bl (!(Builtin.Str.occurrences j i 0 j.length 1).isEmpty)) H):=by
 intro pins s σ H x y v u Q I rx ry h;obtain⟨i,j,rfl,rfl,q⟩:=h;obtain⟨t,rfl⟩:=rx;obtain⟨t',rfl⟩:=ry;exact in_str (aY I q rfl)
theorem dC:cJ X (compareOp .Is) (λx y H Q=>y=.aO/\Q (.bl (decide (x=.aO))) H):=by
 intro pins s σ H x y v u Q I rx ry h;obtain⟨rfl,q⟩:=h;cases ry;refine is_none_gen (aY I q ?_)
 cases x<;>first
  | (cases rx;rfl)
  | (obtain⟨t,rfl⟩:=rx;rfl)
theorem gJ:cJ X (compareOp .IsNot) (λx y H Q=>y=.aO/\Q (.bl (!decide (x=.aO))) H):=by
 intro pins s σ H x y v u Q I rx ry h;obtain⟨rfl,q⟩:=h;cases ry;refine isnot_none_gen (aY I q ?_)
 cases x<;>first
  | (cases rx;rfl)
  | (obtain⟨t,rfl⟩:=rx;rfl)
theorem cJ.or(h:cJ X f r)(h':cJ X f r'):cJ X f (λx y H Q=>r x y H Q\/r' x y H Q):=by
 intro pins s σ H x y v u Q I rx ry q;rcases q with q|q
 ·exact h pins s σ H x y v u Q I rx ry q
 ·exact h' pins s σ H x y v u Q I rx ry q
theorem CG{op:CmpOp}(ho:cJ X (compareOp op) r)(ha:PE X a ta)(hb:PE X b tb)(hm:behindInMarks op b=false):PE X (.Compare a [op] [b] pos) (Aa r ta tb):=by
 intro pins s σ H Q I h;exact wpAny_Compare1 (E8 ha hb I h λv u s2 x y H2 I2 rx ry q=>ho pins s2 σ H2 x y v u Q I2 rx ry q) hm
def lW(t:TE):TT:=λσ H Q=>t σ H λx H'=>∃k,x=.bl k/\Q k H'
theorem Dc{op:CmpOp}(ho:cJ X (compareOp op) r)(ha:PE X a ta)(hb:PE X b tb)(hm:behindInMarks op b=false):PT X (.Compare a [op] [b] pos) (lW (Aa r ta tb)):=by
 intro pins s σ H Q I h;refine wpAny_isTrue_Compare1 (bS (ha pins s σ H _ I h) λv s1 ⟨x,H1,I1,r1,q1⟩=>bS (hb pins s1 σ H1 _ I1 q1) λu s2 ⟨y,H2,I2,r2,q2⟩=>
  bS (ho pins s2 σ H2 x y v u _ I2 r1 r2 q2) λc s3 ⟨z,H3,I3,r3,k,e,q3⟩=>?_) hm
 subst e;cases r3;exact Nw ⟨H3,I3,q3⟩
def ie(r r':R2)(ta tb tc:TE):TE:=λσ H Q=>ta σ H λx H1=>tb σ H1 λy H2=>r x y H2 λz H3=>∃k,z=.bl k /\
 (if k=true then tc σ H3 λw' H4=>r' y w' H4 Q else Q (.bl false) H3)
theorem AV{op:CmpOp}(ho:cJ X (compareOp op) r)(ho':cJ X (compareOp op') r')(ha:PE X a ta)(hb:PE X b tb)(hc:PE X c tc)
  (hm:autoParam (lastMarks [op,op'] [b,c]=false) ℜ5):PE X (.Compare a [op,op'] [b,c] pos) (ie r r' ta tb tc):=by
 intro pins s σ H Q I h;refine Compare_chain (bS (ha pins s σ H _ I h) λv s1 ⟨x,H1,I1,r1,q1⟩=>chain_link (bS (hb pins s1 σ H1 _ I1 q1) λu s2 ⟨y,H2,I2,r2,q2⟩=>
  bS (ho pins s2 σ H2 x y v u _ I2 r1 r2 q2) λd s3 ⟨z,H3,I3,r3,k,e,q3⟩=>?_)) hm
 subst e;cases r3;refine Nw ?_
 cases k with
 |false=>exact ite_ff ⟨.bl false,H3,I3,rfl,q3⟩
 |true=>exact ite_tt (chain_last (bS (hc pins s3 σ H3 _ I3 q3) λw' s4 ⟨z',H4,I4,r4,q4⟩=>ho' pins s4 σ H4 y z' u w' Q I4 r2 r4 q4))
theorem y6{op:CmpOp}(ho:cJ X (compareOp op) r)(ho':cJ X (compareOp op') r')(ha:PE X a ta)(hb:PE X b tb)(hc:PE X c tc)
  (hm:autoParam (lastMarks [op,op'] [b,c]=false) ℜ5):PT X (.Compare a [op,op'] [b,c] pos) (lW (ie r r' ta tb tc)):=by
 intro pins s σ H Q I h;refine isTrue_chain (bS (ha pins s σ H _ I h) λv s1 ⟨x,H1,I1,r1,q1⟩=>test_link (bS (hb pins s1 σ H1 _ I1 q1) λu s2 ⟨y,H2,I2,r2,q2⟩=>
  bS (ho pins s2 σ H2 x y v u _ I2 r1 r2 q2) λd s3 ⟨z,H3,I3,r3,k,e,q3⟩=>?_)) hm
 subst e;cases r3;refine Nw ?_
 cases k with
 |false =>
  obtain⟨k',e',q'⟩:=q3;cases e';exact ite_ff ⟨H3,I3,q'⟩
 |true =>
  refine ite_tt (test_last (bS (hc pins s3 σ H3 _ I3 q3) λw' s4 ⟨z',H4,I4,r4,q4⟩=>bS (ho' pins s4 σ H4 y z' u w' _ I4 r2 r4 q4) λd' s5 hq39=>?_));obtain⟨z2,H5,I5,r5,k2,e2,q5⟩:=hq39;subst e2;cases r5;exact Nw ⟨H5,I5,q5⟩
def Av(K:W.Frag)(x:V)(H:Hp)(k:Bool):Prop:=
 match x with
 |.aO=>k=false
 |.bl b=>k=b
 |.int i=>k=(i != 0)
 |.str y=>y.length<=sizeLine/\k=((y.length:Int) != 0)
 |.rq y=>y.size<=sizeLine/\k=((y.size:Int) != 0)
 |.ref p=>(∃xs,a_ K H p xs/\k=!xs.isEmpty)\/(∃xs,aX K H p xs/\k=!xs.isEmpty)\/∃kvs,H p=some (.dK kvs)/\k=!kvs.isEmpty
 |_=>False
theorem sL{κ:Type}{kvs:List (κ×V)}{vs:List (κ×Value)}(r:KV kvs vs):(!vs.isEmpty)=!kvs.isEmpty:=by
 cases r<;>rfl
theorem ka{its:List Value}(r:Vals xs its):(!its.toArray.isEmpty)=!xs.isEmpty:=by
 cases r<;>simp
theorem jw:(sizeLine:Nat)<2^63:=by rw[Mt];decide
theorem FC:Jx X (λx H Q=>∃k,Av X.K x H k/\Q k H):=by
 intro pins s σ H x v Q I rx h;obtain⟨k,e,q⟩:=h;have hl:=jw;have hs:sizeLine=16777216:=Mt
 cases x with
 |aO =>
  cases rx;have e':k=false:=e;subst e';exact truthy_none ⟨H,I,q⟩
 |bl b =>
  cases rx;have e':k=b:=e;subst e';exact Nw ⟨H,I,q⟩
 |int i =>
  obtain⟨t,rfl⟩:=rx;have e':k=(i != 0):=e;subst e';exact PySem.P.truthy_int ⟨H,I,q⟩
 |str y =>
  obtain⟨t,rfl⟩:=rx;obtain⟨hy,e'⟩:y.length<=sizeLine/\k=((y.length:Int) != 0):=e;subst e';exact PySem.P.truthy_str (by lia) ⟨H,I.tok _,q⟩
 |rq y =>
  obtain⟨t,rfl⟩:=rx;obtain⟨hy,e'⟩:y.size<=sizeLine/\k=((y.size:Int) != 0):=e;subst e';exact W.truthy_bytes (by lia) ⟨H,I.tok _,q⟩
 |ref p =>
  cases rx;have e':(∃xs,a_ X.K H p xs/\k=!xs.isEmpty)\/(∃xs,aX X.K H p xs/\k=!xs.isEmpty)\/∃kvs,H p=some (.dK kvs)/\k=!kvs.isEmpty:=e;rcases e' with ⟨xs,hx,e'⟩|⟨xs,hx,e'⟩|⟨kvs,hx,e'⟩
  ·subst e';obtain⟨its,r,pl,hz⟩:=I.list hx;have hlen:=r.length;exact wpAny_truthy_list pl.isList (by simp only[KC];lia) ⟨H,I.tok _,by rw[ka r];exact q⟩
  ·subst e';obtain⟨its,r,pl,hz⟩:=I.tuple hx;have hlen:=r.length;exact truthy_tuple pl (by simp only[KC];lia) ⟨H,I.tok _,by rw[ka r];exact q⟩
  ·subst e';obtain⟨hz,hS,vs,r,m⟩:kvs.length<=sizeLine/\(p == sysModules)=false/\∃vs,KV kvs vs/\s.heap.DictOf (cF X.prog X.w) p vs:=I.bg p _ hx;have hlen:kvs.length=vs.length:=Paired.length r;exact wpAny_truthy_dict hS m (by lia) ⟨H,I.tok _,by rw[sL r];exact q⟩
 |_=>exact (show False from e).elim
theorem Bq(ha:PE X a ta)(he:∀whole,isTrue a X.env whole=(do let v <- whole;standAt a.pos;holding [v] (truthy v))):
  PT X a (λσ H Q=>ta σ H λx H'=>∃k,Av X.K x H' k/\Q k H'):=by
 intro pins s σ H Q I h;exact isTrue_plain (bS (ha pins s σ H _ I h) λv s1 ⟨x,H1,I1,r1,q1⟩=>FC pins s1 σ H1 x v Q I1 r1 q1) (he _)
theorem lp:cJ X (binaryOp .Add) (λx y H Q=>∃i j,x=.str i/\y=.str j/\i.length+j.length<=sizeLine/\Q (.str (i++j)) H):=by
 intro pins s σ H x y v u Q I rx ry h;obtain⟨i,j,rfl,rfl,hz,q⟩:=h;obtain⟨t,rfl⟩:=rx;obtain⟨t',rfl⟩:=ry;exact add_str (λt' tk=>⟨.str (i++j),H,I.tok _,⟨_,rfl⟩,q⟩) hz
theorem vals1{x:V}(r:Vals [x] us):∃u,us=[u]/\RelV x u:=by
 cases r with
 |cons r1 r2=>cases r2;exact⟨_,rfl,r1⟩
theorem vals2{x y:V}(r:Vals [x,y] us):∃u w',us=[u,w']/\RelV x u/\RelV y w':=by
 cases r with
 |cons r1 r2 =>
  cases r2 with
  |cons r3 r4=>cases r4;exact⟨_,_,rfl,r1,r3⟩
theorem Am:bt X (.builtin "abs") (λxs H Q=>∃i,xs=[.int i]/\Q (.int (if i<0 then -i else i)) H):=by
 intro pins s σ H xs us Q I r h;obtain⟨i,rfl,q⟩:=h;obtain⟨u,rfl,t,rfl⟩:=vals1 r;exact call_abs_int λu tk=>⟨.int (if i<0 then -i else i),H,I.tok _,⟨_,rfl⟩,q⟩
theorem xi(hc:X.calm=true):bt X (.builtin "min") (λxs H Q=>∃i j,xs=[.int i,.int j]/\Q (.int (if j<i then j else i)) H):=by
 intro pins s σ H xs us Q I r h;obtain⟨i,j,rfl,q⟩:=h;obtain⟨u,w',rfl,⟨t,rfl⟩,⟨t',rfl⟩⟩:=vals2 r;refine min_two_ints (I.ok.hd hc) λh' tk k=>⟨_,H,I.kept k,?_,q⟩;by_cases hj:j<i
 ·rw[KO hj,KO hj];exact⟨_,rfl⟩
 ·rw[KJ hj,KJ hj];exact⟨_,rfl⟩
theorem mW:bt X (.type "int") (λxs H Q=>(∃i,xs=[.int i]/\Q (.int i) H)\/∃k,xs=[.bl k]/\Q (.int (if k then 1 else 0)) H):=by
 intro pins s σ H xs us Q I r h;rcases h with ⟨i,rfl,q⟩|⟨k,rfl,q⟩
 ·obtain⟨u,rfl,t,rfl⟩:=vals1 r;exact call_int_int ⟨.int i,H,I,⟨_,rfl⟩,q⟩
 ·obtain⟨u,rfl,r1⟩:=vals1 r;cases r1;exact call_int_bool ⟨.int (if k then 1 else 0),H,I.tok _,⟨_,rfl⟩,q⟩
theorem nI:bt X (.type "str") (λxs H Q=>∃i,xs=[.int i]/\i.natAbs.log2<1920/\Q (.str (toString i)) H):=by
 intro pins s σ H xs us Q I r h;obtain⟨i,rfl,hz,q⟩:=h;obtain⟨u,rfl,t,rfl⟩:=vals1 r;exact PySem.P.str_of_int hz ⟨.str _,H,I.tok _,⟨_,rfl⟩,q⟩
def HC(K:W.Frag)(x:V)(H:Hp)(n:Nat):Prop:=
 match x with
 |.str y=>y.length<=sizeLine/\n=y.length
 |.rq y=>y.size<=sizeLine/\n=y.size
 |.ref p=>(∃xs,a_ K H p xs/\n=xs.length)\/∃xs,aX K H p xs/\n=xs.length
 |_=>False
theorem iA:bt X (.builtin "len") (λxs H Q=>∃x n,xs=[x]/\HC X.K x H n/\Q (.int n) H):=by
 intro pins s σ H xs us Q I r h;obtain⟨x,n,rfl,e,q⟩:=h;obtain⟨u,rfl,rx⟩:=vals1 r;have hl:=jw;have hs:sizeLine=16777216:=Mt
 cases x with
 |str y =>
  obtain⟨t,rfl⟩:=rx;obtain⟨hy,e'⟩:y.length<=sizeLine/\n=y.length:=e;subst e';exact len_str (by lia) ⟨.int _,H,I.tok _,⟨_,rfl⟩,q⟩
 |rq y =>
  obtain⟨t,rfl⟩:=rx;obtain⟨hy,e'⟩:y.size<=sizeLine/\n=y.size:=e;subst e';exact W.len_bytes (by lia) ⟨.int _,H,I.tok _,⟨_,rfl⟩,q⟩
 |ref p =>
  cases rx;have e':(∃xs,a_ X.K H p xs/\n=xs.length)\/∃xs,aX X.K H p xs/\n=xs.length:=e;rcases e' with ⟨xs,hx,e'⟩|⟨xs,hx,e'⟩
  ·subst e';obtain⟨its,r',pl,hz⟩:=I.list hx;have hlen:=r'.length;exact Calls.call_len_list pl.isList (by simp only[KC];lia) ⟨.int xs.length,H,I.tok _,⟨_,by simp only[KC];rw[hlen]⟩,q⟩
  ·subst e';obtain⟨its,r',pl,hz⟩:=I.tuple hx;have hlen:=r'.length;exact len_tuple pl (by simp only[KC];lia) ⟨.int xs.length,H,I.tok _,⟨_,by simp only[KC];rw[hlen]⟩,q⟩
 |_=>exact (show False from e).elim
end
structure Gi (h:Heap) (x dx C:Addr) (mA:Str->Option Value):Prop where
 obj:h.get? x=some (W.instObj C dx)
 ns:h.Ns1 dx mA
 ne:dx≠x
theorem vN{dx:Addr}(n:h.Ns1 dx mA):∃od,h.get? dx=some od/\∀name,W.lookIn name od=some (mA name):=by
 obtain⟨o,es,ep,ho,hd,hk,_,hm⟩:=n;refine⟨o,ho,λname=>?_⟩;have e:=hm name;unfold nsFind findBy at e;rw[<- Array.find?_toList] at e;unfold W.lookIn;rw[hd];dsimp only;split
 ·rename_i y q;rw[q] at e;exact Lw some e
 ·rename_i q;rw[q] at e;have a:es.toList.any (·.refKey)=false:=by
   rw[List.any_eq_false];intro y hy;obtain⟨z,t,hkey⟩:=hk y (Array.mem_toList_iff.mp hy);simp[DictEntry.refKey,hkey]
  have a':¬ es.toList.any (·.refKey)=true:=by rw[a];exact KP
  rw[KJ a'];exact Lw some e
theorem Gi.look{x dx C:Addr}(I:Gi h x dx C mA):∃od,W.InstAt h x (W.instObj C dx) C (some od)/\∀name,W.lookIn name od=some (mA name):=
 let ⟨od,ho,hl⟩:=vN I.ns
 ⟨od,⟨I.obj,rfl,rfl,ho⟩,hl⟩
theorem jQ.some_of{v:V}{o:Option Value}(r:jQ (some v) o):∃u,o=some u/\RelV v u:=by
 cases o with
 |none=>exact (show False from r).elim
 |some u=>exact⟨u,rfl,r⟩
section
variable {P:Program} {w:World} {H H':Hp} {h h':Heap} {a C dx:Addr} {fs fs':List (Str×V)}
theorem CN(bg:i_ P w H h)(e:H a=some (.ins C dx fs)):∃mA,Gi h a dx C mA/\(∀f,jQ (fs.lookup f) (mA f))/\PySem.Within mA (fs.map (·.1))/\fs.length<=1000/\H dx=some (.own a):=by
 obtain⟨d,z,ne,ob,mA,n,r,q⟩:=(show bw P w H h a (.ins C dx fs) from bg a _ e);exact⟨mA,⟨ob,n,ne⟩,r,q,z,d⟩
end
structure JI (K:W.Frag) (C:Addr):Prop where
 pg:W.plainGet K C Str.empty=true
 hd:W.hasDictIn K C=true
 po:W.plainOver K C=true
 sa:W.findIn K (.ref C) "__setattr__"=some (some (.builtin "object.__setattr__"))
theorem JI.get{C:Addr}(c:JI K C)(f:Str):W.plainGet K C f=true:=c.pg
section
variable {X:Cx} {pins:List (Addr×Obj)} {σ:St} {H:Hp} {s:Shared} {A:Around} {E:Value->Shared->Prop} {Q:Value->Shared->Prop} {c:Value} {b:Bool}
inductive ip (K:W.Frag) (H:Hp):V->Value->Prop where
 |aO:ip K H .aO (.type "NoneType")
 |bl (x:Bool):ip K H (.bl x) (.type "bool")
 |int (i:Int):ip K H (.int i) (.type "int")
 |str (x:Str):ip K H (.str x) (.type "str")
 |Hb (x:UInt64):ip K H (.Hb x) (.type "float")
 |lst {a:Addr} {xs:List V} (e:H a=some (.lst xs)):ip K H (.ref a) (.type "list")
 |i9 {a:Addr} {o:Obj} {xs:List V} (e:H a=some (.i9 o (.lst xs))):ip K H (.ref a) (.type "list")
 |tup {a:Addr} {xs:List V} (e:H a=some (.tup xs)):ip K H (.ref a) (.type "tuple")
 |dK {a:Addr} {kvs:List (Key×V)} (e:H a=some (.dK kvs)):ip K H (.ref a) (.type "dict")
 |dT {a:Addr} {kvs:List (List Key×V)} (e:H a=some (.dT kvs)):ip K H (.ref a) (.type "dict")
 |ins {a C dx:Addr} {fs:List (Str×V)} (e:H a=some (.ins C dx fs)) (cl:JI K C) (ha:W.findIn K (.ref C) "__class__"=some (some (.builtin "object.__class__")))
   (hn:W.specialIn K (.builtin "object.__class__") "__get__"=some (some (.builtin "getset_descriptor.__get__"))) (htk:W.takesIn K (.builtin "object.__class__")=some true)
   (hm:W.mroIn K C (.type "object")=some true):ip K H (.ref a) (.ref C)
theorem mV{x:V}{t:Value}(I:Inv X pins σ H s)(rx:RelV x u)(ty:ip X.K H x t)(e:W.kitOne X.K t c=some b)(h:∀tk,Q (.bool b) {s with toks:=tk}):
  wpAny (model X.prog X.w) A (call (.builtin "isinstance") [u,c]) Q E s:=by
 cases ty with
 |aO=>cases (show u=Value.none from rx);exact MU W.kitx_none I.mx True.intro e (λz=>nomatch z) h
 |bl y=>cases (show u=Value.bool y from rx);exact MU W.kitx_bool I.mx True.intro e (λz=>nomatch z) h
 |int i=>obtain⟨t,q⟩:=(show ∃t,u=Value.int i t from rx);cases q;exact MU W.kitx_int I.mx True.intro e (λz=>nomatch z) h
 |str y=>obtain⟨t,q⟩:=(show ∃t,u=Value.str y t from rx);cases q;exact MU W.kitx_str I.mx True.intro e (λz=>nomatch z) h
 |Hb y=>obtain⟨t,q⟩:=(show ∃t,u=Value.float y t from rx);cases q;exact MU W.kitx_float I.mx True.intro e (λz=>nomatch z) h
 |@lst a xs ea =>
  cases (show u=Value.ref a from rx)
  obtain⟨_,_,n,_,h1⟩:=(show bw X.prog X.w H s.heap a (.lst xs) from I.bg a _ ea);exact MU W.kitx_list I.mx ⟨_,h1,rfl⟩ e (λz=>nomatch z) h
 |@i9 a ob xs ea =>
  cases (show u=Value.ref a from rx)
  obtain⟨_,_,_,n,_,h1⟩:=(show bw X.prog X.w H s.heap a (.i9 ob (.lst xs)) from I.bg a _ ea);exact MU W.kitx_list I.mx ⟨_,h1,rfl⟩ e (λz=>nomatch z) h
 |@tup a xs ea =>
  cases (show u=Value.ref a from rx)
  obtain⟨_,_,_,p⟩:=(show bw X.prog X.w H s.heap a (.tup xs) from I.bg a _ ea);obtain⟨o,h1,h2,_⟩:=p;exact MU W.kitx_tuple I.mx ⟨o,h1,h2⟩ e (λz=>nomatch z) h
 |@dK a kvs ea =>
  cases (show u=Value.ref a from rx)
  obtain⟨_,_,vs,_,p⟩:=(show bw X.prog X.w H s.heap a (.dK kvs) from I.bg a _ ea);obtain⟨o,es,ep,h1,h2,_⟩:=p;exact MU W.kitx_dict I.mx ⟨o,h1,h2.1⟩ e (λz=>nomatch z) h
 |@dT a kvs ea =>
  cases (show u=Value.ref a from rx)
  obtain⟨_,_,xs,_,o,es,ep,h1,h2,_⟩:=(show bw X.prog X.w H s.heap a (.dT kvs) from I.bg a _ ea);exact MU W.kitx_dict I.mx ⟨o,h1,h2.1⟩ e (λz=>nomatch z) h
 |@ins a C dx fs ea cl ha hn htk hm =>
  cases (show u=Value.ref a from rx)
  obtain⟨mA,O,_⟩:=CN I.bg ea;obtain⟨od,J,_⟩:=O.look;exact MU (W.kitx_own (cl.get _) cl.hd ha hn htk hm) I.mx J e (λz=>nomatch z) h
end
structure bQ (k:Nat) (A:Around):Prop where
 hd:A.handled=none
 dp:A.depth+3*k+5<recursionLimit
 un:A.units+16*k+200<cLine
 gd:A.guards=some []
theorem bQ.mono{k:Nat}{A:Around}(r:bQ k A)(h:j<=k):bQ j A:=⟨r.hd,by have:=r.dp;lia,by have:=r.un;lia,r.gd⟩
theorem bQ.deeper{k:Nat}{A:Around}(r:bQ (k+1) A)(env:Env):bQ k (A.deeper env):=
 ⟨r.hd,by have:=r.dp;show A.depth+1+3*k+5<_;lia,by have:=r.un;show A.units+3+16*k+200<_;lia,r.gd⟩
theorem bQ.in1{k:Nat}{A:Around}(r:bQ (k+1) A):bQ k A.in1:=
 ⟨r.hd,by have:=r.dp;show A.depth+3*k+5<_;lia,by have:=r.un;show A.units+1+16*k+200<_;lia,r.gd⟩
theorem bQ.depth{k:Nat}{A:Around}(r:bQ k A):A.depth<recursionLimit:=by have:=r.dp;lia
theorem bQ.units{k:Nat}{A:Around}(r:bQ k A):A.units+64<cLine:=by have:=r.un;lia
def mB:TA:=λ_ H Q=>Q [] H
def j0(ta:TE)(tr:TA):TA:=λσ H Q=>ta σ H λx H1=>tr σ H1 λxs H2=>Q (x::xs) H2
section
variable {X:Cx} {e:Expr} {es:List Expr} {te:TE} {t:TA} {pos:Pos}
theorem yX:PA X [] mB:=λ_ _ _ _ H Q I h=>Calls.spliced_nil ⟨[],H,I,.nil,h⟩
theorem va(ha:PE X e te)(hr:PA X es t)(hs:autoParam (starEach (e::es) X.env=(false,eval e X.env)::starEach es X.env) ℜ0):PA X (e::es) (j0 te t):=by
 intro pos pins s σ H Q I h;rw[hs];show wpAny _ _ (spliced ((false,eval e X.env)::backTo pos (starEach es X.env))) _ _ s;refine Calls.spliced_cons (bS (ha pins s σ H _ I h) λu s1 hq46=>?_);obtain⟨x,H1,I1,r1,q1⟩:=hq46;exact bS (hr pos pins s1 σ H1 _ I1 q1) λus s2 ⟨xs,H2,I2,r2,q2⟩=>⟨x::xs,H2,I2,.cons r1 r2,q2⟩
def Al(t:TA):TE:=λσ H Q=>t σ H λxs H1=>xs.length<=sizeLine/\∀p,H1 p=none->Q (.ref p) (upd H1 p (.tup xs))
def zg(t:TA):TE:=λσ H Q=>t σ H λxs H1=>xs.length<=sizeLine/\∀p,H1 p=none->Q (.ref p) (upd H1 p (.lst xs))
theorem Ft{x1}(h:PA X es t):PE X (.Tuple es x1 pos) (Al t):=by
 intro pins s σ H Q I hq;refine wpAny_Tuple_spliced (bS (h pos pins s σ H _ I hq) λus s1 ⟨xs,H1,I1,r,z,q⟩=>⟨by rw[<- r.length];exact z,?_⟩)
 have hf:H1 s1.heap.objs.size=none:=I1.bg.fresh (KH _);refine⟨.ref s1.heap.objs.size,upd H1 s1.heap.objs.size (.tup xs),I1.laid (t':=s1.toks) (λb u e=>K9 _ e) (KH _) ?_,rfl,q _ hf⟩;exact⟨z,us,r,⟨_,La _ rfl,rfl,_,rfl,rfl⟩⟩
theorem ED(h:PA X es t):PE X (.List es pos) (zg t):=by
 intro pins s σ H Q I hq;refine wpAny_List_spliced (bS (h pos pins s σ H _ I hq) λus s1 ⟨xs,H1,I1,r,z,q⟩=>⟨by rw[<- r.length];exact z,?_⟩)
 have hf:H1 s1.heap.objs.size=none:=I1.bg.fresh (KH _);refine⟨.ref s1.heap.objs.size,upd H1 s1.heap.objs.size (.lst xs),I1.laid (t':=s1.toks) (λb u e=>K9 _ e) (KH _) ?_,rfl,q _ hf⟩;exact⟨z,us,0,r,La _ rfl⟩
end
abbrev Sp:=List V->Hp->VK->XK->Prop
abbrev pe:=List Env->Hp->Shared->XK->Value->Shared->Prop
variable{CX:pe}
structure De (P:Program) (w:World) (K:W.Frag) (mg:Str->Option Value) (base:Heap) (A:Around) (outer:List Env) (s:Shared) (H:Hp):Prop where
 frames:A.frames=some outer
 mod:Mod K mg base
 bs:∀b o,base.get? b=some o->s.heap.get? b=some o/\H b=none
 BE:base.objs.size<=s.heap.objs.size
 kA:s.heap.FunFrames base outer
 Ha:∀b∈yh outer,H b=none
 bg:i_ P w H s.heap
 bare:AllBare s.gens
 tabs:TabsOk K H
def CE(outer:List Env)(P:Program)(w:World)(H:Hp)(s:Shared)(Q:VK)(u:Value)(s':Shared):Prop:=
 ∃v H',s'.os=s.os/\AllBare s'.gens/\Un (yh outer) [] H H' s.heap s'.heap/\i_ P w H' s'.heap/\RelV v u/\Q v H'
def CR(CX:pe)(outer:List Env)(P:Program)(w:World)(H:Hp)(s:Shared)(Q:VK)(E:XK)(r:Result)(s':Shared):Prop:=
 match r with
 |.ok (.ret u)=>CE outer P w H s Q u s'
 |.ok _=>False
 |.error e=>CX outer H s E e s'
structure gR (P:Program) (w:World) (K:W.Frag) (mg:Str->Option Value) (base:Heap) (CX:pe) (k:Nat) (f:Addr) (fd:FuncData) (ps:List Str) (sp:Sp):Prop where
 len:∀vs H Q E,sp vs H Q E->vs.length=ps.length
 run:∀(A:Around) (outer:List Env) (s:Shared) (H:Hp) (args:Args) (us:List Value) (vs:List V) (Q:VK) (E:XK),bQ k A->De P w K mg base A outer s H->BindsTo s fd args (ps.zip us)->Vals vs us->sp vs H Q E ->
  codeAny (model P w) A (.call (.ref f) args) (CR CX outer P w H s Q E) s
theorem gR.mono{k:Nat}{f:Addr}{ps:List Str}{sp:Sp}(F:gR P w K mg base CX j f fd ps sp)(h:j<=k):
  gR P w K mg base CX k f fd ps sp:=⟨F.len,λA outer s H args us vs Q E hr=>F.run A outer s H args us vs Q E (hr.mono h)⟩
section
variable {X:Cx} {pins:List (Addr×Obj)} {σ:St} {H:Hp} {s s':Shared}
theorem Inv.Jp(I:Inv X pins σ H s):De X.prog X.w X.K X.mg X.base X.A X.stack s H:=
 ⟨I.ok.frames,I.ok.mod,I.bs,KA I.ok.BE I.sz,I.stack,I.oa,I.bg,I.bare,I.ok.tabs.un I.base⟩
theorem Inv.after{Q:VK}(I:Inv X pins σ H s)(h:CE X.stack X.prog X.w H s Q u s'):EP X pins σ Q u s':=by
 obtain⟨v,H',os,bare,un,bg,r,q⟩:=h;obtain⟨hh,g,d,t,os'⟩:=s';obtain rfl:os'=s.os:=os;exact⟨v,H',I.call (h':=hh) (g':=g) (d':=d) (t':=t) (ch:=[]) un bg bare (λb z=>absurd z (by simp)),r,q⟩
end
def gT(sp:Sp)(dvs:List V)(E:XK)(t:TA):TE:=λσ H Q=>t σ H λvs H1=>sp (vs++dvs) H1 Q E
def Binds(K:W.Frag)(fd:FuncData)(ps:List Str)(ds:List Value):Prop:=
 ∀(s:Shared) (us:List Value),K.In s.heap->(us++ds).length=ps.length->BindsTo s fd ⟨us,[]⟩ (ps.zip (us++ds))
theorem Binds.all{ps:List Str}(h:∀us:List Value,us.length=ps.length->bindArgs fd ⟨us,[]⟩=pure (ps.zip us)):Binds K fd ps []:=λs us _ hl=>by
 rw[LF] at hl ⊢;exact .of_eq (h us hl)
def Passes(CX:pe)(X:Cx)(E:XK):Prop:=∀(pins:List (Addr×Obj)) (σ:St) (H:Hp) (s:Shared) (e:Value) (s':Shared),Inv X pins σ H s->CX X.stack H s E e s'->X.xe e s'
section
variable {X:Cx} {CX:pe} {k:Nat} {f C:Addr} {fd:FuncData} {ps:List Str} {sp:Sp} {dvs:List V} {ds:List Value} {E:XK} {x m:Str} {p pos apos:Pos} {e o:Expr} {es:List Expr} {ta:TE} {t:TA}
theorem yz{s:Shared}{Q:VK}{vs:List V}(F:gR X.prog X.w X.K X.mg X.base CX k f fd ps sp)(hr:bQ k X.A)(hb:Binds X.K fd ps ds)(hd:Vals dvs ds)(hx:Passes CX X E)
  (I:Inv X pins σ H s) (r:Vals vs us) (h:sp (vs++dvs) H Q E):wpAny (model X.prog X.w) X.A (call (.ref f) us) (EP X pins σ Q) X.xe s:=by
 have r2:Vals (vs++dvs) (us++ds):=r.append hd;have hl:(us++ds).length=ps.length:=by rw[<- r2.length];exact F.len _ _ _ _ h
 refine wpAny_call (codeAny_mono (F.run X.A X.stack s H ⟨us,[]⟩ (us++ds) (vs++dvs) Q E hr I.Jp (hb s us I.mx hl) r2 h) λr s' hq=>?_)
 cases r with
 |error e=>exact hx pins σ H s e s' I hq
 |ok fl =>
  cases fl with
  |ret u=>exact I.after hq
  |next=>exact False.elim hq
  |brk=>exact False.elim hq
  |cont=>exact False.elim hq
theorem CV(F:gR X.prog X.w X.K X.mg X.base CX k f fd ps sp)(hr:bQ k X.A)(hg:Gl X x)(hm:X.mg x=some (.ref f))(hk:W.keepIn X.K (.ref f)=true)(hb:Binds X.K fd ps ds)(hd:Vals dvs ds)(hx:Passes CX X E)
  (ha:PA X (e::es) t) (hdb:autoParam ((x ==("__debug__":Str))=false) ℜ1) (he:autoParam (starEach (e::es) X.env=(false,eval e X.env)::starEach es X.env) ℜ0) (hpl:autoParam ((backTo pos (starEach es X.env)).any (·.1)=false) ℜ0) :
  PE X (.Call (.Name x p) (e::es) [] pos) (gT sp dvs E t):=by
 intro pins s σ H Q I h;refine Nm (oC I hg hm ?_ hdb);refine W.callWith_K (h₀:=X.base) I.ok.mod.JK hk (bS (ha pos pins s σ H _ I h) λus s1 ⟨vs,H1,I1,r,q⟩=>⟨I1.mx,?_⟩) he hpl;exact yz F hr hb hd hx I1 r q
theorem zr(F:gR X.prog X.w X.K X.mg X.base CX k f fd ps sp)(hr:bQ k X.A)(hg:Gl X x)(hm:X.mg x=some (.ref f))(hk:W.keepIn X.K (.ref f)=true)(hb:Binds X.K fd ps ds)(hd:Vals dvs ds)(hx:Passes CX X E)
  (hdb:autoParam ((x ==("__debug__":Str))=false) ℜ1):PE X (.Call (.Name x p) [] [] pos) (gT sp dvs E mB):=by
 intro pins s σ H Q I h;refine Nm (oC I hg hm ?_ hdb);exact W.callWith_K0 I.mx hk (yz (us:=[]) F hr hb hd hx I .nil h)
end
def PK(X:Cx)(kws:List Keyword)(t:TA):Prop:=
 ∀(pos:Pos) (pins:List (Addr×Obj)) (s:Shared) (σ:St) (H:Hp) (Q:List V->Hp->Prop),Inv X pins σ H s->t σ H Q->wpAny (model X.prog X.w) X.A (evalAll ((backToKw pos (keywordEach kws X.env)).map (·.2))) (AP X pins σ Q) X.xe s
section
variable {X:Cx} {CX:pe} {k:Nat} {f C:Addr} {fd:FuncData} {ps ks:List Str} {sp:Sp} {E:XK} {x m:Str} {p pos apos kpos:Pos} {e o:Expr} {es:List Expr} {kws:List Keyword} {te ta:TE} {t tk:TA} {nm:Option Str}
theorem GK:PK X [] mB:=λ_ _ _ _ H Q I h=>wpAny_evalAll_nil ⟨[],H,I,.nil,h⟩
theorem BJ(ha:PE X e te)(hr:PK X kws t):PK X (⟨nm,e,kpos⟩::kws) (j0 te t):=by
 intro pos pins s σ H Q I h;show wpAny _ _ (evalAll ((do let v <- eval e X.env;standAt pos;pure v)::(backToKw pos (keywordEach kws X.env)).map (·.2))) _ _ s
 refine wpAny_evalAll_cons (K4 (bS (ha pins s σ H _ I h) λu s1 ⟨x,H1,I1,r1,q1⟩=>K4 (OX (KR ?_))));exact bS (hr pos pins s1 σ H1 _ I1 q1) λus s2 ⟨xs,H2,I2,r2,q2⟩=>⟨x::xs,H2,I2,.cons r1 r2,q2⟩
variable {g:List Value->List Value->List Value} {gV:List V->List V->List V}
end
structure ax (N P:List Str) (sc:Scope):Prop where
 kind:sc.kind=.function
 co:sc.isCoroutine=false
 gen:sc.isGenerator=false
 nd:N.Nodup
 pre:N.take P.length=P
 par:∀x∈P,sc.names.lookup x=some .local\/sc.names.lookup x=some .cell
 GQ:∀y∈sc.names,y.2≠.free
theorem ni:∀{binds:List (Str×Value)} {m:Str->Option Value},(∀v,(x,v)∉binds)->bindL kindOf binds m x=m x
 |[],_,_=>rfl
 | (n,v)::r,m,h=>by
  unfold bindL;rw[ni λw hw=>h w (KI _ hw)];split
  ·have:x≠n:=by rintro rfl;exact h v KG
   simp[this]
  ·rfl
theorem nv:∀{binds:List (Str×Value)} {m:Str->Option Value},(∀v,(x,v)∉binds)->bindC kindOf binds m x=m x
 |[],_,_=>rfl
 | (n,v)::r,m,h=>by
  unfold bindC;rw[nv λw hw=>h w (KI _ hw)];split
  ·rfl
  ·have:x≠n:=by rintro rfl;exact h v KG
   simp[this]
theorem mD{v:Value}:∀{P:List Str} {vs:List Value} {i:Nat} {m:Str->Option Value},P.Nodup->P[i]?=some x->vs[i]?=some v->kindOf x=some .local ->
  bindL kindOf (P.zip vs) m x=some v
 |[],_,_,_,_,h,_,_=>by simp at h
 |_::_,[],_,_,_,_,h,_=>by simp at h
 |p::P,w::vs,0,m,nd,h1,h2,hk=>by
  simp at h1 h2;subst h1;subst h2;show bindL kindOf ((p,w)::P.zip vs) m p=_;unfold bindL;rw[ni λv hv=>(Mm.mp nd).1 (PD hv).1,KO hk];simp
 |p::P,w::vs,i+1,m,nd,h1,h2,hk=>by
  show bindL kindOf ((p,w)::P.zip vs) m x=_;unfold bindL;exact mD (i:=i) (Mm.mp nd).2 (by simpa using h1) (by simpa using h2) hk
theorem mR{v:Value}:∀{P:List Str} {vs:List Value} {i:Nat} {m:Str->Option Value},P.Nodup->P[i]?=some x->vs[i]?=some v->kindOf x≠some .local ->
  bindC kindOf (P.zip vs) m x=some v
 |[],_,_,_,_,h,_,_=>by simp at h
 |_::_,[],_,_,_,_,h,_=>by simp at h
 |p::P,w::vs,0,m,nd,h1,h2,hk=>by
  simp at h1 h2;subst h1;subst h2;show bindC kindOf ((p,w)::P.zip vs) m p=_;unfold bindC;rw[nv λv hv=>(Mm.mp nd).1 (PD hv).1,KJ hk];simp
 |p::P,w::vs,i+1,m,nd,h1,h2,hk=>by
  show bindC kindOf ((p,w)::P.zip vs) m x=_;unfold bindC;exact mR (i:=i) (Mm.mp nd).2 (by simpa using h1) (by simpa using h2) hk
noncomputable def start(N:List Str)(vs:List V):St:=vs.map some++List.replicate (N.length-vs.length) none
noncomputable def lH(CX:pe)(P:Program)(w:World)(K:W.Frag)(mg:Str->Option Value)(base:Heap)(N:List Str)(qual:Str)(scope:Scope)(f:Addr)(cd:Value)(A:Around)(outer:List Env)(s:Shared)(H:Hp)(E:XK):Cx where
 prog:=P
 w:=w
 K:=K
 mg:=mg
 base:=base
 A:=A.deeper (envOfC qual scope s.heap.objs.size f cd)
 N:=N
 s₀:=s
 H₀:=H
 env:=envOfC qual scope s.heap.objs.size f cd
 outer:=outer
 stack:=envOfC qual scope s.heap.objs.size f cd::outer
 ex:=[]
 calm:=true
 fn:=λ_=>true
 pn:=[]
 xe:=λe s'=>wpAny (model P w) (A.deeper (envOfC qual scope s.heap.objs.size f cd)) (leaving (envOfC qual scope s.heap.objs.size f cd) e) (λ_ s''=>CX outer H s E e s'') (λe' s''=>CX outer H s E e' s'') s'
theorem pS{sc:Scope}{n:Nat}(h:sc.names.lookup x=some .cell):∃c,(cellsFrom n sc.names []).lookup x=some c:=by
 have q:=W.cellsFrom_some sc.names n [] (.inl h);exact Px.mp q
theorem wc{ps:List Str}{qual:Str}{f:Addr}{cd:Value}{A:Around}{outer:List Env}{s s1:Shared}{E:XK}{vs:List V}
  (S:ax N ps scope) (hd:A.handled=none) (e0:De P w K mg base A outer s H) (hl:vs.length=ps.length) (r:Vals vs us)
  (x:InCallC s s.heap.objs.size (bindL (envOfC qual scope s.heap.objs.size f cd).kindOf (ps.zip us) λ_=>none) (cellsFrom (s.heap.objs.size+1) scope.names []) (bindC (envOfC qual scope s.heap.objs.size f cd).kindOf (ps.zip us) λ_=>none) s1) :
  Inv (lH CX P w K mg base N qual scope f cd A outer s H E) [] (start N vs) H s1:=by
 have hpl:ps.length<=N.length:=by have:=Lw List.length S.pre;rw[K_] at this;lia
 obtain⟨h1,tk,rfl,hk⟩:=x.done;have noA:∀b:Addr,b∉(lH CX P w K mg base N qual scope f cd A outer s H E).ex:=λb z=>absurd (show b∈([]:List Addr) from z) (by simp)
 refine⟨⟨e0.mod,S.kind,rfl,rfl,KH _,λy z c h1 h2=>?_,λy hy=>?_,λy c _ h=>?_,λ_=>hd,Around.frames_deeper e0.frames,.inr ⟨rfl,rfl⟩,λb z=>absurd z (noA b),e0.bs,e0.BE,λb _ _=>noA b,λb z=>absurd z (noA b),e0.kA,e0.Ha,e0.tabs⟩,
  rfl,e0.bare,Un.kept hk,⟨_,x.toInCall.ns,λi y v h1 h2 h3=>?_⟩,λy c h=>⟨_,x.cell y c h⟩,e0.bg.fresh (KH _),λy c h=>?_,λp hp=>absurd (show p∈([]:List (Addr×Obj)) from hp) (by simp),e0.bg.kept hk,?_⟩
 ·exact name_of_addr x.apart (PySem.mem_of_lookup h1) (PySem.mem_of_lookup h2)
 ·have hy:scope.names.lookup y=some .cell\/scope.names.lookup y=some .free:=hy;rcases hy with hy|hy
  ·exact pS hy
  ·exact absurd rfl (S.GQ _ (PySem.mem_of_lookup hy))
 ·exact M1 (x.above y c (PySem.mem_of_lookup h))
 ·have hi:i<vs.length:=by
   unfold start at h2;by_cases hi:i<vs.length
   ·exact hi
   ·rw[Le (by simpa using hi)] at h2
    rw[NY] at h2
    split at h2<;>cases h2
  have ha:vs[i]?=some v:=by
   unfold start at h2;rw[Lj (by simpa using hi),K8] at h2
   cases e:vs[i]? with
   |none=>rw[e] at h2;cases h2
   |some a=>rw[e] at h2;cases h2;rfl
  obtain⟨u,hu,rv⟩:=r.get ha;have hp:ps[i]?=some y:=by
   rw[<- S.pre,NL (by lia)];exact h1
  have ndP:ps.Nodup:=by rw[<- S.pre];exact S.nd.sublist (List.take_sublist _ _)
  refine⟨u,rv,?_⟩;rcases S.par y (Lu hp) with k|k
  ·exact .inl ⟨k,mD ndP hp hu k⟩
  ·obtain⟨c,e⟩:=pS (n:=s.heap.objs.size+1) k;refine .inr ⟨.inl k,c,e,?_⟩;have q:=x.cell y c e;rw[mR ndP hp hu (by show scope.names.lookup y≠_;rw[k];decide)] at q
   exact q
 ·exact e0.bg.fresh (M1 (x.above y c (PySem.mem_of_lookup h)))
 ·unfold start;show _=N.length;rw[K6,K2,KY];lia
theorem Em{k:Nat}{f:Addr}{name qual:Str}{params:Arguments}{dV kV doc pm cdv ct oc:Value}{an od:Option Addr}
  {osl:Array (Option Value)} {ps:List Str} {sp:Sp} (lk:K.lookup f=some ⟨oc,od,.func (W.fnOf name qual params body scope dV kV doc pm an cdv ct),osl⟩) (fR:W.codeIn K cdv qual=true) (S:ax N ps scope)
  (len:∀vs H Q E,sp vs H Q E->vs.length=ps.length)
  (hbody:∀(A:Around) (outer:List Env) (s:Shared) (H:Hp) (vs:List V) (Q:VK) (E:XK),bQ k (A.deeper (envOfC qual scope s.heap.objs.size f cdv))->sp vs H Q E ->
   ∃t,rS (lH CX P w K mg base N qual scope f cdv A outer s H E) body t/\t {nx:=λ_ H'=>Q .aO H',rt:=Q} (start N vs) H) :
  gR P w K mg base CX (k+1) f (W.fnOf name qual params body scope dV kV doc pm an cdv ct) ps sp:=by
 refine⟨len,λA outer s H args us vs Q E hr e0 hb r jH=>?_⟩;have hl:=len _ _ _ _ jH;have KX:K.In s.heap:=e0.mod.JK.keeps λb o e=>(e0.bs b o e).1;have lim:s.heap.NoLimit:=e0.mod.nolimit.keeps λb o e=>(e0.bs b o e).1;have hkind:∀y∈ps.zip us,scope.names.lookup y.1=some .local\/(scope.names.lookup y.1=some .cell/\((cellsFrom (s.heap.objs.size+1) scope.names []).lookup y.1).isSome=true):=λ⟨n,v⟩ hy=>by
  rcases S.par n (PD hy).1 with q|q
  ·exact .inl q
  ·exact .inr ⟨q,W.cellsFrom_some _ _ _ (.inl q)⟩
 refine codeAny_call_function hr.depth (KX _ _ lk) rfl S.co S.gen rfl (W.codeRec_of KX fR) (hb _ _ _ _ ?_);refine wpAny_newFunctionEnv_cells S.kind hkind λenv he s1 x=>?_;subst he;refine⟨lim.keeps x.toInCall.keep,codeAny_func ?_⟩;obtain⟨t,ht,hq⟩:=hbody A outer s H vs Q E (hr.deeper _) jH;have I:Inv (lH CX P w K mg base N qual scope f cdv A outer s H E) [] (start N vs) H s1:=wc S hr.hd e0 hl r x;refine LQ (ht [] s1 (start N vs) H _ I hq) (λfl s' hs=>?_) λe s' hs=>hs;have fin:∀{σ':St} {H':Hp} {v:V} {u:Value},Inv (lH CX P w K mg base N qual scope f cdv A outer s H E) [] σ' H' s'->RelV v u->Q v H'->CE outer P w H s Q u s':=
  λ{σ' H' v u} J rv q=>⟨v,H',J.os,J.bare,J.base,J.bg,rv,q⟩
 cases fl with
 |ret u =>
  obtain⟨v,σ',H',J,rv,q⟩:=hs;exact fin J rv q
 |next =>
  obtain⟨σ',H',J,q⟩:=hs;exact fin (v:=V.aO) (u:=Value.none) J rfl q
 |brk =>
  obtain⟨_,_,_,q⟩:=hs;exact False.elim q
 |cont =>
  obtain⟨_,_,_,q⟩:=hs;exact False.elim q
section
variable {X:Cx} {x:Str} {p pos:Pos} {e:Expr} {es:List Expr} {t:TA} {id T:String} {r:List V->Hp->VK->Prop}
def zM(r:List V->Hp->VK->Prop)(t:TA):TE:=λσ H Q=>t σ H λvs H1=>r vs H1 Q
theorem zH(hc:bt X (.builtin id) r)(hg:Gl X x)(hm:X.mg x=none)(hv:bootBuiltins x=some (.builtin id))(ha:PA X (e::es) t)(hn:autoParam (x≠"__name__") ℜ1)(hdb:autoParam ((x ==("__debug__":Str))=false) ℜ1)
  (he:autoParam (starEach (e::es) X.env=(false,eval e X.env)::starEach es X.env) ℜ0) (hpl:autoParam ((backTo pos (starEach es X.env)).any (·.1)=false) ℜ0):PE X (.Call (.Name x p) (e::es) [] pos) (zM r t):=by
 intro pins s σ H Q I h;refine Nm (eX I hg hm hv ?_ hn hdb);exact PyProof.Rows.callWith_builtin1 (bS (ha pos pins s σ H _ I h) λus s1 ⟨vs,H1,I1,r1,q1⟩=>hc pins s1 σ H1 vs us Q I1 r1 q1) he hpl
theorem vO(hc:bt X (.type T) r)(hg:Gl X x)(hm:X.mg x=none)(hv:bootBuiltins x=some (.type T))(ha:PA X (e::es) t)(hn:autoParam (x≠"__name__") ℜ1)(hdb:autoParam ((x ==("__debug__":Str))=false) ℜ1)
  (he:autoParam (starEach (e::es) X.env=(false,eval e X.env)::starEach es X.env) ℜ0) (hpl:autoParam ((backTo pos (starEach es X.env)).any (·.1)=false) ℜ0):PE X (.Call (.Name x p) (e::es) [] pos) (zM r t):=by
 intro pins s σ H Q I h;refine Nm (eX I hg hm hv ?_ hn hdb);exact LN (bS (ha pos pins s σ H _ I h) λus s1 ⟨vs,H1,I1,r1,q1⟩=>hc pins s1 σ H1 vs us Q I1 r1 q1) he hpl
end
end L2
namespace HT
open PySem PyProof.Rows
section
variable {prog:Program} {w:World} {A:Around} {E:Value->Shared->Prop} {s:Shared}
theorem Dd{t b:Addr}{vs ws:List Value}{Q:Value->Shared->Prop}(ht:IsTup s.heap t vs.toArray)(hb:IsTup s.heap b ws.toArray)(hv:vs≠[])
  (h1:ws=[]->Q (.ref t) s) (h2:ws≠[]->Q (.ref s.heap.objs.size) {s with heap:=s.heap.push {cls:=.type "tuple",data:=.seq (vs++ws).toArray}})
  (hsz:vs.length+ws.length<=sizeLine):wpAny (model prog w) A (binaryOp .Add (.ref t) (.ref b)) Q E s:=by
 obtain⟨⟨cls,dd,data,sl⟩,ho,hc,n,hd⟩:=id ht;obtain⟨⟨cls2,dd2,data2,sl2⟩,ho2,hc2,n2,hd2⟩:=id hb;simp only at hc hd hc2 hd2;subst hc hd hc2 hd2;have e:vs.toArray++ws.toArray=(vs++ws).toArray:=by simp
 by_cases hw:ws=[]
 ·exact concat_meets ⟨_,ho,rfl⟩ ⟨_,ho2,rfl⟩ noFill_tuple_add seq_tuple_add PySem.F.slot_tuple_add PySem.F.entry_tuple_add (PySem.F.args_tuple_add_2 _ _)
   (tuple_addW1 t b vs.toArray ws.toArray n n2 dd dd2 sl sl2 (by simpa using hv) (by simp[hw])) ⟨ho,ho2,h1 hw⟩
 ·refine concat_meets ⟨_,ho,rfl⟩ ⟨_,ho2,rfl⟩ noFill_tuple_add seq_tuple_add PySem.F.slot_tuple_add PySem.F.entry_tuple_add (PySem.F.args_tuple_add_2 _ _)
   (tuple_addW2 t b vs.toArray ws.toArray n n2 dd dd2 sl sl2 (by simpa using hv) (by simpa using hw) (by rw[List.size_toArray,List.size_toArray];exact hsz)) ⟨ho,ho2,?_⟩
  rw[e];exact h2 hw
noncomputable def bI(n d:Nat):Option Int->Nat
 |none=>d
 |some v=>if v<0 then (v+(n:Int)).toNat else min v.toNat n
theorem cY(n d:Nat):bI n d none=d:=rfl
theorem cX(n d k:Nat):bI n d (some (k:Int))=min k n:=by
 show (if (k:Int)<0 then ((k:Int)+(n:Int)).toNat else min (k:Int).toNat n)=min k n
 rw[if_neg (by lia),Int.toNat_natCast]
theorem rW(n d:Nat)(hd:d<=n)(o:Option Int):bI n d o<=n:=by
 cases o with
 |none=>exact hd
 |some v =>
  show (if v<0 then (v+(n:Int)).toNat else min v.toNat n)<=n
  by_cases hv:v<0
  ·rw[if_pos hv];lia
  ·rw[if_neg hv];exact Nat.min_le_right _ _
theorem vm(v:Int)(n d:Nat):(if v<0 then max (v+(n:Int)) 0 else min v (n:Int))=((bI n d (some v):Nat):Int):=by
 show (if v<0 then max (v+(n:Int)) 0 else min v (n:Int))=(((if v<0 then (v+(n:Int)).toNat else min v.toNat n):Nat):Int)
 by_cases hv:v<0
 ·simp only[if_pos hv];lia
 ·simp only[if_neg hv];lia
theorem sR(lo hi:Option Int)(n:Nat):Builtin.Slice.sliceAdjust lo hi 1 (n:Int)=(((bI n 0 lo:Nat):Int),((bI n n hi:Nat):Int)):=by
 have h1:¬ ((1:Int)<0):=by lia
 unfold Builtin.Slice.sliceAdjust;simp only[h1,if_false];refine Prod.ext ?_ ?_
 ·cases lo with
  |none=>rfl
  |some v=>exact vm v n 0
 ·cases hi with
  |none=>rfl
  |some v=>exact vm v n n
theorem sk(i j:Nat):Builtin.Slice.slicePlaces (i:Int) (j:Int) 1=j-i:=by
 unfold Builtin.Slice.slicePlaces;have h1:(1:Int) > 0:=by lia
 simp only[h1,if_true,Int.ediv_one]
 split<;>lia
theorem kT{v:Value}{o:Option Int}{Q:Option Int->Shared->Prop}(p:IsPart v o)(h:Q o s):wpAny (model prog w) A (Builtin.Slice.slicePartIndex v) Q E s:=by
 cases p with
 |none=>exact slicePart_none h
 |int i t=>exact slicePart_int h
theorem f7{sl:Addr}{vl vu:Value}{lo hi:Option Int}{n:Nat}{Q:Int×Int×Nat->Shared->Prop}(hs:s.heap.IsSliceOf sl vl vu .none)(pl:IsPart vl lo)(pu:IsPart vu hi)
  (h:Q (((bI n 0 lo:Nat):Int),1,bI n n hi-bI n 0 lo) s):wpAny (model prog w) A (Builtin.Slice.sliceApplied (.ref sl) (pure (n:Int))) Q E s:=by
 obtain⟨os,hos,hcs,vo⟩:=id hs;unfold Builtin.Slice.sliceApplied Builtin.Slice.sliceFields;refine wpAny_bind (wpAny_bind (wpAny_field hos vo (x:=vl) rfl (wpAny_bind (wpAny_field hos vo (x:=vu) rfl (wpAny_bind (wpAny_field hos vo (x:=.none) rfl (wpAny_pure ?_)))))));refine wpAny_bind (slicePart_none ?_);show wpAny _ _ (if ((1:Int) == 0)=true then _ else _) _ _ s
 rw[if_neg (by decide)]
 refine wpAny_bind (kT pl (wpAny_bind (kT pu (wpAny_bind (wpAny_pure ?_)))));show wpAny _ _ (match Builtin.Slice.sliceAdjust lo hi 1 (n:Int) with | (lo,hi)=>pure (lo,(1:Int),Builtin.Slice.slicePlaces lo hi 1)) _ _ s
 rw[sR lo hi n];show wpAny _ _ (pure (((bI n 0 lo:Nat):Int),(1:Int),Builtin.Slice.slicePlaces ((bI n 0 lo:Nat):Int) ((bI n n hi:Nat):Int) 1)) _ _ s;rw[sk];exact wpAny_pure h
theorem Bi(xs:Array Value)(i k:Nat):((List.range k).filterMap λ(m:Nat)=>xs[((i:Int)+(m:Int)*1).toNat]?).toArray=((xs.toList.drop i).take k).toArray:=by
 have e:(λ(m:Nat)=>xs[((i:Int)+(m:Int)*1).toNat]?)=λm=>xs[i+m]?:=by
  funext m
  have:((i:Int)+(m:Int)*1).toNat=i+m:=by lia
  rw[this]
 rw[e];have:=pick_run xs i k;rw[List.filterMap_map] at this;have e2:((λx=>xs[x]?) ∘ λx=>i+x)=λm=>xs[i+m]?:=rfl;rw[e2] at this;rw[this]
theorem iG{t sl:Addr}{items:Array Value}{vl vu:Value}{lo hi:Option Int}{Q:Value->Shared->Prop}(ht:IsTup s.heap t items)(hs:s.heap.IsSliceOf sl vl vu .none)(pl:IsPart vl lo)(pu:IsPart vu hi)
  (hw:¬ (bI items.size 0 lo=0/\bI items.size items.size hi=items.size))
  (h:Q (.ref s.heap.objs.size) {s with heap:=s.heap.push {cls:=.type "tuple",data:=.seq ((items.toList.drop (bI items.size 0 lo)).take (bI items.size items.size hi-bI items.size 0 lo)).toArray}})
  (hsz:items.size<=sizeLine):wpAny (model prog w) A (getItem (.ref t) (.ref sl)) Q E s:=by
 have htake:sizeOk (.seq ((items.toList.drop (bI items.size 0 lo)).take (bI items.size items.size hi-bI items.size 0 lo)).toArray):=by
  show ((items.toList.drop (bI items.size 0 lo)).take (bI items.size items.size hi-bI items.size 0 lo)).toArray.size<=sizeLine;rw[List.size_toArray,List.length_take,List.length_drop,Array.length_toList];exact Nat.le_trans (Nat.min_le_right _ _) (Nat.le_trans (Nat.sub_le _ _) hsz)
 have hj:bI items.size items.size hi<=items.size:=rW _ _ (Nat.le_refl _) hi;obtain⟨os,hos,hcs,vo⟩:=id hs;have hTs:s.TypeIs (.ref sl) "slice":=⟨os,hos,hcs⟩;unfold getItem
 try with_reducible refine wpAny_holding ?_
 first|refine wpAny_bind (wpAny_pure ?_)|skip
 refine wpAny_bind (wpAny_sequenceKey ht.typeIs (by decide) ?_)
 refine wpAny_bind (wpAny_callSpecial?_slot (name:=Str.ofString "__getitem__") ht.typeIs PyProof.Rows.slot_tuple_getitem
  (wpAny_call_entry PyProof.Rows.slot_tuple_getitem ht.typeIs entry_tuple_getitem ?_ (args_tuple_getitem _ _)))
 show wpAny _ _ (Builtin.Tuple.tupleItemsOf (.ref t) >>= _) _ _ s;refine wpAny_bind (tupleItemsOf_ ht ?_);refine wpAny_bind (wpAny_typeOf hTs ?_);rw[if_pos (by decide)]
 refine wpAny_bind (f7 hs pl pu ?_);have hno:¬ ((((bI items.size 0 lo:Nat):Int) == 0 && (1:Int) == 1 && (bI items.size items.size hi-bI items.size 0 lo) == items.size)=true):=by
  intro q;rw[Bool.and_eq_true,Bool.and_eq_true] at q;have q1:((bI items.size 0 lo:Nat):Int)=0:=eq_of_beq q.1.1;have q2:bI items.size items.size hi-bI items.size 0 lo=items.size:=eq_of_beq q.2;exact hw ⟨by lia,by lia⟩
 show wpAny _ _ (if (((bI items.size 0 lo:Nat):Int) == 0 && (1:Int) == 1 && (bI items.size items.size hi-bI items.size 0 lo) == items.size)=true then _ else _) _ _ s
 rw[if_neg hno,Bi]
 first
  |exact wpAny_bind (m:=Builtin.Tuple.tupleExact _) (wpAny_newObj_type (wpAny_pure ⟨_,rfl,wpAny_pure h⟩) htake)
  |exact wpAny_bind (m:=Builtin.Tuple.tupleExact _) (wpAny_newObj_type (wpAny_bind (wpAny_pure (wpAny_pure ⟨_,rfl,wpAny_pure h⟩))) htake)
  |exact wpAny_bind (wpAny_bind (m:=Builtin.Tuple.tupleExact _) (wpAny_newObj_type (wpAny_pure (wpAny_pure ⟨_,rfl,wpAny_pure h⟩)) htake))
  |exact wpAny_bind (wpAny_bind (m:=Builtin.Tuple.tupleExact _) (wpAny_newObj_type (wpAny_pure ⟨_,rfl,wpAny_pure h⟩) htake))
end
end HT
namespace L2
open PySem PySem.Spec PyProof.Rows
variable{r:V->Option Int->Option Int->Hp->VK->Prop}{xs:List V}{its its' us:List Value}{α:Type}{pins:List (Addr×Obj)}{σ:St}{H:Hp}{x y:V}{u:Value}{o:Option V}{P:Program}{w:World}{kvs:List (Key×V)}{Q:Value->Shared->Prop}
abbrev TO:=St->Hp->(Option Int->Hp->Prop)->Prop
def PO(X:Cx)(e:Option Expr)(t:TO):Prop:=
 ∀(pins:List (Addr×Obj)) (s:Shared) (σ:St) (H:Hp) (Q:Option Int->Hp->Prop),Inv X pins σ H s->t σ H Q ->
  wpAny (model X.prog X.w) X.A (evalPart e X.env) (λu s'=>∃o H',Inv X pins σ H' s'/\IsPart u o/\Q o H') X.xe s
def iT:TO:=λ_ H Q=>Q none H
def pU(t:TE):TO:=λσ H Q=>t σ H λx H1=>∃i,x=.int i/\Q (some i) H1
theorem intsAre_of{ns:List Int}:∀{us:List Value},Vals (ns.map V.int) us->IntsAre us ns:=by
 induction ns with
 |nil=>intro us r;rw[MK] at r;cases r;exact .nil
 |cons n ns ih =>
  intro us r;rw[Lp] at r
  cases r with
  |cons r1 r2 =>
   obtain⟨t,e⟩:=r1;subst e;exact .cons n t (ih r2)
section
variable {X:Cx} {e:Expr} {te:TE} {lo hi:Option Expr} {tl th:TO} {pos p2:Pos}
theorem tQ:PO X none iT:=by
 intro pins s σ H Q I h;rw[evalPart_none];exact KR ⟨none,H,I,.none,h⟩
theorem oJ(h:PE X e te):PO X (some e) (pU te):=by
 intro pins s σ H Q I hw;rw[evalPart_some];refine bS (h pins s σ H _ I hw) λu s1 hq50=>?_;obtain⟨x,H1,I1,r1,q1⟩:=hq50;obtain⟨i,rfl,q⟩:=q1;obtain⟨t,rfl⟩:=r1;exact⟨some i,H1,I1,.int i t,q⟩
def vy(X:Cx)(r:V->Option Int->Option Int->Hp->VK->Prop):Prop:=
 ∀(pins:List (Addr×Obj)) (s:Shared) (σ:St) (H:Hp) (x:V) (v vl vu:Value) (lo hi:Option Int) (sl:Addr) (Q:VK),Inv X pins σ H s->RelV x v->s.heap.IsSliceOf sl vl vu .none->IsPart vl lo->IsPart vu hi->r x lo hi H Q ->
  ∃T id,typeLookup (.type T) "__getitem__"=pure (some (.builtin id))/\s.TypeIs v T/\wpAny (model X.prog X.w) X.A (getItem v (.ref sl)) (EP X pins σ Q) X.xe s
theorem vy.or{r':V->Option Int->Option Int->Hp->VK->Prop}(h:vy X r)(h':vy X r'):vy X (λx lo hi H Q=>r x lo hi H Q\/r' x lo hi H Q):=by
 intro pins s σ H x v vl vu lo hi sl Q I rx hs pl pu q;rcases q with q|q
 ·exact h pins s σ H x v vl vu lo hi sl Q I rx hs pl pu q
 ·exact h' pins s σ H x v vl vu lo hi sl Q I rx hs pl pu q
def Ib(r:V->Option Int->Option Int->Hp->VK->Prop)(te:TE)(tl th:TO):TE:=λσ H Q=>te σ H λx H1=>tl σ H1 λl H2=>th σ H2 λu H3=>r x l u H3 Q
theorem AM(hr:vy X r)(he:PE X e te)(hl:PO X lo tl)(hu:PO X hi th):PE X (.Subscript e (.Slice lo hi none p2) pos) (Ib r te tl th):=by
 intro pins s σ H Q I h;refine Subscript_ (bS (he pins s σ H _ I h) λv s1 hq51=>?_);obtain⟨x,H1,I1,r1,q1⟩:=hq51;refine wpAny_Slice (bS (hl pins s1 σ H1 _ I1 q1) λvl s2 ⟨l,H2,I2,pl,q2⟩=>bS (hu pins s2 σ H2 _ I2 q2) λvu s3 hq52=>?_);obtain⟨u,H3,I3,pu,q3⟩:=hq52;rw[evalPart_none];refine KR ?_;have I4:Inv X pins σ H3 {s3 with heap:=s3.heap.push {cls:=.type "slice",data:=.fields #[vl,vu,.none]}}:=I3.kept (t':=s3.toks) λb ob q=>K9 _ q
 obtain⟨T,id,hT,ht,hg⟩:=hr pins {s3 with heap:=s3.heap.push {cls:=.type "slice",data:=.fields #[vl,vu,.none]}} σ H3 x v vl vu l u s3.heap.objs.size Q I4 r1 (Heap.IsSliceOf.new ..) pl pu q3
 show wpAny (model X.prog X.w) X.A (subscriptTail e (.Slice lo hi none p2) v (.ref s3.heap.objs.size)) (EP X pins σ Q) X.xe {s3 with heap:=s3.heap.push {cls:=.type "slice",data:=.fields #[vl,vu,.none]}}
 exact tail_any (ops:=[.ref s3.heap.objs.size,v]) ht hT hg (by with_unfolding_all rfl)
def dQ(xs:List V)(lo hi:Option Int):List V:=(xs.drop (HT.bI xs.length 0 lo)).take (HT.bI xs.length xs.length hi-HT.bI xs.length 0 lo)
theorem j8(xs:List V)(lo hi:Option Int):(dQ xs lo hi).length<=xs.length:=by
 unfold dQ;rw[K_,Ly];exact KA (Nat.min_le_right _ _) (Pe _ _)
def sh(K:W.Frag):V->Option Int->Option Int->Hp->VK->Prop:=λx lo hi H Q=>∃a xs,x=.ref a/\aX K H a xs /\
 ¬ (HT.bI xs.length 0 lo=0/\HT.bI xs.length xs.length hi=xs.length)/\∀p,H p=none->Q (.ref p) (upd H p (.tup (dQ xs lo hi)))
theorem tJ:vy X (sh X.K):=by
 intro pins s σ H x v vl vu lo hi sl Q I rx hs pl pu h;obtain⟨a,xs,rfl,hx,hw,q⟩:=h;cases rx;obtain⟨its,r,ht,hz⟩:=I.tuple hx;have hlen:its.toArray.size=xs.length:=by rw[KC];exact r.length.symm
 refine⟨"tuple",_,Mz.lookup,ht.typeIs,?_⟩;refine HT.iG ht hs pl pu (by rw[hlen];exact hw) ?_ (by rw[hlen];exact hz)
 rw[hlen];refine⟨.ref s.heap.objs.size,_,I.laid (t':=s.toks) (o:=.tup (dQ xs lo hi)) (λb ob q=>K9 _ q) (KH _) ?_,rfl,q _ (I.bg.fresh (KH _))⟩;exact⟨KA (j8 xs lo hi) hz,_,(r.drop (HT.bI xs.length 0 lo)).take (HT.bI xs.length xs.length hi-HT.bI xs.length 0 lo),eF.new _ _⟩
def Hw(K:W.Frag):R2:=λx y H Q=>∃a b xs ys,x=.ref a/\y=.ref b/\aX K H a xs/\aX K H b ys/\xs≠[]/\xs.length+ys.length<=sizeLine /\
 (ys=[]->Q (.ref a) H)/\(ys≠[]->∀p,H p=none->Q (.ref p) (upd H p (.tup (xs++ys))))
theorem Vals.oQ(r:Vals xs us):us=[] ↔ xs=[]:=by
 cases r with
 |nil=>simp
 |cons _ _=>simp
theorem uO:cJ X (binaryOp .Add) (Hw X.K):=by
 intro pins s σ H x y v u Q I rx ry h;obtain⟨a,b,xs,ys,rfl,rfl,ha,hb,hx,hz,q1,q2⟩:=h;cases rx;cases ry;obtain⟨its,r1,p1,_⟩:=I.tuple ha;obtain⟨its2,r2,p2,_⟩:=I.tuple hb;refine HT.Dd p1 p2 (λz=>hx (r1.oQ.mp z)) (λz=>⟨.ref a,H,I,rfl,q1 (r2.oQ.mp z)⟩) (λz=>?_) (by rw[<- r1.length,<- r2.length];exact hz)
 refine⟨.ref s.heap.objs.size,_,I.laid (t':=s.toks) (o:=.tup (xs++ys)) (λb ob q=>K9 _ q) (KH _) ?_,rfl,q2 (λw=>z (r2.oQ.mpr w)) _ (I.bg.fresh (KH _))⟩;exact⟨by rw[K6];exact hz,_,r1.append r2,eF.new _ _⟩
end
noncomputable def iF(n:Nat)(i:Int):Option Nat:=if 0<=i then (if i<n then some i.toNat else none) else if -(n:Int)<=i then some (i+n).toNat else none
def bC(xs:List α)(i:Int):Option α:=(iF xs.length i).bind λj=>xs[j]?
theorem vv{n:Nat}{i:Int}{j:Nat}(h:iF n i=some j):seqIndex? i n=some j/\j<n/\-(n:Int)<=i/\i<n:=by
 unfold iF at h;by_cases h0:0<=i
 ·rw[KO h0] at h;by_cases h1:i<n
  ·rw[KO h1] at h;have e:i.toNat=j:=Option.some.inj h;exact⟨by rw[seqIndex_of h0 h1,e],by lia,by lia,h1⟩
  ·rw[KJ h1] at h;cases h
 ·rw[KJ h0] at h;by_cases h1:-(n:Int)<=i
  ·rw[KO h1] at h;have e:(i+n).toNat=j:=Option.some.inj h;exact⟨by rw[Q0 (by lia) h1,e],by lia,h1,by lia⟩
  ·rw[KJ h1] at h;cases h
theorem nU{xs:List α}{i:Int}{v:α}(h:bC xs i=some v):∃j,seqIndex? i xs.length=some j/\xs[j]?=some v/\j<xs.length/\-(xs.length:Int)<=i/\i<xs.length:=by
 unfold bC at h
 cases e:iF xs.length i with
 |none=>rw[e] at h;cases h
 |some j =>
  rw[e] at h;obtain⟨h1,h2,h3,h4⟩:=vv e;exact⟨j,h1,h,h2,h3,h4⟩
theorem aR{xs:List α}{j:Nat}{v:α}(h:xs[j]?=some v):bC xs (j:Int)=some v:=by
 have hj:j<xs.length:=(K7.mp h).1;have e:iF xs.length (j:Int)=some j:=by
  unfold iF;rw[KO (by lia),KO (by lia)];simp
 unfold bC;rw[e];exact h
theorem qc(xs:List α)(v:α):bC (xs++[v]) (-1)=some v:=by
 have hl:(xs++[v]).length=xs.length+1:=by simp
 have e:iF (xs++[v]).length (-1)=some xs.length:=by
  unfold iF;rw[hl,KJ (by decide),KO (by lia)]
  congr 1;lia
 unfold bC;rw[e];show (xs++[v])[xs.length]?=some v;simp
def tN(b:Expr):Prop:=∀o i,subscripted b false o i=operate [o,i] (getItem o i)
def wM(X:Cx)(r:R2):Prop:=
 ∀(value slice:Expr) (pins:List (Addr×Obj)) (s:Shared) (σ:St) (H:Hp) (x y:V) (v u:Value) (Q:VK),Inv X pins σ H s->RelV x v->RelV y u->r x y H Q ->
  subscripted slice false v u=operate [v,u] (getItem v u)->wpAny (model X.prog X.w) X.A (subscriptTail value slice v u) (EP X pins σ Q) X.xe s
def vw(X:Cx)(id:String)(r:V->List V->Hp->VK->Prop):Prop:=
 ∀(pins:List (Addr×Obj)) (s:Shared) (σ:St) (H:Hp) (x:V) (xs:List V) (v:Value) (us:List Value) (Q:VK),Inv X pins σ H s->RelV x v->Vals xs us->r x xs H Q ->
  wpAny (model X.prog X.w) X.A (call (.builtin id) (v::us)) (EP X pins σ Q) X.xe s
section
variable {X:Cx} {a b:Expr} {ta tb:TE} {pos:Pos}
theorem wM.or{r r':R2}(h:wM X r)(h':wM X r'):wM X (λx y H Q=>r x y H Q\/r' x y H Q):=by
 intro value slice pins s σ H x y v u Q I rx ry q hs;rcases q with q|q
 ·exact h value slice pins s σ H x y v u Q I rx ry q hs
 ·exact h' value slice pins s σ H x y v u Q I rx ry q hs
theorem Bm{r:R2}(hr:wM X r)(ha:PE X a ta)(hb:PE X b tb)(hs:tN b):PE X (.Subscript a b pos) (Aa r ta tb):=by
 intro pins s σ H Q I h;exact Subscript_ (E8 ha hb I h λv u s2 x y H2 I2 rx ry q=>hr a b pins s2 σ H2 x y v u Q I2 rx ry q (hs _ _))
def Ho(K:W.Frag):R2:=λx y H Q=>∃p xs i v,x=.ref p/\y=.int i/\a_ K H p xs/\bC xs i=some v/\Q v H
def FL(K:W.Frag):R2:=λx y H Q=>∃p xs i v,x=.ref p/\y=.int i/\aX K H p xs/\bC xs i=some v/\Q v H
def Ic:R2:=λx y H Q=>∃z i c,x=.str z/\y=.int i/\z.length<=sizeLine/\bC z.cps.toList i=some c/\Q (.str ⟨#[c]⟩) H
theorem Cg:wM X (Ho X.K):=by
 intro value slice pins s σ H x y v u Q I rx ry h hs;obtain⟨p,xs,i,z,rfl,rfl,hq,he,q⟩:=h;cases rx;obtain⟨t,rfl⟩:=ry;obtain⟨its,r,pl,hz⟩:=I.list hq;obtain⟨j,h1,h2,h3,h4,h5⟩:=nU he;obtain⟨w,ew,rw'⟩:=r.get h2;have hl:=r.length;have hn:=jw;have fin:EP X pins σ Q w s:=⟨z,H,I,rw',q⟩;by_cases h0:0<=i
 ·have hj:i.toNat=j:=by
   rw[seqIndex_of h0 h5] at h1;exact Option.some.inj h1
  exact item_listR pl.isList h0 (by lia) (by rw[hj];simpa using ew) fin hs
 ·have hj:(i+(its.toArray.size:Int)).toNat=j:=by
   rw[Q0 (by lia) h4] at h1
   rw[KC,<- hl];exact Option.some.inj h1
  exact subscriptTail_builtinR (x:=w) pl.isList.typeIs Pa.lookup
   (wpAny_getItem_list_neg (Q:=λr s'=>r=w/\EP X pins σ Q r s') pl.isList (by lia) (by rw[KC]<;>lia) (by lia) (by rw[hj];simpa using ew) ⟨rfl,fin⟩) hs
theorem nJ:wM X (FL X.K):=by
 intro value slice pins s σ H x y v u Q I rx ry h hs;obtain⟨p,xs,i,z,rfl,rfl,hq,he,q⟩:=h;cases rx;obtain⟨t,rfl⟩:=ry;obtain⟨its,r,pl,hz⟩:=I.tuple hq;obtain⟨j,h1,h2,h3,h4,h5⟩:=nU he;obtain⟨w,ew,rw'⟩:=r.get h2;have hl:=r.length;have hn:=jw;have fin:EP X pins σ Q w s:=⟨z,H,I,rw',q⟩;exact subscriptTail_builtinR (x:=w) pl.typeIs slot_tuple_getitem.lookup
  (getItem_tuple (j:=j) (Q:=λr s'=>r=w/\EP X pins σ Q r s') pl (by lia) (by lia) (by rw[KC,<- hl];exact h1) (by simpa using ew) ⟨rfl,fin⟩) hs
theorem FW:wM X Ic:=by
 intro value slice pins s σ H x y v u Q I rx ry h hs;obtain⟨z,i,c,rfl,rfl,hz,he,q⟩:=h;obtain⟨t,rfl⟩:=rx;obtain⟨t',rfl⟩:=ry;obtain⟨j,h1,h2,h3,h4,h5⟩:=nU he;have hl:z.cps.toList.length=z.length:=by simp[Str.length]
 rw[hl] at h1 h4 h5;have hn:=jw;exact tail_any (Qs s z t) slot_str_getitem.lookup (getItem_str (c:=c) (by
  have e1:decide (i < -(2^63:Int))=false:=Lf (by lia)
  have e2:decide (i >= 2^63)=false:=Lf (by lia)
  rw[e1,e2,Bool.or_false]) (by rw[h1];simpa using h2) ⟨.str ⟨#[c]⟩,H,I.tok _,⟨_,rfl⟩,q⟩) hs
def Kq(K:W.Frag):R2:=λx y H Q=>Ho K x y H Q\/FL K x y H Q\/Ic x y H Q
theorem FU:wM X (Kq X.K):=Cg.or (nJ.or FW)
theorem sy(its:List Value)(n j:Nat)(u:Value):Obj.mapSeq (·.setIfInBounds j u) {cls:=.type "list",data:=.seq its.toArray n}={cls:=.type "list",data:=.seq (its.set j u).toArray n}:=by
 simp[Obj.mapSeq]
theorem Inv.lst{s:Shared}{p:Addr}(I:Inv X pins σ H s)(h:H p=some (.lst xs)):
  ∃(its:List Value) (n:Nat),Vals xs its/\s.heap.get? p=some {cls:=.type "list",data:=.seq its.toArray n}/\xs.length<=sizeLine:=by
 obtain⟨z,its,n,r,e⟩:=I.bg p _ h;exact⟨its,n,r,e,z⟩
theorem Inv.GF{s:Shared}{p:Addr}{ys:List V}{n n':Nat}{f:Obj->Obj}(I:Inv X pins σ H s)(h:H p=some (.lst xs))
  (ho:s.heap.get? p=some {cls:=.type "list",data:=.seq its.toArray n}) (hf:f {cls:=.type "list",data:=.seq its.toArray n}={cls:=.type "list",data:=.seq its'.toArray n'}) (r:Vals ys its') (hz:ys.length<=sizeLine) (t:Nat) :
  Inv X pins σ (upd H p (.lst ys)) {s with heap:=s.heap.update p f,toks:=t}:=by
 have e:(s.heap.update p f).get? p=some {cls:=.type "list",data:=.seq its'.toArray n'}:=by
  rw[Nz f ho (by rw[hf]<;>rfl),hf]
 refine I.write (x:=p) (e:=p) (by rw[h];trivial) (.inl rfl) (λb u hb q=>(Of _ _ (Mc hb)).trans q) ⟨_,e⟩ ?_
 exact⟨hz,its',n',r,e⟩
def Iq:V->V->V->Hp->(Hp->Prop)->Prop:=λo i v H Q=>∃p xs k j,o=.ref p/\i=.int k/\H p=some (.lst xs)/\iF xs.length k=some j/\Q (upd H p (.lst (xs.set j v)))
theorem set_list:GS X Iq:=by
 intro pins s σ H o i v ov iv u Q I ro ri rv h;obtain⟨p,xs,k,j,rfl,rfl,hp,hj,q⟩:=h;cases ro;obtain⟨t,rfl⟩:=ri;obtain⟨its,n,r,ho,hz⟩:=I.lst hp;obtain⟨h1,h2,h3,h4⟩:=vv hj;have hl:=r.length;have hn:=jw;have I':Inv X pins σ (upd H p (.lst (xs.set j v))) {s with heap:=s.heap.update p (Obj.mapSeq (·.setIfInBounds j u))}:=
  I.GF hp ho (sy its n j u) (r.set rv j) (by rw[LR];exact hz) s.toks
 by_cases h0:0<=k
 ·have hk:k.toNat=j:=by
   rw[seqIndex_of h0 h4] at h1;exact Option.some.inj h1
  exact W.ki_setAt ho h0 (by lia) (by rw[KC,<- hl];exact h4) (by rw[hk];exact⟨_,I',q⟩)
 ·have hk:(k+(its.toArray.size:Int)).toNat=j:=by
   rw[Q0 (by lia) h3] at h1
   rw[KC,<- hl];exact Option.some.inj h1
  exact W.ki_setBack ho (by lia) (by rw[KC,<- hl];exact h3) (by lia) (by rw[hk];exact⟨_,I',q⟩)
theorem oX(lo hi:Option Int)(n:Nat):(sliceBounds lo hi none n).1=((HT.bI n 0 lo:Nat):Int)/\(sliceBounds lo hi none n).2.1=((HT.bI n n hi:Nat):Int)/\(sliceBounds lo hi none n).2.2=1:=by
 refine⟨?_,?_,rfl⟩
 ·cases lo with
  |none=>simp[sliceBounds,HT.bI]
  |some i =>
   simp only[sliceBounds,HT.bI,Option.getD_none,show (1:Int) > 0 by decide,MV]
   by_cases h:i<0
   ·simp only[h,MV]<;>lia
   ·simp only[h,MX]<;>lia
 ·cases hi with
  |none=>simp[sliceBounds,HT.bI]
  |some i =>
   simp only[sliceBounds,HT.bI,Option.getD_none,show (1:Int) > 0 by decide,MV]
   by_cases h:i<0
   ·simp only[h,MV]<;>lia
   ·simp only[h,MX]<;>lia
theorem ma(its:List Value)(lo hi:Option Int):slicePick its.toArray lo hi none=((its.drop (HT.bI its.length 0 lo)).take (HT.bI its.length its.length hi-HT.bI its.length 0 lo)).toArray:=by
 obtain⟨h1,h2,h3⟩:=oX lo hi its.toArray.size;unfold slicePick;rw[h1,h2,h3];simp only[sliceRange_one,pick_run,KC]<;>rfl
def Es(K:W.Frag):V->Option Int->Option Int->Hp->VK->Prop:=λx lo hi H Q=>∃a xs,x=.ref a/\a_ K H a xs/\∀p,H p=none->Q (.ref p) (upd H p (.lst (dQ xs lo hi)))
theorem oG:vy X (Es X.K):=by
 intro pins s σ H x v vl vu lo hi sl Q I rx hs pl pu h;obtain⟨a,xs,rfl,hx,q⟩:=h;cases rx;obtain⟨its,r,ht,hz⟩:=I.list hx;have hlen:=r.length;refine⟨"list",_,Pa.lookup,ht.isList.typeIs,?_⟩;refine Py ht.isList hs pl pu .none (by simp) ?_ (by rw[KC]<;>lia)
 rw[ma,<- hlen];refine⟨.ref s.heap.objs.size,_,I.laid (t':=s.toks) (o:=.lst (dQ xs lo hi)) (λb ob q=>K9 _ q) (KH _) ?_,rfl,q _ (I.bg.fresh (KH _))⟩;exact⟨KA (j8 xs lo hi) hz,_,0,(r.drop (HT.bI xs.length 0 lo)).take (HT.bI xs.length xs.length hi-HT.bI xs.length 0 lo),La _ rfl⟩
noncomputable def cK:V->Bool
 |.aO=>true
 |.bl _=>true
 |.int _=>true
 |.str _=>true
 |_=>false
noncomputable def x6:V->V->Bool
 |.aO,.aO=>true
 |.bl a,.bl b=>a == b
 |.bl a,.int b=>(if a then 1 else 0) == b
 |.int a,.bl b=>a ==(if b then 1 else 0)
 |.int a,.int b=>a == b
 |.str a,.str b=>a == b
 |_,_=>false
theorem nL{A:Around}{s:Shared}{v:Value}(ry:RelV y u)(rx:RelV x v)(fy:cK y=true)(fx:cK x=true):SeqAt.EqAt A s u v (x6 y x):=by
 cases y with
 |aO =>
  cases ry
  cases x with
  |aO=>cases rx;exact SeqAt.EqAt.same _
  |bl b=>cases rx;exact SeqAt.EqAt.none_bool b
  |int b=>obtain⟨t,rfl⟩:=rx;exact SeqAt.EqAt.none_int b t
  |str b=>obtain⟨t,rfl⟩:=rx;exact SeqAt.EqAt.none_str b t
  |_=>exact absurd (show false=true from fx) KP
 |bl a =>
  cases ry
  cases x with
  |aO=>cases rx;exact SeqAt.EqAt.bool_none a
  |bl b=>cases rx;exact SeqAt.EqAt.bool_bool a b
  |int b=>obtain⟨t,rfl⟩:=rx;exact SeqAt.EqAt.bool_int a b t
  |str b=>obtain⟨t,rfl⟩:=rx;exact SeqAt.EqAt.bool_str a b t
  |_=>exact absurd (show false=true from fx) KP
 |int a =>
  obtain⟨t',rfl⟩:=ry
  cases x with
  |aO=>cases rx;exact SeqAt.EqAt.int_none a t'
  |bl b=>cases rx;exact SeqAt.EqAt.int_bool a t' b
  |int b=>obtain⟨t,rfl⟩:=rx;exact SeqAt.EqAt.int_int a t' b t
  |str b=>obtain⟨t,rfl⟩:=rx;exact SeqAt.EqAt.int_str a t' b t
  |_=>exact absurd (show false=true from fx) KP
 |str a =>
  obtain⟨t',rfl⟩:=ry
  cases x with
  |aO=>cases rx;exact SeqAt.EqAt.str_none a t'
  |bl b=>cases rx;exact SeqAt.EqAt.str_bool a t' b
  |int b=>obtain⟨t,rfl⟩:=rx;exact SeqAt.EqAt.str_int a t' b t
  |str b=>obtain⟨t,rfl⟩:=rx;exact SeqAt.EqAt.str_str a t' b t
  |_=>exact absurd (show false=true from fx) KP
 |_=>exact absurd (show false=true from fy) KP
def Dq(x:V)(u:Value):Bool:=match u with
 |.none=>x6 .aO x
 |.bool b=>x6 (.bl b) x
 |.int i _=>x6 (.int i) x
 |.str z _=>x6 (.str z) x
 |_=>false
theorem Bf(r:RelV y u)(f:cK y=true):Dq x u=x6 y x:=by
 cases y with
 |aO=>cases r;rfl
 |bl b=>cases r;rfl
 |int i=>obtain⟨t,rfl⟩:=r;rfl
 |str z=>obtain⟨t,rfl⟩:=r;rfl
 |_=>exact absurd (show false=true from f) KP
theorem oM:∀{xs:List V} {us:List Value},Vals xs us->xs.all cK=true->us.any (Dq x)=xs.any λy=>x6 y x
 |_,_,.nil,_=>rfl
 |y::xs,u::us,.cons r t,f=>by
  rw[MD,LK] at f;rw[Ol,Ol,Bf r f.1,oM t f.2]
theorem k_{A:Around}{s:Shared}{v:Value}(rx:RelV x v)(fx:cK x=true):∀{xs:List V} {us:List Value},Vals xs us->xs.all cK=true->∀u∈us,SeqAt.EqAt A s u v (Dq x u)
 |_,_,.nil,_=>λu hu=>by cases hu
 |y::xs,u::us,.cons r t,f=>λu' hu=>by
  rw[MD,LK] at f;rcases KL.mp hu with rfl|hu
  ·rw[Bf r f.1];exact nL r rx f.1 fx
  ·exact k_ rx fx t f.2 u' hu
def jF(x:V)(xs:List V):Bool:=xs.any λy=>x6 y x
def JQ(K:W.Frag)(neg:Bool):R2:=λx y H Q=>∃p xs,y=.ref p/\(a_ K H p xs\/aX K H p xs)/\cK x=true/\xs.all cK=true/\Q (.bl (if neg then !jF x xs else jF x xs)) H
theorem mH:cJ X (compareOp .In) (JQ X.K false):=by
 intro pins s σ H x y v u Q I rx ry h;obtain⟨p,xs,rfl,hq,fx,fs,q⟩:=h;cases ry;rcases hq with hq|hq
 ·obtain⟨its,r,pl,hz⟩:=I.list hq;refine SeqAt.in_listAt (Dq x) pl.isList (λw hw=>k_ rx fx r fs w (by simpa using hw)) ⟨.bl _,H,I,rfl,?_⟩
  rw[show its.toArray.any (Dq x)=its.any (Dq x) by simp,oM r fs]
  exact q
 ·obtain⟨its,r,pl,hz⟩:=I.tuple hq;refine SeqAt.in_tupleAt (Dq x) pl (λw hw=>k_ rx fx r fs w (by simpa using hw)) ⟨.bl _,H,I,rfl,?_⟩
  rw[show its.toArray.any (Dq x)=its.any (Dq x) by simp,oM r fs]
  exact q
theorem bt.or{f:Value}{r r':List V->Hp->VK->Prop}(h:bt X f r)(h':bt X f r'):bt X f (λxs H Q=>r xs H Q\/r' xs H Q):=by
 intro pins s σ H xs us Q I rs q;rcases q with q|q
 ·exact h pins s σ H xs us Q I rs q
 ·exact h' pins s σ H xs us Q I rs q
theorem oj:bt X (.type "list") (λxs H Q=>∃p ys,xs=[.ref p]/\(a_ X.K H p ys\/aX X.K H p ys)/\∀l,H l=none->Q (.ref l) (upd H l (.lst ys))):=by
 intro pins s σ H xs us Q I r h;obtain⟨p,ys,rfl,hq,q⟩:=h;obtain⟨u,rfl,rx⟩:=vals1 r;cases rx;have fin:∀(its:List Value),Vals ys its->ys.length<=sizeLine->∀(h':Heap) (c':Nat),(∀b o',s.heap.get? b=some o'->h'.get? b=some o') ->
   h'.get? s.heap.objs.size=some {cls:=.type "list",dict:=none,data:=.seq its.toArray c',slots:=#[]}->EP X pins σ Q (.ref s.heap.objs.size) {s with heap:=h'}:=λits r' hz h' c' kp e =>
  ⟨.ref s.heap.objs.size,_,I.laid (t':=s.toks) kp (KH _) (show bw X.prog X.w _ h' _ (.lst ys) from⟨hz,its,c',r',e⟩),rfl,q _ (I.bg.fresh (KH _))⟩
 rcases hq with hq|hq
 ·obtain⟨its,r',pl,hz⟩:=I.list hq;have hlen:=r'.length;obtain⟨o,ho,hc,n,hd⟩:=pl.isList;exact call_list_seq p (.inl rfl) ho hc hd (λh' c' kp e=>fin its r' hz h' c' kp e) (by simp only[KC]<;>lia)
 ·obtain⟨its,r',pl,hz⟩:=I.tuple hq;have hlen:=r'.length;obtain⟨o,ho,hc,n,hd⟩:=pl;exact call_list_seq p (.inr rfl) ho hc hd (λh' c' kp e=>fin its r' hz h' c' kp e) (by simp only[KC]<;>lia)
theorem eZ:bt X (.type "tuple") (λxs H Q=>∃p ys,xs=[.ref p]/\((a_ X.K H p ys/\∀l,H l=none->Q (.ref l) (upd H l (.tup ys)))\/(aX X.K H p ys/\Q (.ref p) H))):=by
 intro pins s σ H xs us Q I r h;obtain⟨p,ys,rfl,h⟩:=h;obtain⟨u,rfl,rx⟩:=vals1 r;cases rx;rcases h with ⟨hq,q⟩|⟨hq,q⟩
 ·obtain⟨its,r',pl,hz⟩:=I.list hq;have hlen:=r'.length;refine call_tuple_list pl.isList (λh' kp=>?_) (by simp only[KC]<;>lia)
  have I1:Inv X pins σ H {s with heap:=h'}:=I.kept (t':=s.toks) kp
  have I2:Inv X pins σ (upd H h'.objs.size (.tup ys)) {s with heap:=h'.push {cls:=.type "tuple",data:=.seq its.toArray}}:=
   I1.laid (t':=s.toks) (λb o e=>K9 _ e) (KH _) (show bw X.prog X.w _ _ _ (.tup ys) from⟨hz,its,r',eF.new _ _⟩)
  exact⟨.ref h'.objs.size,_,I2,rfl,q _ (I1.bg.fresh (KH _))⟩
 ·obtain⟨its,r',pl,hz⟩:=I.tuple hq;exact call_tuple_same pl ⟨.ref p,H,I,rfl,q⟩
def GX(K:W.Frag)(T:String)(x:V)(H:Hp):Prop:=match x with
 |.str _=>T="str"
 |.int _=>T="int"
 |.ref p=>(T="list"/\∃xs,a_ K H p xs)\/(T="tuple"/\∃o,K.lookup p=some o/\o.cls=.type "tuple"/\o.dict=none) \/
   (T="dict"/\((∃kvs,H p=some (.dK kvs))\/∃kvs,H p=some (.dT kvs)))\/(T="set"/\∃S n,H p=some (.set S n))
 |_=>False
theorem zD{s:Shared}{T:String}{v:Value}(I:Inv X pins σ H s)(r:RelV x v)(ty:GX X.K T x H):
  s.TypeIs v T/\∀a,v=.ref a->∃ob,s.heap.get? a=some ob/\ob.dict=none:=by
 cases x with
 |str z =>
  obtain⟨t,rfl⟩:=r
  cases (show T="str" from ty)
  exact⟨Qs s z t,λ_ e=>nomatch e⟩
 |int i =>
  obtain⟨t,rfl⟩:=r
  cases (show T="int" from ty)
  exact⟨Pg s i t,λ_ e=>nomatch e⟩
 |ref p =>
  cases r;rcases ty with ⟨rfl,xs,hq⟩|⟨rfl,o,hk,hc,hd⟩|⟨rfl,hk⟩|⟨rfl,S,n,hk⟩
  ·obtain⟨its,_,pl,_⟩:=I.list hq;refine⟨pl.isList.typeIs,λa e=>?_⟩;cases e;obtain⟨o,n,e,c,hd,_⟩:=pl;exact⟨o,e,hd⟩
  ·refine⟨⟨o,I.mx p o hk,hc⟩,λa e=>?_⟩;cases e;exact⟨o,I.mx _ o hk,hd⟩
  ·have z:∃o,s.heap.get? p=some o/\o.ExactDict:=by
    rcases hk with ⟨kvs,hk⟩|⟨kvs,hk⟩
    ·obtain⟨_,_,_,_,o,_,_,e,ex,_⟩:=I.bg p _ hk;exact⟨o,e,ex⟩
    ·obtain⟨_,_,_,_,o,_,_,e,ex,_⟩:=I.bg p _ hk;exact⟨o,e,ex⟩
   obtain⟨o,e,ex⟩:=z;refine⟨⟨o,e,ex.1⟩,λa e2=>?_⟩;cases e2;exact⟨o,e,ex.2.1⟩
  ·obtain⟨o,_,_,_,e,ex,_⟩:=I.bg p _ hk;refine⟨⟨o,e,ex.1⟩,λa e2=>?_⟩;cases e2;exact⟨o,e,ex.2.1⟩
 |_=>exact False.elim ty
def xZ(K:W.Frag)(T:String)(r:V->List V->Hp->VK->Prop)(to:TE):TE:=λσ H Q=>to σ H λx H1=>GX K T x H1/\r x [] H1 Q
def Ga(K:W.Frag)(T:String)(r:V->List V->Hp->VK->Prop)(to:TE)(t:TA):TE:=λσ H Q=>to σ H λx H1=>GX K T x H1/\t σ H1 λxs H2=>r x xs H2 Q
variable {o e:Expr} {es:List Expr} {to:TE} {t:TA} {name:Str} {apos cpos:Pos} {T id:String} {r:V->List V->Hp->VK->Prop}
theorem EZ(pa:PlainAttrs T)(slot:Slot T name id)(hty:typeOf (.builtin id)=pure (.type "method_descriptor"))(hm:vw X id r)(ho:PE X o to)
  (hbase:autoParam (attributeBase o name X.env (eval o X.env)=eval o X.env) ℜ0) (hline:autoParam ((apos.endLine == cpos.line)=true) ℜ0):PE X (.Call (.Attribute o name apos) [] [] cpos) (xZ X.K T r to):=by
 intro pins s σ H Q I h;refine wpAny_Call_method0_late hbase hline (bS (ho pins s σ H _ I h) λv s1 hq53=>?_);obtain⟨x,H1,I1,r1,ty,q1⟩:=hq53;obtain⟨h1,h2⟩:=zD I1 r1 ty;exact⟨T,id,pa,slot,hty,h1,h2,PX rfl (PySem.evalArgs_none (hm pins s1 σ H1 x [] v [] Q I1 r1 .nil q1))⟩
theorem HZ(pa:PlainAttrs T)(slot:Slot T name id)(hty:typeOf (.builtin id)=pure (.type "method_descriptor"))(hm:vw X id r)(ho:PE X o to)(ha:PA X (e::es) t)
  (hbase:autoParam (attributeBase o name X.env (eval o X.env)=eval o X.env) ℜ0)
  (hfew:autoParam (((backTo cpos (starEach (e::es) X.env)).all (λx=>!x.1) && (backToKw cpos (keywordEach [] X.env)).all (λx=>x.1.isSome)
   && decide ((e::es).length+([]:List Keyword).length+(if ([]:List Keyword).isEmpty then 0 else 1)<30))=true) ℜ0)
  (hline:autoParam ((apos.endLine == cpos.line)=true) ℜ0) (hs:autoParam (starEach (e::es) X.env=(false,eval e X.env)::starEach es X.env) ℜ0) (hplain:autoParam ((backTo cpos (starEach es X.env)).any (·.1)=false) ℜ0) :
  PE X (.Call (.Attribute o name apos) (e::es) [] cpos) (Ga X.K T r to t):=by
 intro pins s σ H Q I h;refine wpAny_Call_method_late hbase hfew hline rfl (bS (ho pins s σ H _ I h) λv s1 hq54=>?_);obtain⟨x,H1,I1,r1,ty,q1⟩:=hq54;obtain⟨h1,h2⟩:=zD I1 r1 ty;refine⟨T,id,pa,slot,hty,h1,h2,?_⟩;have hA:=ha cpos pins s1 σ H1 _ I1 q1;rw[hs] at hA ⊢;refine PX (by show (false || (backTo cpos (starEach es X.env)).any (·.1))=false;rw[hplain]<;>rfl) (Calls.evalArgs_plain ?_)
 exact bS hA λus s2 ⟨vs,H2,I2,r2,q2⟩=>hm pins s2 σ H2 x vs v us Q I2 r1 r2 q2
/- xs.append(e),list.index on a module's tuple .. are vw facts of 06m -/
end
def G_(X:Cx)(id:String)(r:V->List V->Hp->VK->Prop):Prop:=
 ∀(pins:List (Addr×Obj)) (s:Shared) (σ:St) (H:Hp) (x:V) (xs:List V) (v:Value) (us:List Value) (Q:VK),Inv X pins σ H s->RelV x v->Vals xs us->r x xs H Q ->
  wpAny (model X.prog X.w) X.A (call (.builtin id) (v::us)) (EP X pins σ Q) X.xe s
theorem Vals.one:∀{x:V} {us:List Value},Vals [x] us->∃u,us=[u]/\RelV x u
 |_,_,.cons r .nil=>⟨_,rfl,r⟩
theorem Vals.eraseIdx:∀{xs:List V} {us:List Value} (i:Nat),Vals xs us->Vals (xs.eraseIdx i) (us.eraseIdx i)
 |_,_,_,.nil=>.nil
 |_,_,0,.cons _ t=>t
 |_,_,i+1,.cons r t=>.cons r (Vals.eraseIdx i t)
theorem Vals.rep(h:Vals xs us):∀k:Nat,Vals (List.replicate k xs).flatten (List.replicate k us).flatten
 |0=>.nil
 |k+1=>by
  rw[L6,L6,Lr,Lr];exact Vals.append h (Vals.rep h k)
theorem n4:∀(l:List α) (i:Nat),(l.eraseIdx i).length<=l.length
 |[],_=>KH _
 |_::_,0=>M0 _
 |_::r,i+1=>Pz (n4 r i)
theorem foldl_rep(its:List Value):∀(k:Nat) (acc:List Value),
  List.foldl (λx1 x2=>x1++x2) acc.toArray (List.replicate k its.toArray)=(acc++(List.replicate k its).flatten).toArray
 |0,acc=>by simp
 |k+1,acc=>by
  have e:acc.toArray++its.toArray=(acc++its).toArray:=by simp
  have e2:(acc++its)++(List.replicate k its).flatten=acc++(List.replicate (k+1) its).flatten:=by
   rw[L6,Lr,Ld]
  rw[<- e2,<- foldl_rep its k (acc++its),<- e,L6,O5]
section
variable {X:Cx} {pins:List (Addr×Obj)} {σ:St} {H:Hp} {s:Shared} {l b:Addr} {xs ys zs:List V}
theorem Inv.BV{n:Nat}{f:Array Value->Array Value}{t':Nat}(I:Inv X pins σ H s)(hH:H l=some (.lst xs))
  (e:s.heap.get? l=some {cls:=.type "list",data:=.seq its.toArray n}) (hf:f its.toArray=its'.toArray) (hv:Vals ys its') (hz:ys.length<=sizeLine) :
  Inv X pins σ (upd H l (.lst ys)) {s with heap:=s.heap.update l (Obj.mapSeq f),toks:=t'}:=by
 have q:=PySem.IsL.update e f;rw[hf] at q;refine I.write (x:=l) (e:=l) (by rw[hH];exact trivial) (.inl rfl) (λb' u hb hu=>(Of s.heap (Obj.mapSeq f) (Mc hb)).trans hu) ⟨_,q⟩ ?_
 exact⟨hz,its',_,hv,q⟩
theorem Inv.EE{t':Nat}(I:Inv X pins σ H s)(hv:Vals ys its)(hz:ys.length<=sizeLine):
  Inv X pins σ (upd H s.heap.objs.size (.lst ys)) {s with heap:=s.heap.push {cls:=.type "list",data:=.seq its.toArray},toks:=t'}:=
 I.laid (λ_ _ q=>K9 _ q) (KH _) ⟨hz,its,0,hv,La _ rfl⟩
theorem Inv.fresh(I:Inv X pins σ H s):H s.heap.objs.size=none:=I.bg.fresh (KH _)
theorem Inv.mf(I:Inv X pins σ H s)(hH:H l=some (.lst xs)):xs.length<=sizeLine/\∃(its:List Value) (n:Nat),Vals xs its/\xs.length=its.length/\s.heap.get? l=some {cls:=.type "list",data:=.seq its.toArray n}:=by
 obtain⟨z,its,n,r,e⟩:=I.bg l _ hH;exact⟨z,its,n,r,r.length,e⟩
theorem Ah{n:Nat}(h:n<=sizeLine):Builtin.List.listTooLong n=false:=by
 unfold Builtin.List.listTooLong;exact Lf (by lia)
end
section
variable {X:Cx}
def uq:V->List V->Hp->VK->Prop:=λx vs H Q=>∃l xs y,x=.ref l/\vs=[y]/\H l=some (.lst xs)/\xs.length<sizeLine/\Q .aO (upd H l (.lst (xs++[y])))
theorem mG:G_ X "list.append" uq:=by
 intro pins s σ H x vs v us Q I rx rv h;obtain⟨l,xs,y,rfl,rfl,hH,hz,q⟩:=h;cases rx;obtain⟨u,rfl,ru⟩:=rv.one;obtain⟨z,its,n,r,hl,e⟩:=I.mf hH;refine MJ F.slot_list_append ⟨_,e,rfl⟩ F.entry_list_append (F.args_list_append_2 _ _) (PySem.list_append l its.toArray n u (by rw[KC];lia)) ⟨e,?_⟩
 refine⟨.aO,_,I.BV (its':=its++[u]) hH e (by simp) (r.append (.cons ru .nil)) ?_,rfl,q⟩
 rw[K6,N0];lia
def EJ:V->List V->Hp->VK->Prop:=λx vs H Q=>∃l xs i k y,x=.ref l/\vs=[.int i]/\H l=some (.lst xs)/\-(2^63)<=i/\i<2^63/\seqIndex? i xs.length=some k/\xs[k]?=some y/\Q y (upd H l (.lst (xs.eraseIdx k)))
theorem xK:G_ X "list.pop" EJ:=by
 intro pins s σ H x vs v us Q I rx rv h;obtain⟨l,xs,i,k,y,rfl,rfl,hH,h1,h2,hk,hy,q⟩:=h;cases rx;obtain⟨u,rfl,ru⟩:=rv.one;obtain⟨t,rfl⟩:=ru;obtain⟨z,its,n,r,hl,e⟩:=I.mf hH;obtain⟨w,hw,rw'⟩:=r.get hy;refine MJ F.slot_list_pop ⟨_,e,rfl⟩ F.entry_list_pop (F.args_list_pop_2 _ _)
  (MeetsSeq.list_pop_at l its.toArray n i t k w (Qg h1 h2) (by rw[KC,<- hl];exact hk) (by rw[<- Lv];exact hw) (by rw[KC];lia)) ⟨e,?_⟩
 refine⟨y,_,I.BV (its':=its.eraseIdx k) hH e ?_ (r.eraseIdx k) ?_,rw',q⟩
 ·show its.toArray.eraseIdxIfInBounds k=(its.eraseIdx k).toArray;rw[List.eraseIdxIfInBounds_toArray]
 ·have:=n4 xs k;lia
def HU:R2:=λx y H Q=>∃l b xs zs,x=.ref l/\y=.ref b/\H l=some (.lst xs)/\H b=some (.lst zs)/\xs.length+zs.length<=sizeLine/\∀p,H p=none->Q (.ref p) (upd H p (.lst (xs++zs)))
theorem Ax:cJ X (binaryOp .Add) HU:=by
 intro pins s σ H x y v u Q I rx ry h;obtain⟨l,b,xs,zs,rfl,rfl,hH,hB,hz,q⟩:=h;cases rx;cases ry;obtain⟨z,its,n,r,hl,e⟩:=I.mf hH;obtain⟨z2,its2,n2,r2,hl2,e2⟩:=I.mf hB;refine PySem.P.add_list e e2 ?_ (by rw[KC,KC];lia)
 have ea:its.toArray++its2.toArray=(its++its2).toArray:=by simp
 rw[ea];exact⟨.ref _,_,I.EE (t':=s.toks) (r.append r2) (by rw[K6];lia),rfl,q _ I.fresh⟩
def Hy:R2:=λx y H Q=>∃l k xs,x=.ref l/\y=.int k/\H l=some (.lst xs)/\-(2^63)<=k/\k<2^63/\xs.length*k.toNat<=sizeLine /\
 ∀p,H p=none->Q (.ref p) (upd H p (.lst (List.replicate k.toNat xs).flatten))
theorem len_rep(xs:List α)(k:Nat):(List.replicate k xs).flatten.length=k*xs.length:=by
 induction k with
 |zero=>simp
 |succ k ih=>rw[L6,Lr,K6,ih,NM,Nat.add_comm]
theorem Gb:cJ X (binaryOp .Mult) Hy:=by
 intro pins s σ H x y v u Q I rx ry h;obtain⟨l,k,xs,rfl,rfl,hH,h1,h2,hz,q⟩:=h;cases rx;obtain⟨t,rfl⟩:=ry;obtain⟨z,its,n,r,hl,e⟩:=I.mf hH;have hlen:its.toArray.size*k.toNat<=sizeLine:=by rw[KC,<- hl];exact hz
 have hcap:¬ its.toArray.size*k.toNat >(2^63-1) / 8:=by
  have:(sizeLine:Nat)<=(2^63-1) / 8:=by decide
  lia
 have hfit:¬ (!Builtin.List.listFitsIndex k)=true:=by
  rw[Qg h1 h2];exact KP
 have hlong:¬ Builtin.List.listTooLong (its.toArray.size*k.toNat)=true:=by
  rw[Ah hlen];exact KP
 have hnew:List.foldl (λx1 x2=>x1++x2) #[] (List.replicate (if its.toArray.isEmpty=true then 0 else k.toNat) its.toArray)=(List.replicate k.toNat its).flatten.toArray:=by
  have f0:∀m:Nat,List.foldl (λx1 x2=>x1++x2) #[] (List.replicate m its.toArray)=(List.replicate m its).flatten.toArray:=λm=>by
   have:=foldl_rep its m [];rw[L_] at this;exact this
  rw[f0]
  cases its with
  |nil=>simp
  |cons a r'=>rw[KJ (by simp)]
 refine Ph (T:="list") (U:="int") (by decide) ⟨_,e,rfl⟩ (λs'=>Pg s' k t) noFill_list_mul F.fills_int_mul F.slot_int_rmul repeat_list F.slot_int_index.lookup
  (MJ F.slot_int_rmul (Pg s k t) F.entry_int_rmul (F.args_int_rmul_2 _ _) (int___rmul___int_list k t l its.toArray n)
   ⟨e,rfl,⟨_,e,rfl⟩,MJ F.slot_list_mul ⟨_,e,rfl⟩ F.entry_list_mul (F.args_list_mul_2 _ _) (AutoListH.list___mul___list_int_3 l its.toArray n k t hfit hcap hlong) ⟨e,?_⟩⟩)
 rw[hnew];exact⟨.ref _,_,I.EE (t':=s.toks) (r.rep k.toNat) (by rw[len_rep,NN];exact hz),rfl,q _ I.fresh⟩
end
section
variable {κ:Type} [DecidableEq κ]
noncomputable def fW(kvs:List (κ×V))(k:κ):Option V:=(kvs.find? λkv=>decide (kv.1=k)).map (·.2)
noncomputable def putK(kvs:List (κ×V))(k:κ)(v:V):List (κ×V):=
 if (kvs.any λkv=>decide (kv.1=k))=true then kvs.map (λkv=>if kv.1=k then (kv.1,v) else kv) else kvs++[(k,v)]
theorem iJ{p:κ×V}{r:List (κ×V)}{k:κ}(e:p.1=k):fW (p::r) k=some p.2:=by simp[fW,M5,e]
theorem iD{p:κ×V}{r:List (κ×V)}{k:κ}(e:¬ p.1=k):fW (p::r) k=fW r k:=by simp[fW,M5,e]
theorem j_(k:κ):∀kvs:List (κ×V),(kvs.any λkv=>decide (kv.1=k))=(fW kvs k).isSome
 |[]=>rfl
 |p::r=>by
  rw[Ol];by_cases e:p.1=k
  ·simp only[iJ e,Li e,Bool.true_or,Option.isSome_some]
  ·rw[iD e,Lf e,Bool.false_or];exact j_ k r
theorem qE(kvs:List (κ×V))(k:κ)(v:V):(putK kvs k v).length<=kvs.length+1:=by
 unfold putK;split
 ·rw[K2];lia
 ·rw[K6,KQ,LS];lia
theorem Bo{kvs:List (κ×V)}{k:κ}(v:V)(h:fW kvs k=none):putK kvs k v=kvs++[(k,v)]:=by
 unfold putK;rw[j_,h];exact KJ (by decide)
theorem jQ.mI{u:Option Value}(r:jQ o u):o.isSome=u.isSome:=by
 cases o with
 |none=>cases u with
  |none=>rfl
  |some _=>exact (show False from r).elim
 |some _=>cases u with
  |none=>exact (show False from r).elim
  |some _=>rfl
theorem KV.val{kvs:List (κ×V)}{vs:List (κ×Value)}(r:KV kvs vs)(k:κ):jQ (fW kvs k) (valueAt vs k):=by
 unfold KV at r
 induction r with
 |nil=>exact True.intro
 |@cons p q ps qs h t ih =>
  obtain⟨h1,h2⟩:=h;by_cases e:p.1=k
  ·have e':q.1=k:=h1.symm.trans e;have b:valueAt (q::qs) k=some q.2:=by simp[valueAt,M5,e']
   rw[iJ e,b];exact h2
  ·have e':¬ q.1=k:=λz=>e (h1.trans z);have b:valueAt (q::qs) k=valueAt qs k:=by simp[valueAt,M5,e']
   rw[iD e,b];exact ih
theorem KV.any{kvs:List (κ×V)}{vs:List (κ×Value)}(r:KV kvs vs)(k:κ):(kvs.any λkv=>decide (kv.1=k))=vs.any λkv=>decide (kv.1=k):=by
 unfold KV at r
 induction r with
 |nil=>rfl
 |cons h t ih=>rw[Ol,Ol,ih,h.1]
theorem KV.JV{kvs:List (κ×V)}{vs:List (κ×Value)}(r:KV kvs vs)(k:κ)(ry:RelV y u):
  KV (kvs.map λkv=>if kv.1=k then (kv.1,y) else kv) (vs.map λkv=>if kv.1=k then (kv.1,u) else kv):=by
 unfold KV at r ⊢
 induction r with
 |nil=>exact .nil
 |@cons p q ps qs h t ih =>
  rw[Lp,Lp];refine .cons ?_ ih;obtain⟨h1,h2⟩:=h;by_cases e:p.1=k
  ·rw[KO e,KO (h1.symm.trans e)];exact⟨h1,ry⟩
  ·rw[KJ e,KJ (λz=>e (h1.trans z))];exact⟨h1,h2⟩
theorem KV.put{kvs:List (κ×V)}{vs:List (κ×Value)}(r:KV kvs vs)(k:κ)(ry:RelV y u):KV (putK kvs k y) (stored vs k u):=by
 unfold putK stored;rw[r.any k];by_cases e:(vs.any λkv=>decide (kv.1=k))=true
 ·rw[KO e,KO e];exact r.JV k ry
 ·rw[KJ e,KJ e];exact Paired.snoc r ⟨rfl,ry⟩
end
theorem v5{k:Key}(r:RelV (kV k) u):(cF P w).is k u=true:=by
 cases k with
 |inl i=>obtain⟨t,e⟩:=(show ∃t,u=Value.int i t from r);subst e;exact qU P w i t
 |inr x=>obtain⟨t,e⟩:=(show ∃t,u=Value.str x t from r);subst e;exact pM P w x t
theorem nk:∀{ks:List Key} {us:List Value},Vals (ks.map kV) us->ItemsAre (cF P w) ks us
 |[],_,r=>by rw[MK] at r;cases r;exact .nil
 |k::ks,_,r=>by
  rw[Lp] at r
  cases r with
  |cons h t=>exact .cons (v5 h) (nk t)
abbrev KT(H:Hp):List (List Key×V)->List (List Key×Addr×Value)->Prop:=Paired λp q=>p.1=q.1/\H q.2.1=some (.tup (p.1.map kV))/\RelV p.2 q.2.2
theorem KT.val{kvs:List (List Key×V)}{xs:List (List Key×Addr×Value)}(r:KT H kvs xs)(k:List Key):jQ (fW kvs k) ((atKey xs k).map (·.2)):=by
 induction r with
 |nil=>exact True.intro
 |@cons p q ps qs h t ih =>
  obtain⟨h1,_,h2⟩:=h;by_cases e:p.1=k
  ·have e':q.1=k:=h1.symm.trans e;have b:atKey (q::qs) k=some q.2:=by simp[atKey,M5,e']
   rw[iJ e,b];exact h2
  ·have e':¬ q.1=k:=λz=>e (h1.trans z);have b:atKey (q::qs) k=atKey qs k:=by simp[atKey,M5,e']
   rw[iD e,b];exact ih
section
variable {P:Program} {w:World} {H:Hp} {h:Heap} {a:Addr}
theorem D_{u:HO}(ok:i_ P w H h)(e:Rd H a u):bw P w H h a u:=e.ok ok
theorem yK(ok:i_ P w H h)(e:Rd H a (.dK kvs)):kvs.length<=sizeLine/\(a == sysModules)=false/\∃vs,KV kvs vs/\h.DictOf (cF P w) a vs:=
 show bw P w H h a (.dK kvs) from D_ ok e
theorem rC{ks:List Key}(ok:i_ P w H h)(e:H a=some (.tup (ks.map kV))):(tupleKind (cF P w)).is h ks a:=by
 obtain⟨_,its,r,o,h1,h2,n,h3,_⟩:=(show bw P w H h a (.tup (ks.map kV)) from ok a _ e);exact⟨o,its.toArray,n,h1,h2,h3,by simpa using nk r⟩
theorem zU{kvs:List (List Key×V)}(ok:i_ P w H h)(e:Rd H a (.dT kvs)):kvs.length<=sizeLine/\(a == sysModules)=false /\
  ∃xs,KT H kvs xs/\h.DictOfH (tupleKind (cF P w)) a xs:=by
 obtain⟨z,y,xs,r,o,es,ep,h1,h2,h3,h4,h5⟩:=(show bw P w H h a (.dT kvs) from D_ ok e);refine⟨z,y,xs,r,o,es,ep,h1,h2,h3,h4,λx hx=>?_,h5⟩;have all:∀{l:List (List Key×V)} {m:List (List Key×Addr×Value)},KT H l m->∀x∈m,(tupleKind (cF P w)).is h x.1 x.2.1:=by
  intro l m q
  induction q with
  |nil=>intro x hx;exact nomatch hx
  |@cons p q ps qs hq t ih =>
   intro x hx;rcases KL.mp hx with e|hx
   ·subst e;exact rC ok (by rw[<- hq.1];exact hq.2.1)
   ·exact ih x hx
 exact all r x hx
end
def m8(H:Hp)(a:Addr)(y:V)(r:Option V):Prop:=
 (∃kvs k,Rd H a (.dK kvs)/\y=kV k/\r=fW kvs k)\/∃kvs k b,Rd H a (.dT kvs)/\y=.ref b/\H b=some (.tup (k.map kV))/\r=fW kvs k
theorem m8.k{a:Addr}{k:Key}(e:H a=some (.dK kvs)):m8 H a (kV k) (fW kvs k):=.inl ⟨kvs,k,.inl e,rfl,rfl⟩
section
variable {X:Cx} {pins:List (Addr×Obj)} {σ:St} {H:Hp} {s:Shared} {a:Addr} {y v:V} {u r:Value} {o:Option V} {A:Around} {E:Value->Shared->Prop}
theorem Inv.big(I:Inv X pins σ H s):sysModules<s.heap.objs.size:=by
 have h:mainGlobals<s.heap.objs.size:=(I.mod.glob.keeps I.bk).lt;exact NO (by decide) h
theorem wF(hu:A.units+1<cLine)(I:Inv X pins σ H s)(g:m8 H a y (some v))(ry:RelV y u)(h:∀w' s',Inv X pins σ H s'->RelV v w'->Q w' s'):
  wpAny (model X.prog X.w) A (getItem (.ref a) u) Q E s:=by
 rcases g with ⟨kvs,k,e,ey,l⟩|⟨kvs,k,b,e,ey,eb,l⟩
 ·subst ey;obtain⟨z,hd,vs,rel,dd⟩:=yK I.bg e;obtain⟨w',hw,rw'⟩:=jQ.some_of (v:=v) (o:=valueAt vs k) (by rw[l];exact rel.val k)
  exact wpAny_getItem_of (v5 ry) dd.mapOf hw (h w' _ (I.tok _) rw')
 ·subst ey
  cases (show u=Value.ref b from ry)
  obtain⟨z,hd,xs,rel,dd⟩:=zU I.bg e;obtain⟨w',hw,rw'⟩:=jQ.some_of (v:=v) (o:=(atKey xs k).map (·.2)) (by rw[l];exact rel.val k)
  obtain⟨p,hp,hp2⟩:=Lc.mp hw;refine wpAny_getItem_heap (tupleKind_room_in1 hu) (rC I.bg eb) dd hp ?_;rw[hp2];exact h w' _ (I.tok _) rw'
theorem Cz(hu:A.units+1<cLine)(I:Inv X pins σ H s)(g:m8 H a y o)(ry:RelV y u)(h:∀s',Inv X pins σ H s'->Q (.bool (!o.isSome)) s'):
  wpAny (model X.prog X.w) A (compareOp .NotIn u (.ref a)) Q E s:=by
 rcases g with ⟨kvs,k,e,ey,l⟩|⟨kvs,k,b,e,ey,eb,l⟩
 ·subst ey;obtain⟨z,hd,vs,rel,dd⟩:=yK I.bg e;refine wpAny_notIn_of (v5 ry) hd dd.mapOf ?_;rw[<- (rel.val k).mI,<- l];exact h _ (I.tok _)
 ·subst ey
  cases (show u=Value.ref b from ry)
  obtain⟨z,hd,xs,rel,dd⟩:=zU I.bg e;refine wpAny_notIn_heap (tupleKind_room_in1 hu) (rC I.bg eb) hd dd ?_;have q:=(rel.val k).mI;rw[Option.isSome_map] at q;rw[<- q,<- l];exact h _ (I.tok _)
theorem EB{H':Hp}{h':Heap}{vs:List (Key×Value)}(z:kvs.length<=sizeLine)(hd:(a == sysModules)=false)(rel:KV kvs vs)(dd:h'.DictOf (cF P w) a vs):
  bw P w H' h' a (.dK kvs):=⟨z,hd,vs,rel,dd⟩
end
def yM(i:Expr):Prop:=∀ov iv,subscripted i false ov iv=operate [ov,iv] (getItem ov iv)
theorem uS{prog:Program}{A:Around}{E:Value->Shared->Prop}{s:Shared}{env:Env}{value slice:Expr}{pos:Pos}{T id:String}
  (hl:typeLookup (.type T) "__getitem__"=pure (some (.builtin id))) (hs:yM slice)
  (h:wpAny (model prog w) A (eval value env) (λo s₁=>wpAny (model prog w) A (eval slice env) (λi s₂=>s₂.TypeIs o T/\wpAny (model prog w) A (getItem o i) Q E s₂) E s₁) E s) :
  wpAny (model prog w) A (eval (.Subscript value slice pos) env) Q E s:=by
 refine Subscript_ (LQ h (λo s₁ h₁=>LQ h₁ (λi s₂ h₂=>?_) λ_ _ x=>x) λ_ _ x=>x);obtain⟨hT,h₂⟩:=h₂;unfold subscriptTail;refine K4 ?_;rw[getitemInPython_of_ne hT.not_modules];refine K4 (wpAny_specialOf hT hl ?_);have fin:wpAny (model prog w) A (subscripted slice false o i) (λr s₃=>wpAny (model prog w) A (letTemporaryGo value o r >>= λ_=>pure r) Q E s₃) E s₂:=by
  rw[hs o i];exact wpAny_operating (LQ h₂ (λr s₃ h₃=>K4 (wpAny_letTemporaryGo (KR h₃))) λ_ _ x=>x)
 first
  |exact KR (K4 fin)
  |exact K4 (KR (K4 fin))
  |exact K4 fin
theorem qO{X:Cx}{s:Shared}{a:Addr}(I:Inv X pins σ H s)(g:m8 H a y o):s.TypeIs (.ref a) "dict":=by
 rcases g with ⟨kvs,k,e,_,_⟩|⟨kvs,k,b,e,_,_,_⟩
 ·obtain⟨_,_,vs,_,dd⟩:=yK I.bg e;exact dd.typeIs
 ·obtain⟨_,_,xs,_,dd⟩:=zU I.bg e;exact dd.typeIs
def pX(td ty:TE):TE:=λσ H Q=>td σ H λx H1=>ty σ H1 λy H2=>∃a v,x=.ref a/\m8 H2 a y (some v)/\Q v H2
section
variable {X:Cx} {o i e value:Expr} {pos pos' tpos:Pos} {td ty tv:TE}
theorem Cr(hu:X.A.units+1<cLine)(ho:PE X o td)(hi:PE X i ty)(hs:yM i):PE X (.Subscript o i pos) (pX td ty):=by
 intro pins s σ H Q I h;refine uS PySem.F.slot_dict_getitem.lookup hs (bS (ho pins s σ H _ I h) λu s1 ⟨x,H1,I1,rx,q1⟩=>bS (hi pins s1 σ H1 _ I1 q1) λiv s2 hq55=>?_);obtain⟨y,H2,I2,ry,a,v,ex,g,q2⟩:=hq55;subst ex;obtain rfl:u=Value.ref a:=rx;exact⟨qO I2 g,wF hu I2 g ry λw' s3 I3 rw'=>⟨v,H2,I3,rw',q2⟩⟩
end
def gv(kvs more:List (Key×V)):List (Key×V):=more.foldl (λacc kv=>putK acc kv.1 kv.2) kvs
theorem KV.merge:∀{more:List (Key×V)} {rs:List (Key×Value)} {kvs:List (Key×V)} {vs:List (Key×Value)},KV more rs->KV kvs vs->KV (gv kvs more) (merged vs rs):=by
 intro more rs kvs vs r;unfold KV at r
 induction r generalizing kvs vs with
 |nil=>intro q;exact q
 |@cons p q ps qs h t ih =>
  intro r0;have e:KV (putK kvs p.1 p.2) (stored vs q.1 q.2):=by
   have:=r0.put p.1 h.2;rw[<- h.1];exact this
  exact ih e
theorem hG:∀(more kvs:List (Key×V)),(gv kvs more).length<=kvs.length+more.length
 |[],kvs=>by show kvs.length<=kvs.length+0;lia
 |p::r,kvs=>by
  have h1:=hG r (putK kvs p.1 p.2);have h2:=qE kvs p.1 p.2;show (gv (putK kvs p.1 p.2) r).length<=_;rw[KQ];lia
end L2
namespace Att
open PySem PySem.W PySem.Calls PyProof.Rows
theorem jB{P:Params}{h:Heap}:∀(ns:List Int) (vs:List Value),WellAll P h vs (ns.map WData.int)->IntsAre vs ns:=by
 intro ns
 induction ns with
 |nil =>
  intro vs w;rw[List.map_nil] at w;cases w;exact .nil
 |cons n ns ih =>
  intro vs w;rw[List.map_cons] at w
  cases w with
  |cons a b =>
   cases a;exact .cons _ _ (ih _ b)
theorem xo{l:OpenLaw}{n:Nat}(hn:l.most=some n){P:Params}{h:Heap}{args:List WData}{vals:List Value}
  (hpre:l.row.toRowW.claim.pre args=true) (hwl:WellAll P h vals args) :
  ∃a vs ns,vals=[Value.ref a]/\args=[WData.list (ns.map WData.int)]/\h.get? a=some {cls:=.type "list",data:=.seq vs.toArray}/\IntsAre vs ns/\ns.length<=n:=by
 have hsh:WShape.hasAll [] args [.list .int]=true:=(pre_splitW hpre).1;have hc:l.pre.holds [] {args:=args}=true:=(pre_splitW hpre).2;obtain⟨d,r,rfl,h1,h2⟩:=hasAllW_cons hsh;obtain rfl:=hasAllW_nil h2;obtain⟨xs,rfl,h3⟩:=hasW_list h1;obtain⟨ns,rfl⟩:=items_int h3;have hlen:ns.length<=n:=by
  unfold OpenLaw.pre at hc;have h4:(WTm.not (.lt (.lit (.int (n:Int))) (.len (.arg 0)))).holds [] {args:=[.list (ns.map .int)]}=true:=by
   have h4:=(holds_andW hc).1;rw[hn] at h4;exact h4
  have h5:=condW_of h4 (w_not (w_lt w_lit (w_len_list (w_arg rfl))));rw[List.length_map] at h5;refine Nat.le_of_not_lt λq=>?_;have q':(n:Int)<((ns.length:Nat):Int):=by lia
  first
   | (rw[decide_eq_true q'] at h5;exact absurd h5 (by decide))
   | (simp at h5;lia)
 cases hwl with
 |cons w1 w2 =>
  cases w2
  cases w1 with
  |list ho hall=>exact⟨_,_,ns,rfl,rfl,ho,jB ns _ hall,hlen⟩
theorem wI(l:OpenLaw)(args:List WData):l.row.toRowW.claim.post args (.bool true) args=true:=
 postW_of (r:=l.row.toRowW) (X:=(true == true))
  (show WShape.has [] (.bool true) .bool=true by first|rfl|decide|simp[WShape.has,WShape.arms,WShape.armsAll])
  (show (WTm.eq .res (.lit (.bool true))).value [] {args:=args,res:=some (.bool true),after:=args}=some (.bool (true == true)) from w_eq_bool (w_res rfl) w_lit) rfl
theorem rg{l:OpenLaw}{n:Nat}{q:Program}{loose:List Str}{XP:(Str->Option Value)->Heap->Prop}{YP:World->Heap->Prop}{d:DefRec}
  (hn:l.most=some n) (hdf:d.params.defaults=[])
  (call:∀(w:World) (s₀ s₁:Shared) (mg mb:Str->Option Value) (fa:Addr) (o:Obj) (pm cd doc:Value) (a:Addr) (vs:List Value) (ns:List Int),
   Ground q loose [] XP w s₀ mg mb s₁.heap->YP w s₁.heap ->
   s₁.heap.get? fa=some o->o.data=.func (docDef d.name d.params d.body d.scope pm cd doc)->s₁.heap.CodeRec cd d.name->mg d.name=some (.ref fa) ->
   s₁.heap.get? a=some {cls:=.type "list",data:=.seq vs.toArray}->IntsAre vs ns->ns.length<=n->s₁.gens=#[] ->
   codeAny (model l.prog w) callerA (.call (.ref fa) ⟨[.ref a],[]⟩) (λr s'=>r=.ok (.ret (.bool true))/\OldK s₁.heap s'.heap/\s'.os=s₁.os/\AllBare s'.gens) s₁) :
  WalkO q loose XP YP l.row.toRowW d [] (λf vs=>PySem.call f vs):=by
 intro w s₀ s₁ mg mb G Y fa o pm cd doc dV kV ho hd fR hD hmg hg args vals as hpre hlay hrd hwl hlo;obtain rfl:dV=.none:=Dflts.none hD hdf;obtain rfl:kV=.none:=Dflts.noKw hD;obtain⟨a,vs,ns,rfl,rfl,hobj,hints,hlen⟩:=xo hn hpre hwl;refine enter_call (codeAny_mono (call w s₀ s₁ mg mb fa o pm cd doc a vs ns G Y ho (fd_plain hd) fR hmg hobj hints hlen hg) λr s' hq=>?_);obtain⟨rfl,h2,h3,h4⟩:=hq;exact⟨.inl ⟨.bool true,.bool true,[],rfl,λ_=>rfl,.bool true,wI l _,λ_=>⟨List.Pairwise.nil,λ_ hm=>(nomatch hm)⟩⟩,h2,h3,h4⟩
end Att
namespace L2
open PySem PySem.Spec PyProof.Rows
variable{P prog q:Program}{K:W.Frag}{N ON loose own:List Str}{mb mg:Str->Option Value}{base h:Heap}{b e elt iter tg:Expr}{o:HO}{t:String}{w:World}{CX:pe}{a f p:Addr}{fd:FuncData}{qual x:Str}{sp:Sp}{ns:List Int}{X:Cx}{st:Stmt}{H H':Hp}{ws xs:List V}{osc scope:Scope}{env:Env}{cells:List (Str×Addr)}{α:Type}{E Q:Value->Shared->Prop}{es ifs:List Expr}{g:TG}{tc:TT}{te tl:TE}{pins:List (Addr×Obj)}{σ:St}{RR:Value->Addr->Result->Shared->Prop}{i j:Nat}{r:List V->Hp->VK->Prop}{ta:TA}{items:Array Value}{ex fp:List Addr}{lo:Int}{its its2:List Value}
theorem n9:∀{vs:List Value} {ns:List Int},IntsAre vs ns->Vals (ns.map V.int) vs
 |_,_,.nil=>.nil
 |_,_,.cons n t h=>.cons ⟨t,rfl⟩ (n9 h)
structure iS (q:Program) (K:W.Frag):Prop where
 nt:W.noTabs K=true
 nd:((bR K).map (·.2.1)).Nodup
 fd:∀x∈d8,W.tabIn K x=none\/((recsOf q).find? (λe=>e.name == x)).isSome=true
theorem iS.at{mean:ExcName->Option Value}(L:iS q K)(T:Top q loose mean mg mb h)(X:K.In h):∀t∈bR K,W.CodeHd h t.1 t.2.1/\h.get? t.2.1=some (W.tabObj #[]):=λt ht=>by
 unfold bR at ht;obtain⟨x,hx,e⟩:=NK.mp ht;obtain⟨p,e1,e2⟩:=Lc.mp e;obtain⟨c,Pt⟩:=p;subst e2;rcases L.fd x hx with z|z
 ·rw[z] at e1;cases e1
 ·obtain⟨d,hd⟩:=Px.mp z;exact W.tab_of T X hd e1
noncomputable def oo:List (Addr×Addr×Str)->Addr->Option HO
 |[],_=>none
 |t::r,b=>if b=t.2.1 then some (.Ad #[.str t.2.2 0]) else oo r b
theorem gE{b:Addr}:∀{l:List (Addr×Addr×Str)},oo l b=some o->∃t∈l,b=t.2.1/\o=.Ad #[.str t.2.2 0]
 |t::r,e=>by
  unfold oo at e;by_cases z:b=t.2.1
  ·rw[KO z] at e;cases e;exact⟨t,.head _,z,rfl⟩
  ·rw[KJ z] at e;obtain⟨u,hu,q⟩:=gE e;exact⟨u,.tail _ hu,q⟩
theorem p8{t:Addr×Addr×Str}:∀{l:List (Addr×Addr×Str)},(l.map (·.2.1)).Nodup->t∈l->oo l t.2.1=some (.Ad #[.str t.2.2 0])
 |u::r,nd,m=>by
  obtain⟨n1,n2⟩:=Mm.mp nd;unfold oo;rcases KL.mp m with rfl|m
  ·rw[KO rfl]
  ·rw[KJ λz=>n1 (L3.mpr ⟨t,m,z⟩)];exact p8 n2 m
theorem Be{k:Nat}{fa:Addr}{s₁:Shared}{vs:List Value}
  (KX:K.In s₁.heap) (hns:s₁.heap.Ns mainGlobals mg) (hb:s₁.heap.Ns builtinsNs mb) (hbb:∀x:Str,x≠"__name__"->mb x=bootBuiltins x) (hlim:s₁.heap.NoLimit) (hbm:FY mg s₁.heap)
  (hT:∀t∈bR K,W.CodeHd s₁.heap t.1 t.2.1/\s₁.heap.get? t.2.1=some (W.tabObj #[])) (L:iS q K) (hg:s₁.gens=#[])
  (ha:s₁.heap.get? a=some {cls:=.type "list",data:=.seq vs.toArray}) (hi:IntsAre vs ns) (hl:ns.length<=sizeLine) (hr:bQ k callerA)
  (F:∀base:Heap,K.In base->base.Ns mainGlobals mg->gR P w K mg base CX k fa fd [x] sp) (hbind:∀(s:Shared) (u:Value),BindsTo s fd ⟨[u],[]⟩ [(x,u)])
  (jH:∀H:Hp,True->a_ K H a (ns.map V.int)->sp [.ref a] H (λv _=>v=.bl true) λ_ _ _=>False)
  (hCX:∀H e s',CX [] H s₁ (λ_ _ _=>False) e s'->False) :
  codeAny (model P w) callerA (.call (.ref fa) ⟨[.ref a],[]⟩) (λr s'=>r=.ok (.ret (.bool true))/\OldK s₁.heap s'.heap/\s'.os=s₁.os/\AllBare s'.gens) s₁:=by
 have rv:=n9 hi;have lenV:=hi.length;have naT:∀t∈bR K,t.2.1≠a:=λt ht z=>by
  have e:=(hT t ht).2;rw[z,ha] at e;cases e
 let oS:Obj:={cls:=.type "list",data:=.seq vs.toArray}
 have core:∀S:Option HO,(S=none\/S=some (.i9 oS (.lst (ns.map V.int))))->(S≠none->K.lookup a=none)->a_ K (λb=>if b=a then S else oo (bR K) b) a (ns.map V.int) ->
   codeAny (model P w) callerA (.call (.ref fa) ⟨[.ref a],[]⟩) (λr s'=>r=.ok (.ret (.bool true))/\OldK s₁.heap s'.heap/\s'.os=s₁.os/\AllBare s'.gens) s₁:=by
  intro S hS hK hSq;generalize hH:(λb=>if b=a then S else oo (bR K) b)=H at hSq
  have hA:H a=S:=by rw[<- hH];exact KO rfl
  have hB:∀b,b≠a->H b=oo (bR K) b:=λb z=>by rw[<- hH];exact KJ z
  have free:∀{b:Addr} {o:Obj},s₁.heap.get? b=some o->o≠W.tabObj #[]->(b=a->S=none)->H b=none:=λ{b o} e hn hz=>by
   by_cases z:b=a
   ·rw[z,hA];exact hz z
   ·rw[hB b z]
    cases q:oo (bR K) b with
    |none=>rfl
    |some u =>
     obtain⟨t,ht,e1,_⟩:=gE q;have e2:=(hT t ht).2;rw[<- e1,e] at e2;exact absurd (Option.some.inj e2) hn
  have nsK:∀{b:Addr} {m:Str->Option Value},s₁.heap.Ns b m->(lZ s₁.heap H).Ns b m:=λ{b m} ⟨o,es,ep,e,d,r⟩=>⟨o,es,ep,i4 e (free e (λz=>by rw[z] at d;cases d) λz=>by rw[z,ha] at e;cases e;cases d),d,r⟩
  have hKb:K.In (lZ s₁.heap H):=λb o e=>i4 (KX b o e) (free (KX b o e) (λz=>by
    have h2:=Mw.mp L.nt (b,o) (W.mem_of_lookupK e);subst z;exact absurd (show false=true from h2) KP) λz=>by
    cases q:S with
    |none=>rfl
    |some u=>rw[z,hK (by rw[q];simp)] at e;cases e)
  have fR:∀t∈bR K,W.CodeHd (lZ s₁.heap H) t.1 t.2.1:=λt ht=>by
   obtain⟨o,us,fl,tf,fg,tg,inF,tx,tt,e1,e2,r⟩:=(hT t ht).1;exact⟨o,us,fl,tf,fg,tg,inF,tx,tt,i4 e1 (free e1 (λz=>by rw[z] at e2;cases e2) λz=>by rw[z,ha] at e1;cases e1;exact absurd (Value.type.inj e2) (by decide)),e2,r⟩
  have hbm':FY mg (lZ s₁.heap H):=by
   obtain⟨bm,ob,b1,b2,b3,b4,b5⟩:=hbm;exact⟨bm,ob,b1,b2,i4 b3 (free b3 (λz=>by rw[z] at b4;cases b4) λz=>by rw[z,ha] at b3;cases b3;exact absurd (Value.type.inj b4) (by decide)),b4,b5⟩
  have bg:i_ P w H s₁.heap:=λb u e=>by
   by_cases z:b=a
   ·rw[z,hA] at e;rcases hS with h0|h0
    ·rw[h0] at e;cases e
    ·rw[h0] at e;cases e;subst z;exact⟨ha,by rw[K2];exact hl,vs,_,rv,ha⟩
   ·rw[hB b z] at e;obtain⟨t,ht,e1,e2⟩:=gE e;subst e2;exact⟨#[],by rw[e1];exact (hT t ht).2,trivial,λpos cv c=>by cases (show (none:Option Value)=some cv from c)⟩
  have hM:Mod K mg (lZ s₁.heap H):=⟨hKb,nsK hns,⟨mb,nsK hb,hbb⟩,let ⟨mc,h1,h2⟩:=hlim;⟨mc,nsK h1,h2⟩,fR,hbm'⟩
  have e0:De P w K mg (lZ s₁.heap H) callerA [] s₁ H:=⟨rfl,hM,λb o e=>C5 e,Q2 (wJ _ _),trivial,λb hb=>absurd (show b∈([]:List Addr) from hb) (by simp),bg,.of_eq hg,λt ht=>⟨#[],by
   rw[hB _ (naT t ht),p8 L.nd ht,OQ]⟩⟩
  refine codeAny_mono ((F _ hKb (nsK hns)).run callerA [] s₁ H ⟨[.ref a],[]⟩ [.ref a] [.ref a] _ _ hr e0 (hbind s₁ (.ref a)) (.cons rfl .nil) (jH H trivial hSq)) λr s' h=>?_
  cases r with
  |error e=>exact (hCX H e s' h).elim
  |ok fl =>
   cases fl with
   |next=>exact False.elim h
   |brk=>exact False.elim h
   |cont=>exact False.elim h
   |ret u =>
    obtain⟨v,H',os,bare,un,hok',r',qv⟩:=h;have q':v=.bl true:=qv;subst q';obtain rfl:u=Value.bool true:=r';have each:∀b o,s₁.heap.get? b=some o->s'.heap.get? b=some o\/∃c,W.CodeHd s₁.heap c b/\o=W.tabObj #[]/\∃ps,s'.heap.get? b=some (W.tabObj ps):=λb o e=>by
     cases qb:H b with
     |none=>exact .inl (un.keep b o e qb (by intro z;exact absurd (show b∈([]:List Addr) from z) (by simp)) (by simp))
     |some u =>
      by_cases z:b=a
      ·rw[z,hA] at qb;rcases hS with h0|h0
       ·rw[h0] at qb;cases qb
       ·have z2:=un.ot a oS _ (by rw[hA,h0])
        obtain⟨e2,_⟩:=hok' a _ z2;rw[z,ha] at e;cases e;exact .inl (by rw[z];exact e2)
      ·have qt:=qb;rw[hB b z] at qt;obtain⟨t,ht,e1,e2⟩:=gE qt;obtain⟨h1,h2⟩:=hT t ht;rw[<- e1] at h1 h2;rw[e] at h2;cases h2;subst e2;obtain⟨more,e3⟩:=un.me b _ qb;obtain⟨qs,e4,_⟩:=hok' b _ e3;exact .inr ⟨_,h1,rfl,qs,e4⟩
    refine⟨rfl,⟨λb o e=>?_,λb o e=>?_⟩,os,bare⟩
    ·rcases each b o e with z|⟨c,hc,z,ps,hp⟩
     ·exact .inl z
     ·subst z;exact .inr (.inl ⟨(hc.tab e).isCodeTable,rfl,#[],ps,rfl,by rw[Array.empty_append];exact hp⟩)
    ·rcases each b o e with z|⟨c,hc,z,ps,hp⟩
     ·exact⟨o,z⟩
     ·exact⟨_,hp⟩
 cases hk:K.lookup a with
 |some o =>
  have e:=KX a o hk;rw[ha] at e;cases e;exact core none (.inl rfl) (λz=>absurd rfl z) (.inr ⟨_,vs.toArray,_,hk,rfl,rfl,rfl,by rw[KC,lenV];exact hl,by simpa using rv⟩)
 |none=>exact core (some (.i9 oS (.lst (ns.map V.int)))) (.inr rfl) (λ_=>hk) (.inl (.inr ⟨oS,KO rfl⟩))
theorem Dr{l:W.OpenLaw}{n k:Nat}{XP:(Str->Option Value)->Heap->Prop}{YP:World->Heap->Prop}{d:DefRec}{K:Params->W.Frag}{CX:World->pe}{sp:World->Sp}
  (hn:l.most=some n) (hn2:n<=sizeLine) (hdf:d.params.defaults=[]) (hr:bQ k callerA)
  (hY:∀(w:World) (h:Heap),YP w h->(K w.params).In h)
  (F:∀(w:World) (mg:Str->Option Value) (fa:Addr) (h:Heap),(K w.params).In h->h.Ns mainGlobals mg->mg d.name=some (.ref fa) ->
   ∃fd:FuncData,(∀(s:Shared) (u:Value),BindsTo s fd ⟨[u],[]⟩ [(x,u)]) /\
    ∀base:Heap,(K w.params).In base->base.Ns mainGlobals mg->gR l.prog w (K w.params) mg base (CX w) k fa fd [x] (sp w))
  (jH:∀(w:World) (H:Hp) (a:Addr) (ns:List Int),ns.length<=n->True->a_ (K w.params) H a (ns.map V.int)->sp w [.ref a] H (λv _=>v=.bl true) λ_ _ _=>False)
  (hCX:∀(w:World) (H:Hp) (s:Shared) (e:Value) (s':Shared),CX w [] H s (λ_ _ _=>False) e s'->False) (hL:∀(w:World) (h:Heap),(K w.params).In h->iS q (K w.params)) :
  W.WalkO q loose XP YP l.row.toRowW d [] (λf vs=>PySem.call f vs):=by
 refine Att.rg hn hdf λw s₀ s₁ mg mb fa o pm cd doc a vs ns G Y ho hd fR hmg hobj hints hlen hg=>?_;have KX:=hY w _ Y;obtain⟨fd,hb,hF⟩:=F w mg fa _ KX G.T.g hmg;have L:=hL w _ KX;exact Be KX G.T.g G.T.b G.T.builtins G.T.nolimit G.T.bmain (L.at G.T KX) L hg hobj hints (KA hlen hn2) hr hF hb (λH hO hS=>jH w H a ns hlen hO hS) λH e s'=>hCX w H s₁ e s'
noncomputable def d4(s:Stmt):Arguments:=match s with
 |.FunctionDef _ a _ _ _ _ _ _ _ _=>a
 |_=>{posonlyargs:=[],args:=[],vararg:=none,kwonlyargs:=[],kw_defaults:=[],kwarg:=none,defaults:=[]}
noncomputable def bV(s:Stmt):List Stmt:=match s with
 |.FunctionDef _ _ b _ _ _ _ _ _ _=>b
 |_=>[]
noncomputable def ab(s:Stmt):Scope:=match s with
 |.FunctionDef _ _ _ _ _ _ sc _ _ _=>sc
 |_=>{kind:=.function,names:=[],isGenerator:=false,isCoroutine:=false}
abbrev aS:pe:=λ_ _ _ _ _ _=>False
abbrev E0:XK:=λ_ _ _=>False
theorem DX:Passes aS X E0:=λ_ _ _ _ _ _ _ h=>h.elim
structure DE (K:W.Frag) (x qual:Str) (st:Stmt) (f:Addr) (fd:FuncData):Prop where
 ex:∃(oc:Value) (od:Option Addr) (kV doc pm:Value) (an:Option Addr) (cdv ct:Value) (osl:Array (Option Value)),
  fd=W.fnOf x qual (d4 st) (bV st) (ab st) .none kV doc pm an cdv ct/\K.lookup f=some ⟨oc,od,.func fd,osl⟩/\W.codeIn K cdv qual=true
 kp:W.keepIn K (.ref f)=true
section
variable {P:Program} {w:World} {K:W.Frag} {mg:Str->Option Value} {base:Heap}
theorem DE.ok{ps:List Str}{k:Nat}(F:DE K x qual st f fd)(S:ax N ps (ab st))(len:∀vs H Q E,sp vs H Q E->vs.length=ps.length)
  (hbody:∀(cdv:Value) (A:Around) (outer:List Env) (s:Shared) (H:Hp) (vs:List V) (Q:VK) (E:XK),bQ k (A.deeper (envOfC qual (ab st) s.heap.objs.size f cdv))->sp vs H Q E ->
   ∃t,rS (lH aS P w K mg base N qual (ab st) f cdv A outer s H E).BQ (bV st) t/\t {nx:=λ_ H'=>Q .aO H',rt:=Q} (start N vs) H):gR P w K mg base aS (k+1) f fd ps sp:=by
 obtain⟨oc,od,kV,doc,pm,an,cdv,ct,osl,rfl,lk,fR⟩:=F.ex;refine Em lk fR S len λA outer s H vs Q E hr jH=>?_;obtain⟨t,h,q⟩:=hbody cdv A outer s H vs Q E hr jH;exact⟨t,h.BQ,q⟩
theorem DE.binds{ps:List Str}(F:DE K x qual st f fd)
  (h:∀(kV doc pm:Value) (an:Option Addr) (cdv ct:Value) (us:List Value),us.length=ps.length->bindArgs (W.fnOf x qual (d4 st) (bV st) (ab st) .none kV doc pm an cdv ct) ⟨us,[]⟩=pure (ps.zip us)):Binds K fd ps []:=by
 obtain⟨oc,od,kV,doc,pm,an,cdv,ct,osl,rfl,lk,fR⟩:=F.ex;exact .all (h kV doc pm an cdv ct)
theorem sP{oc:Value}{od an:Option Addr}{osl:Array (Option Value)}{kV doc pm cdv ct:Value}(l:K.lookup f=some ⟨oc,od,.func (W.fnOf x qual (d4 st) (bV st) (ab st) .none kV doc pm an cdv ct),osl⟩)
  (c:W.codeIn K cdv qual=true) (k:W.keepIn K (.ref f)=true):DE K x qual st f (W.fnOf x qual (d4 st) (bV st) (ab st) .none kV doc pm an cdv ct):=⟨⟨oc,od,kV,doc,pm,an,cdv,ct,osl,rfl,l,c⟩,k⟩
end
theorem aN{A:Around}{k:Nat}(hr:bQ k A):A.units+1<cLine:=LG (Nat.add_le_add_left (by decide:1<=64) _) hr.units
section
variable {X:Cx}
theorem pv(i:Nat){pos:Pos}(hN:autoParam (X.N[i]?=some x) ℜ0)(hv:autoParam (IT X.env.scope x) ℜ4)(hd:autoParam ((x ==("__debug__":Str))=false) ℜ1)
  (fR:autoParam ((x ==("__classdict__":Str))=false) ℜ1):PE X (.Name x pos) (wZ i):=GG hN hv hd fR
end
def tG(H H':Hp):Prop:=∀b o,H b=some o->H' b=some o
theorem tG.refl(H:Hp):tG H H:=λ_ _ h=>h
theorem tG.seq(e:tG H H')(h:a_ K H a xs):a_ K H' a xs:=by
 rcases h with (h|⟨o,h⟩)|h
 ·exact .inl (.inl (e _ _ h))
 ·exact .inl (.inr ⟨o,e _ _ h⟩)
 ·exact .inr h
section
variable {κ:Type} [DecidableEq κ]
theorem BA{kvs:List (κ×V)}{k:κ}{v:V}(h:fW kvs k=some v):k∈kvs.map (·.1):=by
 have q:(kvs.any λkv=>decide (kv.1=k))=true:=by
  rw[j_,h]
  all_goals rfl
 obtain⟨p,hp,e⟩:=List.any_eq_true.mp q;exact L3.mpr ⟨p,hp,LC e⟩
end
noncomputable def eA(cells:List (Str×Addr)):List (Str×NameKind)->List (Str×Addr)->List (Str×Addr)
 |[],acc=>acc
 | (n,k)::r,acc=>if k=.free then eA cells r ((n,(cells.lookup n).getD 0)::acc) else eA cells r acc
theorem gS(h:∀x∈scope.names,x.2=.free->∃c,env.cells.lookup x.1=some c):closureFor scope env=pure (eA env.cells scope.names []):=by
 have all:∀(l:List (Str×NameKind)) (acc:List (Str×Addr)),(∀x∈l,x.2=.free->∃c,env.cells.lookup x.1=some c) ->
   (forIn l acc λ(x:Str×NameKind) (cs:List (Str×Addr))=>(match x with | (name,kind)=>if (kind == NameKind.free)=true then (do let c <- cellOf env name;pure (ForInStep.yield ((name,c)::cs))) else pure (ForInStep.yield cs):Sem (ForInStep (List (Str×Addr)))))=(pure (eA env.cells l acc):Sem (List (Str×Addr))):=by
  intro l
  induction l with
  |nil=>intro acc _;rfl
  |cons x r ih =>
   intro acc hl;obtain⟨n,k⟩:=x;rw[Nn];by_cases hk:k=.free
   ·subst hk;obtain⟨c,hc⟩:=hl (n,.free) KG rfl;have e:cellOf env n=pure c:=by unfold cellOf;rw[hc]
    simp only[Md,MV,e,eA,pure_bind];rw[ih _ λy hy=>hl y (KI _ hy),hc];rfl
   ·have hb:(k == NameKind.free)=false:=by simpa using hk
    simp only[hb,ML,MX,eA,hk,pure_bind];exact ih _ λy hy=>hl y (KI _ hy)
 unfold closureFor;simp only[bind_pure];exact all scope.names [] h
theorem js:∀{l:List (Str×NameKind)} {acc:List (Str×Addr)},(∀x∈l,x.2=.free->∃c,cells.lookup x.1=some c)->(∀x c,acc.lookup x=some c->cells.lookup x=some c) ->
  ∀x c,(eA cells l acc).lookup x=some c->cells.lookup x=some c
 |[],_,_,h,x,c,e=>h x c e
 | (n,k)::r,acc,hl,h,x,c,e=>by
  unfold eA at e;have hr:∀y∈r,y.2=.free->∃c,cells.lookup y.1=some c:=λy hy=>hl y (KI _ hy)
  split at e
  ·rename_i hk;refine js hr (λy d q=>?_) x c e;rw[Mn] at q
   split at q
   ·rename_i hy;obtain⟨c',hc'⟩:=hl (n,k) KG hk;have hy':y=n:=by simpa using hy
    subst hy';simp only[] at hc';rw[hc'] at q ⊢;exact q
   ·exact h y d q
  ·exact js hr h x c e
theorem jk:∀{l:List (Str×NameKind)} {acc:List (Str×Addr)},(∃c,acc.lookup x=some c)->∃c,(eA cells l acc).lookup x=some c
 |[],_,h=>h
 | (n,k)::r,acc,h=>by
  unfold eA;split
  ·refine jk ?_;rw[Mn];split
   ·exact⟨_,rfl⟩
   ·exact h
  ·exact jk h
theorem gH:∀{l:List (Str×NameKind)} {acc:List (Str×Addr)},(x,NameKind.free)∈l->∃c,(eA cells l acc).lookup x=some c
 |[],_,h=>by simp at h
 | (n,k)::r,acc,h=>by
  unfold eA;rcases KL.mp h with e|h
  ·cases e;rw[KO rfl];exact jk ⟨(cells.lookup x).getD 0,by rw[Mn];simp⟩
  ·split
   ·exact gH h
   ·exact gH h
def aP(X:Cx)(scope:Scope)(N:List Str)(C:Addr)(s:Shared)(H:Hp)(fp:List Addr):Cx where
 prog:=X.prog
 w:=X.w
 K:=X.K
 mg:=X.mg
 base:=X.base
 A:=X.A
 N:=N
 s₀:=s
 H₀:=H
 env:=compEnvC scope (eA X.env.cells scope.names []) C X.env
 outer:=X.stack
 stack:=X.stack
 ex:=fp
 calm:=X.calm
 fn:=λ_=>false
 pn:=[]
 xe:=λ_ _=>False
structure aA (osc:Scope) (ON:List Str) (scope:Scope) (own N:List Str):Prop where
 kind:scope.kind=.function
 nd:N.Nodup
 len:N.length=own.length+ON.length
 lS:∀y∈scope.names,y.2≠.cell
 loc:∀y∈scope.names,y.2=.local->scope.names.lookup y.1=some .local
 free:∀y∈scope.names,y.2=.free->osc.names.lookup y.1=some .cell\/osc.names.lookup y.1=some .free
 out:∀p∈ON.zip (N.drop own.length),p.1=p.2\/scope.names.lookup p.2=none
 own:∀x∈N.drop own.length,scope.names.lookup x≠some .local
theorem c_(x:Str)(hn:∀y∈scope.names,y.2≠.cell):((relabel scope env).names.lookup x=some .local->scope.names.lookup x=some .local) /\
  ((relabel scope env).names.lookup x=some .cell\/(relabel scope env).names.lookup x=some .free->scope.names.lookup x=some .free):=by
 unfold relabel;simp only;revert hn;generalize scope.names=l;intro hn
 induction l with
 |nil=>simp
 |cons y r ih =>
  obtain⟨n,k⟩:=y;have ih:=ih λy hy=>hn y (KI _ hy);have hk:k≠.cell:=hn (n,k) KG;rw[Lp];simp only;by_cases hc:(k == NameKind.free && env.scope.kind == ScopeKind.function && env.kindOf n == some NameKind.cell)=true
  ·rw[KO hc,Mn,Mn];have hf:k=.free:=by
    simp only[LK] at hc
    simpa using hc.1.1
   split
   ·subst hf;simp
   ·exact ih
  ·rw[KJ hc,Mn,Mn];split
   ·constructor
    ·exactλh=>h
    ·rintro (h|h)
     ·exact absurd (Option.some.inj h) hk
     ·exact h
   ·exact ih
def FZ(X:Cx)(ifs:List Expr)(t:TT):Prop:=
 ∀(pins:List (Addr×Obj)) (s:Shared) (σ:St) (H:Hp) (Q:Bool->Hp->Prop),Inv X pins σ H s->t σ H Q ->
  wpAny (model X.prog X.w) X.A (forIn ifs true λc r=>if r=true then do let ok <- isTrue c X.env (eval c X.env);pure (ForInStep.yield ok) else pure (ForInStep.yield r)) (TP X pins σ Q) X.xe s
def dh:TT:=λ_ H Q=>Q true H
theorem Dj:FZ X [] dh:=λ_ _ _ H _ I h=>wpAny_tests_nil ⟨H,I,h⟩
theorem BB{c:Expr}{t:TT}(h:PT X c t):FZ X [c] t:=λpins s σ H Q I hw=>wpAny_tests_one (h pins s σ H Q I hw)
theorem vT{M:Model}{A:Around}{s:Shared}{m:Sem α}{Q' Q:α->Shared->Prop}(h:wpAny M A m Q' (λ_ _=>False) s)(k:∀x s',Q' x s'->Q x s'):wpAny M A m Q E s:=LQ h k λ_ _ z=>z.elim
theorem mr{A:Around}{R:Result->Shared->Prop}{s:Shared}{target:Expr}{pos:Pos}{it acc:Value}{XE:Value->Shared->Prop}(I:Nat->Shared->Prop)(hx:∀x s',XE x s'->notedBy (model prog w) A env (λv s''=>R (.error v) s'') x s')
  (turn:∀n s,I n s->wpAny (model prog w) A (pyNext it) (λr s₁=>match r with
   |none=>R (.ok .next) s₁
   |some v=>wpAny (model prog w) A (letOwnedTupleGo target it v) (λ_ s₁'=>wpAny (model prog w) A (assign target env v) (λ_ s₂ =>
     wpAny (model prog w) A (forIn ifs true λc r=>if r=true then do let ok <- isTrue c env (eval c env);pure (ForInStep.yield ok) else pure (ForInStep.yield r)) (λok s₃ =>
      if ok=true then wpAny (model prog w) A (eval elt env) (λx s₄ =>
       wpAny (model prog w) A (call (.builtin "list.append") [acc,x]) (λ_ s₅=>∃m,m<n/\I m s₅) XE s₄) XE s₃
      else ∃m,m<n/\I m s₃) XE s₂) XE s₁') XE s₁) XE s)
  (n:Nat) (h:I n s):codeAny (model prog w) A (.compLoop (.ListComp elt [⟨target,iter,ifs,0⟩] scope pos) 0 it acc env) R s:=by
 refine codeAny_loop rfl I (λn s hI=>?_) n h;show wpAny _ A ((compTurn (.ListComp elt [⟨target,iter,ifs,0⟩] scope pos) 0 it acc env).onRaise (λx=>do noteFrame x env;theTreesLotGoes x)) _ _ s
 refine wpAny_noted ?_;rw[compTurn_list];refine K4 (OX (K4 (LQ (turn n s hI) (λr s₁ h₁=>?_) hx)))
 cases r with
 |none=>exact KR h₁
 |some v =>
  refine K4 (LQ h₁ (λ_ s₁' h₁'=>?_) hx);refine K4 (LQ h₁' (λ_ s₂ h₂=>K4 (LQ h₂ (λok s₃ h₃=>?_) hx)) hx)
  cases ok with
  |false=>exact KR ⟨rfl,h₃⟩
  |true =>
   exact K4 (K4 (LQ h₃ (λx s₄ h₄=>K4 (LQ h₄ (λ_ s₅ h₅=>KR (KR ⟨rfl,h₅⟩)) hx)) hx))
def i7(wi:TI)(k:Nat)(g:TG)(tc:TT)(te:TE):TE:=λσ H Q=>wi σ H λJ H1=>∀D,H1 D=none ->
 ∃W:Nat->Nat->List V->St->Hp->Prop,(∃m,W 0 m [] (List.replicate k none++σ) (upd H1 D (.lst [])))/\∀i m ys σ' H',W i m ys σ' H'->H' D=some (.lst ys) /\
  ((J.stop i H'/\Q (.ref D) H')\/(J.go i H'/\ys.length<sizeLine/\∀x H2,J.Eo i H' x H2->g x σ' H2 λσ3 H3=>tc σ3 H3 λb H4 =>
   if b=true then te σ3 H4 λv H5=>H5 D=some (.lst ys)/\∃m',m'<m/\W (i+1) m' (ys++[v]) σ3 (upd H5 D (.lst (ys++[v])))
   else ∃m',m'<m/\W (i+1) m' ys σ3 H4))
theorem so{pos:Pos}{wi:TI}(S:aA osc ON scope own N)(hosc:X.env.scope=osc)(hON:X.N=ON)(hc:X.calm=true)(hi:PI X tg iter wi)
  (hg:∀C s H fp,PG (aP X scope N C s H fp) tg g) (ht:∀C s H fp,FZ (aP X scope N C s H fp) ifs tc) (XE:Addr->Shared->Hp->List Addr->Value->Shared->Prop)
  (he:∀C s H fp pins s' σ' H' Q',(∀b∈fp,∃o,(b,o)∈pins)->Inv (aP X scope N C s H fp) pins σ' H' s'->te σ' H' Q'->wpAny (model X.prog X.w) X.A (eval elt (aP X scope N C s H fp).env) (EP (aP X scope N C s H fp) pins σ' Q') (XE C s H fp) s')
     {s:Shared} {Q:VK} (I:Inv X pins σ H s) (h:i7 wi own.length g tc te σ H Q) 
  (fin:∀(D C:Addr) (H':Hp) (s':Shared) (m:Str->Option Value),Inv X pins σ H' s'->Q (.ref D) H'->H' C=none->X.s₀.heap.objs.size<=C->C≠X.env.locals->(∀x c,X.env.cells.lookup x=some c->c≠C)->(∀p∈X.pn++pins,p.1≠C) ->
   s'.heap.Ns C m->RR (.ref D) C (.ok .next) s')
  (hx:∀(D C:Addr) (s3:Shared) (H3:Hp) (fp:List Addr),C=s3.heap.objs.size->Inv X pins σ H3 s3->(∀{pins':List (Addr×Obj)} {σ':St} {H':Hp} {s':Shared},Inv (aP X scope N C s3 H3 fp) pins' σ' H' s'->Inv X pins σ H' s') ->
   X.s₀.heap.objs.size<=C->C≠X.env.locals->(∀x c,X.env.cells.lookup x=some c->c≠C)->(∀p∈X.pn++pins,p.1≠C)->∀x s',XE C s3 H3 fp x s'->notedBy (model X.prog X.w) X.A (aP X scope N C s3 H3 fp).env (λv s''=>RR (.ref D) C (.error v) s'') x s') :
  wpAny (model X.prog X.w) X.A (eval iter X.env) (λx s₁=>wpAny (model X.prog X.w) X.A (pyIter x) (λit s₂=>wpAny (model X.prog X.w) X.A (newList []) (λacc s₃ =>
   wpAny (model X.prog X.w) X.A (newFunctionEnv scope X.env.globals (eA X.env.cells scope.names []) [] X.env.qual none .none (some X.env)) (λcenv s₄ =>
    codeAny (model X.prog X.w) X.A (.compStart (.ListComp elt [⟨tg,iter,ifs,0⟩] scope pos) 0 it acc {cenv with scope:=relabel scope X.env}) (RR acc cenv.locals) s₄) X.xe s₃) X.xe s₂) X.xe s₁) X.xe s:=by
 refine bS (hi pins s σ H _ I h) λv s1 h1=>bS h1 λitv s2 h2=>?_;obtain⟨it,fp,tn,J,H2,e,I2,T,st2,f2,q⟩:=h2;subst e;refine Mr (wpAny_newFunctionEnv S.lS (by intro y hy;simp at hy) (λh₁ hns₁ hsb₁=>?_) S.kind)
 dsimp only at hns₁ hsb₁ ⊢;have I3:Inv X pins σ (upd H2 s2.heap.objs.size (.lst [])) {s2 with heap:=s2.heap.push {cls:=.type "list",data:=.seq ([]:List Value).toArray},toks:=s2.toks}:=I2.EE (t':=s2.toks) .nil (Nat.zero_le _)
 have hD2:H2 s2.heap.objs.size=none:=I2.fresh;obtain⟨W,⟨m0,w0⟩,turn⟩:=q _ hD2;generalize hs3:({s2 with heap:=s2.heap.push {cls:=.type "list",data:=.seq ([]:List Value).toArray},toks:=s2.toks}:Shared)=s3 at I3
 have eh3:s3.heap=s2.heap.push {cls:=.type "list",data:=.seq ([]:List Value).toArray}:=by rw[<- hs3]
 generalize hD:s2.heap.objs.size=D at I3 turn w0 hD2 ⊢;generalize hH3:upd H2 D (.lst [])=H3 at I3 w0;rw[<- eh3] at hns₁ hsb₁ ⊢;have hC3:H3 s3.heap.objs.size=none:=I3.fresh;have hsz3:s3.heap.objs.size=D+1:=by rw[eh3,Mq,hD]
 have fp2:∀b∈fp,b<s2.heap.objs.size:=λb hb=>by
  obtain⟨o,e,_⟩:=T.obj _ _ st2 b hb;exact Lb e
 have f3:∀b∈fp,m6 X pins H3 b:=λb hb=>by
  obtain⟨g0,g1⟩:=f2 b hb;refine⟨?_,g1⟩;rw[<- hH3,af (by rw[<- hD];exact Ll (fp2 b hb))]
  exact g0
 have neC:∀b o,s3.heap.get? b=some o->b≠s3.heap.objs.size:=λb o e=>Ll (Lb e);have old:∀b o,s3.heap.get? b=some o->h₁.get? b=some o:=λb o e=>hsb₁.extBut b o (neC b o e) (K9 _ e);have hk:=S.kind;have hfr:∀y∈scope.names,y.2=.free->∃c,X.env.cells.lookup y.1=some c:=λy hy hf=>I3.ok.has _ (by subst hosc;exact S.free y hy hf)
 have sub:=js (acc:=[]) hfr (by intro x c e;simp at e)
 have JB:∀tk,Inv (aP X scope N s3.heap.objs.size s3 H3 fp) [] (List.replicate own.length none++σ) H3 {s3 with heap:=h₁,toks:=tk}:=λtk=>by
  refine⟨⟨I3.ok.mod,S.kind,I3.ok.glob,I3.ok.blt,KH _,λx y c e1 e2=>I3.ok.inj x y c (sub x c e1) (sub y c e2),λx hx=>?_,λx c hf _=>(by cases hf),I3.ok.hd,I3.ok.frames,.inl rfl,λb hb=>?_,I3.bs,KA I3.ok.BE I3.sz,λb o e hb=>?_,λb hb hf=>?_,I3.stack,I3.oa,I3.ok.tabs.un I3.base⟩,
   rfl,I3.bare,Un.kept old,⟨_,hns₁,λi x v e1 e2 e3=>?_⟩,λx c e=>?_,hC3,λx c e=>I3.fQ x c (sub x c e),λp hp=>absurd (show p∈([]:List (Addr×Obj)) from hp) (by simp),I3.bg.kept old,?_⟩
  ·have q:=(c_ (env:=X.env) x S.lS).2 hx;exact gH (PySem.mem_of_lookup q)
  ·have hb:b∈fp:=hb;obtain⟨_,g1,g2,g3,g4,g5⟩:=f3 b hb;refine⟨?_,λx c e=>g4 x c (sub x c e)⟩;have:=fp2 b hb;show b≠s3.heap.objs.size;rw[hsz3,<- hD];exact Ll (Nx this)
  ·have hb:b∈fp:=hb;obtain⟨_,g1,g2,g3,g4,g5⟩:=f3 b hb;rcases g3 with g3|g3
   ·exact I3.ok.xO b o e g3
   ·exact absurd (Ls (Lb e) (KA I3.ok.BE g3)) (MC _)
  ·have hb:b∈fp:=hb;obtain⟨_,g1,g2,g3,g4,g5⟩:=f3 b hb;rcases KL.mp (I3.oy b hf) with z|z
   ·exact g1 z
   ·exact g2 z
  ·have hi:own.length<=i:=by
    rcases LH i own.length with hlt|hge
    ·rw[Lj (by simpa using hlt),NY] at e2
     split at e2<;>cases e2
    ·exact hge
   rw[Le (by simpa using hi),KY] at e2
   have e1:N[own.length+(i-own.length)]?=some x:=by rw[Nat.add_sub_cancel' hi];exact e1
   have e1d:(N.drop own.length)[i-own.length]?=some x:=by rw[Ma];exact e1
   have nl:scope.names.lookup x≠some .local:=S.own x (Lu e1d);have vis:scope.names.lookup x=some .free:=by
    rcases e3 with z|z
    ·exact absurd ((c_ (env:=X.env) x S.lS).1 z) nl
    ·exact (c_ (env:=X.env) x S.lS).2 z
   have hlen:=I3.len;have hlt:i-own.length<X.N.length:=by
    rw[<- hlen];exact (K7.mp e2).1
   have hxN:X.N[i-own.length]?=some x:=by
    rw[K1 hlt];have mz:(X.N[i-own.length],x)∈ON.zip (N.drop own.length):=by
     rw[<- hON];refine Lu (i:=i-own.length) ?_;rw[List.getElem?_zip_eq_some];exact⟨K1 hlt,e1d⟩
    rcases S.out _ mz with z|z
    ·exact Lw some z
    ·exact absurd z (by rw[vis];simp)
   have hko:X.env.scope.names.lookup x=some .cell\/X.env.scope.names.lookup x=some .free:=by subst hosc;exact S.free _ (PySem.mem_of_lookup vis) rfl
   obtain⟨m,hn,hl⟩:=I3.loc;have hv:IT X.env.scope x:=by
    rcases hko with z|z
    ·exact .inr (.inl z)
    ·exact .inr (.inr z)
   obtain⟨u,ru,lk⟩:=hl _ x v hxN e2 hv;refine⟨u,ru,.inr ⟨?_,?_⟩⟩
   ·rcases e3 with z|z
    ·exact absurd ((c_ (env:=X.env) x S.lS).1 z) nl
    ·exact z
   ·rcases lk with ⟨k,_⟩|⟨_,c,ec,hcell⟩
    ·exfalso
     have k':X.env.scope.names.lookup x=some .local:=k;rcases hko with z|z
     ·rw[k'] at z;cases z
     ·rw[k'] at z;cases z
    ·obtain⟨c',ec'⟩:=gH (cells:=X.env.cells) (acc:=[]) (PySem.mem_of_lookup vis);have:=sub x c' ec';rw[ec] at this;cases this;obtain⟨o,ho,hd⟩:=hcell;exact⟨c,ec',o,old c o ho,hd⟩
  ·obtain⟨v,o,ho,hd⟩:=I3.cell x c (sub x c e);exact⟨v,o,old c o ho,hd⟩
  ·show (List.replicate own.length none++σ).length=N.length;rw[S.len,K6,KY,I3.len,hON]
 have stat:∀{H':Hp},(∀b∈fp,H' b=none)->∀b∈fp,m6 (aP X scope N s3.heap.objs.size s3 H3 fp) [] H' b:=λ{H'} hn b hb=>by
  obtain⟨_,g1,g2,g3,g4,g5⟩:=f3 b hb;refine⟨hn b hb,?_,λhf=>?_,.inl hb,λx c e=>g4 x c (sub x c e),λp hp=>absurd (show p∈([]:List (Addr×Obj)) from hp) (by simp)⟩
  ·have:=fp2 b hb;show b≠s3.heap.objs.size;rw[hsz3,<- hD];exact Ll (Nx this)
  ·rcases KL.mp (I3.oy b hf) with z|z
   ·exact g1 z
   ·exact g2 z
 have st4:tn 0 h₁:=T.keep _ _ _ st2 λb hb o e=>old b o (by rw[eh3];exact K9 _ e)
 have o3:∀x c,X.env.cells.lookup x=some c->c≠s3.heap.objs.size:=λx c e z=>by
  obtain⟨v,o,ho,_⟩:=I3.cell x c e;exact absurd (Lb ho) (by rw[z];exact MC _)
 have o4:∀p∈X.pn++pins,p.1≠s3.heap.objs.size:=λp hp z=>absurd (Lb (I3.pin p hp).1) (by rw[z];exact MC _)
 have outI:∀{pins':List (Addr×Obj)} {σ':St} {H':Hp} {s':Shared},Inv (aP X scope N s3.heap.objs.size s3 H3 fp) pins' σ' H' s'->Inv X pins σ H' s':=λI6=>by
  refine I3.Iu (ch:=fp) I6.os I6.base I6.bg I6.bare λb hb=>?_;obtain⟨_,g1,g2,g3,g4,g5⟩:=f3 b hb;exact⟨g3,g1,g4,g5⟩
 have loop:∀s4:Shared,s4={s3 with heap:=h₁,toks:=s2.toks+([]:List (Str×Value)).length} ->
   codeAny (model X.prog X.w) X.A (.compLoop (.ListComp elt [⟨tg,iter,ifs,0⟩] scope pos) 0 (.ref it) (.ref D) (aP X scope N s3.heap.objs.size s3 H3 fp).env) (RR (.ref D) s3.heap.objs.size) s4:=by
  rintro s4 rfl;refine mr (XE:=XE s3.heap.objs.size s3 H3 fp) (λn s'=>∃i ys σ' H',Inv (aP X scope N s3.heap.objs.size s3 H3 fp) [] σ' H' s'/\tn i s'.heap/\(∀b∈fp,H' b=none)/\W i n ys σ' H') (hx D _ s3 H3 fp rfl I3 outI I3.sz (Ms I3.lt) o3 o4) ?_ m0 ⟨0,[],_,H3,JB _,st4,λb hb=>(f3 b hb).1,w0⟩;rintro n s5 ⟨i,ys,σ5,H5,I5,st5,fr5,w5⟩;obtain⟨hD5,ways⟩:=turn i n ys σ5 H5 w5;rcases ways with ⟨stop,qn⟩|⟨go,hys,step⟩
  ·refine vT (T.done (aP X scope N s3.heap.objs.size s3 H3 fp) rfl rfl rfl hc i [] s5 σ5 H5 _ I5 (stat fr5) st5 stop) λr s6 hq1=>?_;obtain⟨hr,I6⟩:=hq1;subst hr;obtain⟨m,hn,_⟩:=I6.loc;exact fin D _ H5 s6 m (outI I6) qn I6.free I3.sz (Ms I3.lt) o3 o4 hn
  ·refine vT (T.item (aP X scope N s3.heap.objs.size s3 H3 fp) rfl rfl rfl hc i [] s5 σ5 H5 _ I5 (stat fr5) st5 go) λr s6 hq2=>?_;obtain⟨u,hr,h6⟩:=hq2;subst hr;refine vT h6 λ_ s7 hq3=>?_;obtain⟨x,H7,I7,r7,y7,st7,fr7⟩:=hq3;have I7':=I7.pinned (stat fr7) (T.obj _ _ st7);have back:∀{σ8:St} {H8:Hp} {s8:Shared},Inv (aP X scope N s3.heap.objs.size s3 H3 fp) ([]++ji fp s7.heap) σ8 H8 s8->tn (i+1) s8.heap/\∀b∈fp,H8 b=none:=λ{σ8 H8 s8} I8=>by
    refine⟨T.keep _ _ _ st7 λb hb o e=>(I8.pin (b,o) (Lh _ (Lh _ (eE hb e)))).1,λb hb=>?_⟩;obtain⟨o,e,d⟩:=T.obj _ _ st7 b hb;exact (I8.pin (b,o) (Lh _ (Lh _ (eE hb e)))).2.1
   have hcov:∀b∈fp,∃o,(b,o)∈([]:List (Addr×Obj))++ji fp s7.heap:=λb hb=>by
    obtain⟨o,e,_⟩:=T.obj _ _ st7 b hb;exact⟨o,Lh _ (eE hb e)⟩
   refine vT (hg _ _ _ _ _ s7 σ5 H7 x u _ I7' r7 (step x H7 y7)) λ_ s8 hq4=>?_;obtain⟨σ8,H8,I8,q8⟩:=hq4;refine vT (ht _ _ _ _ _ s8 σ8 H8 _ I8 q8) λok s9 hq5=>?_;obtain⟨H9,I9,q9⟩:=hq5
   cases ok with
   |false =>
    rw[KJ (by simp)] at q9 ⊢
    obtain⟨m',hm,w9⟩:=q9;exact⟨m',hm,i+1,ys,σ8,H9,I9.fX,(back I9).1,(back I9).2,w9⟩
   |true =>
    rw[KO rfl] at q9 ⊢;refine bS (he _ _ _ _ _ s9 σ8 H9 _ hcov I9 q9) λy s10 hq6=>?_;obtain⟨v10,H10,I10,r10,hD10,m',hm,w10⟩:=hq6;refine vT (mG _ s10 σ8 H10 (.ref D) [v10] (.ref D) [y] (λr H11=>r=.aO/\H11=upd H10 D (.lst (ys++[v10]))) I10 rfl (.cons r10 .nil) ⟨D,ys,v10,rfl,rfl,hD10,hys,rfl,rfl⟩) λ_ s11 hq7=>?_;obtain⟨_,H11,I11,_,_,e11⟩:=hq7;subst e11;exact⟨m',hm,i+1,_,σ8,_,I11.fX,(back I11).1,(back I11).2,w10⟩
 have start:=codeAny_compStart_list (R:=RR (.ref D) s3.heap.objs.size) (loop _ rfl) (T.self X.A 0 _ _ _ st4 (loop _ rfl));subst hs3;exact start
theorem mP{pos:Pos}{wi:TI}(S:aA osc ON scope own N)(hosc:X.env.scope=osc)(hON:X.N=ON)(hc:X.calm=true)(hi:PI X tg iter wi)
  (hg:∀C s H fp,PG (aP X scope N C s H fp) tg g) (ht:∀C s H fp,FZ (aP X scope N C s H fp) ifs tc) (he:∀C s H fp,PE (aP X scope N C s H fp) elt te)
     {s:Shared} {Q:VK} (I:Inv X pins σ H s) (h:i7 wi own.length g tc te σ H Q) 
  (fin:∀(D C:Addr) (H':Hp) (s':Shared) (m:Str->Option Value),Inv X pins σ H' s'->Q (.ref D) H'->H' C=none->X.s₀.heap.objs.size<=C->C≠X.env.locals->(∀x c,X.env.cells.lookup x=some c->c≠C)->(∀p∈X.pn++pins,p.1≠C) ->
   s'.heap.Ns C m->RR (.ref D) C (.ok .next) s') :
  wpAny (model X.prog X.w) X.A (eval iter X.env) (λx s₁=>wpAny (model X.prog X.w) X.A (pyIter x) (λit s₂=>wpAny (model X.prog X.w) X.A (newList []) (λacc s₃ =>
   wpAny (model X.prog X.w) X.A (newFunctionEnv scope X.env.globals (eA X.env.cells scope.names []) [] X.env.qual none .none (some X.env)) (λcenv s₄ =>
    codeAny (model X.prog X.w) X.A (.compStart (.ListComp elt [⟨tg,iter,ifs,0⟩] scope pos) 0 it acc {cenv with scope:=relabel scope X.env}) (RR acc cenv.locals) s₄) X.xe s₃) X.xe s₂) X.xe s₁) X.xe s:=
 so S hosc hON hc hi hg ht (λ_ _ _ _ _ _=>False) (λC s H fp pins s' σ' H' Q' _ I h=>he C s H fp pins s' σ' H' Q' I h) I h fin λ_ _ _ _ _ _ _ _ _ _ _ _ _ _ z=>z.elim
theorem CO{pos:Pos}{wi:TI}(S:aA osc ON scope own N)(hosc:X.env.scope=osc)(hON:X.N=ON)(hc:X.calm=true)(hi:PI X tg iter wi)
  (hg:∀C s H fp,PG (aP X scope N C s H fp) tg g) (ht:∀C s H fp,FZ (aP X scope N C s H fp) ifs tc) (he:∀C s H fp,PE (aP X scope N C s H fp) elt te)
  (hs:autoParam (∀x,foldedSetIterable iter X.env x=pure x) ℜ3) :
  PE X (.ListComp elt [⟨tg,iter,ifs,0⟩] scope pos) (i7 wi own.length g tc te):=by
 intro pins s σ H Q I h;have hfr:∀y∈scope.names,y.2=.free->∃c,X.env.cells.lookup y.1=some c:=λy hy hf=>I.ok.has _ (by subst hosc;exact S.free y hy hf)
 rw[eval_ListComp];refine P0 (use:=none) rfl hs (gS hfr) S.kind S.loc ?_;refine mP S hosc hON hc hi hg ht he I h (RR:=λacc C=>compPost (model X.prog X.w) X.A X.xe none (EP X pins σ Q) acc C) ?_;intro D C H' s' m I' q h1 h2 h3 h4 h5 hn;exact⟨m,hn,λh'' hs''=>⟨.ref D,H',I'.turned (t':=s'.toks) (λb o hb e=>(hs''.2 b hb).trans e) h1 h3 (.inr h2) h4 h5,rfl,q⟩⟩
theorem rM{pos spos py:Pos}{wi:TI}{y:Str}(hN:X.N.Nodup)(hj:X.N[j]?=some y)(hx:Loc X.env.scope y)(S:aA osc ON scope own N)(hosc:X.env.scope=osc)(hON:X.N=ON)(hc:X.calm=true)(hi:PI X tg iter wi)
  (hg:∀C s H fp,PG (aP X scope N C s H fp) tg g) (ht:∀C s H fp,FZ (aP X scope N C s H fp) ifs tc) (he:∀C s H fp,PE (aP X scope N C s H fp) elt te)
  (hsw:autoParam (swapsWith (.ListComp elt [⟨tg,iter,ifs,0⟩] scope pos) (some (.Name y py)) spos.line X.env=pure true) ℜ0)
  (hf:autoParam (X.fn y=true\/X.env.scope.names.lookup y=some .local) ℜ2)
  (hs:autoParam (∀x,foldedSetIterable iter X.env x=pure x) ℜ3) :
  PS X (.Assign [.Name y py] (.ListComp elt [⟨tg,iter,ifs,0⟩] scope pos) spos) (lQ (i7 wi own.length g tc te) (aL j)):=by
 intro pins s σ H Dn I h;have hfr:∀y∈scope.names,y.2=.free->∃c,X.env.cells.lookup y.1=some c:=λy hy hf=>I.ok.has _ (by subst hosc;exact S.free y hy hf)
 rw[exec_Assign_Name_used _ _ _ _ hsw];refine K4 (OX (K4 ?_));show wpAny _ X.A (do let _ <- comprehension (.ListComp elt [⟨tg,iter,ifs,0⟩] scope pos) scope X.env _ (newList []) false (eval iter X.env) (some (assign (.Name y py) X.env))) _ _ s
 refine K4 (LQ (P0 (use:=some (assign (.Name y py) X.env)) (Q:=λ_ s'=>SP X pins Dn .next s') rfl hs (gS hfr) S.kind S.loc ?_) (λ_ s' hq=>KR (KR hq)) λ_ _ e=>e);refine mP S hosc hON hc hi hg ht he I h (RR:=λacc C=>compPost (model X.prog X.w) X.A X.xe (some (assign (.Name y py) X.env)) (λ_ s'=>SP X pins Dn .next s') acc C) ?_;intro D C H' s' m I' q h1 h2 h3 h4 h5 hn;show wpAny _ X.A (assign (.Name y py) X.env (.ref D)) _ _ _;refine wpAny_assign_Name (mZ I' hN hj hx (v:=.ref D) rfl (λs'' I'' hsb=>?_) hf);obtain⟨a,sb,ha⟩:=hsb;have nC:C≠a:=by
  rcases ha with ha|ha
  ·rw[ha];exact h3
  ·exact (h4 y a ha).symm
 exact⟨m,hn.sameBut sb nC,λh'' hs''=>⟨_,H',I''.turned (t':=s''.toks) (λb o hb e=>(hs''.2 b hb).trans e) h1 h3 (.inr h2) h4 h5,q⟩⟩
noncomputable def dY(e:Expr):Bool:=match e with
 |.Starred ..=>false
 |_=>true
theorem cz(h:dY e=true):starEach (e::es) env=(false,eval e env)::starEach es env:=by
 cases e<;>first|rfl|cases h
theorem plain_any{pos:Pos}:∀{es:List Expr},es.all dY=true->(backTo pos (starEach es env)).any (·.1)=false
 |[],_=>rfl
 |e::es,h=>by
  rw[MD,LK] at h;rw[cz h.1];show (false || (backTo pos (starEach es env)).any (·.1))=false;rw[plain_any h.2];rfl
theorem plain_all{pos:Pos}:∀{es:List Expr},es.all dY=true->(backTo pos (starEach es env)).all (λx=>!x.1)=true
 |[],_=>rfl
 |e::es,h=>by
  rw[MD,LK] at h;rw[cz h.1];show (true && (backTo pos (starEach es env)).all (λx=>!x.1))=true;rw[plain_all h.2];rfl
theorem FD{cpos:Pos}(h:(e::es).all dY=true)(hl:(e::es).length<30):
  ((backTo cpos (starEach (e::es) env)).all (λx=>!x.1) && (backToKw cpos (keywordEach [] env)).all (λx=>x.1.isSome) && decide ((e::es).length+([]:List Keyword).length+(if ([]:List Keyword).isEmpty then 0 else 1)<30))=true:=by
 rw[plain_all h];have e2:(backToKw cpos (keywordEach [] env)).all (λx=>x.1.isSome)=true:=rfl;rw[e2];have e3:(e::es).length+([]:List Keyword).length+(if ([]:List Keyword).isEmpty then 0 else 1)<30:=hl
 rw[Li e3];rfl
section
variable {X:Cx} {e:Expr} {es:List Expr} {te:TE} {t:TA}
theorem JP(ha:PE X e te)(hr:PA X es t)(h:autoParam (dY e=true) ℜ0):PA X (e::es) (j0 te t):=va ha hr (cz h)
theorem HD{id:String}{p pos:Pos}(hc:bt X (.builtin id) r)(hg:Gl X x)(hm:X.mg x=none)(hv:bootBuiltins x=some (.builtin id))(ha:PA X (e::es) t)(h1:autoParam (dY e=true) ℜ0)(h2:autoParam (es.all dY=true) ℜ0)(hn:autoParam (x≠"__name__") ℜ1)(hdb:autoParam ((x ==("__debug__":Str))=false) ℜ1):
  PE X (.Call (.Name x p) (e::es) [] pos) (zM r t):=zH hc hg hm hv ha hn hdb (cz h1) (plain_any h2)
theorem HY{T:String}{p pos:Pos}(hc:bt X (.type T) r)(hg:Gl X x)(hm:X.mg x=none)(hv:bootBuiltins x=some (.type T))(ha:PA X (e::es) t)(h1:autoParam (dY e=true) ℜ0)(h2:autoParam (es.all dY=true) ℜ0)(hn:autoParam (x≠"__name__") ℜ1)(hdb:autoParam ((x ==("__debug__":Str))=false) ℜ1):
  PE X (.Call (.Name x p) (e::es) [] pos) (zM r t):=vO hc hg hm hv ha hn hdb (cz h1) (plain_any h2)
theorem F_{o:Expr}{to:TE}{name:Str}{apos cpos:Pos}{T id:String}{r:V->List V->Hp->VK->Prop}(pa:PlainAttrs T)(slot:Slot T name id)(hty:typeOf (.builtin id)=pure (.type "method_descriptor"))(hm:vw X id r)(ho:PE X o to)(ha:PA X (e::es) t)
  (hbase:attributeBase o name X.env (eval o X.env)=eval o X.env) (hline:(apos.endLine == cpos.line)=true) (h:(e::es).all dY=true) (hl:(e::es).length<30):PE X (.Call (.Attribute o name apos) (e::es) [] cpos) (Ga X.K T r to t):=by
 have h':=h;rw[MD,LK] at h';exact HZ pa slot hty hm ho ha hbase (FD h hl) hline (cz h'.1) (plain_any h'.2)
theorem rV{a:Expr}{p pos:Pos}(hg:Gl X "range")(hm:X.mg "range"=none)(ha:PA X [a] ta)(h:autoParam (dY a=true) ℜ0):PI X tg (.Call (.Name "range" p) [a] [] pos) (mT ta):=xt hg hm ha (cz h)
theorem sf{a:Expr}{p pos:Pos}(hg:Gl X "range")(hm:X.mg "range"=none)(ha:PA X [a,b] ta)(h:autoParam (dY a=true) ℜ0)(h2:autoParam (dY b=true) ℜ0):PI X tg (.Call (.Name "range" p) [a,b] [] pos) (mK ta):=wQ hg hm ha (by rw[cz h,cz h2];rfl) (cz h2)
end
structure HasFn (K:W.Frag) (mg:Str->Option Value) (x:Str) (st:Stmt) (ps:List Str):Prop where
 ex:∃(f:Addr) (fd:FuncData),DE K x x st f fd/\Binds K fd ps []/\mg x=some (.ref f)
structure ao (P:Program) (w:World) (K:W.Frag) (mg:Str->Option Value) (base:Heap) (CX:pe) (k:Nat) (x:Str) (ps:List Str) (sp:Sp):Prop where
 ex:∃(f:Addr) (fd:FuncData),mg x=some (.ref f)/\W.keepIn K (.ref f)=true/\Binds K fd ps []/\gR P w K mg base CX k f fd ps sp
section
variable {P:Program} {w:World} {K:W.Frag} {mg:Str->Option Value} {base:Heap}
theorem HasFn.ok{ps:List Str}{k:Nat}(F:HasFn K mg x st ps)(S:ax N ps (ab st))(len:∀vs H Q E,sp vs H Q E->vs.length=ps.length)
  (hbody:∀(f:Addr) (cdv:Value) (A:Around) (outer:List Env) (s:Shared) (H:Hp) (vs:List V) (Q:VK) (E:XK),bQ k (A.deeper (envOfC x (ab st) s.heap.objs.size f cdv))->sp vs H Q E ->
   ∃t,rS (lH aS P w K mg base N x (ab st) f cdv A outer s H E).BQ (bV st) t/\t {nx:=λ_ H'=>Q .aO H',rt:=Q} (start N vs) H):ao P w K mg base aS (k+1) x ps sp:=by
 obtain⟨f,fd,F1,b,m⟩:=F.ex;exact⟨f,fd,m,F1.kp,b,F1.ok S len λcdv A outer s H vs Q E hr h=>hbody f cdv A outer s H vs Q E hr h⟩
end
section
variable {X:Cx} {CX:pe} {k:Nat} {ps:List Str} {sp:Sp} {E:XK} {x:Str} {p pos:Pos} {e:Expr} {es:List Expr} {t:TA}
theorem HR(F:ao X.prog X.w X.K X.mg X.base CX k x ps sp)(hr:bQ k X.A)(hg:Gl X x)(hx:Passes CX X E)(ha:PA X (e::es) t)(h1:autoParam (dY e=true) ℜ0)(h2:autoParam (es.all dY=true) ℜ0)(hdb:autoParam ((x ==("__debug__":Str))=false) ℜ1):
  PE X (.Call (.Name x p) (e::es) [] pos) (gT sp [] E t):=by
 obtain⟨f,fd,m,kp,b,G⟩:=F.ex;exact CV G hr hg m kp b .nil hx ha hdb (cz h1) (plain_any h2)
theorem EK(F:ao X.prog X.w X.K X.mg X.base CX k x ps sp)(hr:bQ k X.A)(hg:Gl X x)(hx:Passes CX X E)(hdb:autoParam ((x ==("__debug__":Str))=false) ℜ1):
  PE X (.Call (.Name x p) [] [] pos) (gT sp [] E mB):=by
 obtain⟨f,fd,m,kp,b,G⟩:=F.ex;exact zr G hr hg m kp b .nil hx hdb
end
noncomputable def E2:Expr->Option V
 |.Constant (.int i) _ _=>some (.int i)
 |.Constant (.str x) _ _=>some (.str x)
 |.Constant (.bool b) _ _=>some (.bl b)
 |.Constant .none _ _=>some .aO
 |_=>none
def uy:List Expr->Option (List V)
 |[]=>some []
 |e::es=>match E2 e,uy es with
  |some v,some vs=>some (v::vs)
  |_,_=>none
def tK(vs:List V):TA:=λ_ H Q=>Q vs H
theorem Fp{v:V}(h:E2 e=some v):PE X e (tC v)/\∀es,starEach (e::es) X.env=(false,eval e X.env)::starEach es X.env:=by
 unfold E2 at h
 split at h
 ·cases h;exact⟨jW,λ_=>rfl⟩
 ·cases h;exact⟨yd,λ_=>rfl⟩
 ·cases h;exact⟨DM,λ_=>rfl⟩
 ·cases h;exact⟨yg,λ_=>rfl⟩
 ·cases h
theorem nu{X:Cx}:∀{es:List Expr} {vs:List V},uy es=some vs->PA X es (tK vs)
 |[],vs,h=>by cases h;exact yX
 |e::es,vs,h=>by
  unfold uy at h
  split at h
  ·rename_i v ws e1 e2;cases h;have p:=Fp (X:=X) e1;exact va (te:=tC v) (t:=tK ws) p.1 (nu e2) (p.2 es)
  ·cases h
noncomputable def sq(H:Hp)(p:Addr):Option (Bool×List V):=match H p with
 |some (.lst xs)=>some (true,xs)
 |some (.tup xs)=>some (false,xs)
 |some (.i9 _ (.lst xs))=>some (true,xs)
 |some (.i9 _ (.tup xs))=>some (false,xs)
 |_=>none
theorem gI(h:sq H p=some (true,xs)):a_ K H p xs:=by
 unfold sq at h
 split at h
 ·rename_i e;cases h;exact .inl (.inl e)
 ·cases h
 ·rename_i e;cases h;exact .inl (.inr ⟨_,e⟩)
 ·cases h
 ·cases h
theorem gy(h:sq H p=some (false,xs)):aX K H p xs:=by
 unfold sq at h
 split at h
 ·cases h
 ·rename_i e;cases h;exact .inl (.inl e)
 ·cases h
 ·rename_i e;cases h;exact .inl (.inr ⟨_,e⟩)
 ·cases h
theorem rL{b:Bool}(h:sq H p=some (b,xs)):a_ K H p xs\/aX K H p xs:=by
 cases b with
 |true=>exact .inl (gI h)
 |false=>exact .inr (gy h)
theorem au(h:H p=some (.lst xs)):sq H p=some (true,xs):=by unfold sq;rw[h]
theorem aC(h:H p=some (.tup xs)):sq H p=some (false,xs):=by unfold sq;rw[h]
section
variable {X:Cx}
def we(K:W.Frag):R2:=λx y H Q=>match x,y with
 |.int i,.int j=>Q (.int (i+j)) H
 |.str i,.str j=>i.length+j.length<=sizeLine/\Q (.str (i++j)) H
 |.ref a,.ref b=>match H a,H b with
  |some (.lst xs),some (.lst ys)=>xs.length+ys.length<=sizeLine/\∀p,H p=none->Q (.ref p) (upd H p (.lst (xs++ys)))
  |some (.tup xs),some (.tup ys)=>xs≠[]/\ys≠[]/\xs.length+ys.length<=sizeLine/\∀p,H p=none->Q (.ref p) (upd H p (.tup (xs++ys)))
  |_,_=>False
 |_,_=>False
theorem CD:cJ X (binaryOp .Add) (we X.K):=by
 intro pins s σ H x y v u Q I rx ry h
 cases x with
 |int i=>cases y with
  |int j=>exact yP pins s σ H _ _ v u Q I rx ry ⟨i,j,rfl,rfl,h⟩
  |_=>exact (show False from h).elim
 |str i=>cases y with
  |str j=>exact lp pins s σ H _ _ v u Q I rx ry ⟨i,j,rfl,rfl,h.1,h.2⟩
  |_=>exact (show False from h).elim
 |ref a=>cases y with
  |ref b =>
   unfold we at h;simp only at h
   split at h
   ·rename_i xs ys e1 e2;exact Ax pins s σ H _ _ v u Q I rx ry ⟨a,b,xs,ys,rfl,rfl,e1,e2,h.1,h.2⟩
   ·rename_i xs ys e1 e2;obtain⟨h1,h2,h3,h4⟩:=h;exact uO pins s σ H _ _ v u Q I rx ry ⟨a,b,xs,ys,rfl,rfl,aX.of e1,aX.of e2,h1,h3,λz=>absurd z h2,λ_=>h4⟩
   ·exact h.elim
  |_=>exact (show False from h).elim
 |_=>exact (show False from h).elim
def Gp:R2:=λx y H Q=>match x,y with
 |.int i,.int j=>zO i j/\Q (.int (i*j)) H
 |.ref a,.int j=>Hy (.ref a) (.int j) H Q
 |_,_=>False
theorem cu:cJ X (binaryOp .Mult) Gp:=by
 intro pins s σ H x y v u Q I rx ry h
 cases x with
 |int i=>cases y with
  |int j=>exact Fm pins s σ H _ _ v u Q I rx ry ⟨i,j,rfl,rfl,h.1,h.2⟩
  |_=>exact (show False from h).elim
 |ref a=>cases y with
  |int j=>exact Gb pins s σ H _ _ v u Q I rx ry h
  |_=>exact (show False from h).elim
 |_=>exact (show False from h).elim
theorem cc:cJ X (compareOp .Eq) GH:=Ee
theorem Fv:cJ X (compareOp .NotEq) IL:=DH
def IH(K:W.Frag)(neg:Bool):R2:=λx y H Q=>match y with
 |.str j=>∃i,x=.str i/\Q (.bl (if neg then !(!(Builtin.Str.occurrences j i 0 j.length 1).isEmpty) else !(Builtin.Str.occurrences j i 0 j.length 1).isEmpty)) H
 |.ref p=>match sq H p with
  |some (_,xs)=>cK x=true/\xs.all cK=true/\Q (.bl (if neg then !jF x xs else jF x xs)) H
  |none=>∃xs,aX K H p xs/\cK x=true/\xs.all cK=true/\Q (.bl (if neg then !jF x xs else jF x xs)) H
 |_=>False
theorem FH{neg:Bool}{x:V}{Q:VK}(h:IH K neg x (.ref p) H Q):JQ K neg x (.ref p) H Q:=by
 unfold IH at h;simp only at h
 split at h
 ·rename_i xs e;exact⟨p,_,rfl,rL e,h.1,h.2.1,h.2.2⟩
 ·obtain⟨xs,hq,h⟩:=h;exact⟨p,xs,rfl,.inr hq,h.1,h.2.1,h.2.2⟩
theorem Gg{k:Nat}(hu:k<cLine):cJ X (compareOp .In) (IH X.K false):=by
 intro pins s σ H x y v u Q I rx ry h
 match y,h with
 |.str j,h =>
  obtain⟨i,rfl,h'⟩:=h;exact vR pins s σ H _ _ v u Q I rx ry ⟨i,j,rfl,rfl,h'⟩
 |.ref p,h=>exact mH pins s σ H _ _ v u Q I rx ry (FH h)
def Br(K:W.Frag):R2:=λx y H Q=>match x,y with
 |.str z,.int i=>z.length<=sizeLine/\(match bC z.cps.toList i with|some c=>Q (.str ⟨#[c]⟩) H|none=>False)
 |.ref p,.int i=>match sq H p with
  |some (_,xs)=>(match bC xs i with|some v=>Q v H|none=>False)
  |none=>∃xs v,aX K H p xs/\bC xs i=some v/\Q v H
 |_,_=>False
theorem Kz{k:Nat}(hu:k<cLine):wM X (Br X.K):=by
 intro value slice pins s σ H x y v u Q I rx ry h hs;refine FU value slice pins s σ H x y v u Q I rx ry ?_ hs
 cases x with
 |str z=>cases y with
  |int i =>
   obtain⟨hz,h⟩:=h
   split at h
   ·rename_i c e;exact .inr (.inr ⟨z,i,c,rfl,rfl,hz,e,h⟩)
   ·exact h.elim
  |_=>exact (show False from h).elim
 |ref p=>cases y with
  |int i =>
   unfold Br at h;simp only at h
   split at h
   ·rename_i b xs e
    split at h
    ·rename_i w' e'
     cases b with
     |true=>exact .inl ⟨p,xs,i,w',rfl,rfl,gI e,e',h⟩
     |false=>exact .inr (.inl ⟨p,xs,i,w',rfl,rfl,gy e,e',h⟩)
    ·exact h.elim
   ·obtain⟨xs,w',hq,e',h⟩:=h;exact .inr (.inl ⟨p,xs,i,w',rfl,rfl,hq,e',h⟩)
  |_=>exact (show False from h).elim
 |_=>exact (show False from h).elim
def Jc(K:W.Frag):V->Option Int->Option Int->Hp->VK->Prop:=λx lo hi H Q=>match x with
 |.ref p=>match sq H p with
  |some (true,xs)=>∀q,H q=none->Q (.ref q) (upd H q (.lst (dQ xs lo hi)))
  |some (false,xs)=>sh K (.ref p) lo hi H Q
  |none=>sh K (.ref p) lo hi H Q
 |_=>False
theorem B3:vy X (Jc X.K):=by
 intro pins s σ H x v vl vu lo hi sl Q I rx hs pl pu h
 match x,h with
 |.ref p,h =>
  unfold Jc at h;simp only at h
  split at h
  ·rename_i xs e;exact oG pins s σ H _ v vl vu lo hi sl Q I rx hs pl pu ⟨p,xs,rfl,gI e,h⟩
  ·exact tJ pins s σ H _ v vl vu lo hi sl Q I rx hs pl pu h
  ·exact tJ pins s σ H _ v vl vu lo hi sl Q I rx hs pl pu h
def xR:V->V->V->Hp->(Hp->Prop)->Prop:=λo i v H Q=>match o,i with
 |.ref p,.int k=>match H p with
  |some (.lst xs)=>(match iF xs.length k with|some j=>Q (upd H p (.lst (xs.set j v)))|none=>False)
  |_=>False
 |_,_=>False
theorem uset:GS X xR:=by
 intro pins s σ H o i v ov iv u Q I ro ri rv h
 cases o with
 |ref p=>cases i with
  |int k =>
   unfold xR at h;simp only at h
   split at h
   ·rename_i xs e
    split at h
    ·rename_i j e';exact set_list pins s σ H _ _ v ov iv u Q I ro ri rv ⟨p,xs,k,j,rfl,rfl,e,e',h⟩
    ·exact h.elim
   ·exact h.elim
  |_=>exact (show False from h).elim
 |_=>exact (show False from h).elim
def xP(K:W.Frag):List V->Hp->VK->Prop:=λxs H Q=>match xs with
 |[.str y]=>y.length<=sizeLine/\Q (.int y.length) H
 |[.ref p]=>match sq H p with
  |some (_,ys)=>Q (.int ys.length) H
  |none=>∃ys,aX K H p ys/\Q (.int ys.length) H
 |_=>False
theorem xh:bt X (.builtin "len") (xP X.K):=by
 intro pins s σ H xs us Q I r h;rcases xs with _|⟨x,_|⟨y,xs⟩⟩
 ·exact (show False from h).elim
 rotate_left
 ·cases x<;>exact (show False from h).elim
 cases x with
 |str y=>exact iA pins s σ H _ us Q I r ⟨.str y,_,rfl,⟨h.1,rfl⟩,h.2⟩
 |ref p =>
  unfold xP at h;simp only at h
  split at h
  ·rename_i b ys e;refine iA pins s σ H _ us Q I r ⟨.ref p,ys.length,rfl,?_,h⟩
   cases b with
   |true=>exact .inl ⟨ys,gI e,rfl⟩
   |false=>exact .inr ⟨ys,gy e,rfl⟩
  ·obtain⟨ys,hq,h⟩:=h;exact iA pins s σ H _ us Q I r ⟨.ref p,ys.length,rfl,.inr ⟨ys,hq,rfl⟩,h⟩
 |_=>exact (show False from h).elim
def Hl:List V->Hp->VK->Prop:=λxs H Q=>match xs with
 |[.int i,.int j]=>Q (.int (if j<i then j else i)) H
 |_=>False
theorem jg(hc:X.calm=true):bt X (.builtin "min") Hl:=by
 intro pins s σ H xs us Q I r h;rcases xs with _|⟨x,_|⟨y,_|⟨z,xs⟩⟩⟩
 ·exact (show False from h).elim
 ·cases x<;>exact (show False from h).elim
 ·cases x with
  |int i=>cases y with
   |int j=>exact xi hc pins s σ H _ us Q I r ⟨i,j,rfl,h⟩
   |_=>exact (show False from h).elim
  |_=>exact (show False from h).elim
 ·cases x with
  |int i=>cases y<;>exact (show False from h).elim
  |_=>exact (show False from h).elim
def oP(K:W.Frag):List V->Hp->VK->Prop:=λxs H Q=>match xs with
 |[.ref p]=>match sq H p with
  |some (true,ys)=>∀l,H l=none->Q (.ref l) (upd H l (.tup ys))
  |some (false,_)=>Q (.ref p) H
  |none=>∃ys,aX K H p ys/\Q (.ref p) H
 |_=>False
theorem ph:bt X (.type "tuple") (oP X.K):=by
 intro pins s σ H xs us Q I r h;rcases xs with _|⟨x,_|⟨y,xs⟩⟩
 ·exact (show False from h).elim
 rotate_left
 ·cases x<;>exact (show False from h).elim
 cases x with
 |ref p =>
  unfold oP at h;simp only at h
  split at h
  ·rename_i ys e;exact eZ pins s σ H _ us Q I r ⟨p,ys,rfl,.inl ⟨gI e,h⟩⟩
  ·rename_i ys e;exact eZ pins s σ H _ us Q I r ⟨p,ys,rfl,.inr ⟨gy e,h⟩⟩
  ·obtain⟨ys,hq,h⟩:=h;exact eZ pins s σ H _ us Q I r ⟨p,ys,rfl,.inr ⟨hq,h⟩⟩
 |_=>exact (show False from h).elim
def IQ:List V->Hp->VK->Prop:=λxs H Q=>match xs with
 |[.int i]=>Q (.int i) H
 |[.bl k]=>Q (.int (if k=true then 1 else 0)) H
 |_=>False
theorem wG:bt X (.type "int") IQ:=by
 intro pins s σ H xs us Q I r h;rcases xs with _|⟨x,_|⟨y,ys⟩⟩
 ·exact (show False from h).elim
 ·cases x with
  |int i=>exact mW pins s σ H _ us Q I r (.inl ⟨i,rfl,h⟩)
  |bl k=>exact mW pins s σ H _ us Q I r (.inr ⟨k,rfl,h⟩)
  |_=>exact (show False from h).elim
 ·cases x<;>exact (show False from h).elim
def Ia:List V->Hp->VK->Prop:=λxs H Q=>match xs with
 |[.int i]=>i.natAbs.log2<1920/\Q (.str (toString i)) H
 |[.str z]=>Q (.str z) H
 |_=>False
theorem xv:bt X (.type "str") Ia:=by
 intro pins s σ H xs us Q I r h
 match xs,h with
 |[.int i],h=>exact nI pins s σ H _ us Q I r ⟨i,rfl,h.1,h.2⟩
 |[.str z],h =>
  obtain⟨u,rfl,t,rfl⟩:=vals1 r;exact PySem.P.str_of_str ⟨.str z,H,I,⟨_,rfl⟩,h⟩
theorem vJ(hc:X.calm=true):bt X (.builtin "sum") (λxs H Q=>∃(p:Addr) (ns:List Int),xs=[.ref p]/\a_ X.K H p (ns.map V.int)/\Q (.int ns.sum) H):=by
 intro pins s σ H xs us Q I r h;obtain⟨p,ns,rfl,hq,q⟩:=h;obtain⟨u,rfl,ru⟩:=vals1 r;cases ru;obtain⟨its,rv,pl,hz⟩:=I.list hq;have hi:=intsAre_of rv;obtain⟨xs,hx⟩:=hi.allInts.items;have hl':s.heap.IsList p (intItems xs):=by rw[<- hx];exact pl.isList
 refine sum_intListG (I.ok.hd hc) hl' λh' tk t' hk=>?_;have e1:ns=xs.toList.map (·.1):=by rw[<- nums_intItems,<- hx];exact hi.numsOf.symm
 have e2:preSum (numAt xs) xs.size=ns.sum:=by rw[preSum_eq,L9 (by simp),e1]
 rw[e2];exact⟨.int ns.sum,H,I.kept hk,⟨_,rfl⟩,q⟩
noncomputable def E3(H:Hp):V->Option String
 |.aO=>some "NoneType"
 |.bl _=>some "bool"
 |.int _=>some "int"
 |.str _=>some "str"
 |.ref a=>match H a with
  |some (.lst _)=>some "list"
  |some (.tup _)=>some "tuple"
  |some (.dK _)=>some "dict"
  |_=>none
 |_=>none
theorem Ey{x:V}(h:E3 H x=some t):ip K H x (.type t):=by
 unfold E3 at h
 split at h
 ·cases h;exact .aO
 ·cases h;exact .bl _
 ·cases h;exact .int _
 ·cases h;exact .str _
 ·split at h
  ·rename_i e;cases h;exact .lst e
  ·rename_i e;cases h;exact .tup e
  ·rename_i e;cases h;exact .dK e
  ·cases h
 ·cases h
noncomputable def vP(t c:String):Bool:=decide (t=c) || (t == "bool" && c == "int")
theorem AA{c:String}(ht:t∈["NoneType","bool","int","str","list","tuple","dict"])(hc:c∈["bool","int","str","list","tuple","dict"]):W.kitOne K (.type t) (.type c)=some (vP t c):=by
 simp only[KL,Ln,Mh] at ht hc;rcases ht with rfl|rfl|rfl|rfl|rfl|rfl|rfl<;>rcases hc with rfl|rfl|rfl|rfl|rfl|rfl<;>rfl
theorem Gx{x:V}(h:E3 H x=some t):t∈["NoneType","bool","int","str","list","tuple","dict"]:=by
 unfold E3 at h
 split at h
 ·cases h;decide
 ·cases h;decide
 ·cases h;decide
 ·cases h;decide
 ·split at h
  ·cases h;decide
  ·cases h;decide
  ·cases h;decide
  ·cases h
 ·cases h
def Gr(K:W.Frag):List V->Hp->VK->Prop:=λxs H Q=>match xs with
 |[x,.ty T]=>T∈["bool","int","str","list","tuple","dict"]/\match E3 H x with
  |some t=>Q (.bl (vP t T)) H
  |none=>∃t b,ip K H x t/\W.kitOne K t (.type T)=some b/\Q (.bl b) H
 |_=>False
theorem wk:bt X (.builtin "isinstance") (Gr X.K):=by
 intro pins s σ H xs us Q I r h;rcases xs with _|⟨x,_|⟨y,_|⟨z,xs⟩⟩⟩
 ·exact (show False from h).elim
 ·exact (show False from h).elim
 rotate_left
 ·cases y<;>exact (show False from h).elim
 cases y with
 |ty T =>
  obtain⟨u,w',rfl,r1,r2⟩:=vals2 r;cases r2;obtain⟨hT,h⟩:=h
  split at h
  ·rename_i t e;exact mV I r1 (Ey e) (AA (Gx e) hT) λtk=>⟨.bl _,H,I.tok _,rfl,h⟩
  ·obtain⟨t,b,ty,k,q⟩:=h;exact mV I r1 ty k λtk=>⟨.bl b,H,I.tok _,rfl,q⟩
 |_=>exact (show False from h).elim
theorem EG{T:String}{pos:Pos}(hg:Gl X x)(hm:X.mg x=none)(hv:bootBuiltins x=some (.type T))(hn:autoParam (x≠"__name__") ℜ1)(hd:autoParam ((x ==("__debug__":Str))=false) ℜ1):PE X (.Name x pos) (tC (.ty T)):=Di hg hm hv rfl hn hd
def rJoin(K:W.Frag):V->List V->Hp->VK->Prop:=λx vs H Q=>∃z l ys,x=.str z/\vs=[.ref l]/\a_ K H l (ys.map V.str)/\(ys.map (·.length)).sum+ys.length*z.length<=16777216/\Q (.str (Str.join z ys)) H
theorem lA:∀{ys:List Str} {us:List Value},Vals (ys.map V.str) us->StrsAre us ys
 |[],_,.nil=>.nil
 |y::ys,_,.cons r t=>by
  obtain⟨k,rfl⟩:=r;exact .cons y k (lA t)
theorem CJ:vw X "str.join" (rJoin X.K):=by
 intro pins s σ H x xs v us Q I rx rs h;obtain⟨z,l,ys,rfl,rfl,hq,hz,q⟩:=h;obtain⟨t,rfl⟩:=rx;obtain⟨u,rfl,ru⟩:=vals1 rs;cases ru;obtain⟨its,rv,pl,_⟩:=I.list hq;refine join_list pl.isList (by simpa using lA rv) hz λt' k=>?_
 have e:Txt.join z ys=Str.join z ys:=StrLaws.glued_eq_join z ys;rw[e];exact⟨.str _,H,I.tok _,⟨_,rfl⟩,q⟩
end
section
variable {X:Cx} {e:Expr} {te:TE}
theorem u9(p:Nat->Bool):∀(l:List Nat),l.drop (l.takeWhile p).length=l.dropWhile p
 |[]=>rfl
 |x::l=>by
  by_cases h:p x
  ·simp[OE,ND,h,u9 p l]
  ·simp[OE,ND,h]
end
open AutoSeq1 (wpAny_loadPart')
section
variable {prog:Program} {w:World} {A:Around} {E:Value->Shared->Prop} {s:Shared}
theorem jE{it l:Addr}{x:Value}(hit:s.heap.IsTupleIter it l i)(hl:s.heap.IsTuple l items)(hx:items[i]?=some x)
  (hQ:∀h',h'.IsTupleIter it l (i+1)->Heap.SameBut it s.heap h'->Q x {s with heap:=h'}):wpAny (model prog w) A (Builtin.SmallTypes.nextOf (.ref it)) Q E s:=by
 obtain⟨o,ho,hc,hd⟩:=id hit;obtain⟨ol,hol,_,nl,hdl⟩:=hl;unfold Builtin.SmallTypes.nextOf;refine K4 (LO (name:=Str.ofString "__next__") hit.typeIs MQ (LV MQ hit.typeIs OR ?_ (OI _)));show wpAny _ _ (field (.ref it) 0 >>= _) _ _ s;refine K4 (Nv ho hd (x:=.ref l) rfl ?_);show wpAny _ _ (if (Value.ref l == Value.none)=true then _ else _) _ _ s
 rw[KJ (show ¬ ((Value.ref l == Value.none)=true) from KP)];show wpAny _ _ (field (.ref it) 1 >>= _) _ _ s;refine K4 (Nv ho hd (x:=.int i 0) rfl ?_);show wpAny _ _ (seqItems? (.ref l) >>= _) _ _ s;refine K4 (N1 hol hdl ?_);simp only[Lg,hx];refine K4 (OJ ho hd (by simp) (KR ⟨x,rfl,KR (hQ _ ?_ (Mi ..))⟩))
 exact⟨_,Nz _ ho (Obj.isFreed_of_fields (NP hd _)),(Obj.cls_mapFields ..).trans hc,by rw[NP hd];simp[rawInt]⟩
theorem lE{it l:Addr}(hh:A.handled=none)(hit:s.heap.IsTupleIter it l i)(hl:s.heap.IsTuple l items)(hx:items[i]?=none)
  (hE:∀h' e,Heap.ExtBut it s.heap h'->(∃o,h'.get? e=some o/\o.cls=.type "StopIteration")->E (.ref e) {s with heap:=h'}):wpAny (model prog w) A (Builtin.SmallTypes.nextOf (.ref it)) Q E s:=by
 obtain⟨o,ho,hc,hd⟩:=id hit;obtain⟨ol,hol,_,nl,hdl⟩:=hl;unfold Builtin.SmallTypes.nextOf;refine K4 (LO (name:=Str.ofString "__next__") hit.typeIs MQ (LV MQ hit.typeIs OR ?_ (OI _)));show wpAny _ _ (field (.ref it) 0 >>= _) _ _ s;refine K4 (Nv ho hd (x:=.ref l) rfl ?_);show wpAny _ _ (if (Value.ref l == Value.none)=true then _ else _) _ _ s
 rw[KJ (show ¬ ((Value.ref l == Value.none)=true) from KP)];show wpAny _ _ (field (.ref it) 1 >>= _) _ _ s;refine K4 (Nv ho hd (x:=.int i 0) rfl ?_);show wpAny _ _ (seqItems? (.ref l) >>= _) _ _ s;refine K4 (N1 hol hdl ?_);simp only[Lg,hx];refine K4 (Pj (K4 (OJ ho hd (by simp) ?_)))
 show wpAny _ _ (newExc (.type "StopIteration") [] >>= _) _ _ _;refine K4 ?_;simp only[newExc,newTuple];refine K4 (Mr ?_ (by size_fits))
 refine K4 (m:=firstArgMember _ _) (wpAny_of_eq (a:=Value.none) (by first|rfl | (simp only[firstArgMember];rfl)) ?_)
 refine Mr ?_ (by size_fits)
 simp only[raiseNew];refine K4 (wpAny_handled ?_)
 first|rw[show A.in1.handled=none from hh]|rw[hh]
 refine K4 (KR (wpAny_throw ?_));exact hE _ _ (((Mi ..).extBut.push _).push _) ⟨_,La _ rfl,rfl⟩
theorem jb(hh:A.handled=none)(it l:Addr)(hne:l≠it)(items:Array Value):
  Draws prog w A it [it,l] items.size (λi v=>items[i]?=some v) (λi h=>h.IsTupleIter it l i/\h.IsTuple l items) where
 live:=λ_ _ st=>let ⟨o,ho,_⟩:=st.1;⟨o,ho⟩
 frame:=λ_ _ _ st hk=>⟨let ⟨o,e,r⟩:=st.1;⟨o,hk it (by simp) o e,r⟩,let ⟨o,e,r⟩:=st.2;⟨o,hk l (by simp) o e,r⟩⟩
 item:=λi s Q E hi st hQ=>by
  refine jE st.1 st.2 (x:=items[i]) (by simp[hi]) λh' hit' hs'=>?_
  exact hQ _ h' s.toks (by simp[hi]) ⟨hit',st.2.extBut hs'.extBut hne⟩ hs'
 done:=λs Q E st hE=>lE hh st.1 st.2 (by simp) hE
theorem kJ(l:Addr)(items:Array Value)(n:Nat)(dct:Option Addr)(sl:Array (Option Value)):
  Meets (Builtin.«enumerate.__new__» ⟨[.type "enumerate",.ref l],[]⟩) (λ_ R s=>s.heap.get? l=some {cls:=.type "tuple",dict:=dct,data:=.seq items n,slots:=sl} /\
   R (.ok (.ret (.ref (s.heap.push {cls:=.type "tuple_iterator",data:=.fields #[.ref l,.int 0 0]}).objs.size)))
    {s with heap:=(s.heap.push {cls:=.type "tuple_iterator",data:=.fields #[.ref l,.int 0 0]}).push {cls:=.type "enumerate",data:=.fields #[.none,.bool false,.ref s.heap.objs.size,rawInt 0,.none,.none]}}):=
 .of_wp λprog w A R s h=>by
  obtain⟨hp,g,d,tk,os⟩:=s;obtain⟨hl,h⟩:=h;have hsub:=sub_enumerate;have hL:Heap.IsTuple (Shared.heap ⟨hp,g,d,tk,os⟩) l items:=⟨_,hl,rfl,n,rfl⟩;wp_walk using O6 hl;refine wpAny_stack_any λst=>KR ?_;split
  ·rename_i c _ _ _ _ _
   cases (c == Value.type "enumerate")<;>(wp_walk using O6 hl,Np hL;exact⟨_,rfl,h⟩)
  ·wp_walk using O6 hl,Np hL;exact⟨_,rfl,h⟩
theorem mq{l:Addr}(hL:s.heap.IsTuple l items)
  (h:∀h',IsEnum h' (s.heap.objs.size+1) s.heap.objs.size 0 .none->h'.IsTupleIter s.heap.objs.size l 0->h'.objs.size=s.heap.objs.size+2 ->
   (∀b o,s.heap.get? b=some o->h'.get? b=some o)->Q (.ref (s.heap.objs.size+1)) {s with heap:=h'}) :
  wpAny (model prog w) A (call (.type "enumerate") [.ref l]) Q E s:=by
 obtain⟨⟨c,dct,dt,sl⟩,hl,hc,n,hd⟩:=hL
 replace hc:c=.type "tuple":=hc
 replace hd:dt=.seq items n:=hd
 subst hc hd;refine P1 F.called_enumerate (by decide) (F.typeCall_enumerate_1 _) (F.newCall_enumerate_1 _) (λobj=>F.args_object_init_2 obj _) F.entry_enumerate_new (kJ l items n dct sl) ⟨hl,?_⟩
 have hz:(s.heap.push {cls:=.type "tuple_iterator",data:=.fields #[.ref l,.int 0 0]}).objs.size=s.heap.objs.size+1:=Mq ..;show _/\_;rw[hz];have he:IsEnum ((s.heap.push {cls:=.type "tuple_iterator",data:=.fields #[.ref l,.int 0 0]}).push {cls:=.type "enumerate",data:=.fields #[.none,.bool false,.ref s.heap.objs.size,rawInt 0,.none,.none]}) (s.heap.objs.size+1) s.heap.objs.size 0 .none:=by
  have:=La (s.heap.push {cls:=.type "tuple_iterator",data:=.fields #[.ref l,.int 0 0]}) (o:={cls:=.type "enumerate",data:=.fields #[.none,.bool false,.ref s.heap.objs.size,rawInt 0,.none,.none]}) rfl;rw[hz] at this;exact this
 refine⟨⟨_,he,rfl⟩,h _ he ⟨_,K9 _ (La _ rfl),rfl,rfl⟩ (by rw[Mq,hz]) λb o x=>K9 _ (K9 _ x)⟩
end
section
variable {X:Cx} {pins:List (Addr×Obj)} {σ:St} {H:Hp} {s:Shared} {h':Heap}
theorem Inv.turns{t':Nat}(I:Inv X pins σ H s)(hf:∀b∈fp,m6 X pins H b)(k:∀b o,b∉fp->s.heap.get? b=some o->h'.get? b=some o):Inv X pins σ H {s with heap:=h',toks:=t'}:=by
 have nf:∀b u,H b=some u->b∉fp:=λb u e z=>by rw[(hf b z).1] at e;cases e
 refine I.step (g':=s.gens) (d':=s.drawn) (ch:=fp) (λb hb=>?_) (λb o _ _ hc e _=>k b o hc e) (λb o _ _ hc e _=>⟨o.slots,k b o hc e⟩) (λ_ _ _ _ n=>n)
  (λb o hc e=>⟨o,k b o hc e⟩) (λ_ _ e=>e) (λ_ _ _ e=>e) (λb ps e=>⟨#[],by rw[e];simp⟩) (λm hm=>?_) (λb u e=>?_) I.bare
 ·obtain⟨_,g1,g2,g3,g4,g5⟩:=hf b hb;exact⟨g3,g1,g4,g5⟩
 ·obtain⟨o,es,ep,ho,r⟩:=hm;exact⟨o,es,ep,k _ o (λz=>(hf _ z).2.1 rfl) ho,r⟩
 ·refine (I.bg b u e).n_ (λc v hc q=>k c v ?_ q) (λ_ q=>q) (λ_ _ q=>q) λ_ _ _ q=>q;rcases hc with z|z
  ·rw[z];exact nf b u e
  ·exact nf c _ z
theorem Inv.nY{t':Nat}(I:Inv X pins σ H s)(hf:∀b∈fp,m6 X pins H b)(hp:s.heap.objs.size<=p)(k:∀b o,b∉fp->s.heap.get? b=some o->h'.get? b=some o)
  (new:bw X.prog X.w (upd H p o) h' p o):Inv X pins σ (upd H p o) {s with heap:=h',toks:=t'}:=by
 have nf:∀b u,H b=some u->b∉fp:=λb u e z=>by rw[(hf b z).1] at e;cases e
 have fr:H p=none:=I.bg.fresh hp;have np:∀b u,H b=some u->b≠p:=λb u e=>ae e fr;have ne:∀b o,s.heap.get? b=some o->b≠p:=λb o e z=>by rw[z] at e;exact absurd (Ls (Lb e) hp) (MC _)
 refine I.step (g':=s.gens) (d':=s.drawn) (ch:=fp) (λb hb=>?_) (λb o _ _ hc e _=>k b o hc e) (λb o _ _ hc e _=>⟨o.slots,k b o hc e⟩) (λb o _ e n=>by rw[af (ne b o e)];exact n)
  (λb o hc e=>⟨o,k b o hc e⟩) (λb xs e=>by rw[af (np b _ e)];exact e) (λb o u e=>by rw[af (np b _ e)];exact e) (λb ps e=>⟨#[],by rw[af (np b _ e),e];simp⟩) (λm hm=>?_) (λb u e=>?_) I.bare
 ·obtain⟨_,g1,g2,g3,g4,g5⟩:=hf b hb;exact⟨g3,g1,g4,g5⟩
 ·obtain⟨o,es,ep,ho,r⟩:=hm;exact⟨o,es,ep,k _ o (λz=>(hf _ z).2.1 rfl) ho,r⟩
 ·by_cases hb:b=p
  ·subst hb;rw[aa] at e;cases e;exact new
  ·rw[af hb] at e;refine (I.bg b u e).n_ (λc v hc q=>k c v ?_ q) (λc q=>by rw[af (np c _ q)];exact q) (λc xs q=>by rw[af (np c _ q)];exact q) λc _ _ q=>by rw[af (np c _ q)];exact q
   rcases hc with z|z
   ·rw[z];exact nf b u e
   ·exact nf c _ z
end
def getL(K:W.Frag)(a:Addr):Nat->Hp->V->Prop:=λi H x=>∃xs,a_ K H a xs/\xs[i]?=some x
def J9(K:W.Frag)(a:Addr):Nat->Hp->V->Prop:=λi H x=>∃xs,aX K H a xs/\xs[i]?=some x
def Jh(K:W.Frag)(a:Addr):Nat->Hp->Prop:=λi H=>∃xs,a_ K H a xs/\xs.length=i
def J8(K:W.Frag)(a:Addr):Nat->Hp->Prop:=λi H=>∃xs,aX K H a xs/\xs.length=i
def yj(K:W.Frag)(a:Addr):It:=
 ⟨λi H=>∃x,J9 K a i H x,λi H x H'=>∃p y,(∀xs,aX K H a xs->xs[i]?=some y)/\H p=none/\x=.ref p/\H'=upd H p (.tup [.int i,y]),J8 K a⟩
theorem sZ{tk:Nat}{tp:Pos}(a it e:Addr)(hne:e≠it):Turn P w K (.Tuple es tk tp) (yj K a) [e,it] e (λi h=>(∃old,IsEnum h e it i old)/\h.IsTupleIter it a i) where
 mem:=by simp
 obj:=λi h st b hb=>by
  obtain⟨⟨old,he⟩,o,eo,c,d⟩:=st;rcases KL.mp hb with z|z
  ·subst z;exact⟨_,he,λv z=>by cases z⟩
  ·have z:b=it:=by simpa using z
   subst z;exact⟨o,eo,λv z=>by rw[d] at z;cases z⟩
 keep:=λi h h' st k=>by
  obtain⟨⟨old,he⟩,o,eo,r⟩:=st;exact⟨⟨old,k e (by simp) _ he⟩,o,k it (by simp) o eo,r⟩
 item:=by
  intro X hP hw hK hc i pins s σ H E I hf st hg;subst hP hw hK;obtain⟨x,xs,hq,hx⟩:=hg;obtain⟨⟨old,he⟩,hit⟩:=st;obtain⟨its,rv,p,hz⟩:=I.tuple hq;obtain⟨u,hu,ru⟩:=rv.get hx;obtain⟨g0,g1,g2,g3,g4,g5⟩:=hf e (by simp)
  obtain⟨f0,f1,f2,f3,f4,f5⟩:=hf it (by simp)
  have ht:s.heap.IsTuple a its.toArray:=p;have ha:a≠it:=by
   rintro rfl;obtain⟨o,e1,c1,_⟩:=hit;obtain⟨o',e2,c2,_⟩:=ht;rw[e1] at e2;cases e2;rw[c1] at c2;exact absurd (Value.type.inj c2) (by decide)
  have hea:e≠a:=by
   rintro rfl;obtain⟨o',e2,c2,_⟩:=ht;have e1:s.heap.get? e=some _:=he;rw[e1] at e2;cases e2;exact absurd (Value.type.inj c2) (by decide)
  have hi:i<its.toArray.size:=by
   have:=(K7.mp hu).1
   simpa using this
  refine PB (jb (A:=X.A.in1) (I.ok.hd hc) it a ha its.toArray) he ⟨hit,ht⟩ hi hne (by simp[hne,hea]) λx' h' tk' hP ho hs' hT hsz hk=>?_
  have ex:x'=u:=by
   have hP':its.toArray[i]?=some x':=hP;rw[LY,hu] at hP';exact (Option.some.inj hP').symm
  subst ex;refine⟨.ref s.heap.objs.size,rfl,OY ho λh2 he2 hs2=>?_⟩;have fr:H s.heap.objs.size=none:=I.bg.fresh (KH _);have hle:e≠s.heap.objs.size:=Ll (Lb he);have hT2:h2.get? s.heap.objs.size=some {cls:=.type "tuple",data:=.seq #[.int i tk',x']}:=(hs2.2 _ (Mc hle)).trans hT;have I2:Inv X pins σ (upd H s.heap.objs.size (.tup [.int i,x])) {s with heap:=h2,toks:=tk'+1}:=by
   refine I.nY (fp:=[e,it]) hf (KH _) (λb o hb eb=>?_) ⟨by show 2<=sizeLine;decide,[.int i tk',x'],.cons ⟨_,rfl⟩ (.cons ru .nil),⟨_,hT2,rfl,_,rfl,rfl⟩⟩
   have n1:b≠e:=λz=>hb (by simp[z])
   have n2:b≠it:=λz=>hb (by simp[z])
   exact (hs2.2 b n1).trans (hk b o n1 n2 eb)
  refine⟨.ref s.heap.objs.size,_,I2,rfl,⟨s.heap.objs.size,x,λys hy=>by rw[I.jf hy hq];exact hx,fr,rfl,rfl⟩,⟨⟨x',?_⟩,?_⟩,λb hb=>?_⟩
  ·have e:(((i+1:Nat)):Int)=(i:Int)+1:=by lia
   rw[e];exact he2
  ·obtain⟨o,e1,r⟩:=hs'.1;exact⟨o,(hs2.2 it (Mc hne)).trans e1,r⟩
  ·have n:b≠s.heap.objs.size:=by
    rcases KL.mp hb with z|z
    ·subst z;exact hle
    ·have z:b=it:=by simpa using z
     subst z;obtain⟨o,e1,_⟩:=hit;exact Ll (Lb e1)
   rw[af n];exact (hf b hb).1
 done:=by
  intro X hP hw hK hc i pins s σ H E I hf st hg;subst hP hw hK;obtain⟨xs,hq,hx⟩:=hg;obtain⟨⟨old,he⟩,hit⟩:=st;obtain⟨its,rv,p,hz⟩:=I.tuple hq;have ht:s.heap.IsTuple a its.toArray:=p;have ha:a≠it:=by
   rintro rfl;obtain⟨o,e1,c1,_⟩:=hit;obtain⟨o',e2,c2,_⟩:=ht;rw[e1] at e2;cases e2;rw[c1] at c2;exact absurd (Value.type.inj c2) (by decide)
  have hl:=rv.length;have hsz:its.toArray.size=i:=by simp;lia
  refine PY (jb (A:=X.A.in1) (I.ok.hd hc) it a ha its.toArray) he (by rw[hsz];exact⟨hit,ht⟩) λh' eb=>⟨rfl,?_⟩
  exact I.turns (t':=s.toks) hf λb o hb e1=>eb b o (λz=>hb (by simp[z])) e1
 self:=λA i s Q E st h=>by
  obtain⟨⟨old,he⟩,_⟩:=st;exact Oa he h
section
variable {X:Cx} {es:List Expr} {tk:Nat} {tp:Pos}
def pR(K:W.Frag)(ta:TA):TI:=λσ H R=>ta σ H λvs H1=>∃a,vs=[.ref a]/\(∃xs,aX K H1 a xs)/\R (yj K a) H1
theorem BP{p pos:Pos}(hg:Gl X "enumerate")(hm:X.mg "enumerate"=none)(ha:PA X [e] ta)(h1:autoParam (dY e=true) ℜ0)(hv:autoParam (bootBuiltins "enumerate"=some (.type "enumerate")) ℜ6):
  PI X (.Tuple es tk tp) (.Call (.Name "enumerate" p) [e] [] pos) (pR X.K ta):=by
 intro pins s σ H R I h;refine Call_ (eX I hg hm hv (LN (bS (ha pos pins s σ H _ I h) λus s1 hq1=>?_) (cz h1) rfl));obtain⟨vs,H1,I1,r1,q1⟩:=hq1;obtain⟨a,e,⟨xs,hq⟩,q⟩:=q1;subst e;obtain⟨u,rfl,ru⟩:=vals1 r1;cases ru;obtain⟨its,rv,pt,hz⟩:=I1.tuple hq;refine mq (show s1.heap.IsTuple a its.toArray from pt) λh' he hit hsz hk=>?_;refine Oa he ?_;have I2:Inv X pins σ H1 {s1 with heap:=h'}:=I1.kept (t':=s1.toks) hk
 refine⟨s1.heap.objs.size+1,[s1.heap.objs.size+1,s1.heap.objs.size],_,_,H1,rfl,I2,sZ a s1.heap.objs.size (s1.heap.objs.size+1) (Ms (Ot _)),⟨⟨_,he⟩,hit⟩,λb hb=>?_,q⟩;have hb':s1.heap.objs.size<=b:=by
  rcases KL.mp hb with z|z
  ·rw[z];exact M0 _
  ·have z:b=s1.heap.objs.size:=by simpa using z
   rw[z];exact KH _
 exact I1.p6 hb' (I1.bg.fresh hb')
def zJ(K:W.Frag)(tl:TE):TI:=λσ H R=>tl σ H λx H1=>match x with
 |.ref a=>match sq H1 a with
  |some (true,_)=>R (xB K a) H1
  |some (false,_)=>R (tX K a) H1
  |none=>(∃xs,aX K H1 a xs)/\R (tX K a) H1
 |_=>False
theorem Gf{l:Expr}(hl:PE X l tl):PI X tg l (zJ X.K tl):=by
 intro pins s σ H R I h;refine bS (hl pins s σ H _ I h) λv s1 hq2=>?_;obtain⟨x,H1,I1,r1,q1⟩:=hq2;obtain⟨a,rfl,q⟩:∃a,x=V.ref a/\(((∃xs,a_ X.K H1 a xs)/\R (xB X.K a) H1)\/((∃xs,aX X.K H1 a xs)/\R (tX X.K a) H1)):=by
  match x,q1 with
  |.ref a,q1 =>
   simp only at q1
   split at q1
   ·rename_i xs e;exact⟨a,rfl,.inl ⟨⟨xs,gI e⟩,q1⟩⟩
   ·rename_i xs e;exact⟨a,rfl,.inr ⟨⟨xs,gy e⟩,q1⟩⟩
   ·exact⟨a,rfl,.inr q1⟩
 cases r1;rcases q with ⟨⟨xs,hq⟩,q⟩|⟨⟨xs,hq⟩,q⟩
 ·obtain⟨its,rv,p,hz⟩:=I1.list hq;refine Ob p.isList ?_;refine⟨s1.heap.objs.size,[s1.heap.objs.size],_,_,H1,rfl,I1.kept (t':=s1.toks) λb o e=>K9 _ e,nr a _,⟨_,La _ rfl,rfl,rfl⟩,λb hb=>?_,q⟩;have e:b=s1.heap.objs.size:=by simpa using hb
  subst e;exact I1.p6 (KH _) (I1.bg.fresh (KH _))
 ·obtain⟨its,rv,p,hz⟩:=I1.tuple hq;refine Np (show s1.heap.IsTuple a its.toArray from p) ?_;refine⟨s1.heap.objs.size,[s1.heap.objs.size],_,_,H1,rfl,I1.kept (t':=s1.toks) λb o e=>K9 _ e,lT a _,⟨_,La _ rfl,rfl,rfl⟩,λb hb=>?_,q⟩;have e:b=s1.heap.objs.size:=by simpa using hb
  subst e;exact I1.p6 (KH _) (I1.bg.fresh (KH _))
end
def qP(J:It)(g:TG)(tb:TS)(D:Ends)(σ:St)(H:Hp):Prop:=∃W:Nat->Nat->St->Hp->Prop,(∃m,W 0 m σ H)/\∀i m σ H,W i m σ H ->
 (J.stop i H/\D.nx σ H)\/(J.go i H/\∃N:St->Hp->Prop,(∀σ' H',N σ' H'->∃m',m'<m/\W (i+1) m' σ' H')/\∀x H',J.Eo i H x H'->g x σ H' λσ2 H2=>tb {D with nx:=N,ct:=N,bk:=D.nx} σ2 H2)
theorem Ci(wi:TI)(g:TG)(tb:TS)(D:Ends)(σ:St)(H:Hp):GC wi g tb D σ H=wi σ H λJ H1=>qP J g tb D σ H1:=rfl
def gU(J:It)(k:Nat)(g:TG)(tc:TT)(te:TE)(Q:VK)(σ:St)(H1:Hp):Prop:=∀D,H1 D=none ->
 ∃W:Nat->Nat->List V->St->Hp->Prop,(∃m,W 0 m [] (List.replicate k none++σ) (upd H1 D (.lst [])))/\∀i m ys σ' H',W i m ys σ' H'->H' D=some (.lst ys) /\
  ((J.stop i H'/\Q (.ref D) H')\/(J.go i H'/\ys.length<sizeLine/\∀x H2,J.Eo i H' x H2->g x σ' H2 λσ3 H3=>tc σ3 H3 λb H4 =>
   if b=true then te σ3 H4 λv H5=>H5 D=some (.lst ys)/\∃m',m'<m/\W (i+1) m' (ys++[v]) σ3 (upd H5 D (.lst (ys++[v])))
   else ∃m',m'<m/\W (i+1) m' ys σ3 H4))
theorem zj(wi:TI)(k:Nat)(g:TG)(tc:TT)(te:TE)(σ:St)(H:Hp)(Q:VK):i7 wi k g tc te σ H Q=wi σ H λJ H1=>gU J k g tc te Q σ H1:=rfl
section
variable {K:W.Frag} {g:TG} {tb:TS} {D:Ends} {σ:St} {H:Hp} {te:TE} {Q:VK}
theorem fj(Pv:Nat->St->Hp->Prop)(h0:Pv 0 σ H)(hl:∀i σ H,i<=xs.length->Pv i σ H->a_ K H a xs)
  (hs:∀i x σ H,xs[i]?=some x->Pv i σ H->g x σ H λσ2 H2=>tb {D with nx:=Pv (i+1),ct:=Pv (i+1),bk:=D.nx} σ2 H2) (hd:∀σ H,Pv xs.length σ H->D.nx σ H):qP (xB K a) g tb D σ H:=AR Pv h0 hl hs hd
theorem pq(Pv:Nat->St->Hp->Prop)(h0:Pv 0 σ H)(hl:∀i σ H,i<=xs.length->Pv i σ H->aX K H a xs)
  (hs:∀i x σ H,xs[i]?=some x->Pv i σ H->g x σ H λσ2 H2=>tb {D with nx:=Pv (i+1),ct:=Pv (i+1),bk:=D.nx} σ2 H2) (hd:∀σ H,Pv xs.length σ H->D.nx σ H):qP (tX K a) g tb D σ H:=D8 Pv h0 hl hs hd
theorem bL{n:Nat}(Pv:Nat->St->Hp->Prop)(h0:Pv 0 σ H)
  (hs:∀i σ H,i<n->Pv i σ H->g (.int (lo+i)) σ H λσ2 H2=>tb {D with nx:=Pv (i+1),ct:=Pv (i+1),bk:=D.nx} σ2 H2) (hd:∀σ H,Pv n σ H->D.nx σ H):qP (xH lo n) g tb D σ H:=wx Pv h0 hs hd
theorem tF(Pv:Nat->St->Hp->Prop)(h0:Pv 0 σ H)(hl:∀i σ H,i<=xs.length->Pv i σ H->aX K H a xs)
  (hs:∀i x σ H p,xs[i]?=some x->Pv i σ H->H p=none->g (.ref p) σ (upd H p (.tup [.int i,x])) λσ2 H2=>tb {D with nx:=Pv (i+1),ct:=Pv (i+1),bk:=D.nx} σ2 H2) (hd:∀σ H,Pv xs.length σ H->D.nx σ H) :
  qP (yj K a) g tb D σ H:=by
 refine⟨λi m σ H=>m=xs.length-i/\i<=xs.length/\Pv i σ H,⟨xs.length,by simp,KW _,h0⟩,?_⟩
 rintro i m σ H ⟨rfl,hi,p⟩;have q:=hl i σ H hi p;by_cases hlt:i<xs.length
 ·refine .inr ⟨⟨xs[i],xs,q,by simp[hlt]⟩,Pv (i+1),λσ' H' p'=>⟨xs.length-(i+1),by lia,rfl,hlt,p'⟩,λx H' y=>?_⟩
  obtain⟨b,y,hy,fr,rfl,rfl⟩:=y;exact hs i y σ H b (hy xs q) p fr
 ·have e:i=xs.length:=by lia
  subst e;exact .inl ⟨⟨xs,q,rfl⟩,hd σ H p⟩
theorem j6{n:Nat}(hn:n<=sizeLine)(Pv:Addr->Nat->List V->Hp->Prop)(h0:∀D,H D=none->Pv D 0 [] (upd H D (.lst [])))(hD:∀D i ys H',Pv D i ys H'->H' D=some (.lst ys)/\ys.length=i)
  (hs:∀D i ys H' (R:VK),i<n->Pv D i ys H'->(∀v H5,H5 D=some (.lst ys)->Pv D (i+1) (ys++[v]) (upd H5 D (.lst (ys++[v])))->R v H5)->te (some (.int (lo+i))::σ) H' R) (hd:∀D ys H',Pv D n ys H'->Q (.ref D) H') :
  gU (xH lo n) 1 (aL 0) dh te Q σ H:=by
 intro D hD0;refine⟨λi m ys σ' H'=>m=n-i/\i<=n/\Pv D i ys H'/\∃o,σ'=o::σ,⟨n,by simp,KW _,h0 D hD0,none,rfl⟩,?_⟩
 rintro i m ys σ' H' ⟨rfl,hi,p,o,rfl⟩;obtain⟨hDi,hly⟩:=hD _ _ _ _ p;refine⟨hDi,?_⟩;by_cases hlt:i<n
 ·refine .inr ⟨hlt,by lia,λx H2 y=>?_⟩
  obtain⟨rfl,rfl⟩:=y;unfold aL dh;dsimp only;rw[if_pos rfl];exact hs D i ys H2 _ hlt p λv H5 q1 q2=>⟨q1,n-(i+1),by lia,rfl,hlt,q2,_,rfl⟩
 ·have e:i=n:=by lia
  subst e;exact .inl ⟨KH _,hd D ys H' p⟩
theorem bF(hn:xs.length<=sizeLine)(Pv:Addr->Nat->List V->Hp->Prop)(h0:∀D,H D=none->Pv D 0 [] (upd H D (.lst [])))(hD:∀D i ys H',Pv D i ys H'->H' D=some (.lst ys)/\ys.length=i)
  (hl:∀D i ys H',Pv D i ys H'->aX K H' a xs)
  (hs:∀D i ys H' x (R:VK),xs[i]?=some x->Pv D i ys H'->(∀v H5,H5 D=some (.lst ys)->Pv D (i+1) (ys++[v]) (upd H5 D (.lst (ys++[v])))->R v H5)->te (some x::σ) H' R) (hd:∀D ys H',Pv D xs.length ys H'->Q (.ref D) H') :
  gU (tX K a) 1 (aL 0) dh te Q σ H:=by
 intro D hD0;refine⟨λi m ys σ' H'=>m=xs.length-i/\i<=xs.length/\Pv D i ys H'/\∃o,σ'=o::σ,⟨xs.length,by simp,KW _,h0 D hD0,none,rfl⟩,?_⟩
 rintro i m ys σ' H' ⟨rfl,hi,p,o,rfl⟩;obtain⟨hDi,hly⟩:=hD _ _ _ _ p;have q:=hl _ _ _ _ p;refine⟨hDi,?_⟩;by_cases hlt:i<xs.length
 ·refine .inr ⟨⟨xs,xs[i],q,by simp[hlt]⟩,by lia,λx H2 y=>?_⟩
  obtain⟨rfl,y⟩:=y;unfold aL dh;dsimp only;rw[if_pos rfl];exact hs D i ys H2 x _ (y xs q) p λv H5 q1 q2=>⟨q1,xs.length-(i+1),by lia,rfl,hlt,q2,_,rfl⟩
 ·have e:i=xs.length:=by lia
  subst e;exact .inl ⟨⟨xs,q,KH _⟩,hd D ys H' p⟩
end
namespace Ap
theorem wZ(i:Nat)(σ:St)(H:Hp)(Q:VK):L2.wZ i σ H Q=∃v,σ[i]?=some (some v)/\Q v H:=rfl
theorem tC(v:V)(σ:St)(H:Hp)(Q:VK):L2.tC v σ H Q=Q v H:=rfl
theorem Aa(r:R2)(ta tb:TE)(σ:St)(H:Hp)(Q:VK):L2.Aa r ta tb σ H Q=ta σ H λx H1=>tb σ H1 λy H2=>r x y H2 Q:=rfl
theorem IE(r:V->Hp->VK->Prop)(ta:TE)(σ:St)(H:Hp)(Q:VK):L2.IE r ta σ H Q=ta σ H λx H1=>r x H1 Q:=rfl
theorem lW(t:TE)(σ:St)(H:Hp)(Q:Bool->Hp->Prop):L2.lW t σ H Q=t σ H λx H'=>∃k,x=.bl k/\Q k H':=rfl
theorem HW(t:TT)(ta tb:TE)(σ:St)(H:Hp)(Q:VK):L2.HW t ta tb σ H Q=t σ H λc H1=>if c=true then ta σ H1 Q else tb σ H1 Q:=rfl
theorem Ab(t u:TT)(σ:St)(H:Hp)(Q:Bool->Hp->Prop):L2.Ab t u σ H Q=t σ H λc H1=>if c=true then u σ H1 Q else Q false H1:=rfl
theorem Hg(t u:TT)(σ:St)(H:Hp)(Q:Bool->Hp->Prop):L2.Hg t u σ H Q=t σ H λc H1=>if c=true then Q true H1 else u σ H1 Q:=rfl
theorem yS(t:TT)(σ:St)(H:Hp)(Q:Bool->Hp->Prop):L2.yS t σ H Q=t σ H λc H1=>Q (!c) H1:=rfl
theorem ie(r r':R2)(ta tb tc:TE)(σ:St)(H:Hp)(Q:VK):L2.ie r r' ta tb tc σ H Q=ta σ H λx H1=>tb σ H1 λy H2=>r x y H2 λz H3=>∃k,z=.bl k/\(if k=true then tc σ H3 λw' H4=>r' y w' H4 Q else Q (.bl false) H3):=rfl
theorem tK(vs:List V)(σ:St)(H:Hp)(Q:List V->Hp->Prop):L2.tK vs σ H Q=Q vs H:=rfl
theorem mB(σ:St)(H:Hp)(Q:List V->Hp->Prop):L2.mB σ H Q=Q [] H:=rfl
theorem j0(ta:TE)(tr:TA)(σ:St)(H:Hp)(Q:List V->Hp->Prop):L2.j0 ta tr σ H Q=ta σ H λx H1=>tr σ H1 λxs H2=>Q (x::xs) H2:=rfl
theorem Al(t:TA)(σ:St)(H:Hp)(Q:VK):L2.Al t σ H Q=t σ H λxs H1=>xs.length<=sizeLine/\∀p,H1 p=none->Q (.ref p) (upd H1 p (.tup xs)):=rfl
theorem zg(t:TA)(σ:St)(H:Hp)(Q:VK):L2.zg t σ H Q=t σ H λxs H1=>xs.length<=sizeLine/\∀p,H1 p=none->Q (.ref p) (upd H1 p (.lst xs)):=rfl
theorem gT(sp:Sp)(dvs:List V)(E:XK)(t:TA)(σ:St)(H:Hp)(Q:VK):L2.gT sp dvs E t σ H Q=t σ H λvs H1=>sp (vs++dvs) H1 Q E:=rfl
theorem zM(r:List V->Hp->VK->Prop)(t:TA)(σ:St)(H:Hp)(Q:VK):L2.zM r t σ H Q=t σ H λvs H1=>r vs H1 Q:=rfl
theorem Ga(K:W.Frag)(T:String)(r:V->List V->Hp->VK->Prop)(to:TE)(t:TA)(σ:St)(H:Hp)(Q:VK):L2.Ga K T r to t σ H Q=to σ H λx H1=>GX K T x H1/\t σ H1 λxs H2=>r x xs H2 Q:=rfl
theorem xZ(K:W.Frag)(T:String)(r:V->List V->Hp->VK->Prop)(to:TE)(σ:St)(H:Hp)(Q:VK):L2.xZ K T r to σ H Q=to σ H λx H1=>GX K T x H1/\r x [] H1 Q:=rfl
theorem Ib(r:V->Option Int->Option Int->Hp->VK->Prop)(te:TE)(tl th:TO)(σ:St)(H:Hp)(Q:VK):L2.Ib r te tl th σ H Q=te σ H λx H1=>tl σ H1 λl H2=>th σ H2 λu H3=>r x l u H3 Q:=rfl
theorem iT(σ:St)(H:Hp)(Q:Option Int->Hp->Prop):L2.iT σ H Q=Q none H:=rfl
theorem pU(t:TE)(σ:St)(H:Hp)(Q:Option Int->Hp->Prop):L2.pU t σ H Q=t σ H λx H1=>∃i,x=.int i/\Q (some i) H1:=rfl
theorem wz(t u:TS)(D:Ends)(σ:St)(H:Hp):L2.wz t u D σ H=t {D with nx:=u D} σ H:=rfl
theorem lQ(te:TE)(g:TG)(D:Ends)(σ:St)(H:Hp):L2.lQ te g D σ H=te σ H λx H1=>g x σ H1 D.nx:=rfl
theorem aL(i:Nat)(v:V)(σ:St)(H:Hp)(Q:St->Hp->Prop):L2.aL i v σ H Q=Q (σ.set i (some v)) H:=rfl
theorem z_(to ti:TE)(t:By)(v:V)(σ:St)(H:Hp)(Q:St->Hp->Prop):L2.z_ to ti t v σ H Q=to σ H λo H1=>ti σ H1 λi H2=>t o i v H2 λH3=>Q σ H3:=rfl
theorem kB(K:W.Frag)(n:Nat)(t:xF)(v:V)(σ:St)(H:Hp)(Q:St->Hp->Prop):L2.kB K n t v σ H Q=∃a xs,v=.ref a/\aX K H a xs/\xs.length=n/\t xs σ H Q:=rfl
theorem d9(t:TG)(u:xF)(v:V)(vs:List V)(σ:St)(H:Hp)(Q:St->Hp->Prop):L2.d9 t u (v::vs) σ H Q=t v σ H λσ' H'=>u vs σ' H' Q:=by
 refine propext ⟨λhq1=>?_,λh=>⟨v,vs,rfl,h⟩⟩;obtain⟨a,b,e,h⟩:=hq1
 cases e;exact h
theorem jP(σ:St)(H:Hp)(Q:St->Hp->Prop):L2.jP [] σ H Q=Q σ H:=propext ⟨λh=>h.2,λh=>⟨rfl,h⟩⟩
theorem yi(te:TE)(D:Ends)(σ:St)(H:Hp):L2.yi te D σ H=te σ H D.rt:=rfl
theorem qd(te:TE)(D:Ends)(σ:St)(H:Hp):L2.qd te D σ H=te σ H λ_ H1=>D.nx σ H1:=rfl
theorem oY(c:TT)(t u:TS)(D:Ends)(σ:St)(H:Hp):L2.oY c t u D σ H=c σ H λb H1=>if b=true then t D σ H1 else u D σ H1:=rfl
theorem q_(D:Ends)(σ:St)(H:Hp):L2.q_ D σ H=D.nx σ H:=rfl
theorem mT(ta:TA)(σ:St)(H:Hp)(R:It->Hp->Prop):L2.mT ta σ H R=ta σ H λvs H1=>∃j:Int,vs=[.int j]/\-(2^62)<=j/\j<2^62/\R (xH 0 j.toNat) H1:=rfl
theorem mK(ta:TA)(σ:St)(H:Hp)(R:It->Hp->Prop):L2.mK ta σ H R=ta σ H λvs H1=>∃i j:Int,vs=[.int i,.int j]/\(-(2^62)<=i/\i<2^62/\-(2^62)<=j/\j<2^62)/\R (xH i (j-i).toNat) H1:=rfl
theorem zJ(K:W.Frag)(tl:TE)(σ:St)(H:Hp)(R:It->Hp->Prop):L2.zJ K tl σ H R=tl σ H λx H1=>match x with
 |.ref a=>match sq H1 a with
  |some (true,_)=>R (xB K a) H1
  |some (false,_)=>R (tX K a) H1
  |none=>(∃xs,aX K H1 a xs)/\R (tX K a) H1
 |_=>False:=rfl
theorem pR(K:W.Frag)(ta:TA)(σ:St)(H:Hp)(R:It->Hp->Prop):L2.pR K ta σ H R=ta σ H λvs H1=>∃a,vs=[.ref a]/\(∃xs,aX K H1 a xs)/\R (yj K a) H1:=rfl
theorem rI(C:Int->Int->Prop)(g:Int->Int->V)(i j:Int)(H:Hp)(Q:VK):L2.rI C g (.int i) (.int j) H Q=(C i j/\Q (g i j) H):=by
 refine propext ⟨λhq2=>?_,λh=>⟨i,j,rfl,rfl,h⟩⟩;obtain⟨a,b,e1,e2,h⟩:=hq2
 cases e1;cases e2;exact h
theorem Az(g:Int->Int->V)(i j:Int)(H:Hp)(Q:VK):L2.Az g (.int i) (.int j) H Q=Q (g i j) H:=by
 refine propext ⟨λhq3=>?_,λh=>⟨i,j,rfl,rfl,h⟩⟩;obtain⟨a,b,e1,e2,h⟩:=hq3
 cases e1;cases e2;exact h
theorem rU(g:Int->V)(i:Int)(H:Hp)(Q:VK):L2.rU g (.int i) H Q=Q (g i) H:=by
 refine propext ⟨λhq4=>?_,λh=>⟨i,rfl,h⟩⟩;obtain⟨a,e1,h⟩:=hq4
 cases e1;exact h
theorem HV(K:W.Frag)(i j:Int)(H:Hp)(Q:VK):we K (.int i) (.int j) H Q=Q (.int (i+j)) H:=rfl
theorem Il(K:W.Frag)(i j:Str)(H:Hp)(Q:VK):we K (.str i) (.str j) H Q=(i.length+j.length<=sizeLine/\Q (.str (i++j)) H):=rfl
theorem HB(i j:Int)(H:Hp)(Q:VK):Gp (.int i) (.int j) H Q=(zO i j/\Q (.int (i*j)) H):=rfl
theorem JM(i j:Int)(H:Hp)(Q:VK):GH (.int i) (.int j) H Q=Q (.bl (decide (i=j))) H:=by
 have e:decide (V.int i=V.int j)=decide (i=j):=by rw[MY];constructor<;>intro h<;>(try cases h)<;>(try rw[h])<;>rfl
 unfold GH;rw[e];exact propext ⟨λh=>h.2,λh=>⟨rfl,h⟩⟩
theorem Jt(i j:Str)(H:Hp)(Q:VK):GH (.str i) (.str j) H Q=Q (.bl (decide (i=j))) H:=by
 have e:decide (V.str i=V.str j)=decide (i=j):=by rw[MY];constructor<;>intro h<;>(try cases h)<;>(try rw[h])<;>rfl
 unfold GH;rw[e];exact propext ⟨λh=>h.2,λh=>⟨rfl,h⟩⟩
theorem Js(i j:Str)(H:Hp)(Q:VK):IL (.str i) (.str j) H Q=Q (.bl (!decide (i=j))) H:=by
 have e:decide (V.str i=V.str j)=decide (i=j):=by rw[MY];constructor<;>intro h<;>(try cases h)<;>(try rw[h])<;>rfl
 unfold IL;rw[e];exact propext ⟨λh=>h.2,λh=>⟨rfl,h⟩⟩
theorem JX(K:W.Frag)(b:Bool)(H:Hp)(k:Bool):Av K (.bl b) H k=(k=b):=rfl
theorem Ku(CX:pe)(P:Program)(w:World)(K:W.Frag)(mg:Str->Option Value)(base:Heap)(N:List Str)(qual:Str)(scope:Scope)(f:Addr)(cd:Value)(A:Around)(outer:List Env)(s:Shared)(H:Hp)(E:XK):(lH CX P w K mg base N qual scope f cd A outer s H E).K=K:=rfl
end Ap
def KB(ex:List Addr)(H H':Hp):Prop:=∀b o,H b=some o->b∉ex->H' b=some o
theorem KB.refl(ex:List Addr)(H:Hp):KB ex H H:=λ_ _ e _=>e
theorem KB.trans{H1 H2:Hp}(a:KB ex H H1)(b:KB ex H1 H2):KB ex H H2:=λc o e n=>b c o (a c o e n) n
theorem KB.mono{ex':List Addr}(h:KB ex H H')(s:∀b∈ex,b∈ex'):KB ex' H H':=λb o e n=>h b o e λz=>n (s b z)
theorem KB.all(h:KB [] H H'):KB ex H H':=h.mono (by simp)
theorem KB.new(h:H p=none):KB ex H (upd H p o):=λb u e _=>by rw[af (ae e h)];exact e
theorem KB.set(h:p∈ex):KB ex H (upd H p o):=λb u e n=>by rw[af (λ(z:b=p)=>n (by rw[z];exact h))];exact e
theorem KB.free(h:KB ex H H'){b:Addr}(n:b∉ex)(e:H' b=none):H b=none:=by
 cases q:H b with
 |none=>rfl
 |some o=>rw[h b o q n] at e;cases e
theorem KB.Hq(h:KB ex H H')(n:a∉ex)(q:a_ K H a xs):a_ K H' a xs:=by
 rcases q with (q|⟨o,q⟩)|q
 ·exact .inl (.inl (h _ _ q n))
 ·exact .inl (.inr ⟨o,h _ _ q n⟩)
 ·exact .inr q
theorem Iz(x:α)(r:List α):bC (x::r) 0=some x:=aR (j:=0) rfl
theorem JL(a x:α)(r:List α):bC (a::x::r) 1=some x:=aR (j:=1) rfl
theorem JJ(a b x:α)(r:List α):bC (a::b::x::r) 2=some x:=aR (j:=2) rfl
theorem JU(a b c x:α)(r:List α):bC (a::b::c::x::r) 3=some x:=aR (j:=3) rfl
theorem nH{n:Nat}{i:Int}(h0:0<=i)(h:i<n):iF n i=some i.toNat:=by unfold iF;rw[KO h0,KO h]
namespace Ap
theorem IF(K:W.Frag)(p:Addr)(i:Int)(H:Hp)(Q:VK):Br K (.ref p) (.int i) H Q=(match sq H p with
  |some (_,xs)=>(match bC xs i with|some v=>Q v H|none=>False)
  |none=>∃xs v,aX K H p xs/\bC xs i=some v/\Q v H):=rfl
theorem Hh(K:W.Frag)(z:Str)(i:Int)(H:Hp)(Q:VK):Br K (.str z) (.int i) H Q=(z.length<=sizeLine/\(match bC z.cps.toList i with|some c=>Q (.str ⟨#[c]⟩) H|none=>False)):=rfl
theorem setRef(p:Addr)(k:Int)(v:V)(H:Hp)(Q:Hp->Prop):xR (.ref p) (.int k) v H Q=(match H p with
  |some (.lst xs)=>(match iF xs.length k with|some j=>Q (upd H p (.lst (xs.set j v)))|none=>False)
  |_=>False):=rfl
theorem GD(K:W.Frag)(p:Addr)(H:Hp)(Q:VK):xP K [.ref p] H Q=(match sq H p with
  |some (_,ys)=>Q (.int ys.length) H
  |none=>∃ys,aX K H p ys/\Q (.int ys.length) H):=rfl
theorem Gu(K:W.Frag)(y:Str)(H:Hp)(Q:VK):xP K [.str y] H Q=(y.length<=sizeLine/\Q (.int y.length) H):=rfl
theorem Ir(i j:Int)(H:Hp)(Q:VK):Hl [.int i,.int j] H Q=Q (.int (if j<i then j else i)) H:=rfl
theorem JW(k:Bool)(H:Hp)(Q:VK):IQ [.bl k] H Q=Q (.int (if k=true then 1 else 0)) H:=rfl
theorem JC(i:Int)(H:Hp)(Q:VK):Ia [.int i] H Q=(i.natAbs.log2<1920/\Q (.str (toString i)) H):=rfl
theorem Gz(K:W.Frag)(p:Addr)(H:Hp)(Q:VK):oP K [.ref p] H Q=(match sq H p with
  |some (true,ys)=>∀l,H l=none->Q (.ref l) (upd H l (.tup ys))
  |some (false,_)=>Q (.ref p) H
  |none=>∃ys,aX K H p ys/\Q (.ref p) H):=rfl
theorem HE(K:W.Frag)(p:Addr)(lo hi:Option Int)(H:Hp)(Q:VK):Jc K (.ref p) lo hi H Q=(match sq H p with
  |some (true,xs)=>∀q,H q=none->Q (.ref q) (upd H q (.lst (dQ xs lo hi)))
  |some (false,xs)=>sh K (.ref p) lo hi H Q
  |none=>sh K (.ref p) lo hi H Q):=rfl
theorem HP(K:W.Frag)(neg:Bool)(x:V)(p:Addr)(H:Hp)(Q:VK):IH K neg x (.ref p) H Q=(match sq H p with
  |some (_,xs)=>cK x=true/\xs.all cK=true/\Q (.bl (if neg then !jF x xs else jF x xs)) H
  |none=>∃xs,aX K H p xs/\cK x=true/\xs.all cK=true/\Q (.bl (if neg then !jF x xs else jF x xs)) H):=rfl
theorem JT(K:W.Frag)(x:V)(T:String)(H:Hp)(Q:VK):Gr K [x,.ty T] H Q=(T∈["bool","int","str","list","tuple","dict"]/\match E3 H x with
  |some t=>Q (.bl (vP t T)) H
  |none=>∃t b,ip K H x t/\W.kitOne K t (.type T)=some b/\Q (.bl b) H):=rfl
theorem addRef(K:W.Frag)(a b:Addr)(H:Hp)(Q:VK):we K (.ref a) (.ref b) H Q=(match H a,H b with
  |some (.lst xs),some (.lst ys)=>xs.length+ys.length<=sizeLine/\∀p,H p=none->Q (.ref p) (upd H p (.lst (xs++ys)))
  |some (.tup xs),some (.tup ys)=>xs≠[]/\ys≠[]/\xs.length+ys.length<=sizeLine/\∀p,H p=none->Q (.ref p) (upd H p (.tup (xs++ys)))
  |_,_=>False):=rfl
theorem Fh(H:Hp)(p:Addr)(xs:List V):sq (upd H p (.lst xs)) p=some (true,xs):=au aa
theorem BN(H:Hp)(p:Addr)(xs:List V):sq (upd H p (.tup xs)) p=some (false,xs):=aC aa
end Ap
theorem ar{t u:TS}{D:Ends}(h:∀N,N=u D->t {D with nx:=N} σ H):wz t u D σ H:=h _ rfl
structure QE (X:Cx) (e:Expr) (t:TE):Prop where h:PE X e t
structure QT (X:Cx) (e:Expr) (t:TT):Prop where h:PT X e t
structure QW (X:Cx) (e:Expr) (t:TT):Prop where h:PW X e t
structure QA (X:Cx) (es:List Expr) (t:TA):Prop where h:PA X es t
structure QS (X:Cx) (st:Stmt) (t:TS):Prop where h:PS X st t
structure QB (X:Cx) (sts:List Stmt) (t:TS):Prop where h:rS X sts t
structure QI (X:Cx) (tg it:Expr) (t:TI):Prop where h:PI X tg it t
structure QG (X:Cx) (e:Expr) (t:TG):Prop where h:PG X e t
structure Je (X:Cx) (es:List Expr) (t:xF):Prop where h:Iw X es t
structure QO (X:Cx) (e:Option Expr) (t:TO):Prop where h:PO X e t
structure GU (X:Cx) (es:List Expr) (t:TT):Prop where h:FZ X es t
namespace Z
noncomputable def sim(b:Expr):Bool:=match b with
 |.Name .. |.Constant .. |.Call .. |.BinOp .. |.Subscript .. |.Attribute .. |.UnaryOp .. |.Compare .. |.IfExp ..=>true
 |_=>false
theorem JH(h:sim b=true):tN b:=by
 cases b<;>first | (intro _ _;rfl)|cases h
noncomputable def Kj(b:Expr):Bool:=match b with
 |.Name .. |.Call .. |.Subscript .. |.Attribute ..=>true
 |_=>false
theorem ptr(h:Kj b=true):∀whole,isTrue b env whole=(do let v <- whole;standAt b.pos;holding [v] (truthy v)):=by
 cases b<;>first | (intro _;rfl)|cases h
noncomputable def IW(b:Expr):Bool:=match b with
 |.ListComp .. |.SetComp .. |.DictComp ..=>false
 |_=>true
theorem Kh{tg:Option Expr}{l:Nat}(h:IW b=true):swapsWith b tg l env=pure false:=by
 cases b<;>first|rfl|cases h
section
variable {X:Cx}
theorem aQ(K:W.Frag)(hK:X.K=K):cJ X (binaryOp .Add) (we K):=by subst hK;exact CD
theorem Cv(K:W.Frag)(hK:X.K=K){k:Nat}(hu:k<cLine):cJ X (compareOp .In) (IH K false):=by subst hK;exact Gg hu
theorem aF(K:W.Frag)(hK:X.K=K){k:Nat}(hu:k<cLine):wM X (Br K):=by subst hK;exact Kz hu
theorem ze(K:W.Frag)(hK:X.K=K):vy X (Jc K):=by subst hK;exact B3
theorem Ei(K:W.Frag)(hK:X.K=K):vy X (Es K):=by subst hK;exact oG
theorem cx(K:W.Frag)(hK:X.K=K):bt X (.builtin "len") (xP K):=by subst hK;exact xh
theorem EO(K:W.Frag)(hK:X.K=K):bt X (.builtin "len") (λxs H Q=>∃x n,xs=[x]/\HC K x H n/\Q (.int n) H):=by subst hK;exact iA
theorem Hv(K:W.Frag)(hK:X.K=K):bt X (.builtin "isinstance") (Gr K):=by subst hK;exact wk
theorem cm(K:W.Frag)(hK:X.K=K):bt X (.type "tuple") (oP K):=by subst hK;exact ph
theorem HQ(K:W.Frag)(hK:X.K=K)(hc:X.calm=true):bt X (.builtin "sum") (λxs H Q=>∃(p:Addr) (ns:List Int),xs=[.ref p]/\a_ K H p (ns.map V.int)/\Q (.int ns.sum) H):=by subst hK;exact vJ hc
theorem yB(K:W.Frag)(hK:X.K=K):vw X "str.join" (rJoin K):=by subst hK;exact CJ
end
section
variable {X:Cx} {a b c e o:Expr} {es:List Expr} {ta tb tc te to:TE} {t:TA} {pos p p2:Pos} {tA tB':TT} {rest:List Expr} {x:Str}
theorem int{i:Int}:QE X (.Constant (.int i) j pos) (tC (.int i)):=⟨jW⟩
theorem bl{i:Bool}:QE X (.Constant (.bool i) j pos) (tC (.bl i)):=⟨DM⟩
theorem aO:QE X (.Constant .none j pos) (tC .aO):=⟨yg⟩
theorem str{i:Str}:QE X (.Constant (.str i) j pos) (tC (.str i)):=⟨yd⟩
theorem v(i:Nat)(hN:autoParam (X.N[i]?=some x) ℜ0)(hv:autoParam (IT X.env.scope x) ℜ4)(hd:autoParam ((x ==("__debug__":Str))=false) ℜ1)
  (fR:autoParam ((x ==("__classdict__":Str))=false) ℜ1):QE X (.Name x pos) (wZ i):=⟨pv i hN hv hd fR⟩
theorem glob{w:V}{u:Value}(hg:Gl X x)(hm:X.mg x=some u)(r:RelV w u)(hd:autoParam ((x ==("__debug__":Str))=false) ℜ1):QE X (.Name x pos) (tC w):=⟨t_ hg hm r hd⟩
theorem op{o:Operator}{r:R2}(ho:cJ X (binaryOp o) r)(ha:QE X a ta)(hb:QE X b tb):QE X (.BinOp a o b pos) (Aa r ta tb):=⟨Hz ho ha.h hb.h⟩
theorem un{o:UnaryOp}{r:V->Hp->VK->Prop}(ho:Jd X (unaryOp o) r)(ha:QE X a ta):QE X (.UnaryOp o a pos) (IE r ta):=⟨IK ho ha.h⟩
theorem cmp{o:CmpOp}{r:R2}(ho:cJ X (compareOp o) r)(ha:QE X a ta)(hb:QE X b tb)(hm:autoParam (behindInMarks o b=false) ℜ0):QE X (.Compare a [o] [b] pos) (Aa r ta tb):=⟨CG ho ha.h hb.h hm⟩
theorem chain{o o':CmpOp}{r r':R2}(ho:cJ X (compareOp o) r)(ho':cJ X (compareOp o') r')(ha:QE X a ta)(hb:QE X b tb)(hc:QE X c tc)(hm:autoParam (lastMarks [o,o'] [b,c]=false) ℜ5):QE X (.Compare a [o,o'] [b,c] pos) (ie r r' ta tb tc):=⟨AV ho ho' ha.h hb.h hc.h hm⟩
theorem ER(hc:QT X c tA)(ha:QE X a ta)(hb:QE X b tb):QE X (.IfExp c a b pos) (HW tA ta tb):=⟨AZ hc.h ha.h hb.h⟩
theorem slice{r:V->Option Int->Option Int->Hp->VK->Prop}{lo hi:Option Expr}{tl th:TO}(hr:vy X r)(he:QE X e te)(hl:QO X lo tl)(hu:QO X hi th):QE X (.Subscript e (.Slice lo hi none p2) pos) (Ib r te tl th):=⟨AM hr he.h hl.h hu.h⟩
theorem t9:QO X none iT:=⟨tQ⟩
theorem oW(he:QE X e te):QO X (some e) (pU te):=⟨oJ he.h⟩
theorem ix{r:R2}(hr:wM X r)(ha:QE X a ta)(hb:QE X b tb)(hs:autoParam (sim b=true) ℜ0):QE X (.Subscript a b pos) (Aa r ta tb):=⟨Bm hr ha.h hb.h (JH hs)⟩
theorem tup{k:Nat}(h:QA X es t):QE X (.Tuple es k pos) (Al t):=⟨Ft h.h⟩
theorem lst(h:QA X es t):QE X (.List es pos) (zg t):=⟨ED h.h⟩
theorem nil:QA X [] mB:=⟨yX⟩
theorem cons(ha:QE X e te)(hr:QA X es t)(h:autoParam (dY e=true) ℜ0):QA X (e::es) (j0 te t):=⟨JP ha.h hr.h h⟩
theorem consts{vs:List V}(h:uy es=some vs):QA X es (tK vs):=⟨nu h⟩
theorem cb{id:String}(hc:bt X (.builtin id) r)(hg:Gl X x)(hm:X.mg x=none)(hv:bootBuiltins x=some (.builtin id))(ha:QA X (e::es) t)(h1:autoParam (dY e=true) ℜ0)(h2:autoParam (es.all dY=true) ℜ0)(hn:autoParam (x≠"__name__") ℜ1)(hdb:autoParam ((x ==("__debug__":Str))=false) ℜ1):
  QE X (.Call (.Name x p) (e::es) [] pos) (zM r t):=⟨HD hc hg hm hv ha.h h1 h2 hn hdb⟩
theorem ct{T:String}(hc:bt X (.type T) r)(hg:Gl X x)(hm:X.mg x=none)(hv:bootBuiltins x=some (.type T))(ha:QA X (e::es) t)(h1:autoParam (dY e=true) ℜ0)(h2:autoParam (es.all dY=true) ℜ0)(hn:autoParam (x≠"__name__") ℜ1)(hdb:autoParam ((x ==("__debug__":Str))=false) ℜ1):
  QE X (.Call (.Name x p) (e::es) [] pos) (zM r t):=⟨HY hc hg hm hv ha.h h1 h2 hn hdb⟩
theorem Kx{T:String}(hg:Gl X x)(hm:X.mg x=none)(hv:bootBuiltins x=some (.type T))(hn:autoParam (x≠"__name__") ℜ1)(hd:autoParam ((x ==("__debug__":Str))=false) ℜ1):QE X (.Name x pos) (tC (.ty T)):=⟨EG hg hm hv hn hd⟩
theorem fn{k:Nat}{ps:List Str}{E:XK}(F:ao X.prog X.w X.K X.mg X.base CX k x ps sp)(hr:bQ k X.A)(hg:Gl X x)(hx:Passes CX X E)(ha:QA X (e::es) t)(h1:autoParam (dY e=true) ℜ0)(h2:autoParam (es.all dY=true) ℜ0)(hdb:autoParam ((x ==("__debug__":Str))=false) ℜ1):
  QE X (.Call (.Name x p) (e::es) [] pos) (gT sp [] E t):=⟨HR F hr hg hx ha.h h1 h2 hdb⟩
theorem Kp{k:Nat}{ps:List Str}{E:XK}(F:ao X.prog X.w X.K X.mg X.base CX k x ps sp)(hr:bQ k X.A)(hg:Gl X x)(hx:Passes CX X E)(hdb:autoParam ((x ==("__debug__":Str))=false) ℜ1):
  QE X (.Call (.Name x p) [] [] pos) (gT sp [] E mB):=⟨EK F hr hg hx hdb⟩
theorem bm(K:W.Frag)(hK:X.K=K){name:Str}{apos:Pos}{T id:String}{r:V->List V->Hp->VK->Prop}(pa:PlainAttrs T)(slot:Slot T name id)(hty:typeOf (.builtin id)=pure (.type "method_descriptor"))(hm:vw X id r)(ho:QE X o to)(ha:QA X (e::es) t)
  (hbase:autoParam (attributeBase o name X.env (eval o X.env)=eval o X.env) ℜ0) (hline:autoParam ((apos.endLine == pos.line)=true) ℜ0) (h:autoParam ((e::es).all dY=true) ℜ0) (hl:autoParam ((e::es).length<30) ℜ1):QE X (.Call (.Attribute o name apos) (e::es) [] pos) (Ga K T r to t):=by
 subst hK;exact⟨F_ pa slot hty hm ho.h ha.h hbase hline h hl⟩
theorem comp{wi:TI}{tc:TT}(S:aA osc ON scope own N)(hosc:X.env.scope=osc)(hON:X.N=ON)(hc:X.calm=true)(hi:QI X tg iter wi)
  (hg:∀C s H fp,QG (aP X scope N C s H fp) tg g) (ht:∀C s H fp,GU (aP X scope N C s H fp) ifs tc) (he:∀C s H fp,QE (aP X scope N C s H fp) elt te) (hs:autoParam (∀x,foldedSetIterable iter X.env x=pure x) ℜ3) :
  QE X (.ListComp elt [⟨tg,iter,ifs,0⟩] scope pos) (i7 wi own.length g tc te):=⟨CO S hosc hON hc hi.h (λC s H fp=>(hg C s H fp).h) (λC s H fp=>(ht C s H fp).h) (λC s H fp=>(he C s H fp).h) hs⟩
theorem bp{o:CmpOp}{r:R2}(ho:cJ X (compareOp o) r)(ha:QE X a ta)(hb:QE X b tb)(hm:autoParam (behindInMarks o b=false) ℜ0):QT X (.Compare a [o] [b] pos) (lW (Aa r ta tb)):=⟨Dc ho ha.h hb.h hm⟩
theorem EA{o o':CmpOp}{r r':R2}(ho:cJ X (compareOp o) r)(ho':cJ X (compareOp o') r')(ha:QE X a ta)(hb:QE X b tb)(hc:QE X c tc)(hm:autoParam (lastMarks [o,o'] [b,c]=false) ℜ5):QT X (.Compare a [o,o'] [b,c] pos) (lW (ie r r' ta tb tc)):=⟨y6 ho ho' ha.h hb.h hc.h hm⟩
theorem tw(h:QW X e tA):QT X e tA:=⟨h.h.pt⟩
theorem AS(ha:QT X a tA):QT X (.UnaryOp .Not a pos) (yS tA):=⟨GO ha.h⟩
def CB(K:W.Frag)(ta:TE):TT:=λσ H Q=>ta σ H λx H'=>∃k,Av K x H' k/\Q k H'
theorem pI(K:W.Frag)(hK:X.K=K)(ha:QE X a ta)(he:autoParam (Kj a=true) ℜ0):QT X a (CB K ta):=by subst hK;exact⟨Bq ha.h (ptr he)⟩
theorem mN(ha:QT X a tA):QW X (.BoolOp .And [a] pos) tA:=⟨B_ ha.h⟩
theorem Ck(ha:QT X a tA):QW X (.BoolOp .Or [a] pos) tA:=⟨G7 ha.h⟩
theorem wK(ha:QT X a tA)(hb:QW X (.BoolOp .And (b::rest) pos) tB'):QW X (.BoolOp .And (a::b::rest) pos) (Ab tA tB'):=⟨Fn ha.h hb.h⟩
theorem IX(ha:QT X a tA)(hb:QW X (.BoolOp .Or (b::rest) pos) tB'):QW X (.BoolOp .Or (a::b::rest) pos) (Hg tA tB'):=⟨II ha.h hb.h⟩
theorem aG(hN:X.N.Nodup)(hi:X.N[i]?=some x)(hx:Loc X.env.scope x)(hf:autoParam (X.fn x=true\/X.env.scope.names.lookup x=some .local) ℜ2):QG X (.Name x pos) (aL i):=⟨C_ hN hi hx hf⟩
theorem gQ(K:W.Frag)(hK:X.K=K){k n:Nat}{tg:xF}(hc:X.calm=true)(h:Je X es tg)(hn:autoParam ((assignEach es X.env).length=n) ℜ0)(hst:autoParam ((assignEach es X.env).findIdx? (·.1)=none) ℜ0):QG X (.Tuple es k pos) (kB K n tg):=by subst hK;exact⟨Fd hc h.h hn hst⟩
theorem dJ:Je X [] jP:=⟨CF⟩
theorem aZ{u:xF}(h1:QG X e g)(h2:Je X es u)(hs:autoParam ((assignEach (e::es) X.env).map (·.2)=assign e X.env::(assignEach es X.env).map (·.2)) ℜ0):Je X (e::es) (d9 g u):=⟨zq h1.h h2.h hs⟩
theorem oz{i:Expr}{ti:TE}(ho:QE X o to)(hi:QE X i ti)
  (ha:autoParam (∀v,assign (.Subscript o i pos) X.env v=(do
   let ov <- holding [v] (eval o X.env)
   let iv <- holding [v,ov] (eval i X.env)
   standAt pos
   holding [v,ov,iv] (setItem ov iv v)
   release [v,ov,iv] [])) ℜ3):QG X (.Subscript o i pos) (z_ to ti xR):=⟨Gk ho.h hi.h uset ha⟩
theorem ke{ta:TA}(hg:Gl X "range")(hm:X.mg "range"=none)(ha:QA X [a] ta)(h:autoParam (dY a=true) ℜ0):QI X tg (.Call (.Name "range" p) [a] [] pos) (mT ta):=⟨rV hg hm ha.h h⟩
theorem J7{ta:TA}(hg:Gl X "range")(hm:X.mg "range"=none)(ha:QA X [a,b] ta)(h:autoParam (dY a=true) ℜ0)(h2:autoParam (dY b=true) ℜ0):QI X tg (.Call (.Name "range" p) [a,b] [] pos) (mK ta):=⟨sf hg hm ha.h h h2⟩
theorem enum(K:W.Frag)(hK:X.K=K){k:Nat}{tp:Pos}{ta:TA}(hg:Gl X "enumerate")(hm:X.mg "enumerate"=none)(ha:QA X [e] ta)(h1:autoParam (dY e=true) ℜ0):QI X (.Tuple es k tp) (.Call (.Name "enumerate" p) [e] [] pos) (pR K ta):=by subst hK;exact⟨BP hg hm ha.h h1⟩
theorem any(K:W.Frag)(hK:X.K=K){l:Expr}(hl:QE X l tl):QI X tg l (zJ K tl):=by subst hK;exact⟨Gf hl.h⟩
theorem jA:GU X [] dh:=⟨Dj⟩
theorem Kt(h:QT X c tA):GU X [c] tA:=⟨BB h.h⟩
end
section
variable {X:Cx} {e o tg:Expr} {te to:TE} {st:Stmt} {sts xs ys:List Stmt} {t u:TS} {pos pos':Pos} {x:Str}
theorem bB:QB X [] q_:=⟨B8⟩
theorem az(h:QS X st t):QB X [st] t:=⟨BS h.h⟩
theorem aq(h:QS X st t)(h2:QB X sts u):QB X (st::sts) (wz t u):=⟨Ac h.h h2.h⟩
theorem set(hN:X.N.Nodup)(hi:X.N[i]?=some x)(hx:Loc X.env.scope x)(he:QE X e te)(hs:autoParam (IW e=true) ℜ0)(hf:autoParam (X.fn x=true\/X.env.scope.names.lookup x=some .local) ℜ2):
  QS X (.Assign [.Name x pos'] e pos) (lQ te (aL i)):=⟨ET hN hi hx he.h (Kh hs) hf⟩
theorem setC{p2:Pos}{wi:TI}(hN:X.N.Nodup)(hj:X.N[j]?=some x)(hx:Loc X.env.scope x)(S:aA osc ON scope own N)(hosc:X.env.scope=osc)(hON:X.N=ON)(hc:X.calm=true)(hi:QI X tg iter wi)
  (hg:∀C s H fp,QG (aP X scope N C s H fp) tg g) (ht:∀C s H fp,GU (aP X scope N C s H fp) ifs tc) (he:∀C s H fp,QE (aP X scope N C s H fp) elt te)
  (hsw:autoParam (swapsWith (.ListComp elt [⟨tg,iter,ifs,0⟩] scope p2) (some (.Name x pos')) pos.line X.env=pure true) ℜ0)
  (hf:autoParam (X.fn x=true\/X.env.scope.names.lookup x=some .local) ℜ2) (hs:autoParam (∀x,foldedSetIterable iter X.env x=pure x) ℜ3) :
  QS X (.Assign [.Name x pos'] (.ListComp elt [⟨tg,iter,ifs,0⟩] scope p2) pos) (lQ (i7 wi own.length g tc te) (aL j)):=⟨rM hN hj hx S hosc hON hc hi.h (λC s H fp=>(hg C s H fp).h) (λC s H fp=>(ht C s H fp).h) (λC s H fp=>(he C s H fp).h) hsw hf hs⟩
theorem asg(he:QE X e te)(hg:QG X tg g)(hs:autoParam (swapsWithSole [tg] e pos.line X.env=pure false) ℜ0)(hw:autoParam (swappedStores [tg] e X.env=pure none) ℜ0)
  (h1:autoParam ((assignEach [tg] X.env).map (·.2)=[assign tg X.env]) ℜ0):QS X (.Assign [tg] e pos) (lQ te g):=⟨Gy he.h hg.h hs hw h1⟩
theorem ret(he:QE X e te):QS X (.Return (some e) pos) (yi te):=⟨Fy he.h⟩
theorem expr(he:QE X e te)(hs:autoParam (IW e=true) ℜ0):QS X (.Expr e pos) (qd te):=⟨Cq he.h (Kh hs)⟩
theorem dW{c:Expr}(hc:QT X c tc)(ha:QB X xs t)(hb:QB X ys u):QS X (.If c xs ys pos) (oY tc t u):=⟨HA hc.h ha.h hb.h⟩
theorem dO{wi:TI}(hp:PassesOwn (model X.prog X.w) X.A X.env X.xe)(hc:X.calm=true)(hi:QI X tg iter wi)(hg:QG X tg g)(hb:QB X xs t)(hs:autoParam (∀x,foldedSetIterable iter X.env x=pure x) ℜ3):QS X (.For tg iter xs [] pos) (GC wi g t):=⟨ES hp hc hi.h hg.h hb.h hs⟩
theorem sj{c:Expr}(hp:PassesOwn (model X.prog X.w) X.A X.env X.xe)(hc:QT X c tc)(hb:QB X xs t):QS X (.While c xs [] pos) (AO tc t):=⟨Ay hp hc.h hb.h⟩
end
end Z
namespace Ap
theorem CB(K:W.Frag)(ta:TE)(σ:St)(H:Hp)(Q:Bool->Hp->Prop):L2.Z.CB K ta σ H Q=ta σ H λx H'=>∃k,Av K x H' k/\Q k H':=rfl
end Ap
theorem HasFn.dR{ps:List Str}{k:Nat}(F:HasFn K mg x st ps)(S:ax N ps (ab st))(len:∀vs H Q E,sp vs H Q E->vs.length=ps.length)
  (hbody:∀(f:Addr) (cdv:Value) (A:Around) (outer:List Env) (s:Shared) (H:Hp) (vs:List V) (Q:VK) (E:XK),bQ k (A.deeper (envOfC x (ab st) s.heap.objs.size f cdv))->sp vs H Q E ->
   ∃t,QB (lH aS P w K mg base N x (ab st) f cdv A outer s H E).BQ (bV st) t/\t {nx:=λ_ H'=>Q .aO H',rt:=Q} (start N vs) H):ao P w K mg base aS (k+1) x ps sp:=
 F.ok S len λf cdv A outer s H vs Q E hr h=>let ⟨t,q,r⟩:=hbody f cdv A outer s H vs Q E hr h;⟨t,q.h,r⟩
theorem BF{ps:List Str}{k:Nat}(F:DE K x x st f fd)(S:ax N ps (ab st))(len:∀vs H Q E,sp vs H Q E->vs.length=ps.length)
  (hbody:∀(cdv:Value) (A:Around) (outer:List Env) (s:Shared) (H:Hp) (vs:List V) (Q:VK) (E:XK),bQ k (A.deeper (envOfC x (ab st) s.heap.objs.size f cdv))->sp vs H Q E ->
   ∃t,QB (lH aS P w K mg base N x (ab st) f cdv A outer s H E).BQ (bV st) t/\t {nx:=λ_ H'=>Q .aO H',rt:=Q} (start N vs) H):gR P w K mg base aS (k+1) f fd ps sp:=
 F.ok S len λcdv A outer s H vs Q E hr h=>let ⟨t,q,r⟩:=hbody cdv A outer s H vs Q E hr h;⟨t,q.h,r⟩
def Ki(e:Addr)(cls:Value)(d:Option Addr)(h:Heap):Prop:=∃o vs,h.get? e=some o/\o.cls=cls/\o.dict=d/\o.data=.fields vs
def JA(c:Addr)(n:Nat)(h:Heap):Prop:=∃(its:List Value) (m:Nat),h.get? c=some {cls:=.type "list",data:=.seq its.toArray m}/\its.length=n/\∀v∈its,∃(i:Int) (t:Tok),v=.int i t/\0<=i
inductive T where
 |il (n:Nat)|aO|bl (b:Bool)|int (i:Int)|str (x:Str)|tup (ts:List T)|lst (ts:List T)|J_ (ts:List T)|nq (lo hi:Int)|Kf (ts:List T)|Km (ks:List Key) (ts:List T)|exc (c:Value) (f:Option (Str×Int))|adr (a:Addr)|ins (a c:Addr) (ks:List Str) (ts:List T)
variable{u:T}{ts ys:List T}
abbrev n8:=Addr->Prop
def IS(K:W.Frag)(a:Addr)(xs:List V):Prop:=∃(o:Obj) (its:Array Value) (n:Nat),K.lookup a=some o/\o.cls=.type "tuple"/\o.data=.seq its n/\its.size<=sizeLine/\Vals xs its.toList
def Ko(K:W.Frag)(a:Addr)(xs:List V):Prop:=∃(o:Obj) (its:Array Value) (n:Nat),K.lookup a=some o/\o.cls=.type "list"/\o.dict=none/\o.data=.seq its n/\its.size<=sizeLine/\Vals xs its.toList
def LB(K:W.Frag)(H:Hp)(B:n8)(a:Addr)(xs:List V):Prop:=(¬ B a/\Rd H a (.lst xs))\/Ko K a xs
mutual
inductive Rep (K:W.Frag) (H:Hp) (B:n8):V->T->Prop
 |aO:Rep K H B .aO .aO
 |bl (b:Bool):Rep K H B (.bl b) (.bl b)
 |int (i:Int):Rep K H B (.int i) (.int i)
 |str (x:Str):Rep K H B (.str x) (.str x)
 |tup {a:Addr} {vs:List V} {ts:List T} (n:¬ B a) (h:H a=some (.tup vs)) (r:cV K H B vs ts):Rep K H B (.ref a) (.tup ts)
 |Kf {a:Addr} {vs:List V} {ts:List T} (h:IS K a vs) (r:cV K H B vs ts):Rep K H B (.ref a) (.Kf ts)
 |lst {a:Addr} {vs:List V} {ts:List T} (n:¬ B a) (h:H a=some (.lst vs)) (r:cV K H B vs ts):Rep K H B (.ref a) (.lst ts)
 |J_ {a:Addr} {vs:List V} {ts:List T} (h:LB K H B a vs) (r:cV K H B vs ts):Rep K H B (.ref a) (.J_ ts)
 |nq {a:Addr} {lo hi:Int} (n:¬ B a) (h:H a=some (.nq lo hi)):Rep K H B (.ref a) (.nq lo hi)
 |Km {a:Addr} {ks:List Key} {vs:List V} {ts:List T} (n:¬ B a) (h:Rd H a (.dK (ks.zip vs))) (l:ks.length=vs.length) (r:cV K H B vs ts):Rep K H B (.ref a) (.Km ks ts)
 |exc {a:Addr} {c:Value} (n:¬ B a) (h:H a=some (.ext (Ki a c none))):Rep K H B (.ref a) (.exc c none)
 |K0 {a d:Addr} {c:Value} {x:Str} {i:Int} (n:¬ B a) (h:H a=some (.ext (Ki a c (some d)))) (m:¬ B d) (g:H d=some (.xd [(x,.int i)])):Rep K H B (.ref a) (.exc c (some (x,i)))
 |il {a:Addr} {n:Nat} (m:¬ B a) (h:H a=some (.ext (JA a n))):Rep K H B (.ref a) (.il n)
 |adr (a:Addr):Rep K H B (.ref a) (.adr a)
 |ins {a dx c:Addr} {ks:List Str} {vs:List V} {ts:List T} (n:¬ B a) (h:H a=some (.ins c dx (ks.zip vs))) (l:ks.length=vs.length) (r:cV K H B vs ts):Rep K H B (.ref a) (.ins a c ks ts)
inductive cV (K:W.Frag) (H:Hp) (B:n8):List V->List T->Prop
 |nil:cV K H B [] []
 |cons {v:V} {t:T} {vs:List V} {ts:List T} (h:Rep K H B v t) (r:cV K H B vs ts):cV K H B (v::vs) (t::ts)
end
section
variable {K:W.Frag} {H:Hp} {B:n8} {v:V}
theorem cV.Jo{vs:List V}(h:cV K H B vs []):vs=[]:=by cases h;rfl
theorem cV.DU{vs:List V}{t:T}(h:cV K H B vs (t::ts)):∃v ws,vs=v::ws/\Rep K H B v t/\cV K H B ws ts:=by cases h with|cons h r=>exact⟨_,_,rfl,h,r⟩
end
theorem Paired.sY{β:Type}{P:α->β->Prop}{ys:List β}(h:Paired P [] ys):ys=[]:=by cases h;rfl
theorem Paired.dI{β:Type}{P:α->β->Prop}{x:α}{xs:List α}{ys:List β}(h:Paired P (x::xs) ys):∃y zs,ys=y::zs/\P x y/\Paired P xs zs:=by cases h with|cons h r=>exact⟨_,_,rfl,h,r⟩
section
variable {K:W.Frag} {H H':Hp} {B B':n8}
theorem cV.length{vs:List V}(r:cV K H B vs ts):vs.length=ts.length:=by
 induction ts generalizing vs with
 |nil=>obtain rfl:=r.Jo;rfl
 |cons t ts ih=>obtain⟨v,ws,rfl,_,r⟩:=r.DU;exact Lw (·+1) (ih r)
theorem cV.get{vs:List V}{i:Nat}{t:T}(r:cV K H B vs ts)(e:ts[i]?=some t):∃v,vs[i]?=some v/\Rep K H B v t:=by
 induction ts generalizing vs i with
 |nil=>cases e
 |cons u ts ih =>
  obtain⟨v,ws,rfl,h,r⟩:=r.DU
  cases i with
  |zero=>cases e;exact⟨_,rfl,h⟩
  |succ i=>exact ih (vs:=ws) (i:=i) r e
end
noncomputable def n5:T->Bool
 |.aO|.bl _|.int _|.str _=>true
 |_=>false
inductive Sl where
 |un|tr (t:T)|bx (c:T)|pb (c:T)
abbrev Mu:=List Sl
inductive R where
 |tr (t:T)|br (i:Nat)|fr (c:T)
structure Fx where
 K:W.Frag
 H0:Hp
 P:Nat->Option Addr
 Bc:n8
 bh:∀b,Bc b->∃o,H0 b=some o
 G:Addr->Option HO
def more(B:n8)(a:Addr):n8:=λb=>b=a\/B b
abbrev UE:=Mu->(R->Mu->Prop)->Prop
abbrev UT:=Mu->(Bool->Mu->Prop)->Prop
abbrev UA:=Mu->(List R->Mu->Prop)->Prop
structure Ed where
 nx:Mu->Prop
 rt:R->Mu->Prop
 bk:Mu->Prop:=λ_=>False
 ct:Mu->Prop:=λ_=>False
abbrev US:=Ed->Mu->Prop
namespace Y
def DD(K:W.Frag):R2:=λx y H Q=>∃a b xs ys,x=.ref a/\y=.ref b/\aX K H a xs/\aX K H b ys/\xs.length+ys.length<=sizeLine /\
 (xs=[]->Q (.ref b) H)/\(xs≠[]->ys=[]->Q (.ref a) H)/\(xs≠[]->ys≠[]->∀p,H p=none->Q (.ref p) (upd H p (.tup (xs++ys))))
theorem yp{A:Around}{s:Shared}{t b:Addr}{ws:List Value}(ht:IsTup s.heap t ([]:List Value).toArray)(hb:IsTup s.heap b ws.toArray)(h0:Q (.ref b) s):wpAny (model prog w) A (binaryOp .Add (.ref t) (.ref b)) Q E s:=by
 obtain⟨⟨cls,dd,data,sl⟩,ho,hc,n,hd⟩:=id ht;obtain⟨⟨cls2,dd2,data2,sl2⟩,ho2,hc2,n2,hd2⟩:=id hb;simp only at hc hd hc2 hd2;subst hc hd hc2 hd2;exact concat_meets ⟨_,ho,rfl⟩ ⟨_,ho2,rfl⟩ noFill_tuple_add seq_tuple_add PySem.F.slot_tuple_add PySem.F.entry_tuple_add (PySem.F.args_tuple_add_2 _ _)
   (tuple_addW0 t b _ ws.toArray n n2 dd dd2 sl sl2 (by simp)) ⟨ho,ho2,h0⟩
theorem Co:cJ X (binaryOp .Add) (DD X.K):=by
 intro pins s σ H x y v u Q I rx ry h;obtain⟨a,b,xs,ys,rfl,rfl,ha,hb,hz,q0,q1,q2⟩:=h;by_cases hx:xs=[]
 ·subst hx
  cases rx;cases ry
  obtain⟨its,r1,p1,_⟩:=I.tuple ha;obtain⟨its2,r2,p2,_⟩:=I.tuple hb;obtain rfl:=Paired.sY r1;exact yp p1 p2 ⟨.ref b,H,I,rfl,q0 rfl⟩
 ·exact uO pins s σ H _ _ v u Q I rx ry ⟨a,b,xs,ys,rfl,rfl,ha,hb,hx,hz,q1 hx,q2 hx⟩
def xJ(K:W.Frag):R2:=λx y H Q=>(∃i j,x=.int i/\y=.int j/\Q (.int (i+j)) H)\/(∃i j,x=.str i/\y=.str j/\i.length+j.length<=sizeLine/\Q (.str (i++j)) H)\/HU x y H Q\/DD K x y H Q
theorem nW(K:W.Frag)(hK:X.K=K):cJ X (binaryOp .Add) (xJ K):=by subst hK;exact yP.or (lp.or (Ax.or Co))
noncomputable def Eg:T->T->Bool
 |.aO,.aO=>true
 |.bl a,.bl b=>a == b
 |.bl a,.int b=>(if a then 1 else 0) == b
 |.int a,.bl b=>a ==(if b then 1 else 0)
 |.int a,.int b=>a == b
 |.str a,.str b=>a == b
 |_,_=>false
theorem Hi{B:n8}{x y:V}{t:T}(h1:Rep K H B x t)(h2:Rep K H B y u)(f1:n5 t=true)(f2:n5 u=true):cK x=true/\cK y=true/\x6 x y=Eg t u:=by
 cases h1<;>first | (cases f1;done) | (cases h2<;>first | (cases f2;done)|exact⟨rfl,rfl,rfl⟩)
def Dt(K:W.Frag)(neg:Bool):R2:=λx y H Q=>∃a b xs ys,x=.ref a/\y=.ref b/\((a_ K H a xs/\a_ K H b ys)\/(aX K H a xs/\aX K H b ys))/\xs.all cK=true/\ys.all cK=true /\
 ∀c,c=(xs.length == ys.length && (List.range (min xs.length ys.length)).all λj=>match xs[j]?,ys[j]? with|some x,some y=>x6 x y|_,_=>true)->Q (.bl (if neg then !c else c)) H
theorem GJ(hu:X.A.units<cLine):cJ X (compareOp .Eq) (Dt X.K false):=by
 intro pins s σ H x y v u Q I rx ry h;obtain⟨a,b,xs,ys,rfl,rfl,hq,fx,fy,q⟩:=h
 cases rx;cases ry
 have item:∀(its its2:List Value),Vals xs its->Vals ys its2->∀j (h1:j<its.toArray.size) (h2:j<its2.toArray.size),SeqAt.EqAt X.A.in1 s its.toArray[j] its2.toArray[j] (match xs[j]?,ys[j]? with|some x,some y=>x6 x y|_,_=>true):=λits its2 r1 r2 j h1 h2=>by
  have l1:=r1.length;have l2:=r2.length;rw[KC] at h1 h2;obtain⟨u1,e1,g1⟩:=r1.get (i:=j) (x:=xs[j]) (K1 (by lia))
  obtain⟨u2,e2,g2⟩:=r2.get (i:=j) (x:=ys[j]) (K1 (by lia))
  rw[K1 (show j<xs.length by lia),K1 (show j<ys.length by lia)]
  have z1:its.toArray[j]=u1:=by
   rw[K1 h1] at e1;simpa using e1
  have z2:its2.toArray[j]=u2:=by
   rw[K1 h2] at e2;simpa using e2
  rw[z1,z2];exact nL g1 g2 (Mw.mp fx _ (KZ _)) (Mw.mp fy _ (KZ _))
 rcases hq with ⟨ha,hb⟩|⟨ha,hb⟩
 ·obtain⟨its,r1,p1,_⟩:=I.list ha;obtain⟨its2,r2,p2,_⟩:=I.list hb;have l1:=r1.length;have l2:=r2.length;by_cases e:xs.length=ys.length
  ·refine PF p1.isList p2.isList (by rw[KC,KC];lia) hu (item its its2 r1 r2) ⟨.bl _,H,I,rfl,q _ ?_⟩
   rw[KC,<- l1,<- e,M6,Md,Qv]
  ·refine NZ p1.isList p2.isList (by rw[KC,KC,Pl];lia) hu ⟨.bl _,H,I,rfl,q _ ?_⟩
   rw[LJ.mpr e,NW]
 ·obtain⟨its,r1,p1,_⟩:=I.tuple ha;obtain⟨its2,r2,p2,_⟩:=I.tuple hb;have l1:=r1.length;have l2:=r2.length;refine SeqAt.eq_tupleAt p1 p2 hu (item its its2 r1 r2) ⟨.bl _,H,I,rfl,q _ ?_⟩;rw[KC,KC,<- l1,<- l2,Bool.and_comm];rfl
def Ie(K:W.Frag):R2:=λx y H Q=>GH x y H Q\/Dt K false x y H Q
theorem Fb(K:W.Frag)(hK:X.K=K)(hu:X.A.units<cLine):cJ X (compareOp .Eq) (Ie K):=by subst hK;exact Ee.or (GJ hu)
theorem gZ:∀(n:Nat) (acc:List Value) (k:Nat),acc.length=n->(∀j v,acc[j]?=some v->∃t,v=Value.int (lo+((k+j:Nat):Int)) t)->Vals ((List.range' k n).map λk=>V.int (lo+(k:Nat))) acc
 |0,acc,k,h,_=>by cases acc with|nil=>exact .nil|cons a b=>cases h
 |n+1,[],k,h,_=>by cases h
 |n+1,a::acc,k,h,g=>by
  rw[Mx,Lp];refine .cons ?_ (gZ n acc (k+1) (by simpa using h) λj v e=>?_)
  ·obtain⟨t,e⟩:=g 0 a rfl;exact⟨t,by simpa using e⟩
  ·obtain⟨t,e2⟩:=g (j+1) v (by simpa using e)
   exact⟨t,by rw[e2];congr 2;lia⟩
def Cu:List V->Hp->VK->Prop:=λxs H Q=>(∃j,xs=[.int j]/\∀p,H p=none->Q (.ref p) (upd H p (.nq 0 j)))\/(∃i j,xs=[.int i,.int j]/\∀p,H p=none->Q (.ref p) (upd H p (.nq i j)))
theorem rj:bt X (.type "range") Cu:=by
 intro pins s σ H xs us Q I r h;rcases h with ⟨j,rfl,q⟩|⟨i,j,rfl,q⟩
 ·obtain⟨u,rfl,t,rfl⟩:=vals1 r;refine call_range_1 ?_;exact⟨.ref s.heap.objs.size,_,I.laid (o:=.nq 0 j) (λb ob q=>K9 _ q) (KH _) (show bw X.prog X.w _ _ _ (.nq 0 j) from⟨_,_,_,La _ rfl⟩),rfl,q _ (I.bg.fresh (KH _))⟩
 ·obtain⟨u,w',rfl,⟨t,rfl⟩,⟨t',rfl⟩⟩:=vals2 r;refine call_range_2 ?_;exact⟨.ref s.heap.objs.size,_,I.laid (o:=.nq i j) (λb ob q=>K9 _ q) (KH _) (show bw X.prog X.w _ _ _ (.nq i j) from⟨_,_,_,La _ rfl⟩),rfl,q _ (I.bg.fresh (KH _))⟩
section
variable {X:Cx} {a b c e o:Expr} {es rest:List Expr} {ua ub uc ue uo:UE} {uA uB:UT} {us:UA} {pos p p2 p3:Pos} {x:Str}
def ml(xs:List α)(lo hi:Option Int):List α:=(xs.drop (HT.bI xs.length 0 lo)).take (HT.bI xs.length xs.length hi-HT.bI xs.length 0 lo)
def Hn(K:W.Frag):V->Option Int->Option Int->Hp->VK->Prop:=λx lo hi H Q=>∃a xs,x=.ref a/\aX K H a xs/\HT.bI xs.length 0 lo=0/\HT.bI xs.length xs.length hi=xs.length/\Q (.ref a) H
theorem i3{A:Around}{s:Shared}{t sl:Addr}{vl vu:Value}{lo hi:Option Int}(ht:IsTup s.heap t items)(hs:s.heap.IsSliceOf sl vl vu .none)(pl:IsPart vl lo)(pu:IsPart vu hi)
  (h1:HT.bI items.size 0 lo=0) (h2:HT.bI items.size items.size hi=items.size) (h:Q (.ref t) s):wpAny (model prog w) A (getItem (.ref t) (.ref sl)) Q E s:=by
 obtain⟨os,hos,hcs,vo⟩:=id hs;have hTs:s.TypeIs (.ref sl) "slice":=⟨os,hos,hcs⟩;unfold getItem
 try with_reducible refine LP ?_
 first|refine K4 (KR ?_)|skip
 refine K4 (wpAny_sequenceKey ht.typeIs (by decide) ?_)
 refine K4 (LO (name:=Str.ofString "__getitem__") ht.typeIs Mz
  (LV Mz ht.typeIs entry_tuple_getitem ?_ (args_tuple_getitem _ _)))
 show wpAny _ _ (Builtin.Tuple.tupleItemsOf (.ref t) >>= _) _ _ s;refine K4 (tupleItemsOf_ ht ?_);refine K4 (O7 hTs ?_);rw[KO (by decide)]
 refine K4 (HT.f7 hs pl pu ?_);show wpAny _ _ (if (((HT.bI items.size 0 lo:Nat):Int) == 0 && (1:Int) == 1 && (HT.bI items.size items.size hi-HT.bI items.size 0 lo) == items.size)=true then _ else _) _ _ s
 rw[KO (by rw[h1,h2];simp)]
 unfold Builtin.Tuple.tupleIsExact;refine K4 ?_;refine K4 (O7 ht.typeIs (KR ?_));rw[KO (by decide)]
 exact K4 (Pj (KR ⟨_,rfl,KR h⟩))
theorem Fo:vy X (Hn X.K):=by
 intro pins s σ H x v vl vu lo hi sl Q I rx hs pl pu h;obtain⟨a,xs,rfl,hx,h1,h2,q⟩:=h;cases rx;obtain⟨its,r,ht,hz⟩:=I.tuple hx;have hlen:its.toArray.size=xs.length:=by rw[KC];exact r.length.symm
 exact⟨"tuple",_,Mz.lookup,ht.typeIs,i3 ht hs pl pu (by rw[hlen];exact h1) (by rw[hlen];exact h2) ⟨.ref a,H,I,rfl,q⟩⟩
def yu(K:W.Frag):V->Option Int->Option Int->Hp->VK->Prop:=λx lo hi H Q=>Es K x lo hi H Q\/sh K x lo hi H Q\/Hn K x lo hi H Q
theorem Dk(K:W.Frag)(hK:X.K=K):vy X (yu K):=by subst hK;exact oG.or (tJ.or Fo)
end
end Y
abbrev UI:=Mu->(List T->Option (Nat×List T)->Mu->Prop)->Prop
def yn(K:W.Frag)(tl:TE):TI:=λσ H R=>tl σ H λx H1=>∃a,x=V.ref a/\(((∃xs,a_ K H1 a xs)/\R (xB K a) H1)\/((∃xs,aX K H1 a xs)/\R (tX K a) H1))
theorem E6{l:Expr}(hl:PE X l tl):PI X tg l (yn X.K tl):=by
 intro pins s σ H R I h;refine bS (hl pins s σ H _ I h) λv s1 hq2=>?_;obtain⟨x,H1,I1,r1,q1⟩:=hq2;obtain⟨a,rfl,q⟩:=q1;cases r1;rcases q with ⟨⟨xs,hq⟩,q⟩|⟨⟨xs,hq⟩,q⟩
 ·obtain⟨its,rv,p,hz⟩:=I1.list hq;refine Ob p.isList ?_;refine⟨s1.heap.objs.size,[s1.heap.objs.size],_,_,H1,rfl,I1.kept (t':=s1.toks) λb o e=>K9 _ e,nr a _,⟨_,La _ rfl,rfl,rfl⟩,λb hb=>?_,q⟩;have e:b=s1.heap.objs.size:=by simpa using hb
  subst e;exact I1.p6 (KH _) (I1.bg.fresh (KH _))
 ·obtain⟨its,rv,p,hz⟩:=I1.tuple hq;refine Np (show s1.heap.IsTuple a its.toArray from p) ?_;refine⟨s1.heap.objs.size,[s1.heap.objs.size],_,_,H1,rfl,I1.kept (t':=s1.toks) λb o e=>K9 _ e,lT a _,⟨_,La _ rfl,rfl,rfl⟩,λb hb=>?_,q⟩;have e:b=s1.heap.objs.size:=by simpa using hb
  subst e;exact I1.p6 (KH _) (I1.bg.fresh (KH _))
namespace Y
theorem G8{α:Type _}{l:List α}(h:l.length=1):∃y,l=[y]:=by
 rcases l with _|⟨a,_|⟨b,t⟩⟩
 ·cases h
 ·exact⟨a,rfl⟩
 ·cases h
theorem IB{α:Type _}{l:List α}(h:l.length=2):∃y z,l=[y,z]:=by
 rcases l with _|⟨a,t⟩
 ·cases h
 ·obtain⟨b,rfl⟩:=G8 (Nat.succ.inj h);exact⟨a,b,rfl⟩
theorem oK{α:Type _}{l:List α}(h:l.length=3):∃x y z,l=[x,y,z]:=by
 rcases l with _|⟨a,t⟩
 ·cases h
 ·obtain⟨b,c,rfl⟩:=IB (Nat.succ.inj h);exact⟨a,b,c,rfl⟩
theorem JD{α:Type _}{l:List α}(h:l.length=4):∃w x y z,l=[w,x,y,z]:=by
 rcases l with _|⟨a,t⟩
 ·cases h
 ·obtain⟨b,c,d,rfl⟩:=oK (Nat.succ.inj h);exact⟨a,b,c,d,rfl⟩
end Y
abbrev Ka:=List T->(R->List T->Prop)->Prop
def C1(K:W.Frag)(f:Addr)(cdv:Value):Prop:=∃(o:Obj) (fd:FuncData),K.lookup f=some o/\o.data=.func fd/\fd.code=cdv
def hJ(K:W.Frag)(k:Bool)(H:Hp)(a:Addr)(xs:List V):Prop:=if k=true then a_ K H a xs else aX K H a xs
def lu(k:Bool)(h:Heap)(it a:Addr)(i:Nat):Prop:=if k=true then h.IsListIter it a i else h.IsTupleIter it a i
def cw(k:Bool)(h:Heap)(a:Addr)(items:Array Value):Prop:=if k=true then h.IsList a items else h.IsTuple a items
theorem vp{A:Around}(k:Bool)(hh:A.handled=none)(it l:Addr)(hne:l≠it)(items:Array Value):Draws prog w A it [it,l] items.size (λi v=>items[i]?=some v) (λi h=>lu k h it l i/\cw k h l items):=by
 cases k with
 |true=>exact Draws.list hh it l hne items
 |false=>exact jb hh it l hne items
theorem Inv.pJ{s:Shared}{k:Bool}(I:Inv X pins σ H s)(h:hJ X.K k H a xs):∃its:List Value,Vals xs its/\cw k s.heap a its.toArray:=by
 cases k with
 |true=>obtain⟨its,r,p,_⟩:=I.list h;exact⟨its,r,p.isList⟩
 |false=>obtain⟨its,r,p,_⟩:=I.tuple h;exact⟨its,r,p⟩
theorem Inv.yy{s:Shared}{k:Bool}{ys:List V}(I:Inv X pins σ H s)(h:hJ X.K k H a xs)(h':hJ X.K k H a ys):xs=ys:=by
 cases k with
 |true=>exact I.lK h h'
 |false=>exact I.jf h h'
theorem cw.ty{k:Bool}(x:cw k h a items):∃o,h.get? a=some o/\(o.cls=.type "list"\/o.cls=.type "tuple")/\∃n,o.data=.seq items n:=by
 cases k with
 |true=>obtain⟨o,e,c,n,d⟩:=(show h.IsList a items from x);exact⟨o,e,.inl c,n,d⟩
 |false=>obtain⟨o,e,c,n,d⟩:=(show h.IsTuple a items from x);exact⟨o,e,.inr c,n,d⟩
theorem lu.ty{k:Bool}{it:Addr}(x:lu k h it a i):∃o,h.get? it=some o/\(o.cls=.type "list_iterator"\/o.cls=.type "tuple_iterator")/\o.data=.fields #[.ref a,.int i 0]:=by
 cases k with
 |true=>obtain⟨o,e,c,d⟩:=(show h.IsListIter it a i from x);exact⟨o,e,.inl c,d⟩
 |false=>obtain⟨o,e,c,d⟩:=(show h.IsTupleIter it a i from x);exact⟨o,e,.inr c,d⟩
noncomputable def vI(k:Bool):String:=if k=true then "list_iterator" else "tuple_iterator"
theorem zy(x:h.IsTuple a items)(o:Obj):(h.push o).IsTuple a items:=by
 obtain⟨ob,e,r⟩:=x;exact⟨ob,K9 _ e,r⟩
theorem Hx{k:Bool}{it:Addr}(e:h.get? it=some {cls:=.type (vI k),data:=.fields #[.ref a,.int 0 0]}):lu k h it a 0:=by
 cases k with
 |true=>exact⟨_,e,rfl,rfl⟩
 |false=>exact⟨_,e,rfl,rfl⟩
def qg(K:W.Frag):Sp:=λvs H Q _=>∃(a:Addr) (ns:List Int),vs=[.ref a]/\a_ K H a (ns.map V.int)/\ns.length<=63/\∀H',Q (.bl true) H'
namespace Y
theorem Gq(hu:X.A.units<cLine):cJ X (compareOp .NotEq) (Dt X.K true):=by
 intro pins s σ H x y v u Q I rx ry h;obtain⟨a,b,xs,ys,rfl,rfl,hq,fx,fy,q⟩:=h
 cases rx;cases ry
 have item:∀(its its2:List Value),Vals xs its->Vals ys its2->∀j (h1:j<its.toArray.size) (h2:j<its2.toArray.size),SeqAt.EqAt X.A.in1 s its.toArray[j] its2.toArray[j] (match xs[j]?,ys[j]? with|some x,some y=>x6 x y|_,_=>true):=λits its2 r1 r2 j h1 h2=>by
  have l1:=r1.length;have l2:=r2.length;rw[KC] at h1 h2;obtain⟨u1,e1,g1⟩:=r1.get (i:=j) (x:=xs[j]) (K1 (by lia))
  obtain⟨u2,e2,g2⟩:=r2.get (i:=j) (x:=ys[j]) (K1 (by lia))
  rw[K1 (show j<xs.length by lia),K1 (show j<ys.length by lia)]
  have z1:its.toArray[j]=u1:=by
   rw[K1 h1] at e1;simpa using e1
  have z2:its2.toArray[j]=u2:=by
   rw[K1 h2] at e2;simpa using e2
  rw[z1,z2];exact nL g1 g2 (Mw.mp fx _ (KZ _)) (Mw.mp fy _ (KZ _))
 rcases hq with ⟨ha,hb⟩|⟨ha,hb⟩
 ·obtain⟨its,r1,p1,_⟩:=I.list ha;obtain⟨its2,r2,p2,_⟩:=I.list hb;have l1:=r1.length;have l2:=r2.length;by_cases e:xs.length=ys.length
  ·refine SeqAt.RcNeAt.lists p1.isList p2.isList (by rw[KC,KC];lia) hu (item its its2 r1 r2) X.prog X.w X.xe _ ⟨.bl _,H,I,rfl,q _ ?_⟩
   rw[KC,<- l1,<- e,M6,Md,Qv]
   try rfl
  ·refine OZ p1.isList p2.isList (by rw[KC,KC,Pl];lia) hu X.prog X.w X.xe _ ⟨.bl true,H,I,rfl,?_⟩
   exact q false (by rw[LJ.mpr e,NW])
 ·obtain⟨its,r1,p1,_⟩:=I.tuple ha;obtain⟨its2,r2,p2,_⟩:=I.tuple hb;have l1:=r1.length;have l2:=r2.length;refine SeqAt.RcNeAt.tuples p1 p2 hu (item its its2 r1 r2) X.prog X.w X.xe _ ⟨.bl _,H,I,rfl,q _ ?_⟩;rw[KC,KC,<- l1,<- l2,Bool.and_comm]
  try rfl
def IV(K:W.Frag):R2:=λx y H Q=>IL x y H Q\/Dt K true x y H Q
theorem FQ(K:W.Frag)(hK:X.K=K)(hu:X.A.units<cLine):cJ X (compareOp .NotEq) (IV K):=by subst hK;exact DH.or (Gq hu)
theorem kY:fillsNumberSlot (.type "tuple") "mul"=pure false:=
 PySem.fillsNumberSlot_seq (id:="tuple.__mul__") (r:=some (.builtin "tuple.__rmul__")) PySem.F.slot_tuple_mul.lookup (by decide +kernel) PySem.F.slot_tuple_rmul.lookup (by decide +kernel)
theorem tm:seqRepeat? (.type "tuple")=pure (some (.builtin "tuple.__mul__")):=by
 unfold seqRepeat?;rw[PySem.seqSlot_of (T:="tuple") (name:="__mul__") (id:="tuple.__mul__") PySem.F.slot_tuple_mul.lookup (by decide +kernel),PySem.seqSlot_of (T:="tuple") (name:="__rmul__") (id:="tuple.__rmul__") PySem.F.slot_tuple_rmul.lookup (by decide +kernel)];rfl
theorem zX(a:Int)(t:Tok)(l:Addr)(ob:Obj)(items:Array Value)(n:Nat)(hc:ob.cls=.type "tuple")(hd:ob.data=.seq items n):
  Meets (Builtin.«int.__rmul__» ⟨[.int a t,.ref l],[]⟩) (λ_ R s=>s.heap.get? l=some ob/\R (.ok (.ret Value.notImplemented)) s):=
 .of_wp λprog w A R s h=>by
  obtain⟨hp,g,d,tk,os⟩:=s;obtain⟨hl,h⟩:=h;obtain⟨c,dd,da,sl⟩:=ob;simp only at hc hd;subst hc hd
  wp_walk
  exact⟨_,rfl,h⟩
theorem BI(l:Addr)(items:Array Value)(ob:Obj)(n:Nat)(k:Int)(t:Tok)(hc:ob.cls=.type "tuple")(hd:ob.data=.seq items n)(hne:items.isEmpty=false)(h1:1<k)(h2:k<=1000)(hsz:items.size<=1000):
  Meets (Builtin.«tuple.__mul__» ⟨[.ref l,.int k t],[]⟩) (λ_ R s=>s.heap.get? l=some ob/\R (.ok (.ret (.ref s.heap.objs.size))) {s with heap:=s.heap.push {cls:=.type "tuple",data:=.seq ((List.replicate k.toNat items).foldl (·++·) #[])}}):=
 .of_wp λprog w A R s h=>by
  obtain⟨hp,g,d,tk,os⟩:=s;obtain⟨hl,h⟩:=h;obtain⟨c,dd,da,sl⟩:=ob;simp only at hc hd;subst hc hd;have e1:(decide (k < -(2^63)) || decide (k >= 2^63))=false:=by rw[Lf (by lia),Lf (by lia)];rfl
  have e2:(items.isEmpty || k == 1)=false:=by rw[hne,LJ.mpr (by lia)];rfl
  have e3:(decide (k<=0) || items.isEmpty)=false:=by rw[hne,Lf (by lia)];rfl
  wp_walk using AutoSeq1.wpAny_loadPart' hl;rw[KJ (by rw[e1];exact KP)]
  have ht:IsTup (Shared.heap ⟨hp,g,d,tk,os⟩) l items:=⟨_,hl,rfl,n,rfl⟩;show wpAny _ _ (Builtin.Tuple.tupleItemsOf (.ref l) >>= _) _ _ _;refine K4 (tupleItemsOf_ ht ?_);rw[KJ (by rw[e2];exact KP)]
  show wpAny _ _ (if (decide (k<=0) || items.isEmpty)=true then _ else _) _ _ _
  rw[KJ (by rw[e3];exact KP)]
  have hm:(items.size:Int)*k<=1000*1000:=Int.mul_le_mul (by lia) h2 (by lia) (by lia)
  show wpAny _ _ (if (items.size:Int)*k >(2^63-1) / 8 then _ else _) _ _ _
  rw[KJ (by lia)]
  show wpAny _ _ (if Builtin.Tuple.tupleTooMany ((items.size:Int)*k)=true then _ else _) _ _ _
  have e4:Builtin.Tuple.tupleTooMany ((items.size:Int)*k)=false:=Lf (by
   have:((sizeLine:Nat):Int) >= 1000000:=by decide
   lia)
  rw[KJ (by rw[e4];exact KP)]
  have hl2:((List.replicate k.toNat items).foldl (·++·) #[]).size<=sizeLine:=by
   have fs:∀(m:Nat) (acc:Array Value),((List.replicate m items).foldl (·++·) acc).size=acc.size+m*items.size:=λm=>by
    induction m with
    |zero=>intro acc;simp
    |succ m ih=>intro acc;rw[L6,O5,ih,Array.size_append,NM];lia
   rw[fs];have h3:k.toNat*items.size<=1000*1000:=OK (by lia) hsz
   have h4:(1000000:Nat)<=sizeLine:=by decide
   simp;lia
  exact K4 (m:=Builtin.Tuple.tupleExact _) (Mr (KR ⟨_,rfl,h⟩) hl2)
theorem xc(its:List Value):∀(m:Nat) (acc:List Value),(List.replicate m its.toArray).foldl (·++·) acc.toArray=(acc++(List.replicate m its).flatten).toArray:=λm acc=>foldl_rep its m acc
def El(K:W.Frag):R2:=λx y H Q=>∃a k xs,x=.ref a/\y=.int k/\aX K H a xs/\xs≠[]/\xs.length<=1000/\1<k/\k<=1000/\∀p,H p=none->Q (.ref p) (upd H p (.tup (List.replicate k.toNat xs).flatten))
theorem Cy:cJ X (binaryOp .Mult) (El X.K):=by
 intro pins s σ H x y v u Q I rx ry h;obtain⟨a,k,xs,rfl,rfl,hx,hne,hsz,h1,h2,q⟩:=h;cases rx;obtain⟨t,rfl⟩:=ry;obtain⟨its,r,p,hz⟩:=I.tuple hx;obtain⟨ob,ho,hc,n,hd⟩:=id p;have hlen:=r.length;have hemp:its.toArray.isEmpty=false:=by
  cases its with
  |nil=>cases r;exact absurd rfl hne
  |cons a b=>rfl
 refine Ph (T:="tuple") (U:="int") (by decide) ⟨_,ho,hc⟩ (λs'=>Pg s' k t) kY PySem.F.fills_int_mul PySem.F.slot_int_rmul tm PySem.F.slot_int_index.lookup
  (MJ PySem.F.slot_int_rmul (Pg s k t) PySem.F.entry_int_rmul (PySem.F.args_int_rmul_2 _ _) (zX k t a ob its.toArray n hc hd)
   ⟨ho,rfl,⟨_,ho,hc⟩,MJ PySem.F.slot_tuple_mul ⟨_,ho,hc⟩ PySem.F.entry_tuple_mul (PySem.F.args_tuple_mul_2 _ _) (BI a its.toArray ob n k t hc hd hemp h1 h2 (by rw[KC];lia)) ⟨ho,?_⟩⟩)
 have e0:=xc its k.toNat [];rw[L_] at e0;have e0':(List.replicate k.toNat its.toArray).foldl (·++·) #[]=(List.replicate k.toNat its).flatten.toArray:=e0;rw[e0'];refine⟨.ref s.heap.objs.size,_,I.laid (t':=s.toks) (o:=.tup (List.replicate k.toNat xs).flatten) (λb ob q=>K9 _ q) (KH _) ?_,rfl,q _ (I.bg.fresh (KH _))⟩;refine⟨?_,_,r.rep k.toNat,eF.new _ _⟩;rw[len_rep];have h3:k.toNat*xs.length<=1000*1000:=OK (by lia) hsz
 exact KA h3 (by decide)
def DQ(K:W.Frag):R2:=λx y H Q=>Gp x y H Q\/El K x y H Q
theorem oZ(K:W.Frag)(hK:X.K=K):cJ X (binaryOp .Mult) (DQ K):=by subst hK;exact cu.or Cy
end Y
open PySem PySem.Spec PyProof PyProof.Rows
namespace Y
theorem fF:∀{us:List Value} {ns:List Int},IntsAre us ns->Vals (ns.map V.int) us
 |_,_,.nil=>.nil
 |_,_,.cons n t h=>.cons ⟨t,rfl⟩ (fF h)
theorem kq:∀{us:List Value} {ns:List Int},IntsAre us ns->us.length=ns.length
 |_,_,.nil=>rfl
 |_,_,.cons n t h=>by simp[kq h]
section
variable {prog:Program} {w:World} {A:Around} {E:Value->Shared->Prop} {s:Shared}
theorem pW{l:Addr}{vs:List Value}{Q:List Value->Shared->Prop}(hl:IsTup s.heap l vs.toArray)(hsz:vs.length<=sizeLine)
  (h:Q vs {s with heap:=(s.heap.push (seqObj "list" #[] 0)).update s.heap.objs.size (Obj.mapSeq (·++vs.toArray))}):wpAny (model prog w) A (collect (.ref l)) Q E s:=by
 obtain⟨o,ho,hc,n,hd⟩:=id hl;unfold collect;refine K4 (wpAny_runValue (Nq entry_proto_collect' ?_));show wpAny _ _ (do again (.builtin "list.__iadd__" ⟨[<- newList [],.ref l],[]⟩)) _ _ s
 refine K4 (NA (KR ⟨Code.quiet_builtin _ (by decide +kernel),Nq entry_list_iadd' ?_⟩))
 show wpAny _ _ (Builtin.List.listExtendWith (.ref s.heap.objs.size) (.ref l) (.ref s.heap.objs.size)) _ _ {s with heap:=s.heap.push (seqObj "list" #[] 0)}
 unfold Builtin.List.listExtendWith;have ho':(s.heap.push (seqObj "list" #[] 0)).get? l=some o:=K9 _ ho;refine K4 (O7 (T:="tuple") ⟨o,ho',hc⟩ ?_);have ht:(Value.type "tuple" == Value.type "tuple")=true:=by rfl
 rw[KO (by rw[ht];simp)]
 refine K4 (O8 ho' hd ?_);refine K4 (O8 (xs:=#[]) (n:=0) (La _ rfl) rfl ?_);rw[KJ (by simp)]
 refine K4 (Om (xs:=#[]) (n:=0) (La _ rfl) rfl ?_ (KW _) (by show (#[]++vs.toArray).size<=sizeLine+1;simp only[Array.size_append,KC,LS];lia))
 refine KR ?_;show wpAny (model prog w) A (load s.heap.objs.size >>= _) Q E {s with heap:=(s.heap.push (seqObj "list" #[] 0)).update s.heap.objs.size (Obj.mapSeq (·++vs.toArray))}
 refine K4 (wpAny_load (NG (La _ rfl) _) ?_);show wpAny _ _ (pure ((#[]:Array Value)++vs.toArray).toList) Q E _;rw[show ((#[]:Array Value)++vs.toArray).toList=vs by simp]
 exact KR h
theorem t8{l:Addr}{vs:List Value}(hl:IsTup s.heap l vs.toArray)(hI:IntsAre vs ns)(h64:vs.length<64)
  (h:∀(out:Array Value) (ns':List Int),IntsAre out.toList ns'->ns'.Perm ns->ns'.Pairwise (·<=·)->Q (.ref (s.heap.objs.size+1)) {s with heap:=sortedAll s.heap vs out}) :
  wpAny (model prog w) A (call (.builtin "sorted") [.ref l]) Q E s:=by
 have hz:vs.length<=sizeLine:=KA (M1 h64) (by decide)
 refine Pm kind_sorted plain_sorted entry_sorted (args_sorted1 _) ?_;unfold Builtin.«sorted»;refine K4 (m:=checkCount "sorted" 1 1 _) (KR ?_);refine K4 (pW hl hz ?_);refine K4 (NA ?_ hz);have hs:((s.heap.push (seqObj "list" #[] 0)).update s.heap.objs.size (Obj.mapSeq (·++vs.toArray))).objs.size=s.heap.objs.size+1:=by rw[Ou,size_push']
 have ho:(((s.heap.push (seqObj "list" #[] 0)).update s.heap.objs.size (Obj.mapSeq (·++vs.toArray))).push (seqObj "list" vs.toArray 0)).get? (s.heap.objs.size+1)=some (seqObj "list" vs.toArray 0):=by
  rw[<- hs];exact La _ rfl
 show wpAny _ _ _ _ _ {s with heap:=((s.heap.push (seqObj "list" #[] 0)).update s.heap.objs.size (Obj.mapSeq (·++vs.toArray))).push (seqObj "list" vs.toArray 0)}
 rw[hs];refine K4 (LP (LV slot_list_sort ⟨_,ho,rfl⟩ entry_list_sort (list_sort_tree ho hI h64 λout ns' a1 a2 a3=>⟨_,rfl,?_⟩) (args_list_sort _)));exact KR ⟨_,rfl,h out ns' a1 a2 a3⟩
end
def Ek(K:W.Frag):List V->Hp->VK->Prop:=λxs H Q=>∃p ns,xs=[.ref p]/\aX K H p (ns.map V.int)/\ns.length<64/\∀ns':List Int,ns'.Perm ns->ns'.Pairwise (·<=·)->∀l,H l=none->Q (.ref l) (upd H l (.lst (ns'.map V.int)))
theorem wW(K:W.Frag)(hK:X.K=K):bt X (.builtin "sorted") (Ek K):=by
 subst hK;intro pins s σ H xs us Q I r h;obtain⟨p,ns,rfl,hq,h64,q⟩:=h;obtain⟨u,rfl,ru⟩:=vals1 r;cases ru;obtain⟨its,rv,pl,hz⟩:=I.tuple hq;have hi:=intsAre_of rv;refine t8 pl hi (by rw[kq hi];exact h64) λout ns' a1 a2 a3=>?_
 obtain⟨e,he⟩:=sortedAll_at s.heap its out;refine⟨.ref (s.heap.objs.size+1),_,I.laid (t':=s.toks) (λb ob q=>sortedAll_old q) (M0 _) (show bw X.prog X.w _ _ _ (.lst (ns'.map V.int)) from⟨?_,out.toList,e,fF a1,by simpa using he⟩),rfl,q ns' a2 a3 _ (I.bg.fresh (M0 _))⟩
 rw[K2,a2.length_eq];exact KA (M1 h64) (by decide)
theorem Ao(l:List Nat):∀(n a:Nat),((List.range n).map (λk=>a+k)).filterMap (l[·]?)=(l.drop a).take n
 |0,_=>by simp
 |n+1,a=>by
  rw[M7,KN,List.filterMap_append,Ao l n a,List.take_add_one,Ma]
  cases h:l[a+n]?<;>simp[h]
theorem rf(lo hi:Option Int)(n:Nat):Builtin.Str.strSliceIndices lo hi 1 n=(List.range (HT.bI n n hi-HT.bI n 0 lo)).map (λk=>HT.bI n 0 lo+k):=by
 have ea:∀(v:Int),max 0 (min (if v<0 then v+(n:Int) else v) (n:Int))=(((if v<0 then (v+(n:Int)).toNat else min v.toNat n):Nat):Int):=by
  intro v;split<;>lia
 have e:Builtin.Str.strSliceIndices lo hi 1 n=sliceRange (HT.bI n 0 lo) (HT.bI n n hi) 1:=by
  cases lo with
  |none=>cases hi with
   |none=>rfl
   |some j=>show sliceRange 0 (max 0 (min (if j<0 then j+(n:Int) else j) (n:Int))) 1=_;rw[ea];rfl
  |some i=>cases hi with
   |none=>show sliceRange (max 0 (min (if i<0 then i+(n:Int) else i) (n:Int))) n 1=_;rw[ea];rfl
   |some j=>show sliceRange (max 0 (min (if i<0 then i+(n:Int) else i) (n:Int))) (max 0 (min (if j<0 then j+(n:Int) else j) (n:Int))) 1=_;rw[ea,ea];rfl
 rw[e];generalize HT.bI n 0 lo=a;generalize HT.bI n n hi=b;unfold sliceRange;simp only[show ((1:Int) > 0)=True from by simp,MV,Int.one_mul]
 have c:(if (a:Int)<(b:Int) then ((b:Int)-a+1-1) / 1 else 0).toNat=b-a:=by split<;>lia
 rw[c];refine OF λk _=>?_;lia
theorem rJ(z:Str)(lo hi:Option Int):Txt.slice z lo hi=⟨((z.cps.toList.drop (HT.bI z.cps.toList.length 0 lo)).take (HT.bI z.cps.toList.length z.cps.toList.length hi-HT.bI z.cps.toList.length 0 lo)).toArray⟩:=by
 have hl:z.cps.toList.length=z.length:=L5;rw[hl];have hp:(Builtin.Str.strSliceIndices lo hi 1 z.length).filterMap (z.cps[·]?)=(z.cps.toList.drop (HT.bI z.length 0 lo)).take (HT.bI z.length z.length hi-HT.bI z.length 0 lo):=by
  rw[rf];have:=Ao z.cps.toList (HT.bI z.length z.length hi-HT.bI z.length 0 lo) (HT.bI z.length 0 lo)
  simpa using this
 unfold Txt.slice;split
 ·rename_i h;rw[rf] at h;simp at h;have h2:=HT.rW z.length z.length (KH _) hi;have h3:=HT.rW z.length 0 (KW _) lo;have a0:HT.bI z.length 0 lo=0:=by lia
  have b0:HT.bI z.length z.length hi=z.length:=by lia
  rw[a0,b0,LD,MZ,<- hl,Lz]
 ·rw[hp]
def fV(z:Str)(lo hi:Option Int):Str:=⟨(ml z.cps.toList lo hi).toArray⟩
theorem xq(z:Str)(lo hi:Option Int):Txt.slice z lo hi=fV z lo hi:=rJ z lo hi
def Ji:V->Option Int->Option Int->Hp->VK->Prop:=λx lo hi H Q=>∃z,x=.str z/\z.length<=sizeLine/\Q (.str (fV z lo hi)) H
theorem jh:vy X Ji:=by
 intro pins s σ H x v vl vu lo hi sl Q I rx hs pl pu h;obtain⟨z,rfl,hz,q⟩:=h;rw[<- xq] at q;obtain⟨t,rfl⟩:=rx;refine⟨"str",_,PySem.F.slot_str_getitem.lookup,Qs _ _ _,?_⟩
 cases pl<;>cases pu
 ·exact Nh (l:=none) (u:=none) (st:=none) hs rfl (O9 ⟨KA (Txt.slice_le z _ _) hz,λt' k=>⟨.str _,H,I.tok _,⟨_,rfl⟩,q⟩⟩)
 ·exact Nh (l:=none) (u:=some (_,_)) (st:=none) hs rfl (O9 ⟨KA (Txt.slice_le z _ _) hz,λt' k=>⟨.str _,H,I.tok _,⟨_,rfl⟩,q⟩⟩)
 ·exact Nh (l:=some (_,_)) (u:=none) (st:=none) hs rfl (O9 ⟨KA (Txt.slice_le z _ _) hz,λt' k=>⟨.str _,H,I.tok _,⟨_,rfl⟩,q⟩⟩)
 ·exact Nh (l:=some (_,_)) (u:=some (_,_)) (st:=none) hs rfl (O9 ⟨KA (Txt.slice_le z _ _) hz,λt' k=>⟨.str _,H,I.tok _,⟨_,rfl⟩,q⟩⟩)
noncomputable def jY(z y:Str)(i:Int):Bool:=decide (fromIndex z.length i+y.length<=z.length) && Builtin.Str.subAt z y (fromIndex z.length i)
def zh:V->List V->Hp->VK->Prop:=λx vs H Q=>∃z y i,x=.str z/\vs=[.str y,.int i]/\Q (.bl (jY z y i)) H
theorem rX:vw X "str.startswith" zh:=by
 intro pins s σ H x xs v us Q I rx rs h;obtain⟨z,y,i,rfl,rfl,q⟩:=h;obtain⟨t,rfl⟩:=rx;obtain⟨_,_,rfl,r1,rs⟩:=Paired.dI rs;obtain⟨_,_,rfl,r2,rs⟩:=Paired.dI rs;obtain rfl:=Paired.sY rs;obtain⟨u1,rfl⟩:=r1;obtain⟨u2,rfl⟩:=r2;exact call_gives PySem.F.slot_str_startswith (Qs _ _ _) PySem.F.entry_str_startswith (PySem.F.args_str_startswith_3 _ _ _) (gives_str_startswith_from z y i t _ _) ⟨.bl _,H,I,rfl,q⟩
end Y
abbrev Xw:=T->Mu->Prop
abbrev UX:=Mu->(R->Mu->Prop)->Xw->Prop
abbrev Ky:=Ed->Xw->Mu->Prop
def FR(K:W.Frag)(mg:Str->Option Value)(x:Str)(f:Addr)(cdv:Value):Prop:=mg x=some (.ref f)/\∃(o:Obj) (fd:FuncData),K.lookup f=some o/\o.data=.func fd/\fd.code=cdv
abbrev UJ:=Mu->(Mu->Prop)->Prop
noncomputable def kP(n m:Nat)(e:Nat->Bool):Bool:=(List.range (min n m)).all e && n == m
inductive mQ:Nat->T->T->Bool->Prop
 |flat {n:Nat} {t u:T} (f1:n5 t=true) (f2:n5 u=true):mQ n t u (Y.Eg t u)
 |tup {n:Nat} {xs ys:List T} (e:Nat->Bool) (h:∀(j:Nat) (x y:T),xs[j]?=some x->ys[j]?=some y->mQ n x y (e j)):mQ (n+1) (.tup xs) (.tup ys) (kP xs.length ys.length e)
 |lst {n:Nat} {xs ys:List T} (e:Nat->Bool) (h:∀(j:Nat) (x y:T),xs[j]?=some x->ys[j]?=some y->mQ n x y (e j)):mQ (n+1) (.lst xs) (.lst ys) (kP xs.length ys.length e)
theorem A5{t:T}{v:V}{B:n8}(h1:Rep K H B v t)(h2:Rep K H B v u)(f1:n5 t=true)(f2:n5 u=true):Y.Eg t u=true:=by
 cases h1<;>first | (cases f1;done) | (cases h2<;>first | (cases f2;done)|simp[Y.Eg])
theorem ja{n m:Nat}{e:Nat->Bool}(h:n=m)(h2:∀j,j<n->e j=true):kP n m e=true:=by
 subst h;unfold kP;rw[M6,Md,Oo,Mw];intro j hj;exact h2 j (by simpa using hj)
theorem mQ.same{n:Nat}{t:T}{b:Bool}(d:mQ n t u b):∀{K:W.Frag} {H:Hp} {B:n8} {v:V},Rep K H B v t->Rep K H B v u->b=true:=by
 induction d with
 |flat f1 f2=>exactλh1 h2=>A5 h1 h2 f1 f2
 |tup e h ih =>
  rename_i nn xs ys;intro K H B v h1 h2
  cases h1 with
  |tup n1 a1 r1=>cases h2 with
   |tup n2 a2 r2 =>
    rw[a1] at a2;cases a2;refine ja (r1.length.symm.trans r2.length) λj hj=>?_;have hx:=K1 hj;have hj2:j<ys.length:=by rw[<- r2.length,r1.length];exact hj
    have hy:=K1 hj2;obtain⟨v1,g1,p1⟩:=r1.get hx;obtain⟨v2,g2,p2⟩:=r2.get hy;rw[g1] at g2;cases g2;exact ih j _ _ hx hy p1 p2
 |lst e h ih =>
  rename_i nn xs ys;intro K H B v h1 h2
  cases h1 with
  |lst n1 a1 r1=>cases h2 with
   |lst n2 a2 r2 =>
    rw[a1] at a2;cases a2;refine ja (r1.length.symm.trans r2.length) λj hj=>?_;have hx:=K1 hj;have hj2:j<ys.length:=by rw[<- r2.length,r1.length];exact hj
    have hy:=K1 hj2;obtain⟨v1,g1,p1⟩:=r1.get hx;obtain⟨v2,g2,p2⟩:=r2.get hy;rw[g1] at g2;cases g2;exact ih j _ _ hx hy p1 p2
section
variable {X:Cx} {pins:List (Addr×Obj)} {σ:St} {H:Hp} {s:Shared} {B:n8}
theorem fz{A:Around}{n:Nat}{xs:List T}{vs:List V}{e:Nat->Bool}(r1:cV X.K H B vs xs)(r2:cV X.K H B ws ys)(g1:Vals vs its)(g2:Vals ws its2)
  (ih:∀(j:Nat) (x y:T),xs[j]?=some x->ys[j]?=some y->∀(v w:V) (a b:Value),Rep X.K H B v x->Rep X.K H B w y->RelV v a->RelV w b->SeqAt.EqAt A s a b (e j)) :
  ∀j (h1:j<its.toArray.size) (h2:j<its2.toArray.size),SeqAt.EqAt A s its.toArray[j] its2.toArray[j] (e j):=by
 intro j h1 h2;have l1:=g1.length;have l2:=g2.length;have l3:=r1.length;have l4:=r2.length;rw[KC] at h1 h2;have hx:=K1 (show j<xs.length by lia)
 have hy:=K1 (show j<ys.length by lia)
 obtain⟨v1,q1,p1⟩:=r1.get hx;obtain⟨v2,q2,p2⟩:=r2.get hy;obtain⟨u1,e1,f1⟩:=g1.get q1;obtain⟨u2,e2,f2⟩:=g2.get q2;have z1:its.toArray[j]=u1:=by
  rw[K1 h1] at e1;simpa using e1
 have z2:its2.toArray[j]=u2:=by
  rw[K1 h2] at e2;simpa using e2
 rw[z1,z2];exact ih j _ _ hx hy v1 v2 u1 u2 p1 p2 f1 f2
theorem fu{vs:List V}{xs:List T}(e:Nat->Bool)(r1:cV X.K H B vs xs)(r2:cV X.K H B ws ys)(g1:Vals vs its)(g2:Vals ws its2):((List.range (min its.toArray.size its2.toArray.size)).all e && its.toArray.size == its2.toArray.size)=kP xs.length ys.length e:=by
 have l1:=g1.length;have l2:=g2.length;have l3:=r1.length;have l4:=r2.length;unfold kP;rw[KC,KC,<- l1,<- l2,l3,l4]
theorem AU{n:Nat}{t:T}{b:Bool}(d:mQ n t u b):∀(I:Inv X pins σ H s) {A:Around} (hu:A.units+n<cLine) (v w:V) (a c:Value),Rep X.K H B v t->Rep X.K H B w u->RelV v a->RelV w c->SeqAt.EqAt A s a c b:=by
 induction d with
 |flat f1 f2 =>
  intro I A hu v w a c h1 h2 r1 r2;obtain⟨z1,z2,z3⟩:=Y.Hi h1 h2 f1 f2;rw[<- z3];exact nL r1 r2 z1 z2
 |tup e h ih =>
  intro I A hu v w a c h1 h2 r1 r2;rename_i n xs ys;have h1':=h1;have h2':=h2
  cases h1 with
  |tup n1 a1 q1=>cases h2 with
   |tup n2 a2 q2 =>
    rename_i p1 vs p2 ws
    cases r1;cases r2
    by_cases z:p1=p2
    ·subst z;rw[(mQ.tup (n:=n) e h).same h1' h2'];exact SeqAt.EqAt.same _
    ·obtain⟨its,g1,pl1,_⟩:=I.tuple (aX.of a1);obtain⟨its2,g2,pl2,_⟩:=I.tuple (aX.of a2);rw[<- fu (X:=X) e q1 q2 g1 g2];exact OS z (SeqAt.RcAt.tuples pl1 pl2 (by lia) (fz (n:=n) q1 q2 g1 g2 λj x y hx hy v w a c=>ih j x y hx hy I (A:=A.in1) (by show A.units+1+n<cLine;lia) v w a c))
 |lst e h ih =>
  intro I A hu v w a c h1 h2 r1 r2;rename_i n xs ys;have h1':=h1;have h2':=h2
  cases h1 with
  |lst n1 a1 q1=>cases h2 with
   |lst n2 a2 q2 =>
    rename_i p1 vs p2 ws
    cases r1;cases r2
    by_cases z:p1=p2
    ·subst z;rw[(mQ.lst (n:=n) e h).same h1' h2'];exact SeqAt.EqAt.same _
    ·obtain⟨its,g1,pl1,_⟩:=I.list (a_.of a1);obtain⟨its2,g2,pl2,_⟩:=I.list (a_.of a2);have sz:=fu (X:=X) e q1 q2 g1 g2;rw[<- sz];by_cases hs:its.toArray.size=its2.toArray.size
     ·rw[hs,M6,Md,Oo,<- hs];exact OS z (SeqAt.RcAt.lists pl1.isList pl2.isList hs (by lia) (fz (n:=n) q1 q2 g1 g2 λj x y hx hy v w a c=>ih j x y hx hy I (A:=A.in1) (by show A.units+1+n<cLine;lia) v w a c))
     ·rw[LJ.mpr hs,OL];exact OS z (SeqAt.RcAt.lists_lengths pl1.isList pl2.isList (Pl.mpr hs) (by lia))
end
namespace Y
def zW(K:W.Frag)(n:Nat)(neg:Bool):R2:=λx y H Q=>∃(B:n8) (a b:Addr) (vs ws:List V) (xs ys:List T) (e:Nat->Bool),x=.ref a/\y=.ref b/\((aX K H a vs/\aX K H b ws)\/(a_ K H a vs/\a_ K H b ws))/\cV K H B vs xs/\cV K H B ws ys /\
 (∀(j:Nat) (x y:T),xs[j]?=some x->ys[j]?=some y->mQ n x y (e j))/\Q (.bl (if neg then !kP xs.length ys.length e else kP xs.length ys.length e)) H
theorem CP{X:Cx}{n:Nat}(hu:X.A.units+n+1<cLine):cJ X (compareOp .Eq) (zW X.K n false):=by
 intro pins s σ H x y v u Q I rx ry h;obtain⟨B,a,b,vs,ws,xs,ys,e,rfl,rfl,hq,r1,r2,ih,q⟩:=h
 cases rx;cases ry
 have it:∀(j:Nat) (x y:T),xs[j]?=some x->ys[j]?=some y->∀(v w:V) (a b:Value),Rep X.K H B v x->Rep X.K H B w y->RelV v a->RelV w b->SeqAt.EqAt X.A.in1 s a b (e j):=λj x y hx hy v w a c=>AU (ih j x y hx hy) I (A:=X.A.in1) (by show X.A.units+1+n<cLine;lia) v w a c
 rcases hq with ⟨ha,hb⟩|⟨ha,hb⟩
 ·obtain⟨its,g1,p1,_⟩:=I.tuple ha;obtain⟨its2,g2,p2,_⟩:=I.tuple hb;refine SeqAt.eq_tupleAt p1 p2 (by lia) (fz (n:=n) r1 r2 g1 g2 it) ⟨.bl _,H,I,rfl,?_⟩
  rw[fu (X:=X) e r1 r2 g1 g2];exact q
 ·obtain⟨its,g1,p1,_⟩:=I.list ha;obtain⟨its2,g2,p2,_⟩:=I.list hb;have sz:=fu (X:=X) e r1 r2 g1 g2;by_cases hs:its.toArray.size=its2.toArray.size
  ·rw[hs,M6,Md,Oo,<- hs] at sz;refine PF p1.isList p2.isList hs (by lia) (fz (n:=n) r1 r2 g1 g2 it) ⟨.bl _,H,I,rfl,?_⟩
   rw[sz];exact q
  ·rw[LJ.mpr hs,OL] at sz;refine NZ p1.isList p2.isList (Pl.mpr hs) (by lia) ⟨.bl _,H,I,rfl,?_⟩
   rw[sz];exact q
theorem BD{X:Cx}{n:Nat}(hu:X.A.units+n+1<cLine):cJ X (compareOp .NotEq) (zW X.K n true):=by
 intro pins s σ H x y v u Q I rx ry h;obtain⟨B,a,b,vs,ws,xs,ys,e,rfl,rfl,hq,r1,r2,ih,q⟩:=h
 cases rx;cases ry
 have it:∀(j:Nat) (x y:T),xs[j]?=some x->ys[j]?=some y->∀(v w:V) (a b:Value),Rep X.K H B v x->Rep X.K H B w y->RelV v a->RelV w b->SeqAt.EqAt X.A.in1 s a b (e j):=λj x y hx hy v w a c=>AU (ih j x y hx hy) I (A:=X.A.in1) (by show X.A.units+1+n<cLine;lia) v w a c
 rcases hq with ⟨ha,hb⟩|⟨ha,hb⟩
 ·obtain⟨its,g1,p1,_⟩:=I.tuple ha;obtain⟨its2,g2,p2,_⟩:=I.tuple hb;refine SeqAt.RcNeAt.tuples p1 p2 (by lia) (fz (n:=n) r1 r2 g1 g2 it) X.prog X.w X.xe _ ⟨.bl _,H,I,rfl,?_⟩
  rw[fu (X:=X) e r1 r2 g1 g2];exact q
 ·obtain⟨its,g1,p1,_⟩:=I.list ha;obtain⟨its2,g2,p2,_⟩:=I.list hb;have sz:=fu (X:=X) e r1 r2 g1 g2;by_cases hs:its.toArray.size=its2.toArray.size
  ·rw[hs,M6,Md,Oo,<- hs] at sz;refine SeqAt.RcNeAt.lists p1.isList p2.isList hs (by lia) (fz (n:=n) r1 r2 g1 g2 it) X.prog X.w X.xe _ ⟨.bl _,H,I,rfl,?_⟩
   rw[sz];exact q
  ·rw[LJ.mpr hs,OL] at sz;refine OZ p1.isList p2.isList (Pl.mpr hs) (by lia) X.prog X.w X.xe _ ⟨.bl true,H,I,rfl,?_⟩
   have q2:=q;rw[<- sz] at q2;exact q2
end Y
theorem jd{A:Around}{k:Nat}(hr:bQ k A):A.units+4+1<cLine:=LG (Nat.add_le_add_left (by decide:4+1<=64) _) hr.units
namespace Y
def Jy(K:W.Frag):R2:=λx y H Q=>Ie K x y H Q\/zW K 4 false x y H Q
theorem E7(K:W.Frag)(hK:X.K=K)(hu:X.A.units+4+1<cLine):cJ X (compareOp .Eq) (Jy K):=by subst hK;exact (Fb X.K rfl (by lia)).or (CP hu)
def EC(K:W.Frag):R2:=λx y H Q=>IV K x y H Q\/zW K 4 true x y H Q
theorem kE(K:W.Frag)(hK:X.K=K)(hu:X.A.units+4+1<cLine):cJ X (compareOp .NotEq) (EC K):=by subst hK;exact (FQ X.K rfl (by lia)).or (BD hu)
end Y
theorem jR{k:Str}{t t':Tok}{prog:Program}{w:World}{A:Around}{E:Value->Shared->Prop}{Q:Option Fin×Unit->Shared->Prop}(hit:items[j]?=some (.str k t'))(hno:∀m,m<j->∃y ty,items[m]?=some (.str y ty)/\y≠k):∀(m i c:Nat) (s:Shared),i+m=j->m<c->Q (some (.done (.ret (.int (j:Nat) s.toks))),()) {s with toks:=s.toks+1} ->
  wpAny (model prog w) A (forIn (List.range' i c) ((none,()):Option Fin×Unit) λi __s=>match items[i]? with
      |some y=>do
       let __do_lift <- eqBool y (Value.str k t)
       if __do_lift=true then do
         let __do_lift <- retInt (i:Nat)
         pure (ForInStep.done (some __do_lift,()))
        else pure (ForInStep.yield (none,()))
      |x=>pure (ForInStep.yield (none,()))) Q E s:=by
 intro m
 induction m with
 |zero =>
  intro i c s e hc h
  cases c with
  |zero=>exact absurd hc (Nr _)
  |succ c =>
   obtain rfl:i=j:=e;rw[Mx,Nn];simp only[hit];refine K4 (K4 (Pw ?_));rw[Li rfl]
   wp_walk
   exact h
 |succ m ih =>
  intro i c s e hc h
  cases c with
  |zero=>exact absurd hc (Nr _)
  |succ c =>
   obtain⟨y,ty,hy,ne⟩:=hno i (by lia)
   rw[Mx,Nn];simp only[hy];refine K4 (K4 (Pw ?_));rw[Lf ne];exact KR (ih (i+1) c s (by lia) (by lia) h)
theorem wD{n:Nat}{dd:Option Addr}{sl:Array (Option Value)}{k:Str}{t t':Tok}(hit:items[j]?=some (.str k t'))(hno:∀m,m<j->∃y ty,items[m]?=some (.str y ty)/\y≠k):
  Meets (Builtin.«tuple.index» ⟨[.ref p,.str k t],[]⟩) (λA R s=>s.heap.get? p=some {cls:=.type "tuple",dict:=dd,data:=.seq items n,slots:=sl}/\R (.ok (.ret (.int (j:Nat) s.toks))) {s with toks:=s.toks+1}):=by
 intro prog w A R s h;obtain⟨hp,g,d,tk,os⟩:=s;obtain⟨ho,h⟩:=h;unfold Builtin.«tuple.index»;simp only[Std.Legacy.Range.forIn_eq_forIn_range'];wp_walk using O6 ho;have hj:j<items.size:=by
  rcases LH j items.size with z|z
  ·exact z
  ·rw[O_.mpr z] at hit;cases hit
 refine jR hit hno j 0 _ _ (Mv _) ?_ ?_
 ·simp[Std.Legacy.Range.size];exact hj
 ·exact KR h
def Jw(K:W.Frag):V->List V->Hp->VK->Prop:=λx vs H Q=>∃(a:Addr) (ws:List Str) (k:Str) (j:Nat),x=.ref a/\aX K H a (ws.map V.str)/\vs=[.str k]/\ws[j]?=some k/\(∀m,m<j->ws[m]?≠some k)/\Q (.int (j:Nat)) H
theorem iE:∀{ws:List Str} {its:List Value},Vals (ws.map V.str) its->∀(m:Nat) (y:Str),ws[m]?=some y->∃t,its[m]?=some (.str y t):=λr m y e=>by
 obtain⟨u,h1,h2⟩:=r.get (i:=m) (x:=V.str y) (by rw[K8,e];rfl)
 obtain⟨t,rfl⟩:=(show RelV (.str y) u from h2);exact⟨t,h1⟩
theorem FX:vw X "tuple.index" (Jw X.K):=by
 intro pins s σ H x xs v us Q I rx rs h;obtain⟨a,ws,k,j,rfl,hq,rfl,hj,hno,q⟩:=h;obtain rfl:v=Value.ref a:=rx;obtain⟨u,rfl,t,rfl⟩:=vals1 rs;obtain⟨its,r,pl,hz⟩:=I.tuple hq;obtain⟨⟨oc,od,oda,osl⟩,ho,hc,n,hd⟩:=id pl;obtain rfl:oc=.type "tuple":=hc;obtain rfl:oda=.seq its.toArray n:=hd;obtain⟨t',hit⟩:=iE r j k hj;refine MJ PySem.F.slot_tuple_index ⟨_,ho,rfl⟩ PySem.F.entry_tuple_index (PySem.F.args_tuple_index_2 _ _) (wD (j:=j) (t':=t') (by rw[LY];exact hit) λm hm=>?_) ⟨ho,⟨.int (j:Nat),H,I.tok _,⟨_,rfl⟩,q⟩⟩
 have hl:m<ws.length:=NO hm (K7.mp hj).1;have e:=K1 hl;obtain⟨ty,hy⟩:=iE r m _ e;exact⟨_,ty,by rw[LY];exact hy,λz=>hno m hm (by rw[e,z])⟩
open Builtin Builtin.Str
open PySem PySem.Spec PyProof PyProof.Rows
def yY(K:W.Frag)(a:Addr):It:=
 ⟨λi H=>∃x,getL K a i H x,λi H x H'=>∃p y,(∀xs,a_ K H a xs->xs[i]?=some y)/\H p=none/\x=.ref p/\H'=upd H p (.tup [.int i,y]),Jh K a⟩
theorem tu{P:Program}{w:World}{K:W.Frag}{es:List Expr}{tk:Nat}{tp:Pos}(a it e:Addr)(hne:e≠it):Turn P w K (.Tuple es tk tp) (yY K a) [e,it] e (λi h=>(∃old,IsEnum h e it i old)/\h.IsListIter it a i) where
 mem:=by simp
 obj:=λi h st b hb=>by
  obtain⟨⟨old,he⟩,o,eo,c,d⟩:=st;rcases KL.mp hb with z|z
  ·subst z;exact⟨_,he,λv z=>by cases z⟩
  ·have z:b=it:=by simpa using z
   subst z;exact⟨o,eo,λv z=>by rw[d] at z;cases z⟩
 keep:=λi h h' st k=>by
  obtain⟨⟨old,he⟩,o,eo,r⟩:=st;exact⟨⟨old,k e (by simp) _ he⟩,o,k it (by simp) o eo,r⟩
 item:=by
  intro X hP hw hK hc i pins s σ H E I hf st hg;subst hP hw hK;obtain⟨x,xs,hq,hx⟩:=hg;obtain⟨⟨old,he⟩,hit⟩:=st;obtain⟨its,rv,p,hz⟩:=I.list hq;obtain⟨u,hu,ru⟩:=rv.get hx;obtain⟨g0,g1,g2,g3,g4,g5⟩:=hf e (by simp)
  obtain⟨f0,f1,f2,f3,f4,f5⟩:=hf it (by simp)
  have ht:s.heap.IsList a its.toArray:=p.isList;have ha:a≠it:=by
   rintro rfl;obtain⟨o,e1,c1,_⟩:=hit;obtain⟨o',e2,c2,_⟩:=ht;rw[e1] at e2;cases e2;rw[c1] at c2;exact absurd (Value.type.inj c2) (by decide)
  have hea:e≠a:=by
   rintro rfl;obtain⟨o',e2,c2,_⟩:=ht;have e1:s.heap.get? e=some _:=he;rw[e1] at e2;cases e2;exact absurd (Value.type.inj c2) (by decide)
  have hi:i<its.toArray.size:=by
   have:=(K7.mp hu).1
   simpa using this
  refine PB (Draws.list (A:=X.A.in1) (I.ok.hd hc) it a ha its.toArray) he ⟨hit,ht⟩ hi hne (by simp[hne,hea]) λx' h' tk' hP ho hs' hT hsz hk=>?_
  have ex:x'=u:=by
   have hP':its.toArray[i]?=some x':=hP;rw[LY,hu] at hP';exact (Option.some.inj hP').symm
  subst ex;refine⟨.ref s.heap.objs.size,rfl,OY ho λh2 he2 hs2=>?_⟩;have fr:H s.heap.objs.size=none:=I.bg.fresh (KH _);have hle:e≠s.heap.objs.size:=Ll (Lb he);have hT2:h2.get? s.heap.objs.size=some {cls:=.type "tuple",data:=.seq #[.int i tk',x']}:=(hs2.2 _ (Mc hle)).trans hT;have I2:Inv X pins σ (upd H s.heap.objs.size (.tup [.int i,x])) {s with heap:=h2,toks:=tk'+1}:=by
   refine I.nY (fp:=[e,it]) hf (KH _) (λb o hb eb=>?_) ⟨by show 2<=sizeLine;decide,[.int i tk',x'],.cons ⟨_,rfl⟩ (.cons ru .nil),⟨_,hT2,rfl,_,rfl,rfl⟩⟩
   have n1:b≠e:=λz=>hb (by simp[z])
   have n2:b≠it:=λz=>hb (by simp[z])
   exact (hs2.2 b n1).trans (hk b o n1 n2 eb)
  refine⟨.ref s.heap.objs.size,_,I2,rfl,⟨s.heap.objs.size,x,λys hy=>by rw[I.lK hy hq];exact hx,fr,rfl,rfl⟩,⟨⟨x',?_⟩,?_⟩,λb hb=>?_⟩
  ·have e:(((i+1:Nat)):Int)=(i:Int)+1:=by lia
   rw[e];exact he2
  ·obtain⟨o,e1,r⟩:=hs'.1;exact⟨o,(hs2.2 it (Mc hne)).trans e1,r⟩
  ·have n:b≠s.heap.objs.size:=by
    rcases KL.mp hb with z|z
    ·subst z;exact hle
    ·have z:b=it:=by simpa using z
     subst z;obtain⟨o,e1,_⟩:=hit;exact Ll (Lb e1)
   rw[af n];exact (hf b hb).1
 done:=by
  intro X hP hw hK hc i pins s σ H E I hf st hg;subst hP hw hK;obtain⟨xs,hq,hx⟩:=hg;obtain⟨⟨old,he⟩,hit⟩:=st;obtain⟨its,rv,p,hz⟩:=I.list hq;have ht:s.heap.IsList a its.toArray:=p.isList;have ha:a≠it:=by
   rintro rfl;obtain⟨o,e1,c1,_⟩:=hit;obtain⟨o',e2,c2,_⟩:=ht;rw[e1] at e2;cases e2;rw[c1] at c2;exact absurd (Value.type.inj c2) (by decide)
  have hl:=rv.length;have hsz:its.toArray.size=i:=by simp;lia
  refine PY (Draws.list (A:=X.A.in1) (I.ok.hd hc) it a ha its.toArray) he (by rw[hsz];exact⟨hit,ht⟩) λh' eb=>⟨rfl,?_⟩
  exact I.turns (t':=s.toks) hf λb o hb e1=>eb b o (λz=>hb (by simp[z])) e1
 self:=λA i s Q E st h=>by
  obtain⟨⟨old,he⟩,_⟩:=st;exact Oa he h
section
variable {X:Cx} {es:List Expr} {tk:Nat} {tp:Pos}
def kX(K:W.Frag)(ta:TA):TI:=λσ H R=>ta σ H λvs H1=>∃a,vs=[.ref a]/\(∃xs,a_ K H1 a xs)/\R (yY K a) H1
theorem A8{e:Expr}{ta:TA}{p pos:Pos}(hg:Gl X "enumerate")(hm:X.mg "enumerate"=none)(ha:PA X [e] ta)(h1:autoParam (dY e=true) ℜ0)(hv:autoParam (bootBuiltins "enumerate"=some (.type "enumerate")) ℜ6):
  PI X (.Tuple es tk tp) (.Call (.Name "enumerate" p) [e] [] pos) (kX X.K ta):=by
 intro pins s σ H R I h;refine Call_ (eX I hg hm hv (LN (bS (ha pos pins s σ H _ I h) λus s1 hq1=>?_) (cz h1) rfl));obtain⟨vs,H1,I1,r1,q1⟩:=hq1;obtain⟨a,e,⟨xs,hq⟩,q⟩:=q1;subst e;obtain⟨u,rfl,ru⟩:=vals1 r1;cases ru;obtain⟨its,rv,pt,hz⟩:=I1.list hq;refine call_enumerate_list pt.isList λh' he hit hsz hk=>?_;refine Oa he ?_;have I2:Inv X pins σ H1 {s1 with heap:=h'}:=I1.kept (t':=s1.toks) hk
 refine⟨s1.heap.objs.size+1,[s1.heap.objs.size+1,s1.heap.objs.size],_,_,H1,rfl,I2,tu a s1.heap.objs.size (s1.heap.objs.size+1) (Ms (Ot _)),⟨⟨_,he⟩,hit⟩,λb hb=>?_,q⟩;have hb':s1.heap.objs.size<=b:=by
  rcases KL.mp hb with z|z
  ·rw[z];exact M0 _
  ·have z:b=s1.heap.objs.size:=by simpa using z
   rw[z];exact KH _
 exact I1.p6 hb' (I1.bg.fresh hb')
end
def AI(K:W.Frag)(ws:List Str)(v:Value):Prop:=∃p,v=.ref p/\IS K p (ws.map V.str)
structure kx (K:W.Frag) (a:Addr) (D:List (Str×List Str)):Prop where
 low:(a == sysModules)=false
 ex:∃o es ep,K.lookup a=some o/\o.ExactDict/\o.data=.dict es ep/\KTD.Rows (AI K) es.toList D
section
variable {prog:Program} {w:World} {A:Around} {E:Value->Shared->Prop} {s:Shared} {K:W.Frag} {a:Addr} {D:List (Str×List Str)} {k:Str} {tk:Tok}
theorem kx.typeIs(T:kx K a D)(X:K.In s.heap):s.TypeIs (.ref a) "dict":=let ⟨o,_,_,ho,hc,_⟩:=T.ex;⟨o,X _ _ ho,hc.1⟩
theorem y0{Q:Option Value->Shared->Prop}(T:kx K a D)(X:K.In s.heap)(h1:∀d v,KTD.datumAt k D=some d->AI K d v->Q (some v) {s with toks:=s.toks+1})(h2:KTD.datumAt k D=none->Q none {s with toks:=s.toks+1}):
  wpAny (model prog w) A (dictGet a (.str k tk)) Q E s:=by
 obtain⟨o,es,ep,ho,hc,hd,hr⟩:=T.ex;have ho:=X _ _ ho;unfold dictGet
 try with_reducible refine LP ?_
 refine K4 (wpAny_pyHash_str (K4 (KTD.kt_dictFind_strs (s:={s with toks:=s.toks+1}) ho hd (by obtain⟨l⟩:=es;simpa using hr.exact) ?_)))
 have hq:Q (findBy (λk v=>v.isStr k) es k) {s with toks:=s.toks+1}:=by
  have hf:findBy (λk v=>v.isStr k) es k=(es.toList.find? λe=>e.key.isStr k).map (·.val):=by
   obtain⟨l⟩:=es;simp[findBy]
  rw[hf]
  cases hat:KTD.datumAt k D with
  |some d=>obtain⟨v,hv,hfl⟩:=hr.find_some hat;rw[hv];exact h1 d v hat hfl
  |none=>rw[hr.find_none hat];exact h2 hat
 rw[findBy_of_findIdx?] at hq
 cases hi:es.findIdx? λe=>e.key.isStr k with
 |none=>rw[hi] at hq;exact KR hq
 |some i=>rw[hi] at hq;exact K4 (Oc (s:={s with toks:=s.toks+1}) ho hd (KR hq))
end
namespace Y
def Io(neg:Bool):R2:=λx y H Q=>∃a o,y=.ref a/\m8 H a x o/\Q (.bl (if neg then !o.isSome else o.isSome)) H
theorem y_{X:Cx}(hu:X.A.units+1<cLine):cJ X (compareOp .NotIn) (Io true):=by
 intro pins s σ H x y v u Q I rx ry h;obtain⟨a,o,rfl,g,q⟩:=h;obtain rfl:u=Value.ref a:=ry;exact Cz hu I g rx λs' I'=>⟨.bl (!o.isSome),H,I',rfl,q⟩
theorem mY:∀(more kvs:List (Key×V)),((kvs++more).map (·.1)).Nodup->gv kvs more=kvs++more
 |[],kvs,_=>by rw[LF];rfl
 |p::r,kvs,h=>by
  have hn:fW kvs p.1=none:=by
   cases hv:fW kvs p.1 with
   |none=>rfl
   |some v =>
    have hm:=BA hv;rw[KN,Lp] at h;have:=List.nodup_append.mp h;exact absurd rfl (this.2.2 _ hm _ KG)
  show gv (putK kvs p.1 p.2) r=_;rw[Bo p.2 hn,mY r _ (by rw[Ld];exact h),Ld]
  rfl
end Y
noncomputable def jr{α:Type}(xs:List α)(i:Nat)(y:α):List α:=xs.take i++y::xs.drop i
def BM:V->List V->Hp->VK->Prop:=λx vs H Q=>∃l xs i y,x=.ref l/\vs=[.int i,y]/\H l=some (.lst xs)/\0<=i/\i<2^63/\xs.length<sizeLine/\Q .aO (upd H l (.lst (jr xs (min i.toNat xs.length) y)))
theorem ng{X:Cx}:G_ X "list.insert" BM:=by
 intro pins s σ H x vs v us Q I rx rv h;obtain⟨l,xs,i,y,rfl,rfl,hH,h0,h1,hz,q⟩:=h;cases rx;obtain⟨u,w',rfl,⟨t,rfl⟩,rw'⟩:=vals2 rv;obtain⟨z,its,n,r,hl,e⟩:=I.mf hH;have hfit:¬ (!Builtin.List.listFitsIndex i)=true:=by
  have:=Qg (k:=i) (by lia) h1
  rw[this];exact KP
 refine MJ F.slot_list_insert ⟨_,e,rfl⟩ F.entry_list_insert (F.args_list_insert_3 _ _ _) (AutoSeq1.list_insert_list_int_val_1 l its.toArray n i t w' hfit (by rw[KC];lia)) ⟨e,?_⟩
 have el:its.length=xs.length:=hl.symm;refine⟨.aO,_,I.BV (its':=jr its (min i.toNat its.length) w') hH e ?_ ?_ ?_,rfl,q⟩
 ·show (have k:=if i<0 then _ else min i.toNat its.toArray.size;(its.toArray.extract 0 k).push w'++its.toArray.extract k)=_
  rw[KJ (by lia)]
  apply Ov.mp;unfold jr;simp[Po,L9]
 ·rw[el];unfold jr;exact (r.take _).append (.cons rw' (r.drop _))
 ·unfold jr;rw[K6,KQ,K_,Ly];lia
open Builtin Builtin.Str
open PySem PySem.Spec PyProof PyProof.Rows
open Builtin Builtin.Str
section
variable {prog:Program} {w:World} {A:Around} {E:Value->Shared->Prop} {h:Heap} {g:Array GenState} {d:Drawn} {t:Nat} {os:OsState} {a:Addr} {items:Array Value} {cn:Nat}
theorem B4:typeLookup (.type "list") "keys"=pure none:=am_miss_of_fast (by kernel_rfl)
theorem rN:typeLookup (.type "list") "__getattr__"=pure none:=by rw[typeLookup_type,builtinLookup_eq_fast];kernel_rfl
theorem Ae{name:Str}{tk:Tok}{Q:Fin->Shared->Prop}(hx:h.get? a=some {cls:=.type "list",dict:=none,data:=.seq items cn,slots:=#[]})(hmiss:typeLookup (.type "list") name=pure none)(hnc:(["__module__","__name__","__qualname__","__doc__","__annotations__"]:List Str).contains name=false)(hh:A.handled=none)
  (hq:∀h' tk' e,Heap.NewAttrErr h h' e (.ref a) name->E (.ref e) ⟨h',g,d,tk',os⟩) (hsz:name.length+100<=sizeLine:=by size_fits) :
  wpAny (model prog w) A (Builtin.«object.__getattribute__» ⟨[.ref a,.str name tk],[]⟩) Q E ⟨h,g,d,t,os⟩:=by
 have hT:(⟨h,g,d,t,os⟩:Shared).TypeIs (.ref a) "list":=⟨_,hx,rfl⟩;unfold Builtin.«object.__getattribute__»
 repeat (any_goals (first|assumption|wp_step))
 rw[KJ (by rw[hnc];decide)]
 repeat (any_goals (first|assumption|wp_step))
 exact wpAny_raiseAttrError hh hq (attrMsg_fits (by decide +kernel) hsz)
theorem CQ{name:Str}{tk:Tok}{R:Result->Shared->Prop}(hx:h.get? a=some {cls:=.type "list",dict:=none,data:=.seq items cn,slots:=#[]})(hmiss:typeLookup (.type "list") name=pure none)(hnc:(["__module__","__name__","__qualname__","__doc__","__annotations__"]:List Str).contains name=false)(hh:A.handled=none)
  (hq:∀h' tk' e,Heap.NewAttrErr h h' e (.ref a) name->R (.error (.ref e)) ⟨h',g,d,tk',os⟩) (hsz:name.length+100<=sizeLine:=by size_fits) :
  codeAny (model prog w) A (.call (.builtin "list.__getattribute__") ⟨[.ref a,.str name tk],[]⟩) R ⟨h,g,d,t,os⟩:=
 codeAny_call_builtin M_.plain F.entry_list_ga (M_.check _ _ _ _ _ _ _ _ (show (⟨h,g,d,t,os⟩:Shared).TypeIs (.ref a) "list" from⟨_,hx,rfl⟩) (F.args_list_getattribute_2 _ _) (Ae hx hmiss hnc hh hq hsz))
theorem IA{name:Str}{tk:Tok}{Q:Value->Shared->Prop}(hx:h.get? a=some {cls:=.type "list",dict:=none,data:=.seq items cn,slots:=#[]})(hmiss:typeLookup (.type "list") name=pure none)(hnc:(["__module__","__name__","__qualname__","__doc__","__annotations__"]:List Str).contains name=false)(hh:A.handled=none)
  (hq:∀h' tk' e,Heap.NewAttrErr h h' e (.ref a) name->E (.ref e) ⟨h',g,d,tk',os⟩) (hsz:name.length+100<=sizeLine:=by size_fits) :
  wpAny (model prog w) A (getAttrBy (.ref a) (.str name tk) false) Q E ⟨h,g,d,t,os⟩:=by
 have hT:(⟨h,g,d,t,os⟩:Shared).TypeIs (.ref a) "list":=⟨_,hx,rfl⟩;have f1:=sub_AttributeError;have f2:=M_.lookup;have f3:=M_.bind (.ref a);have f5:=rN
 repeat (any_goals (first|assumption|wp_step))
 refine CQ hx hmiss hnc hh (λh' tk' e x=>?_) hsz;obtain⟨t',u',he⟩:=x.there;show wpAny _ _ (getattributeRaised _ _ _ _ _ _ _) _ _ _;unfold getattributeRaised
 repeat (any_goals (first|assumption|wp_step))
 exact hq _ _ _ x
theorem Ca{name:Str}{Q:Option Value->Shared->Prop}(hx:h.get? a=some {cls:=.type "list",dict:=none,data:=.seq items cn,slots:=#[]})(hmiss:typeLookup (.type "list") name=pure none)(hnc:(["__module__","__name__","__qualname__","__doc__","__annotations__"]:List Str).contains name=false)(hh:A.handled=none)
  (hq:∀h' tk',(∀b o,h.get? b=some o->h'.get? b=some o)->Q none ⟨h',g,d,tk',os⟩) (hsz:name.length+100<=sizeLine:=by size_fits) :
  wpAny (model prog w) A (getAttr? (.ref a) name) Q E ⟨h,g,d,t,os⟩:=by
 have f1:=sub_AttributeError;unfold getAttr? getAttrBy?;refine K4 (wpAny_mkText (K4 (Oq (IA hx hmiss hnc hh (λh' tk' e x=>?_) hsz))));obtain⟨t',u',he⟩:=x.there;have k:=x.keeps
 repeat (any_goals (first|assumption|wp_step))
 exact hq _ _ x.keeps
end
section
variable {prog:Program} {w:World} {K:Type} [DecidableEq K] {knd:KeyKind prog w K} {A:Around} {R:Result->Shared->Prop}
theorem iY:plainId "dict.update.loop"=true:=by decide +kernel
theorem g_:entryFor table "dict.update.loop"=some Builtin.«dict.update.loop»:=entryFor_of_fast (by kernel_rfl)
theorem sO(kvs:List (K×Value))(k:K)(v:Value):(stored kvs k v).length<=kvs.length+1:=by
 unfold stored;split
 ·rw[K2];lia
 ·rw[K6];simp
theorem km:∀(more kvs:List (K×Value)),(merged kvs more).length<=kvs.length+more.length
 |[],kvs=>by unfold merged;simp
 |p::more,kvs=>by
  have h1:=km more (stored kvs p.1 p.2);have h2:=sO kvs p.1 p.2;have e:merged kvs (p::more)=merged (stored kvs p.1 p.2) more:=rfl;rw[e,KQ];lia
theorem C6{it l dd:Addr}{items:Array Value}{more:List (K×Value)}(hh:A.handled=none)(hn:more.length=items.size)(h1:dd≠it)(h2:dd≠l)(h3:it≠l)(ps:Nat->Addr)(hps:∀i,i<items.size->items[i]?=some (.ref (ps i))/\ps i≠it/\ps i≠dd)(hsz:more.length<=20000):
  ∀(k i:Nat) (s:Shared),items.size-i=k->i<=items.size->s.heap.IsListIter it l i->s.heap.IsList l items->s.heap.DictOf knd dd (merged [] (more.take i)) ->
  (∀j,j<items.size->∃key v,s.heap.IsTuple (ps j) #[key,v]/\∃kk,more[j]?=some (kk,v)/\knd.is kk key=true) ->
  (∀h' tk,h'.DictOf knd dd (merged [] more)->(∀b o,b≠it->b≠dd->s.heap.get? b=some o->h'.get? b=some o)->R (.ok (.ret .none)) {s with heap:=h',toks:=tk}) ->
  codeAny (model prog w) A (.builtin "dict.update.loop" ⟨[.ref dd,.ref it,rawInt i,.none],[]⟩) R s:=by
 intro k
 induction k with
 |zero =>
  intro i s hk hi hit hl hd hp hR;have hin:i=items.size:=by lia
  subst hin;refine Nq g_ ?_;rw[N4 iY _];show wpAny _ A.in1 (pyNext (.ref it) >>= _) _ _ s;refine K4 (wpAny_pyNext_list_end hh hit hl (by simp) λh' he=>?_)
  refine K4 (KR (KR ?_));refine hR h' s.toks ?_ λb o b1 b2 e=>he b o b1 e;rw[L9 (by lia)] at hd
  exact hd.extBut he h1
 |succ k ih =>
  intro i s hk hi hit hl hd hp hR;have hlt:i<items.size:=by lia
  refine Nq g_ ?_;rw[N4 iY _];show wpAny _ A.in1 (pyNext (.ref it) >>= _) _ _ s;obtain⟨e1,e2,e3⟩:=hps i hlt;refine K4 (PR hit hl e1 λh' hit' hs'=>?_);obtain⟨key,v,ht,kk,em,hkk⟩:=hp i hlt;have ht':h'.IsTuple (ps i) #[key,v]:=by obtain⟨o,ho,r⟩:=ht;exact⟨o,(hs'.2 _ e2).trans ho,r⟩
  have hd':h'.DictOf knd dd (merged [] (more.take i)):=by obtain⟨o,es,ep,ho,r⟩:=hd;exact⟨o,es,ep,(hs'.2 _ h1).trans ho,r⟩
  refine K4 (LP (K4 (wpAny_tryCatch ?_)));unfold Dict.pairItems;refine K4 (O7 ht'.typeIs ?_);rw[KO (by decide)]
  obtain⟨o,ho,hoc,nn,hod⟩:=id ht';refine K4 (N1 ho hod (KR ?_));show wpAny _ A.in1 (holding [key,v] (dictSet dd key v)) _ _ _;refine LP (wpAny_dictSet_pairs hkk hd' (λh2' hd2 hs2=>?_) ?_)
  rotate_left
  ·exact KA (km _ _) (KA (by rw[LS,Mv,K_];exact KA (Nat.min_le_right _ _) hsz) (by decide))
  have et:merged [] (more.take (i+1))=stored (merged [] (more.take i)) kk v:=by
   have hlt':i<more.length:=by lia
   have:more[i]=(kk,v):=by rw[K1 hlt'] at em;exact Option.some.inj em
   rw[List.take_succ_eq_append_getElem hlt',this];unfold merged;rw[List.foldl_append];rfl
  refine KR ⟨Qx iY _,?_⟩;have:=ih (i+1) {s with heap:=h2',toks:=s.toks+1} (by lia) hlt (by obtain⟨o,ho,r⟩:=hit';exact⟨o,(hs2.2 _ (Mc h1)).trans ho,r⟩) (by obtain⟨o,ho,r⟩:=hl;exact⟨o,(hs2.2 _ (Mc h2)).trans ((hs'.2 _ (Mc h3)).trans ho),r⟩) (by rw[et];exact hd2) (λj hj=>by
   obtain⟨key,v,⟨o,ho,r⟩,rr⟩:=hp j hj;obtain⟨f1,f2,f3⟩:=hps j hj;exact⟨key,v,⟨o,(hs2.2 _ f3).trans ((hs'.2 _ f2).trans ho),r⟩,rr⟩) (λh3' tk hd3 hk3=>hR h3' tk hd3 λb o b1 b2 e=>hk3 b o b1 b2 ((hs2.2 _ b2).trans ((hs'.2 _ b1).trans e)))
  exact this
theorem t4{E:Value->Shared->Prop}{s:Shared}{l:Addr}{items:Array Value}{cn:Nat}{more:List (K×Value)}{Q:Value->Shared->Prop}(hl:s.heap.get? l=some {cls:=.type "list",dict:=none,data:=.seq items cn,slots:=#[]})(hh:A.handled=none)(hn:more.length=items.size)(hsz:more.length<=20000)
  (ps:Nat->Addr) (hps:∀i,i<items.size->items[i]?=some (.ref (ps i))) (hp:∀j,j<items.size->∃key v,s.heap.IsTuple (ps j) #[key,v]/\∃kk,more[j]?=some (kk,v)/\knd.is kk key=true)
  (h:∀h' tk,h'.DictOf knd s.heap.objs.size (merged [] more)->(∀b o,s.heap.get? b=some o->h'.get? b=some o)->Q (.ref s.heap.objs.size) {s with heap:=h',toks:=tk}) :
  wpAny (model prog w) A (call (.type "dict") [.ref l]) Q E s:=by
 refine callType_codes (Q₁:=λobj s₁=>obj=.ref s.heap.objs.size/\s₁={s with heap:=s.heap.push {cls:=.type "dict",data:=.dict #[]}}) F.kt_called_dict (F.kt_typeCall_dict_1 _) F.entry_dict_init (kt_code_dict_new _ ⟨rfl,rfl⟩) ?_
 rintro obj s₁ ⟨rfl,rfl⟩;have hnew:(s.heap.push {cls:=.type "dict",data:=.dict #[]}).DictOf knd s.heap.objs.size []:=Heap.DictOf.new s.heap;refine⟨hnew.typeIs,F.args_dict_init_2 _ _,?_⟩;unfold Builtin.«dict.__init__»;refine K4 ?_;unfold Builtin.Dict.selfAndRest;refine K4 (wpAny_notOrdered_dict hnew.typeIs ?_);show wpAny _ _ (pure (s.heap.objs.size,[Value.ref l])) _ _ _;refine KR ?_;show wpAny _ _ (Builtin.Dict.updateFrom "dict.__init__" s.heap.objs.size (.ref l) [] .none) _ _ _;unfold Builtin.Dict.updateFrom;have hl1:(s.heap.push {cls:=.type "dict",data:=.dict #[]}).get? l=some {cls:=.type "list",dict:=none,data:=.seq items cn,slots:=#[]}:=K9 _ hl;have hT:({s with heap:=s.heap.push {cls:=.type "dict",data:=.dict #[]}}:Shared).TypeIs (.ref l) "list":=⟨_,hl1,rfl⟩
 refine K4 (O7 hT ?_);rw[KO (by decide)]
 refine K4 ?_;refine Ca hl1 B4 (by decide +kernel) hh (λh1 tk1 k1=>?_)
 rw[KO (show (none:Option Value).isNone=true from rfl)];have hl2:h1.IsList l items:=⟨_,k1 _ _ hl1,rfl,cn,rfl⟩;have up:∀b o,s.heap.get? b=some o->h1.get? b=some o:=λb o e=>k1 b o (K9 _ e);obtain⟨od,es,ep,hod,hor⟩:=hnew;have hdl:s.heap.objs.size<h1.objs.size:=Lb (k1 _ _ hod);have hll:l<s.heap.objs.size:=Lb hl;have hpl:∀j,j<items.size->ps j<s.heap.objs.size:=λj hj=>by obtain⟨key,v,⟨o,ho,_⟩,_⟩:=hp j hj;exact Lb ho
 refine K4 (Pj (K4 (Ob hl2 (KR ⟨Qx iY _,?_⟩))));refine C6 (knd:=knd) (it:=h1.objs.size) (l:=l) (items:=items) (more:=more) (A:=A.in1) hh hn (Ll hdl) (Ms hll) (Ms (NO hll hdl)) ps (λi hi=>⟨hps i hi,Ll (NO (hpl i hi) hdl),Ll (hpl i hi)⟩) hsz _ 0 _ rfl (KW _) ⟨_,La _ rfl,rfl,rfl⟩ ?_ ⟨od,es,ep,K9 _ (k1 _ _ hod),hor⟩ (λj hj=>?_) (λh' tk hd hk=>⟨rfl,h h' tk hd λb o e=>hk b o ?_ ?_ (K9 _ (up b o e))⟩)
 ·obtain⟨o,ho,r⟩:=hl2;exact⟨o,K9 _ ho,r⟩
 ·obtain⟨key,v,⟨o,ho,r⟩,rr⟩:=hp j hj;exact⟨key,v,⟨o,K9 _ (up _ _ ho),r⟩,rr⟩
 ·exact Ll (NO (Lb e) hdl)
 ·exact Ll (Lb e)
end
theorem mL{α β:Type}{F:α->β->Prop}:∀{l₁:List α} {l₂:List β},l₁.length=l₂.length->(∀(j:Nat) a b,l₁[j]?=some a->l₂[j]?=some b->F a b)->Paired F l₁ l₂
 |[],[],_,_=>.nil
 |[],_::_,h,_=>by cases h
 |_::_,[],h,_=>by cases h
 |a::l₁,b::l₂,h,f=>.cons (f 0 a b rfl rfl) (mL (Nat.succ.inj h) λj x y hx hy=>f (j+1) x y (by simpa using hx) (by simpa using hy))
def CL(K:W.Frag)(H:Hp)(vs:List V)(kvs:List (Key×V)):Prop:=vs.length=kvs.length/\∀(j:Nat) (k:Key) (x:V),kvs[j]?=some (k,x)->∃p,vs[j]?=some (.ref p)/\H p=some (.tup [kV k,x])
def Ex(K:W.Frag):List V->Hp->VK->Prop:=λxs H Q=>∃l vs kvs,xs=[.ref l]/\H l=some (.lst vs)/\CL K H vs kvs/\kvs.length<=20000/\∀p,H p=none->Q (.ref p) (upd H p (.dK (gv [] kvs)))
theorem qI{X:Cx}(K:W.Frag)(hc:X.calm=true):bt X (.type "dict") (Ex K):=by
 intro pins s σ H xs us Q I r h;obtain⟨l,vs,kvs,rfl,hl,hp,hk,q⟩:=h;obtain⟨u,rfl,e0⟩:=vals1 r;have e1:u=.ref l:=e0;subst e1;obtain⟨hlen,its,n,hv,hget⟩:=(show bw X.prog X.w H s.heap l (.lst vs) from I.bg l _ hl);have hsz:its.toArray.size=kvs.length:=by rw[<- hp.1,KC,<- Paired.length hv]
 have key:∀j,j<kvs.length->∃p k x,kvs[j]?=some (k,x)/\its[j]?=some (.ref p)/\∃ku xu,s.heap.IsTuple p #[ku,xu]/\iW k ku=true/\RelV x xu:=λj hj=>by
  obtain⟨p,e1,e2⟩:=hp.2 j kvs[j].1 kvs[j].2 (K1 hj);obtain⟨u,e3,e4⟩:=Vals.get hv e1;have e5:u=.ref p:=e4;subst e5;obtain⟨_,ts,tv,hT⟩:=(show bw X.prog X.w H s.heap p (.tup [kV kvs[j].1,kvs[j].2]) from I.bg p _ e2);obtain⟨ku,xu,rfl,r1,r2⟩:=vals2 tv;exact⟨p,_,_,K1 hj,e3,ku,xu,hT.to,v5 (P:=X.prog) (w:=X.w) r1,r2⟩
 obtain⟨f,hf⟩:=Classical.axiomOfChoice (r:=λ(j:Nat) (y:Addr×Value×Value)=>∀hj:j<kvs.length,s.heap.IsTuple y.1 #[y.2.1,y.2.2]/\iW kvs[j].1 y.2.1=true/\RelV kvs[j].2 y.2.2/\its[j]?=some (.ref y.1)) (λj=>by
  by_cases hj:j<kvs.length
  ·obtain⟨p,k,x,e1,e2,ku,xu,hT,h1,h2⟩:=key j hj;rw[K1 hj] at e1;have e1':kvs[j]=(k,x):=Option.some.inj e1;exact⟨(p,ku,xu),λ_=>⟨hT,by rw[e1'];exact h1,by rw[e1'];exact h2,e2⟩⟩
  ·exact⟨(0,.none,.none),λh=>absurd h hj⟩)
 let mv:List (Key×Value):=(List.range kvs.length).map λj=>((kvs[j]?.getD (.inl 0,.aO)).1,(f j).2.2)
 have hmv:mv.length=kvs.length:=by simp[mv]
 have hmj:∀j (hj:j<kvs.length),mv[j]?=some (kvs[j].1,(f j).2.2):=λj hj=>by
  simp only[mv,K8,Nc hj,Option.map_some,K1 hj,Option.getD_some]
 have at':∀j (hj:j<kvs.length),∃ku xu,s.heap.IsTuple (f j).1 #[ku,xu]/\iW kvs[j].1 ku=true/\RelV kvs[j].2 xu/\its[j]?=some (.ref (f j).1)/\mv[j]?=some (kvs[j].1,xu):=λj hj=>by
  obtain⟨h1,h2,h3,h4⟩:=hf j hj;exact⟨_,_,h1,h2,h3,h4,hmj j hj⟩
 have hKV:KV kvs mv:=by
  refine mL (by rw[hmv]) λj a b ha hb=>?_
  have hj:j<kvs.length:=by
   rcases LH j kvs.length with c|c
   ·exact c
   ·rw[LW.mpr c] at ha;cases ha
  obtain⟨ku,xu,_,_,h2,_,h3⟩:=at' j hj;rw[K1 hj] at ha;cases ha;rw[h3] at hb;cases hb;exact⟨rfl,h2⟩
 refine t4 (knd:=cF X.prog X.w) hget (I.ok.hd hc) (by rw[hmv,hsz]) (by rw[hmv];exact hk) (λj=>(f j).1) (λi hi=>?_) (λj hj=>?_) (λh' tk hd hkp=>?_)
 ·rw[hsz] at hi;obtain⟨_,_,_,_,_,e,_⟩:=at' i hi;rw[LY];exact e
 ·rw[hsz] at hj;obtain⟨ku,xu,hT,h1,_,_,h3⟩:=at' j hj;exact⟨ku,xu,hT,_,h3,h1⟩
 ·have hz:(gv [] kvs).length<=sizeLine:=by
   have h1:=hG kvs [];rw[LS] at h1;exact KA (show _<=20000 by lia) (by decide)
  exact⟨.ref s.heap.objs.size,_,I.laid (t':=tk) hkp (KH _) (EB hz (LJ.mpr (Mc (Ll I.big))) (hKV.merge .nil) hd),rfl,q _ (I.bg.fresh (KH _))⟩
open PySem PySem.Spec PyProof PyProof.Rows
namespace Z
section
variable {X:Cx} {CX:pe} {k:Nat} {f C:Addr} {fd:FuncData} {ps:List Str} {sp:Sp} {E:XK} {x m nm:Str} {p pos pos' apos:Pos} {e o i value:Expr} {es:List Expr} {ta tv td ty:TE} {t:TA}
theorem JY(hu:X.A.units+1<cLine)(ho:QE X o td)(hi:QE X i ty)(hs:yM i:=by exactλ_ _=>rfl):QE X (.Subscript o i pos) (pX td ty):=⟨Cr hu ho.h hi.h hs⟩
end
end Z
namespace Ap
theorem pX(td ty:TE)(σ:St)(H:Hp)(Q:VK):L2.pX td ty σ H Q=td σ H λx H1=>ty σ H1 λy H2=>∃a v,x=.ref a/\m8 H2 a y (some v)/\Q v H2:=rfl
end Ap
section
variable {prog:Program} {w:World} {A:Around} {E:Value->Shared->Prop} {s:Shared} {K:W.Frag} {a:Addr} {D:List (Str×List Str)} {k:Str} {tk:Tok}
theorem wj{ws:List Str}{Q:Value->Shared->Prop}(T:kx K a D)(X:K.In s.heap)(hk:KTD.datumAt k D=some ws)(h:∀v,AI K ws v->Q v {s with toks:=s.toks+1}):wpAny (model prog w) A (getItem (.ref a) (.str k tk)) Q E s:=by
 have hT:=T.typeIs X;unfold getItem
 try with_reducible refine LP ?_
 refine K4 (wpAny_sequenceKey hT (by decide) ?_)
 refine K4 (LO (name:=Str.ofString "__getitem__") hT PySem.F.slot_dict_getitem
  (LV PySem.F.slot_dict_getitem hT PySem.F.entry_dict_getitem ?_ (args_dict_getitem _ _)))
 show wpAny _ _ (dictGet a (.str k tk) >>= _) _ _ s;refine K4 (y0 T X (λd v e r=>?_) λe=>?_)
 ·rw[hk] at e;cases e;exact KR ⟨v,rfl,KR (h v r)⟩
 ·rw[hk] at e;cases e
end
variable{Q:Value->Shared->Prop}{X:Cx}{body e:Expr}{c' d f kS:Addr}{D:List (Str×List Str)}{a b:List Nat}{q x:Str}{e1 ep i j:Nat}{y:Int×Int}{α:Type}{p:Array Nat}{t:TA}{N:List Str}{σf:List (Option V)}{scope:Scope}{cl:List (Str×Addr)}{params:Arguments}{ctv pm:Value}{H H1:Hp}{h h':Heap}{P:PySem.Fin->Shared->Prop}{us:List Value}{kz:List Int}{xs:List V}{kpos lpos p1 p2 p3:Pos}{K:W.Frag}{es:Array DictEntry}{prog:Program}{w:World}{prs:List (Int×Int)}
def za(K:W.Frag)(D:List (Str×List Str))(te:TE):TE:=λσ H Q=>te σ H λy H1=>∃k ws,y=.str k/\KTD.datumAt k D=some ws/\∀p,IS K p (ws.map V.str)->Q (.ref p) H1
theorem Gh{o:Expr}{te:TE}{pos:Pos}(ho:PE X o (tC (.ref d)))(hD:kx X.K d D)(he:PE X e te)(hs:yM e):PE X (.Subscript o e pos) (za X.K D te):=by
 intro pins s σ H Q I h;refine uS PySem.F.slot_dict_getitem.lookup hs (bS (ho pins s σ H (λv H'=>v=.ref d/\H'=H) I ⟨rfl,rfl⟩) λu s1 hq1=>?_);obtain⟨x,H1,I1,rx,ex,eh⟩:=hq1;subst ex eh;obtain rfl:u=Value.ref d:=rx;refine bS (he pins s1 σ H1 _ I1 h) λiv s2 hq2=>?_;obtain⟨y,H2,I2,ry,k,ws,ek,e1,q⟩:=hq2;subst ek;obtain⟨t,rfl⟩:=ry;refine⟨hD.typeIs I2.mx,wj hD I2.mx e1 λv r=>?_⟩;obtain⟨p,rfl,r⟩:=r;exact⟨.ref p,H2,I2.tok _,rfl,q p r⟩
theorem Z.seq{tg l:Expr}{tl:TE}(K:W.Frag)(hK:X.K=K)(hl:QE X l tl):QI X tg l (yn K tl):=by subst hK;exact⟨E6 hl.h⟩
theorem Ap.yn(K:W.Frag)(tl:TE)(σ:St)(H:Hp)(R:It->Hp->Prop):L2.yn K tl σ H R=tl σ H λx H1=>∃a,x=V.ref a/\(((∃xs,a_ K H1 a xs)/\R (xB K a) H1)\/((∃xs,aX K H1 a xs)/\R (tX K a) H1)):=rfl
namespace Y
def EU:V->List V->Hp->VK->Prop:=λx vs H Q=>∃(z y:Str) (i:Nat) (rest:List Nat),x=.str z/\vs=[.str y]/\Builtin.Str.occurrences z y 0 z.length 1=i::rest/\Q (.int (i:Nat)) H
theorem yN:vw X "str.index" EU:=by
 intro pins s σ H x xs v us Q I rx rs h;obtain⟨z,y,i,rest,rfl,rfl,ho,q⟩:=h;obtain⟨t,rfl⟩:=rx;obtain⟨u,rfl,k,rfl⟩:=vals1 rs;exact SC.index ho ⟨.int _,H,I.tok _,⟨_,rfl⟩,q⟩
def He:V->List V->Hp->VK->Prop:=λx vs H Q=>∃(a:Addr) (ws:List Str) (k:Str) (j:Nat),x=.ref a/\H a=some (.lst (ws.map V.str))/\vs=[.str k]/\ws[j]?=some k/\(∀m,m<j->ws[m]?≠some k)/\Q (.int (j:Nat)) H
theorem uu:G_ X "list.index" He:=by
 intro pins s σ H x xs v us Q I rx rs h;obtain⟨a,ws,k,j,rfl,hH,rfl,hj,hno,q⟩:=h;cases rx;obtain⟨u,rfl,t,rfl⟩:=vals1 rs;obtain⟨z,its,n,r,hl,e⟩:=I.mf hH;obtain⟨t',hit⟩:=iE r j k hj;have hjl:j<ws.length:=(K7.mp hj).1;rw[K2] at z hl;have hji:j<its.toArray.size:=by rw[KC];lia
 have sz:(sizeLine:Int)<2^63-1:=by decide
 have hje:its.toArray[j]=.str k t':=by
  have:its.toArray[j]?=some (.str k t'):=by rw[LY];exact hit
  exact (MR.mp this).2
 have hall:∀(m:Nat) (hm:m<its.toArray.size),∃y ty,its.toArray[m]=.str y ty/\ws[m]?=some y:=λm hm=>by
  have hm':m<ws.length:=by rw[KC] at hm;lia
  have e1:=K1 hm';obtain⟨ty,hy⟩:=iE r m _ e1;have:its.toArray[m]?=some (.str ws[m] ty):=by rw[LY];exact hy
  exact⟨_,ty,(MR.mp this).2,e1⟩
 refine MJ PySem.F.slot_list_index ⟨_,e,rfl⟩ PySem.F.entry_list_index (PySem.F.args_list_index_2 _ _) (SeqAt.list_indexAt a its.toArray n none _ (.str k t) (λy=>match y with|.str y _=>y == k|_=>false) j hji (by lia) (by rw[hje];exact Md k) λm hm hmj=>?_) ⟨e,λy hy=>?_,⟨.int (j:Nat),H,I.tok _,⟨_,rfl⟩,q⟩⟩
 ·obtain⟨y,ty,ey,ew⟩:=hall m hm;rw[ey];exact LJ.mpr λz=>hno m hmj (by rw[ew,z])
 ·obtain⟨m,hm,rfl⟩:=Array.mem_iff_getElem.mp hy;obtain⟨y,ty,ey,ew⟩:=hall m hm;rw[ey];exact SeqAt.EqAt.str_str _ _ _ _
end Y
open PySem PySem.Spec PyProof PyProof.Rows PySem.W
namespace SP
section
variable (k:Nat->Int)
def R(i j:Nat):Prop:=k i<k j\/(k i=k j/\i<j)
variable {k}
theorem R.le{a b:Nat}(h:R k a b):k a<=k b:=by unfold R at h;lia
end
structure PI (n m:Nat) (p:Array Nat) (a:List Nat):Prop where
 eq:p.toList=a++List.range' m (n-m)
 perm:a.Perm (List.range m)
 le:m<=n
section
variable {n m:Nat} {p:Array Nat} {a:List Nat}
theorem PI.len(h:PI n m p a):a.length=m:=by rw[h.perm.length_eq,Lo]
theorem PI.lt(h:PI n m p a){x:Nat}(hx:x∈a):x<m:=LA.mp (h.perm.mem_iff.mp hx)
theorem PI.size(h:PI n m p a):p.size=n:=by
 have:=h.len;have:=h.le;rw[<- L5,h.eq,K6,List.length_range',h.len];lia
theorem PI.at(h:PI n m p a){x:Nat}(hi:a[i]?=some x):p.getD i 0=x:=by
 have:p[i]?=some x:=by
  rw[<- Lv,h.eq,Lj (K7.mp hi).1];exact hi
 rw[OT,this];rfl
theorem PI.nx(h:PI n m p a)(hm:m<n):p.getD m 0=m:=by
 have:p[m]?=some m:=by
  rw[<- Lv,h.eq,Le (by rw[h.len];exact KH m),h.len,LU,List.getElem?_range' (by lia)];simp
 rw[OT,this];rfl
theorem PI.step(h:PI n m p a)(hm:m<n):PI n (m+1) p (a++[m]):=by
 refine⟨?_,?_,hm⟩
 ·rw[h.eq,Ld,show n-m=(n-(m+1))+1 by lia,Mx];rfl
 ·rw[M7];exact h.perm.append_right [m]
theorem PI.last(h:PI n m p a){y:Nat}(e:a=b++[y]):p.getD (m-1) 0=y:=by
 refine h.at ?_;have:=h.len;rw[e,K6] at this;simp only[KQ,LS] at this;rw[e,Le (by lia),show m-1-b.length=0 by lia];rfl
end
theorem Bb{xs:Array α}{k l:Nat}{y:α}(hy:xs[k]?=some y)(hl:l<=k):(bubble xs k (k-l)).toList=xs.toList.take l++y::(xs.toList.drop l).take (k-l)++xs.toList.drop (k+1):=by
 have hk:k<xs.size:=(MR.mp hy).1;have hL:xs.toList.length=xs.size:=by simp
 apply MS;intro i;rw[Lv,getElem?_bubble hk _ (by lia),show k-(k-l)=l by lia]
 rw[Ld,N5];have ht:(xs.toList.take l).length=l:=by rw[K_];lia
 rw[ht];by_cases h1:i<l
 ·rw[KO h1,KJ (by lia),KJ (by lia),Mo,KO h1,Lv]
 ·rw[KJ h1];by_cases h2:i=l
  ·subst h2;rw[KO rfl,LU,hy];rfl
  ·rw[KJ h2,show i-l=(i-l-1)+1 by lia,Me,LL,N5]
   have hm:((xs.toList.drop l).take (k-l)).length=k-l:=by rw[K_,Ly];lia
   rw[hm];by_cases h3:i-l-1<k-l
   ·rw[KO h3,KO (by lia),Mo,KO h3,Ma,Lv]
    congr 1;lia
   ·rw[KJ h3,KJ (by lia),Ma,Lv]
    congr 1;lia
theorem zp{xs:Array α}(hi:i<=j)(hj:j<=xs.size):(mirror xs i j ((j-i) / 2)).toList=xs.toList.take i++((xs.toList.drop i).take (j-i)).reverse++xs.toList.drop j:=by
 have hL:xs.toList.length=xs.size:=by simp
 apply MS;intro k;rw[Lv,getElem?_mirror_all hj,Ld,N5];have ht:(xs.toList.take i).length=i:=by rw[K_];lia
 have hm:((xs.toList.drop i).take (j-i)).length=j-i:=by rw[K_,Ly];lia
 rw[ht];by_cases h1:k<i
 ·rw[KO h1,KJ (by lia),Mo,KO h1,Lv]
 ·rw[KJ h1,N5,Nd,hm];by_cases h2:k<j
  ·rw[KO (by lia),KO (by lia),List.getElem?_reverse (by lia),hm,Mo,KO (by lia),Ma,Lv]
   congr 1;lia
  ·rw[KJ (by lia),KJ (by lia),Ma,Lv]
   congr 1;lia
theorem PI.rev{n m:Nat}{c:List Nat}(h:PI n m p (b++c)):PI n m (kas_rev p b.length m) (b++c.reverse):=by
 have hl:b.length+c.length=m:=by rw[<- h.len,K6]
 refine⟨?_,((List.reverse_perm c).append_left b).trans h.perm,h.le⟩;unfold kas_rev;rw[zp (by lia) (by rw[h.size];exact h.le),h.eq,Ld b c,NX,Qk,show m-b.length=c.length by lia,NX,<- Ld b c,List.drop_left' (by rw[K6];exact hl)]
theorem nM{m:Nat}(h:a.length=m)(hm:1<=m):∃b y,a=b++[y]:=by
 rcases Ql a with rfl|⟨b,y,rfl⟩
 ·cases h;exact absurd hm (by decide)
 ·exact⟨b,y,by simp⟩
section
variable {k:Nat->Int} {n:Nat} {cmp:Nat->Nat->(Bool->Shared->Prop)->Shared->Prop} {I:Shared->Prop}
def qS(k:Nat->Int)(n:Nat)(cmp:Nat->Nat->(Bool->Shared->Prop)->Shared->Prop)(I:Shared->Prop):Prop:=∀i j C s,i<n->j<n->I s->(∀s',I s'->C (decide (k i<k j)) s')->cmp i j C s
theorem r_(hc:qS k n cmp I){G:Nat->Shared->Prop}:∀(f m:Nat) (a:List Nat) (s:Shared),PI n m p a->1<=m->f=n-m->a.Pairwise (R k)->I s ->
  (∀m' a' s',PI n m' p a'->m<=m'->a'.Pairwise (R k)->I s'->(∀b y,a'=b++[y]->m'<n->k m'<k y)->G m' s')->(kas_asc p f m).kasWp cmp G s
 |0,m,a,s,h,h1,hf,hp,hI,g=>g m a s h (KH m) hp hI λ_ _ _ hl=>by have:=h.le;lia
 |f+1,m,a,s,h,h1,hf,hp,hI,g=>by
  have hm:m<n:=by lia
  obtain⟨b,y,e⟩:=nM h.len h1;show cmp (p.getD m 0) (p.getD (m-1) 0) _ s;rw[h.nx hm,h.last e];have hy:y<m:=h.lt (by rw[e];simp)
  refine hc m y _ s hm (by lia) hI λs' hI'=>?_
  by_cases c:k m<k y
  ·rw[Li c];exact g m a s' h (KH m) hp hI' λb' y' e' _=>by
    rw[e] at e';have:[y]=[y']:=(List.append_inj' e' rfl).2
    cases this;exact c
  ·rw[Lf c];refine r_ hc f (m+1) (a++[m]) s' (h.step hm) (by lia) (by lia) ?_ hI' λm' a' s2 h' hm' hp' hI2 gl=>g m' a' s2 h' (by lia) hp' hI2 gl
   refine Mf.mpr ⟨hp,by simp,λx hx z hz=>?_⟩
   rw[KU.mp hz];have hxm:=h.lt hx;have:k x<=k y:=by
    rw[e] at hx hp;rcases Lq.mp hx with hx|hx
    ·exact ((Mf.mp hp).2.2 x hx y (by simp)).le
    ·rw[KU.mp hx];exact PZ _
   unfold R;lia
structure DI (k:Nat->Int) (b c:List Nat):Prop where
 Gm:b.Pairwise λx y=>R k y x
 less:∀y∈b,∀x∈c,k x<k y
 one:∀x∈c,∀y∈c,k x=k y
 up:c.Pairwise (· < ·)
theorem DI.rise{c:List Nat}(h:DI k b c):(b++c.reverse).reverse.Pairwise (R k):=by
 rw[OG,N6];refine Mf.mpr ⟨?_,Oy.mpr h.Gm,λx hx y hy=>.inl (h.less y (MH.mp hy) x hx)⟩;exact NQ (λ{x y} hx hy hl=>.inr ⟨h.one x hx y hy,hl⟩) h.up
theorem DI.next{c:List Nat}{x:Nat}(h:DI k b c)(hc:c≠[])(hx:∀y∈c,k x<k y):DI k (b++c.reverse) [x]:=by
 refine⟨Mf.mpr ⟨h.Gm,Oy.mpr (NQ (λ{x y} hx hy hl=>.inr ⟨h.one x hx y hy,hl⟩) h.up),λy hy z hz=>.inl (h.less y hy z (MH.mp hz))⟩,λy hy z hz=>?_,λy hy z hz=>?_,by simp⟩
 ·rw[KU.mp hz];rcases Lq.mp hy with hy|hy
  ·obtain⟨w,hw⟩:=Pp c hc;exact Int.lt_trans (hx w hw) (h.less y hy w hw)
  ·exact hx y (MH.mp hy)
 ·rw[KU.mp hy,KU.mp hz]
theorem DI.more{c:List Nat}{x:Nat}(h:DI k b c)(he:∀y∈c,k x=k y)(hc:c≠[])(hl:∀y∈c,y<x):DI k b (c++[x]):=by
 refine⟨h.Gm,λy hy z hz=>?_,λy hy z hz=>?_,Mf.mpr ⟨h.up,by simp,λy hy z hz=>by rw[KU.mp hz];exact hl y hy⟩⟩
 ·rcases Lq.mp hz with hz|hz
  ·exact h.less y hy z hz
  ·rw[KU.mp hz];obtain⟨w,hw⟩:=Pp c hc;rw[he w hw];exact h.less y hy w hw
 ·rcases Lq.mp hy with hy|hy<;>rcases Lq.mp hz with hz|hz
  ·exact h.one y hy z hz
  ·rw[KU.mp hz];exact (he y hy).symm
  ·rw[KU.mp hy];exact he z hz
  ·rw[KU.mp hy,KU.mp hz]
theorem jI(hc:qS k n cmp I){G:Array Nat×Nat×Nat->Shared->Prop}:∀(f:Nat) (p:Array Nat) (m q:Nat) (b c:List Nat) (s:Shared),PI n m p (b++c)->c.length=q+1->DI k b c->f=n-m->I s ->
  (∀p' m' q' b' c' s',PI n m' p' (b'++c')->c'.length=q'+1->DI k b' c'->I s'->G (p',m',q') s')->(kas_desc f p m q).kasWp cmp G s
 |0,p,m,q,b,c,s,h,hl,hd,hf,hI,g=>g p m q b c s h hl hd hI
 |f+1,p,m,q,b,c,s,h,hl,hd,hf,hI,g=>by
  have hm:m<n:=by lia
  obtain⟨c0,y,e⟩:=nM hl (by lia)
  have hbl:b.length+(q+1)=m:=by rw[<- hl,<- K6,h.len]
  have ne:c≠[]:=by rw[e];simp
  have hy:y∈c:=by rw[e];simp
  have hya:y<m:=h.lt (Lh _ hy);have e1:p.getD m 0=m:=h.nx hm;have e2:p.getD (m-1) 0=y:=h.last (b:=b++c0) (by rw[e,Ld])
  show cmp (p.getD m 0) (p.getD (m-1) 0) _ s;rw[e1,e2];refine hc m y _ s hm (by lia) hI λs' hI'=>?_
  by_cases c1:k m<k y
  ·rw[Li c1];have hx:∀z∈c,k m<k z:=λz hz=>by rw[hd.one z hz y hy];exact c1
   show KasT.kasWp cmp (if q > 0 then _ else _) G s'
   by_cases hq:q > 0
   ·rw[KO hq,show m-(q+1)=b.length by lia]
    exact jI hc f _ (m+1) 0 (b++c.reverse) [m] s' (h.rev.step hm) rfl (hd.next ne hx) (by lia) hI' g
   ·rw[KJ hq];have e3:c.reverse=c:=by
     have:c.length=1:=by lia
     obtain⟨z,rfl⟩:=P_.mp this;rfl
    exact jI hc f p (m+1) 0 (b++c.reverse) [m] s' (by rw[e3];exact h.step hm) rfl (hd.next ne hx) (by lia) hI' g
  ·rw[Lf c1];show cmp y m _ s';refine hc y m _ s' (by lia) hm hI' λs2 hI2=>?_
   by_cases c2:k y<k m
   ·rw[Li c2];exact g p m q b c s2 h hl hd hI2
   ·rw[Lf c2];refine jI hc f p (m+1) (q+1) b (c++[m]) s2 (by rw[<- Ld];exact h.step hm) (by rw[K6,hl];rfl) (hd.more (λz hz=>?_) ne λz hz=>h.lt (Lh _ hz)) (by lia) hI2 g
    rw[hd.one z hz y hy];lia
theorem tU(hc:qS k n cmp I){G:Nat×Array Nat->Shared->Prop}{m:Nat}{s:Shared}(h:PI n m p a)(h1:1<=m)(hr:a.reverse.Pairwise (R k))(hI:I s)
  (g:∀m' p' a' s',PI n m' p' a'->1<=m'->a'.Pairwise (R k)->I s'->G (m',p') s'):(kas_tail3 m n p).kasWp cmp G s:=by
 unfold kas_tail3;rw[NH];have hv:=PI.rev (b:=[]) (c:=a) h;exact r_ hc (n-m) m a.reverse s hv h1 rfl hr hI λm' a' s' h' hm' hp' hI' _=>g m' _ a' s' h' (by lia) hp' hI'
theorem vi(hc:qS k n cmp I){G:Nat×Array Nat->Shared->Prop}{m:Nat}{s:Shared}(h:PI n m p a)(hm:m<n)(hd:DI k a [m])(hI:I s)
  (g:∀m' p' a' s',PI n m' p' a'->1<=m'->a'.Pairwise (R k)->I s'->G (m',p') s'):(kas_descPart m n p).kasWp cmp G s:=by
 unfold kas_descPart;rw[NH];refine jI hc (n-(m+1)) p (m+1) 0 a [m] s (h.step hm) rfl hd rfl hI λp' m' q' b' c' s' h' hl' hd' hI'=>?_;have hbl:b'.length+(q'+1)=m':=by rw[<- hl',<- K6,h'.len]
 show KasT.kasWp cmp (if q' > 0 then _ else _) G s'
 by_cases hq:q' > 0
 ·rw[KO hq];show (kas_tail3 m' n (kas_rev p' (m'-(q'+1)) m')).kasWp cmp G s';rw[show m'-(q'+1)=b'.length by lia]
  exact tU hc h'.rev (by lia) hd'.rise hI' g
 ·rw[KJ hq];have e3:c'.reverse=c':=by
   have:c'.length=1:=by lia
   obtain⟨z,rfl⟩:=P_.mp this;rfl
  exact tU hc h' (by lia) (by rw[<- e3];exact hd'.rise) hI' g
theorem zw(hc:qS k n cmp I){G:Nat×Array Nat->Shared->Prop}{s:Shared}(hn:1<=n)(hI:I s)
  (g:∀m' p' a' s',PI n m' p' a'->1<=m'->a'.Pairwise (R k)->I s'->G (m',p') s'):(kas_count n (List.toArray (List.range n))).kasWp cmp G s:=by
 unfold kas_count;rw[NH];have h0:PI n 1 (List.toArray (List.range n)) [0]:=by
  refine⟨?_,List.Perm.refl _,hn⟩;show List.range n=[0]++List.range' 1 (n-1);rw[OA,show n=(n-1)+1 by lia,Mx];rfl
 refine r_ hc (n-1) 1 [0] s h0 (KH 1) rfl (by simp) hI λm a s' h hm hp hI' gl=>?_
 show KasT.kasWp cmp (if (m == n)=true then _ else _) G s'
 by_cases e:m=n
 ·subst e;rw[KO (Md m)];exact g m _ a s' h hm hp hI'
 ·rw[KJ (by simpa using e)]
  have hmn:m<n:=by have:=h.le;lia
  obtain⟨b,y,ea⟩:=nM h.len hm;have ky:=gl b y ea hmn;have hya:y<m:=h.lt (by rw[ea];simp)
  by_cases h2:m > 1
  ·rw[KO h2];obtain⟨x,r,ex⟩:∃x r,a=x::r:=by
    cases a with
    |nil=>have:=h.len;rw[LS] at this;lia
    |cons x r=>exact⟨x,r,rfl⟩
   have hxa:x<m:=h.lt (by rw[ex];simp)
   show cmp ((List.toArray (List.range n)).getD 0 0) ((List.toArray (List.range n)).getD (m-1) 0) _ s';rw[h.at (i:=0) (x:=x) (by rw[ex];rfl),h.last ea]
   refine hc x y _ s' (by lia) (by lia) hI' λs2 hI2=>?_
   by_cases c:k x<k y
   ·rw[Li c];exact g m _ a s2 h hm hp hI2
   ·rw[Lf c];have hv:=PI.rev (b:=[]) (c:=a) h;refine vi hc hv hmn ⟨Oy.mpr hp,λz hz w hw=>?_,λz hz w hw=>by rw[KU.mp hz,KU.mp hw],by simp⟩ hI2 g
    rw[KU.mp hw];have hz':=MH.mp hz;have hxz:k x<=k z:=by
     rw[ex] at hz' hp;rcases KL.mp hz' with rfl|hz'
     ·exact PZ _
     ·exact ((L4.mp hp).1 z hz').le
    lia
  ·rw[KJ h2];have hm1:m=1:=by lia
   have hb:b=[]:=by
    have:=h.len;rw[ea,K6,hm1] at this;simp only[KQ,LS] at this;exact MG.mp (by lia)
   subst hb;refine vi hc h hmn ⟨by rw[ea];simp,λz hz w hw=>?_,λz hz w hw=>by rw[KU.mp hz,KU.mp hw],by simp⟩ hI' g
   rw[KU.mp hw];rw[ea] at hz;rw[KU.mp hz];exact ky
theorem kM(hc:qS k n cmp I){G:Nat->Shared->Prop}{t:Nat}(h:PI n t p a)(ht:t<n)(hp:a.Pairwise (R k)):∀(f l r:Nat) (s:Shared),l<=r->r<=t->r-l<=f->(∀i x,i<l->a[i]?=some x->k x<=k t)->(∀i x,r<=i->a[i]?=some x->k t<k x)->I s ->
  (∀l' s',l'<=t->(∀i x,i<l'->a[i]?=some x->k x<=k t)->(∀i x,l'<=i->a[i]?=some x->k t<k x)->I s'->G l' s')->(kas_place p t f l r).kasWp cmp G s
 |0,l,r,s,h1,h2,h3,hlo,hhi,hI,g=>g l s (by lia) hlo (λi x hi e=>hhi i x (by lia) e) hI
 |f+1,l,r,s,h1,h2,h3,hlo,hhi,hI,g=>by
  show KasT.kasWp cmp (if l >= r then _ else _) G s
  by_cases hlr:l >= r
  ·rw[KO hlr];exact g l s (by lia) hlo (λi x hi e=>hhi i x (by lia) e) hI
  ·rw[KJ hlr];have hmid:(l+r) / 2<a.length:=by rw[h.len];lia
   have em:a[(l+r) / 2]?=some a[(l+r) / 2]:=K1 hmid;have hma:a[(l+r) / 2]<t:=h.lt (KZ hmid);have mono:∀i j x y,i<=j->a[i]?=some x->a[j]?=some y->k x<=k y:=λi j x y hij ex ey=>by
    rcases LH i j with c|c
    ·obtain⟨hi,rfl⟩:=K7.mp ex;obtain⟨hj,rfl⟩:=K7.mp ey;exact (MT.mp hp i j hi hj c).le
    ·have:i=j:=Nat.le_antisymm hij c;subst this;rw[ex] at ey;cases ey;exact PZ _
   show cmp (p.getD t 0) (p.getD ((l+r) / 2) 0) _ s;rw[h.nx ht,h.at em];refine hc t _ _ s ht (by lia) hI λs' hI'=>?_
   by_cases c:k t<k a[(l+r) / 2]
   ·rw[Li c];exact kM hc h ht hp f l ((l+r) / 2) s' (by lia) (by lia) (by lia) hlo (λi x hi e=>Int.lt_of_lt_of_le c (mono _ i _ x hi em e)) hI' g
   ·rw[Lf c];exact kM hc h ht hp f ((l+r) / 2+1) r s' (by lia) h2 (by lia) (λi x hi e=>Int.le_trans (mono i _ x _ (by lia) e em) (by lia)) hhi hI' g
theorem yJ(hc:qS k n cmp I){G:Array Nat->Shared->Prop}:∀(f:Nat) (p:Array Nat) (t:Nat) (a:List Nat) (s:Shared),PI n t p a->a.Pairwise (R k)->f=n-t->I s ->
  (∀p' a' s',PI n n p' a'->a'.Pairwise (R k)->I s'->G p' s')->(kas_bin f p t).kasWp cmp G s
 |0,p,t,a,s,h,hp,hf,hI,g=>by
  have:t=n:=by have:=h.le;lia
  subst this;exact g p a s h hp hI
 |f+1,p,t,a,s,h,hp,hf,hI,g=>by
  have ht:t<n:=by lia
  show KasT.kasWp cmp ((kas_place p t t 0 t).bind _) G s;rw[NH];refine kM hc h ht hp t 0 t s (KW _) (KH _) (by lia) (λi x hi _=>absurd hi (Nr i)) (λi x hi e=>?_) hI λl s' hl hlo hhi hI'=>?_
  ·have:=(K7.mp e).1;rw[h.len] at this;lia
  ·have et:p[t]?=some t:=by
    rw[<- Lv,h.eq,Le (by rw[h.len];exact KH t),h.len,LU,List.getElem?_range' (by lia)];simp
   have hla:l<=a.length:=by rw[h.len];exact hl
   have e1:(bubble p t (t-l)).toList=(a.take l++t::a.drop l)++List.range' (t+1) (n-(t+1)):=by
    rw[Bb et hl,h.eq,List.take_append_of_le_length hla,List.drop_append_of_le_length hla,show n-t=(n-(t+1))+1 by lia,Mx]
    have e2:(a.drop l).length=t-l:=by rw[Ly,h.len]
    have e3:∀r:List Nat,(a++t::r).drop (t+1)=r:=λr=>by
     rw[show a++t::r=(a++[t])++r by simp]
     exact List.drop_left' (by rw[K6,h.len];rfl)
    rw[List.take_left' e2,e3]
   have hP:PI n (t+1) (bubble p t (t-l)) (a.take l++t::a.drop l):=by
    refine⟨e1,?_,ht⟩;have:(a.take l++t::a.drop l).Perm (a++[t]):=by
     have h1:(a.take l++t::a.drop l).Perm (t::(a.take l++a.drop l)):=Mp;rw[LI] at h1;exact h1.trans (List.perm_append_singleton t a).symm
    rw[M7];exact this.trans (h.perm.append_right [t])
   refine yJ hc f _ (t+1) _ s' hP ?_ (by lia) hI' g
   have hp1:=(LI l a) ▸ hp;obtain⟨q1,q2,q3⟩:=Mf.mp hp1;refine Mf.mpr ⟨q1,L4.mpr ⟨λx hx=>?_,q2⟩,λx hx y hy=>?_⟩
   ·obtain⟨i,hi⟩:=Oz.mp hx;rw[Ma] at hi;exact .inl (hhi (l+i) x (by lia) hi)
   ·rcases KL.mp hy with rfl|hy
    ·obtain⟨i,hi⟩:=Oz.mp hx;rw[Mo] at hi
     split at hi
     ·rename_i hil;have:=hlo i x hil hi;have hxt:=h.lt (M8 hx);unfold R;lia
     ·cases hi
    ·exact q3 x hx y hy
theorem tO(hc:qS k n cmp I){G:Array Nat->Shared->Prop}{s:Shared}(hn:1<=n)(hI:I s)(g:∀p s',p.toList.Perm (List.range n)->p.toList.Pairwise (R k)->I s'->G p s'):(kas_sort n).kasWp cmp G s:=by
 unfold kas_sort;rw[NH];have fin:∀p a s',PI n n p a->a.Pairwise (R k)->I s'->G p s':=λp a s' h hp hI'=>by
  have e:p.toList=a:=by rw[h.eq,LU,List.range'_zero,LF]
  refine g p s' ?_ ?_ hI'<;>rw[e]
  ·exact h.perm
  ·exact hp
 refine zw hc hn hI λm p a s' h h1 hp hI'=>?_;show KasT.kasWp cmp (if m<n then _ else _) G s'
 by_cases hm:m<n
 ·rw[KO hm];show (kas_bin (n-max m 1) p (max m 1)).kasWp cmp G s';rw[show max m 1=m by lia]
  exact yJ hc (n-m) p m a s' h hp rfl hI' fin
 ·rw[KJ hm];have:m=n:=by have:=h.le;lia
  subst this;exact fin p a s' h hp hI'
end
end SP
abbrev FA(qual:Str)(scope:Scope)(L f:Addr)(cd:Value)(cl:List (Str×Addr)):Env:=W.envX qual scope L f cd cl
noncomputable def tP(X:Cx)(A:Around)(N:List Str)(qual:Str)(scope:Scope)(f:Addr)(cd:Value)(cl:List (Str×Addr))(s:Shared)(H:Hp):Cx where
 prog:=X.prog
 w:=X.w
 K:=X.K
 mg:=X.mg
 base:=X.base
 A:=A.deeper (FA qual scope s.heap.objs.size f cd cl)
 N:=N
 s₀:=s
 H₀:=H
 env:=FA qual scope s.heap.objs.size f cd cl
 outer:=X.stack
 stack:=FA qual scope s.heap.objs.size f cd cl::X.stack
 ex:=[]
 calm:=true
 fn:=λ_=>false
 pn:=[]
 xe:=λ_ _=>False
section
variable {X:Cx} {pins:List (Addr×Obj)} {σ:St} {H:Hp} {s:Shared}
theorem B5(I:Inv X pins σ H s){A:Around}(hA:A.frames=some X.stack)(hd:A.handled=none){qual:Str}{v:V}{u:Value}{cd:Value}{h₁:Heap}{tk:Nat}
  (hk:scope.kind=.function) (rv:RelV v u) (hloc:scope.names.lookup x=some .local) (hns:h₁.Ns s.heap.objs.size (λy=>[(x,u)].reverse.lookup y)) (old:∀b o,s.heap.get? b=some o->h₁.get? b=some o)
  (hlen:σf.length=N.length) (hcl:∀y c,cl.lookup y=some c->X.env.cells.lookup y=some c) (hhas:∀y,(scope.names.lookup y=some .cell\/scope.names.lookup y=some .free)->∃c,cl.lookup y=some c)
  (hf:∀(i:Nat) (y:Str) (v:V),N[i]?=some y->σf[i]?=some (some v)->scope.names.lookup y=some .free/\∃c u,cl.lookup y=some c/\s.heap.IsCell c (some u)/\RelV v u) :
  Inv (tP X A (x::N) qual scope f cd cl s H) [] (some v::σf) H {s with heap:=h₁,toks:=tk}:=by
 have noA:∀b:Addr,b∉(tP X A (x::N) qual scope f cd cl s H).ex:=λb z=>absurd (show b∈([]:List Addr) from z) (by simp)
 refine⟨⟨I.ok.mod,hk,rfl,rfl,KH _,λy z c e1 e2=>I.ok.inj y z c (hcl y c e1) (hcl z c e2),hhas,λy c z _=>(by cases z),λ_=>hd,Around.frames_deeper hA,.inr ⟨rfl,rfl⟩,λb z=>absurd z (noA b),I.bs,KA I.ok.BE I.sz,λb _ _=>noA b,λb z=>absurd z (noA b),I.stack,I.oa,I.ok.tabs.un I.base⟩,
  rfl,I.bare,Un.kept old,⟨_,hns,λi y w e1 e2 e3=>?_⟩,λy c e=>?_,I.bg.fresh (KH _),λy c e=>I.fQ y c (hcl y c e),λp hp=>absurd (show p∈([]:List (Addr×Obj)) from hp) (by simp),I.bg.kept old,?_⟩
 ·cases i with
  |zero =>
   have e1':some x=some y:=e1;have e2':some (some v)=some (some w):=e2
   cases e1';cases e2'
   exact⟨u,rv,.inl ⟨hloc,by simp⟩⟩
  |succ i =>
   obtain⟨h1,c,u',h2,h3,h4⟩:=hf i y w e1 e2;obtain⟨o,ho,hd'⟩:=h3;exact⟨u',h4,.inr ⟨.inr h1,c,h2,o,old _ _ ho,hd'⟩⟩
 ·obtain⟨v',o,ho,hd'⟩:=I.cell y c (hcl y c e);exact⟨v',o,old _ _ ho,hd'⟩
 ·show (some v::σf).length=(x::N).length;rw[KQ,KQ,hlen]
theorem zR(I:Inv X pins σ H s){A:Around}{k:Nat}(hr:bQ (k+1) A)(hA:A.frames=some X.stack){qual:Str}{v:V}{u:Value}{f:Addr}{t:TE}{Q:VK}
  (hk:scope.kind=.function) (hco:scope.isCoroutine=false) (hgen:scope.isGenerator=false) (hcell:∀y∈scope.names,y.2≠.cell) (rv:RelV v u) (hloc:scope.names.lookup x=some .local)
  (ho:s.heap.get? f=some (W.kla_obj "<lambda>" qual params body scope cl pm c' ctv)) (fR:s.heap.CodeRec (.ref c') qual)
  (hbind:∀u,bindArgs (W.kla_fn "<lambda>" qual params body scope cl pm (.ref c') ctv) ⟨[u],[]⟩=pure [(x,u)])
  (hlen:σf.length=N.length) (hcl:∀y c,cl.lookup y=some c->X.env.cells.lookup y=some c) (hhas:∀y,(scope.names.lookup y=some .cell\/scope.names.lookup y=some .free)->∃c,cl.lookup y=some c)
  (hf:∀(i:Nat) (y:Str) (v:V),N[i]?=some y->σf[i]?=some (some v)->scope.names.lookup y=some .free/\∃c u,cl.lookup y=some c/\s.heap.IsCell c (some u)/\RelV v u)
  (hb:PE (tP X A (x::N) qual scope f (.ref c') cl s H) body t) (hq:t (some v::σf) H Q) :
  wpAny (model X.prog X.w) A (call (.ref f) [u]) (EP X pins σ Q) (λ_ _=>False) s:=by
 refine wpAny_call (W.kla_callFunE hr.depth ho rfl hco hgen rfl fR ?_);rw[hbind];refine KR (wpAny_newFunctionEnv hcell (λy hy=>by rw[KU.mp hy];exact hloc) (λh₁ hns hsb=>⟨I.nolimit.fresh _ hsb,?_⟩) hk)
 have old:∀b o,s.heap.get? b=some o->h₁.get? b=some o:=λb o e=>hsb.extBut b o (Ll (Lb e)) (K9 _ e);have J:=B5 (tk:=s.toks+1) (qual:=qual) (f:=f) (cd:=.ref c') I hA hr.hd hk rv hloc hns old hlen hcl hhas hf;refine W.kla_codeExpr (LQ (hb [] _ _ H Q J hq) (λw s' h=>?_) λ_ _ h=>h.elim);obtain⟨v',H',J',r',q'⟩:=h;exact I.after ⟨v',H',J'.os,J'.bare,J'.base,J'.bg,r',q'⟩
end
inductive dP:Hp->Hp->Prop
 |refl {H:Hp}:dP H H
 |more {H H1:Hp} {p:Addr} {o:HO}:dP H H1->H1 p=none->dP H (upd H1 p o)
theorem dP.same(g:dP H H1):tG H H1:=by
 induction g with
 |refl=>exact tG.refl _
 |more g n ih=>exactλb o e=>by rw[af (ae (ih b o e) n)];exact ih b o e
theorem dP.trans{H2:Hp}(a:dP H H1)(b:dP H1 H2):dP H H2:=by
 induction b with
 |refl=>exact a
 |more _ n ih=>exact .more ih n
theorem jy{i j:Int}{ti tj:Tok}{c:Value}:∀l:List Value,TriplesOk l->TriplesOk (l++[.int i ti,.int j tj,c])
 |[],_=>trivial
 |.int _ _::.int _ _::_::r,h=>jy r (show TriplesOk r from h)
theorem mU{p:Pos}{i j:Int}{ti tj:Tok}{c cv:Value}:∀l:List Value,TriplesOk l->codeAmong p (l++[.int i ti,.int j tj,c])=some cv->codeAmong p l=some cv\/cv=c
 |[],_,e=>by
  have e':(if (i == p.line && j == p.col)=true then some c else codeAmong p [])=some cv:=e
  by_cases z:(i == p.line && j == p.col)=true
  ·rw[KO z] at e';cases e';exact .inr rfl
  ·rw[KJ z] at e';cases e'
 |.int a ta::.int b tb::d::r,h,e=>by
  have e':(if (a == p.line && b == p.col)=true then some d else codeAmong p (r++[.int i ti,.int j tj,c]))=some cv:=e
  show (if (a == p.line && b == p.col)=true then some d else codeAmong p r)=some cv\/_
  by_cases z:(a == p.line && b == p.col)=true
  ·rw[KO z] at e' ⊢;exact .inl e'
  ·rw[KJ z] at e' ⊢;exact mU r (show TriplesOk r from h) e'
theorem uz(q:Str)(more:Array Value):A1 (#[.str q 0]++more)=q:=by
 unfold A1;rw[Nf];rfl
structure j5 (H:Hp) (f:Addr) (q:Str) (params:Arguments) (body:Expr) (scope:Scope) (cl:List (Str×Addr)) (c':Addr) (pm ctv:Value):Prop where
 fn:H f=some (.i9 (W.kla_obj "<lambda>" q params body scope cl pm c' ctv) (.own f))
 cd:Ej H q (.ref c')
section
variable {X:Cx} {pins:List (Addr×Obj)} {σ:St} {H:Hp} {s:Shared} {E:Value->Shared->Prop}
theorem j5.up(x:j5 H f q params body scope cl c' pm ctv)(g:∀b o u,H b=some (.i9 o u)->H1 b=some (.i9 o u)):j5 H1 f q params body scope cl c' pm ctv:=
 ⟨g _ _ _ x.fn,let ⟨c,oc,vs,t,e1,e2,e3⟩:=x.cd;⟨c,oc,vs,t,e1,g _ _ _ e2,e3⟩⟩
theorem j5.get(x:j5 H f q params body scope cl c' pm ctv)(I:Inv X pins σ H s):
  s.heap.get? f=some (W.kla_obj "<lambda>" q params body scope cl pm c' ctv)/\s.heap.CodeRec (.ref c') q:=by
 obtain⟨c,oc,vs,t,e1,e2,e3,e4⟩:=x.cd;exact⟨(I.bg f _ x.fn).1,c,oc,vs,t,e1,(I.bg c _ e2).1,e3,e4⟩
theorem Inv.y8{o:Obj}{t':Nat}(I:Inv X pins σ H s)(k:∀b u,s.heap.get? b=some u->h'.get? b=some u)(hp:s.heap.objs.size<=f)(e:h'.get? f=some o):Inv X pins σ (upd H f (.i9 o (.own f))) {s with heap:=h',toks:=t'}:=
 I.laid k hp ⟨e,o,e⟩
theorem zV(I:Inv X pins σ H s){c P:Addr}(hx:x∈d8)(ht:W.tabIn X.K x=some (c,P))(hcode:X.env.code=.ref c)(hq:X.env.qual=x++".<locals>."){pos:Pos}
  (hdef:defaultsOf params X.env=([],[])) (hcl:closureFor scope X.env=pure cl)
  (h:∀f c' pm ctv H1 s1,dP H H1->Inv X pins σ H1 s1->j5 H1 f ((x++".<locals>.")++"<lambda>") params body scope cl c' pm ctv->Q (.ref f) s1) :
  wpAny (model X.prog X.w) X.A (eval (.Lambda params body scope pos) X.env) Q E s:=by
 have hm:(c,P,(x++".<locals>.")++"<lambda>")∈bR X.K:=NK.mpr ⟨x,hx,by rw[ht];rfl⟩
 obtain⟨more,hP⟩:=(I.ok.tabs.un I.base) _ hm;have C:W.CodeHd s.heap c P:=(I.ok.mod.codes _ hm).keeps I.bk;obtain⟨qs,eP,tr,fa⟩:=I.bg P _ hP;have hns:=I.ok.mod.glob.keeps I.bk;have hgP:mainGlobals≠P:=λz=>by
  obtain⟨o,es,ep,e,_⟩:=I.ok.mod.glob;have:=(I.bs _ _ e).2;rw[z,hP] at this;cases this
 have hb:s.heap.BuiltinsAt X.mg P:=by
  obtain⟨bm,ob,b1,b2,b3,b4,b5⟩:=I.ok.mod.bm;refine⟨bm,ob,b1,b2,λz=>?_,λz=>?_,I.bk _ _ b3,b4,b5⟩
  ·obtain⟨o,es,ep,e,hd,_⟩:=I.ok.mod.glob;rw[z,e] at b3;cases b3;rw[hd] at b5;cases b5.2
  ·have:=(I.bs _ _ b3).2;rw[z,hP] at this;cases this
 refine W.kla_eval hdef ?_;rw[hq]
 cases ca:codeAmong pos qs.toList with
 |some cv =>
  have il:=fa pos cv ca;rw[uz] at il;obtain⟨c',oc,vs,t,rfl,e2,e3⟩:=il;refine W.kla_makeFunctionHit hcl I.ok.glob hns hcode C eP tr ca hb λctv h' tk hk hsz=>?_;have n0:H h'.objs.size=none:=I.bg.fresh hsz;have J:=I.y8 (f:=h'.objs.size) (t':=tk) (h':=h'.push {cls:=.type "function",data:=.func (W.kla_fn "<lambda>" ((x++".<locals>.")++"<lambda>") params body scope cl ((X.mg "__name__").getD .none) (.ref c') ctv)}) (λb u e=>K9 _ (hk b u e)) hsz (La _ rfl);exact h _ c' _ ctv _ _ (.more .refl n0) J ⟨aa,c',oc,vs,t,rfl,by rw[af (ae e2 n0)];exact e2,e3⟩
 |none =>
  refine W.kla_makeFunction hcl I.ok.glob hns hcode C eP tr ca hgP hb λc' ctv h' tk hx2 hge hlt hrec htb=>?_;obtain⟨c2,oc,vs,t,e2,hoc,hd,hv⟩:=hrec;cases e2;have nP:P≠c':=λz=>absurd (Lb eP) (by rw[z];exact Pq.mpr hge)
  have n1:H c'=none:=I.bg.fresh hge;have keep:∀b u,b≠P->s.heap.get? b=some u->h'.get? b=some u:=λb u hb' e=>hx2 b u hb' e;have H1ne:∀b u,H b=some u->upd H c' (.i9 oc (.own c')) b=some u:=λb u e=>by rw[af (ae e n1)];exact e
  have hoP:∀y,H P≠some (.own y):=λy z=>by rw[hP] at z;cases z
  have J1:Inv X pins σ (upd H c' (.i9 oc (.own c'))) {s with heap:=h',toks:=tk}:=by
   refine I.un ⟨λb o e n _ _=>keep b o (λz=>by rw[z,hP] at n;cases n) e,λb o e n _ _=>⟨o.slots,keep b o (λz=>by rw[z,hP] at n;cases n) e⟩,λb o e n _=>?_,λb o e _=>?_,λb xs e=>H1ne b _ e,λb o u e=>H1ne b _ e,λb ps e=>⟨#[],by rw[H1ne b _ e,OQ]⟩⟩ λb u e=>?_
   ·rw[af (λz=>absurd (Lb e) (by rw[z];exact Pq.mpr hge))];exact n
   ·by_cases z:b=P
    ·rw[z];exact⟨_,htb⟩
    ·exact⟨o,keep b o z e⟩
   ·by_cases z:b=c'
    ·subst z;rw[aa] at e;cases e;exact⟨hoc,oc,hoc⟩
    ·rw[af z] at e;by_cases z2:b=P
     ·subst z2;rw[hP] at e;cases e;refine⟨_,htb,by rw[Nf];exact jy _ tr,λp cv hc=>?_⟩
      rw[Nf] at hc;rcases mU _ tr hc with q|q
      ·obtain⟨c2,oc2,vs2,t2,g1,g2,g3⟩:=fa p cv q;exact⟨c2,oc2,vs2,t2,g1,H1ne _ _ g2,g3⟩
      ·rw[uz];exact⟨c',oc,vs,t,q,aa,hd,hv⟩
     ·refine (I.bg b u e).n_ (λc v hc q=>keep c v ?_ q) (λc q=>H1ne c _ q) (λc xs q=>H1ne c _ q) λc _ _ q=>H1ne c _ q;rcases hc with rfl|hc
      ·exact z2
      ·exactλz3=>hoP b (by rw[<- z3];exact hc)
  have n2:upd H c' (.i9 oc (.own c')) h'.objs.size=none:=J1.bg.fresh (KH _);have J:=J1.y8 (f:=h'.objs.size) (t':=tk) (h':=h'.push (W.kla_obj "<lambda>" ((x++".<locals>.")++"<lambda>") params body scope cl ((X.mg "__name__").getD .none) c' ctv)) (λb u e=>K9 _ e) (KH _) (La _ rfl);exact h _ c' _ ctv _ _ (.more (.more .refl n1) n2) J ⟨aa,c',oc,vs,t,rfl,by rw[af (ae aa n2)];exact aa,hd,hv⟩
end
section
variable {α β:Type}
noncomputable def i8(p:Int×α):List (Int×α)->List (Int×α)
 |[]=>[p]
 |q::r=>if p.1<=q.1 then p::q::r else q::i8 p r
def eV:List (Int×α)->List (Int×α)
 |[]=>[]
 |p::r=>i8 p (eV r)
abbrev GY(l:List (Int×α)):Prop:=l.Pairwise λp q=>p.1<=q.1
noncomputable def atK(a:Int)(l:List (Int×α)):List (Int×α):=l.filter λp=>decide (p.1=a)
theorem gM(p:Int×α):∀l,(i8 p l).Perm (p::l)
 |[]=>.refl _
 |q::r=>by
  unfold i8;split
  ·exact .refl _
  ·exact ((gM p r).cons q).trans (List.Perm.swap p q r)
theorem eI:∀l:List (Int×α),(eV l).Perm l
 |[]=>.refl _
 |p::r=>(gM p _).trans ((eI r).cons p)
theorem uM{p:Int×α}:∀{l:List (Int×α)},GY l->GY (i8 p l)
 |[],_=>N_ _ _
 |q::r,h=>by
  obtain⟨h1,h2⟩:=L4.mp h;unfold i8;split
  ·rename_i c;exact L4.mpr ⟨λz hz=>by
    rcases KL.mp hz with rfl|hz
    ·exact c
    ·exact Int.le_trans c (h1 z hz),h⟩
  ·rename_i c;refine L4.mpr ⟨λz hz=>?_,uM h2⟩;rcases KL.mp ((gM p r).mem_iff.mp hz) with rfl|hz
   ·lia
   ·exact h1 z hz
theorem qF:∀l:List (Int×α),GY (eV l)
 |[]=>List.Pairwise.nil
 |_::r=>uM (qF r)
theorem b7(a:Int)(p:Int×α)(l:List (Int×α)):atK a (p::l)=if p.1=a then p::atK a l else atK a l:=by
 unfold atK;rw[List.filter_cons];by_cases z:p.1=a
 ·rw[KO z,KO (Li z)]
 ·rw[KJ z,KJ (by simp[z])]
theorem vg{a:Int}{p:Int×α}:∀{l:List (Int×α)},atK a (i8 p l)=atK a (p::l)
 |[]=>rfl
 |q::r=>by
  unfold i8;split
  ·rfl
  ·rename_i c;rw[b7,vg,b7,b7,b7];by_cases z:p.1=a
   ·have z2:¬ q.1=a:=by lia
    simp only[z,z2,MV,MX]
   ·simp only[z,MX]
theorem qQ{a:Int}:∀l:List (Int×α),atK a (eV l)=atK a l
 |[]=>rfl
 |p::r=>by
  show atK a (i8 p (eV r))=_;rw[vg,b7,b7,qQ r]
theorem kr{a:Int}:∀{l:List (Int×α)},(∀p∈l,a<p.1)->atK a l=[]
 |[],_=>rfl
 |p::r,h=>by
  have:=h p (KG ..);rw[b7,KJ (by lia),kr λq hq=>h q (KI _ hq)]
theorem mS:∀{l m:List (Int×α)},GY l->GY m->(∀a,atK a l=atK a m)->l=m
 |[],[],_,_,_=>rfl
 |[],q::m,_,_,h=>by
  have:=h q.1;rw[b7,KO rfl] at this;cases this
 |p::l,[],_,_,h=>by
  have:=h p.1;rw[b7,KO rfl] at this;cases this
 |p::l,q::m,hl,hm,h=>by
  obtain⟨l1,l2⟩:=L4.mp hl;obtain⟨m1,m2⟩:=L4.mp hm;have e:p.1=q.1:=by
   rcases Int.lt_trichotomy p.1 q.1 with z|z|z
   ·have q1:=h p.1;rw[b7,KO rfl,b7,KJ (by lia),kr (l:=m) λr hr=>by have:=m1 r hr;lia] at q1
    cases q1
   ·exact z
   ·have q1:=h q.1;rw[b7,KJ (by lia),b7,KO rfl,kr (l:=l) λr hr=>by have:=l1 r hr;lia] at q1
    cases q1
  have q1:=h p.1;rw[b7,KO rfl,b7,KO e.symm] at q1;obtain⟨q2,q3⟩:=List.cons.inj q1;subst q2;congr 1;refine mS l2 m2 λa=>?_;have q4:=h a;rw[b7,b7] at q4;by_cases z:p.1=a
  ·rw[KO z,KO z] at q4;exact (List.cons.inj q4).2
  ·rw[KJ z,KJ z] at q4;exact q4
theorem qA{l m:List (Int×α)}(hm:GY m)(h:∀a,atK a m=atK a l):m=eV l:=mS hm (qF l) λa=>by rw[h a,qQ]
abbrev GZ(R:α->β->Prop):List (Int×α)->List (Int×β)->Prop:=Paired λp q=>p.1=q.1/\R p.2 q.2
theorem x_{R:α->β->Prop}{p:Int×α}{q:Int×β}(h:p.1=q.1/\R p.2 q.2){l:List (Int×α)}{m:List (Int×β)}(k:GZ R l m):GZ R (i8 p l) (i8 q m):=by
 induction k with
 |nil=>exact .cons h .nil
 |cons r t ih =>
  unfold i8;split
  ·rename_i z;rw[KO (by rw[<- h.1,<- r.1];exact z)]
   exact .cons h (.cons r t)
  ·rename_i z;rw[KJ (by rw[<- h.1,<- r.1];exact z)]
   exact .cons r ih
theorem vY{R:α->β->Prop}{l:List (Int×α)}{m:List (Int×β)}(k:GZ R l m):GZ R (eV l) (eV m):=by
 induction k with
 |nil=>exact .nil
 |cons r t ih=>exact x_ r ih
theorem Ai{R:α->β->Prop}{ks:List Int}{l:List α}{m:List β}(k:Paired R l m):GZ R (ks.zip l) (ks.zip m):=by
 induction k generalizing ks with
 |nil=>rw[List.zip_nil_right,List.zip_nil_right];exact .nil
 |cons r t ih =>
  cases ks with
  |nil=>exact .nil
  |cons k ks=>exact .cons ⟨rfl,r⟩ ih
theorem AF{R:α->β->Prop}{l:List (Int×α)}{m:List (Int×β)}(k:GZ R l m):Paired R (l.map (·.2)) (m.map (·.2)):=by
 induction k with
 |nil=>exact .nil
 |cons r t ih=>exact .cons r.2 ih
def jc(ks:List Int)(l:List α):List α:=(eV (ks.zip l)).map (·.2)
theorem v8{R:α->β->Prop}{ks:List Int}{l:List α}{m:List β}(h:Paired R l m):Paired R (jc ks l) (jc ks m):=AF (vY (Ai h))
theorem uj{ks:List Int}{l:List α}(h:ks.length=l.length):(jc ks l).length=l.length:=by
 unfold jc;rw[K2,(eI _).length_eq,PJ,h,M6]
theorem iZ{ks:List Int}{l:List α}(h:ks.length=l.length):(jc ks l).Perm l:=by
 have h2:((ks.zip l).map (·.2))=l:=P2 (by lia)
 have h3:=(eI (ks.zip l)).map (·.2);rw[h2] at h3;exact h3
end
theorem j7:∀{xs:List V} {us:List Value},Vals xs us->Paired RelV xs us
 |_,_,.nil=>.nil
 |_,_,.cons r t=>.cons r (j7 t)
theorem j3:∀{xs:List V} {us:List Value},Paired RelV xs us->Vals xs us
 |_,_,.nil=>.nil
 |_,_,.cons r t=>.cons r (j3 t)
theorem vh:∀{us:List Value} {ns:List Int},IntsAre us ns->∀{i:Nat},i<ns.length->∃t,us.getD i Value.none=.int (ns.getD i 0) t
 |_,_,.cons n t h,0,_=>⟨t,rfl⟩
 |_,_,.cons n t h,i+1,hi=>vh h (i:=i) (by simpa using hi)
theorem yC{p:List Nat}(hl:kz.length=us.length)(hp:p.Perm (List.range us.length))(hr:p.Pairwise (SP.R λi=>kz.getD i 0)):p.map (λi=>us.getD i Value.none)=jc kz us:=by
 have ez:(List.range us.length).map (λi=>(kz.getD i 0,us.getD i Value.none))=kz.zip us:=by
  apply Na
  ·rw[K2,Lo,PJ,hl,M6]
  ·intro i h1 h2;rw[K2,Lo] at h1;rw[List.getElem_map,OU,List.getElem_zip];simp[h1,hl]
 have e1:p.map (λi=>(kz.getD i 0,us.getD i Value.none))=eV (kz.zip us):=by
  refine qA ?_ λa=>?_
  ·exact MA.mpr (hr.imp λh=>h.le)
  ·have fl:∀l:List Nat,atK a (l.map λi=>(kz.getD i 0,us.getD i Value.none))=(l.filter λi=>decide (kz.getD i 0=a)).map λi=>(kz.getD i 0,us.getD i Value.none):=λl=>by
    unfold atK;rw[List.filter_map];rfl
   rw[<- ez,fl,fl];congr 1;refine P4 (le:=(· < ·)) (λa b _ _ h g=>absurd h (Nat.lt_asymm g)) ?_ (Og.filter _) (hp.filter _);rw[List.pairwise_filter];refine hr.imp λ{i j} h hi hj=>?_;have hi:=LC hi;have hj:=LC hj;rcases h with h|h
   ·exfalso;have h':kz.getD i 0<kz.getD j 0:=h;lia
   ·exact h.2
 unfold jc;rw[<- e1,LM];rfl
section
variable {X:Cx} {pins:List (Addr×Obj)} {σ:St} {H:Hp} {s:Shared} {E:Value->Shared->Prop}
theorem Inv.take{D:Addr}{ob:Obj}{o:HO}{t':Nat}(I:Inv X ((D,ob)::pins) σ H s)(hs0:X.s₀.heap.objs.size<=D)(hnp:∀p∈X.pn++pins,p.1≠D)(k:∀b u,b≠D->s.heap.get? b=some u->h'.get? b=some u)(new:bw X.prog X.w (upd H D o) h' D o):
  Inv X pins σ (upd H D o) {s with heap:=h',toks:=t'}:=by
 obtain⟨g1,g2,g3,g4,g5⟩:=I.pin (D,ob) (Lh _ (KG ..));have I0:Inv X pins σ H s:=⟨I.ok,I.os,I.bare,I.base,I.loc,I.cell,I.free,I.fQ,λp hp=>I.pin p ((Lq.mp hp).elim (λz=>M4 _ z) λz=>Lh _ (KI _ z)),I.bg,I.len⟩;have ne:∀b u,H b=some u->b≠D:=λb u e=>ae e g2;refine I0.step (g':=s.gens) (d':=s.drawn) (ch:=[D]) (λb hb=>?_) (λb o' _ _ hc e _=>k b o' (λz=>hc (by rw[z];exact KU.mpr rfl)) e) (λb o' _ _ hc e _=>⟨o'.slots,k b o' (λz=>hc (by rw[z];exact KU.mpr rfl)) e⟩) (λb o' hc e n=>by rw[af (λz=>hc (by rw[z];exact KU.mpr rfl))];exact n)
  (λb o' hc e=>⟨o',k b o' (λz=>hc (by rw[z];exact KU.mpr rfl)) e⟩) (λb xs e=>by rw[af (ne b _ e)];exact e) (λb o' u e=>by rw[af (ne b _ e)];exact e) (λb ps e=>⟨#[],by rw[af (ne b _ e),e,OQ]⟩) (λm hm=>?_) (λb u e=>?_) I.bare
 ·rw[KU.mp hb];refine⟨.inr hs0,g3,λx c e z=>?_,hnp⟩;obtain⟨v,o',ho',hd⟩:=I.cell x c e;rw[z,g1] at ho';cases ho';exact g5 v hd
 ·obtain⟨o',es,ep,ho',r⟩:=hm;exact⟨o',es,ep,k _ _ (Mc g3) ho',r⟩
 ·by_cases z:b=D
  ·subst z;rw[aa] at e;cases e;exact new
  ·rw[af z] at e;refine (I.bg b u e).n_ (λc v hc q=>k c v ?_ q) (λc q=>by rw[af (ne c _ q)];exact q) (λc xs q=>by rw[af (ne c _ q)];exact q) λc _ _ q=>by rw[af (ne c _ q)];exact q
   rcases hc with rfl|hc
   ·exact z
   ·exact ne c _ hc
theorem tR{A:Around}{D:Nat}{st:SortSt}
  (I:Inv X ((D,seqObj "list" #[] e1)::pins) σ (upd H kS (.lst (kz.map V.int))) s) (hkS:H kS=none) (hD:H D=none) (hkD:kS≠D) (hs0:X.s₀.heap.objs.size<=D) (hnp:∀p∈X.pn++pins,p.1≠D)
  (hv:Vals xs us) (hlen:kz.length=us.length) (h64:us.length<64) (ho:((arrOf st).map (·.2)).toList=jc kz us) (hfl:failedOf st=none)
  (h:∀s',Inv X pins σ (upd (upd H kS (.lst [])) D (.lst (jc kz xs))) s'->P (.done (.ret .none)) s') :
  wpAny (model X.prog X.w) A (ksk_tail D false e1 (.ref kS) st) P E s:=by
 obtain⟨_,its,n,vr,ek⟩:=I.bg kS _ aa;have hz:its.toArray.size<=sizeLine:=by
  rw[KC,<- vr.length,K2,hlen,Mt];lia
 have pD:=I.pin _ (Lh _ (KG ..));have hout:((arrOf st).map (·.2)).size=us.length:=by
  rw[<- L5,ho,uj hlen]
 have s1:=Mi s.heap kS (Obj.mapSeq λ_=>(#[]:Array Value));obtain⟨c1,hc1⟩:∃c,(s.heap.update kS (Obj.mapSeq λ_=>(#[]:Array Value))).get? kS=some (seqObj "list" #[] c):=⟨_,NG ek λ_=>#[]⟩;have J1:Inv X ((D,seqObj "list" #[] e1)::pins) σ (upd H kS (.lst [])) {s with heap:=s.heap.update kS (Obj.mapSeq λ_=>(#[]:Array Value))}:=by
  have J:=I.write (x:=kS) (e:=kS) (o:=.lst []) (t':=s.toks) (h':=s.heap.update kS (Obj.mapSeq λ_=>(#[]:Array Value))) (by rw[aa];trivial) (.inl rfl) (λb u hb q=>(s1.2 b hb).trans q) ⟨_,hc1⟩ ⟨KW _,[],c1,.nil,hc1⟩
  rw[uF] at J;exact J
 have pD1:=J1.pin _ (List.mem_append_right _ (List.mem_cons_self ..));have s2:=Heap.SameBut.update (s.heap.update kS (Obj.mapSeq λ_=>(#[]:Array Value))) D (Obj.mapSeq λ_=>(arrOf st).map (·.2));obtain⟨c2,hc2⟩:∃c,((s.heap.update kS (Obj.mapSeq λ_=>(#[]:Array Value))).update D (Obj.mapSeq λ_=>(arrOf st).map (·.2))).get? D=some (seqObj "list" ((arrOf st).map (·.2)) c):=⟨_,get?_update_seq pD1.1 λ_=>(arrOf st).map (·.2)⟩;have vB:Vals (jc kz xs) (jc kz us):=j3 (v8 (j7 hv));unfold ksk_tail;dsimp only;refine wpAny_bind (listUpdate_at ek rfl ?_ hz (Nat.zero_le _));refine wpAny_bind (wpAny_letGo ?_);refine wpAny_bind (seqEpoch_at pD1.1 rfl ?_);refine wpAny_bind (listUpdate_at pD1.1 rfl ?_ (Nat.zero_le _) (by show ((arrOf st).map (·.2)).size<=_;rw[hout,sizeLine_eq];lia))
 rw[hfl];simp only[Pb,ML,MX];refine KR (h _ (J1.take hs0 hnp (λb u hb q=>(s2.2 b hb).trans q) ⟨?_,jc kz us,c2,vB,?_⟩))
 ·rw[vB.length,uj hlen,Mt];lia
 ·rw[<- ho,N7];exact hc2
theorem EW{A:Around}{D:Nat}{us:List Value}{kz:List Int}{keys:Array Value}
  (I:Inv X ((D,seqObj "list" #[] e1)::pins) σ (upd H kS (.lst (kz.map V.int))) s) (hkS:H kS=none) (hD:H D=none) (hkD:kS≠D) (hs0:X.s₀.heap.objs.size<=D) (hnp:∀p∈X.pn++pins,p.1≠D)
  (hv:Vals xs us) (hlen:kz.length=us.length) (h64:us.length<64) (hk:IntsAre keys.toList kz)
  (h:∀s',Inv X pins σ (upd (upd H kS (.lst [])) D (.lst (jc kz xs))) s'->P (.done (.ret .none)) s') :
  wpAny (model X.prog X.w) A (ksk_end D false us.toArray e1 (.ref kS) keys) P E s:=by
 have hsz:keys.size=us.length:=by
  have z:=hk.length;rw[L5] at z;exact z.trans hlen
 have hzs:(keys.zip us.toArray).size=us.length:=by
  rw[Array.size_zip,hsz,KC,M6]
 unfold ksk_end;dsimp only;rw[if_neg Bool.false_ne_true,if_neg Bool.false_ne_true];by_cases h2:us.toArray.size<2
 ·rw[if_pos h2,if_pos h2];refine wpAny_bind (wpAny_pure ?_);rw[StateT.run_pure];refine wpAny_bind (wpAny_pure ?_);dsimp only;refine tR I hkS hD hkD hs0 hnp hv hlen h64 ?_ rfl h;rw[List.size_toArray] at h2;have:=yC (us:=us) (kz:=kz) (p:=List.range us.length) hlen (List.Perm.refl _) (by
   rcases us with _|⟨x,_|⟨y,r⟩⟩
   ·exact .nil
   ·simp
   ·exfalso;simp only[KQ] at h2;lia)
  rw[<- this];show ((keys.zip us.toArray).map (·.2)).toList=_;rw[Array.toList_map,Array.toList_zip,P2 (by simp only[L5,KC];lia)]
  apply Na
  ·simp
  ·intro i h1 h2;have h1':i<us.length:=h1;simp[h1']
 ·rw[KJ h2,KJ h2];rw[KC] at h2;rw[ksk_kind hk (by lia)]
  refine K4 (KR ?_);have ek:keys=keys.toList.toArray:=(N7).symm;have hkl:keys.toList.length=us.length:=by rw[L5,hsz]
  have hat:∀i,i<us.length->∃t,keys.toList.getD i Value.none=.int (kz.getD i 0) t:=λi hi=>vh hk (by rw[hlen];exact hi)
  generalize keys.toList=ks at *;subst ek;refine K4 (LQ (W.kat_run (ks:=ks) (vs:=us) (κ:=oneType') (Q:=λst' s'=>s'=s/\failedOf st'=none/\((arrOf st').map (·.2)).toList=jc kz us)
   (G:=λp s'=>s'=s/\p.toList.Perm (List.range us.length)/\p.toList.Pairwise (SP.R λi=>kz.getD i 0)) hkl (by lia) h64 (λp st' s' a1 a2 a3 a4=>⟨a4.1,a3,by rw[W.kat_snds hkl a2];exact yC hlen a4.2.1 a4.2.2⟩) ?_) ?_ λ_ _ e=>e)
  ·refine SP.tO (k:=λi=>kz.getD i 0) (I:=λs'=>s'=s) (λi j C s' hi hj hI hC=>?_) (by lia) rfl λp s' hp hr hI=>⟨hI,hp,hr⟩
   subst hI;obtain⟨t1,e1⟩:=hat i hi;obtain⟨t2,e2⟩:=hat j hj;unfold W.kas_ask;rw[e1,e2];exact W.kat_lt_int (hC _ rfl)
  rintro⟨⟨⟩,st'⟩ s' ⟨rfl,hf,ho⟩;dsimp only;exact tR I hkS hD hkD hs0 hnp hv hlen h64 ho hf h
theorem kg:∀{us:List Value} {ns:List Int},Vals (ns.map V.int) us->IntsAre us ns
 |_,[],.nil=>.nil
 |_,n::ns,.cons ⟨t,e⟩ r=>by subst e;exact .cons n t (kg r)
theorem BK{A:Around}{D:Nat}{f:Value}
  (I:Inv X ((D,seqObj "list" #[] e1)::pins) σ (upd H kS (.lst [])) s) (hkS:H kS=none) (hD:H D=none) (hkD:kS≠D) (hs0:X.s₀.heap.objs.size<=D) (hnp:∀p∈X.pn++pins,p.1≠D)
  (hv:Vals xs us) (hlen:kz.length=us.length) (h64:us.length<64)
  (turn:∀(i:Nat) (u:Value) (k:Int),us[i]?=some u->kz[i]?=some k->∀pins' H' s',dP H H'->Inv X pins' σ H' s'->wpAny (model X.prog X.w) A (call f [u]) (λr s2=>(∃t,r=.int k t)/\Inv X pins' σ H' s2) (λ_ _=>False) s')
  (h:∀s',Inv X pins σ (upd (upd H kS (.lst [])) D (.lst (jc kz xs))) s'->P (.done (.ret .none)) s') :
  wpAny (model X.prog X.w) A (ksk_rest D f false us.toArray e1 (.ref kS)) P E s:=by
 unfold ksk_rest;refine K4 (Pj ?_)
 first
  |rw[List.forIn_toArray]
  | (rw[<- Array.forIn_toList];simp only[OH])
 refine K4 (ksk_fold (λi s'=>Inv X ((D,seqObj "list" #[] e1)::pins) σ (upd H kS (.lst ((kz.take i).map V.int))) s') us 0 s I ?one ?all)
 case one =>
  intro j u s' hu J;rw[Mv] at J ⊢;have hj:j<us.length:=(K7.mp hu).1;obtain⟨k,hkj⟩:∃k,kz[j]?=some k:=⟨_,K1 (by lia)⟩
  refine wpAny_bind (wpAny_attempt (wpAny_mono (turn j u k hu hkj _ _ s' (.more .refl hkS) J) (λr s2 hr=>?_) λ_ _ z=>z.elim));obtain⟨⟨t,rfl⟩,J2⟩:=hr;dsimp only;obtain⟨_,its,n,vr,ek⟩:=J2.bg kS _ aa;have lenI:its.length<=us.length:=by
   rw[<- vr.length,K2,K_];lia
  have s1:=Mi s2.heap kS (Obj.mapSeq (·.push (.int k t)));obtain⟨c1,hc1⟩:∃c,(s2.heap.update kS (Obj.mapSeq (·.push (.int k t)))).get? kS=some (seqObj "list" (its.toArray.push (.int k t)) c):=⟨_,NG ek (·.push (.int k t))⟩;have et:kz.take (j+1)=kz.take j++[k]:=by
   rw[List.take_add_one,hkj];rfl
  have vr2:Vals ((kz.take (j+1)).map V.int) (its++[.int k t]):=by
   rw[et,KN];exact vr.append (.cons ⟨t,rfl⟩ .nil)
  refine K4 (Om ek rfl ?_ (by rw[KC,Mt];lia) (by show (its.toArray.push (.int k t)).size<=_;rw[Array.size_push,KC,Mt];lia))
  refine KR ⟨rfl,?_⟩;have J3:=J2.write (x:=kS) (e:=kS) (o:=.lst ((kz.take (j+1)).map V.int)) (t':=s2.toks) (h':=s2.heap.update kS (Obj.mapSeq (·.push (.int k t)))) (by rw[aa];trivial) (.inl rfl) (λb u hb q=>(s1.2 b hb).trans q) ⟨_,hc1⟩
   ⟨by rw[K2,K_,Mt];lia,its++[.int k t],c1,vr2,by rw[hc1,List.push_toArray]⟩
  rw[uF] at J3;exact J3
 case all =>
  intro s' J;have ez:kz.take (0+us.length)=kz:=L9 (by lia)
  have J':Inv X ((D,seqObj "list" #[] e1)::pins) σ (upd H kS (.lst (kz.map V.int))) s':=by
   rw[<- ez];rw[ez];simpa only[ez] using J
  obtain⟨_,its,n,vr,ek⟩:=J'.bg kS _ aa;refine K4 (O8 ek rfl ?_);exact EW J' hkS hD hkD hs0 hnp hv hlen h64 (by rw[OH];exact kg vr) h
theorem BH{A:Around}{D:Addr}{n0:Nat}{h0:Heap}{f:Value}
  (I:Inv X pins σ H s) (k0:∀b o,s.heap.get? b=some o->h0.get? b=some o) (hDs:s.heap.objs.size<=D) (ho:h0.get? D=some (seqObj "list" us.toArray n0)) (hv:Vals xs us) (hlen:kz.length=us.length) (h64:us.length<64)
  (turn:∀(i:Nat) (u:Value) (k:Int),us[i]?=some u->kz[i]?=some k->∀pins' H' s',dP H H'->Inv X pins' σ H' s'->wpAny (model X.prog X.w) A (call f [u]) (λr s2=>(∃t,r=.int k t)/\Inv X pins' σ H' s2) (λ_ _=>False) s')
  (h:∀H' s',dP H H'->H' D=none->Inv X pins σ (upd H' D (.lst (jc kz xs))) s'->P (.done (.ret .none)) s') :
  wpAny (model X.prog X.w) A (ksk_tree D f false) P E {s with heap:=h0}:=by
 have hsz0:D<h0.objs.size:=Lb ho;have s1:=Mi h0 D (Obj.mapSeq λ_=>(#[]:Array Value));obtain⟨e1,ho1⟩:∃e,(h0.update D (Obj.mapSeq λ_=>(#[]:Array Value))).get? D=some (seqObj "list" #[] e):=⟨_,NG ho λ_=>#[]⟩;have hkz:((h0.update D (Obj.mapSeq λ_=>(#[]:Array Value))).push (seqObj "tuple" us.toArray 0)).objs.size=h0.objs.size+1:=by
  rw[size_push',Ou]
 have nD:∀b o,s.heap.get? b=some o->b≠D:=λb o e=>Ll (Ls (Lb e) hDs);have keep:∀b o,s.heap.get? b=some o->(((h0.update D (Obj.mapSeq λ_=>(#[]:Array Value))).push (seqObj "tuple" us.toArray 0)).push (seqObj "list" #[] 0)).get? b=some o:=λb o e =>
  K9 _ (K9 _ ((s1.2 b (nD b o e)).trans (k0 b o e)))
 have hle:s.heap.objs.size<=h0.objs.size+1:=KA hDs (Pc (M1 hsz0));have hkD:h0.objs.size+1≠D:=Ms (Nx hsz0);have hkS:H (h0.objs.size+1)=none:=I.bg.fresh hle;have hD:H D=none:=I.bg.fresh hDs;have hnp:∀p∈X.pn++pins,p.1≠D:=λp hp=>nD _ _ (I.pin p hp).1;have J0:Inv X pins σ (upd H (h0.objs.size+1) (.lst [])) {s with heap:=((h0.update D (Obj.mapSeq λ_=>(#[]:Array Value))).push (seqObj "tuple" us.toArray 0)).push (seqObj "list" #[] 0)}:=
  I.laid (t':=s.toks) keep hle ⟨KW _,[],0,.nil,by rw[<- hkz];exact La _ rfl⟩
 have J:Inv X ((D,seqObj "list" #[] e1)::pins) σ (upd H (h0.objs.size+1) (.lst [])) {s with heap:=((h0.update D (Obj.mapSeq λ_=>(#[]:Array Value))).push (seqObj "tuple" us.toArray 0)).push (seqObj "list" #[] 0)}:=by
  refine J0.ou λp hp=>?_;rcases KL.mp hp with rfl|hp
  ·exact⟨K9 _ (K9 _ ho1),by rw[af (Mc hkD)];exact hD,λz=>absurd I.lt (by rw[<- z];exact Pq.mpr hDs),I.Ik hDs,λv z=>by cases z⟩
  ·exact J0.pin p (Lh _ hp)
 unfold ksk_tree;refine K4 (O8 ho rfl ?_);refine K4 (Om ho rfl ?_ (by rw[KC,Mt];lia) (KW _))
 refine K4 (seqEpoch_at ho1 rfl ?_);refine K4 (Qm ?_ (by show us.length<=_;rw[Mt];lia))
 refine K4 (NA ?_ (KW _));refine LP ?_;show wpAny _ _ (ksk_rest D f false us.toArray e1 (.ref ((h0.update D (Obj.mapSeq λ_=>(#[]:Array Value))).push (seqObj "tuple" us.toArray 0)).objs.size)) _ _ _;rw[hkz];exact BK J hkS hD hkD (KA I.sz hDs) hnp hv hlen h64 turn λs' K=>h _ s' (.more .refl hkS) (by rw[af (Mc hkD)];exact hD) K
end
def yI(q:Str)(params:Arguments)(body:Expr)(scope:Scope)(cl:List (Str×Addr)):TE:=λ_ H Q=>∀f c' pm ctv H1,dP H H1->j5 H1 f q params body scope cl c' pm ctv->Q (.ref f) H1
theorem yO{c P:Addr}(hx:x∈d8)(ht:W.tabIn X.K x=some (c,P))(hcode:X.env.code=.ref c)(hq:X.env.qual=x++".<locals>."){pos:Pos}
  (hdef:defaultsOf params X.env=([],[])) (hcl:closureFor scope X.env=pure cl):PE X (.Lambda params body scope pos) (yI ((x++".<locals>.")++"<lambda>") params body scope cl):=λpins s σ H Q I h =>
 zV I hx ht hcode hq hdef hcl λf c' pm ctv H1 s1 g J l=>⟨.ref f,H1,J,rfl,h f c' pm ctv H1 g l⟩
section
variable {X:Cx} {pins:List (Addr×Obj)} {σ:St} {H:Hp} {s:Shared} {E:Value->Shared->Prop}
def vd(X:Cx)(A:Around)(s:Shared)(l:Addr)(xs:List V):Prop:=∀(Q:List Value->Shared->Prop) (E:Value->Shared->Prop),(∀h0 tk us,(∀b o,s.heap.get? b=some o->h0.get? b=some o)->s.heap.objs.size<=h0.objs.size->Vals xs us->Q us {s with heap:=h0,toks:=tk})->wpAny (model X.prog X.w) A (collect (.ref l)) Q E s
theorem wO{A:Around}{l:Addr}{Q:VK}(I:Inv X pins σ H s)(hcol:vd X A.in1 s l xs)(hlen:kz.length=xs.length)(h64:xs.length<64)
  (turn:∀(i:Nat) (v:V) (u:Value) (k:Int),xs[i]?=some v->RelV v u->kz[i]?=some k->∀pins' H' s',dP H H'->Inv X pins' σ H' s'->wpAny (model X.prog X.w) A.in1.in1 (call (.ref f) [u]) (λr s2=>(∃t,r=.int k t)/\Inv X pins' σ H' s2) (λ_ _=>False) s')
  (h:∀H' D,dP H H'->H' D=none->Q (.ref D) (upd H' D (.lst (jc kz xs)))) :
  wpAny (model X.prog X.w) A (call (.builtin "sorted") [.ref l] [(Str.ofString "key",.ref f)]) (EP X pins σ Q) E s:=by
 refine call_function_entry_kw kind_sorted plain_sorted entry_sorted (ksk_s1 _ _) ?_;unfold Builtin.«sorted»;refine K4 (m:=checkCount "sorted" 1 1 _) (KR (K4 (hcol _ _ λh0 tk us k0 hz hv=>?_)));have ul:us.length=xs.length:=hv.length.symm;refine K4 (NA ?_ (by rw[ul,Mt];lia))
 have hoL:(h0.push (seqObj "list" us.toArray 0)).get? h0.objs.size=some (seqObj "list" us.toArray 0):=La _ rfl;refine K4 (LP (wpAny_call_entry_kw slot_list_sort ⟨_,hoL,rfl⟩ entry_list_sort ?srt (ksk_l1 _ _)))
 case srt =>
  show wpAny _ A.in1.in1 (Builtin.«list.sort» ⟨[.ref h0.objs.size],[(Str.ofString "key",.ref f)]⟩) _ _ _;rw[ksk_t1];refine BH (s:={s with toks:=tk}) (h0:=h0.push (seqObj "list" us.toArray 0)) (I.tok tk) (λb o e=>K9 _ (k0 b o e)) hz hoL hv (by rw[ul];exact hlen) (by rw[ul];exact h64)
   (λi u k hu hk pins' H' s' g J=>?_) λH' s' g n J=>⟨_,rfl,?_⟩
  ·have hi:i<xs.length:=by rw[<- ul];exact (K7.mp hu).1
   obtain⟨u',hu',rv⟩:=hv.get (K1 hi);rw[hu] at hu';cases hu';exact turn i _ u k (K1 hi) rv hk pins' H' s' g J
  ·exact KR ⟨_,rfl,.ref h0.objs.size,_,J,rfl,h H' _ g n⟩
theorem sC{A:Around}{l:Addr}(I:Inv X pins σ H s)(hl:a_ X.K H l xs)(h64:xs.length<64):vd X A s l xs:=λQ E h=>by
 obtain⟨its,rv,pl,hz⟩:=I.list hl;refine collect_list pl.isList (h _ s.toks its (λb o e=>?_) ?_ rv) (by rw[<- rv.length];exact hz)
 ·rw[Heap.get?_update_ne _ _ _ _ (Ll (Lb e))];exact K9 _ e
 ·rw[Ou,size_push'];exact M0 _
def rn(src:Hp->Addr->List V->Prop)(pre:V->Int->Hp->St->Prop)(fr:St->St)(t:TA):TE:=λσ H Q=>t σ H λvs H1=>∃l xs kz,vs=[.ref l]/\src H1 l xs/\kz.length=xs.length/\xs.length<64 /\
 (∀(i:Nat) (v:V) (k:Int),xs[i]?=some v->kz[i]?=some k->∀H',dP H1 H'->pre v k H' (fr σ))/\∀H2 D,dP H1 H2->H2 D=none->Q (.ref D) (upd H2 D (.lst (jc kz xs)))
theorem rb{p pos:Pos}{k:Nat}{src:Hp->Addr->List V->Prop}{pre:V->Int->Hp->St->Prop}{fr:St->St}
  (hg:Gl X "sorted") (hm:X.mg "sorted"=none) (ha:PA X [e] t) (h1:dY e=true) (hr:bQ (k+3) X.A) (hL:PE X (.Lambda params body scope lpos) (yI q params body scope cl))
  (hsrc:∀pins σ H s H1 l xs A,Inv X pins σ H s->src H1 l xs->dP H1 H->A.handled=none->xs.length<64->vd X A s l xs)
  (hk:scope.kind=.function) (hco:scope.isCoroutine=false) (hgen:scope.isGenerator=false) (hcell:∀y∈scope.names,y.2≠.cell) (hloc:scope.names.lookup x=some .local)
  (hbind:∀c' pm ctv u,bindArgs (W.kla_fn "<lambda>" q params body scope cl pm (.ref c') ctv) ⟨[u],[]⟩=pure [(x,u)])
  (hlen:∀σ:St,(fr σ).length=N.length) (hcl:∀y c,cl.lookup y=some c->X.env.cells.lookup y=some c) (hhas:∀y,(scope.names.lookup y=some .cell\/scope.names.lookup y=some .free)->∃c,cl.lookup y=some c)
  (hf:∀pins σ H s,Inv X pins σ H s->∀(i:Nat) (y:Str) (v:V),N[i]?=some y->(fr σ)[i]?=some (some v)->scope.names.lookup y=some .free/\∃c u,cl.lookup y=some c/\s.heap.IsCell c (some u)/\RelV v u)
  (hbody:∀A f c' s' H' σf v i,pre v i H' σf->∃t,PE (tP X A (x::N) q scope f (.ref c') cl s' H') body t/\t (some v::σf) H' (λw H2=>w=.int i/\H2=H')) :
  PE X (.Call (.Name "sorted" p) [e] [⟨some "key",.Lambda params body scope lpos,kpos⟩] pos) (rn src pre fr t):=by
 intro pins s σ H Q I h;refine Nm (eX I hg hm (u:=.builtin "sorted") (by decide +kernel) ?_ (by decide) (by decide))
 have hkw:PK X [⟨some "key",.Lambda params body scope lpos,kpos⟩] (j0 (yI q params body scope cl) mB):=BJ hL GK;refine callWith_kw ?_ (by rw[cz h1];rfl) (by rw[cz h1];rfl) rfl rfl
 refine bS (ha pos pins s σ H _ I h) λus s1 hq1=>?_;obtain⟨vs,H1,I1,r1,q1⟩:=hq1;obtain⟨l,xs,kz,rfl,hs,hle,h64,hpre,qq⟩:=q1;obtain⟨u,rfl,ru⟩:=vals1 r1;cases ru;refine bS (hkw pos pins s1 σ H1 (λzs H2=>∃f c' pm ctv,zs=[.ref f]/\dP H1 H2/\j5 H2 f ((q)) params body scope cl c' pm ctv) I1 λf c' pm ctv H2 g lm=>⟨f,c',pm,ctv,rfl,g,lm⟩) λws s2 hq2=>?_;obtain⟨zs,H2,I2,rz,f,c',pm,ctv,e1,g,lm⟩:=hq2;subst e1;obtain⟨wv,rfl,rw1⟩:=vals1 rz;cases rw1;have hr1:bQ (k+2) X.A.in1:=hr.in1;refine wO I2 (hsrc _ _ _ _ _ _ _ _ I2 hs g hr1.hd h64) hle h64 (λi v u j hv rv hj pins' H' s' g' J=>?_) λH' D g' n=>qq H' D (g.trans g') n;obtain⟨ho,fR⟩:=(lm.up λb o u e=>g'.same b _ e).get J;obtain⟨tb,hb,hq⟩:=hbody X.A.in1.in1 f c' s' H' (fr σ) v j (hpre i v j hv hj H' (g.trans g'));refine LQ (zR J hr1.in1 J.ok.frames hk hco hgen hcell rv hloc ho fR (hbind c' pm ctv) (hlen σ) hcl hhas (hf _ _ _ _ J) hb hq) (λr s4 hr4=>?_) λ_ _ z=>z;obtain⟨w,H4,J4,rw4,e4,e5⟩:=hr4;subst e4 e5;exact⟨rw4,J4⟩
end
theorem jM{a:α}{l:List (Str×α)}:List.lookup x ((x,a)::l)=some a:=by rw[Mn,Md]
theorem i6{y:Str}{a:α}{l:List (Str×α)}(h:y≠x):List.lookup y ((x,a)::l)=List.lookup y l:=by rw[Mn,LJ.mpr h]
abbrev ko(n:Nat):List V:=(List.range n).map λk=>V.int ((k:Nat):Int)
section
variable {X:Cx} {pins:List (Addr×Obj)} {σ:St} {H:Hp} {s:Shared}
theorem qH{A:Around}{r:Addr}{n:Nat}(hh:A.handled=none)(I:Inv X pins σ H s)(hr:H r=some (.nq 0 n))(h64:n<64):vd X A s r (ko n):=λQ E h=>by
 obtain⟨t,u,v,e⟩:=I.bg r _ hr;have hn2:Builtin.Range.rangeSize 0 (n:Int) 1=n:=by rw[rangeSize_one];split<;>lia
 have hsm:Builtin.Range.small 0 (n:Int) 1=true:=small_one (by lia) (by lia) (by lia) (by lia)
 have oS:(s.heap.push {cls:=.type "list",data:=.seq ([]:List Value).toArray}).get? s.heap.objs.size=some {cls:=.type "list",data:=.seq #[] 0}:=La _ rfl;unfold collect;refine K4 (wpAny_runValue (Nq PySem.F.entry_proto_collect ?_));rw[N4 PySem.F.plain_proto_collect _];refine K4 (m:=newList []) (Mr (KR ⟨Qx PySem.F.plain_list_iadd _,Nq PySem.F.entry_list_iadd ?_⟩));rw[N4 PySem.F.plain_list_iadd _];show wpAny _ A.in1 (Builtin.List.listExtendWith _ _ _) _ _ _;refine wpAny_extend_range (R:=λr s'=>match r with|.ok (.ret v)=>wpAny (model X.prog X.w) A (match v with|.ref a=>do (match (<- load a).data with|.seq xs _=>pure xs.toList|_=>unsupported "internal:collect")|_=>unsupported "internal:collect") Q E s'|.ok _=>_|.error e=>E e s') (s:={s with heap:=s.heap.push {cls:=.type "list",data:=.seq ([]:List Value).toArray}}) hh (K9 _ e) hsm hn2 (by lia) s.heap.objs.size (.ref s.heap.objs.size) 0 oS λh' tk acc c' hk hS hI=>?_
 refine K4 (m:=load s.heap.objs.size) (wpAny_load hS (KR (h h' tk acc.toList (λb o e=>hk b o (Ll (Lb e)) (K9 _ e)) (M1 (Lb hS)) ?_)));have hv:=Y.gZ (lo:=0) n acc.toList 0 (by simpa using hI.1) λj v e=>by
  obtain⟨t,e2⟩:=hI.2 j v (by simpa using e)
  exact⟨t,by rw[e2];simp⟩
 show Vals ((List.range n).map λk=>V.int ((k:Nat):Int)) acc.toList;rw[OA]
 simpa using hv
end
def xN(K:W.Frag):List V->Hp->VK->Prop:=λvs H1 Q=>∃l xs kz,vs=[.ref l]/\a_ K H1 l xs/\kz.length=xs.length/\xs.length<64 /\
 (∀(i:Nat) (v:V) (k:Int),xs[i]?=some v->kz[i]?=some k->∀H',dP H1 H'->∃p ys,v=.ref p/\aX K H' p (.int k::ys))/\∀H2 D,dP H1 H2->H2 D=none->Q (.ref D) (upd H2 D (.lst (jc kz xs)))
theorem aX.same{H':Hp}{a:Addr}(g:tG H H')(h:aX K H a xs):aX K H' a xs:=by
 rcases h with (h|⟨o,h⟩)|h
 ·exact .inl (.inl (g _ _ h))
 ·exact .inl (.inr ⟨o,g _ _ h⟩)
 ·exact .inr h
theorem Bd{p pos:Pos}{cj:Nat}{k:Nat}(hg:Gl X "sorted")(hm:X.mg "sorted"=none)(ha:PA X [e] t)(h1:dY e=true)(hr:bQ (k+3) X.A)
  (hL:PE X (.Lambda params (.Subscript (.Name x p1) (.Constant (.int 0) cj p2) p3) scope lpos) (yI q params (.Subscript (.Name x p1) (.Constant (.int 0) cj p2) p3) scope []))
  (hsc:scope={kind:=.function,names:=[(x,.local)],isGenerator:=false,isCoroutine:=false,more:=[]}) (hx1:(x ==("__debug__":Str))=false) (hx2:(x ==("__classdict__":Str))=false)
  (hbind:∀c' pm ctv u,bindArgs (W.kla_fn "<lambda>" q params (.Subscript (.Name x p1) (.Constant (.int 0) cj p2) p3) scope [] pm (.ref c') ctv) ⟨[u],[]⟩=pure [(x,u)]) :
  PE X (.Call (.Name "sorted" p) [e] [⟨some "key",.Lambda params (.Subscript (.Name x p1) (.Constant (.int 0) cj p2) p3) scope lpos,kpos⟩] pos) (zM (xN X.K) t):=by
 subst hsc;have lk:∀y,List.lookup y [(x,NameKind.local)]=if y=x then some .local else none:=λy=>by
  by_cases z:y=x
  ·rw[KO z,z,jM]
  ·rw[KJ z,i6 z];rfl
 show PE X _ (rn (λH l xs=>a_ X.K H l xs) (λv k H' _=>∃p ys,v=.ref p/\aX X.K H' p (.int k::ys)) (λ_=>[]) t);refine rb (N:=[]) hg hm ha h1 hr hL (λpins σ H s H1 l xs A I hs g _ h64=>sC I (g.same.seq hs) h64) rfl rfl rfl (λy hy=>by rw[KU.mp hy];nofun) (by rw[lk,KO rfl]) hbind (λ_=>rfl) (λy c z=>by cases z) (λy z=>?_) (λ_ _ _ _ _ i y v z=>by cases z) λA f c' s' H' σf v i hp=>?_
 ·rw[lk] at z
  split at z
  ·rcases z with z|z<;>cases z
  ·rcases z with z|z<;>cases z
 ·obtain⟨a,ys,rfl,hq⟩:=hp;refine⟨_,Bm nJ (pv 0 rfl (.inl (by show List.lookup x [(x,NameKind.local)]=_;rw[lk,KO rfl])) hx1 hx2) jW (Z.JH rfl),?_⟩
  exact⟨_,rfl,a,_,0,.int i,rfl,rfl,hq,aR (j:=0) rfl,rfl,rfl⟩
noncomputable def Kg(j:Nat)(σ:St):St:=[(σ[j]?).getD none]
def kU(K:W.Frag)(j:Nat)(t:TA):TE:=rn (λH l xs=>∃n:Nat,H l=some (.nq 0 n)/\xs=ko n) (λv k H' σf=>∃i q ls,v=.int i/\σf=[some (.ref q)]/\aX K H' q ls/\bC ls i=some (.int k)) (Kg j) t
theorem AL{p pos:Pos}{y:Str}{c:Addr}{k:Nat}(hg:Gl X "sorted")(hm:X.mg "sorted"=none)(ha:PA X [e] t)(h1:dY e=true)(hr:bQ (k+3) X.A)
  (hL:PE X (.Lambda params (.Subscript (.Name y p1) (.Name x p2) p3) scope lpos) (yI q params (.Subscript (.Name y p1) (.Name x p2) p3) scope [(y,c)]))
  (hsc:scope={kind:=.function,names:=[(x,.local),(y,.free)],isGenerator:=false,isCoroutine:=false,more:=[]}) (hxy:y≠x) (hx1:(x ==("__debug__":Str))=false) (hx2:(x ==("__classdict__":Str))=false) (hy1:(y ==("__debug__":Str))=false) (hy2:(y ==("__classdict__":Str))=false)
  (hj:X.N[j]?=some y) (hyc:X.env.scope.names.lookup y=some .cell) (hyl:X.env.cells.lookup y=some c)
  (hbind:∀c' pm ctv u,bindArgs (W.kla_fn "<lambda>" q params (.Subscript (.Name y p1) (.Name x p2) p3) scope [(y,c)] pm (.ref c') ctv) ⟨[u],[]⟩=pure [(x,u)]) :
  PE X (.Call (.Name "sorted" p) [e] [⟨some "key",.Lambda params (.Subscript (.Name y p1) (.Name x p2) p3) scope lpos,kpos⟩] pos) (kU X.K j t):=by
 subst hsc;have lx:List.lookup x [(x,NameKind.local),(y,NameKind.free)]=some .local:=jM;have ly:List.lookup y [(x,NameKind.local),(y,NameKind.free)]=some .free:=by rw[i6 hxy,jM]
 have lz:∀z,z≠x->z≠y->List.lookup z [(x,NameKind.local),(y,NameKind.free)]=none:=λz h1 h2=>by rw[i6 h1,i6 h2];rfl
 have lc:List.lookup y [(y,c)]=some c:=jM;have lcz:∀z d,List.lookup z [(y,c)]=some d->z=y/\d=c:=λz d e=>by
  by_cases h:z=y
  ·rw[h,lc] at e;cases e;exact⟨h,rfl⟩
  ·rw[i6 h] at e;cases e
 refine rb (N:=[y]) hg hm ha h1 hr hL (λpins σ H s H1 l xs A I hs g hh h64=>?_) rfl rfl rfl (λz hz=>?_) lx hbind (λ_=>rfl) (λz d e=>?_) (λz hz=>?_) (λpins σ H s I i z v e1 e2=>?_) λA f c' s' H' σf v i hp=>?_
 ·obtain⟨n,hs,rfl⟩:=hs;rw[K2,Lo] at h64;exact qH hh I (g.same _ _ hs) h64
 ·rcases KL.mp hz with rfl|hz
  ·nofun
  ·rw[KU.mp hz];nofun
 ·obtain⟨rfl,rfl⟩:=lcz z d e;exact hyl
 ·by_cases z1:z=x
  ·have hz':List.lookup z [(x,NameKind.local),(y,NameKind.free)]=some .cell\/List.lookup z [(x,NameKind.local),(y,NameKind.free)]=some .free:=hz;rw[z1,lx] at hz';rcases hz' with h|h<;>cases h
  ·by_cases z2:z=y
   ·rw[z2];exact⟨c,lc⟩
   ·have hz':List.lookup z [(x,NameKind.local),(y,NameKind.free)]=some .cell\/List.lookup z [(x,NameKind.local),(y,NameKind.free)]=some .free:=hz;rw[lz z z1 z2] at hz';rcases hz' with h|h<;>cases h
 ·cases i with
  |succ i=>cases e1
  |zero =>
   have e1':some y=some z:=e1;cases e1';have e2':some ((σ[j]?).getD none)=some (some v):=e2;have e3:σ[j]?=some (some v):=by
    cases hσ:σ[j]? with
    |none=>rw[hσ] at e2';cases e2'
    |some o=>rw[hσ] at e2';exact e2'
   obtain⟨m,_,hl⟩:=I.loc;obtain⟨u,rv,lk⟩:=hl j y v hj e3 (.inr (.inl hyc));refine⟨ly,c,u,lc,?_,rv⟩;rcases lk with ⟨z,_⟩|⟨_,d,z1,z2⟩
   ·have z':X.env.scope.names.lookup y=some .local:=z;rw[hyc] at z';cases z'
   ·rw[hyl] at z1;cases z1;exact z2
 ·obtain⟨ix,a,ls,rfl,rfl,hq,ha'⟩:=hp;refine⟨_,Bm nJ (pv 1 rfl (.inr (.inr ly)) hy1 hy2) (pv 0 rfl (.inl lx) hx1 hx2) (Z.JH rfl),?_⟩;exact⟨_,rfl,_,rfl,a,ls,ix,.int i,rfl,rfl,hq,ha',rfl,rfl⟩
theorem vD{β:Type}{g:α->β}{ks:List Int}{l:List α}:jc ks (l.map g)=(jc ks l).map g:=by
 have p:∀l:List α,Paired (λa b=>b=g a) l (l.map g):=λl=>by
  induction l with
  |nil=>exact .nil
  |cons a l ih=>exact .cons rfl ih
 have q:∀{l:List α} {m:List β},Paired (λa b=>b=g a) l m->m=l.map g:=λ{l m} h=>by
  induction h with
  |nil=>rfl
  |cons r _ ih=>rw[r,ih];rfl
 exact q (v8 (p l))
structure nA (K:W.Frag) (mg:Str->Option Value) (x:Str):Prop where
 ex:∃c P,W.tabIn K x=some (c,P)/\∀f cdv,FR K mg x f cdv->cdv=.ref c
theorem iK{c P:Addr}{oc oc':Value}{od od':Option Addr}{sl sl':Array (Option Value)}{fd:FuncData}{vs:Array Value}(a:W.nsIn K mainGlobals x=some (some (.ref f)))(l:K.lookup f=some ⟨oc,od,.func fd,sl⟩)(hc:fd.code=.ref c)
  (lc:K.lookup c=some ⟨oc',od',.fields vs,sl'⟩) (hv:vs[11]?=some (.ref P)):W.tabIn K x=some (c,P):=by
 unfold W.tabIn;rw[a];dsimp only;rw[l];dsimp only;rw[hc];dsimp only;rw[lc];dsimp only;rw[hv]
theorem sJ(a:W.nsIn K mainGlobals x=some none):W.tabIn K x=none:=by
 unfold W.tabIn;rw[a]
theorem nA.mk'{mg:Str->Option Value}{c P:Addr}(X:K.In h)(G:h.Ns mainGlobals mg)(ht:W.tabIn K x=some (c,P)):nA K mg x:=
 ⟨c,P,ht,λf cdv ⟨m,o,fd,lk,hd,e⟩=>by rw[<- e];exact W.law_code X G ht m (X _ _ lk) hd⟩
theorem iS.of{q:Program}{o1 o2 o3:Option (Addr×Addr)}(nt:W.noTabs K=true)(t1:W.tabIn K "by_worth"=o1)(t2:W.tabIn K "by_weight"=o2)(t3:W.tabIn K "code_of"=o3)(nd:((o1.toList++(o2.toList++o3.toList)).map (·.2)).Nodup)
  (f1:o1=none\/((recsOf q).find? (λe=>e.name ==("by_worth":Str))).isSome=true) (f2:o2=none\/((recsOf q).find? (λe=>e.name ==("by_weight":Str))).isSome=true) (f3:o3=none\/((recsOf q).find? (λe=>e.name ==("code_of":Str))).isSome=true):iS q K:=by
 refine⟨nt,?_,λx hx=>?_⟩
 ·have e:(bR K).map (·.2.1)=(o1.toList++(o2.toList++o3.toList)).map (·.2):=by
   unfold bR d8
   cases o1<;>cases o2<;>cases o3<;>simp[List.filterMap,t1,t2,t3]
  rw[e];exact nd
 ·unfold d8 at hx;rcases KL.mp hx with rfl|hx
  ·rw[t1];exact f1
  ·rcases KL.mp hx with rfl|hx
   ·rw[t2];exact f2
   ·rw[KU.mp hx,t3];exact f3
namespace Y
def Bv:V->List V->Hp->VK->Prop:=λx vs H Q=>∃z y,x=.str z/\vs=[.str y]/\z.length<=sizeLine/\Q (.str (Txt.rstripChars z y)) H
theorem n6:vw X "str.rstrip" Bv:=by
 intro pins s σ H x xs v us Q I rx rs h;obtain⟨z,y,rfl,rfl,hz,q⟩:=h;obtain⟨t,rfl⟩:=rx;obtain⟨u,rfl,k,rfl⟩:=vals1 rs;exact SC.rstripChars (λt' k=>⟨.str _,H,I.tok _,⟨_,rfl⟩,q⟩) hz
def FJ:V->List V->Hp->VK->Prop:=λx vs H Q=>∃z i y,x=.str z/\vs=[.int i,.str y]/\0<=i/\i<1000/\y.length=1/\Q (.str (Txt.ljustF z i (y.cps.getD 0 0))) H
theorem pH:vw X "str.ljust" FJ:=by
 intro pins s σ H x xs v us Q I rx rs h;obtain⟨z,i,y,rfl,rfl,h0,h1,hy,q⟩:=h;obtain⟨t,rfl⟩:=rx;obtain⟨u1,u2,rfl,⟨t1,rfl⟩,⟨t2,rfl⟩⟩:=vals2 rs;exact ljust_fill (padOk_of (by lia) (by lia)) hy λt' k=>⟨.str _,H,I.tok _,⟨_,rfl⟩,q⟩
end Y
theorem pZ(x y:Str):(Txt.rstripChars x y).cps.toList.reverse=x.cps.toList.reverse.dropWhile y.cps.contains:=by
 have key:∀(p:Nat->Bool) (l:List Nat),(l.take (l.length-(l.reverse.takeWhile p).length)).reverse=l.reverse.dropWhile p:=λp l=>by
  have h:(l.reverse.takeWhile p).length<=l.length:=by simpa using (List.takeWhile_sublist p (l:=l.reverse)).length_le
  rw[List.reverse_take,<- u9];congr 1;lia
 have hl:x.length=x.cps.toList.length:=by rw[L5];rfl
 rw[<- key];unfold Txt.rstripChars Txt.stripBy;split
 ·rename_i h;unfold stripSame at h;rw[LK] at h;have h2:x.length-(x.cps.toList.reverse.takeWhile y.cps.contains).length=x.length:=by simpa[stripLo,stripHi] using h.2
  rw[<- hl,h2,hl,Lz]
 ·have e:∀(a:Array Nat) (j:Nat),(a.extract 0 j).toList=a.toList.take j:=λa j=>by simp
  have e2:=e x.cps (x.length-(x.cps.toList.reverse.takeWhile y.cps.contains).length);rw[hl] at e2;exact Lw List.reverse e2
namespace Y
def IU:R2:=λx y H Q=>∃(c:Nat) (k:Int),x=.str ⟨#[c]⟩/\y=.int k/\0<=k/\k<=1000/\Q (.str ⟨(List.replicate k.toNat c).toArray⟩) H
theorem vt:cJ X (binaryOp .Mult) IU:=by
 intro pins s σ H x y v u Q I rx ry h;obtain⟨c,k,rfl,rfl,h0,h1,q⟩:=h;obtain⟨t,rfl⟩:=rx;obtain⟨t2,rfl⟩:=ry;have e:Txt.mul ⟨#[c]⟩ k=⟨(List.replicate k.toNat c).toArray⟩:=by
  have:=mul_one_list c k
  cases hz:Txt.mul ⟨#[c]⟩ k with
  |mk a=>rw[hz] at this;rw[<- this,N7]
 have ok:MulOk ⟨#[c]⟩ k:=by
  refine⟨by simp only[Bool.or_eq_false_iff,decide_eq_false_iff_not];lia,λz _=>?_,λz _=>?_⟩
  ·have hl:((⟨#[c]⟩:Str).length:Int)=1:=rfl;rw[hl];have:1<=(2^63-1) / k:=by
    rw[Int.le_ediv_iff_mul_le (by lia)];lia
   lia
  ·have hl:(⟨#[c]⟩:Str).length=1:=rfl;rw[hl,Nat.one_mul];exact Lf (Pq.mpr (KA (show k.toNat<=1000 by lia) (by decide)))
 exact SB.mul ok λt' j=>⟨.str _,H,I.tok _,⟨t',by rw[e]⟩,q⟩
end Y
theorem qy:∀{ns:List Int} {us:List Value} (r:Vals (ns.map V.int) us) (k:Int),us.countP (λv=>match v with|.int j _=>j == k|_=>false)=ns.count k
 |[],_,.nil,k=>rfl
 |n::ns,_,.cons r t,k=>by
  obtain⟨u,rfl⟩:=r;rw[P5,qy t k,OB]
theorem pE:∀{ns:List Int} {us:List Value} (r:Vals (ns.map V.int) us),∀y∈us,∃j t,y=.int j t
 |[],_,.nil,y,h=>by cases h
 |n::ns,_,.cons r t,y,h=>by
  obtain⟨u,rfl⟩:=r;rcases KL.mp h with e|e
  ·exact⟨_,_,e⟩
  ·exact pE t y e
namespace Y
def Jj:V->List V->Hp->VK->Prop:=λx vs H Q=>∃(a:Addr) (ns:List Int) (k:Int),x=.ref a/\H a=some (.lst (ns.map V.int))/\vs=[.int k]/\Q (.int (ns.count k:Nat)) H
theorem Fe:G_ X "list.count" Jj:=by
 intro pins s σ H x xs v us Q I rx rs h;obtain⟨a,ns,k,rfl,hH,rfl,q⟩:=h;cases rx;obtain⟨u,rfl,t,rfl⟩:=vals1 rs;obtain⟨z,its,n,r,hl,e⟩:=I.mf hH;refine MJ PySem.F.slot_list_count ⟨_,e,rfl⟩ PySem.F.entry_list_count (PySem.F.args_list_count_2 _ _) (SeqAt.list_countAt a its.toArray n none _ (.int k t) (λv=>match v with|.int j _=>j == k|_=>false)) ⟨e,λy hy=>?_,⟨.int _,H,I.tok _,⟨_,rfl⟩,?_⟩⟩
 ·obtain⟨j,u,rfl⟩:=pE r y (by simpa using hy)
  exact SeqAt.EqAt.int_int _ _ _ _
 ·show Q (.int (((its.toArray).toList.countP _:Nat):Int)) H;rw[qy r k];exact q
def Jv:V->List V->Hp->VK->Prop:=λx vs H Q=>∃l b xs ys,x=.ref l/\vs=[.ref b]/\b≠l/\H l=some (.lst xs)/\H b=some (.lst ys)/\xs.length+ys.length<=sizeLine/\Q .aO (upd H l (.lst (xs++ys)))
theorem G9:G_ X "list.extend" Jv:=by
 intro pins s σ H x vs v us Q I rx rv h;obtain⟨l,b,xs,ys,rfl,rfl,hne,hH,hb,hz,q⟩:=h;cases rx;obtain⟨u,rfl,ru⟩:=vals1 rv;cases ru;obtain⟨z,its,n,r,hl,e⟩:=I.mf hH;obtain⟨z2,its2,n2,r2,hl2,e2⟩:=I.mf hb;have hsz:its.toArray.size+its2.toArray.size<=sizeLine:=by rw[KC,KC];lia
 refine MJ F.slot_list_extend ⟨_,e,rfl⟩ F.entry_list_extend (F.args_list_extend_2 _ _) (AutoSeq1.list_extend_list_list_0 l its.toArray n b its2.toArray n2 (extend_door hsz) (by lia) (by lia)) ⟨e,e2,?_⟩
 refine⟨.aO,_,I.BV (its':=its++its2) hH e ?_ (r.append r2) (by rw[K6];exact hz),rfl,q⟩
 apply Ov.mp;simp
end Y
noncomputable def ya:Bool->List α->List α
 |_,[]=>[]
 |true,x::r=>x::ya false r
 |false,_::r=>ya true r
def iz(l:List α):List α:=ya true l
theorem CS(ys:List α):∀b,(ya b ys).length<=ys.length:=by
 induction ys with
 |nil=>exactλb=>by cases b<;>exact KH _
 |cons y r ih =>
  intro b
  cases b with
  |true=>exact Pz (ih false)
  |false=>exact Pc (ih true)
theorem C2(ys:List α):(iz ys).length<=ys.length:=CS ys true
theorem Vals.iz(h:Vals xs us):Vals (iz xs) (iz us):=by
 have k:∀b,Vals (ya b xs) (ya b us):=by
  induction h with
  |nil=>exactλb=>by cases b<;>exact .nil
  |cons h _ ih =>
   intro b
   cases b with
   |true=>exact .cons h (ih false)
   |false=>exact ih true
 exact k true
theorem zT(xs:List α)(n m:Nat)(h:(xs.length-m+1) / 2=n):((List.range n).map λk=>m+2*k).filterMap (λi=>xs[i]?)=iz (xs.drop m):=by
 induction n generalizing m with
 |zero=>rw[Qa (by lia)];rfl
 |succ n ih =>
  have hm:m<xs.length:=by lia
  have h2:(xs.length-(m+2)+1) / 2=n:=by lia
  rw[List.range_succ_eq_map,Lp,NC];show (match xs[m]? with|none=>_|some b=>_)=_
  rw[K1 hm];have e2:iz (xs.drop m)=xs[m]::iz (xs.drop (m+2)):=by
   rw[L7 hm];show xs[m]::ya false (xs.drop (m+1))=_;congr 1;rw[<- Qn (i:=1) (j:=m+1)];generalize xs.drop (m+1)=z
   cases z<;>rfl
  rw[e2,<- ih (m+2) h2,LM];show xs[m]::_=xs[m]::_;congr 2;exact OF λk _=>by show m+2*(k+1)=m+2+2*k;rw[Nat.mul_succ,Nat.add_comm (2*k),NB]
theorem Aq(items:Array Value)(m:Nat):slicePick items (some (m:Int)) none (some 2)=(iz (items.toList.drop m)).toArray:=by
 unfold slicePick;have hb:sliceBounds (some (m:Int)) none (some 2) items.size=(((min m items.size:Nat):Int),(items.size:Int),2):=by
  unfold sliceBounds;simp only[Option.getD_some];rw[KJ (show ¬ (m:Int)<0 by lia)]
  simp only[show (2:Int) > 0 by decide,MV]
  congr 1;lia
 rw[hb];show ((sliceRange ((min m items.size:Nat):Int) (items.size:Int) 2).filterMap (items[·]?)).toArray=_;congr 1;have el:items.toList.length=items.size:=L5;unfold sliceRange;simp only[show (2:Int) > 0 by decide,MV]
 have ec:(if ((min m items.size:Nat):Int)<(items.size:Int) then ((items.size:Int)-((min m items.size:Nat):Int)+2-1) / 2 else 0).toNat=(items.size-m+1) / 2:=by
  split<;>lia
 rw[ec,<- zT items.toList _ m (by rw[el])]
 have ei:(λi:Nat=>items[i]?)=λi=>items.toList[i]?:=funext λi=>(Lv).symm;rw[ei];congr 1;refine OF λk hk=>?_;have hk':=LA.mp hk;lia
section
variable {X:Cx} {e:Expr} {te:TE}
def EM(K:W.Frag)(m:Nat)(te:TE):TE:=λσ H Q=>te σ H λx H1=>∃a xs,x=V.ref a/\a_ K H1 a xs/\∀p,H1 p=none->Q (.ref p) (upd H1 p (.lst (iz (xs.drop m))))
theorem EV{i:Int}{m j2:Nat}{pos:Pos}(hi:i=(m:Int))(he:PE X e te):PE X (.Subscript e (.Slice (some (.Constant (.int i) j p1)) none (some (.Constant (.int 2) j2 p3)) p2) pos) (EM X.K m te):=by
 subst hi;intro pins s σ H Q I h;refine Subscript_ (bS (he pins s σ H _ I h) λv s1 hq1=>?_);obtain⟨x,H1,I1,r1,q1⟩:=hq1;refine wpAny_Slice (bS (oJ jW pins s1 σ H1 (λo H2=>o=some (m:Int)/\H2=H1) I1 ⟨_,rfl,rfl,rfl⟩) λvl s2 hq2=>?_);obtain⟨l,H2,I2,pl,el,eh⟩:=hq2;subst el eh;refine bS (tQ pins s2 σ H2 (λo H3=>o=none/\H3=H2) I2 ⟨rfl,rfl⟩) λvu s3 hq3=>?_;obtain⟨u,H3,I3,pu,eu,eh⟩:=hq3;subst eu eh;refine bS (oJ jW pins s3 σ H3 (λo H4=>o=some 2/\H4=H3) I3 ⟨_,rfl,rfl,rfl⟩) λvk s4 hq4=>?_;obtain⟨k,H4,I4,pk,ek,eh⟩:=hq4;subst ek eh;obtain⟨a,xs,rfl,hx,q⟩:=q1;cases r1;have I5:Inv X pins σ H4 {s4 with heap:=s4.heap.push {cls:=.type "slice",data:=.fields #[vl,vu,vk]}}:=I4.kept (t':=s4.toks) λb ob q=>K9 _ q
 obtain⟨its,r,ht,hz⟩:=I5.list hx;have hlen:=r.length;have hg:wpAny (model X.prog X.w) X.A (getItem (.ref a) (.ref s4.heap.objs.size)) (EP X pins σ Q) X.xe {s4 with heap:=s4.heap.push {cls:=.type "slice",data:=.fields #[vl,vu,vk]}}:=by
  refine Py ht.isList (Heap.IsSliceOf.new ..) pl pu pk (by simp) ?_ (by rw[KC]<;>lia)
  rw[Aq];refine⟨.ref _,_,I5.laid (t':=s4.toks) (o:=.lst (iz (xs.drop m))) (λb ob q=>K9 _ q) (KH _) ?_,rfl,q _ (I5.bg.fresh (KH _))⟩;refine⟨by have:=C2 (xs.drop m);rw[Ly] at this;lia,iz (its.drop m),0,Vals.iz (r.drop m),?_⟩
  exact La _ rfl
 show wpAny (model X.prog X.w) X.A (subscriptTail e (.Slice (some (.Constant (.int (m:Int)) j p1)) none (some (.Constant (.int 2) j2 p3)) p2) (.ref a) (.ref s4.heap.objs.size)) (EP X pins σ Q) X.xe {s4 with heap:=s4.heap.push {cls:=.type "slice",data:=.fields #[vl,vu,vk]}}
 exact tail_any (ops:=[.ref a,.ref s4.heap.objs.size]) ht.isList.typeIs Pa.lookup hg (by with_unfolding_all rfl)
end
namespace Y
def Bj(K:W.Frag):List V->Hp->VK->Prop:=λxs H Q=>Ek K xs H Q\/∃p ns,xs=[.ref p]/\a_ K H p (ns.map V.int)/\ns.length<64/\∀ns':List Int,ns'.Perm ns->ns'.Pairwise (·<=·)->∀l,H l=none->Q (.ref l) (upd H l (.lst (ns'.map V.int)))
theorem tq(K:W.Frag)(hK:X.K=K):bt X (.builtin "sorted") (Bj K):=by
 refine (wW K hK).or ?_;subst hK;intro pins s σ H xs us Q I r h;obtain⟨p,ns,rfl,hq,h64,q⟩:=h;obtain⟨u,rfl,ru⟩:=vals1 r;cases ru;obtain⟨its,rv,pl,hz⟩:=I.list hq;have hi:=intsAre_of rv;refine sorted_ints pl.isList hi (by rw[kq hi];exact h64) λout ns' a1 a2 a3=>?_
 obtain⟨e,he⟩:=sortedAll_at s.heap its out;refine⟨.ref (s.heap.objs.size+1),_,I.laid (t':=s.toks) (λb ob q=>sortedAll_old q) (M0 _) (show bw X.prog X.w _ _ _ (.lst (ns'.map V.int)) from⟨?_,out.toList,e,fF a1,by simpa using he⟩),rfl,q ns' a2 a3 _ (I.bg.fresh (M0 _))⟩
 rw[K2,a2.length_eq];exact KA (M1 h64) (by decide)
def Hf:V->List V->Hp->VK->Prop:=λx vs H Q=>∃a:Int,x=.int a/\vs=[]/\Q (.int (Builtin.Int.intBits a:Nat)) H
theorem oV:vw X "int.bit_length" Hf:=by
 intro pins s σ H x xs v us Q I rx rs h;obtain⟨a,rfl,rfl,q⟩:=h;obtain⟨t,rfl⟩:=rx;obtain rfl:=Paired.sY rs;exact call_int_bit_length ⟨.int _,H,I.tok _,⟨_,rfl⟩,q⟩
def Jq(K:W.Frag):R2:=λx y H Q=>∃a b xs,x=.ref a/\y=.ref b/\a_ K H a xs/\a_ K H b []/\Q (.bl xs.isEmpty) H
theorem Ge(K:W.Frag)(hK:X.K=K)(hu:X.A.units<cLine):cJ X (compareOp .Eq) (Jq K):=by
 subst hK;intro pins s σ H x y v u Q I rx ry h;obtain⟨a,b,xs,rfl,rfl,ha,hb,q⟩:=h
 cases rx;cases ry
 obtain⟨its,r1,p1,_⟩:=I.list ha;obtain⟨its2,r2,p2,_⟩:=I.list hb;obtain rfl:=Paired.sY r2
 cases r1 with
 |nil=>exact PF (e:=λ_=>true) p1.isList p2.isList rfl hu (λj h1=>absurd h1 (Nr _)) ⟨.bl true,H,I,rfl,q⟩
 |cons h r=>exact NZ p1.isList p2.isList (by simp) hu ⟨.bl false,H,I,rfl,q⟩
end Y
def jx(h:Heap)(d:Addr)(es:Array DictEntry)(ep:Nat):Prop:=∃o,h.get? d=some o/\o.ExactDict/\o.data=.dict es ep
section
variable {prog:Program} {w:World} {A:Around} {E:Value->Shared->Prop} {s:Shared}
theorem jx.ty(x:jx s.heap d es ep):s.TypeIs (.ref d) "dict":=let ⟨o,ho,hc,_⟩:=x;⟨o,ho,hc.1⟩
theorem jx.keep(x:jx h d es ep)(k:∀o,h.get? d=some o->h'.get? d=some o):jx h' d es ep:=let ⟨o,ho,r⟩:=x;⟨o,k _ ho,r⟩
theorem jx.lt(x:jx h d es ep):d<h.objs.size:=let ⟨_,ho,_⟩:=x;Lb ho
theorem C7(low:(d == sysModules)=false)(x:jx s.heap d es ep)
  (q:Q (.ref s.heap.objs.size) {s with heap:=s.heap.push {cls:=.type "dict_keyiterator",data:=.fields #[.ref d,.int 0 0,.int es.size 0,.int ep 0]}}):wpAny (model prog w) A (pyIter (.ref d)) Q E s:=by
 obtain⟨o,ho,hx,hdat⟩:=id x;refine wpAny_pyIter_slot x.ty PySem.F.slot_dict_iter (LV PySem.F.slot_dict_iter x.ty PySem.F.entry_dict_iter ?_ (PySem.F.args_dict_iter_1 _));unfold Builtin.«dict.__iter__» Builtin.Dict.dictSlotNone;refine K4 (K4 (wpAny_notOrdered_dict x.ty ?_));show wpAny _ _ (pure (Value.ref d)) _ _ s;refine KR ?_;show wpAny _ _ (Builtin.Dict.showsAll d >>= _) _ _ s;unfold Builtin.Dict.showsAll;rw[low,KJ KP];refine K4 (KR (K4 (Oc ho hdat (K4 (PL ho hdat ?_)))));exact K4 (Mr (KR ⟨_,rfl,"dict_keyiterator",_,⟨_,La _ rfl,rfl⟩,PySem.F.slot_dict_keyiterator_next.lookup,q⟩))
theorem CY{it:Addr}{Q:Option Value->Shared->Prop}(hit:s.heap.IsKeyIter it d i es.size ep)(x:jx s.heap d es ep)(hi:i<es.size)
  (q:∀h',h'.IsKeyIter it d (i+1) es.size ep->Heap.SameBut it s.heap h'->Q (some es[i].key) {s with heap:=h'}):wpAny (model prog w) A (pyNext (.ref it)) Q E s:=by
 obtain⟨o,ho,hc,hd⟩:=id hit;obtain⟨od,hod,hx,hdd⟩:=id x;unfold pyNext;refine K4 (Oq (LO (name:=Str.ofString "__next__") hit.typeIs PySem.F.slot_dict_keyiterator_next (LV PySem.F.slot_dict_keyiterator_next hit.typeIs PySem.F.entry_dict_keyiterator_next ?_ (PySem.F.args_dict_keyiterator_next_1 _))));refine K4 (KR (K4 (K4 ?_)))
 first|refine K4 (MF hit.typeIs (KR (K4 (OM ho hd ?_))))|refine K4 (Nb hit.typeIs (KR (K4 (OM ho hd ?_))))
 simp only[show Builtin.Dict_items.ownsTuple "dict_keyiterator"=false by decide,ML,MX]
 show wpAny _ _ (if (Value.ref d == Value.none)=true then _ else _) _ _ s;rw[KJ (show ¬ ((Value.ref d == Value.none)=true) from KP)]
 refine K4 (KR (K4 (Oc hod hdd ?_)));rw[KJ (by simp)]
 refine K4 (KR (K4 (PL hod hdd ?_)));rw[KJ (by simp)]
 refine KR ?_;simp only[show ¬ ((i:Int)<0) by lia,MX,Lg,Pr hi]
 refine K4 ?_
 first|refine K4 (MF hit.typeIs (KR (K4 (O0 hit.typeIs ?_))))|refine K4 (Nb hit.typeIs (KR (K4 (O0 hit.typeIs ?_))))
 show wpAny _ _ (setField (.ref it) 1 (rawInt ((i:Int)+1)) >>= _) _ _ s;refine K4 (OJ ho hd (by simp) ?_)
 have h2:(s.heap.update it (Obj.mapFields (·.setIfInBounds 1 (rawInt ((i:Int)+1))))).IsKeyIter it d (i+1) es.size ep:=⟨_,Nz _ ho (Obj.isFreed_of_fields (NP hd _)),(Obj.cls_mapFields ..).trans hc,by rw[NP hd];simp[rawInt]⟩
 refine K4 (LP (K4 (O0 (s:={s with heap:=s.heap.update it (Obj.mapFields (·.setIfInBounds 1 (rawInt ((i:Int)+1))))}) h2.typeIs ?_)))
 show wpAny _ _ (pure es[i].key) _ _ _;exact KR (KR ⟨_,rfl,KR (q _ h2 (Mi ..))⟩)
theorem DB{it:Addr}{Q:Option Value->Shared->Prop}(hh:A.handled=none)(hit:s.heap.IsKeyIter it d es.size es.size ep)(x:jx s.heap d es ep)
  (q:∀h',Heap.ExtBut it s.heap h'->Q none {s with heap:=h'}):wpAny (model prog w) A (pyNext (.ref it)) Q E s:=by
 obtain⟨o,ho,hc,hd⟩:=id hit;obtain⟨od,hod,hx,hdd⟩:=id x;unfold pyNext;refine K4 (Oq (LO (name:=Str.ofString "__next__") hit.typeIs PySem.F.slot_dict_keyiterator_next (LV PySem.F.slot_dict_keyiterator_next hit.typeIs PySem.F.entry_dict_keyiterator_next ?_ (PySem.F.args_dict_keyiterator_next_1 _))));refine K4 (KR (K4 (K4 ?_)))
 first|refine K4 (MF hit.typeIs (KR (K4 (OM ho hd ?_))))|refine K4 (Nb hit.typeIs (KR (K4 (OM ho hd ?_))))
 simp only[show Builtin.Dict_items.ownsTuple "dict_keyiterator"=false by decide,ML,MX]
 show wpAny _ _ (if (Value.ref d == Value.none)=true then _ else _) _ _ s;rw[KJ (show ¬ ((Value.ref d == Value.none)=true) from KP)]
 refine K4 (KR (K4 (Oc hod hdd ?_)));rw[KJ (by simp)]
 refine K4 (KR (K4 (PL hod hdd ?_)));rw[KJ (by simp)]
 refine KR ?_;simp only[show ¬ ((es.size:Int)<0) by lia,MX,Lg,Qb (KH es.size)]
 refine K4 ?_
 first|refine K4 (MF hit.typeIs (KR ?_))|refine K4 (Nb hit.typeIs (KR ?_))
 show wpAny _ _ (setField (.ref it) 0 .none >>= _) _ _ s;refine K4 (OJ ho hd (by simp) ?_)
 show wpAny _ _ (newExc (.type "StopIteration") [] >>= _) _ _ _;refine K4 ?_;simp only[newExc,newTuple];refine K4 (Mr ?_ (by size_fits))
 refine K4 (m:=firstArgMember _ _) (wpAny_of_eq (a:=Value.none) (by first|rfl | (simp only[firstArgMember];rfl)) (Mr ?_ (by size_fits)))
 simp only[raiseNew];refine K4 (wpAny_handled ?_);rw[show A.in1.handled=none from hh];refine K4 (KR (wpAny_throw ?_));refine K4 (wpAny_isInstance (T:="StopIteration") (b:=true) ⟨_,La _ rfl,rfl⟩ isSubtype_stop ?_);exact KR (q _ (((Mi ..).extBut.push _).push _))
end
theorem zf{A:Around}(hh:A.handled=none)(I d:Addr)(ne:d≠I)(es:Array DictEntry)(ep:Nat):
  Walks prog w A I [I,d] [I] es.size (λi v=>∃h:i<es.size,v=es[i].key) (λi h=>h.IsKeyIter I d i es.size ep/\jx h d es ep) where
 sub:=λb hb=>by simp at hb;simp[hb]
 frame:=λ_ _ _ st hk=>⟨st.1.at λo e=>hk I (by simp) o e,st.2.keep λo e=>hk d (by simp) o e⟩
 item:=λi s Q E hi st hQ=>CY st.1 st.2 hi λh' a b=>hQ _ h' s.toks ⟨hi,rfl⟩ ⟨a,st.2.keep λo e=>b.extBut _ _ ne e⟩ λc o hc e=>b.extBut c o (λh=>hc (by simp[h])) e
 done:=λs Q E st hQ=>DB hh st.1 st.2 λh' he=>hQ h' s.toks λc o hc e=>he c o (λh=>hc (by simp[h])) e
 self:=λ_ _ _ _ st hQ=>wpAny_pyIter_keyiter st.1 hQ
theorem E4(low:(d == sysModules)=false):W.KdlSrc prog w "dict" d d es.size (λi v=>∃h:i<es.size,v=es[i].key) (λh=>jx h d es ep) where
 type:=λ_ x=>x.ty
 there:=λ_ x=>⟨x.lt,x.lt⟩
 keep:=λ_ _ x k=>x.keep λo e=>k d (.inl rfl) o e
 notList:=by decide
 notTuple:=by decide
 hint:=λ_ _ _ _ x q=>W.kdl_hint_dict x.ty q
 iter:=λ_ _ hh x=>⟨_,_,(λ_ _ q=>C7 low x q),zf hh _ d (Ll x.lt) es ep,⟨⟨_,La _ rfl,rfl,rfl⟩,x.keep λ_ e=>K9 _ e⟩⟩
theorem AK{es:List DictEntry}(h:KTD.Rows (AI K) es D):es.length=D.length:=by
 induction h with
 |nil=>rfl
 |cons _ _ _ ih=>simp[ih]
theorem yr{es:List DictEntry}(h:KTD.Rows (AI K) es D):Vals (D.map λp=>V.str p.1) (es.map λe=>e.key):=by
 induction h with
 |nil=>exact .nil
 |cons e _ _ ih=>exact .cons ⟨_,e⟩ ih
def Fl(K:W.Frag)(D:List (Str×List Str)):List V->Hp->VK->Prop:=λxs H Q=>∃d,xs=[.ref d]/\kx K d D/\D.length<=sizeLine/\∀l,H l=none->Q (.ref l) (upd H l (.lst (D.map λp=>V.str p.1)))
theorem lC(K:W.Frag)(hK:X.K=K)(hc:X.calm=true):bt X (.type "list") (Fl K D):=by
 intro pins s σ H xs us Q I r h;subst hK;obtain⟨d,rfl,hd,hz,q⟩:=h;obtain⟨u,rfl,rx⟩:=vals1 r;cases rx;obtain⟨o,es,ep,ho,hx,hdat,hr⟩:=hd.ex;have at0:jx s.heap d es ep:=⟨o,I.mx _ _ ho,hx,hdat⟩;have hl:es.size=D.length:=by rw[<- AK hr,L5]
 refine W.kdl_call (E4 hd.low) (I.ok.hd hc) at0 (by rw[hl];exact hz) λh' tk acc c' hk hS hI=>?_
 have hv:Vals (D.map λp=>V.str p.1) acc.toList:=by
  have e:acc.toList=es.toList.map λe=>e.key:=by
   refine MS λj=>?_;rw[Lv,K8,Lv]
   cases z:acc[j]? with
   |none =>
    have:acc.size<=j:=O_.mp z;rw[Qb (by rw[<- hI.1];exact this)];rfl
   |some v =>
    obtain⟨hj,rfl⟩:=hI.2 j v z;rw[Pr hj];rfl
  rw[e];exact yr hr
 refine⟨.ref s.heap.objs.size,_,I.laid (t':=tk) hk (KH _) (show bw X.prog X.w _ h' _ (.lst _) from⟨?_,acc.toList,c',hv,by simpa using hS⟩),rfl,q _ (I.bg.fresh (KH _))⟩
 rw[K2];exact hz
section
variable {K:W.Frag} {g:TG} {tb:TS} {D:Ends} {σ:St} {H:Hp} {te:TE} {Q:VK}
theorem dZ{a:Addr}(hn:xs.length<=sizeLine)(Pv:Addr->Nat->List V->Hp->Prop)(h0:∀D,H D=none->Pv D 0 [] (upd H D (.lst [])))(hD:∀D i ys H',Pv D i ys H'->H' D=some (.lst ys)/\ys.length=i)
  (hl:∀D i ys H',Pv D i ys H'->a_ K H' a xs)
  (hs:∀D i ys H' x (R:VK),xs[i]?=some x->Pv D i ys H'->(∀v H5,H5 D=some (.lst ys)->Pv D (i+1) (ys++[v]) (upd H5 D (.lst (ys++[v])))->R v H5)->te (some x::σ) H' R) (hd:∀D ys H',Pv D xs.length ys H'->Q (.ref D) H') :
  gU (xB K a) 1 (aL 0) dh te Q σ H:=by
 intro D hD0;refine⟨λi m ys σ' H'=>m=xs.length-i/\i<=xs.length/\Pv D i ys H'/\∃o,σ'=o::σ,⟨xs.length,by simp,KW _,h0 D hD0,none,rfl⟩,?_⟩
 rintro i m ys σ' H' ⟨rfl,hi,p,o,rfl⟩;obtain⟨hDi,hly⟩:=hD _ _ _ _ p;have q:=hl _ _ _ _ p;refine⟨hDi,?_⟩;by_cases hlt:i<xs.length
 ·refine .inr ⟨⟨xs,xs[i],q,by simp[hlt]⟩,by lia,λx H2 y=>?_⟩
  obtain⟨rfl,y⟩:=y;unfold aL dh;dsimp only;rw[if_pos rfl];exact hs D i ys H2 x _ (y xs q) p λv H5 q1 q2=>⟨q1,xs.length-(i+1),by lia,rfl,hlt,q2,_,rfl⟩
 ·have e:i=xs.length:=by lia
  subst e;exact .inl ⟨⟨xs,q,KH _⟩,hd D ys H' p⟩
end
def JS(K:W.Frag)(mg:Str->Option Value)(x:Str):Prop:=∃p o,mg x=some (.ref p)/\K.lookup p=some o/\o.dict=none
section
variable {prog:Program} {w:World} {A:Around} {E:Value->Shared->Prop} {s:Shared}
structure EL (prog:Program) (w:World) (s:Shared) (vs:List Value) (κ:SortKind) (kz:Nat->Int) (h:Heap):Prop where
 kind:∀(A:Around) (E:Value->Shared->Prop) (Q:SortKind->Shared->Prop),2<=vs.length->Q κ {s with heap:=h}->wpAny (model prog w) A (keyKind' vs.toArray) Q E {s with heap:=h}
 lt:∀(A:Around) (C:Bool->Shared->Prop) (i j:Nat),i<vs.length->j<vs.length->C (decide (kz i<kz j)) {s with heap:=h}->kas_ask prog w A κ vs i j C {s with heap:=h}
theorem yb{a:Addr}{vs:List Value}{n:Nat}{κ:SortKind}{kz:Nat->Int}{P:Fin->Shared->Prop}(ho:s.heap.get? a=some (seqObj "list" vs.toArray n))(h64:vs.length<64)
  (hq:∀h',(∀b o,b≠a->s.heap.get? b=some o->h'.get? b=some o)->EL prog w s vs κ kz h')
  (h:∀p:Array Nat,p.toList.Perm (List.range vs.length)->p.toList.Pairwise (SP.R kz)->P (.done (.ret .none)) {s with heap:=sortedHeap s.heap a vs (List.toArray (p.toList.map λi=>vs.getD i Value.none))}) :
  wpAny (model prog w) A (Builtin.«list.sort» ⟨[.ref a],[]⟩) P E s:=by
 rw[list_sort_plain];have ha:a<s.heap.objs.size:=Lb ho;refine K4 (O8 ho rfl (K4 (Om ho rfl ?_)));obtain⟨e1,ho1⟩:∃e1,(s.heap.update a (Obj.mapSeq λ_=>#[])).get? a=some (seqObj "list" #[] e1):=⟨_,NG ho (λ_=>#[])⟩;refine K4 (seqEpoch_at ho1 rfl (K4 (Qm (K4 (NA (LP ?_))))));have up:∀b o,b≠a->s.heap.get? b=some o->(((s.heap.update a (Obj.mapSeq λ_=>#[])).push (seqObj "tuple" vs.toArray 0)).push (seqObj "list" #[] 0)).get? b=some o:=λb o hb e =>
  K9 _ (K9 _ ((Of _ _ (Mc hb)).trans e))
 have ho6:(((s.heap.update a (Obj.mapSeq λ_=>#[])).push (seqObj "tuple" vs.toArray 0)).push (seqObj "list" #[] 0)).get? a=some (seqObj "list" #[] e1):=K9 _ (K9 _ ho1);show wpAny (model prog w) A _ P E {s with heap:=((s.heap.update a (Obj.mapSeq λ_=>#[])).push (seqObj "tuple" vs.toArray 0)).push (seqObj "list" #[] 0)}
 dsimp only;have hs:=hq _ up;have hsz:vs.toArray.size=vs.length:=by simp
 by_cases h2:vs.toArray.size<2
 ·rw[if_pos h2,if_pos h2];refine wpAny_bind (wpAny_pure ?_);rw[StateT.run_pure];refine wpAny_bind (wpAny_pure ?_);dsimp only;refine wpAny_bind (seqEpoch_at ho6 rfl (wpAny_bind (listUpdate_at ho6 rfl ?_ (hsz2:=by rw[Array.size_map];show (pairsOf vs).size<=_;rw[pairsOf_size,sizeLine_eq];lia))))
  simp only[Pb,ML,MX];refine KR ?_;have hid:=h (List.toArray (List.range vs.length)) (List.Perm.refl _) (by
   rcases vs with _|⟨x,_|⟨y,r⟩⟩
   ·exact .nil
   ·simp
   ·exfalso;rw[hsz] at h2;simp only[KQ] at h2;lia)
  have e:(arrOf (SortSt.mk' general' (vs.toArray.zip vs.toArray) #[] 7 none)).map (·.2)=List.toArray ((List.toArray (List.range vs.length)).toList.map λi=>vs.getD i Value.none):=by
   show (vs.toArray.zip vs.toArray).map (·.2)=_;apply Ov.mp;rw[Array.toList_map,Array.toList_zip];show (vs.zip vs).map (·.2)=(List.range vs.length).map λi=>vs.getD i Value.none;rw[P2 (KH _)];refine MS λi=>?_;rw[K8];rcases LH i vs.length with c|c
   ·rw[Nc c,K1 c];simp[c]
   ·rw[LW.mpr c,LW.mpr (by rw[Lo];exact c)];rfl
  rw[e];exact hid
 ·rw[KJ h2,KJ h2];have h2':2<=vs.length:=by rw[hsz] at h2;lia
  refine K4 (hs.kind _ _ _ h2' ?_);refine K4 (LQ (kat_run (ks:=vs) (vs:=vs) (Q:=λst' s'=>s'={s with heap:=((s.heap.update a (Obj.mapSeq λ_=>#[])).push (seqObj "tuple" vs.toArray 0)).push (seqObj "list" #[] 0)}/\∃p:Array Nat,arrOf st'=p.map (kas_item (vs.toArray.zip vs.toArray))/\failedOf st'=none/\p.toList.Perm (List.range vs.length)/\p.toList.Pairwise (SP.R kz))
   (G:=λp s'=>s'={s with heap:=((s.heap.update a (Obj.mapSeq λ_=>#[])).push (seqObj "tuple" vs.toArray 0)).push (seqObj "list" #[] 0)}/\p.toList.Perm (List.range vs.length)/\p.toList.Pairwise (SP.R kz))
   rfl h2' h64 (λp st' s' a1 a2 a3 a4=>⟨a4.1,p,a2,a3,a4.2⟩) ?_) ?_ λ_ _ e=>e)
  ·refine SP.tO (k:=kz) (I:=λs'=>s'={s with heap:=((s.heap.update a (Obj.mapSeq λ_=>#[])).push (seqObj "tuple" vs.toArray 0)).push (seqObj "list" #[] 0)}) (λi j C s' hi hj hI hC=>?_) (by lia) rfl λp s' hp hr hI=>⟨hI,hp,hr⟩
   subst hI;exact hs.lt _ _ i j hi hj (hC _ rfl)
  rintro⟨⟨⟩,st'⟩ s' ⟨rfl,p,har,hf,hp,hr⟩;dsimp only;have esn:=kat_snds (ks:=vs) (vs:=vs) rfl har;have hl:(p.toList.map λi=>vs.getD i Value.none).length=vs.length:=by rw[List.length_map,hp.length_eq,List.length_range]
  refine K4 (seqEpoch_at ho6 rfl ?_);refine K4 (Om ho6 rfl ?_ (hsz2:=by show ((arrOf st').map (·.2)).size<=_;rw[esn,KC,hl,Mt];lia))
  rw[hf];simp only[Pb,ML,MX];rw[esn];exact KR (h p hp hr)
theorem tI{l:Addr}{vs:List Value}{κ:SortKind}{kz:Nat->Int}(hl:s.heap.IsList l vs.toArray)(h64:vs.length<64)(hq:∀h',(∀b o,s.heap.get? b=some o->h'.get? b=some o)->EL prog w s vs κ kz h')
  (h:∀p:Array Nat,p.toList.Perm (List.range vs.length)->p.toList.Pairwise (SP.R kz)->Q (.ref (s.heap.objs.size+1)) {s with heap:=sortedAll s.heap vs (List.toArray (p.toList.map λi=>vs.getD i Value.none))}) :
  wpAny (model prog w) A (call (.builtin "sorted") [.ref l]) Q E s:=by
 refine Pm kind_sorted plain_sorted entry_sorted (args_sorted1 _) ?_;unfold Builtin.«sorted»;refine K4 (m:=checkCount "sorted" 1 1 _) (KR (K4 (collect_list hl (K4 (NA ?_)))));have hsz:((s.heap.push (seqObj "list" #[] 0)).update s.heap.objs.size (Obj.mapSeq (·++vs.toArray))).objs.size=s.heap.objs.size+1:=by rw[Ou,size_push']
 have hoL:(((s.heap.push (seqObj "list" #[] 0)).update s.heap.objs.size (Obj.mapSeq (·++vs.toArray))).push (seqObj "list" vs.toArray 0)).get? (s.heap.objs.size+1)=some (seqObj "list" vs.toArray 0):=by rw[<- hsz];exact La _ rfl
 have keep:∀b o,s.heap.get? b=some o->(((s.heap.push (seqObj "list" #[] 0)).update s.heap.objs.size (Obj.mapSeq (·++vs.toArray))).push (seqObj "list" vs.toArray 0)).get? b=some o:=λb o q=>by
  have hlt:b<s.heap.objs.size:=Lb q;rw[Heap.get?_push_ne _ _ _ (by rw[hsz];exact Ll (Nx hlt)),Heap.get?_update_ne _ _ _ _ (Ll hlt),Heap.get?_push_ne _ _ _ (Ll hlt)]
  exact q
 show wpAny _ _ _ _ _ {s with heap:=((s.heap.push (seqObj "list" #[] 0)).update s.heap.objs.size (Obj.mapSeq (·++vs.toArray))).push (seqObj "list" vs.toArray 0)}
 rw[hsz];refine K4 (LP (LV slot_list_sort ⟨_,hoL,rfl⟩ entry_list_sort (yb (kz:=kz) (κ:=κ) (s:={s with heap:=((s.heap.push (seqObj "list" #[] 0)).update s.heap.objs.size (Obj.mapSeq (·++vs.toArray))).push (seqObj "list" vs.toArray 0)}) hoL h64 (λh' hk=>?_) λp a1 a2=>⟨_,rfl,?_⟩) (args_list_sort _)))
 ·have:=hq h' λb o e=>hk b o (Ll (Nx (Lb e))) (keep b o e);exact⟨this.kind,this.lt⟩
 ·exact KR ⟨_,rfl,h p a1 a2⟩
end
noncomputable def lexLt(x y:Int×Int):Bool:=decide (x.1<y.1\/(x.1=y.1/\x.2<y.2))
theorem m_{x:Int×Int}:lexLt x y=true ↔ (x.1<y.1\/(x.1=y.1/\x.2<y.2)):=decide_eq_true_iff
def rank(l:List (Int×Int))(x:Int×Int):Nat:=l.countP λy=>lexLt y x
def rk(l:List (Int×Int))(i:Nat):Int:=(rank l (l.getD i (0,0)):Nat)
theorem sF{l:List (Int×Int)}{p q:Int×Int->Bool}(h:∀z,p z=true->q z=true){x:Int×Int}:x∈l->p x=false->q x=true->l.countP p<l.countP q:=by
 induction l with
 |nil=>intro hx;cases hx
 |cons y l ih =>
  intro hx h1 h2;have hle:l.countP p<=l.countP q:=Qo λz _=>h z;rw[P5,P5];rcases KL.mp hx with rfl|hx
  ·rw[KJ (by rw[h1];exact KP),KO h2];lia
  ·have:=ih hx h1 h2
   cases hp:p y with
   |true=>rw[KO rfl,KO (h y hp)];lia
   |false=>rw[KJ KP];split<;>lia
theorem ve{l:List (Int×Int)}{x:Int×Int}(hx:x∈l)(hy:y∈l):decide (rank l x<rank l y)=lexLt x y:=by
 have irr:∀z,lexLt z z=false:=λz=>Lf (by lia)
 cases h:lexLt x y with
 |true =>
  refine Li (sF (λz hz=>?_) hx (irr x) h);rw[m_] at h hz ⊢;lia
 |false =>
  refine Lf (Pq.mpr (Qo λz _ hz=>?_));have h':¬ (x.1<y.1\/(x.1=y.1/\x.2<y.2)):=of_decide_eq_false h;rw[m_] at hz ⊢;lia
def As(h:Heap)(v:Value)(pr:Int×Int):Prop:=∃(a:Addr) (o:Obj) (n:Nat) (t u:Tok),v=.ref a/\h.get? a=some o/\o.cls=.type "tuple"/\o.data=.seq #[.int pr.1 t,.int pr.2 u] n
theorem qT:∀{vs:List Value} {prs:List (Int×Int)},Paired (As h) vs prs->∃fs,KatTups h vs fs/\fs.length=vs.length/\∀v∈fs,∃i t,v=Value.int i t
 |_,_,.nil=>⟨[],trivial,rfl,λ_ h=>by cases h⟩
 |_,_,.cons r t=>by
  obtain⟨a,o,n,t1,u,rfl,ho,hc,hd⟩:=r;obtain⟨fs,h1,h2,h3⟩:=qT t;refine⟨_::fs,⟨⟨a,o,_,n,rfl,ho,hc,hd,rfl⟩,h1⟩,by simp[h2],λv hv=>?_⟩
  rcases KL.mp hv with rfl|hv
  ·exact⟨_,_,rfl⟩
  ·exact h3 v hv
theorem Au{vs:List Value}(hp:Paired (As h) vs prs){i:Nat}(hi:i<vs.length):As h (vs.getD i .none) (prs.getD i (0,0))/\prs.getD i (0,0)∈prs:=by
 induction hp generalizing i with
 |nil=>cases hi
 |cons r t ih =>
  cases i with
  |zero=>exact⟨r,KG ..⟩
  |succ i =>
   obtain⟨h1,h2⟩:=ih (i:=i) (by simpa using hi)
   exact⟨h1,KI _ h2⟩
theorem vV{s:Shared}{vs:List Value}(hp:Paired (As h) vs prs):EL prog w s vs (tuples' true) (rk prs) h where
 kind:=λA E Q h2 q=>by
  obtain⟨fs,h1,h3,h4⟩:=qT hp;exact kat_kind (s:={s with heap:=h}) (T:=.type "int") h1 (by lia) (λv hv=>by obtain⟨i,t,rfl⟩:=h4 v hv;exact Looks.of_pure rfl) rfl q
 lt:=λA C i j hi hj q=>by
  obtain⟨⟨a,o,n,t,u,ea,ho,hc,hd⟩,mi⟩:=Au hp hi;obtain⟨⟨a',o',n',t',u',ea',ho',hc',hd'⟩,mj⟩:=Au hp hj;have e:=ve mi mj;have e':decide (rk prs i<rk prs j)=lexLt (prs.getD i (0,0)) (prs.getD j (0,0)):=by
   rw[<- e,MY];unfold rk;lia
  rw[e'] at q;clear e e' mi mj;unfold kas_ask;rw[ea,ea'];generalize prs.getD i (0,0)=x at *;generalize prs.getD j (0,0)=y at *;refine kat_lt (s:={s with heap:=h}) ho hd ho' hd' ?_
  show KatLex prog w A true _ C [(.int x.1 t,.int y.1 t'),(.int x.2 u,.int y.2 u')] 0 _;refine kat_cons (Pu ?_)
  cases c1:(x.1 == y.1) with
  |false =>
   refine kat_no ?_;have h1:x.1≠y.1:=LJ.mp c1;have e1:lexLt x y=decide (x.1<y.1):=by unfold lexLt;rw[MY];lia
   rw[e1] at q;exact oneLt_int q
  |true =>
   refine kat_yes (kat_cons (Pu ?_));have h1:x.1=y.1:=eq_of_beq c1;have e1:lexLt x y=decide (x.2<y.2):=by unfold lexLt;rw[MY];lia
   rw[e1] at q
   cases c2:(x.2 == y.2) with
   |false =>
    refine kat_no ?_;show wpAny (model prog w) A (oneLt' false (.int x.2 u) (.int y.2 u')) C _ _;exact kat_one _ _ (lt_int q)
   |true =>
    have h2:x.2=y.2:=eq_of_beq c2;refine kat_yes (kat_nil ?_);rw[Lf (by lia)] at q
    exact q
def Ja(l:List (Int×Int)):Prop:=l.Pairwise λx y=>lexLt y x=false
theorem Hr{ix:List Nat}(hp:ix.Perm (List.range prs.length))(hr:ix.Pairwise (SP.R (rk prs))):(ix.map λi=>prs.getD i (0,0)).Perm prs/\Ja (ix.map λi=>prs.getD i (0,0)):=by
 have e:(List.range prs.length).map (λi=>prs.getD i (0,0))=prs:=by
  refine MS λi=>?_;rw[K8];rcases LH i prs.length with c|c
  ·rw[Nc c,K1 c];simp[c]
  ·rw[LW.mpr c,LW.mpr (by rw[Lo];exact c)];rfl
 refine⟨?_,MA.mpr (hr.imp_of_mem λ{i j} hi hj h=>?_)⟩
 ·have:=hp.map λi=>prs.getD i (0,0);rw[e] at this;exact this
 ·have mem:∀i∈ix,prs.getD i (0,0)∈prs:=λi hi=>by
   have hl:=LA.mp (hp.mem_iff.mp hi);rw[KD,K1 hl];exact KZ hl
  rw[<- ve (mem j hj) (mem i hi)];have:=h.le;unfold rk at this;exact Lf (by lia)
namespace Y
def HI(H:Hp)(v:V)(p:Int×Int):Prop:=∃q,v=.ref q/\H q=some (.tup [.int p.1,.int p.2])
def GI(K:W.Frag):List V->Hp->VK->Prop:=λxs H Q=>∃p vs prs,xs=[.ref p]/\a_ K H p vs/\Paired (HI H) vs prs/\prs.length<64/\∀ix:List Nat,ix.Perm (List.range prs.length)->Ja (ix.map λi=>prs.getD i (0,0))->∀l,H l=none->Q (.ref l) (upd H l (.lst (ix.map λi=>vs.getD i .aO)))
theorem zQ{pins:List (Addr×Obj)}{σ:St}{s:Shared}(I:Inv X pins σ H s):∀{vs:List V} {its:List Value} {prs:List (Int×Int)},Vals vs its->Paired (HI H) vs prs->Paired (As s.heap) its prs
 |_,_,_,.nil,.nil=>.nil
 |_,_,_,.cons r t,.cons r' t'=>by
  refine .cons ?_ (zQ I t t');obtain⟨q,rfl,hq⟩:=r';have e:_=Value.ref q:=r;subst e;obtain⟨_,ts,tv,o,e1,c,n,d,_⟩:=(show bw X.prog X.w H s.heap q (.tup _) from I.bg q _ hq);obtain⟨u,w',rfl,⟨t1,rfl⟩,⟨t2,rfl⟩⟩:=vals2 tv;exact⟨q,o,n,t1,t2,rfl,e1,c,d⟩
theorem uP{vs:List V}{its:List Value}(h:Vals vs its):∀ix:List Nat,(∀i∈ix,i<vs.length)->Vals (ix.map λi=>vs.getD i .aO) (ix.map λi=>its.getD i Value.none)
 |[],_=>.nil
 |i::ix,hi=>by
  refine .cons ?_ (uP h ix λj hj=>hi j (KI _ hj));have hl:=hi i (KG ..);obtain⟨u,e,r⟩:=Vals.get h (K1 hl);show RelV (vs.getD i .aO) (its.getD i Value.none);rw[KD,KD,K1 hl,e];exact r
theorem sA(K:W.Frag)(hK:X.K=K):bt X (.builtin "sorted") (GI K):=by
 subst hK;intro pins s σ H xs us Q I r h;obtain⟨p,vs,prs,rfl,hq,hp,h64,q⟩:=h;obtain⟨u,rfl,ru⟩:=vals1 r;cases ru;obtain⟨its,rv,pl,hz⟩:=I.list hq;have hpa:=zQ I rv hp;have l1:its.length=prs.length:=Paired.length hpa;have l2:vs.length=prs.length:=Paired.length hp;refine tI (κ:=tuples' true) (kz:=rk prs) pl.isList (by lia) (λh' hk=>vV (Paired.Cp hpa λa b ⟨x,o,n,t,u,e,ho,r⟩=>⟨x,o,n,t,u,e,hk _ _ ho,r⟩)) λpx a1 a2=>?_
 rw[l1] at a1;obtain⟨e,he⟩:=sortedAll_at s.heap its (List.toArray (px.toList.map λi=>its.getD i Value.none));refine⟨.ref (s.heap.objs.size+1),_,I.laid (t':=s.toks) (λb ob q=>sortedAll_old q) (M0 _) (show bw X.prog X.w _ _ _ (.lst (px.toList.map λi=>vs.getD i .aO)) from⟨?_,_,e,uP rv px.toList (λi hi=>by rw[l2];exact LA.mp (a1.mem_iff.mp hi)),by simpa using he⟩),rfl,q px.toList a1 (Hr a1 a2).2 _ (I.bg.fresh (M0 _))⟩
 rw[K2,a1.length_eq,Lo];exact KA (M1 h64) (by decide)
end Y
def vG(d:Addr)(o:Obj)(kvs:List (Key×V)):It:=⟨λi H=>H d=some (.i9 o (.dK kvs))/\i<kvs.length,λi H x H'=>H'=H/\∃p,kvs[i]?=some p/\x=kV p.1,λi H=>H d=some (.i9 o (.dK kvs))/\i=kvs.length⟩
open Builtin Builtin.Str
open PySem PySem.Spec PyProof PyProof.Rows
open Builtin Builtin.Str
open PySem PySem.Spec PyProof PyProof.Rows
open PySem PySem.Spec PyProof PyProof.Rows PySem.W
open PySem PySem.Calls PySem.NumText PySem.Spec PyProof PyProof.Rows
variable{cs:List Nat}{E Q:Value->Shared->Prop}{x:PySem.Str}{P prog:Program}{w:World}{X:Cx}{i:Nat}{h h':Heap}{xs:List V}{β:Type}{K:W.Frag}{es ifs:List Expr}{a:Addr}{σ:St}{H:Hp}{ta:TA}{p:Pos}{e iter:Expr}{osc scope:Scope}{N ON own:List Str}
noncomputable def kW(cs:List Nat):Nat:=cs.foldl (λa c=>a*2+(c-48)) 0
def dX(cs:List Nat):Prop:=∀c∈cs,c=48\/c=49
theorem IC{c:Nat}(h:c=48\/c=49)(ds:Array Nat)(b:Bool):step 2 (ds,b) c=some (ds.push (c-48),true):=by
 rcases h with rfl|rfl<;>rfl
theorem DS:∀(cs:List Nat) (ds:Array Nat) (b:Bool),dX cs->∃ds':Array Nat,cs.foldlM (step 2) (ds,b)=some (ds',b || !cs.isEmpty)/\ds'.foldl (λa d=>a*2+d) 0=cs.foldl (λa c=>a*2+(c-48)) (ds.foldl (λa d=>a*2+d) 0)
 |[],ds,b,_=>⟨ds,by simp,rfl⟩
 |c::cs,ds,b,h=>by
  obtain⟨ds',e1,e2⟩:=DS cs (ds.push (c-48)) true λx hx=>h x (KI _ hx);refine⟨ds',?_,?_⟩
  ·rw[List.foldlM_cons,IC (h c KG)];show cs.foldlM (step 2) (ds.push (c-48),true)=_;rw[e1];simp
  ·rw[e2,Array.foldl_push,O5]
theorem wL{c:Nat}(h:c=48\/c=49):blank c=false:=by rcases h with rfl|rfl<;>rfl
theorem pT(h:dX cs):cs.dropWhile blank=cs:=by
 cases cs with
 |nil=>rfl
 |cons c cs=>rw[ND,wL (h c KG)];rfl
theorem yx(h:dX cs):sign cs=(false,cs):=by
 cases cs with
 |nil=>rfl
 |cons c cs=>rcases h c KG with rfl|rfl<;>rfl
theorem wg(h:dX cs):based 2 cs=(2,false,cs):=by
 have e:PySem.NumText.prefix? cs=none:=by
  rcases cs with _|⟨c,_|⟨d,cs⟩⟩
  ·rfl
  ·rcases h c KG with rfl|rfl<;>rfl
  ·rcases h c KG with rfl|rfl
   ·rcases h d (KI _ KG) with rfl|rfl<;>rfl
   ·rfl
 unfold based;rw[e];rfl
theorem A6{cs:List Nat}(h:dX cs)(h0:cs≠[]):(int_private% "readNumeral") 0 2 cs=(int_private% "Numeral.value") (kW cs:Int):=by
 rw[readNumeral_eq,pT h,yx h];show judge 0 false (based 2 cs).1 (based 2 cs).2.1 (digits? (based 2 cs).1 (((based 2 cs).2.2.reverse.dropWhile blank).reverse))=_;rw[wg h];show judge 0 false 2 false (digits? 2 ((cs.reverse.dropWhile blank).reverse))=_;rw[pT (cs:=cs.reverse) (λc hc=>h c (MH.mp hc)),N6];obtain⟨ds,e1,e2⟩:=DS cs #[] false h;have e3:digits? 2 cs=some ds:=by
  unfold digits?;rw[e1]
  cases cs with
  |nil=>exact absurd rfl h0
  |cons=>rfl
 rw[e3];show (int_private% "Numeral.value") ((ds.foldl (λacc d=>acc*2+d) 0:Nat):Int)=_;rw[e2];rfl
theorem pK:∀{cs:List Nat},dX cs->cs.takeWhile (· != 0)=cs
 |[],_=>rfl
 |c::cs,h=>by
  rw[OE,show (c != 0)=true by rcases h c KG with rfl|rfl<;>rfl,KO rfl,pK λx hx=>h x (KI _ hx)]
theorem zo{M:Model}{A:Around}{s:Shared}{v:Value}{text:List Nat}{n:Int}
  (hs:(text.takeWhile (· != 0)).length<=640) (hr:(int_private% "readNumeral") 0 2 (text.takeWhile (· != 0))=(int_private% "Numeral.value") n)
  (ha:((text.takeWhile (· != 0)).length == text.length)=true) (h:Q (.int n s.toks) {s with toks:=s.toks+1}) :
  wpAny M A ((int_private% "intFromText") v text 2) Q E s:=by
 obtain⟨hp,g,d,tk,os⟩:=s
 repeat (any_goals (first
  |assumption
  | (with_reducible refine OO (Li hs) ?_)
  | (with_reducible refine OO (Li ha) ?_)
  |wp_step))
 all_goals (try rw[hr])
 all_goals (try dsimp only)
 repeat (any_goals (first
  |assumption
  | (with_reducible refine OO (Li hs) ?_)
  | (with_reducible refine OO (Li ha) ?_)
  |wp_step))
theorem qZ{u t:Tok}(hl:x.length<=640)(hb:dX x.cps.toList)(h0:x.cps.toList≠[]):Gives (Builtin.«int.__new__» ⟨[.type "int",.str x u,.int 2 t],[]⟩) (.int (kW x.cps.toList)):=
 .of_wp λM A E s Q h=>by
  obtain⟨hp,g,d,tk,os⟩:=s;have f1:=F.conv_sub_int;have f2:=F.madeHere_int;have f6:typeOf (.str x u)=pure (.type "str"):=rfl;have ht:x.cps.all (· < 128)=true:=by
   rw[<- Array.all_toList,Mw];intro c hc;rcases hb c hc with rfl|rfl<;>rfl
  have hs:=pK hb;have hk:=W.KIN.Hid.mk (And.intro (show (x.cps.toList.takeWhile (· != 0)).length<=640 by rw[hs];exact hl) (And.intro (show (int_private% "readNumeral") 0 2 (x.cps.toList.takeWhile (· != 0))=(int_private% "Numeral.value") (kW x.cps.toList:Int) by rw[hs];exact A6 hb h0) (show ((x.cps.toList.takeWhile (· != 0)).length == x.cps.toList.length)=true by rw[hs];simp)))
  clear hs hl hb h0
  repeat (any_goals (first
   |assumption
   | ((with_reducible show wpAny _ _ ((int_private% "intFromText") _ _ _) _ _ _);(try rw[KO ht]);refine zo hk.out.1 hk.out.2.1 hk.out.2.2 ?_)
   |wp_step))
  all_goals first|exact⟨_,rfl,h⟩|skip
theorem kj(a b:Value):checkTypeCall "int" ⟨[a,b],[]⟩=pure ():=by kernel_rfl
theorem lY(a b:Value):checkBuiltinCall "int.__new__" ⟨[.type "int",a,b],[]⟩=pure ():=by kernel_rfl
theorem tB{A:Around}{s:Shared}{u t:Tok}(hl:x.length<=640)(hb:dX x.cps.toList)(h0:x.cps.toList≠[])(h:Q (.int (kW x.cps.toList) s.toks) {s with toks:=s.toks+1}):wpAny (model prog w) A (call (.type "int") [.str x u,.int 2 t]) Q E s:=
 P1 F.called_int F.newNe_int (kj _ _) (lY _ _) (λobj=>F.args_object_init_3 obj _ _) F.entry_int_new (qZ hl hb h0).meets (show (Made.int _).post _ s from⟨rfl,h⟩)
def En:List V->Hp->VK->Prop:=λxs H Q=>∃z:Str,xs=[.str z,.int 2]/\z.length<=640/\dX z.cps.toList/\z.cps.toList≠[]/\Q (.int (kW z.cps.toList)) H
theorem mJ:bt X (.type "int") En:=by
 intro pins s σ H xs us Q I r h;obtain⟨z,rfl,h1,h2,h3,q⟩:=h;obtain⟨u,v,rfl,⟨t,rfl⟩,⟨t',rfl⟩⟩:=vals2 r;exact tB h1 h2 h3 ⟨.int _,H,I.tok _,⟨_,rfl⟩,q⟩
abbrev Src:=Bool×Addr×Addr
variable{q:Src}
abbrev fI(h:Heap)(T:Addr)(xs:List Value):Prop:=h.get? T=some {cls:=.type "tuple",data:=.seq xs.toArray}
structure Zn (z TI TO:Addr) (S:List Src):Prop where
 zt:TI≠z/\TO≠z/\TI≠TO
 it:∀q∈S,q.2.1≠z/\q.2.1≠TI/\q.2.1≠TO
 sr:∀q∈S,q.2.2≠z/\q.2.2≠TO/\∀p∈S,q.2.2≠p.2.1
 nd:(S.map λq=>q.2.1).Nodup
def r9(i:Nat)(h:Heap)(q:Src):Prop:=lu q.1 h q.2.1 q.2.2 i
def DV(h:Heap)(q:Src)(xs:Array Value):Prop:=cw q.1 h q.2.2 xs
theorem r9.kp(x:r9 i h q)(k:∀o,h.get? q.2.1=some o->h'.get? q.2.1=some o):r9 i h' q:=by
 obtain⟨b,it,a⟩:=q
 cases b with
 |true=>obtain⟨o,e,r⟩:=(show h.IsListIter it a i from x);exact⟨o,k o e,r⟩
 |false=>obtain⟨o,e,r⟩:=(show h.IsTupleIter it a i from x);exact⟨o,k o e,r⟩
theorem DV.kp{xs:Array Value}(x:DV h q xs)(k:∀o,h.get? q.2.2=some o->h'.get? q.2.2=some o):DV h' q xs:=by
 obtain⟨b,it,a⟩:=q
 cases b with
 |true=>obtain⟨o,e,r⟩:=(show h.IsList a xs from x);exact⟨o,k o e,r⟩
 |false=>obtain⟨o,e,r⟩:=(show h.IsTuple a xs from x);exact⟨o,k o e,r⟩
def qJ(i:Nat)(h:Heap)(q:Src)(u:Value):Prop:=r9 i h q/\∃xs,DV h q xs/\xs[i]?=some u
theorem qJ.kp{u:Value}(x:qJ i h q u)(k:∀c o,c=q.2.1\/c=q.2.2->h.get? c=some o->h'.get? c=some o):qJ i h' q u:=⟨x.1.kp λo=>k _ o (.inl rfl),let ⟨xs,a,b⟩:=x.2;⟨xs,a.kp λo=>k _ o (.inr rfl),b⟩⟩
section
variable {prog:Program} {w:World} {A:Around} {E:Value->Shared->Prop} {z TI TO:Addr} {S:List Src} {i:Nat}
def Step(prog:Program)(w:World)(A:Around)(E:Value->Shared->Prop)(z TI TO:Addr)(S:List Src)(i:Nat)(f:Value×Nat->β->Sem (ForInStep β))(b:β):Prop:=
 ∀q∈S,∀(j:Nat) (arr:List Value) (u:Value) (s:Shared) (Q:ForInStep β->Shared->Prop),IsZip s.heap z TI TO .ellipsis->fI s.heap TO arr->arr.length<=3->qJ i s.heap q u ->
  (∀h' tk,fI h' TO (arr.set j u)->r9 (i+1) h' q->(∀c o,c≠TO->c≠q.2.1->s.heap.get? c=some o->h'.get? c=some o)->h'.objs.size=s.heap.objs.size->Q (.yield b) {s with heap:=h',toks:=tk})->wpAny (model prog w) A (f (.ref q.2.1,j) b) Q E s
theorem Dp(D:Zn z TI TO S){f:Value×Nat->β->Sem (ForInStep β)}{b:β}(hf:Step prog w A E z TI TO S i f b):
  ∀(todo:List Src) (us pre old:List Value) (s:Shared) (Q:β->Shared->Prop),(∀q∈todo,q∈S)->(todo.map λq=>q.2.1).Nodup->IsZip s.heap z TI TO .ellipsis->fI s.heap TO (pre++old)->(pre++old).length<=3->old.length=todo.length->Paired (qJ i s.heap) todo us ->
  (∀h' tk,IsZip h' z TI TO .ellipsis->fI h' TO (pre++us)->(∀q∈todo,r9 (i+1) h' q)->(∀c o,c≠TO->(∀q∈todo,c≠q.2.1)->s.heap.get? c=some o->h'.get? c=some o)->h'.objs.size=s.heap.objs.size->Q b {s with heap:=h',toks:=tk}) ->
  wpAny (model prog w) A (forIn ((todo.map λq=>Value.ref q.2.1).zipIdx pre.length) b f) Q E s:=by
 intro todo
 induction todo with
 |nil =>
  intro us pre old s Q _ _ hz ht _ hl dr k;obtain rfl:=Paired.sY dr;have e:old=[]:=MG.mp hl;subst e;rw[MK,List.zipIdx_nil,List.forIn_nil];exact KR (k s.heap s.toks hz ht (λq hq=>(nomatch hq)) (λc o _ _ h=>h) rfl)
 |cons q todo ih =>
  intro us pre old s Q hm nd hz ht hn hl dr k;obtain⟨u,us,rfl,du,dr⟩:=Paired.dI dr
  cases old with
  |nil=>cases hl
  |cons o old =>
   rw[Lp,Mm] at nd;have hq:=hm q KG;rw[Lp,P6,Nn];refine K4 (hf q hq pre.length _ u s _ hz ht hn du λh1 tk t1 a1 kp sz=>?_);rw[O1 _ _ (KH _),LU,NR,<- Qp,<- Ld] at t1;have di:=D.it q hq;have z1:IsZip h1 z TI TO .ellipsis:=kp _ _ D.zt.2.1.symm di.1.symm hz;show wpAny _ _ (forIn _ b f) _ _ _;rw[show pre.length+1=(pre++[u]).length by rw[K6];rfl]
   refine ih us (pre++[u]) old {s with heap:=h1,toks:=tk} Q (λp hp=>hm p (KI _ hp)) nd.2 z1 t1 (by rw[Ld,K6] at *;exact hn) (Nat.succ.inj hl) ?_ λh2 tk2 z2 t2 a2 kp2 sz2=>?_
   ·have key:∀{l:List Src} {vs:List Value},(∀p∈l,p∈q::todo)->(∀p∈l,p.2.1≠q.2.1)->Paired (qJ i s.heap) l vs->Paired (qJ i h1) l vs:=λ{l}=>by
     induction l with
     |nil=>intro vs _ _ h;obtain rfl:=Paired.sY h;exact .nil
     |cons p l ihl =>
      intro vs hp hne h;obtain⟨v,vs,rfl,dv,h⟩:=Paired.dI h;have hpS:=hm p (hp p KG);refine .cons (dv.kp λc o hc e=>?_) (ihl (λx hx=>hp x (KI _ hx)) (λx hx=>hne x (KI _ hx)) h);rcases hc with rfl|rfl
      ·exact kp _ _ (D.it p hpS).2.2 (hne p KG) e
      ·exact kp _ _ (D.sr p hpS).2.1 ((D.sr p hpS).2.2 q hq) e
    exact key (λp hp=>KI _ hp) (λp hp e=>nd.1 (by rw[<- e];exact Mj (f:=λq:Src=>q.2.1) hp)) dr
   ·refine k h2 tk2 z2 (by rw[Ld] at t2;exact t2) (λp hp=>?_) (λc o c1 c2 e=>kp2 c o c1 (λp hp=>c2 p (KI _ hp)) (kp c o c1 (c2 q KG) e)) (sz2.trans sz)
    rcases KL.mp hp with rfl|hp
    ·exact a1.kp λo e=>kp2 _ o di.2.2 (λx hx e2=>nd.1 (by rw[e2];exact Mj (f:=λq:Src=>q.2.1) hx)) e
    ·exact a2 p hp
def IM(prog:Program)(w:World)(A:Around)(E:Value->Shared->Prop)(z TI TO:Addr)(S:List Src)(i:Nat)(f:Value×Nat->β->Sem (ForInStep β))(b:β):Prop:=
 ∀q∈S,∀(j:Nat) (s:Shared) (Q:ForInStep β->Shared->Prop),IsZip s.heap z TI TO .ellipsis->r9 i s.heap q->(∃xs:Array Value,DV s.heap q xs/\xs.size=i) ->
  (∀h' e tk,(∀c o,c≠z->c≠q.2.1->s.heap.get? c=some o->h'.get? c=some o)->(∃o,h'.get? e=some o/\o.cls=.type "StopIteration")->E (.ref e) {s with heap:=h',toks:=tk})->wpAny (model prog w) A (f (.ref q.2.1,j) b) Q E s
theorem BZ(D:Zn z TI TO S){f:Value×Nat->β->Sem (ForInStep β)}{b:β}(hf:Step prog w A E z TI TO S i f b)(he:IM prog w A E z TI TO S i f b){r:List Src}:
  ∀(a:List Src) (us pre old:List Value) (s:Shared) (Q:β->Shared->Prop),(∀p∈a++q::r,p∈S)->((a++q::r).map λq=>q.2.1).Nodup->IsZip s.heap z TI TO .ellipsis->fI s.heap TO (pre++old)->(pre++old).length<=3->a.length<old.length->Paired (qJ i s.heap) a us->r9 i s.heap q->(∃xs:Array Value,DV s.heap q xs/\xs.size=i) ->
  (∀h' e tk,(∀c o,c≠z->c≠TO->(∀q∈S,c≠q.2.1)->s.heap.get? c=some o->h'.get? c=some o)->(∃o,h'.get? e=some o/\o.cls=.type "StopIteration")->E (.ref e) {s with heap:=h',toks:=tk}) ->
  wpAny (model prog w) A (forIn (((a++q::r).map λq=>Value.ref q.2.1).zipIdx pre.length) b f) Q E s:=by
 intro a
 induction a with
 |nil =>
  intro us pre old s Q hm nd hz ht hn hl dr hi hx k;have hq:=hm q KG;rw[L_,Lp,P6,Nn];exact K4 (he q hq _ s _ hz hi hx λh' e tk kp ho=>k h' e tk (λc o c1 _ c3 x=>kp c o c1 (c3 q hq) x) ho)
 |cons p a ih =>
  intro us pre old s Q hm nd hz ht hn hl dr hi hx k;obtain⟨u,us,rfl,du,dr⟩:=Paired.dI dr
  cases old with
  |nil=>exact absurd hl (Nr _)
  |cons o old =>
   rw[Me,Lp,Mm] at nd;have hp:=hm p KG;rw[Me,Lp,P6,Nn];refine K4 (hf p hp pre.length _ u s _ hz ht hn du λh1 tk t1 a1 kp sz=>?_);rw[O1 _ _ (KH _),LU,NR,<- Qp,<- Ld] at t1;have z1:IsZip h1 z TI TO .ellipsis:=kp _ _ D.zt.2.1.symm (D.it p hp).1.symm hz;have ne:∀x∈a++q::r,x.2.1≠p.2.1:=λx hx e=>nd.1 (by rw[<- e];exact Mj (f:=λq:Src=>q.2.1) hx)
   have up:∀x∈a++q::r,∀c o,c=x.2.1\/c=x.2.2->s.heap.get? c=some o->h1.get? c=some o:=λx hx c o hc e=>by
    have hxS:=hm x (KI _ hx);rcases hc with rfl|rfl
    ·exact kp _ _ (D.it x hxS).2.2 (ne x hx) e
    ·exact kp _ _ (D.sr x hxS).2.1 ((D.sr x hxS).2.2 p hp) e
   have hqm:q∈a++q::r:=Lh _ KG;show wpAny _ _ (forIn _ b f) _ _ _;rw[show pre.length+1=(pre++[u]).length by rw[K6];rfl]
   refine ih us (pre++[u]) old {s with heap:=h1,toks:=tk} Q (λx hx=>hm x (KI _ hx)) nd.2 z1 t1 (by rw[Ld,K6] at *;exact hn) (Qc hl) ?_ (hi.kp λo=>up q hqm _ o (.inl rfl)) (let ⟨xs,x1,x2⟩:=hx;⟨xs,x1.kp λo=>up q hqm _ o (.inr rfl),x2⟩) λh2 e tk2 kp2 ho=>k h2 e tk2 (λc o c1 c2 c3 x=>kp2 c o c1 c2 c3 (kp c o c2 (c3 p hp) x)) ho
   have key:∀{l:List Src} {vs:List Value},(∀x∈l,x∈a)->Paired (qJ i s.heap) l vs->Paired (qJ i h1) l vs:=λ{l}=>by
    induction l with
    |nil=>intro vs _ h;obtain rfl:=Paired.sY h;exact .nil
    |cons y l ihl =>
     intro vs hy h;obtain⟨v,vs,rfl,dv,h⟩:=Paired.dI h;exact .cons (dv.kp (up y (M4 _ (hy y KG)))) (ihl (λx hx=>hy x (KI _ hx)) h)
   exact key (λx h=>h) dr
theorem Cs(D:Zn z TI TO S){f:Value×Nat->β->Sem (ForInStep β)}{b:β}(hf:Step prog w A E z TI TO S i f b)(he:IM prog w A E z TI TO S i f b){old:List Value}{s:Shared}{Q:β->Shared->Prop}(hz:IsZip s.heap z TI TO .ellipsis)(ht:fI s.heap TO old)(hn:old.length<=3)(hl:old.length=S.length)
  (hh:(∃us,Paired (qJ i s.heap) S us/\∀h' tk,IsZip h' z TI TO .ellipsis->fI h' TO us->(∀q∈S,r9 (i+1) h' q)->(∀c o,c≠TO->(∀q∈S,c≠q.2.1)->s.heap.get? c=some o->h'.get? c=some o)->h'.objs.size=s.heap.objs.size->Q b {s with heap:=h',toks:=tk}) \/
   ∃a q r us,S=a++q::r/\Paired (qJ i s.heap) a us/\r9 i s.heap q/\(∃xs:Array Value,DV s.heap q xs/\xs.size=i)/\∀h' e tk,(∀c o,c≠z->c≠TO->(∀q∈S,c≠q.2.1)->s.heap.get? c=some o->h'.get? c=some o)->(∃o,h'.get? e=some o/\o.cls=.type "StopIteration")->E (.ref e) {s with heap:=h',toks:=tk}) :
  wpAny (model prog w) A (forIn ((S.map λq=>Value.ref q.2.1).zipIdx) b f) Q E s:=by
 rcases hh with ⟨us,dr,k⟩|⟨a,q,r,us,rfl,dr,hi,hx,k⟩
 ·exact Dp D hf S us [] old s Q (λq h=>h) D.nd hz ht hn hl dr k
 ·exact BZ D hf he a us [] old s Q (λq h=>h) D.nd hz ht hn (by rw[show old.length=_ from hl,K6,KQ];lia) dr hi hx k
theorem Iy{s:Shared}{T:Addr}{xs:List Value}{x:Value}{k:Nat}{Q:Unit->Shared->Prop}(hT:fI s.heap T xs)(hn:xs.length<=3)
  (h:∀h',fI h' T (xs.set k x)->Heap.SameBut T s.heap h'->Q () {s with heap:=h'}) :
  wpAny (model prog w) A (updateSeq T (·.setIfInBounds k x)) Q E s:=by
 refine wpAny_updateSeq (hz:=by rw[KC];exact KA hn (by decide)) (_hz':=by rw[Array.size_setIfInBounds,KC];exact KA hn (by decide)) hT rfl (h _ ?_ (Mi ..))
 show Heap.get? _ _=_;rw[Nz _ hT rfl];simp[Obj.mapSeq]
theorem ib{α:Type}{P:α->β->Prop}{l:List α}{vs:List β}(h:Paired P l vs):vs.length=l.length:=by
 induction h with
 |nil=>rfl
 |cons _ _ ih=>exact Lw (·+1) ih
theorem uJ{g:Heap}{l:List Src}{vs:List Value}(k:∀q∈l,∀c o,c=q.2.1\/c=q.2.2->h.get? c=some o->g.get? c=some o)(r:Paired (qJ i h) l vs):Paired (qJ i g) l vs:=by
 induction r with
 |nil=>exact .nil
 |cons d _ ih=>exact .cons (d.kp (k _ KG)) (ih λq hq=>k q (KI _ hq))
theorem H_{s:Shared}{old:List Value}(D:Zn z TI TO S)(hS:S≠[])(hA:A.handled=none)(hz:IsZip s.heap z TI TO .none)(hTI:fI s.heap TI (S.map λq=>.ref q.2.1))(hTO:fI s.heap TO old)(hl:old.length=S.length)(hn:S.length<=3)
  (hh:(∃us,Paired (qJ i s.heap) S us/\∀h' tk,IsZip h' z TI TO (rawInt s.heap.objs.size)->fI h' TO us->(∀q∈S,r9 (i+1) h' q)->fI h' s.heap.objs.size us->(∀c o,c≠z->c≠TO->(∀q∈S,c≠q.2.1)->s.heap.get? c=some o->h'.get? c=some o)->Q (.ref s.heap.objs.size) {s with heap:=h',toks:=tk}) \/
   ∃a q r us,S=a++q::r/\Paired (qJ i s.heap) a us/\r9 i s.heap q/\(∃xs:Array Value,DV s.heap q xs/\xs.size=i)/\∀h' e tk,(∀c o,c≠z->c≠TO->(∀q∈S,c≠q.2.1)->s.heap.get? c=some o->h'.get? c=some o)->(∃o,h'.get? e=some o/\o.cls=.type "StopIteration")->E (.ref e) {s with heap:=h',toks:=tk}) :
  wpAny (model prog w) A (Builtin.«zip.__next__» ⟨[.ref z],[]⟩) (λfin s'=>∃v,fin=.done (.ret v)/\Q v s') E s:=by
 obtain⟨q0,S',rfl⟩:=List.exists_cons_of_ne_nil hS;have zrec:=hz;show wpAny _ _ (field (.ref z) 2 >>= _) _ _ _;refine K4 (Nv zrec rfl (x:=.bool false) rfl ?_);show wpAny _ _ (field (.ref z) 3 >>= _) _ _ _;refine K4 (Nv zrec rfl (x:=.ref TI) rfl ?_);refine K4 (N1 hTI rfl ?_);show wpAny _ _ (Builtin.SmallTypes.ownedTupleIsFree (.ref z) >>= _) _ _ _;refine K4 ?_;unfold Builtin.SmallTypes.ownedTupleIsFree;refine K4 (Nv zrec rfl (x:=.none) rfl (KR ?_));simp only[MV];refine K4 (Pj ?_);refine K4 (Nv zrec rfl (x:=.ref TO) rfl ?_);refine K4 (NS zrec (by simp) λg1 zr1 sb1=>?_)
 replace zr1:IsZip g1 z TI TO .ellipsis:=zr1
 refine K4 ?_;have old3:∀q∈q0::S',∀c o,c=q.2.1\/c=q.2.2->s.heap.get? c=some o->g1.get? c=some o:=λq hq c o hc e=>by
  rcases hc with rfl|rfl
  ·exact sb1.extBut _ _ (D.it q hq).1 e
  ·exact sb1.extBut _ _ (D.sr q hq).1 e
 refine Cs D (i:=i) ?hf ?he (old:=old) zr1 (sb1.extBut _ _ D.zt.2.1 hTO) (by lia) hl (hh.imp (λ⟨us,dr,hQ⟩=>⟨us,uJ old3 dr,?k⟩) λ⟨a,q,r,us,eS,dr,hi,hx,hE⟩=>⟨a,q,r,us,eS,uJ (λp hp=>old3 p (by rw[eS];exact M4 _ hp)) dr,hi.kp λo=>old3 q (by rw[eS];exact Lh _ KG) _ o (.inl rfl),(let ⟨xs,x1,x2⟩:=hx;⟨xs,x1.kp λo=>old3 q (by rw[eS];exact Lh _ KG) _ o (.inr rfl),x2⟩),λh' e tk kp ho=>hE h' e tk (λc o c1 c2 c3 x=>kp c o c1 c2 c3 (sb1.extBut _ _ c1 x)) ho⟩)
 case hf =>
  intro q hq j arr u s1 Q1 hz1 ht1 hn1 d1 k1;obtain⟨hi,xs,hx,hu⟩:=d1;refine K4 (wpAny_onRaise ?_);show wpAny _ _ (Builtin.SmallTypes.nextOf (.ref q.2.1) >>= _) _ _ _;have lt:i<xs.size:=(MR.mp hu).1;refine K4 ((vp q.1 hA q.2.1 q.2.2 ((D.sr q hq).2.2 q hq) xs).item i _ _ _ lt ⟨hi,hx⟩ λx g2 tk2 px st2 sb2=>KR ?_);have ex:x=u:=by rw[hu] at px;exact (Option.some.inj px).symm
  subst ex;have to2:fI g2 TO arr:=sb2.extBut _ _ (D.it q hq).2.2.symm ht1;refine K4 (N1 to2 rfl ?_);refine K4 (Iy to2 hn1 λg3 to3 sb3=>?_);refine K4 (wpAny_letGo (KR ?_));exact k1 g3 _ to3 (r9.kp (q:=q) st2.1 λo e=>sb3.extBut _ _ (D.it q hq).2.2 e) (λc o c1 c2 e=>sb3.extBut _ _ c1 (sb2.extBut _ _ c2 e)) (by rw[sb3.1,sb2.1])
 case he =>
  intro p hp j s1 Q1 hz1 hi1 hx1 k1;obtain⟨xs,hx1,hsz⟩:=hx1;refine K4 (wpAny_onRaise ?_);show wpAny _ _ (Builtin.SmallTypes.nextOf (.ref p.2.1) >>= _) _ _ _;subst hsz;refine K4 ((vp p.1 hA p.2.1 p.2.2 ((D.sr p hp).2.2 p hp) xs).done _ _ _ ⟨hi1,hx1⟩ λg2 e sb2 he=>?_);obtain⟨oe,hoe,hce⟩:=he;have zr2:IsZip g2 z TI TO .ellipsis:=sb2 _ _ (D.it p hp).1.symm hz1;have nez:e≠z:=λq=>by subst q;rw[zr2] at hoe;cases hoe;simp at hce
  exact NS zr2 (by simp) λg3 _ sb3=>k1 g3 e _ (λc o e1 e3 q=>sb3.extBut _ _ e1 (sb2 _ _ e3 q)) ⟨oe,sb3.extBut _ _ nez hoe,hce⟩
 case k =>
  intro g2 tk z2 t2 a2 kp2 sz2;have hu3:us.length<=3:=by rw[ib dr];exact hn
  replace t2:fI g2 TO us:=t2
  show wpAny _ _ (seqItems? (.ref TO) >>= _) _ _ _;refine K4 (N1 t2 rfl ?_);refine K4 (Qm ?_ (KA hu3 (by decide)))
  have size2:g2.objs.size=s.heap.objs.size:=sz2.trans sb1.1;have zlt:z<g2.objs.size:=Lb z2;show wpAny _ _ (Builtin.SmallTypes.ownedTupleHandOut (.ref z) (.ref g2.objs.size) >>= _) _ _ _;refine K4 ?_;unfold Builtin.SmallTypes.ownedTupleHandOut;have zr6:IsZip (g2.push {cls:=.type "tuple",data:=.seq us.toArray}) z TI TO .ellipsis:=K9 _ z2;refine K4 (NS zr6 (by simp) λg8 zr8 sb8=>?_)
  replace zr8:IsZip g8 z TI TO (rawInt g2.objs.size):=zr8
  refine NS zr8 (by simp) λg9 zr9 sb9=>?_
  replace zr9:IsZip g9 z TI TO (rawInt g2.objs.size):=zr9
  have up:∀c o,c≠z->g2.get? c=some o->g9.get? c=some o:=λc o e1 q=>sb9.extBut _ _ e1 (sb8.extBut _ _ e1 (K9 _ q));have pr8:fI g9 g2.objs.size us:=sb9.extBut _ _ (Ms zlt) (sb8.extBut _ _ (Ms zlt) (La _ rfl));rw[size2] at zr9 pr8;refine KR ⟨_,rfl,?_⟩;show Q (.ref g2.objs.size) _;rw[size2];exact hQ g9 _ zr9 (up _ _ D.zt.2.1 t2) (λq hq=>(a2 q hq).kp λo e=>up _ o (D.it q hq).1 e) pr8 λc o e1 e2 e3 q=>up c o e1 (kp2 c o e2 e3 (sb1.extBut _ _ e1 q))
end
def Bs(K:W.Frag)(S:List Src):It:=
  ⟨λi H=>∃vs,Paired (λ(q:Src) v=>∃xs,hJ K q.1 H q.2.2 xs/\xs[i]?=some v) S vs,
   λi H v H'=>∃p vs,Paired (λ(q:Src) x=>∀xs,hJ K q.1 H q.2.2 xs->xs[i]?=some x) S vs/\H p=none/\v=.ref p/\H'=upd H p (.tup vs),
   λi H=>∃a q r vs,S=a++q::r/\Paired (λ(q:Src) v=>∃xs,hJ K q.1 H q.2.2 xs/\xs[i]?=some v) a vs/\∃xs,hJ K q.1 H q.2.2 xs/\xs.length=i⟩
section
variable {X:Cx} {pins:List (Addr×Obj)} {σ:St} {H:Hp} {s:Shared} {i:Nat}
theorem Af(I:Inv X pins σ H s){l:List Src}{vs:List V}(hi:∀q∈l,r9 i s.heap q)(h:Paired (λ(q:Src) v=>∃xs,hJ X.K q.1 H q.2.2 xs/\xs[i]?=some v) l vs):∃us,Paired (qJ i s.heap) l us/\Vals vs us/\Paired (λ(q:Src) x=>∀xs,hJ X.K q.1 H q.2.2 xs->xs[i]?=some x) l vs:=by
 induction h with
 |nil=>exact⟨[],.nil,.nil,.nil⟩
 |cons d r ih =>
  obtain⟨us,h1,h2,h3⟩:=ih λp hp=>hi p (KI _ hp);obtain⟨xs,hx,ex⟩:=d;obtain⟨its,rv,p1⟩:=I.pJ hx;obtain⟨u,hu,ru⟩:=rv.get ex;exact⟨u::us,.cons ⟨hi _ KG,its.toArray,p1,by rw[LY];exact hu⟩ h1,.cons ru h2,.cons (λys hy=>by rw[I.yy hy hx];exact ex) h3⟩
end
theorem w8{tk:Nat}{tp:Pos}(S:List Src)(z TI TO:Addr)(D:Zn z TI TO S)(hS:S≠[])(hn:S.length<=3):
  Turn P w K (.Tuple es tk tp) (Bs K S) (z::TI::TO::S.map λq=>q.2.1) z (λi h=>IsZip h z TI TO .none/\fI h TI (S.map λq=>.ref q.2.1)/\(∃old,fI h TO old/\old.length=S.length)/\∀q∈S,r9 i h q) where
 mem:=KG
 obj:=λi h st c hc=>by
  obtain⟨s1,s2,⟨old,s3,_⟩,s4⟩:=st;rcases KL.mp hc with rfl|hc
  ·exact⟨_,s1,λv q=>by cases q⟩
  rcases KL.mp hc with rfl|hc
  ·exact⟨_,s2,λv q=>by cases q⟩
  rcases KL.mp hc with rfl|hc
  ·exact⟨_,s3,λv q=>by cases q⟩
  obtain⟨q,hq,rfl⟩:=L3.mp hc;obtain⟨o,e,_,d⟩:=lu.ty (s4 q hq);exact⟨o,e,λv q=>by rw[d] at q;cases q⟩
 keep:=λi h h' st k=>by
  obtain⟨s1,s2,⟨old,s3,s3'⟩,s4⟩:=st;exact⟨k z (by simp) _ s1,k TI (by simp) _ s2,⟨old,k TO (by simp) _ s3,s3'⟩,λq hq=>(s4 q hq).kp (k _ (KI _ (KI _ (KI _ (Mj (f:=λq:Src=>q.2.1) hq)))))⟩
 item:=by
  intro X hP hw hK hc i pins s σ H E I hf st hg;subst hP hw hK;obtain⟨vs,hg⟩:=hg;obtain⟨s1,s2,⟨old,s3,s3'⟩,s4⟩:=st;obtain⟨us,h1,h2,h3⟩:=Af I s4 hg;have hT:s.TypeIs (.ref z) "zip":=⟨_,s1,rfl⟩;unfold pyNext;refine K4 (Oq (LO (name:=Str.ofString "__next__") hT PySem.F.slot_zip_next (LV PySem.F.slot_zip_next hT PySem.F.entry_zip_next
   (H_ D hS (I.ok.hd hc) s1 s2 s3 s3' hn (.inl ⟨us,h1,λh' tk' z1 t1 a1 pr kp=>KR ?_⟩)) (PySem.F.args_zip_next_1 _))))
  have fr:H s.heap.objs.size=none:=I.bg.fresh (KH _);have lt:∀{c o},s.heap.get? c=some o->s.heap.objs.size≠c:=λe=>Ms (Lb e);refine⟨.ref s.heap.objs.size,rfl,wpAny_letOwnedTupleGo_zip z1 λh2' z2 sb2=>?_⟩;have pr2:fI h2' s.heap.objs.size us:=sb2.extBut _ _ (lt s1) pr;have hvl:vs.length<=3:=by rw[ib hg];exact hn
  have I2:Inv X pins σ (upd H s.heap.objs.size (.tup vs)) {s with heap:=h2',toks:=tk'}:=by
   refine I.nY (fp:=z::TI::TO::S.map λq=>q.2.1) hf (KH _) (λc o hcm ec=>?_) ⟨KA hvl (by decide),us,h2,⟨_,pr2,rfl,_,rfl,rfl⟩⟩
   simp only[KL,not_or] at hcm;exact sb2.extBut _ _ hcm.1 (kp c o hcm.1 hcm.2.2.1 (λq hq e=>hcm.2.2.2 (by rw[e];exact Mj (f:=λq:Src=>q.2.1) hq)) ec)
  refine⟨.ref s.heap.objs.size,_,I2,rfl,⟨s.heap.objs.size,vs,h3,fr,rfl,rfl⟩,⟨z2,?_,⟨us,?_,?_⟩,λq hq=>?_⟩,λc hcm=>?_⟩
  ·exact sb2.extBut _ _ D.zt.1 (kp _ _ D.zt.1 D.zt.2.2 (λq hq=>(D.it q hq).2.1.symm) s2)
  ·exact sb2.extBut _ _ D.zt.2.1 t1
  ·exact ib h1
  ·exact (a1 q hq).kp λo e=>sb2.extBut _ _ (D.it q hq).1 e
  ·have hn:=(hf c hcm).1;rw[af]
   ·exact hn
   ·rcases KL.mp hcm with rfl|hcm
    ·exact (lt s1).symm
    rcases KL.mp hcm with rfl|hcm
    ·exact (lt s2).symm
    rcases KL.mp hcm with rfl|hcm
    ·exact (lt s3).symm
    obtain⟨q,hq,rfl⟩:=L3.mp hcm;obtain⟨o,e,_⟩:=lu.ty (s4 q hq);exact (lt e).symm
 done:=by
  intro X hP hw hK hc i pins s σ H E I hf st hg;subst hP hw hK;obtain⟨a,q,r,vs,eS,hg,xs,hx,hi⟩:=hg;obtain⟨s1,s2,⟨old,s3,s3'⟩,s4⟩:=st;obtain⟨us,h1,_,_⟩:=Af I (λp hp=>s4 p (by rw[eS];exact M4 _ hp)) hg
  obtain⟨its,rv,p1⟩:=I.pJ hx;have hT:s.TypeIs (.ref z) "zip":=⟨_,s1,rfl⟩;unfold pyNext;refine K4 (Oq (LO (name:=Str.ofString "__next__") hT PySem.F.slot_zip_next (LV PySem.F.slot_zip_next hT PySem.F.entry_zip_next
   (H_ D hS (I.ok.hd hc) s1 s2 s3 s3' hn (.inr ⟨a,q,r,us,eS,h1,s4 q (by rw[eS];exact Lh _ KG),⟨its.toArray,p1,by rw[KC,<- rv.length,hi]⟩,λh' e tk' kp he=>?_⟩)) (PySem.F.args_zip_next_1 _))))
  obtain⟨o,ho,hcl⟩:=he;refine K4 (wpAny_isInstance (T:="StopIteration") (b:=true) ⟨o,ho,hcl⟩ isSubtype_stop (KR ⟨rfl,?_⟩));refine I.turns (t':=tk') hf λc o hcm ec=>?_;simp only[KL,not_or] at hcm;exact kp c o hcm.1 hcm.2.2.1 (λq hq e=>hcm.2.2.2 (by rw[e];exact Mj (f:=λq:Src=>q.2.1) hq)) ec
 self:=λA i s Q E st h=>wpAny_pyIter_zip st.1 h
theorem cw.push{k:Bool}{xs:Array Value}(x:cw k h a xs)(o:Obj):cw k (h.push o) a xs:=by
 cases k with
 |true=>exact Heap.IsList.push x _
 |false=>exact zy x _
theorem jT{A:Around}{s:Shared}{k:Bool}{l:Addr}{items:Array Value}(hl:cw k s.heap l items)
  (hQ:Q (.ref s.heap.objs.size) {s with heap:=s.heap.push {cls:=.type (vI k),data:=.fields #[.ref l,.int 0 0]}}):wpAny (model prog w) A (pyIter (.ref l)) Q E s:=by
 cases k with
 |true=>exact Ob hl hQ
 |false=>exact Np hl hQ
def fS(h:Heap):List (Bool×Addr)->Heap
 |[]=>h
 |p::l=>fS (h.push {cls:=.type (vI p.1),data:=.fields #[.ref p.2,.int 0 0]}) l
noncomputable def fh(n:Nat):List (Bool×Addr)->List Src
 |[]=>[]
 |p::l=>(p.1,n,p.2)::fh (n+1) l
abbrev Hc(h:Heap)(l:List (Bool×Addr)):Heap:=(fS h l).push {cls:=.type "tuple",data:=.seq ((fh h.objs.size l).map λq=>Value.ref q.2.1).toArray}
abbrev C4(h:Heap)(l:List (Bool×Addr)):Heap:=(Hc h l).push {cls:=.type "tuple",data:=.seq ((fh h.objs.size l).map λ_=>Value.none).toArray}
abbrev Bl(h:Heap)(l:List (Bool×Addr)):Heap:=(C4 h l).push {cls:=.type "zip",data:=.fields #[.none,.bool false,.bool false,.ref (fS h l).objs.size,.ref (Hc h l).objs.size]}
theorem kH:∀(l:List (Bool×Addr)) (h:Heap),(fS h l).objs.size=h.objs.size+l.length
 |[],_=>rfl
 |p::l,h=>by rw[fS,kH l,Mq,KQ];lia
theorem jv:∀(l:List (Bool×Addr)) {h:Heap} {c:Addr} {o:Obj},h.get? c=some o->(fS h l).get? c=some o
 |[],_,_,_,e=>e
 |p::l,_,_,_,e=>jv l (K9 _ e)
theorem CH(l:List (Bool×Addr)):∀{h:Heap} (q:Src),q∈fh h.objs.size l->(fS h l).get? q.2.1=some {cls:=.type (vI q.1),data:=.fields #[.ref q.2.2,.int 0 0]}:=by
 induction l with
 |nil=>intro h q hq;cases hq
 |cons p l ih =>
  intro h q hq;rcases KL.mp hq with rfl|hq
  ·exact jv l (La _ rfl)
  ·exact ih q (by rw[Mq];exact hq)
theorem jO:∀(l:List (Bool×Addr)) (n:Nat),(fh n l).length=l.length
 |[],_=>rfl
 |_::l,n=>Lw (·+1) (jO l (n+1))
theorem tZ(l:List (Bool×Addr)):∀(n:Nat) (q:Src),q∈fh n l->n<=q.2.1/\q.2.1<n+l.length/\(q.1,q.2.2)∈l:=by
 induction l with
 |nil=>intro n q hq;cases hq
 |cons p l ih =>
  intro n q hq;rcases KL.mp hq with rfl|hq
  ·exact⟨KH _,by rw[KQ];show n<_;lia,KG⟩
  ·obtain⟨h1,h2,h3⟩:=ih (n+1) q hq;exact⟨by lia,by rw[KQ];lia,KI _ h3⟩
theorem uh:∀(l:List (Bool×Addr)) (n:Nat),((fh n l).map λq=>q.2.1).Nodup
 |[],_=>List.nodup_nil
 |p::l,n=>by
  show (n::(fh (n+1) l).map λq=>q.2.1).Nodup;refine Mm.mpr ⟨λh=>?_,uh l (n+1)⟩;obtain⟨q,hq,e⟩:=L3.mp h;have:=(tZ l (n+1) q hq).1;rw[e] at this;lia
theorem xn(p q:Bool×Addr)(xs ys:Array Value):Meets (Builtin.«zip.__new__» ⟨[.type "zip",.ref p.2,.ref q.2],[]⟩) (λ_ R s=>cw p.1 s.heap p.2 xs/\cw q.1 s.heap q.2 ys/\R (.ok (.ret (.ref (C4 s.heap [p,q]).objs.size))) {s with heap:=Bl s.heap [p,q]}):=
 .of_wp λprog w A R s h=>by
  obtain⟨hp,g,d,tk,os⟩:=s;obtain⟨q1,q2,h⟩:=h;have hsub:=sub_zip;have w1:cw p.1 (Shared.heap ⟨hp,g,d,tk,os⟩) p.2 xs:=q1;have w2:cw q.1 (Shared.heap ⟨hp.push {cls:=.type (vI p.1),data:=.fields #[.ref p.2,.int 0 0]},g,d,tk,os⟩) q.2 ys:=cw.push q2 _;wp_walk using jT w1,jT w2;refine⟨_,rfl,?_⟩;have e1:(hp.push {cls:=.type (vI p.1),data:=.fields #[.ref p.2,.int 0 0]}).objs.size=hp.objs.size+1:=Mq ..;have h':=h;simp only[Bl,C4,Hc,fS,fh,Lp,MK,<- e1] at h';exact h'
theorem vF(p q r:Bool×Addr)(xs ys zs:Array Value):Meets (Builtin.«zip.__new__» ⟨[.type "zip",.ref p.2,.ref q.2,.ref r.2],[]⟩) (λ_ R s=>cw p.1 s.heap p.2 xs/\cw q.1 s.heap q.2 ys/\cw r.1 s.heap r.2 zs/\R (.ok (.ret (.ref (C4 s.heap [p,q,r]).objs.size))) {s with heap:=Bl s.heap [p,q,r]}):=
 .of_wp λprog w A R s h=>by
  obtain⟨hp,g,d,tk,os⟩:=s;obtain⟨q1,q2,q3,h⟩:=h;have hsub:=sub_zip;have w1:cw p.1 (Shared.heap ⟨hp,g,d,tk,os⟩) p.2 xs:=q1;have w2:cw q.1 (Shared.heap ⟨hp.push {cls:=.type (vI p.1),data:=.fields #[.ref p.2,.int 0 0]},g,d,tk,os⟩) q.2 ys:=cw.push q2 _;have w3:cw r.1 (Shared.heap ⟨(hp.push {cls:=.type (vI p.1),data:=.fields #[.ref p.2,.int 0 0]}).push {cls:=.type (vI q.1),data:=.fields #[.ref q.2,.int 0 0]},g,d,tk,os⟩) r.2 zs:=cw.push (cw.push q3 _) _;wp_walk using jT w1,jT w2,jT w3;refine⟨_,rfl,?_⟩;have e1:(hp.push {cls:=.type (vI p.1),data:=.fields #[.ref p.2,.int 0 0]}).objs.size=hp.objs.size+1:=Mq ..;have e2:((hp.push {cls:=.type (vI p.1),data:=.fields #[.ref p.2,.int 0 0]}).push {cls:=.type (vI q.1),data:=.fields #[.ref q.2,.int 0 0]}).objs.size=(hp.push {cls:=.type (vI p.1),data:=.fields #[.ref p.2,.int 0 0]}).objs.size+1:=Mq ..;have h':=h;simp only[Bl,C4,Hc,fS,fh,Lp,MK,<- e1,<- e2] at h';exact h'
theorem lP(a b c:Value):checkTypeCall "zip" ⟨[a,b,c],[]⟩=pure ():=by kernel_rfl
theorem my(a b c:Value):checkBuiltinCall "zip.__new__" ⟨[.type "zip",a,b,c],[]⟩=pure ():=by kernel_rfl
theorem qm(a b c d:Value):argsOk "object.__init__" ⟨[a,b,c,d],[]⟩:=by
 unfold argsOk;rw[signature?_of (id:="object.__init__") (n:=['_','_','t','i','n','i','_','_']) (o:=['t','c','e','j','b','o']) (by kernel_rfl) PySem.F.owner_object];kernel_rfl
section
variable {X:Cx} {es:List Expr} {tk:Nat} {tp:Pos}
theorem uf{pins:List (Addr×Obj)}{s:Shared}{R:It->Hp->Prop}(I:Inv X pins σ H s)(l:List (Bool×Addr))(hne:l≠[])(h3:l.length<=3)(hq:∀p∈l,∃xs,hJ X.K p.1 H p.2 xs)(q:∀n,R (Bs X.K (fh n l)) H):
  (∃o,(Bl s.heap l).get? (C4 s.heap l).objs.size=some o/\o.cls=.type "zip")/\wpAny (model X.prog X.w) X.A (pyIter (.ref (C4 s.heap l).objs.size)) (JE X pins σ (.Tuple es tk tp) R) X.xe {s with heap:=Bl s.heap l}:=by
 have n1:(fS s.heap l).objs.size=s.heap.objs.size+l.length:=kH l _;have n2:(Hc s.heap l).objs.size=s.heap.objs.size+l.length+1:=by rw[Mq,n1]
 have n3:(C4 s.heap l).objs.size=s.heap.objs.size+l.length+2:=by rw[Mq,n2]
 have p3:(Bl s.heap l).get? (C4 s.heap l).objs.size=some _:=La _ rfl;have p2:(Bl s.heap l).get? (Hc s.heap l).objs.size=some _:=K9 _ (La _ rfl);have p1:(Bl s.heap l).get? (fS s.heap l).objs.size=some _:=K9 _ (K9 _ (La _ rfl));have up:∀{c o},(fS s.heap l).get? c=some o->(Bl s.heap l).get? c=some o:=λe=>K9 _ (K9 _ (K9 _ e));rw[n1,n2,n3] at p3;rw[n2] at p2;rw[n1] at p1;rw[n3];refine⟨⟨_,p3,rfl⟩,wpAny_pyIter_zip p3 ?_⟩;have I2:Inv X pins σ H {s with heap:=Bl s.heap l}:=I.kept (t':=s.toks) λc o e=>up (jv l e)
 have bd:=tZ l s.heap.objs.size;have lt:∀p∈l,p.2<s.heap.objs.size:=λp hp=>by
  obtain⟨xs,hx⟩:=hq p hp;obtain⟨its,_,p1⟩:=I.pJ hx;obtain⟨o,e,_⟩:=p1.ty;exact Lb e
 have D:Zn (s.heap.objs.size+l.length+2) (s.heap.objs.size+l.length) (s.heap.objs.size+l.length+1) (fh s.heap.objs.size l):=by
  have nl:∀(a b:Nat),a<b->a≠b:=λa b h=>Ll h;refine⟨⟨nl _ _ (by lia),nl _ _ (by lia),nl _ _ (by lia)⟩,λq hq'=>?_,λq hq'=>?_,uh l _⟩
  ·have:=(bd q hq').2.1;exact⟨nl _ _ (by lia),nl _ _ (by lia),nl _ _ (by lia)⟩
  ·have h1:=lt _ (bd q hq').2.2;refine⟨nl _ _ (by show q.2.2<_;have:q.2.2<s.heap.objs.size:=h1;lia),nl _ _ (by have:q.2.2<s.heap.objs.size:=h1;lia),λp hp=>nl _ _ (Ls h1 (bd p hp).1)⟩
 refine⟨_,_,_,_,H,rfl,I2,w8 (fh s.heap.objs.size l) _ _ _ D (λe=>?_) (by rw[jO];exact h3),⟨p3,p1,⟨_,p2,K2 ..⟩,λq hq'=>Hx (up (CH l q hq'))⟩,λc hc=>?_,q _⟩
 ·have:=jO l s.heap.objs.size;rw[e] at this;exact hne (MG.mp this.symm)
 ·have hc':s.heap.objs.size<=c:=by
   rcases KL.mp hc with rfl|hc
   ·lia
   rcases KL.mp hc with rfl|hc
   ·lia
   rcases KL.mp hc with rfl|hc
   ·lia
   obtain⟨q,hq',rfl⟩:=L3.mp hc;exact (bd q hq').1
  exact I.p6 hc' (I.bg.fresh hc')
def y9(K:W.Frag)(ta:TA):TI:=λσ H R=>ta σ H λvs H1=>∃p q:Bool×Addr,vs=[.ref p.2,.ref q.2]/\(∃xs,hJ K p.1 H1 p.2 xs)/\(∃ys,hJ K q.1 H1 q.2 ys)/\∀n,R (Bs K (fh n [p,q])) H1
theorem Bz{e1 e2:Expr}{pos:Pos}(hg:Gl X "zip")(hm:X.mg "zip"=none)(ha:PA X [e1,e2] ta)(h1:autoParam (dY e1=true) ℜ0)(h2:autoParam (dY e2=true) ℜ0)(hv:autoParam (bootBuiltins "zip"=some (.type "zip")) ℜ6):
  PI X (.Tuple es tk tp) (.Call (.Name "zip" p) [e1,e2] [] pos) (y9 X.K ta):=by
 intro pins s σ H R I h;refine Call_ (eX I hg hm hv (LN (bS (ha pos pins s σ H _ I h) λus s1 hq1=>?_) (by rw[cz h1,cz h2]) (by rw[cz h2];rfl)))
 obtain⟨vs,H1,I1,r1,q1⟩:=hq1;obtain⟨a,b,e,⟨xs,hx⟩,⟨ys,hy⟩,q⟩:=q1;subst e;obtain⟨u,w',rfl,ru,rw'⟩:=vals2 r1
 cases ru;cases rw'
 obtain⟨its1,_,p1⟩:=I1.pJ hx;obtain⟨its2,_,p2⟩:=I1.pJ hy;refine P1 F.called_zip (by decide) (F.typeCall_zip_2 _ _) (F.newCall_zip_2 _ _) (λobj=>F.args_object_init_3 obj _ _) F.entry_zip_new (xn a b _ _) ⟨p1,p2,uf I1 [a,b] (by simp) (M0 2) (λp hp=>?_) q⟩
 simp only[KL,Ln,Mh] at hp;rcases hp with rfl|rfl
 ·exact⟨xs,hx⟩
 ·exact⟨ys,hy⟩
def AE(K:W.Frag)(ta:TA):TI:=λσ H R=>ta σ H λvs H1=>∃p q r:Bool×Addr,vs=[.ref p.2,.ref q.2,.ref r.2]/\(∃xs,hJ K p.1 H1 p.2 xs)/\(∃ys,hJ K q.1 H1 q.2 ys)/\(∃zs,hJ K r.1 H1 r.2 zs)/\∀n,R (Bs K (fh n [p,q,r])) H1
theorem vals3{x y z:V}{us:List Value}(r:Vals [x,y,z] us):∃u w' q,us=[u,w',q]/\RelV x u/\RelV y w'/\RelV z q:=by
 obtain⟨u,us,rfl,h1,r⟩:=Paired.dI r;obtain⟨v,w',rfl,h2,h3⟩:=vals2 r;exact⟨u,v,w',rfl,h1,h2,h3⟩
theorem Cb{e1 e2 e3:Expr}{pos:Pos}(hg:Gl X "zip")(hm:X.mg "zip"=none)(ha:PA X [e1,e2,e3] ta)(h1:autoParam (dY e1=true) ℜ0)(h2:autoParam (dY e2=true) ℜ0)(h3:autoParam (dY e3=true) ℜ0)(hv:autoParam (bootBuiltins "zip"=some (.type "zip")) ℜ6):
  PI X (.Tuple es tk tp) (.Call (.Name "zip" p) [e1,e2,e3] [] pos) (AE X.K ta):=by
 intro pins s σ H R I h;refine Call_ (eX I hg hm hv (LN (bS (ha pos pins s σ H _ I h) λus s1 hq2=>?_) (by rw[cz h1,cz h2,cz h3]) (by rw[cz h2,cz h3];rfl)))
 obtain⟨vs,H1,I1,r1,q1⟩:=hq2;obtain⟨a,b,c,e,⟨xs,hx⟩,⟨ys,hy⟩,⟨zs,hz⟩,q⟩:=q1;subst e;obtain⟨u,w',t',rfl,ru,rw',rt'⟩:=vals3 r1
 cases ru;cases rw';cases rt'
 obtain⟨its1,_,p1⟩:=I1.pJ hx;obtain⟨its2,_,p2⟩:=I1.pJ hy;obtain⟨its3,_,p3⟩:=I1.pJ hz;refine P1 F.called_zip (by decide) (lP _ _ _) (my _ _ _) (λobj=>qm obj _ _ _) F.entry_zip_new (vF a b c _ _ _) ⟨p1,p2,p3,uf I1 [a,b,c] (by simp) (KH 3) (λp hp=>?_) q⟩
 simp only[KL,Ln,Mh] at hp;rcases hp with rfl|rfl|rfl
 ·exact⟨xs,hx⟩
 ·exact⟨ys,hy⟩
 ·exact⟨zs,hz⟩
end
namespace Z
theorem IP{st:Stmt}:QS X st (λ_ _ _=>False):=⟨λ_ _ _ _ _ _ h=>h.elim⟩
theorem JR{o:Expr}{to:TE}{pos:Pos}(K:W.Frag)(hK:X.K=K){name:Str}{apos:Pos}{T id:String}{r:V->List V->Hp->VK->Prop}(pa:PlainAttrs T)(slot:Slot T name id)(hty:typeOf (.builtin id)=pure (.type "method_descriptor"))(hm:vw X id r)(ho:QE X o to)
  (hbase:autoParam (attributeBase o name X.env (eval o X.env)=eval o X.env) ℜ0) (hline:autoParam ((apos.endLine == pos.line)=true) ℜ0):QE X (.Call (.Attribute o name apos) [] [] pos) (xZ K T r to):=by
 subst hK;exact⟨EZ pa slot hty hm ho.h hbase hline⟩
theorem gY(K:W.Frag)(hK:X.K=K):wM X (FL K):=by subst hK;exact nJ
end Z
theorem Kc{H':Hp}(h:aX K H a xs)(k:KB [] H H'):aX K H' a xs:=aX.same (λb o z=>k b o z (by simp)) h
namespace Z
theorem Jk{te:TE}{x:Str}{pos:Pos}{d:Addr}{D:List (Str×List Str)}(K:W.Frag)(hK:X.K=K)(hg:Gl X x)(hm:X.mg x=some (.ref d))(hd:kx K d D)(he:QE X e te)(hs:yM e:=by exactλ_ _=>rfl)(hdb:autoParam ((x ==("__debug__":Str))=false) ℜ1):QE X (.Subscript (.Name x p) e pos) (za K D te):=by
 subst hK;exact⟨Gh (t_ hg hm rfl hdb) hd he.h hs⟩
theorem zv{pos:Pos}(K:W.Frag)(hK:X.K=K){k:Nat}{tp:Pos}(hg:Gl X "enumerate")(hm:X.mg "enumerate"=none)(ha:QA X [e] ta)(h1:autoParam (dY e=true) ℜ0):QI X (.Tuple es k tp) (.Call (.Name "enumerate" p) [e] [] pos) (kX K ta):=by
 subst hK;exact⟨A8 hg hm ha.h h1⟩
theorem HF{t:TA}{pos kpos lpos p1 p2 p3:Pos}{x y z:Str}{c Pt d:Addr}{j:Nat}{params:Arguments}{k:Nat}(K:W.Frag)(hK:X.K=K)(hx:z∈d8)(ht:W.tabIn K z=some (c,Pt))(hcode:X.env.code=.ref c)(hq:X.env.qual=z++".<locals>.")(hdef:defaultsOf params X.env=([],[]))(hcl:closureFor scope X.env=pure [(y,d)])
  (hg:Gl X "sorted") (hm:X.mg "sorted"=none) (ha:QA X [e] t) (hr:bQ (k+3) X.A)
  (hsc:scope={kind:=.function,names:=[(x,.local),(y,.free)],isGenerator:=false,isCoroutine:=false,more:=[]}) (hxy:y≠x) (hx1:(x ==("__debug__":Str))=false) (hx2:(x ==("__classdict__":Str))=false) (hy1:(y ==("__debug__":Str))=false) (hy2:(y ==("__classdict__":Str))=false)
  (hj:X.N[j]?=some y) (hyc:X.env.scope.names.lookup y=some .cell) (hyl:X.env.cells.lookup y=some d)
  (hbind:∀c' pm ctv u,bindArgs (W.kla_fn "<lambda>" ((z++".<locals>.")++"<lambda>") params (.Subscript (.Name y p1) (.Name x p2) p3) scope [(y,d)] pm (.ref c') ctv) ⟨[u],[]⟩=pure [(x,u)]) (h1:autoParam (dY e=true) ℜ0) :
  QE X (.Call (.Name "sorted" p) [e] [⟨some "key",.Lambda params (.Subscript (.Name y p1) (.Name x p2) p3) scope lpos,kpos⟩] pos) (kU K j t):=by
 subst hK;exact⟨AL hg hm ha.h h1 hr (yO hx ht hcode hq hdef hcl) hsc hxy hx1 hx2 hy1 hy2 hj hyc hyl hbind⟩
theorem Hj(K:W.Frag)(hK:X.K=K):cJ X (compareOp .In) (JQ K false):=by subst hK;exact mH
theorem E_(K:W.Frag)(hK:X.K=K):bt X (.type "list") (λxs H Q=>∃p ys,xs=[.ref p]/\(a_ K H p ys\/aX K H p ys)/\∀l,H l=none->Q (.ref l) (upd H l (.lst ys))):=by subst hK;exact oj
end Z
namespace Ap
theorem za(K:W.Frag)(D:List (Str×List Str))(te:TE)(σ:St)(H:Hp)(Q:VK):L2.za K D te σ H Q=te σ H λy H1=>∃k ws,y=.str k/\KTD.datumAt k D=some ws/\∀p,IS K p (ws.map V.str)->Q (.ref p) H1:=rfl
theorem kX(K:W.Frag)(ta:TA)(σ:St)(H:Hp)(R:It->Hp->Prop):L2.kX K ta σ H R=ta σ H λvs H1=>∃a,vs=[.ref a]/\(∃xs,a_ K H1 a xs)/\R (yY K a) H1:=rfl
theorem kU(K:W.Frag)(j:Nat)(t:TA)(σ:St)(H:Hp)(Q:VK):L2.kU K j t σ H Q=t σ H λvs H1=>∃l xs kz,vs=[.ref l]/\(∃n:Nat,H1 l=some (.nq 0 n)/\xs=ko n)/\kz.length=xs.length/\xs.length<64 /\
 (∀(i:Nat) (v:V) (k:Int),xs[i]?=some v->kz[i]?=some k->∀H',dP H1 H'->∃i q ls,v=.int i/\Kg j σ=[some (.ref q)]/\aX K H' q ls/\bC ls i=some (.int k))/\∀H2 D,dP H1 H2->H2 D=none->Q (.ref D) (upd H2 D (.lst (jc kz xs))):=rfl
end Ap
section
variable {K:W.Frag} {g:TG} {tb:TS} {D:Ends} {σ:St} {H:Hp}
theorem lB(Pv:Nat->St->Hp->Prop)(h0:Pv 0 σ H)(hl:∀i σ H,i<=xs.length->Pv i σ H->a_ K H a xs)
  (hs:∀i x σ H p,xs[i]?=some x->Pv i σ H->H p=none->g (.ref p) σ (upd H p (.tup [.int i,x])) λσ2 H2=>tb {D with nx:=Pv (i+1),ct:=Pv (i+1),bk:=D.nx} σ2 H2) (hd:∀σ H,Pv xs.length σ H->D.nx σ H) :
  qP (yY K a) g tb D σ H:=by
 refine⟨λi m σ H=>m=xs.length-i/\i<=xs.length/\Pv i σ H,⟨xs.length,by simp,KW _,h0⟩,?_⟩
 rintro i m σ H ⟨rfl,hi,p⟩;have hq:=hl i σ H hi p;by_cases c:i<xs.length
 ·refine .inr ⟨⟨xs[i],xs,hq,K1 c⟩,λσ' H'=>Pv (i+1) σ' H',λσ' H' h=>⟨_,by lia,rfl,c,h⟩,?_⟩
  rintro x H' ⟨q,y,e,fr,rfl,rfl⟩;have e1:=e xs hq;exact hs i y σ H q e1 p fr
 ·have e:i=xs.length:=by lia
  subst e;exact .inl ⟨⟨xs,hq,rfl⟩,hd _ _ p⟩
end
section
variable {K:W.Frag} {σ:St} {H:Hp} {tc:TT} {te:TE} {Q:VK}
theorem CT{x y:V}{c:Addr}{o1 o2:Option V}{R:St->Hp->Prop}(h:R (some x::some y::σ) (upd H c (.tup [x,y]))):kB K 2 (d9 (aL 0) (d9 (aL 1) jP)) (.ref c) (o1::o2::σ) (upd H c (.tup [x,y])) R:=⟨c,[x,y],rfl,aX.of aa,rfl,x,[y],rfl,y,[],rfl,rfl,h⟩
theorem jz(hn:xs.length<=sizeLine)(Pv:Addr->Nat->List V->Hp->Prop)(h0:∀D,H D=none->Pv D 0 [] (upd H D (.lst [])))(hD:∀D i ys H',Pv D i ys H'->H' D=some (.lst ys)/\ys.length=i)
  (hl:∀D i ys H',Pv D i ys H'->aX K H' a xs)
  (hs:∀D i ys H' x p (R:VK),xs[i]?=some x->Pv D i ys H'->H' p=none->(∀v H5,H5 D=some (.lst ys)->Pv D (i+1) (ys++[v]) (upd H5 D (.lst (ys++[v])))->R v H5)->te (some (.int i)::some x::σ) (upd H' p (.tup [.int i,x])) R) (hd:∀D ys H',Pv D xs.length ys H'->Q (.ref D) H') :
  gU (yj K a) 2 (kB K 2 (d9 (aL 0) (d9 (aL 1) jP))) dh te Q σ H:=by
 intro D hD0;refine⟨λi m ys σ' H'=>m=xs.length-i/\i<=xs.length/\Pv D i ys H'/\∃o1 o2,σ'=o1::o2::σ,⟨xs.length,by simp,KW _,h0 D hD0,none,none,rfl⟩,?_⟩
 rintro i m ys σ' H' ⟨rfl,hi,p,o1,o2,rfl⟩;obtain⟨hDi,hly⟩:=hD _ _ _ _ p;have q:=hl _ _ _ _ p;refine⟨hDi,?_⟩;by_cases hlt:i<xs.length
 ·refine .inr ⟨⟨xs[i],xs,q,by simp[hlt]⟩,by lia,λx H2 y=>?_⟩
  obtain⟨c,y,hy,fr,rfl,rfl⟩:=y;refine CT ?_;unfold dh;dsimp only;rw[if_pos rfl];exact hs D i ys H' y c _ (hy xs q) p fr λv H5 q1 q2=>⟨q1,xs.length-(i+1),by lia,rfl,hlt,q2,_,_,rfl⟩
 ·have e:i=xs.length:=by lia
  subst e;exact .inl ⟨⟨xs,q,rfl⟩,hd D ys H' p⟩
end
theorem jN{t:TS}{D:Ends}(h:∀N,N=D.nx->t {D with nx:=N} σ H):t D σ H:=h _ rfl
theorem xy{c:TT}{t u:TS}{D:Ends}(h:∀A B,A=t D->B=u D->c σ H λb H1=>if b=true then A σ H1 else B σ H1):oY c t u D σ H:=h _ _ rfl rfl
theorem HasFn.Ig{mg:Str->Option Value}{base:Heap}{x:Str}{st:Stmt}{ps:List Str}{k:Nat}{sp:Sp}(F:HasFn K mg x st ps)(S:ax N ps (ab st))(len:∀vs H Q E,sp vs H Q E->vs.length=ps.length)
  (hbody:∀(f:Addr) (cdv:Value) (A:Around) (outer:List Env) (s:Shared) (H:Hp) (vs:List V) (Q:VK) (E:XK),bQ k (A.deeper (envOfC x (ab st) s.heap.objs.size f cdv))->mg x=some (.ref f)->C1 K f cdv->sp vs H Q E ->
   ∃t,QB (lH aS P w K mg base N x (ab st) f cdv A outer s H E).BQ (bV st) t/\t {nx:=λ_ H'=>Q .aO H',rt:=Q} (start N vs) H):ao P w K mg base aS (k+1) x ps sp:=by
 obtain⟨f,fd,F1,b,m⟩:=F.ex;have F2:=F1;obtain⟨oc,od,kV,doc,pm,an,cdv,ct,osl,rfl,lk,fR⟩:=F2.ex;refine⟨f,_,m,F1.kp,b,Em lk fR S len λA outer s H vs Q E hr jH=>?_⟩;obtain⟨t,h,q⟩:=hbody f cdv A outer s H vs Q E hr m ⟨_,_,lk,rfl,rfl⟩ jH;exact⟨t,h.h.BQ,q⟩
theorem aA.of(k:scope.kind=.function)(h:N.Nodup/\N.length=own.length+ON.length/\(∀y∈scope.names,y.2≠.cell)/\(∀y∈scope.names,y.2=.local->scope.names.lookup y.1=some .local)/\(∀y∈scope.names,y.2=.free->osc.names.lookup y.1=some .cell\/osc.names.lookup y.1=some .free)/\(∀p∈ON.zip (N.drop own.length),p.1=p.2\/scope.names.lookup p.2=none)/\∀x∈N.drop own.length,scope.names.lookup x≠some .local):aA osc ON scope own N:=by
 obtain⟨h1,h2,h3,h4,h5,h6,h7⟩:=h;exact⟨k,h1,h2,h3,h4,h5,h6,h7⟩
namespace Z
section
variable {X:Cx} {e o:Expr} {es:List Expr} {te to:TE} {t:TA} {pos pos' p:Pos} {x:Str}
theorem se(hN:X.N.Nodup)(he:QE X e te)(hi:autoParam (X.N[i]?=some x) ℜ0)(hx:Loc X.env.scope x:=by first|exact Or.inl rfl|exact Or.inr rfl)(hs:autoParam (IW e=true) ℜ0)(hf:autoParam (X.fn x=true\/X.env.scope.names.lookup x=some .local) ℜ2):
  QS X (.Assign [.Name x pos'] e pos) (lQ te (aL i)):=set hN hi hx he hs hf
theorem fc{k:Nat}{ps:List Str}{sp:Sp}(F:ao X.prog X.w X.K X.mg X.base aS k x ps sp)(ha:QA X (e::es) t)(hr:bQ k X.A:=by exact bQ.mono (by assumption) (by decide))(hg:autoParam (Gl X x) ℜ0)(h1:autoParam (dY e=true) ℜ0)(h2:autoParam (es.all dY=true) ℜ0)(hdb:autoParam ((x ==("__debug__":Str))=false) ℜ1):
  QE X (.Call (.Name x p) (e::es) [] pos) (gT sp [] E0 t):=fn F hr hg DX ha h1 h2 hdb
theorem o_{tg elt:Expr}{wi:TI}{g:TG}{tc:TT}(S:aA osc ON scope own N)(hi:QI X tg iter wi)
  (hg:∀(nd:N.Nodup) C s H fp,QG (aP X scope N C s H fp) tg g) (ht:∀C s H fp,GU (aP X scope N C s H fp) ifs tc) (he:∀C s H fp,QE (aP X scope N C s H fp) elt te) (hosc:autoParam (X.env.scope=osc) ℜ0) (hON:autoParam (X.N=ON) ℜ0) (hc:autoParam (X.calm=true) ℜ0) (hs:autoParam (∀x,foldedSetIterable iter X.env x=pure x) ℜ3) :
  QE X (.ListComp elt [⟨tg,iter,ifs,0⟩] scope pos) (i7 wi own.length g tc te):=comp S hosc hON hc hi (hg S.nd) ht he hs
theorem sec{tg elt:Expr}{p2:Pos}{wi:TI}{g:TG}{tc:TT}{j:Nat}(hN:X.N.Nodup)(S:aA osc ON scope own N)(hi:QI X tg iter wi)
  (hg:∀(nd:N.Nodup) C s H fp,QG (aP X scope N C s H fp) tg g) (ht:∀C s H fp,GU (aP X scope N C s H fp) ifs tc) (he:∀C s H fp,QE (aP X scope N C s H fp) elt te)
  (hj:autoParam (X.N[j]?=some x) ℜ0) (hx:Loc X.env.scope x:=by first|exact Or.inl rfl|exact Or.inr rfl) (hosc:autoParam (X.env.scope=osc) ℜ0) (hON:autoParam (X.N=ON) ℜ0) (hc:autoParam (X.calm=true) ℜ0)
  (hsw:autoParam (swapsWith (.ListComp elt [⟨tg,iter,ifs,0⟩] scope p2) (some (.Name x pos')) pos.line X.env=pure true) ℜ0)
  (hf:autoParam (X.fn x=true\/X.env.scope.names.lookup x=some .local) ℜ2) (hs:autoParam (∀x,foldedSetIterable iter X.env x=pure x) ℜ3) :
  QS X (.Assign [.Name x pos'] (.ListComp elt [⟨tg,iter,ifs,0⟩] scope p2) pos) (lQ (i7 wi own.length g tc te) (aL j)):=setC hN hj hx S hosc hON hc hi (hg S.nd) ht he hsw hf hs
theorem app(K:W.Frag){apos:Pos}(ho:QE X o to)(ha:QA X (e::es) t)(hK:autoParam (X.K=K) ℜ0)(hbase:autoParam (attributeBase o "append" X.env (eval o X.env)=eval o X.env) ℜ0)(hline:autoParam ((apos.endLine == pos.line)=true) ℜ0)(h:autoParam ((e::es).all dY=true) ℜ0)(hl:autoParam ((e::es).length<30) ℜ1):QE X (.Call (.Attribute o "append" apos) (e::es) [] pos) (Ga K "list" uq to t):=bm K hK PySem.F.plainAttrs_list PySem.F.slot_list_append PySem.F.type_list_append mG ho ha hbase hline h hl
end
end Z
end L2
namespace G
local macro_rules|`(tactic|and_intros)=>`(tactic|exact ⟨rfl,rfl,rfl,by decide +kernel,rfl,by decide +kernel,by decide +kernel⟩)
open PySem L2 PySem.Spec PyProof.Rows
variable{L i j p t:Nat}{D a dq q:Addr}{b k0 k1 k2 sp sp' ss ws z:List Nat}{d:Int}{xs ys:List V}{as ex:List Addr}{H H':Hp}{S X:List (List Nat)}{α:Type}{f ln:Nat->Nat}{g:Option Nat}{ls:List Int}{h:Heap}{K:W.Frag}{Q:VK}{gs:List (Option Nat)}{es:List Expr}{σ:L2.St}{te:TE}{Us:List (V×List Nat)}{hi lo:Option Int}{mg:Str->Option Value}
noncomputable def top(i:Nat):Stmt:=PySem.Challenge.pw_shortrows_k33_whole_packed_and_back.main.body.getD i (.Pass ⟨0,0,0,0⟩)
abbrev lg:Stmt:=top 6
theorem cE:ax ["lengths","free","depth","left","length"] ["lengths"] (ab lg):=by and_intros
abbrev bW:Stmt:=top 7
theorem dz:ax ["counts","bound","things","chosen"] ["counts","bound"] (ab bW):=by and_intros
abbrev cM:Stmt:=top 8
theorem bu:ax ["counts","bound","coins","shelf","depth","chosen","item"] ["counts","bound"] (ab cM):=by and_intros
abbrev dw:Stmt:=top 9
theorem qL:ax ["shelf"] ["shelf"] (ab dw):=by and_intros
abbrev fN:Stmt:=top 10
theorem qw:ax ["shelf"] ["shelf"] (ab fN):=by and_intros
abbrev dn:Stmt:=top 12
theorem e8:ax ["lengths","words","ahead","thing"] ["lengths"] (ab dn):=by and_intros
abbrev fb:Stmt:=top 13
theorem kh:ax ["ahead","length"] ["ahead","length"] (ab fb):=by and_intros
abbrev hW:Stmt:=top 14
theorem gB:ax ["code","bits","place","thing","word"] ["code","bits","place"] (ab hW):=by and_intros
abbrev je:Stmt:=top 18
theorem tH:ax ["row"] ["row"] (ab je):=by and_intros
abbrev gq:Stmt:=top 19
theorem nK:ax ["row","goal"] ["row","goal"] (ab gq):=by and_intros
abbrev eH:Stmt:=top 25
theorem j9:ax ["sizes","goals"] ["sizes","goals"] (ab eH):=by and_intros
abbrev cN:Stmt:=top 26
theorem b8:ax ["sizes","goals","widths","paper","row"] ["sizes","goals"] (ab cN):=by and_intros
abbrev eW:Stmt:=top 27
theorem nR:ax ["goals"] ["goals"] (ab eW):=by and_intros
abbrev cO:Stmt:=top 28
theorem bN:ax ["sizes","goals","widths","starts","row","goal"] ["sizes","goals","widths"] (ab cO):=by and_intros
abbrev rO:Stmt:=top 29
theorem vz:ax ["starts","goals","widths","row","half"] ["starts","goals","widths","row"] (ab rO):=by and_intros
abbrev fe:Stmt:=top 30
theorem lU:ax ["starts","goals","row"] ["starts","goals","row"] (ab fe):=by and_intros
abbrev fK:Stmt:=top 31
theorem d5:ax ["sizes","widths","starts","size","width"] ["sizes","widths"] (ab fK):=by and_intros
abbrev iw:Stmt:=top 32
theorem p9:ax ["width"] ["width"] (ab iw):=by and_intros
abbrev fq:Stmt:=top 39
theorem dk:ax ["program","counts","sums","row","count","which","thing"] ["program","counts"] (ab fq):=by and_intros
abbrev d_:Stmt:=top 40
theorem cL:ax ["row","things","kind","part"] ["row"] (ab d_):=by and_intros
abbrev fC:Stmt:=top 41
theorem qM:ax ["book"] ["book"] (ab fC):=by and_intros
abbrev cS:Stmt:=top 42
theorem b6:ax ["program","book","codes","firsts","sizes","goals","widths","starts","bits","row","first"] ["program","book"] (ab cS):=by and_intros
abbrev bJ:Stmt:=top 43
theorem de:ax ["row","codes","bits"] ["row","codes"] (ab bJ):=by and_intros
abbrev bT:Stmt:=top 44
theorem fm:ax ["number"] ["number"] (ab bT):=by and_intros
abbrev ee:Stmt:=top 45
theorem jC:ax ["width","distance"] ["width","distance"] (ab ee):=by and_intros
abbrev eG:Stmt:=top 46
theorem bE:ax ["number","many","figures","left","turn"] ["number","many"] (ab eG):=by and_intros
abbrev d6:Stmt:=top 48
theorem cB:ax ["bits","book","codes","rows","starts","found","numbers"] ["bits","book"] (ab d6):=by and_intros
abbrev dD:Stmt:=top 49
theorem fo:ax ["row","start","numbers","goal"] ["row","start","numbers"] (ab dD):=by and_intros
abbrev lL:Stmt:=top 50
theorem cQ:ax ["codes","bits","place","found","word","row","behind","kind","part"] ["codes","bits","place"] (ab lL):=by and_intros
abbrev ig:Stmt:=top 51
theorem j4:ax ["code","bits","place","thing"] ["code","bits","place"] (ab ig):=by and_intros
abbrev jt:Stmt:=top 52
theorem lq:ax ["kind","codes","bits","place","found"] ["kind","codes","bits","place"] (ab jt):=by and_intros
abbrev fY:Stmt:=top 53
theorem fH:ax ["code","bits","place","found","behind"] ["code","bits","place"] (ab fY):=by and_intros
abbrev jo:Stmt:=top 54
theorem dj:ax ["bits","place","found","width","behind","distance"] ["bits","place"] (ab jo):=by and_intros
abbrev eO:Stmt:=top 56
theorem oO:ax ["script"] ["script"] (ab eO):=by and_intros
abbrev iq:Stmt:=top 57
theorem f_:ax ["number","turn","one"] ["number","turn"] (ab iq):=by and_intros
abbrev fZ:Stmt:=top 58
theorem iX:ax ["deck","most","number"] ["deck","most"] (ab fZ):=by and_intros
abbrev fJ:Stmt:=top 59
theorem mC:ax [] [] (ab fJ):=by and_intros
abbrev gz:Stmt:=top 60
theorem cU:ax ["number","many","text","k"] ["number","many"] (ab gz):=by and_intros
abbrev eQ:Stmt:=top 61
theorem bz:ax ["lengths","found","number","size","length","thing","k"] ["lengths"] (ab eQ):=by and_intros
abbrev eB:Stmt:=top 62
theorem bX:ax ["deck","many","depths","k","deep","at"] ["deck","many"] (ab eB):=by and_intros
abbrev eM:Stmt:=top 63
theorem nF:ax ["deck"] ["deck"] (ab eM):=by and_intros
abbrev e_:Stmt:=top 64
theorem eC:ax ["deck","size","top"] ["deck"] (ab e_):=by and_intros
abbrev hZ:Stmt:=top 65
theorem eU:ax ["deck","goals","some","word","box"] ["deck","goals"] (ab hZ):=by and_intros
abbrev dc:Stmt:=top 66
theorem fP:ax ["deck","most","many"] ["deck","most"] (ab dc):=by and_intros
abbrev dN:Stmt:=top 67
theorem l_:ax ["program"] ["program"] (ab dN):=by and_intros
abbrev fG:Stmt:=top 68
theorem bZ:ax ["row","codes","text","part","size"] ["row","codes"] (ab fG):=by and_intros
abbrev fL:Stmt:=top 69
theorem cI:ax ["sizes","goals","widths","found","size","goal","width"] ["sizes","goals","widths"] (ab fL):=by and_intros
abbrev fE:Stmt:=top 70
theorem bM:ax ["sizes","goals","widths","turn","spots","k","half","far"] ["sizes","goals","widths"] (ab fE):=by and_intros
abbrev bY:Stmt:=top 71
theorem aJ:ax ["program","book","widths","codes","plain","goals","sizes","spots","bits","k","span","far"] ["program","book","widths"] (ab bY):=by and_intros
abbrev dM:Stmt:=top 72
theorem m7:ax ["program","k"] ["program","k"] (ab dM):=by and_intros
abbrev dU:Stmt:=top 73
theorem b_:ax ["deck","program","book","bits","spots","again","wide","k"] ["deck","program","book"] (ab dU):=by and_intros
abbrev gW:Stmt:=top 74
theorem h_:ax ["script","deck","turn","program","book","other"] ["script"] (ab gW):=by and_intros
structure Txt (K:W.Frag) (mg:Str->Option Value):Prop where
 IJ:mg "abs"=none
 Fw:mg "dict"=none
 cR:mg "enumerate"=none
 zk:mg "int"=none
 oU:mg "isinstance"=none
 cp:mg "len"=none
 rH:mg "list"=none
 Ag:mg "min"=none
 cA:mg "range"=none
 iO:mg "sorted"=none
 DF:mg "str"=none
 Ip:mg "sum"=none
 cq:mg "tuple"=none
 mE:mg "zip"=none
 tW:∃a,mg "BOXES"=some (.ref a)/\∀H,aX K H a [.str "a",.str "b",.str "c",.str "d",.str "e",.str "f",.str "g",.str "h"]
 p5:∃a,mg "HALVES"=some (.ref a)/\∀H,aX K H a [.int 8,.int 128,.int 32768]
 nV:∃a,mg "HEADS"=some (.ref a)/\∀H,aX K H a [.str "0",.str "10",.str "11"]
 rE:∃a,mg "HOW_MANY"=some (.ref a)/\∀H,aX K H a [.int 9,.int 17,.int 8]
 vK:∃u,mg "LONGEST"=some u/\RelV (.int 12) u
 lh:∃u,mg "OF_BOXES"=some u/\RelV (.int 2) u
 iP:∃u,mg "OF_CLASSES"=some u/\RelV (.int 1) u
 jV:∃u,mg "OF_WORDS"=some u/\RelV (.int 0) u
 yT:∃u,mg "WIDEST"=some u/\RelV (.int 2) u
 lO:∃a,mg "WIDTHS"=some (.ref a)/\∀H,aX K H a [.int 4,.int 8,.int 16]
 BU:JS K mg "BOXES"
 lR:∃d,mg "SHAPES"=some (.ref d)/\kx K d [("put",["box","number"]),("add",["box","box"]),("sub",["box","box"]),("copy",["box","box"]),("tell",["box"]),("hear",["box"]),("jump",["goal"]),("zero",["box","goal"]),("halt",[])]
 oD:nA K mg "by_worth"
 qj:nA K mg "code_of"
section
variable {P:Program} {w:World} {K:W.Frag} {mg:Str->Option Value} {base:Heap}
namespace Kr
noncomputable def ks(L:Nat):List Nat->Nat
 |[]=>0
 |l::r=>2^(L-l)+ks L r
theorem cC(L:Nat):∀a b,ks L (a++b)=ks L a+ks L b
 |[],b=>by simp[ks]
 |x::a,b=>by simp[ks,cC L a b];lia
theorem iQ{a:List Nat}(h:a.Perm b):ks L a=ks L b:=by
 induction h with
 |nil=>rfl
 |cons x _ ih=>simp[ks,ih]
 |swap x y l=>simp[ks];lia
 |trans _ _ h1 h2=>exact h1.trans h2
theorem wR{d l:Nat}(h:d<l)(hl:l<=L):2^(L-d)=2*2^(L-(d+1)):=by
 have:L-d=(L-(d+1))+1:=by lia
 rw[this,MM];lia
def fit:List Nat->Nat->Nat->Nat->Prop:=λr free depth L=>ks L r<=free*2^(L-depth)
theorem DJ{L d:Nat}:∀{r:List Nat},(∀x∈r,d<=x)->ks L r<=r.length*2^(L-d)
 |[],_=>by simp[ks]
 |x::r,h=>by
  have ih:=DJ (L:=L) (d:=d) (r:=r) λy hy=>h y (KI _ hy);have hx:=h x KG;have:=M9 (n:=2) (by decide) (Nat.sub_le_sub_left hx L)
  simp only[ks,KQ,NM];lia
theorem FP{x:Nat}{r:List Nat}:0<ks L (x::r):=by
 have:=Qd (n:=L-x) (show 0<2 by decide)
 simp only[ks];lia
theorem sx{r:List Nat}{free depth:Nat}(h:∀x∈r,depth<=x)(hf:r.length<=free):fit r free depth L:=
 KA (DJ h) (OC _ hf)
theorem tE{r:List Nat}{free depth l:Nat}(h:depth<l)(hl:l<=L):fit r free depth L ↔ fit r (free*2) (depth+1) L:=by
 unfold fit;rw[wR h hl,Nj]
theorem yq{r:List Nat}{free l:Nat}(hf:0<free):fit (l::r) free l L ↔ fit r (free-1) l L:=by
 unfold fit;simp only[ks];obtain⟨f,rfl⟩:∃f,free=f+1:=⟨free-1,by lia⟩
 rw[Nat.add_sub_cancel,NM];lia
theorem xW{x:Nat}{r:List Nat}{depth L:Nat}:¬ fit (x::r) 0 depth L:=by
 unfold fit;have:=FP (L:=L) (x:=x) (r:=r);lia
end Kr
def iV(xs:List Int):List V:=xs.map V.int
theorem bj(xs:List Int):(iV xs).length=xs.length:=K2 ..
theorem f9(xs ys:List Int):iV (xs++ys)=iV xs++iV ys:=KN
theorem DT{xs:List Int}(h:i<xs.length):bC (iV xs) (i:Int)=some (.int xs[i]):=aR (by unfold iV;rw[K8,K1 h];rfl)
theorem kn{xs:List Int}{v:V}(h:(iV xs)[i]?=some v):∃hi:i<xs.length,v=.int xs[i]:=by
 unfold iV at h;rw[K8] at h
 cases e:xs[i]? with
 |none=>rw[e] at h;cases h
 |some x=>rw[e] at h;cases h;obtain⟨hi,rfl⟩:=K7.mp e;exact⟨hi,rfl⟩
theorem Ep(xs:List Int)(i:Nat)(x:Int):(iV xs).set i (.int x)=iV (xs.set i x):=by unfold iV;rw[MN]
theorem FT(h:(i:Int)<(xs.length:Nat)):∃t,t∈xs/\bC xs (i:Int)=some t:=by
 have hn:i<xs.length:=by lia
 exact⟨xs[i],KZ hn,aR (K1 hn)⟩
theorem FO(k:KB ex H H')(hx:∀b∈ex,∃ys,H b=some (.lst ys))(h:H a=some (.tup xs)):H' a=some (.tup xs):=k _ _ h λz=>by
 obtain⟨ys,e⟩:=hx a z;rw[h] at e;cases e
def ia(ls:List Int):Prop:=0<ls.length/\ls.length<=20/\∀x∈ls,1<=x/\x<=20
def KS(ls:List Int):Nat:=Kr.ks 40 (ls.map Int.toNat)
def jG(ls:List Int):Bool:=decide (KS ls<=2^40)
namespace Pn
theorem jJ{Y:List (List Nat)}(h:X.Perm Y):X.flatten.Perm Y.flatten:=by
 induction h with
 |nil=>exact .refl _
 |cons x _ ih=>rw[Lr,Lr];exact ih.append_left _
 |swap x y l =>
  rw[Lr,Lr,Lr,Lr,<- Ld,<- Ld];exact List.perm_append_comm.append_right _
 |trans _ _ h1 h2=>exact h1.trans h2
theorem pick{a:α}{X:List α}(h:a∈X):∃X',X.Perm (a::X'):=by
 obtain⟨s,t,rfl⟩:=List.append_of_mem h;exact⟨s++t,Mp⟩
theorem split(A B:List α):∀(X Y:List α),(A++B).Perm (X++Y)->∃X1 X2 Y1 Y2,X.Perm (X1++X2)/\A.Perm (X1++Y1)/\B.Perm (X2++Y2):=by
 induction A with
 |nil=>exactλX Y h=>⟨[],X,[],Y,.refl _,.refl _,h⟩
 |cons a A ih =>
  intro X Y h;rw[Me] at h;rcases Lq.mp (h.mem_iff.mp KG) with m|m
  ·obtain⟨X',hX⟩:=pick m;have h2:(a::(A++B)).Perm (a::(X'++Y)):=h.trans (hX.append_right Y);obtain⟨X1,X2,Y1,Y2,p1,p2,p3⟩:=ih X' Y h2.cons_inv;exact⟨a::X1,X2,Y1,Y2,hX.trans (p1.cons a),p2.cons a,p3⟩
  ·obtain⟨Y',hY⟩:=pick m;have h2:(a::(A++B)).Perm (a::(X++Y')):=(h.trans (hY.append_left X)).trans Mp;obtain⟨X1,X2,Y1,Y2,p1,p2,p3⟩:=ih X Y' h2.cons_inv;exact⟨X1,X2,a::Y1,Y2,p1,(p2.cons a).trans Mp.symm,p3⟩
noncomputable def pk:List (List Nat)->List (List Nat)
 |a::b::r=>(a++b)::pk r
 |_=>[]
theorem rT:∀(A X Y:List (List Nat)),(pk A).Perm (X++Y)->∃X' Y',A.Perm (X'++Y')/\X'.length=2*X.length/\X'.flatten.Perm X.flatten
 |[],X,Y,h=>by
  have:X=[]:=(Oh.mp h.symm.eq_nil).1;subst this;exact⟨[],[],.refl _,rfl,.refl _⟩
 |[a],X,Y,h=>by
  have:X=[]:=(Oh.mp h.symm.eq_nil).1;subst this;exact⟨[],[a],.refl _,rfl,.refl _⟩
 |a::b::r,X,Y,h=>by
  unfold pk at h;rcases Lq.mp (h.mem_iff.mp KG) with m|m
  ·obtain⟨X',hX⟩:=pick m;obtain⟨X2,Y2,p1,p2,p3⟩:=rT r X' Y (h.trans (hX.append_right Y)).cons_inv;refine⟨a::b::X2,Y2,(p1.cons b).cons a,?_,?_⟩
   ·rw[hX.length_eq];simp only[KQ];lia
   ·refine List.Perm.trans ?_ (jJ hX).symm;rw[Lr,Lr,Lr,<- Ld];exact p3.append_left _
  ·obtain⟨Y',hY⟩:=pick m;obtain⟨X2,Y2,p1,p2,p3⟩:=rT r X Y' ((h.trans (hY.append_left X)).trans Mp).cons_inv;exact⟨X2,a::b::Y2,(((p1.cons b).cons a).trans ((Mp (l₁:=X2) (l₂:=Y2) (a:=b)).symm.cons a)).trans Mp.symm,p2,p3⟩
theorem oh:∀A:List (List Nat),(pk A).length=A.length / 2
 |[]=>rfl
 |[_]=>by simp[pk]
 |a::b::r=>by
  unfold pk;rw[KQ,oh r];simp only[KQ];lia
theorem Ef:∀A:List (List Nat),(pk A).flatten.length<=A.flatten.length
 |[]=>by simp[pk]
 |[a]=>by simp[pk]
 |a::b::r=>by
  have:=Ef r;rw[pk,Lr,Lr,Lr];simp only[K6];lia
theorem Eb:∀(A:List (List Nat)) (i:Nat),(pk A)[i]?=(A[2*i]?).bind λx=>(A[2*i+1]?).map λy=>x++y
 |[],i=>by simp[pk]
 |[a],i=>by
  rw[show [a][2*i+1]?=none from List.getElem?_eq_none (by simp)]
  cases [a][2*i]?<;>simp[pk]
 |a::b::r,i=>by
  cases i with
  |zero=>simp[pk]
  |succ i =>
   rw[pk,LL,Eb r i,show 2*(i+1)=2*i+1+1 by lia,LL,LL,LL,LL]
noncomputable def sN(f:Nat->Nat):Nat->Nat
 |0=>0
 |n+1=>sN f n+f n
theorem nB(f g:Nat->Nat)(n:Nat):sN (λi=>f i+g i) n=sN f n+sN g n:=by
 induction n with
 |zero=>rfl
 |succ n ih=>simp only[sN,ih];lia
theorem sX(k:Nat)(f:Nat->Nat)(n:Nat):sN (λi=>k*f i) n=k*sN f n:=by
 induction n with
 |zero=>rfl
 |succ n ih=>simp only[sN,ih];rw[Nat.mul_add]
theorem Ec{g:Nat->Nat}{n:Nat}(h:∀i,i<n->f i<=g i):sN f n<=sN g n:=by
 induction n with
 |zero=>exact KH _
 |succ n ih =>
  have:=ih λi hi=>h i (by lia)
  have:=h n (by lia)
  simp only[sN];lia
theorem iR{g:Nat->Nat}{n:Nat}(h:∀i,i<n->f i=g i):sN f n=sN g n:=by
 induction n with
 |zero=>rfl
 |succ n ih=>simp only[sN];rw[ih λi hi=>h i (by lia),h n (by lia)]
theorem qp(k n:Nat):sN (λ_=>k) n=n*k:=by
 induction n with
 |zero=>rw[Nat.zero_mul];rfl
 |succ n ih=>simp only[sN,ih];rw[NM]
theorem r6(x n:Nat):sN (λi=>if x=i then 1 else 0) n=if x<n then 1 else 0:=by
 induction n with
 |zero=>rfl
 |succ n ih =>
  simp only[sN,ih];by_cases h:x<n
  ·rw[KO h,KJ (by lia),KO (by lia)]
  ·by_cases h2:x=n
   ·rw[KJ h,KO h2,KO (by lia)]
   ·rw[KJ h,KJ h2,KJ (by lia)]
theorem qV(i x:Nat)(l:List Nat):(x::l).count i=l.count i+if x=i then 1 else 0:=by
 rw[OB];by_cases h:x=i<;>simp[h]
theorem yA{n:Nat}{l:List Nat}(h:∀x∈l,x<n):sN (λi=>l.count i) n=l.length:=by
 induction l with
 |nil=>rw[iR (g:=λ_=>0) λi _=>List.count_nil,qp];rfl
 |cons x l ih=>rw[iR (g:=λi=>l.count i+if x=i then 1 else 0) λi _=>qV i x l,nB,ih λy hy=>h y (KI _ hy),r6,KO (h x KG),KQ]
noncomputable def coins(n:Nat):List (List Nat):=(List.range n).map λi=>[i]
theorem vW(n:Nat):(coins n).length=n:=by unfold coins;rw[K2,Lo]
theorem lV(i:Nat):coins (i+1)=coins i++[[i]]:=by
 unfold coins;rw[M7,KN];rfl
theorem pj(n:Nat):(coins n).flatten=List.range n:=by
 induction n with
 |zero=>rfl
 |succ n ih=>rw[lV,Mk,ih,M7];rfl
def fw(n:Nat):Nat->List (List Nat)->Prop
 |0,S=>S=[]
 |d+1,S=>∃S0,fw n d S0/\S.Perm (coins n++pk S0)
theorem fw.len{n:Nat}(hn:1<=n):∀{d:Nat} {S:List (List Nat)},fw n d S->S.length+(2*n-1) / 2^d=2*n-1
 |0,S,h=>by
  rw[show S=[] from h,Nat.pow_zero,Nat.div_one];simp
 |d+1,S,⟨S0,h,p⟩=>by
  have ih:=fw.len hn h;rw[p.length_eq,K6,vW,oh,MM,<- Nat.div_div_eq_div_mul];generalize (2*n-1) / 2^d=e at *;lia
theorem fw.th{n:Nat}:∀{d:Nat} {S:List (List Nat)},fw n d S->S.flatten.length<=n*d
 |0,S,h=>by rw[show S=[] from h];exact KW _
 |d+1,S,⟨S0,h,p⟩=>by
  have h1:=fw.th h;have h2:=Ef S0;rw[(jJ p).length_eq,Mk,K6,pj,Lo,Nat.mul_succ];lia
theorem xM{n:Nat}{C Y:List (List Nat)}(h:(coins n).Perm (C++Y)):(∀i,C.flatten.count i<=1)/\C.flatten.length=C.length/\∀i∈C.flatten,i<n:=by
 have h1:(List.range n).Perm (C.flatten++Y.flatten):=by rw[<- Mk,<- pj];exact jJ h
 have hm:∀x∈C,x.length=1:=λx hx=>by
  obtain⟨i,_,e⟩:=L3.mp (h.mem_iff.mpr (Lq.mpr (.inl hx)));rw[<- e];rfl
 refine⟨λi=>?_,?_,λi hi=>LA.mp (h1.mem_iff.mpr (Lq.mpr (.inl hi)))⟩
 ·have h2:=h1.count_eq i;rw[List.count_append] at h2;have h3:(List.range n).count i<=1:=List.nodup_iff_count.mp Ow i;lia
 ·clear h h1
  induction C with
  |nil=>rfl
  |cons x C ih =>
   have:=hm x KG;rw[Lr,K6,KQ,ih λy hy=>hm y (KI _ hy)];lia
theorem B1(a b D:Nat):(a+b)*2^(D+1)=2*(2^D*a)+2*b*2^D:=by
 rw[MM];generalize 2^D=x;have h1:a*(x*2)=2*(x*a):=by rw[NN a,NN x 2,Nj]
 have h2:b*(x*2)=2*b*x:=by rw[NN x 2,<- Nj,NN b 2]
 rw[Qe,h1,h2]
theorem two_split{D a:Nat}(h:a<=D):2^(D+1-a)=2*2^(D-a):=by
 rw[show D+1-a=(D-a)+1 by lia,MM];lia
theorem worth{n:Nat}:∀{D:Nat} {S:List (List Nat)},fw n D S->∀(X Y:List (List Nat)),S.Perm (X++Y)->(∀i,X.flatten.count i<=D)/\X.length*2^D<=2*sN (λi=>2^D-2^(D-X.flatten.count i)) n
 |0,S,hS,X,Y,h=>by
  rw[show S=[] from hS] at h;have:X=[]:=(Oh.mp h.symm.eq_nil).1;subst this;exact⟨λi=>KH 0,by simp⟩
 |D+1,S,⟨S0,hS,hp⟩,X,Y,h=>by
  obtain⟨C,P,Y1,Y2,p1,p2,p3⟩:=split _ _ X Y (hp.symm.trans h);obtain⟨X',Y',q1,q2,q3⟩:=rT _ _ _ p3;obtain⟨i1,i2⟩:=worth hS X' Y' q1;obtain⟨c1,c2,c3⟩:=xM p2;have e:∀i,X.flatten.count i=C.flatten.count i+X'.flatten.count i:=λi=>by
   rw[(jJ p1).count_eq,Mk,List.count_append,q3.count_eq]
  have hl:X.length=C.length+P.length:=by rw[p1.length_eq,K6]
  refine⟨λi=>by rw[e];have:=c1 i;have:=i1 i;lia,?_⟩
  have key:sN (λi=>2^D*C.flatten.count i+(2^D-2^(D-X'.flatten.count i))) n<=sN (λi=>2^(D+1)-2^(D+1-X.flatten.count i)) n:=Ec λi _=>by
   have a1:=c1 i;have a2:=i1 i;have a3:2^(D-X'.flatten.count i)<=2^D:=M9 (by decide) (Pe _ _)
   have a4:2^(D+1)=2*2^D:=by rw[MM];lia
   rw[e i];rcases NU (C.flatten.count i) with z|z
   ·rw[z,Mv,two_split a2,a4];lia
   ·rw[show C.flatten.count i=1 by lia,show D+1-(1+X'.flatten.count i)=D-X'.flatten.count i by lia,a4];lia
  rw[nB,sX,yA c3,c2] at key;rw[q2] at i2;rw[hl,B1];lia
theorem A0(L:Nat)(l:Nat->Nat)(n:Nat):Kr.ks L ((List.range n).map l)=sN (λi=>2^(L-l i)) n:=by
 induction n with
 |zero=>rfl
 |succ n ih=>rw[M7,KN,Kr.cC,ih];simp[sN,Kr.ks]
theorem BX{n D:Nat}(hS:fw n D S)(hn:2<=n)(hD:n<=2^D){l:Nat->Nat}(hl:l=λi=>(S.take (2*n-2)).flatten.count i):
  (∀i,l i<=D)/\(∀i,i<n->1<=l i)/\sN (λi=>2^(D-l i)) n<=2^D:=by
 obtain⟨w1,w2⟩:=worth hS (S.take (2*n-2)) (S.drop (2*n-2)) (by rw[LI])
 have hlen:=hS.len (by lia)
 have he:(2*n-1) / 2^D<2:=(Nat.div_lt_iff_lt_mul (Qd (by decide))).mpr (by lia)
 have e1:(S.take (2*n-2)).length=2*n-2:=by rw[K_];lia
 rw[e1] at w2;have w1':∀i,l i<=D:=λi=>by rw[hl];exact w1 i
 have w2':(2*n-2)*2^D<=2*sN (λi=>2^D-2^(D-l i)) n:=by rw[hl];exact w2
 clear w1 w2 hl e1 hlen he hS;have w3:sN (λi=>2^D-2^(D-l i)) n+sN (λi=>2^(D-l i)) n=n*2^D:=by
  rw[<- nB,iR (g:=λ_=>2^D) λi _=>Nat.sub_add_cancel (M9 (by decide) (Pe _ _)),qp]
 have h2:(2*n-2)*2^D=2*(n*2^D)-2*2^D:=by rw[Nat.sub_mul,Nj]
 have hks:sN (λi=>2^(D-l i)) n<=2^D:=by
  have:n*2^D >= 1*2^D:=OC _ (by lia)
  lia
 refine⟨w1',λi hi=>?_,hks⟩;rcases NU (l i) with z|z
 ·exfalso
  have hpos:∀j,1<=2^(D-l j):=λj=>Qd (by decide)
  obtain⟨j,hj,hji⟩:∃j,j<n/\j≠i:=if h:i=0 then ⟨1,by lia,by lia⟩ else ⟨0,by lia,by lia⟩
  have:sN (λk=>(2^D*if i=k then 1 else 0)+if j=k then 1 else 0) n<=sN (λi=>2^(D-l i)) n:=Ec λk hk=>by
   by_cases a:i=k
   ·subst a;rw[KO rfl,KJ hji,z];simp
   ·rw[KJ a];have:=hpos k;by_cases b:j=k
    ·rw[KO b];lia
    ·rw[KJ b];lia
  rw[nB,r6,KO hj,sX,r6,KO hi] at this;lia
 ·exact z
end Pn
theorem zA{n D:Nat}(hS:Pn.fw n D S)(hn:2<=n)(h20:n<=20)(hD:n<=2^D)(hD2:D<=20)(hl:ls=(List.range n).map λi=>(((S.take (2*n-2)).flatten.count i:Nat):Int)):ia ls/\jG ls=true:=by
 obtain⟨a,b,c⟩:=Pn.BX hS hn hD rfl;subst hl;refine⟨⟨by rw[K2,Lo];lia,by rw[K2,Lo];lia,λx hx=>?_⟩,?_⟩
 ·obtain⟨i,hi,rfl⟩:=L3.mp hx;have h1:=b i (LA.mp hi);have h2:=a i;lia
 ·unfold jG KS;rw[LM,show (Int.toNat ∘ λi=>(((S.take (2*n-2)).flatten.count i:Nat):Int))=λi=>(S.take (2*n-2)).flatten.count i from funext λi=>Lg _,Pn.A0];refine Li ?_;rw[Pn.iR (g:=λi=>2^(40-D)*2^(D-(S.take (2*n-2)).flatten.count i)) λi _=>by rw[<- OP];congr 1;have:=a i;lia,Pn.sX,show 2^40=2^(40-D)*2^D by rw[<- OP];congr 1;lia]
  exact Nat.mul_le_mul_left _ c
namespace Cw
noncomputable def inc:List Nat->List Nat
 |[]=>[]
 |c::r=>if r.all (· == 49) then (if c=48 then 49::r.map (λ_=>48) else 48::r.map (λ_=>48)) else c::inc r
noncomputable def pad(n:Nat)(w:List Nat):List Nat:=w++List.replicate (n-w.length) 48
def fk(w:List Nat)(n:Nat):List Nat:=pad n (inc w)
def fi(w:List Nat)(n:Nat):List Nat:=pad n ((w.reverse.dropWhile (· == 49)).reverse.dropLast++[49])
theorem Hu:∀w:List Nat,w.all (· == 49)=true->inc w=w.map λ_=>48
 |[],_=>rfl
 |c::r,h=>by
  rw[MD,LK] at h;have hc:c=49:=beq_iff_eq.mp h.1;unfold inc;rw[KO h.2,KJ (by rw[hc];decide),Lp]
theorem nT:∀{l:List Nat},l.all (· == 49)=true->l=List.replicate l.length 49
 |[],_=>rfl
 |c::r,h=>by
  rw[MD,LK] at h;have hc:c=49:=beq_iff_eq.mp h.1;rw[KQ,L6,<- nT h.2,hc]
theorem Dh(k:Nat):(List.replicate k 49).all (· == 49)=true:=by
 rw[Mw];intro x hx;rw[(Mb.mp hx).2];rfl
theorem parts:∀{w:List Nat},(∀c∈w,c=48\/c=49)->w.all (· == 49)=false->∃p k,w=p++48::List.replicate k 49
 |[],_,h=>by cases h
 |c::r,hb,h=>by
  by_cases z:r.all (· == 49)=true
  ·rw[MD,z,Oo] at h;have hc:c=48:=(hb c KG).resolve_right λe=>by rw[e] at h;cases h
   exact⟨[],r.length,by rw[hc,L_,<- nT z]⟩
  ·obtain⟨p,k,e⟩:=parts (w:=r) (λx hx=>hb x (KI _ hx)) (by simpa using z)
   exact⟨c::p,k,by rw[e];rfl⟩
theorem gC(k:Nat):∀p:List Nat,inc (p++48::List.replicate k 49)=p++49::List.replicate k 48
 |[]=>by
  rw[L_,L_];unfold inc;rw[KO (Dh k),KO rfl,MO]
 |c::p=>by
  rw[Me];unfold inc;have z:¬ (p++48::List.replicate k 49).all (· == 49)=true:=by
   rw[List.all_append,MD];simp
  rw[KJ z,gC k p];rfl
theorem rQ(k:Nat)(p:List Nat):((p++48::List.replicate k 49).reverse.dropWhile (· == 49)).reverse=p++[48]:=by
 rw[OG,List.reverse_cons,List.reverse_replicate];have e:∀(k:Nat) (t:List Nat),(List.replicate k 49++[48]++t).dropWhile (· == 49)=[48]++t:=λk t=>by
  induction k with
  |zero=>rfl
  |succ k ih=>rw[L6,Me,Me,ND,KO (by decide)];exact ih
 rw[e,OG,N6];rfl
theorem mO{w:List Nat}{n:Nat}(hb:∀c∈w,c=48\/c=49)(h:w.all (· == 49)=false)(hn:w.length<=n):fi w n=fk w n:=by
 obtain⟨p,k,rfl⟩:=parts hb h;unfold fi fk pad;rw[rQ,gC,List.dropLast_append_of_ne_nil (by simp)]
 rw[K6,KQ,KY] at hn;simp only[List.dropLast_singleton,LF,K6,KQ,KY,LS,Ld,Me,L_];congr 2;rw[List.replicate_append_replicate];congr 1;lia
noncomputable def val:List Nat->Nat
 |[]=>0
 |c::r=>(c-48)*2^r.length+val r
theorem gP:∀a b:List Nat,val (a++b)=val a*2^b.length+val b
 |[],b=>by simp[val]
 |c::a,b=>by
  rw[Me,val,val,gP a b,K6,OP,Qe,Nj,NB]
theorem fv:∀k,val (List.replicate k 48)=0
 |0=>rfl
 |k+1=>by rw[L6,val,fv k];simp
theorem lj:∀k,val (List.replicate k 49)+1=2^k
 |0=>rfl
 |k+1=>by
  have:=lj k;rw[L6,val,KY,MM];lia
theorem nN:∀w:List Nat,(inc w).length=w.length
 |[]=>rfl
 |c::r=>by
  unfold inc;split
  ·split<;>simp
  ·rw[KQ,KQ,nN r]
theorem pO:∀{w:List Nat},(∀c∈w,c=48\/c=49)->∀c∈inc w,c=48\/c=49
 |[],_,_,h=>by cases h
 |d::r,hb,c,h=>by
  unfold inc at h
  split at h
  ·split at h
   ·rcases KL.mp h with h|h
    ·exact .inr h
    ·obtain⟨_,_,e⟩:=L3.mp h;exact .inl e.symm
   ·rcases KL.mp h with h|h
    ·exact .inl h
    ·obtain⟨_,_,e⟩:=L3.mp h;exact .inl e.symm
  ·rcases KL.mp h with h|h
   ·rw[h];exact hb d KG
   ·exact pO (λx hx=>hb x (KI _ hx)) c h
theorem eK{w:List Nat}{n:Nat}(h:w.length<=n):(fk w n).length=n:=by
 unfold fk pad;rw[K6,KY,nN];lia
theorem mF{w:List Nat}{n:Nat}(hb:∀c∈w,c=48\/c=49):∀c∈fk w n,c=48\/c=49:=λc h=>by
 rcases Lq.mp h with h|h
 ·exact pO hb c h
 ·exact .inl (Mb.mp h).2
theorem qz{w:List Nat}{n:Nat}(hb:∀c∈w,c=48\/c=49)(h:w.all (· == 49)=false):val (fk w n)=(val w+1)*2^(n-w.length):=by
 unfold fk pad;rw[gP,fv,KY,nN,Q6];congr 1;obtain⟨p,k,rfl⟩:=parts hb h;have:=lj k;rw[gC,gP,gP,val,val,fv,KQ,KQ,KY,KY];lia
theorem yG{w:List Nat}(h:w.all (· == 49)=true):val w+1=2^w.length:=by
 rw[nT h,KY];exact lj _
structure hU (done:List Nat) (w:List Nat):Prop where
 bits:∀c∈w,c=48\/c=49
 len:w.length<=40
 sum:(val w+1)*2^(40-w.length)=Kr.ks 40 done
theorem hU.zero{done rest w:List Nat}{l:Nat}(h:hU done w)(hk:Kr.ks 40 done+2^(40-l)<=2^40):w.all (· == 49)=false:=by
 cases z:w.all (· == 49) with
 |false=>rfl
 |true =>
  have e:=h.sum;rw[yG z,<- OP,Nat.add_sub_cancel' h.len] at e;have:0<2^(40-l):=Qd (by decide)
  lia
theorem hU.next{done w:List Nat}{l:Nat}(h:hU done w)(hl:w.length<=l)(hl2:l<=40)(hk:Kr.ks 40 done+2^(40-l)<=2^40):hU (done++[l]) (fk w l):=by
 have z:=h.zero (rest:=[]) hk;refine⟨mF h.bits,by rw[eK hl];exact hl2,?_⟩
 rw[qz h.bits z,eK hl,Qe,Nj,<- OP,Kr.cC,<- h.sum];have e:l-w.length+(40-l)=40-w.length:=by lia
 rw[e];simp[Kr.ks]
theorem hU.first{l:Nat}(hl:l<=40):hU [l] (List.replicate l 48):=⟨λc h=>.inl (Mb.mp h).2,by rw[KY];exact hl,by rw[fv,KY];simp[Kr.ks]⟩
noncomputable def along(nx:List Nat->Nat->List Nat)(ln:Nat->Nat):List Nat->Option (List Nat)×List (List Nat)->Option (List Nat)×List (List Nat)
 |[],s=>s
 |t::r,(a,ws) =>
  let w:=match a with|none=>List.replicate (ln t) 48|some v=>nx v (ln t)
  along nx ln r (some w,ws.set t w)
theorem iu:∀(order done:List Nat) (a:Option (List Nat)) (ws:List (List Nat)),(order.Pairwise λi j=>ln i<=ln j)->(∀t∈order,ln t<=40)->(∀v,a=some v->hU done v/\∀t∈order,v.length<=ln t)->(a=none->done=[])->Kr.ks 40 (done++order.map ln)<=2^40->along fi ln order (a,ws)=along fk ln order (a,ws)
 |[],_,_,_,_,_,_,_,_=>rfl
 |t::r,done,a,ws,hp,h20,ha,hn,hk=>by
  obtain⟨p1,p2⟩:=L4.mp hp;have ht:=h20 t KG;have hk':Kr.ks 40 ((done++[ln t])++r.map ln)<=2^40:=by rw[Ld];exact hk
  cases a with
  |none =>
   have:=hn rfl;subst this;exact iu r [ln t] _ _ p2 (λx hx=>h20 x (KI _ hx)) (λv e=>by cases e;exact⟨hU.first ht,λx hx=>by rw[KY];exact p1 x hx⟩) (λe=>by cases e) hk'
  |some v =>
   obtain⟨hv,hl⟩:=ha v rfl;have hvl:=hl t KG;have hk2:Kr.ks 40 done+2^(40-ln t)<=2^40:=by
    rw[Kr.cC,Kr.cC] at hk';simp[Kr.ks] at hk';lia
   have e:=mO hv.bits (hv.zero (rest:=[]) hk2) hvl;show along fi ln r (some (fi v (ln t)),ws.set t (fi v (ln t)))=along fk ln r (some (fk v (ln t)),ws.set t (fk v (ln t)));rw[e];exact iu r (done++[ln t]) _ _ p2 (λx hx=>h20 x (KI _ hx)) (λu e=>by cases e;exact⟨hv.next hvl ht hk2,λx hx=>by rw[eK hvl];exact p1 x hx⟩) (λe=>by cases e) hk'
theorem fB{nx:List Nat->Nat->List Nat}:∀(a b:List Nat) (s:Option (List Nat)×List (List Nat)),along nx ln (a++b) s=along nx ln b (along nx ln a s)
 |[],_,_=>rfl
 |t::r,b,(a,ws)=>fB r b _
theorem gN{nx:List Nat->Nat->List Nat}:∀(o:List Nat) (s:Option (List Nat)×List (List Nat)),(along nx ln o s).2.length=s.2.length
 |[],_=>rfl
 |t::r,(a,ws)=>(gN r _).trans LR
end Cw
local macro_rules | `(tactic| walk_at "lc") => `(tactic| first | exact Or.inl rfl | exact Or.inr rfl)
local macro_rules | `(tactic| wp_walk using $ts,*) => do
  let ids := ("Nat.reduceAdd Nat.reduceSub L2.Ap.wZ L2.Ap.tC L2.Ap.Aa L2.Ap.IE L2.Ap.lW L2.Ap.HW L2.Ap.Ab L2.Ap.Hg L2.Ap.yS L2.Ap.ie L2.Ap.mB L2.Ap.tK L2.Ap.CB L2.Ap.j0 L2.Ap.Al L2.Ap.zg L2.Ap.gT L2.Ap.zM L2.Ap.Ga L2.Ap.xZ L2.Ap.Ib L2.Ap.iT L2.Ap.pU L2.Ap.wz L2.Ap.lQ L2.Ap.aL L2.Ap.z_ L2.Ap.kB L2.Ap.d9 L2.Ap.jP L2.Ap.yi L2.Ap.qd L2.Ap.oY L2.Ap.q_ L2.Ap.mT L2.Ap.mK L2.Ap.zJ L2.Ap.pR Ci zj L2.Ap.rI L2.Ap.Az L2.Ap.rU L2.Ap.HV L2.Ap.Il L2.Ap.HB L2.Ap.JM L2.Ap.Jt L2.Ap.Js L2.Ap.JX L2.Ap.IF L2.Ap.Hh L2.Ap.setRef L2.Ap.GD L2.Ap.Gu L2.Ap.Ir L2.Ap.JW L2.Ap.JC L2.Ap.Gz L2.Ap.HE L2.Ap.HP L2.Ap.JT L2.Ap.Fh L2.Ap.BN L2.Ap.Ku L2.start Iz JL JJ JU E3 List.map_cons List.map_nil List.length_cons List.length_nil List.replicate List.cons_append List.nil_append List.append_nil List.getElem?_cons_zero List.getElem?_cons_succ List.set_cons_zero List.set_cons_succ Option.some.injEq exists_eq_left exists_eq_left' V.int.injEq V.str.injEq V.bl.injEq V.ref.injEq List.cons.injEq and_true true_and decide_eq_true_eq Bool.not_eq_true' decide_eq_false_iff_not Bool.false_eq_true L2.Ap.yn L2.Ap.pX L2.Ap.za L2.Ap.kX L2.Ap.kU".splitOn " ").toArray.map λn => Lean.mkIdent n.toName
  `(tactic| simp only [↓reduceIte, $[$ids:ident],*, $[$ts:term],*])
local macro_rules | `(tactic| walk_at "rz") => `(tactic| wp_walk using and_self)
local macro_rules|`(tactic|rfl')=>`(tactic|wp_walk using and_self)
local macro_rules|`(tactic|symm)=>do
  let n:=Lean.mkIdent `N
  let h:=Lean.mkIdent `hN
  `(tactic|(refine $h _ ?_;clear $h $n;refine ar λ$n $h=>?_))
local macro_rules|`(tactic|ac_rfl)=>do
  let n:=Lean.mkIdent `N
  let h:=Lean.mkIdent `hN
  `(tactic|(refine $h _ ?_;clear $h $n))
local macro_rules|`(tactic|right)=>`(tactic|walk_at "lc")
local macro_rules|`(tactic|exists $ts,*)=>`(tactic|wp_walk using $ts,*)
local macro_rules|`(tactic|left)=>do
  let i:=#[`args,`Qt,`hl,`h,`f,`cdv,`A,`outer,`s,`H,`E,`hr].map Lean.mkIdent
  let u:=Lean.mkIdent `hu
  `(tactic|(intro $[$i:ident]*;have $u:ident:=aN $(Lean.mkIdent `hr)))
noncomputable def wd(w:List Nat):Str:=⟨w.toArray⟩
theorem aK(w:List Nat):(wd w).length=w.length:=KC ..
theorem A_{x:Str}{w:List Nat}(h:x.cps.toList=w):x=wd w:=by
 cases x with|mk a=>subst h;unfold wd;rw[N7]
def HK:Sp:=λvs H Q _=>∃n:Nat,n<=40/\((vs=[.aO,.int (n:Int)]/\Q (.str (wd (List.replicate n 48))) H)\/∃w,vs=[.str (wd w),.int (n:Int)]/\w.length<=40/\Q (.str (wd (Cw.fi w n))) H)
theorem wo(T:Txt K mg)(F:HasFn K mg "word_behind" fb ["ahead","length"]):ao P w K mg base aS 1 "word_behind" ["ahead","length"] HK:=by
 refine F.dR kh (λvs H Q E h=>?_) (λf cdv A outer s H vs Q E hr h=>?_)
 ·obtain⟨n,hn,⟨rfl,_⟩|⟨_,rfl,_⟩⟩:=h<;>rfl
 ·have hu:=aN hr;obtain⟨n,hn,h⟩:=h;rcases h with ⟨rfl,q⟩|⟨v,rfl,hv,q⟩
  ·refine⟨_,(Z.aq (Z.dW (Z.bp dC (Z.v 0) Z.aO) (Z.az (Z.ret (Z.op Y.vt Z.str (Z.v 1)))) Z.bB)
   (Z.az (Z.ret (Z.bm K rfl PySem.F.plainAttrs_str PySem.F.slot_str_ljust PySem.F.type_str_ljust Y.pH (Z.op (Z.aQ K rfl) (Z.slice Y.jh (Z.bm K rfl PySem.F.plainAttrs_str PySem.F.slot_str_rstrip PySem.F.type_str_rstrip Y.n6 (Z.v 0) (Z.cons Z.str Z.nil)) Z.t9 (Z.oW (Z.un cP Z.int))) Z.str) (Z.cons (Z.v 1) (Z.cons Z.str Z.nil)))))),?_⟩
   refine ar λN hN=>?_;walk_at "rz";refine⟨48,_,rfl,rfl,by lia,by lia,?_⟩
   rw[Lg];exact q
  ·refine⟨_,(Z.aq (Z.dW (Z.bp dC (Z.v 0) Z.aO) (Z.az (Z.ret (Z.op Y.vt Z.str (Z.v 1)))) Z.bB)
   (Z.az (Z.ret (Z.bm K rfl PySem.F.plainAttrs_str PySem.F.slot_str_ljust PySem.F.type_str_ljust Y.pH (Z.op (Z.aQ K rfl) (Z.slice Y.jh (Z.bm K rfl PySem.F.plainAttrs_str PySem.F.slot_str_rstrip PySem.F.type_str_rstrip Y.n6 (Z.v 0) (Z.cons Z.str Z.nil)) Z.t9 (Z.oW (Z.un cP Z.int))) Z.str) (Z.cons (Z.v 1) (Z.cons Z.str Z.nil)))))),?_⟩
   refine ar λN hN=>?_;walk_at "rz";rw[hN];clear hN N;walk_at "rz";rw[KJ V.noConfusion];refine⟨rfl,wd v,_,rfl,rfl,by rw[aK];exact KA hv (by decide),?_⟩
   have e0:(Str.ofString "1").cps.contains=λc:Nat=>c == 49:=by
    funext c
    show (#[49]:Array Nat).contains c=_;rw[Array.contains_eq_any_beq];simp
   have e1:=pZ (wd v) (Str.ofString "1");rw[e0] at e1;have e2:(Txt.rstripChars (wd v) (Str.ofString "1")).cps.toList=(v.reverse.dropWhile (· == 49)).reverse:=by
    rw[<- N6 (Txt.rstripChars (wd v) (Str.ofString "1")).cps.toList,e1];rfl
   generalize Txt.rstripChars (wd v) (Str.ofString "1")=r at e2 ⊢;have hr2:r.length<=40:=by
    have:r.length=r.cps.toList.length:=by rw[L5];rfl
    rw[this,e2,Nd];exact KA (Oi _).length_le (by rw[Nd];exact hv)
   have e3:(Y.fV r none (some (-1))).cps.toList=r.cps.toList.dropLast:=by
    show (Y.ml r.cps.toList none (some (-1))).toArray.toList=_;rw[OH];unfold Y.ml;rw[HT.cY,LD,MZ,N2];congr 1;show (if (-1:Int)<0 then ((-1:Int)+(r.cps.toList.length:Int)).toNat else min (-1:Int).toNat r.cps.toList.length)=_
    rw[KO (by decide)]
    lia
   have hl3:(Y.fV r none (some (-1))).length<=40:=by
    have:(Y.fV r none (some (-1))).length=(Y.fV r none (some (-1))).cps.toList.length:=by rw[L5];rfl
    rw[this,e3,OD,L5];exact KA (Pe _ _) hr2
   refine⟨r,rfl,KA hr2 (by decide),?_⟩
   refine⟨KA (show _<=41 from Nat.add_le_add_right hl3 1) (by decide),rfl,_,(n:Int),_,rfl,rfl,by lia,by lia,rfl,?_⟩
   have e4:Txt.ljustF (Y.fV r none (some (-1))++Str.ofString "1") (n:Int) ((Str.ofString "0").cps.getD 0 0)=wd (Cw.fi v n):=by
    refine A_ ?_;rw[PyProof.Rows.ljustF_list,Lg];have e5:(Y.fV r none (some (-1))++Str.ofString "1").cps.toList=(v.reverse.dropWhile (· == 49)).reverse.dropLast++[49]:=by
     show ((Y.fV r none (some (-1))).cps++#[49]).toList=_;rw[Nf,e3,e2]
    have e6:(Y.fV r none (some (-1))++Str.ofString "1").length=((v.reverse.dropWhile (· == 49)).reverse.dropLast++[49]).length:=by
     rw[<- e5,L5];rfl
    rw[e5,e6];rfl
   rw[e4];exact q
theorem B6:Str.ofString ""=wd []:=rfl
theorem xg(z y:List Nat)(p:Nat)(hy:y≠[]):Y.jY (wd z) (wd y) (p:Int)=decide (y <+: z.drop p):=by
 have hl:0<y.length:=NF.mpr hy;unfold Y.jY;have e0:fromIndex (wd z).length (p:Int)=p:=by unfold fromIndex;rw[KJ (by lia)];lia
 rw[e0];have e:Builtin.Str.subAt (wd z) (wd y) p=decide ((z.drop p).take y.length=y):=by
  unfold Builtin.Str.subAt wd;rw[Nl,beq_iff_eq,MB,<- Ov,Array.toList_extract,Po];rw[show (⟨y.toArray⟩:Str).length=y.length from KC ..];simp
 rw[e,Nl,LK,MB,MB,MB,List.prefix_iff_eq_take,aK,aK];refine⟨λh=>h.2.symm,λh=>⟨?_,h.symm⟩⟩;have:=Lw List.length h;rw[K_,Ly] at this;lia
noncomputable def yQ(ws:List (List Nat))(z:List Nat)(p:Nat):Option Nat:=(List.range ws.length).find? λi=>decide (ws.getD i [] <+: z.drop p)
theorem kQ{ws:List (List Nat)}(h:yQ ws z p=some t):t<ws.length/\ws.getD t [] <+: z.drop p:=by
 have h1:=NI h;have h2:=PN h;exact⟨LA.mp h1,LC h2⟩
theorem zB{ws:List (List Nat)}(h:yQ ws z p=none)(ht:t<ws.length):¬ ws.getD t [] <+: z.drop p:=λhp=>by
 have:=List.find?_eq_none.mp h t (LA.mpr ht);exact this (Li hp)
structure Pf (ws:List (List Nat)):Prop where
 ne:∀w∈ws,w≠[]
 pre:∀(i j:Nat) (hi:i<ws.length) (hj:j<ws.length),i≠j->¬ ws[i] <+: ws[j]
theorem Pf.th{ws:List (List Nat)}(h:Pf ws)(ht:t<ws.length)(hp:ws.getD t [] <+: z.drop p):yQ ws z p=some t:=by
 cases c:yQ ws z p with
 |none=>exact absurd hp (zB c ht)
 |some i =>
  obtain⟨hi,hpi⟩:=kQ c;by_cases e:i=t
  ·rw[e]
  ·have g:∀{k:Nat} (hk:k<ws.length),ws.getD k []=ws[k]:=λhk=>by rw[KD,K1 hk];rfl
   rw[g hi] at hpi;rw[g ht] at hp;rcases List.prefix_or_prefix_of_prefix hpi hp with q|q
   ·exact absurd q (h.pre i t hi ht e)
   ·exact absurd q (h.pre t i ht hi (Mc e))
theorem wH{ws:List (List Nat)}(n:Nat)(h:n<ws.length):(List.range' n (ws.length-n)).find? (λi=>decide (ws.getD i [] <+: z.drop p))=if ws[n] <+: z.drop p then some n else (List.range' (n+1) (ws.length-(n+1))).find? λi=>decide (ws.getD i [] <+: z.drop p):=by
 rw[show ws.length-n=(ws.length-(n+1))+1 by lia,Mx,M5]
 rw[KD,K1 h];show (match decide (ws[n] <+: z.drop p) with|true=>some n|false=>_)=_
 by_cases c:ws[n] <+: z.drop p
 ·rw[Li c,KO c]
 ·rw[Lf c,KJ c]
def wV(ws:List (List Nat)):List V:=ws.map λw=>.str (wd w)
noncomputable def xD:Option Nat->V
 |none=>.aO
 |some t=>.int (t:Int)
def tS(K:W.Frag):Sp:=λvs H Q _=>∃(a:Addr) (ws:List (List Nat)) (z:List Nat) (p:Nat),vs=[.ref a,.str (wd z),.int (p:Nat)]/\aX K H a (wV ws)/\(∀w∈ws,w≠[])/\ws.length<=100/\z.length<=1000000/\∀H',KB [] H H'->Q (xD (yQ ws z p)) H'
theorem Aw(T:Txt K mg)(F:HasFn K mg "thing_at" hW ["code","bits","place"]):ao P w K mg base aS 1 "thing_at" ["code","bits","place"] (tS K):=by
 refine F.dR gB (λvs H Q E h=>?_) (λf cdv A outer s H vs Q E hr h=>?_)
 ·obtain⟨a,ws,z,p,rfl,_⟩:=h;rfl
 ·have hu:=aN hr;obtain⟨a,ws,z,p,rfl,ha,hne,h100,hz,q⟩:=h;refine⟨_,(Z.aq (Z.dO Lm rfl (Z.enum K rfl rfl T.cR (Z.cons (Z.v 0) Z.nil)) (Z.gQ (n:=2) K rfl rfl (Z.aZ (Z.aG (i:=3) gB.nd rfl (by right)) (Z.aZ (Z.aG (i:=4) gB.nd rfl (by right)) Z.dJ))) (Z.az (Z.dW (Z.tw (Z.wK (Z.bp Fv (Z.v 4) Z.str) (Z.mN (Z.pI K rfl (Z.bm K rfl PySem.F.plainAttrs_str PySem.F.slot_str_startswith PySem.F.type_str_startswith Y.rX (Z.v 1) (Z.cons (Z.v 4) (Z.cons (Z.v 2) Z.nil))))))) (Z.az (Z.ret (Z.v 3))) Z.bB)))
   (Z.az (Z.ret Z.aO))),?_⟩
  refine ar λN hN=>?_;walk_at "rz";refine⟨⟨_,ha⟩,?_⟩;refine tF (xs:=wV ws) (λi σ H'=>KB [] H H'/\i<=ws.length/\(List.range' i (ws.length-i)).find? (λi=>decide (ws.getD i [] <+: z.drop p))=yQ ws z p/\∃(s3 s4:Option V),σ=[some (.ref a),some (.str (wd z)),some (.int (p:Nat)),s3,s4]) ⟨KB.refl _ _,KW _,by unfold yQ;rw[OA];rfl,none,none,rfl⟩ ?_ ?_ ?_
  ·rintro i σ H' hi ⟨k,_⟩;exact Kc ha k
  ·rintro i x σ H' b hx ⟨k,hi,ef,s3,s4,rfl⟩ hb;have hlt:i<ws.length:=by
    have:=(K7.mp hx).1;unfold wV at this;rw[K2] at this;exact this
   have ex:x=.str (wd ws[i]):=by
    unfold wV at hx;rw[K8,K1 hlt] at hx;exact (Option.some.inj hx).symm
   subst ex;refine⟨b,_,rfl,aX.of aa,rfl,?_⟩;have k1:KB [] H (upd H' b (.tup [.int i,.str (wd ws[i])])):=k.trans (KB.new hb);generalize upd H' b (.tup [.int i,.str (wd ws[i])])=H1 at k1;have h0:ws[i]≠[]:=hne _ (KZ hlt);have hne':¬ wd ws[i]=Str.ofString "":=λe=>h0 (by rw[B6] at e;exact Lw (λs:Str=>s.cps.toList) e)
   rw[wH i hlt] at ef;walk_at "rz";rw[KO hne'];refine⟨rfl,_,_,_,rfl,rfl,_,rfl,?_⟩;rw[xg z ws[i] p h0];by_cases c:ws[i] <+: z.drop p
   ·rw[KO c] at ef;rw[<- ef] at q;rw[KO (Li c)];exact q _ k1
   ·rw[KJ c] at ef;rw[KJ (by rw[Lf c];exact KP)]
    exact⟨k1,hlt,ef,_,_,rfl,rfl⟩
  ·rintro σ H' ⟨k,_,ef,s3,s4,rfl⟩;have e:(wV ws).length=ws.length:=K2 ..;rw[e,LU] at ef;have ef':yQ ws z p=none:=ef.symm;rw[ef'] at q;show N _ _;rw[hN];clear hN N;walk_at "rz";exact q _ k
def kC(ws:List (List Nat))(z:List Nat)(p:Nat):Option (Nat×Nat):=(yQ ws z p).map λt=>(t,p+(ws.getD t []).length)
theorem fO{ws:List (List Nat)}{x:Nat×Nat}(hne:∀w∈ws,w≠[])(h:kC ws z p=some x):x.1<ws.length/\x.2=p+(ws.getD x.1 []).length/\p<x.2/\x.2<=z.length:=by
 unfold kC at h
 cases c:yQ ws z p with
 |none=>rw[c] at h;cases h
 |some t =>
  rw[c] at h;cases h;obtain⟨h1,h2⟩:=kQ c;have h3:=h2.length_le;rw[Ly] at h3;have h4:ws.getD t []≠[]:=by rw[KD,K1 h1];exact hne _ (KZ h1)
  have h5:=NF.mpr h4;exact⟨h1,rfl,by show p<p+_;lia,by show p+_<=_;lia⟩
def Ke(H:Hp)(v:V):Option (Nat×Nat)->Prop
 |none=>v=.aO
 |some x=>∃t,v=.ref t/\H t=some (.tup [.int (x.1:Nat),.int (x.2:Nat)])
def iI(K:W.Frag):Sp:=λvs H Q _=>∃(a:Addr) (ws:List (List Nat)) (z:List Nat) (p:Nat),vs=[.ref a,.str (wd z),.int (p:Nat)]/\aX K H a (wV ws)/\(∀w∈ws,w≠[])/\ws.length<=100/\z.length<=1000000/\∀v H',KB [] H H'->Ke H' v (kC ws z p)->Q v H'
theorem xI(T:Txt K mg)(F:HasFn K mg "coded_at" ig ["code","bits","place"])(hthing_at:ao P w K mg base aS 1 "thing_at" ["code","bits","place"] (tS K)):ao P w K mg base aS 2 "coded_at" ["code","bits","place"] (iI K):=by
 refine F.dR j4 (λvs H Q E h=>?_) (λf cdv A outer s H vs Q E hr h=>?_)
 ·obtain⟨a,ws,z,p,rfl,_⟩:=h;rfl
 ·have hu:=aN hr;obtain⟨a,ws,z,p,rfl,ha,hne,h100,hz,q⟩:=h;refine⟨_,(Z.aq (Z.se (i:=3) j4.nd (Z.fc hthing_at (Z.cons (Z.v 0) (Z.cons (Z.v 1) (Z.cons (Z.v 2) Z.nil)))))
   (Z.az (Z.ret (Z.ER (Z.bp dC (Z.v 3) Z.aO) Z.aO (Z.tup (Z.cons (Z.v 3) (Z.cons (Z.op (Z.aQ K rfl) (Z.v 2) (Z.cb (Z.cx K rfl) rfl T.cp (by decide +kernel) (Z.cons (Z.ix (Z.gY K rfl) (Z.v 0) (Z.v 3)) Z.nil))) Z.nil))))))),?_⟩
  refine ar λN hN=>?_;walk_at "rz";refine⟨a,ws,z,p,rfl,ha,hne,h100,hz,λH1 k1=>?_⟩;rw[hN];clear hN N;have ha1:=Kc ha k1;unfold kC at q
  cases c:yQ ws z p with
  |none =>
   rw[c] at q;unfold xD;walk_at "rz";exact q _ _ k1 rfl
  |some t =>
   rw[c] at q;obtain⟨h1,h2⟩:=kQ c;unfold xD;walk_at "rz";rw[KJ V.noConfusion];have h3:=h2.length_le;rw[Ly] at h3;refine⟨a,wV ws,_,.str (wd (ws.getD t [])),rfl,rfl,ha1,aR (by unfold wV;rw[K8,KD,K1 h1];rfl),?_⟩
   walk_at "rz";rw[aK];refine⟨KA (show _<=1000000 by lia) (by decide),by decide,λb hb=>q _ _ (k1.trans (KB.new hb)) ⟨b,rfl,?_⟩⟩
   rw[aa];rfl
def dX(z:List Nat):Prop:=∀c∈z,c=48\/c=49
theorem dX.cut(h:dX z)(a n:Nat):dX ((z.drop a).take n):=λc hc=>h c (List.mem_of_mem_drop (M8 hc))
theorem u7(z:List Nat)(a b:Nat)(h1:a<=b)(h2:b<=z.length):Y.fV (wd z) (some (a:Int)) (some (b:Int))=wd ((z.drop a).take (b-a)):=by
 unfold Y.fV wd;congr 2;show Y.ml z (some (a:Int)) (some (b:Int))=_;unfold Y.ml;rw[HT.cX,HT.cX,NJ h2,NJ (KA h1 h2)]
def zc(ws:List (List Nat))(z:List Nat)(p:Nat):Option (Nat×Nat):=match kC ws z p with
 |none=>none
 |some x=>if x.1=0 then some x else if x.2+(x.1-1)<=z.length then some (kW (49::(z.drop x.2).take (x.1-1)),x.2+(x.1-1)) else none
theorem BL(c:Nat)(w:List Nat):wd [c]++wd w=wd (c::w):=A_ (by
 show (#[c]++w.toArray).toList=_;rw[Nf];rfl)
def tT(K:W.Frag):Sp:=λvs H Q _=>∃(a:Addr) (ws:List (List Nat)) (z:List Nat) (p:Nat),vs=[.ref a,.str (wd z),.int (p:Nat)]/\aX K H a (wV ws)/\(∀w∈ws,w≠[])/\ws.length<=20/\dX z/\z.length<=1000000/\∀v H',KB [] H H'->Ke H' v (zc ws z p)->Q v H'
theorem yV(T:Txt K mg)(F:HasFn K mg "number_at" fY ["code","bits","place"])(hcoded_at:ao P w K mg base aS 2 "coded_at" ["code","bits","place"] (iI K)):ao P w K mg base aS 3 "number_at" ["code","bits","place"] (tT K):=by
 refine F.dR fH (λvs H Q E h=>?_) (λf cdv A outer s H vs Q E hr h=>?_)
 ·obtain⟨a,ws,z,p,rfl,_⟩:=h;rfl
 ·have hu:=aN hr;obtain⟨a,ws,z,p,rfl,ha,hne,h20,hb,hz,q⟩:=h;refine⟨_,(Z.aq (Z.se (i:=3) fH.nd (Z.fc hcoded_at (Z.cons (Z.v 0) (Z.cons (Z.v 1) (Z.cons (Z.v 2) Z.nil)))))
   (Z.aq (Z.dW (Z.tw (Z.IX (Z.bp dC (Z.v 3) Z.aO) (Z.Ck (Z.bp cc (Z.ix (Z.aF K rfl hu) (Z.v 3) Z.int) Z.int)))) (Z.az (Z.ret (Z.v 3))) Z.bB)
   (Z.aq (Z.se (i:=4) fH.nd (Z.op cZ (Z.op (Z.aQ K rfl) (Z.ix (Z.aF K rfl hu) (Z.v 3) Z.int) (Z.ix (Z.aF K rfl hu) (Z.v 3) Z.int)) Z.int))
   (Z.aq (Z.dW (Z.bp zN (Z.v 4) (Z.cb (Z.cx K rfl) rfl T.cp (by decide +kernel) (Z.cons (Z.v 1) Z.nil))) (Z.az (Z.ret Z.aO)) Z.bB)
   (Z.az (Z.ret (Z.tup (Z.cons (Z.ct mJ rfl T.zk (by decide +kernel) (Z.cons (Z.op (Z.aQ K rfl) Z.str (Z.slice Y.jh (Z.v 1) (Z.oW (Z.ix (Z.aF K rfl hu) (Z.v 3) Z.int)) (Z.oW (Z.v 4)))) (Z.cons Z.int Z.nil))) (Z.cons (Z.v 4) Z.nil))))))))),?_⟩
  refine ar λN hN=>?_;walk_at "rz";refine⟨a,ws,z,p,rfl,ha,hne,by lia,hz,λv H1 k1 o1=>?_⟩
  rw[hN];clear hN N;refine ar λN hN=>?_;unfold zc at q
  cases c:kC ws z p with
  |none =>
   rw[c] at q o1;obtain rfl:v=.aO:=o1;walk_at "rz";exact q _ _ k1 rfl
  |some x =>
   rw[c] at q o1;obtain⟨t,e⟩:=x;obtain⟨h1,_,h3,h4⟩:=fO hne c;obtain⟨b,rfl,hb1⟩:=o1;dsimp only at q h1 h3 h4 hb1;have sb:=aC hb1;have ne:¬ V.ref b=V.aO:=V.noConfusion;have a0:bC [V.int (t:Int),V.int (e:Int)] 0=some (.int (t:Int)):=rfl;have a1:bC [V.int (t:Int),V.int (e:Int)] 1=some (.int (e:Int)):=rfl;walk_at "rz";simp only[sb,a0,a1,if_neg ne];walk_at "rz";by_cases c0:t=0
   ·subst c0;rw[KO rfl] at q;rw[KO (by rfl)]
    exact q _ _ k1 ⟨b,rfl,hb1⟩
   ·rw[KJ c0] at q;have ci:¬ ((t:Nat):Int)=0:=by lia
    rw[KJ ci,hN];clear hN N;refine ar λN hN=>?_;walk_at "rz";simp only[sb,a0,a1];walk_at "rz";have eb:(e:Int)+(t:Int)-1=((e+(t-1):Nat):Int):=by lia
    rw[eb,hN];clear hN N;refine ar λN hN=>?_;walk_at "rz";refine⟨by rw[aK];exact KA hz (by decide),?_⟩
    rw[aK];by_cases cl:e+(t-1)<=z.length
    ·rw[KO cl] at q;rw[KJ (by lia),hN];clear hN N
     walk_at "rz";simp only[sb,a0,a1];have hb2:=hb.cut e (t-1);have hll:((z.drop e).take (t-1)).length<=20:=by rw[K_];lia
     have hcl:(49::(z.drop e).take (t-1)).length<=21:=by rw[KQ];lia
     refine⟨(e:Int),rfl,wd z,rfl,by rw[aK];exact KA hz (by decide),?_⟩
     rw[u7 z _ _ (by lia) cl,PC,show Str.ofString "1"=wd [49] from by decide +kernel]
     show _/\En [.str (wd [49]++wd ((z.drop e).take (t-1))),.int 2] H1 _;rw[BL,aK,aK];refine⟨KA (show _<=21 by rw[N0];lia) (by decide),_,rfl,by rw[aK];exact KA hcl (by decide),λc hc=>?_,by simp[wd],by decide,λb2 hb2'=>?_⟩
     ·rcases KL.mp (show c∈49::(z.drop e).take (t-1) from hc) with rfl|hc
      ·exact .inr rfl
      ·exact hb2 c hc
     ·exact q _ _ (k1.trans (KB.new hb2')) ⟨b2,rfl,by rw[aa];rfl⟩
    ·rw[KJ cl] at q;rw[KO (by lia)]
     exact q _ _ k1 rfl
noncomputable def cy:Nat->List Nat
 |0=>[48]
 |1=>[49,48]
 |_=>[49,49]
noncomputable def ba:Nat->Nat
 |0=>4
 |1=>8
 |_=>16
noncomputable def bK(k:Nat):Int:=if k=0 then 8 else if k=1 then 128 else 32768
def vo:List (List Nat):=[cy 0,cy 1,cy 2]
theorem iB{k:Nat}(h:k<3):k=0\/k=1\/k=2:=by lia
theorem om:∀w∈vo,w≠[]:=by decide
theorem A9{k:Nat}(h:k<3):vo.getD k []=cy k:=by rcases iB h with rfl|rfl|rfl<;>rfl
def BG(k n:Nat):Int:=if bK k<=(n:Int) then (n:Int)-2*bK k else (n:Int)
def gA(z:List Nat)(p:Nat):Option (Int×Nat):=match kC vo z p with
 |none=>none
 |some x=>if x.2+ba x.1<=z.length then some (BG x.1 (kW ((z.drop x.2).take (ba x.1))),x.2+ba x.1) else none
theorem IG:[V.str (Str.ofString "0"),.str (Str.ofString "10"),.str (Str.ofString "11")]=wV vo:=by
 rw[show Str.ofString "0"=wd [48] from by decide +kernel,show Str.ofString "10"=wd [49,48] from by decide +kernel,show Str.ofString "11"=wd [49,49] from by decide +kernel]
 rfl
def Ks(H:Hp)(v:V):Option (Int×Nat)->Prop
 |none=>v=.aO
 |some x=>∃t,v=.ref t/\H t=some (.tup [.int ((x.2:Int)+x.1),.int (x.2:Nat)])
def pA(K:W.Frag):Sp:=λvs H Q _=>∃(z:List Nat) (p:Nat),vs=[.str (wd z),.int (p:Nat)]/\dX z/\z.length<=1000000/\∀v H',KB [] H H'->Ks H' v (gA z p)->Q v H'
theorem wC(T:Txt K mg)(F:HasFn K mg "goal_at" jo ["bits","place"])(hcoded_at:ao P w K mg base aS 2 "coded_at" ["code","bits","place"] (iI K)):ao P w K mg base aS 3 "goal_at" ["bits","place"] (pA K):=by
 refine F.dR dj (λvs H Q E h=>?_) (λf cdv A outer s H vs Q E hr h=>?_)
 ·obtain⟨z,p,rfl,_⟩:=h;rfl
 ·have hu:=aN hr;obtain⟨z,p,rfl,hb,hz,q⟩:=h;obtain⟨aE,hg_HEADS,sE⟩:=T.nV;obtain⟨aW,hg_WIDTHS,sW⟩:=T.lO;obtain⟨aV,hg_HALVES,sV⟩:=T.p5;have hr_HEADS:RelV (.ref aE) (.ref aE):=rfl;have hr_WIDTHS:RelV (.ref aW) (.ref aW):=rfl;have hr_HALVES:RelV (.ref aV) (.ref aV):=rfl;refine⟨_,(Z.aq (Z.se (i:=2) dj.nd (Z.fc hcoded_at (Z.cons (Z.glob rfl hg_HEADS hr_HEADS) (Z.cons (Z.v 0) (Z.cons (Z.v 1) Z.nil)))))
   (Z.aq (Z.dW (Z.bp dC (Z.v 2) Z.aO) (Z.az (Z.ret Z.aO)) Z.bB)
   (Z.aq (Z.se (i:=3) dj.nd (Z.ix (Z.aF K rfl hu) (Z.v 2) Z.int))
   (Z.aq (Z.se (i:=4) dj.nd (Z.op (Z.aQ K rfl) (Z.ix (Z.aF K rfl hu) (Z.v 2) Z.int) (Z.ix (Z.gY K rfl) (Z.glob rfl hg_WIDTHS hr_WIDTHS) (Z.v 3))))
   (Z.aq (Z.dW (Z.bp zN (Z.v 4) (Z.cb (Z.cx K rfl) rfl T.cp (by decide +kernel) (Z.cons (Z.v 0) Z.nil))) (Z.az (Z.ret Z.aO)) Z.bB)
   (Z.aq (Z.se (i:=5) dj.nd (Z.ct mJ rfl T.zk (by decide +kernel) (Z.cons (Z.slice Y.jh (Z.v 0) (Z.oW (Z.ix (Z.aF K rfl hu) (Z.v 2) Z.int)) (Z.oW (Z.v 4))) (Z.cons Z.int Z.nil))))
   (Z.aq (Z.dW (Z.bp Eh (Z.v 5) (Z.ix (Z.gY K rfl) (Z.glob rfl hg_HALVES hr_HALVES) (Z.v 3))) (Z.az (Z.se (i:=5) dj.nd (Z.op cZ (Z.v 5) (Z.op cu Z.int (Z.ix (Z.gY K rfl) (Z.glob rfl hg_HALVES hr_HALVES) (Z.v 3)))))) Z.bB)
   (Z.az (Z.ret (Z.tup (Z.cons (Z.op (Z.aQ K rfl) (Z.v 4) (Z.v 5)) (Z.cons (Z.v 4) Z.nil)))))))))))),?_⟩
  refine ar λN hN=>?_;walk_at "rz";refine⟨aE,vo,z,p,rfl,by rw[<- IG];exact sE H,om,by decide,hz,λv H1 k1 o1=>?_⟩
  rw[hN];clear hN N;refine ar λN hN=>?_;unfold gA at q
  cases c:kC vo z p with
  |none =>
   rw[c] at q o1;obtain rfl:v=.aO:=o1;walk_at "rz";exact q _ _ k1 rfl
  |some x =>
   rw[c] at q o1;obtain⟨k,e⟩:=x;obtain⟨h1,_,h3,h4⟩:=fO om c;obtain⟨b,rfl,hb1⟩:=o1;dsimp only at q h1 h3 h4 hb1;have hk:k<3:=h1;have sb:=aC hb1;have ne:¬ V.ref b=V.aO:=V.noConfusion;have a0:bC [V.int (k:Int),V.int (e:Int)] 0=some (.int (k:Int)):=rfl;have a1:bC [V.int (k:Int),V.int (e:Int)] 1=some (.int (e:Int)):=rfl;walk_at "rz";rw[if_neg ne,hN];clear hN N;refine ar λN hN=>?_;walk_at "rz";simp only[sb,a0,a1];rw[hN];clear hN N;refine ar λN hN=>?_;walk_at "rz";simp only[sb,a0,a1];have aw:bC [V.int 4,.int 8,.int 16] (k:Int)=some (.int (ba k:Nat)):=by rcases iB hk with rfl|rfl|rfl<;>rfl
   have ah:bC [V.int 8,.int 128,.int 32768] (k:Int)=some (.int (bK k)):=by rcases iB hk with rfl|rfl|rfl<;>rfl
   have h16:ba k<=16/\0<ba k:=by rcases iB hk with rfl|rfl|rfl<;>decide
   refine⟨aW,_,_,_,rfl,rfl,sW H1,aw,?_⟩;show N [_,_,_,_,some (V.int ((e:Int)+(ba k:Nat))),none] H1;rw[show (e:Int)+(ba k:Nat)=((e+ba k:Nat):Int) by lia,hN];clear hN N
   refine ar λN hN=>?_;walk_at "rz";refine⟨by rw[aK];exact KA hz (by decide),?_⟩
   rw[aK];by_cases cl:e+ba k<=z.length
   ·rw[KO cl] at q;rw[KJ (by lia),hN];clear hN N
    refine ar λN hN=>?_;walk_at "rz";simp only[sb,a0,a1];have hb2:=hb.cut e (ba k);have hl2:((z.drop e).take (ba k)).length=ba k:=by rw[K_,Ly];lia
    refine⟨(e:Int),rfl,wd z,rfl,by rw[aK];exact KA hz (by decide),?_⟩
    rw[u7 z _ _ (by lia) cl,PC]
    refine⟨_,rfl,by rw[aK,hl2];lia,hb2,λe0=>by have e1:(z.drop e).take (ba k)=[]:=e0;rw[e1] at hl2;simp at hl2;lia,?_⟩
    rw[show (wd ((z.drop e).take (ba k))).cps.toList=(z.drop e).take (ba k) from rfl];generalize kW ((z.drop e).take (ba k))=n at *;unfold BG at q;show N _ _;rw[hN];clear hN N;refine ar λN hN=>?_;walk_at "rz";refine⟨aV,_,_,_,rfl,rfl,sV H1,ah,_,_,rfl,rfl,_,rfl,?_⟩;have fin:∀d:Int,d=(if bK k<=(n:Int) then (n:Int)-2*bK k else (n:Int))->N [some (.str (wd z)),some (.int (p:Nat)),some (.ref b),some (.int (k:Nat)),some (.int ((e+ba k:Nat):Int)),some (.int d)] H1:=λd ed=>by
     rw[hN];clear hN N;walk_at "rz";refine⟨by decide,λb2 hb2'=>q _ _ (k1.trans (KB.new hb2')) ⟨b2,rfl,?_⟩⟩
     rw[aa,ed]
    by_cases ch:bK k<=(n:Int)
    ·rw[KO (Li ch)];refine⟨aV,_,_,_,rfl,rfl,sV H1,ah,?_⟩;exact⟨.inl (by decide),_,_,rfl,rfl,fin _ (by rw[KO ch])⟩
    ·rw[KJ (by rw[Lf ch];exact KP)]
     exact fin _ (by rw[KJ ch])
   ·rw[KJ cl] at q;rw[KO (by lia)]
    exact q _ _ k1 rfl
theorem xr(u:_root_.Fin 2):u=0\/u=1:=by revert u;decide
theorem xb(u:_root_.Fin 3):u=0\/u=1\/u=2:=by revert u;decide
theorem Kk{b:Nat}(h:b<8):b=0\/b=1\/b=2\/b=3\/b=4\/b=5\/b=6\/b=7:=by lia
inductive Row where
 |put (b n:Nat)|two (w:Fin 3) (a b:Nat)|one (w:Fin 2) (b:Nat)|jump (g:Nat)|zero (b g:Nat)|halt
 deriving DecidableEq
noncomputable def e9(i:Nat):Str:=⟨#[97+i]⟩
noncomputable def w2:Fin 3->Str
 |0=>"add"
 |1=>"sub"
 |2=>"copy"
noncomputable def w1:Fin 2->Str
 |0=>"tell"
 |1=>"hear"
inductive Bu where
 |s (z:Str)|n (k:Nat)
def Row.ps:Row->List Bu
 |.put b n=>[.s "put",.s (e9 b),.n n]
 |.two w a b=>[.s (w2 w),.s (e9 a),.s (e9 b)]
 |.one w b=>[.s (w1 w),.s (e9 b)]
 |.jump g=>[.s "jump",.n g]
 |.zero b g=>[.s "zero",.s (e9 b),.n g]
 |.halt=>[.s "halt"]
def Row.Ok(size:Nat):Row->Prop
 |.put b n=>b<8/\n<65536
 |.two _ a b=>a<8/\b<8
 |.one _ b=>b<8
 |.jump g=>g<=size
 |.zero b g=>b<8/\g<=size
 |.halt=>True
theorem Row.Ok.mono{a b:Nat}{r:Row}(h:r.Ok a)(hm:a<=b):r.Ok b:=by
 cases r<;>simp only[Row.Ok] at h ⊢<;>lia
theorem Gn{k:Int}(h0:0<=k)(h1:k<8):bC (Str.ofString "abcdefgh").cps.toList k=some (97+k.toNat):=by
 have e:(Str.ofString "abcdefgh").cps.toList=[97,98,99,100,101,102,103,104]:=by decide +kernel
 rw[e];obtain⟨n,rfl⟩:∃n:Nat,k=n:=⟨k.toNat,by lia⟩
 unfold bC iF;have hn:n<8:=by lia
 rw[KO (by lia),KO (by simp;lia)]
 show [97,98,99,100,101,102,103,104][((n:Nat):Int).toNat]?=some (97+((n:Nat):Int).toNat);rw[Lg];rcases Kk hn with rfl|rfl|rfl|rfl|rfl|rfl|rfl|rfl<;>rfl
noncomputable def aU(ls:List Int)(t:Nat):Nat:=(ls.getD t 0).toNat
def aI(ls:List Int):List Nat:=jc ls (List.range ls.length)
def wordsOf(nx:List Nat->Nat->List Nat)(ls:List Int):List (List Nat):=(Cw.along nx (aU ls) (aI ls) (none,List.replicate ls.length [])).2
def fD(ls:List Int)(done:List Nat):Option (List Nat)×List (List Nat):=Cw.along Cw.fi (aU ls) done (none,List.replicate ls.length [])
theorem v9{v:List Nat}{n:Nat}(hv:v.length<=40)(hn:n<=40):(Cw.fi v n).length<=40:=by
 have h1:((v.reverse.dropWhile (· == 49)).reverse.dropLast).length<=39:=by
  rw[OD,Nd];have:=(Oi (· == 49) (l:=v.reverse)).length_le;rw[Nd] at this;lia
 unfold Cw.fi Cw.pad;rw[K6,KY,K6,N0];lia
theorem i5(h:t∈aI ls):t<ls.length:=LA.mp ((iZ (by rw[Lo])).mem_iff.mp h)
theorem FV(ls:List Int)(done:List Nat):(fD ls done).2.length=ls.length:=by
 unfold fD;rw[Cw.gN,KY]
namespace Cw
def Dv(a b:List Nat):Prop:=∃u,u++[48] <+: a/\u++[49] <+: b
theorem qi{u v:List Nat}{c d:Nat}(h1:u++[c] <+: b)(h2:v++[d] <+: b)(hl:u.length<v.length):u++[c] <+: v:=by
 have h3:v <+: b:=(NV v [d]).trans h2;exact Ng h1 h3 (by rw[K6];exact hl)
theorem Dv.trans{a c:List Nat}(h:Dv a b)(g:Dv b c):Dv a c:=by
 obtain⟨u,h1,h2⟩:=h;obtain⟨v,g1,g2⟩:=g;rcases Od u.length v.length with e|e|e
 ·exact⟨u,h1,(qi h2 g1 e).trans ((NV v [49]).trans g2)⟩
 ·have p1:(u++[49]).length=(v++[48]).length:=by rw[K6,K6,e];rfl
  have p2:u++[49]=v++[48]:=(Ng h2 g1 (by lia)).eq_of_length p1
  have p3:[49]=[48]:=(List.append_inj' p2 rfl).2;exact absurd p3 (by decide)
 ·exact⟨v,(qi g1 h2 e).trans ((NV u [48]).trans h1),g2⟩
theorem Dv.not{a:List Nat}(h:Dv a b):¬ a <+: b/\¬ b <+: a:=by
 obtain⟨u,h1,h2⟩:=h;have key:∀c,u++[48] <+: c->u++[49] <+: c->False:=λc p q=>by
  have e:u++[48]=u++[49]:=(Ng p q (by simp)).eq_of_length (by simp)
  exact absurd (List.append_cancel_left e) (by decide)
 exact⟨λp=>key b (h1.trans p) h2,λp=>key a h1 (h2.trans p)⟩
theorem Dv.lt{a:List Nat}(h:Dv a b):a<b:=by
 obtain⟨u,⟨x,rfl⟩,⟨y,rfl⟩⟩:=h
 induction u with
 |nil=>exact List.Lex.rel (by decide)
 |cons c u ih=>exact List.Lex.cons ih
theorem Dw{w:List Nat}{n:Nat}(hb:∀c∈w,c=48\/c=49)(h:w.all (· == 49)=false):Dv w (fk w n):=by
 obtain⟨p,k,rfl⟩:=parts hb h;unfold fk pad;rw[gC];exact⟨p,⟨List.replicate k 49,by simp⟩,⟨List.replicate k 48++List.replicate (n-(p++49::List.replicate k 48).length) 48,by simp⟩⟩
def lX(ln:Nat->Nat)(a:Option (List Nat))(t:Nat):List Nat:=match a with
 |none=>List.replicate (ln t) 48
 |some v=>fi v (ln t)
def lI(ln:Nat->Nat):Option (List Nat)->List Nat->List (List Nat)
 |_,[]=>[]
 |a,t::r=>lX ln a t::lI ln (some (lX ln a t)) r
theorem zx:∀(order done:List Nat) (a:Option (List Nat)),(order.Pairwise λi j=>ln i<=ln j)->(∀t∈order,ln t<=40)->(∀v,a=some v->hU done v/\∀t∈order,v.length<=ln t)->(a=none->done=[])->Kr.ks 40 (done++order.map ln)<=2^40 ->
  (∀v,a=some v->∀x∈lI ln a order,Dv v x)/\(lI ln a order).Pairwise Dv/\∀(i t:Nat),order[i]?=some t->∃w,(lI ln a order)[i]?=some w/\w.length=ln t
 |[],_,_,_,_,_,_,_=>⟨λ_ _ x hx=>(by cases hx),List.Pairwise.nil,λi t e=>(by cases e)⟩
 |t::r,done,a,hp,h40,ha,hn,hk=>by
  obtain⟨p1,p2⟩:=L4.mp hp;have ht:=h40 t KG;have hk':Kr.ks 40 ((done++[ln t])++r.map ln)<=2^40:=by rw[Ld];exact hk
  have fin:∀w:List Nat,w=lX ln a t->hU (done++[ln t]) w->w.length=ln t->(∀v,a=some v->Dv v w) ->
    (∀v,a=some v->∀x∈lI ln a (t::r),Dv v x)/\(lI ln a (t::r)).Pairwise Dv/\∀(i s:Nat),(t::r)[i]?=some s->∃w,(lI ln a (t::r))[i]?=some w/\w.length=ln s:=λw ew hH hl hd=>by
   obtain⟨q1,q2,q3⟩:=zx r (done++[ln t]) (some w) p2 (λx hx=>h40 x (KI _ hx)) (λv e=>by cases e;exact⟨hH,λx hx=>by rw[hl];exact p1 x hx⟩) (λe=>by cases e) hk'
   have es:lI ln a (t::r)=w::lI ln (some w) r:=by rw[ew];rfl
   rw[es];refine⟨λv e x hx=>?_,L4.mpr ⟨λx hx=>q1 w rfl x hx,q2⟩,λi s e=>?_⟩
   ·rcases KL.mp hx with rfl|hx
    ·exact hd v e
    ·exact (hd v e).trans (q1 w rfl x hx)
   ·cases i with
    |zero=>cases e;exact⟨w,rfl,hl⟩
    |succ i=>exact q3 i s (by simpa using e)
  cases a with
  |none =>
   have:=hn rfl;subst this;exact fin _ rfl (hU.first ht) (show (List.replicate (ln t) 48).length=ln t by rw[KY]) (λv e=>by cases e)
  |some v =>
   obtain⟨hv,hl⟩:=ha v rfl;have hvl:=hl t KG;have hk2:Kr.ks 40 done+2^(40-ln t)<=2^40:=by
    rw[Kr.cC,Kr.cC] at hk';simp[Kr.ks] at hk'
    omega
   have z:=hv.zero (rest:=[]) hk2;have e:=mO hv.bits z hvl;refine fin _ rfl ?_ ?_ ?_
   ·show hU _ (fi v (ln t));rw[e];exact hv.next hvl ht hk2
   ·show (fi v (ln t)).length=_;rw[e];exact eK hvl
   ·intro u eu;cases eu;show Dv v (fi v (ln t));rw[e];exact Dw hv.bits z
theorem ql:∀(order:List Nat) (a:Option (List Nat)) (ws:List (List Nat)),order.Nodup->(∀t∈order,t<ws.length)->(∀(i t:Nat),order[i]?=some t->(along fi ln order (a,ws)).2[t]?=(lI ln a order)[i]?)/\∀t,t∉order->(along fi ln order (a,ws)).2[t]?=ws[t]?
 |[],_,_,_,_=>⟨λi t e=>(by cases e),λ_ _=>rfl⟩
 |t::r,a,ws,hn,hl=>by
  obtain⟨n1,n2⟩:=Mm.mp hn;have ht:=hl t KG;have ea:along fi ln (t::r) (a,ws)=along fi ln r (some (lX ln a t),ws.set t (lX ln a t)):=by cases a<;>rfl
  rw[ea];obtain⟨q1,q2⟩:=ql r (some (lX ln a t)) (ws.set t (lX ln a t)) n2 (λx hx=>by rw[LR];exact hl x (KI _ hx))
  refine⟨λi s e=>?_,λs hs=>?_⟩
  ·cases i with
   |zero =>
    cases e;exact (q2 t n1).trans (by rw[MI ht];rfl)
   |succ i=>exact q1 i s (by simpa using e)
  ·have h1:s≠t:=λz=>hs (by rw[z];exact KG)
   have h2:s∉r:=λz=>hs (KI _ z);exact (q2 s h2).trans (by rw[N3 (Mc h1)])
def Lx(p q:Int×Nat):Prop:=p.1<q.1\/(p.1=q.1/\p.2<q.2)
theorem Bp{p:Int×Nat}:∀{l:List (Int×Nat)},l.Pairwise Lx->(∀q∈l,p.2<q.2)->(i8 p l).Pairwise Lx
 |[],_,_=>N_ _ _
 |q::r,h,hp=>by
  obtain⟨h1,h2⟩:=L4.mp h;have hq:=hp q KG;unfold i8;split
  ·rename_i c;refine L4.mpr ⟨λz hz=>?_,h⟩;have hz2:=hp z hz;have:q.1<=z.1:=by
    rcases KL.mp hz with rfl|hz
    ·exact PZ _
    ·have:=h1 z hz;unfold Lx at this;omega
   unfold Lx;omega
  ·rename_i c;refine L4.mpr ⟨λz hz=>?_,Bp h2 λz hz=>hp z (KI _ hz)⟩;rcases KL.mp ((gM p r).mem_iff.mp hz) with rfl|hz
   ·unfold Lx;omega
   ·exact h1 z hz
theorem uw:∀{l:List (Int×Nat)},(l.Pairwise λp q=>p.2<q.2)->(eV l).Pairwise Lx
 |[],_=>.nil
 |p::r,h=>by
  obtain⟨h1,h2⟩:=L4.mp h;exact Bp (uw h2) λq hq=>h1 q ((eI r).mem_iff.mp hq)
end Cw
structure Canon (ls:List Int) (W:List (List Nat)):Prop where
 len:W.length=ls.length
 Hm:∀t,t<ls.length->(W.getD t []).length=aU ls t
 part:∀s t,s<ls.length->t<ls.length->(ls.getD s 0<ls.getD t 0\/(ls.getD s 0=ls.getD t 0/\s<t))->Cw.Dv (W.getD s []) (W.getD t [])
theorem ny(ls:List Int):ls.zip (List.range ls.length)=(List.range ls.length).map λt=>(ls.getD t 0,t):=by
 apply Na
 ·simp
 ·intro i h1 h2;simp at h1;simp[h1]
theorem canon(hL:ia ls)(hk:KS ls<=2^40):Canon ls (wordsOf Cw.fi ls):=by
 have hS:(Cw.Lx · ·)=(Cw.Lx · ·):=rfl;have hlx:(eV (ls.zip (List.range ls.length))).Pairwise Cw.Lx:=by
  refine Cw.uw ?_;rw[ny];exact MA.mpr Og
 have hmem:∀p∈eV (ls.zip (List.range ls.length)),p.1=ls.getD p.2 0/\p.2<ls.length:=λp hp=>by
  have:=(eI _).mem_iff.mp hp;rw[ny] at this;obtain⟨t,ht,rfl⟩:=L3.mp this;exact⟨rfl,LA.mp ht⟩
 have hord:(aI ls).Pairwise λs t=>ls.getD s 0<ls.getD t 0\/(ls.getD s 0=ls.getD t 0/\s<t):=by
  unfold aI jc;refine MA.mpr (hlx.imp_of_mem λ{p q} hp hq h=>?_);rw[<- (hmem p hp).1,<- (hmem q hq).1];exact h
 have hperm:(aI ls).Perm (List.range ls.length):=iZ (by rw[Lo])
 have hnd:(aI ls).Nodup:=hperm.nodup_iff.mpr Ow;have hb:∀t,t<ls.length->1<=ls.getD t 0/\ls.getD t 0<=40:=λt ht=>by
  rw[KD,K1 ht];have:=hL.2.2 _ (KZ ht);show 1<=ls[t]/\ls[t]<=40;lia
 have hmm:∀t∈aI ls,t<ls.length:=λt ht=>i5 ht;have hks:Kr.ks 40 ([]++(aI ls).map (aU ls))<=2^40:=by
  rw[L_,Kr.iQ (hperm.map (aU ls))];have e:(List.range ls.length).map (aU ls)=ls.map Int.toNat:=by
   apply Na
   ·simp
   ·intro i h1 h2;simp at h1;simp[aU,h1]
  rw[e];exact hk
 obtain⟨_,q2,q3⟩:=Cw.zx (ln:=aU ls) (aI ls) [] none (hord.imp_of_mem λ{s t} hs ht h=>by
  have:=hb s (hmm s hs);have:=hb t (hmm t ht);unfold aU;omega) (λt ht=>by have:=hb t (hmm t ht);unfold aU;omega) (λv e=>by cases e) (λ_=>rfl) hks
 obtain⟨a1,_⟩:=Cw.ql (ln:=aU ls) (aI ls) none (List.replicate ls.length []) hnd (λt ht=>by rw[KY];exact hmm t ht)
 have hat:∀t,t<ls.length->∃i w,(aI ls)[i]?=some t/\(Cw.lI (aU ls) none (aI ls))[i]?=some w/\w.length=aU ls t/\(wordsOf Cw.fi ls).getD t []=w:=λt ht=>by
  obtain⟨i,hi⟩:=Oz.mp (hperm.mem_iff.mpr (LA.mpr ht));obtain⟨w,hw,hl⟩:=q3 i t hi;refine⟨i,w,hi,hw,hl,?_⟩;unfold wordsOf;rw[KD,a1 i t hi,hw];rfl
 refine⟨?_,λt ht=>?_,λs t hs ht h=>?_⟩
 ·unfold wordsOf;rw[Cw.gN,KY]
 ·obtain⟨i,w,_,_,hl,e⟩:=hat t ht;rw[e];exact hl
 ·obtain⟨i,w,h1,h2,_,e⟩:=hat s hs;obtain⟨j,v,g1,g2,_,e'⟩:=hat t ht;rw[e,e'];obtain⟨hi,rfl⟩:=K7.mp h2;obtain⟨hj,rfl⟩:=K7.mp g2;obtain⟨hi',ei⟩:=K7.mp h1;obtain⟨hj',ej⟩:=K7.mp g1;have hij:i<j:=by
   rcases Od i j with c|c|c
   ·exact c
   ·subst c;have est:s=t:=ei.symm.trans ej;subst est
    exfalso;omega
   ·have:=MT.mp hord j i hj' hi' c;rw[ei,ej] at this
    exfalso;omega
  exact MT.mp q2 i j hi hj hij
noncomputable def dg(n:Int):Nat:=48+(n % 2).toNat
def bo:Int->Nat->List Nat->List Nat
 |_,0,acc=>acc
 |n,k+1,acc=>bo (n / 2) k (dg n::acc)
theorem dm:∀(k:Nat) (n:Int) (acc:List Nat),(bo n k acc).length=k+acc.length
 |0,_,_=>by rw[bo,Mv]
 |k+1,n,acc=>by rw[bo,dm k,KQ];lia
theorem lG:∀(k:Nat) (n:Int) (acc:List Nat),∃d,bo n (k+1) acc=d::bo n k acc
 |0,n,acc=>⟨dg n,rfl⟩
 |k+1,n,acc=>by
  obtain⟨d,e⟩:=lG k (n / 2) (dg n::acc);exact⟨d,e⟩
theorem Fg(n:Int):dg n=48\/dg n=49:=by
 unfold dg;have:n % 2=0\/n % 2=1:=by lia
 rcases this with e|e<;>rw[e]
 ·exact .inl rfl
 ·exact .inr rfl
theorem ic:∀(k:Nat) (n:Int) (acc:List Nat),(∀c∈acc,c=48\/c=49)->∀c∈bo n k acc,c=48\/c=49
 |0,_,_,h=>h
 |k+1,n,acc,h=>ic k (n / 2) (dg n::acc) λc hc=>by
  rcases KL.mp hc with rfl|hc
  ·exact Fg n
  ·exact h c hc
theorem HM(n:Int):bC (Str.ofString "01").cps.toList (n % 2)=some (dg n):=by
 have:n % 2=0\/n % 2=1:=by lia
 unfold dg;rcases this with e|e<;>rw[e]
 ·exact (by decide +kernel)
 ·exact (by decide +kernel)
theorem FK(n:Int):Str.ofString (toString (n % 2))=wd [dg n]:=by
 have:n % 2=0\/n % 2=1:=by lia
 unfold dg;rcases this with e|e<;>rw[e]
 ·exact (by decide +kernel)
 ·exact (by decide +kernel)
theorem dF(a b:List Nat):wd a++wd b=wd (a++b):=by
 apply A_;show (a.toArray++b.toArray).toList=_;simp
theorem lJ:Str.ofString ""=wd []:=by decide +kernel
noncomputable def bq(n:Nat):Nat:=Builtin.Int.intBits (n:Int)
def dA(n:Nat):List Nat:=bo (n:Int) (bq n) []
theorem iH{n:Nat}(h:n<65536):bq n<17:=by
 unfold bq Builtin.Int.intBits;split
 ·decide
 ·rename_i hz;have h0:n≠0:=λz=>hz (by rw[z];rfl)
  show (n:Int).natAbs.log2+1<17;rw[OV];have:=(Nat.log2_lt (n:=n) (k:=16) h0).mpr (by lia)
  lia
def cH(k:Nat)(d:Int):List Nat:=cy k++bo d (ba k) []
theorem GV{n:Nat}(h:0<n):Builtin.Int.intBits (n:Int)=Builtin.Int.intBits ((n / 2:Nat):Int)+1:=by
 unfold Builtin.Int.intBits;rw[KJ (by simp;lia)]
 show (n:Int).natAbs.log2+1=_;rw[OV,Nat.log2_def];split
 ·rw[KJ (by simp;lia),OV]
 ·have e:n / 2=0:=by lia
  rw[e];rfl
noncomputable def Row.wi:Row->Nat
 |.put _ _=>0
 |.two u _ _=>1+u
 |.one u _=>4+u
 |.jump _=>6
 |.zero _ _=>7
 |.halt=>8
theorem Row.vj(r:Row):r.wi<9:=by
 cases r with
 |two u a b=>exact (by decide:∀u:_root_.Fin 3,1+(u:Nat)<9) u
 |one u b=>exact (by decide:∀u:_root_.Fin 2,4+(u:Nat)<9) u
 |put b n=>exact (by decide:0<9)
 |jump g=>exact (by decide:6<9)
 |zero b g=>exact (by decide:7<9)
 |halt=>exact (by decide:8<9)
inductive Pk where
 |box (b:Nat)|num (n:Nat)|goal (g:Nat)
noncomputable def Pk.kd:Pk->Str
 |.box _=>"box"
 |.num _=>"number"
 |.goal _=>"goal"
def Pk.Ok:Pk->Prop
 |.box b=>b<8
 |.num n=>n<65536
 |.goal _=>True
def Pk.qh:Pk->List (Nat×Nat)
 |.box b=>[(2,b)]
 |.num n=>[(1,bq n)]
 |.goal _=>[]
def Row.wd:Row->Str
 |.put _ _=>"put"
 |.two u _ _=>w2 u
 |.one u _=>w1 u
 |.jump _=>"jump"
 |.zero _ _=>"zero"
 |.halt=>"halt"
noncomputable def Row.dy:Row->List Pk
 |.put b n=>[.box b,.num n]
 |.two _ a b=>[.box a,.box b]
 |.one _ b=>[.box b]
 |.jump g=>[.goal g]
 |.zero b g=>[.box b,.goal g]
 |.halt=>[]
theorem Row.t7{r:Row}{k:Nat}(h:r.Ok k):∀p∈r.dy,p.Ok:=by
 cases r with
 |put b n=>simp only[Row.dy,KL,Ln,Mh];exactλp z=>z.elim (λe=>e ▸ h.1) λe=>e ▸ h.2
 |two u a b=>simp only[Row.dy,KL,Ln,Mh];exactλp z=>z.elim (λe=>e ▸ h.1) λe=>e ▸ h.2
 |one u b=>simp only[Row.dy,KL,Ln,Mh];rintro p rfl;exact h
 |jump g=>simp only[Row.dy,KL,Ln,Mh];rintro p rfl;exact trivial
 |zero b g=>simp only[Row.dy,KL,Ln,Mh];exactλp z=>z.elim (λe=>e ▸ h.1) λe=>e ▸ trivial
 |halt=>simp[Row.dy]
def cG(r:Row):List (Nat×Nat):=(0,r.wi)::r.dy.flatMap Pk.qh
noncomputable def bP:List Str:=["put","add","sub","copy","tell","hear","jump","zero","halt"]
theorem HS:∀k,k<9->∀m,m<k->bP[m]?≠bP[k]?:=by decide +kernel
theorem uX(r:Row):bP[r.wi]?=some r.wd/\∀m,m<r.wi->bP[m]?≠some r.wd:=by
 have h1:bP[r.wi]?=some r.wd:=by
  cases r with
  |two u a b=>exact (by decide +kernel:∀u:_root_.Fin 3,bP[1+(u:Nat)]?=some (w2 u)) u
  |one u b=>exact (by decide +kernel:∀u:_root_.Fin 2,bP[4+(u:Nat)]?=some (w1 u)) u
  |put b n=>rfl
  |jump g=>rfl
  |zero b g=>rfl
  |halt=>rfl
 exact⟨h1,λm hm=>by rw[<- h1];exact HS _ r.vj m hm⟩
theorem J6{b:Nat}(h:b<8):Builtin.Str.occurrences (Str.ofString "abcdefgh") (e9 b) 0 (Str.ofString "abcdefgh").length 1=[b]:=by
 rcases Kk h with rfl|rfl|rfl|rfl|rfl|rfl|rfl|rfl<;>decide +kernel
noncomputable def bH:List (Str×List Str):=[("put",["box","number"]),("add",["box","box"]),("sub",["box","box"]),("copy",["box","box"]),("tell",["box"]),("hear",["box"]),("jump",["goal"]),("zero",["box","goal"]),("halt",[])]
theorem xp(r:Row):KTD.datumAt r.wd bH=some (r.dy.map Pk.kd):=by
 cases r with
 |two u a b=>exact (by decide +kernel:∀u:_root_.Fin 3,KTD.datumAt (w2 u) bH=some [("box":Str),"box"]) u
 |one u b=>exact (by decide +kernel:∀u:_root_.Fin 2,KTD.datumAt (w1 u) bH=some [("box":Str)]) u
 |put b n=>exact (by decide +kernel:KTD.datumAt ("put":Str) bH=some [("box":Str),"number"])
 |jump g=>exact (by decide +kernel:KTD.datumAt ("jump":Str) bH=some [("goal":Str)])
 |zero b g=>exact (by decide +kernel:KTD.datumAt ("zero":Str) bH=some [("box":Str),"goal"])
 |halt=>exact (by decide +kernel:KTD.datumAt ("halt":Str) bH=some ([]:List Str))
noncomputable def GW:List Str:=["a","b","c","d","e","f","g","h"]
theorem xY{b:Nat}(h:b<8):GW[b]?=some (e9 b)/\∀m,m<b->GW[m]?≠some (e9 b):=(by decide +kernel:∀b,b<8->GW[b]?=some (e9 b)/\∀m,m<b->GW[m]?≠some (e9 b)) b h
theorem lN:∀(o:List Nat) (a:Option (List Nat)) (ws:List (List Nat)),(∀t∈o,ln t<=40)->(∀v,a=some v->v.length<=40)->(∀x∈ws,x.length<=40)->∀x∈(Cw.along Cw.fi ln o (a,ws)).2,x.length<=40
 |[],_,_,_,_,h=>h
 |t::o,a,ws,ho,ha,hw=>by
  have ht:=ho t KG;have h2:=λt h=>ho t (KI _ h)
  cases a with
  |none =>
   refine lN o (some (List.replicate (ln t) 48)) _ h2 (λv e=>by cases e;rw[KY];exact ht) λx hx=>?_
   rcases LX hx with z|z
   ·exact hw x z
   ·rw[z,KY];exact ht
  |some v =>
   have hv:=v9 (ha v rfl) ht;refine lN o (some (Cw.fi v (ln t))) _ h2 (λv e=>by cases e;exact hv) λx hx=>?_
   rcases LX hx with z|z
   ·exact hw x z
   ·rw[z];exact hv
theorem Bg(hL:ia ls):∀x∈wordsOf Cw.fi ls,x.length<=40:=by
 refine lN _ _ _ (λt ht=>?_) (λv e=>by cases e) λx hx=>by rw[(Mb.mp hx).2];decide
 have h:=i5 ht;have:=hL.2.2 _ (KZ h);unfold aU;rw[KD,K1 h];show ls[t].toNat<=40;lia
theorem jq(ls:List Int):(wordsOf Cw.fi ls).length=ls.length:=(Cw.gN _ _).trans (KY ..)
structure Cd (cd:List (List (List Nat))):Prop where
 ex:∃a b c,cd=[a,b,c]/\a.length=9/\b.length=17/\c.length=8
 le:∀ws∈cd,∀x∈ws,x.length<=40
noncomputable def aM(cd:List (List (List Nat)))(p:Nat×Nat):List Nat:=(cd.getD p.1 []).getD p.2 []
def fU:Row->List Nat
 |.put _ n=>(dA n).tail
 |_=>[]
def bf(cd:List (List (List Nat)))(r:Row):List Nat:=(cG r).flatMap (aM cd)++fU r
def Bk(bk:List (List Int)):Prop:=∃a b c,bk=[a,b,c]/\a.length=9/\b.length=17/\c.length=8/\∀l∈bk,ia l/\jG l=true
def cT(bk:List (List Int)):List (List (List Nat)):=bk.map (wordsOf Cw.fi)
theorem Bk.cd{bk:List (List Int)}(h:Bk bk):Cd (cT bk):=by
 obtain⟨a,b,c,rfl,h1,h2,h3,h4⟩:=h;refine⟨⟨_,_,_,rfl,by rw[jq,h1],by rw[jq,h2],by rw[jq,h3]⟩,λws hw=>?_⟩
 obtain⟨l,hl,rfl⟩:=L3.mp hw;exact Bg (h4 l hl).1
theorem oA:∀l:List (List Nat),(Str.ofString "").join (l.map wd)=wd l.flatten
 |[]=>rfl
 |[x]=>by simp[Str.join]
 |x::y::r=>by
  show wd x++Str.ofString ""++(Str.ofString "").join ((y::r).map wd)=_;rw[oA (y::r),lJ,dF,dF,LF];rfl
theorem sQ{r:Row}{k:Nat}(h:r.Ok k):∀p∈cG r,(p.1=0/\p.2<9)\/(p.1=1/\p.2<17)\/(p.1=2/\p.2<8):=by
 intro p hp;unfold cG at hp;rcases KL.mp hp with rfl|hp
 ·exact .inl ⟨rfl,r.vj⟩
 ·obtain⟨q,hq,hp⟩:=List.mem_flatMap.mp hp;have:=Row.t7 h q hq
  cases q with
  |box b=>rw[KU.mp hp];exact .inr (.inr ⟨rfl,this⟩)
  |num n=>rw[KU.mp hp];exact .inr (.inl ⟨rfl,iH this⟩)
  |goal n=>cases hp
theorem Cd.at{cd:List (List (List Nat))}(h:Cd cd){p:Nat×Nat}(hp:(p.1=0/\p.2<9)\/(p.1=1/\p.2<17)\/(p.1=2/\p.2<8)):cd[p.1]?=some (cd.getD p.1 [])/\(cd.getD p.1 [])[p.2]?=some (aM cd p)/\(aM cd p).length<=40:=by
 obtain⟨a,b,c,rfl,h1,h2,h3⟩:=h.ex;have key:∀(l:List (List Nat)) (i:Nat),i<l.length->l[i]?=some (l.getD i [])/\l.getD i []∈l:=λl i hi=>by
  rw[KD,K1 hi];exact⟨rfl,KZ hi⟩
 obtain⟨x,y⟩:=p;rcases hp with ⟨rfl,hy⟩|⟨rfl,hy⟩|⟨rfl,hy⟩
 ·have:=key a y (by rw[h1];exact hy)
  exact⟨rfl,this.1,h.le a (by simp) _ this.2⟩
 ·have:=key b y (by rw[h2];exact hy)
  exact⟨rfl,this.1,h.le b (by simp) _ this.2⟩
 ·have:=key c y (by rw[h3];exact hy)
  exact⟨rfl,this.1,h.le c (by simp) _ this.2⟩
theorem oi(r:Row):(cG r).length<=3:=by cases r<;>simp[cG,Row.dy,Pk.qh]
theorem qa{cd:List (List (List Nat))}{r:Row}{k:Nat}(hC:Cd cd)(h:r.Ok k):((cG r).flatMap (aM cd)).length<=120/\(fU r).length<=16:=by
 refine⟨?_,?_⟩
 ·have:∀l:List (Nat×Nat),(∀p∈l,(aM cd p).length<=40)->(l.flatMap (aM cd)).length<=40*l.length:=λl=>by
   induction l with
   |nil=>exactλ_=>KH _
   |cons p l ih =>
    intro h;have h1:=h p KG;have h2:=ih λq hq=>h q (KI _ hq);rw[Ny,K6,KQ];lia
  have h1:=this (cG r) λp hp=>(hC.at (sQ h p hp)).2.2;have h2:=oi r;lia
 ·cases r with
  |put b n =>
   have:=iH (n:=n) h.2;show (dA n).tail.length<=16;rw[P7];unfold dA;rw[dm];simp only[LS];lia
  |_=>exact KW _
noncomputable def nZ(l:List Nat):List Int:=l.map λk:Nat=>(k:Int)
theorem cf(l:List Nat):(nZ l).length=l.length:=K2 ..
theorem GA{l:List Nat}(h:Kr.ks 40 l<=2^40):jG (nZ l)=true:=by
 unfold jG KS nZ;rw[LM,show (Int.toNat ∘ λk:Nat=>(k:Int))=id from funext λk=>Lg k,List.map_id];exact Li h
structure Pt (l:List Nat):Prop where
 ks:Kr.ks 40 l=2^40
 le:∀x∈l,x+1<=l.length
 one:l=[0]\/∀x∈l,1<=x
theorem Pt.pos{l:List Nat}(h:Pt l):1<=l.length:=by
 cases l with
 |nil=>have:=h.ks;simp[Kr.ks] at this
 |cons=>simp
theorem Pt.next{l l3:List Nat}{a:Nat}(h:Pt l)(ha:a<l.length)(hl:l.length<=17)(hp:l3.Perm ((l[a]+1)::(l[a]+1)::l.eraseIdx a)):Pt l3/\l3.length=l.length+1:=by
 have hpm:(l[a]::l.eraseIdx a).Perm l:=by
  rw[O3]
  conv=>rhs;rw[<- LI a l,<- List.getElem_cons_drop ha]
  exact Mp.symm
 have hle:=l.length_eraseIdx_of_lt ha;have hx:=h.le _ (KZ ha);have h3:l3.length=l.length+1:=by
  rw[hp.length_eq,KQ,KQ,hle];lia
 have mem:∀y∈l3,y=l[a]+1\/y∈l.eraseIdx a:=λy hy=>by
  rcases KL.mp (hp.mem_iff.mp hy) with z|z
  ·exact .inl z
  ·rcases KL.mp z with z|z
   ·exact .inl z
   ·exact .inr z
 have mem2:∀y∈l.eraseIdx a,y∈l:=λy hy=>hpm.mem_iff.mp (KI _ hy);refine⟨⟨?_,λy hy=>?_,.inr λy hy=>?_⟩,h3⟩
 ·have e1:=Kr.iQ (L:=40) hpm;rw[h.ks,Kr.ks] at e1;rw[Kr.iQ hp,Kr.ks,Kr.ks];have e2:2^(40-l[a])=2*2^(40-(l[a]+1)):=by rw[show 40-l[a]=(40-(l[a]+1))+1 by lia,MM];lia
  lia
 ·rw[h3];rcases mem y hy with rfl|z
  ·lia
  ·have:=h.le y (mem2 y z);lia
 ·rcases mem y hy with rfl|z
  ·lia
  ·rcases h.one with e|e
   ·subst e;have ha0:a=0:=by simpa using ha
    subst ha0;cases z
   ·exact e y (mem2 y z)
theorem CC(l:List α)(n:Nat)(x:α):(jr l n x).length=l.length+1:=by
 unfold jr;rw[K6,KQ,K_,Ly];lia
theorem pB(l:List α)(n:Nat)(x:α):(jr l n x).Perm (x::l):=by
 unfold jr;refine Mp.trans ?_;rw[LI]
theorem xQ:∀{l:List Nat} {a z:Nat} (ha:a<l.length),l[a]<=z->Kr.ks 40 (l.set a z)<=Kr.ks 40 l
 |[],_,_,ha,_=>(nomatch ha)
 |x::l,0,z,_,h=>by
  have:2^(40-z)<=2^(40-x):=M9 (by decide) (by have:x<=z:=h;lia)
  simp only[NR,Kr.ks];lia
 |x::l,a+1,z,ha,h=>by
  have:=xQ (l:=l) (a:=a) (z:=z) (by simpa using ha) (by simpa using h)
  simp only[List.set_cons_succ,Kr.ks];lia
theorem AN{β:Type}{f:α->β}{o m:List β}(h:o.Perm m):∀l:List α,l.map f=m->∃k:List α,k.map f=o/\k.Perm l:=by
 induction h with
 |nil =>
  intro l e
  cases l with
  |nil=>exact⟨[],rfl,.nil⟩
  |cons=>cases e
 |cons x p ih =>
  intro l e
  cases l with
  |nil=>cases e
  |cons a l =>
   obtain⟨rfl,e2⟩:=List.cons.inj e;obtain⟨k,e3,p3⟩:=ih l e2;exact⟨a::k,by rw[Lp,e3],p3.cons a⟩
 |swap x y l0 =>
  intro l e;rcases l with _|⟨a,_|⟨b,l⟩⟩
  ·cases e
  ·cases e
  ·obtain⟨rfl,e2⟩:=List.cons.inj e;obtain⟨rfl,e3⟩:=List.cons.inj e2;exact⟨b::a::l,by rw[<- e3];rfl,.swap ..⟩
 |trans p q ih1 ih2 =>
  intro l e;obtain⟨k,e1,p1⟩:=ih2 l e;obtain⟨k',e2,p2⟩:=ih1 k e1;exact⟨k',e2,p2.trans p1⟩
theorem Du{p:List Nat}(hp:p.Perm (List.range ls.length))(hr:p.Pairwise (SP.R λi=>ls.getD i 0)):aI ls=p:=by
 have ez:(List.range ls.length).map (λi=>(ls.getD i 0,i))=ls.zip (List.range ls.length):=by
  apply Na
  ·rw[K2,Lo,PJ,Lo,M6]
  ·intro i h1 h2;rw[K2,Lo] at h1;rw[List.getElem_map,OU,List.getElem_zip];simp[h1]
 have e1:p.map (λi=>(ls.getD i 0,i))=eV (ls.zip (List.range ls.length)):=by
  refine qA ?_ λa=>?_
  ·exact MA.mpr (hr.imp λh=>h.le)
  ·have fl:∀l:List Nat,atK a (l.map λi=>(ls.getD i 0,i))=(l.filter λi=>decide (ls.getD i 0=a)).map λi=>(ls.getD i 0,i):=λl=>by
    unfold atK;rw[List.filter_map];rfl
   rw[<- ez,fl,fl];congr 1;refine P4 (le:=(· < ·)) (λa b _ _ h g=>absurd h (Nat.lt_asymm g)) ?_ (Og.filter _) (hp.filter _);rw[List.pairwise_filter];refine hr.imp λ{i j} h hi hj=>?_;have hi:=LC hi;have hj:=LC hj;rcases h with h|h
   ·exfalso;have h':ls.getD i 0<ls.getD j 0:=h;lia
   ·exact h.2
 unfold aI jc;rw[<- e1,LM];exact List.map_id _
noncomputable def pd(ls:List Int)(i:Nat):Int×Int:=(ls.getD i 0,(i:Int))
theorem xf{out:List (Int×Int)}(hp:out.Perm ((List.range ls.length).map (pd ls)))(hu:Ja out):out=(aI ls).map (pd ls)/\(aI ls).Pairwise (SP.R λi=>ls.getD i 0):=by
 obtain⟨p,rfl,pp⟩:=AN hp (List.range ls.length) rfl;have hr:p.Pairwise (SP.R λi=>ls.getD i 0):=by
  have nd:p.Nodup:=pp.nodup_iff.mpr Ow;unfold Ja at hu;rw[MA] at hu;refine (hu.and nd).imp λ{i j} h=>?_;have h1:¬ ((pd ls j).1<(pd ls i).1\/((pd ls j).1=(pd ls i).1/\(pd ls j).2<(pd ls i).2)):=of_decide_eq_false h.1;have h1':¬ (ls.getD j 0<ls.getD i 0\/(ls.getD j 0=ls.getD i 0/\(j:Int)<(i:Int))):=h1;show ls.getD i 0<ls.getD j 0\/(ls.getD i 0=ls.getD j 0/\i<j);have:=h.2;lia
 rw[Du pp hr];exact⟨rfl,hr⟩
theorem FE(h:(aI ls).Pairwise (SP.R λi=>ls.getD i 0)):(aI ls).Pairwise λi j=>aU ls i<=aU ls j:=h.imp λ{i j} h=>by
 have h':ls.getD i 0<=ls.getD j 0:=h.le;unfold aU;lia
theorem wq:∀(k:Nat) (w acc:List Nat),w.length=k->(∀c∈w,c=48\/c=49)->bo (Cw.val w:Int) k acc=w++acc:=by
 intro k
 induction k with
 |zero=>intro w acc h _;rw[MG.mp h];rfl
 |succ k ih =>
  intro w acc h hb;obtain⟨v,c,rfl⟩:∃v c,w=v++[c]:=by
   rcases Ql w with e|⟨v,c,e⟩
   ·rw[e] at h;cases h
   ·exact⟨v,c,by rw[e,List.concat_eq_append]⟩
  have hc:=hb c (by simp)
  have ev:Cw.val (v++[c])=2*Cw.val v+(c-48):=by
   rw[Cw.gP];rcases hc with rfl|rfl
   ·simp[Cw.val];lia
   ·simp[Cw.val];lia
  rw[bo];have e1:((Cw.val (v++[c]):Nat):Int) / 2=(Cw.val v:Int):=by rw[ev];lia
  have e2:dg ((Cw.val (v++[c]):Nat):Int)=c:=by
   unfold dg;rw[ev];rcases hc with rfl|rfl
   ·have:((2*Cw.val v+(48-48):Nat):Int) % 2=0:=by lia
    rw[this];rfl
   ·have:((2*Cw.val v+(49-48):Nat):Int) % 2=1:=by lia
    rw[this];rfl
  rw[e1,e2,ih v (c::acc) (by rw[K6,N0] at h;lia) (λx hx=>hb x (by simp[hx])),Ld]
  rfl
theorem zb(ls:List Int):Kr.ks 40 ((aI ls).map (aU ls))=KS ls:=by
 unfold KS;refine Kr.iQ ?_;have e:ls.map Int.toNat=(List.range ls.length).map (aU ls):=by
  apply Na
  ·simp
  ·intro i h1 h2;have hi:i<ls.length:=by simpa using h1
   simp[aU,hi]
 rw[e];exact (iZ (by rw[Lo])).map _
structure At (ls:List Int) (done todo:List Nat) (a:Option (List Nat)) (n h:Int):Prop where
 all:done++todo=aI ls
 st:(a=none/\done=[]/\n=-1/\h=0)\/∃w,a=some w/\n=(Cw.val w:Int)/\h=(w.length:Int)/\Cw.hU (done.map (aU ls)) w/\∀t∈todo,w.length<=aU ls t
def lX(a:Option (List Nat))(l:Nat):List Nat:=match a with|none=>List.replicate l 48|some v=>Cw.fk v l
theorem At.next{ls:List Int}{done todo:List Nat}{a:Option (List Nat)}{n h:Int}{t:Nat}(x:At ls done (t::todo) a n h)(hL:ia ls)(ho:jG ls=true)(hu:(aI ls).Pairwise λi j=>aU ls i<=aU ls j):
  ∃d:Nat,(aU ls t:Int)-h=d/\d<=aU ls t/\(n+1)*2^d=(Cw.val (lX a (aU ls t)):Int)/\(lX a (aU ls t)).length=aU ls t/\(∀c∈lX a (aU ls t),c=48\/c=49)/\At ls (done++[t]) todo (some (lX a (aU ls t))) (Cw.val (lX a (aU ls t)):Int) (aU ls t:Int):=by
 have hall:(done++[t])++todo=aI ls:=by rw[Ld];exact x.all
 have htl:aU ls t<=40:=by
  have h:=i5 (ls:=ls) (t:=t) (by rw[<- x.all];simp)
  have:=hL.2.2 _ (KZ h);unfold aU;rw[KD,K1 h];show ls[t].toNat<=40;lia
 have hk:Kr.ks 40 ((done++[t]++todo).map (aU ls))<=2^40:=by rw[hall,zb];exact LC ho
 rw[KN,KN,Kr.cC,Kr.cC] at hk;have hle:∀u∈todo,aU ls t<=aU ls u:=λu hu'=>by
  rw[<- x.all] at hu;exact (L4.mp (Mf.mp hu).2.1).1 u hu'
 rcases x.st with ⟨rfl,rfl,rfl,rfl⟩|⟨w,rfl,rfl,rfl,hH,hw⟩
 ·refine⟨aU ls t,by lia,KH _,?_,KY ..,λc hc=>.inl (Mb.mp hc).2,hall,.inr ⟨_,rfl,rfl,by rw[show lX none (aU ls t)=List.replicate (aU ls t) 48 from rfl,KY],Cw.hU.first htl,λu hu'=>by rw[show lX none (aU ls t)=List.replicate (aU ls t) 48 from rfl,KY];exact hle u hu'⟩⟩
  rw[show lX none (aU ls t)=List.replicate (aU ls t) 48 from rfl,Cw.fv];simp
 ·have hwt:=hw t KG;have hk2:Kr.ks 40 (done.map (aU ls))+2^(40-aU ls t)<=2^40:=by
   simp only[Lp,MK,Kr.ks] at hk;lia
  have hz:=hH.zero (rest:=[]) hk2;have hN:=hH.next hwt htl hk2;refine⟨aU ls t-w.length,by lia,Pe _ _,?_,Cw.eK hwt,Cw.mF hH.bits,hall,.inr ⟨_,rfl,rfl,by rw[show lX (some w) (aU ls t)=Cw.fk w (aU ls t) from rfl,Cw.eK hwt],by rw[KN];exact hN,λu hu'=>by rw[show lX (some w) (aU ls t)=Cw.fk w (aU ls t) from rfl,Cw.eK hwt];exact hle u hu'⟩⟩
  rw[show lX (some w) (aU ls t)=Cw.fk w (aU ls t) from rfl,Cw.qz hH.bits hz];simp
theorem jn:∀(k:Nat) (n:Int) (acc:List Nat),bo n k acc=bo n k []++acc
 |0,_,_=>rfl
 |k+1,n,acc=>by
  rw[bo,bo,jn k (n / 2) (dg n::acc),jn k (n / 2) [dg n],Ld];rfl
theorem sS(k:Nat)(n:Int):bo n (k+1) []=bo (n / 2) k []++[dg n]:=by rw[bo,jn]
theorem zI(w:List Nat)(c:Nat):Cw.val (w++[c])=2*Cw.val w+(c-48):=by
 rw[Cw.gP];simp[Cw.val];lia
theorem jj:∀(k:Nat) (n:Int),(Cw.val (bo n k []):Int)=n % 2^k
 |0,n=>by simp[bo,Cw.val,Int.emod_one]
 |k+1,n=>by
  rw[sS,zI];have ih:=jj k (n / 2);have hd:((dg n-48:Nat):Int)=n % 2:=by unfold dg;have:=Nt n (show (2:Int)≠0 by decide);lia
  have e:(2:Int)*((n / 2) % 2^k)+n % 2=n % 2^(k+1):=by
   have h1:=O2 n 2;have h2:=O2 (n / 2) (2^k);have hp:(0:Int)<2^k:=Int.pow_pos (by decide)
   have h3:=Nt (n / 2) (Int.ne_of_gt hp);have h4:=Nu (n / 2) hp;have h5:=Nt n (show (2:Int)≠0 by decide)
   have h6:=Nu n (show (0:Int)<2 by decide)
   rw[P8];have key:n=(2*((n / 2) % 2^k)+n % 2)+(2^k*2)*((n / 2) / 2^k):=by
    rw[Qy,Int.mul_left_comm];generalize 2^k*(n / 2 / 2^k)=y at h2 ⊢;lia
   generalize hr:2*((n / 2) % 2^k)+n % 2=r at key ⊢;generalize (n / 2) / 2^k=y at key;rw[key,Int.add_mul_emod_self_left,Oe (by lia) (by lia)]
  push_cast
  rw[ih,hd,e]
theorem qX:∀(cs:List Nat) (a:Nat),cs.foldl (λa c=>a*2+(c-48)) a=a*2^cs.length+Cw.val cs
 |[],a=>by simp[Cw.val]
 |c::cs,a=>by
  rw[O5,qX cs,Cw.val,KQ,MM,Qe];rw[Nj,NN 2 (2^cs.length),NB]
theorem uE(cs:List Nat):kW cs=Cw.val cs:=by
 unfold kW;rw[qX,Nat.zero_mul,Mv]
theorem zC:∀{cs:List Nat},(∀c∈cs,c=48\/c=49)->Cw.val cs<2^cs.length
 |[],_=>by decide
 |c::cs,h=>by
  have ih:=zC (cs:=cs) λx hx=>h x (KI _ hx);rw[Cw.val,KQ,MM];rcases h c KG with rfl|rfl<;>simp<;>lia
theorem pC(n:Nat):∀c∈dA n,c=48\/c=49:=ic _ _ _ λc hc=>by cases hc
theorem nQ(n:Nat):(dA n).length=bq n:=by unfold dA;rw[dm];rfl
theorem jZ{n:Nat}(h:0<n):2^(bq n-1)<=n/\n<2^bq n/\0<bq n:=by
 have e:bq n=n.log2+1:=by
  unfold bq Builtin.Int.intBits;rw[KJ (by simp;lia)]
  rfl
 rw[e];exact⟨Nat.log2_self_le (by lia),Nat.lt_log2_self,Nat.succ_pos _⟩
theorem vq{n:Nat}(h:0<n):Cw.val (dA n)=n:=by
 have h1:=jj (bq n) (n:Int);have h2:=(jZ h).2.1;have e:(n:Int) % 2^bq n=n:=Oe (by lia) (by exact_mod_cast h2)
 rw[e] at h1;unfold dA
 exact_mod_cast h1
theorem zK{n:Nat}(h:0<n):dA n=49::(dA n).tail:=by
 obtain⟨b1,b2,b3⟩:=jZ h;have hl:=nQ n;have hv:=vq h;have hb:=pC n
 cases e:dA n with
 |nil=>rw[e] at hl;simp at hl;lia
 |cons c r =>
  rw[e] at hl hv hb;rcases hb c KG with rfl|rfl
  ·exfalso
   have:=zC (cs:=r) λx hx=>hb x (KI _ hx);rw[KQ] at hl;rw[<- hl,Nat.add_sub_cancel] at b1;simp[Cw.val] at hv;lia
  ·rfl
theorem BY{n:Nat}(h:0<n):kW (49::(dA n).tail)=n:=by rw[<- zK h,uE,vq h]
theorem xm{n:Nat}(h:bq n=0):n=0:=by
 rcases NU n with e|e
 ·exact e
 ·have:=(jZ e).2.2;lia
inductive Kd where
 |box|num|go
noncomputable def Kd.s:Kd->Str
 |.box=>Str.ofString "box"
 |.num=>Str.ofString "number"
 |.go=>Str.ofString "goal"
inductive PV where
 |box (b:Nat)|num (n:Nat)|go (d:Int)
def mw(cd:List (List (List Nat)))(z:List Nat)(p:Nat):Kd->Option (PV×Nat)
 |.box=>(kC (cd.getD 2 []) z p).map λx=>(.box x.1,x.2)
 |.num=>(zc (cd.getD 1 []) z p).map λx=>(.num x.1,x.2)
 |.go=>(gA z p).map λx=>(.go x.1,x.2)
structure yo (cd:List (List (List Nat))):Prop where
 fR:Cd cd
 pf:∀w∈cd,Pf w
noncomputable def Dx(i:Nat):List Kd:=[[Kd.box,.num],[.box,.box],[.box,.box],[.box,.box],[.box],[.box],[.go],[.box,.go],[]].getD i []
def rm(cd:List (List (List Nat)))(z:List Nat):List Kd->Nat->Option (List (PV×Nat)×Nat)
 |[],p=>some ([],p)
 |k::ks,p=>(mw cd z p k).bind λx=>(rm cd z ks x.2).map λy=>(x::y.1,y.2)
structure RW where
 wi:Nat
 vs:List (PV×Nat)
def DZ(cd:List (List (List Nat)))(z:List Nat)(p:Nat):Option (RW×Nat):=(kC (cd.getD 0 []) z p).bind λx=>(rm cd z (Dx x.1) x.2).map λy=>(⟨x.1,y.1⟩,y.2)
def Jb(cd:List (List (List Nat)))(z:List Nat)(p:Int):Option (RW×Nat):=if p<0 then none else DZ cd z p.toNat
theorem uT(cd:List (List (List Nat)))(z:List Nat)(p:Nat):Jb cd z (p:Int)=DZ cd z p:=by
 unfold Jb;rw[KJ (by lia),Lg]
theorem Cf(h:i<9):KTD.datumAt (bP.getD i (Str.ofString "")) bH=some ((Dx i).map Kd.s):=by
 have:i=0\/i=1\/i=2\/i=3\/i=4\/i=5\/i=6\/i=7\/i=8:=by lia
 rcases this with rfl|rfl|rfl|rfl|rfl|rfl|rfl|rfl|rfl<;>decide +kernel
theorem E1{a:List Nat}(h:wd a=wd b):a=b:=Lw (λs:Str=>s.cps.toList) h
theorem Pf.nd{ws:List (List Nat)}(h:Pf ws):ws.Nodup:=by
 unfold List.Nodup;rw[MT];intro i j hi hj hij e;exact h.pre i j hi hj (Ll hij) (by rw[e];exact List.prefix_refl _)
theorem B0(z:List Nat)(a b:Nat)(h:a<=b):Y.fV (wd z) (some (a:Int)) (some (b:Int))=wd ((z.drop a).take (b-a)):=by
 unfold Y.fV wd;congr 2;show Y.ml z (some (a:Int)) (some (b:Int))=_;unfold Y.ml;rw[HT.cX,HT.cX];rcases P9 z.length a with c|c
 ·rw[Ox c,Ox (KA c h),My,Qa c,List.take_nil,List.take_nil]
 ·rw[NJ c];rcases P9 z.length b with d|d
  ·rw[Ox d,L9 (by rw[Ly];exact KH _),L9 (by rw[Ly];lia)]
  ·rw[NJ d]
noncomputable def PV.n:PV->Int
 |.box b=>(b:Int)
 |.num n=>(n:Int)
 |.go d=>d
noncomputable def Kd.c:Kd->Nat
 |.box=>98
 |.num=>110
 |.go=>103
structure Kw (cd:List (List (List Nat))):Prop extends yo cd where
 Kn:∀ws∈cd,∀w∈ws,w.length<=20
theorem yf{ws:List (List Nat)}{x:Nat×Nat}(hne:∀w∈ws,w≠[])(h:zc ws z p=some x):p<x.2/\x.2<=z.length:=by
 unfold zc at h
 cases c:kC ws z p with
 |none=>rw[c] at h;cases h
 |some y =>
  rw[c] at h;obtain⟨_,_,h3,h4⟩:=fO hne c;dsimp only at h
  split at h
  ·cases h;exact⟨h3,h4⟩
  ·split at h
   ·rename_i hl;cases h;exact⟨by show p<y.2+_;lia,hl⟩
   ·cases h
theorem DY{x:Int×Nat}(h:gA z p=some x):p<x.2/\x.2<=z.length:=by
 unfold gA at h
 cases c:kC vo z p with
 |none=>rw[c] at h;cases h
 |some y =>
  rw[c] at h;obtain⟨_,_,h3,h4⟩:=fO om c;dsimp only at h
  split at h
  ·rename_i hl;cases h;exact⟨by show p<y.2+_;lia,hl⟩
  ·cases h
theorem zE{cd:List (List (List Nat))}{k:Kd}{x:PV×Nat}(hR:yo cd)(h:mw cd z p k=some x):p<x.2/\x.2<=z.length/\(∀b,x.1=.box b->b<8):=by
 obtain⟨c0,c1,c2,rfl,l0,l1,l2⟩:=hR.fR.ex;have n1:=(hR.pf c1 (by simp)).ne
 have n2:=(hR.pf c2 (by simp)).ne
 cases k with
 |box =>
  replace h:(kC c2 z p).map (λx=>(PV.box x.1,x.2))=some x:=h
  cases c:kC c2 z p with
  |none=>rw[c] at h;cases h
  |some y=>rw[c] at h;cases h;obtain⟨h1,_,h3,h4⟩:=fO n2 c;exact⟨h3,h4,λb e=>by cases e;lia⟩
 |num =>
  replace h:(zc c1 z p).map (λx=>(PV.num x.1,x.2))=some x:=h
  cases c:zc c1 z p with
  |none=>rw[c] at h;cases h
  |some y=>rw[c] at h;cases h;exact⟨(yf n1 c).1,(yf n1 c).2,λb e=>by cases e⟩
 |go =>
  replace h:(gA z p).map (λx=>(PV.go x.1,x.2))=some x:=h
  cases c:gA z p with
  |none=>rw[c] at h;cases h
  |some y=>rw[c] at h;cases h;exact⟨(DY c).1,(DY c).2,λb e=>by cases e⟩
theorem dX.app{x y:List Nat}(hx:dX x)(hy:dX y):dX (x++y):=λc hc=>(Lq.mp hc).elim (hx c) (hy c)
theorem dX.rep(n:Nat){v:Nat}(h:v=48\/v=49):dX (List.replicate n v):=λc hc=>by rw[(Mb.mp hc).2];exact h
theorem BO{w:List Nat}{n:Nat}(h:dX w):dX (Cw.fi w n):=by
 unfold Cw.fi Cw.pad;refine dX.app (dX.app (λc hc=>h c ?_) λc hc=>.inr (KU.mp hc)) (dX.rep _ (.inl rfl));have h1:=MH.mp (List.dropLast_subset _ hc);exact MH.mp ((Oi _).subset h1)
theorem xx{o:List Nat}:∀{a:Option (List Nat)} {ws:List (List Nat)},(∀v,a=some v->dX v)->(∀x∈ws,dX x)->∀x∈(Cw.along Cw.fi ln o (a,ws)).2,dX x:=by
 induction o with
 |nil=>exactλ_ h=>h
 |cons t o ih =>
  intro a ws ha hw
  cases a with
  |none =>
   refine ih (a:=some (List.replicate (ln t) 48)) (λv e=>by cases e;exact dX.rep _ (.inl rfl)) λx hx=>?_
   rcases LX hx with z|z
   ·exact hw x z
   ·rw[z];exact dX.rep _ (.inl rfl)
  |some v =>
   have hv:=BO (n:=ln t) (ha v rfl);refine ih (a:=some (Cw.fi v (ln t))) (λv e=>by cases e;exact hv) λx hx=>?_
   rcases LX hx with z|z
   ·exact hw x z
   ·rw[z];exact hv
theorem vZ(ls:List Int):∀x∈wordsOf Cw.fi ls,dX x:=xx (λv e=>by cases e) λx hx=>by rw[(Mb.mp hx).2];exactλc hc=>by cases hc
theorem ym{cd:List (List (List Nat))}(h:∀ws∈cd,∀w∈ws,dX w)(r:Row):dX (bf cd r):=by
 have at2:∀p,dX (aM cd p):=λp=>by
  unfold aM;rw[KD,KD]
  cases e:cd[p.1]? with
  |none=>exactλc hc=>by cases hc
  |some ws =>
   show dX (ws[p.2]?.getD [])
   cases e2:ws[p.2]? with
   |none=>exactλc hc=>by cases hc
   |some w=>exact h ws (Lu e) w (Lu e2)
 unfold bf;refine dX.app (λc hc=>?_) ?_
 ·obtain⟨p,_,hp⟩:=List.mem_flatMap.mp hc;exact at2 p c hp
 ·cases r with
  |put b n=>exactλc hc=>pC n c (List.mem_of_mem_tail hc)
  |two=>exactλc hc=>by cases hc
  |one=>exactλc hc=>by cases hc
  |jump=>exactλc hc=>by cases hc
  |zero=>exactλc hc=>by cases hc
  |halt=>exactλc hc=>by cases hc
theorem Bh(bk:List (List Int)):∀ws∈cT bk,∀w∈ws,dX w:=λws hw=>by
 obtain⟨l,_,rfl⟩:=L3.mp hw;exact vZ l
theorem cW{cd:List (List (List Nat))}(hC:Cd cd){r:Row}{k:Nat}(hr:r.Ok k):(bf cd r).length<=136:=by
 have:=qa hC hr;unfold bf;rw[K6];lia
inductive iN where
 |put (b n:Nat)|two (w:Fin 3) (a b:Nat)|one (w:Fin 2) (b:Nat)|jump (g:Int)|zero (b:Nat) (g:Int)|halt
inductive Ds where
 |s (z:Str)|n (k:Int)
def iN.ps:iN->List Ds
 |.put b n=>[.s "put",.s (e9 b),.n (n:Nat)]
 |.two w a b=>[.s (w2 w),.s (e9 a),.s (e9 b)]
 |.one w b=>[.s (w1 w),.s (e9 b)]
 |.jump g=>[.s "jump",.n g]
 |.zero b g=>[.s "zero",.s (e9 b),.n g]
 |.halt=>[.s "halt"]
def iN.Ok:iN->Prop
 |.put b _=>b<8
 |.two _ a b=>a<8/\b<8
 |.one _ b=>b<8
 |.jump _=>True
 |.zero b _=>b<8
 |.halt=>True
noncomputable def iN.rel(e:Int):iN->iN
 |.jump g=>.jump (g-e)
 |.zero b g=>.zero b (g-e)
 |r=>r
def Fj(x:RW×Nat):iN:=match x.1.vs with
 |[(.box b,_)]=>.one (if x.1.wi=4 then 0 else 1) b
 |[(.go d,e)]=>.jump ((e:Int)+d)
 |[(.box a,_),(.box b,_)]=>.two (if x.1.wi=1 then 0 else if x.1.wi=2 then 1 else 2) a b
 |[(.box b,_),(.num n,_)]=>.put b n
 |[(.box b,_),(.go d,e)]=>.zero b ((e:Int)+d)
 |_=>.halt
theorem I_{cd:List (List (List Nat))}{k:Kd}{y:List (PV×Nat)×Nat}(h:rm cd z [k] p=some y):∃x,mw cd z p k=some x/\y=([x],x.2):=by
 obtain⟨x,hx,h⟩:=Ni.mp h;cases h;exact⟨x,hx,rfl⟩
theorem Im{cd:List (List (List Nat))}{k l:Kd}{y:List (PV×Nat)×Nat}(h:rm cd z [k,l] p=some y):∃x x',mw cd z p k=some x/\mw cd z x.2 l=some x'/\y=([x,x'],x'.2):=by
 obtain⟨x,hx,h⟩:=Ni.mp h;obtain⟨y',hy,rfl⟩:=Lc.mp h;obtain⟨x',hx',rfl⟩:=I_ hy;exact⟨x,x',hx,hx',rfl⟩
theorem ff{cd:List (List (List Nat))}{x:PV×Nat}(hR:yo cd)(h:mw cd z p .box=some x):∃b e,x=(.box b,e)/\b<8:=by
 have h8:=(zE hR h).2.2;obtain⟨v,_,rfl⟩:=Lc.mp h;exact⟨_,_,rfl,h8 _ rfl⟩
theorem Ew{cd:List (List (List Nat))}{x:PV×Nat}(h:mw cd z p .num=some x):∃n e,x=(.num n,e):=by
 obtain⟨v,_,rfl⟩:=Lc.mp h;exact⟨_,_,rfl⟩
theorem DP{cd:List (List (List Nat))}{x:PV×Nat}(h:mw cd z p .go=some x):∃d e,x=(.go d,e):=by
 obtain⟨v,_,rfl⟩:=Lc.mp h;exact⟨_,_,rfl⟩
theorem Fz{cd:List (List (List Nat))}{ks:List Kd}{y:List (PV×Nat)×Nat}(hR:yo cd)(h:rm cd z ks p=some y):p<=y.2/\(p<=z.length->y.2<=z.length):=by
 induction ks generalizing p y with
 |nil=>cases h;exact⟨KH _,id⟩
 |cons k ks ih =>
  rw[rm] at h;obtain⟨x,hx,h⟩:=Ni.mp h;obtain⟨y',hy,rfl⟩:=Lc.mp h;obtain⟨i1,i2⟩:=ih hy;obtain⟨j1,j2,_⟩:=zE hR hx;exact⟨by show p<=y'.2;lia,λ_=>i2 j2⟩
theorem zu(hL:ia ls)(ho:jG ls=true):Pf (wordsOf Cw.fi ls):=by
 have hc:=canon hL (LC ho);have hg:∀(i:Nat) (h:i<(wordsOf Cw.fi ls).length),(wordsOf Cw.fi ls)[i]=(wordsOf Cw.fi ls).getD i []:=λi h=>by
  rw[KD,K1 h];rfl
 refine⟨λw hw e=>?_,λi j hi hj hne hp=>?_⟩
 ·obtain⟨i,hi,rfl⟩:=N8.mp hw;have hi':i<ls.length:=by rw[<- hc.len];exact hi
  have h1:=hc.Hm i hi';rw[<- hg i hi,e,LS] at h1;unfold aU at h1;rw[KD,K1 hi'] at h1;have h2:=hL.2.2 _ (KZ hi');have h1':0=(ls[i]).toNat:=h1;lia
 ·have hi':i<ls.length:=by rw[<- hc.len];exact hi
  have hj':j<ls.length:=by rw[<- hc.len];exact hj
  rw[hg i hi,hg j hj] at hp;have:(ls.getD i 0<ls.getD j 0\/(ls.getD i 0=ls.getD j 0/\i<j))\/(ls.getD j 0<ls.getD i 0\/(ls.getD j 0=ls.getD i 0/\j<i)):=by lia
  rcases this with h|h
  ·exact (hc.part i j hi' hj' h).not.1 hp
  ·exact (hc.part j i hj' hi' h).not.2 hp
theorem Bw{bk:List (List Int)}(h:Bk bk):∀ws∈cT bk,Pf ws:=λws hw=>by
 obtain⟨l,hl,rfl⟩:=L3.mp hw;obtain⟨a,b,c,e,_,_,_,h4⟩:=h;exact zu (h4 l hl).1 (h4 l hl).2
theorem pG{bk:List (List Int)}(h:Bk bk):Kw (cT bk):=by
 refine⟨⟨h.cd,Bw h⟩,λws hw w hw2=>?_⟩;obtain⟨l,hl,rfl⟩:=L3.mp hw;obtain⟨a,b,c,e,_,_,_,h4⟩:=h;have hc:=canon (h4 l hl).1 (LC (h4 l hl).2);obtain⟨i,hi,rfl⟩:=N8.mp hw2;have hi':i<l.length:=by rw[<- hc.len];exact hi
 have h1:=hc.Hm i hi';rw[KD,K1 hi] at h1;unfold aU at h1;rw[KD,K1 hi'] at h1;have h2:=(h4 l hl).1.2.2 _ (KZ hi');have h3:((wordsOf Cw.fi l)[i]).length=(l[i]).toNat:=h1;lia
def Bu.v:Bu->V
 |.s z=>.str z
 |.n k=>.int (k:Nat)
def Row.vs(r:Row):List V:=r.ps.map Bu.v
def Pk.v:Pk->V
 |.box b=>.str (e9 b)
 |.num n=>.int (n:Nat)
 |.goal g=>.int (g:Nat)
theorem Row.DW(r:Row):r.vs=.str r.wd::r.dy.map Pk.v:=by cases r<;>rfl
def PV.v(behind:Nat):PV->V
 |.box b=>.str (e9 b)
 |.num n=>.int (n:Int)
 |.go d=>.int ((behind:Int)+d)
def PV.l:PV->V
 |.box b=>.str (e9 b)
 |.num n=>.int (n:Int)
 |.go d=>.int d
def RW.v(r:RW):List V:=.str (bP.getD r.wi (Str.ofString ""))::r.vs.map λx=>x.1.v x.2
def RW.l(r:RW):List V:=.str (bP.getD r.wi (Str.ofString ""))::r.vs.map λx=>x.1.l
def Ds.v:Ds->V
 |.s z=>.str z
 |.n k=>.int k
def iN.vs(r:iN):List V:=r.ps.map Ds.v
theorem Jl{cd:List (List (List Nat))}{x:RW×Nat}(hR:yo cd)(h:DZ cd z p=some x):(Fj x).Ok/\x.1.v=(Fj x).vs/\x.1.l=((Fj x).rel x.2).vs/\p<x.2/\x.2<=z.length:=by
 obtain⟨c0,c1,c2,rfl,l0,l1,l2⟩:=hR.fR.ex;obtain⟨v,hv,h⟩:=Ni.mp h;obtain⟨y,hy,rfl⟩:=Lc.mp h;obtain⟨w1,_,w3,w4⟩:=fO (hR.pf c0 (by simp)).ne hv
 obtain⟨i1,i2⟩:=Fz hR hy;obtain⟨wi,e⟩:=v;dsimp only at *;refine and_assoc.mp (and_assoc.mp ⟨?_,by show p<y.2;lia,i2 w4⟩)
 have far:∀(e:Nat) (d:Int),(e:Int)+d-(e:Int)=d:=λe d=>by lia
 have:wi=0\/wi=1\/wi=2\/wi=3\/wi=4\/wi=5\/wi=6\/wi=7\/wi=8:=by lia
 rcases this with rfl|rfl|rfl|rfl|rfl|rfl|rfl|rfl|rfl
 ·obtain⟨x,x',hx,hx',rfl⟩:=Im hy;obtain⟨b,e,rfl,hb⟩:=ff hR hx;obtain⟨n,e',rfl⟩:=Ew hx';exact⟨⟨hb,rfl⟩,rfl⟩
 ·obtain⟨x,x',hx,hx',rfl⟩:=Im hy;obtain⟨b,e,rfl,hb⟩:=ff hR hx;obtain⟨n,e',rfl,hb'⟩:=ff hR hx';exact⟨⟨⟨hb,hb'⟩,rfl⟩,rfl⟩
 ·obtain⟨x,x',hx,hx',rfl⟩:=Im hy;obtain⟨b,e,rfl,hb⟩:=ff hR hx;obtain⟨n,e',rfl,hb'⟩:=ff hR hx';exact⟨⟨⟨hb,hb'⟩,rfl⟩,rfl⟩
 ·obtain⟨x,x',hx,hx',rfl⟩:=Im hy;obtain⟨b,e,rfl,hb⟩:=ff hR hx;obtain⟨n,e',rfl,hb'⟩:=ff hR hx';exact⟨⟨⟨hb,hb'⟩,rfl⟩,rfl⟩
 ·obtain⟨x,hx,rfl⟩:=I_ hy;obtain⟨b,e,rfl,hb⟩:=ff hR hx;exact⟨⟨hb,rfl⟩,rfl⟩
 ·obtain⟨x,hx,rfl⟩:=I_ hy;obtain⟨b,e,rfl,hb⟩:=ff hR hx;exact⟨⟨hb,rfl⟩,rfl⟩
 ·obtain⟨x,hx,rfl⟩:=I_ hy;obtain⟨d,e,rfl⟩:=DP hx;refine⟨⟨trivial,rfl⟩,?_⟩;show [_,V.int d]=[_,.int ((e:Int)+d-(e:Int))];rw[far];rfl
 ·obtain⟨x,x',hx,hx',rfl⟩:=Im hy;obtain⟨b,e,rfl,hb⟩:=ff hR hx;obtain⟨d,e',rfl⟩:=DP hx';refine⟨⟨hb,rfl⟩,?_⟩;show [_,_,V.int d]=[_,_,.int ((e':Int)+d-(e':Int))];rw[far];rfl
 ·cases hy;exact⟨⟨trivial,rfl⟩,rfl⟩
def zY(K:W.Frag):Sp:=λvs H Q _=>∃(a:Addr) (ls:List Int),vs=[.ref a]/\(H a=some (.tup (iV ls))\/H a=some (.lst (iV ls)))/\ia ls/\∀H',KB [] H H'->Q (.bl (jG ls)) H'
theorem rL(h:H a=some (.tup xs)\/H a=some (.lst xs)):∃b,sq H a=some (b,xs):=h.elim (λh=>⟨_,aC h⟩) λh=>⟨_,au h⟩
theorem zG(ha:H a=some (.tup (iV ls))\/H a=some (.lst (iV ls)))(hn:ls.length<64)(q:∀ns':List Int,ns'.Perm ls->ns'.Pairwise (·<=·)->∀l,H l=none->Q (.ref l) (upd H l (.lst (ns'.map V.int)))):Y.Bj K [.ref a] H Q:=ha.elim (λh=>.inl ⟨a,ls,rfl,aX.of h,hn,q⟩) λh=>.inr ⟨a,ls,rfl,a_.of h,hn,q⟩
theorem EI(T:Txt K mg)(F:HasFn K mg "can_be" lg ["lengths"]):ao P w K mg base aS 1 "can_be" ["lengths"] (zY K):=by
 refine F.dR cE (λvs H Q E h=>?_) (λf cdv A outer s H vs Q E hr h=>?_)
 ·obtain⟨a,ls,rfl,_⟩:=h;rfl
 ·have hu:=aN hr;obtain⟨a,ls,rfl,ha,hL,q⟩:=h;refine⟨_,(Z.aq (Z.se (i:=1) cE.nd Z.int)
   (Z.aq (Z.se (i:=2) cE.nd Z.int)
   (Z.aq (Z.se (i:=3) cE.nd (Z.cb (Z.cx K rfl) rfl T.cp (by decide +kernel) (Z.cons (Z.v 0) Z.nil)))
   (Z.aq (Z.dO Lm rfl (Z.any K rfl (Z.cb (Y.tq K rfl) rfl T.iO (by decide +kernel) (Z.cons (Z.v 0) Z.nil))) (Z.aG (i:=4) cE.nd rfl (by right)) (Z.aq (Z.dW (Z.bp cc (Z.v 1) Z.int) (Z.az (Z.ret Z.bl)) Z.bB)
   (Z.aq (Z.sj Lm (Z.tw (Z.wK (Z.bp iC (Z.v 2) (Z.v 4)) (Z.mN (Z.bp iC (Z.v 1) (Z.v 3))))) (Z.aq (Z.se (i:=1) cE.nd (Z.op cu (Z.v 1) Z.int))
   (Z.az (Z.se (i:=2) cE.nd (Z.op (Z.aQ K rfl) (Z.v 2) Z.int)))))
   (Z.aq (Z.dW (Z.bp Eh (Z.v 1) (Z.v 3)) (Z.az (Z.ret Z.bl)) Z.bB)
   (Z.aq (Z.se (i:=1) cE.nd (Z.op cZ (Z.v 1) Z.int))
   (Z.az (Z.se (i:=3) cE.nd (Z.op cZ (Z.v 3) Z.int))))))))
   (Z.az (Z.ret Z.bl)))))),?_⟩
  refine ar λN hN=>?_;walk_at "rz";rw[hN];clear hN N;refine ar λN hN=>?_;walk_at "rz";rw[hN];clear hN N;obtain⟨kd,hsq⟩:=rL ha;refine ar λN hN=>?_;exists hsq;rw[hN];clear hN N;refine ar λN hN=>?_;walk_at "rz";refine zG ha (by have:=hL.2.1;lia) λrs hp hs l hl=>?_
  have k1:KB [] H (upd H l (.lst (rs.map V.int))):=KB.new hl;have s1:upd H l (.lst (rs.map V.int)) l=some (.lst (iV rs)):=aa;generalize upd H l (.lst (rs.map V.int))=H1 at *;simp only[au s1];refine fj (xs:=iV rs) (λi σ H'=>∃(f d n:Int) (s4:Option V),H1=H'/\(∀x∈rs.drop i,1<=x/\x<=40/\d<=x)/\0<=f/\0<=d/\n=(rs.drop i).length/\(jG ls=true ↔ Kr.fit ((rs.drop i).map Int.toNat) f.toNat d.toNat 40)/\σ=[some (.ref a),some (.int f),some (.int d),some (.int n),s4]) ⟨1,0,_,none,rfl,λx hx=>by have:=hL.2.2 x (hp.mem_iff.mp hx);lia,by decide,by decide,by rw[LD,hp.length_eq,bj],?_,rfl⟩ ?_ ?_ ?_
  ·unfold jG KS Kr.fit;rw[MB,LD,Kr.iQ (hp.map Int.toNat),show (1:Int).toNat*2^(40-(0:Int).toNat)=2^40 from rfl]
  ·rintro i σ H' _ ⟨f,d,n,s4,rfl,_⟩;exact a_.of s1
  ·rintro i x σ H' hx ⟨f,d,n,s4,rfl,hb,f0,d0,hn,hi,rfl⟩;obtain⟨hir,rfl⟩:=kn hx;have ed:=L7 hir;have hs2:(rs.drop i).Pairwise (·<=·):=List.Pairwise.drop hs;rw[ed] at hb hn hi hs2;generalize rs[i]=l at *;generalize rs.drop (i+1)=r at *;obtain⟨hl1,hl2,hl3⟩:=hb l (by simp)
   have hle:∀x∈r,l<=x:=(L4.mp hs2).1;unfold aL;refine ar λM hM=>?_;by_cases hf:f=0
   ·exists KO hf;have:jG ls=false:=by
     cases c:jG ls with
     |false=>rfl
     |true=>have:=hi.mp c;rw[hf] at this;exact absurd this Kr.xW
    rw[this] at q;exact q _ k1
   ·exists KJ hf;rw[hM];clear hM M;refine ar λM hM=>?_;refine⟨λm σ H'=>H1=H'/\∃f d:Int,0<f/\0<=d/\d<=l/\m=(l-d).toNat/\(jG ls=true ↔ Kr.fit ((l::r).map Int.toNat) f.toNat d.toNat 40)/\σ=[some (.ref a),some (.int f),some (.int d),some (.int n),some (.int l)],⟨_,rfl,f,d,by lia,d0,hl3,rfl,hi,rfl⟩,?_⟩
    rintro m σ H' ⟨rfl,f,d,f0,d0,dl,rfl,hi,rfl⟩;have after:(d=l\/n<=f)->M [some (.ref a),some (.int f),some (.int d),some (.int n),some (.int l)] H1:=λhc=>by
     rw[hM];clear hM M;refine ar λM hM=>?_;by_cases h3:n<=f
     ·exists KO h3;have:jG ls=true:=hi.mpr (Kr.sx (λx hx=>by
       obtain⟨y,hy,rfl⟩:=L3.mp hx;rcases KL.mp hy with rfl|hy
       ·lia
       ·have:=hle y hy;lia) (by rw[K2];lia))
      rw[this] at q;exact q _ k1
     ·exists KJ h3;rw[hM];clear hM M;refine ar λM hM=>?_;walk_at "rz";rw[hM];clear hM M;refine jN λM hM=>?_;walk_at "rz";rw[hM];have hd:d=l:=hc.resolve_right h3;subst hd;refine⟨f-1,d,n-1,some _,rfl,λx hx'=>⟨(hb x (by simp[hx'])).1,(hb x (by simp[hx'])).2.1,hle x hx'⟩,by lia,d0,by rw[hn,KQ];lia,?_,rfl⟩
      rw[hi,Lp,Kr.yq (by lia),show (f-1).toNat=f.toNat-1 by lia]
    by_cases c1:d<l
    ·by_cases c2:f<n
     ·exists KO c1,KO c2;refine⟨λσ' H'=>∃m',m'<(l-d).toNat/\(H1=H'/\∃f d:Int,0<f/\0<=d/\d<=l/\m'=(l-d).toNat/\(jG ls=true ↔ Kr.fit ((l::r).map Int.toNat) f.toNat d.toNat 40)/\σ'=[some (.ref a),some (.int f),some (.int d),some (.int n),some (.int l)]),λ_ _ h=>h,?_⟩;refine⟨.inr (by decide),?_⟩
      refine⟨_,?_,rfl,f*2,d+1,by lia,by lia,by lia,rfl,?_,rfl⟩
      ·lia
      ·rw[hi,Kr.tE (l:=l.toNat) (by lia) (by lia),show (f*2).toNat=f.toNat*2 by lia,show (d+1).toNat=d.toNat+1 by lia]
     ·exists KO c1,KJ c2;exact after (.inr (by lia))
    ·exists KJ c1;exact after (.inl (by lia))
  ·rintro σ H' ⟨f,d,n,s4,rfl,_,_,_,_,hi,rfl⟩;rw[bj,My] at hi;show N _ _;rw[hN];clear hN N;walk_at "rz";have:jG ls=true:=hi.mpr (KW _);rw[this] at q;exact q _ k1
def Kl:Option (List Nat)->V
 |none=>.aO
 |some w=>.str (wd w)
theorem ow(ws:List (List Nat)):(wV ws).length=ws.length:=K2 ..
def zL(K:W.Frag):Sp:=λvs H Q _=>∃(a:Addr) (ls:List Int),vs=[.ref a]/\H a=some (.tup (iV ls))/\ia ls/\jG ls=true/\∀b H',KB [] H H'->H' b=some (.tup (wV (wordsOf Cw.fi ls)))->Q (.ref b) H'
theorem Ce(T:Txt K mg)(F:HasFn K mg "code_of" dn ["lengths"])(hcan_be:ao P w K mg base aS 1 "can_be" ["lengths"] (zY K))(hword_behind:ao P w K mg base aS 1 "word_behind" ["ahead","length"] HK):ao P w K mg base aS 4 "code_of" ["lengths"] (zL K):=by
 obtain⟨c,Pt,htab,hcc⟩:=T.qj.ex;refine F.Ig e8 (λvs H Q E h=>?_) (λf cdv A outer s H vs Q E hr hm fR h=>?_)
 ·obtain⟨a,ls,rfl,_⟩:=h;rfl
 ·have:=hcc _ _ ⟨hm,fR⟩;subst this;have hu:=aN hr;obtain⟨a,ls,rfl,ha,hL,ho,q⟩:=h;refine⟨_,(Z.aq (Z.dW (Z.AS (Z.pI K rfl (Z.fc hcan_be (Z.cons (Z.v 0) Z.nil)))) (Z.az Z.IP) Z.bB)
   (Z.aq (Z.sec (j:=1) e8.nd (osc:=ab dn) (ON:=["lengths","words","ahead","thing"]) (own:=["length"]) (N:=["length","lengths","words","ahead","thing"]) (aA.of rfl (by decide +kernel)) (Z.any K rfl (Z.v 0)) (λnd _ _ _ _=>(Z.aG (i:=0) nd rfl (by right))) (λ_ _ _ _=>Z.jA) (λ_ _ _ _=>Z.str))
   (Z.aq (Z.se (i:=2) e8.nd Z.aO)
   (Z.aq (Z.dO Lm rfl (Z.any K rfl (Z.HF (k:=0) (j:=0) K rfl (by decide) htab rfl rfl rfl rfl rfl T.iO (Z.cons (Z.ct Y.rj rfl T.cA (by decide +kernel) (Z.cons (Z.cb (Z.cx K rfl) rfl T.cp (by decide +kernel) (Z.cons (Z.v 0) Z.nil)) Z.nil)) Z.nil) (hr.mono (by decide)) rfl (by decide) rfl rfl rfl rfl rfl rfl rfl (λ_ _ _ _=>rfl))) (Z.aG (i:=3) e8.nd rfl (by right)) (Z.aq (Z.asg (Z.fc hword_behind (Z.cons (Z.v 2) (Z.cons (Z.ix (Z.aF K rfl hu) (Z.v 0) (Z.v 3)) Z.nil))) (Z.oz (Z.v 1) (Z.v 3)))
   (Z.az (Z.se (i:=2) e8.nd (Z.ix (Z.aF K rfl hu) (Z.v 1) (Z.v 3))))))
   (Z.az (Z.ret (Z.ct (Z.cm K rfl) rfl T.cq (by decide +kernel) (Z.cons (Z.v 1) Z.nil)))))))),?_⟩
  refine ar λN hN=>?_;walk_at "rz";refine⟨a,ls,rfl,.inl ha,hL,λH1 k1=>?_⟩;exists ho,Qz;rw[KJ (λz=>Bool.noConfusion z),hN];clear hN N;have ha1:=k1 _ _ ha (by simp)
  refine ar λN hN=>?_;exists aC ha1;refine bF (xs:=iV ls) (KA (show _<=20 by rw[bj];exact hL.2.1) (by decide)) (λD i ys H'=>H' D=some (.lst ys)/\ys=wV (List.replicate i [])/\KB [] H1 H'/\H1 D=none) (λD hD=>⟨aa,rfl,KB.new hD,hD⟩) (λD i ys H' h=>⟨h.1,by rw[h.2.1,ow,KY]⟩) (λD i ys H' h=>aX.of (h.2.2.1 _ _ ha1 (by simp))) ?_ ?_
  ·rintro D i ys H' x R hx ⟨g1,rfl,g3,g4⟩ kk;walk_at "rz";refine kk _ _ g1 ⟨aa,?_,λb o e _=>?_,g4⟩
   ·rw[List.replicate_succ',wV,wV,KN];rfl
   ·rw[af (ae e g4)];exact g3 b o e (by simp)
  rintro D ys H2 ⟨g1,rfl,g3,g4⟩;rw[bj] at g1;show N _ _;rw[hN];clear hN N;refine ar λN hN=>?_;walk_at "rz";rw[hN];clear hN N;have h02:=k1.trans g3;have D0:H D=none:=k1.free (by simp) g4
  have ha2:=h02 _ _ ha (by simp)
  refine ar λN hN=>?_;exists aC ha2;refine .inl ⟨_,rfl,λr hr0=>?_⟩;have k3:KB [] H2 (upd H2 r (.nq 0 ((iV ls).length:Nat))):=KB.new hr0;have s3:upd H2 r (.nq 0 ((iV ls).length:Nat)) r=some (.nq 0 (ls.length:Nat)):=by rw[aa,bj]
  generalize upd H2 r (.nq 0 ((iV ls).length:Nat))=H3 at *;have le:(ko ls.length).length=ls.length:=by rw[K2,Lo]
  have ha3:=k3 _ _ ha2 (by simp)
  refine⟨r,ko ls.length,ls,rfl,⟨ls.length,s3,rfl⟩,le.symm,by rw[le];have:=hL.2.1;lia,λi v k e1 e2 H' g=>?_,λH4 l g hl=>?_⟩
  ·have hi:i<ls.length:=(K7.mp e2).1;have e3:(ko ls.length)[i]?=some (.int (i:Int)):=by simp[hi]
   rw[e3] at e1;cases e1;exact⟨_,a,iV ls,rfl,rfl,aX.of (g.same _ _ ha3),aR (by unfold iV;rw[K8,e2];rfl)⟩
  have eo:jc ls (ko ls.length)=(aI ls).map λk=>V.int ((k:Nat):Int):=vD ..;rw[eo];have k4:KB [] H3 (upd H4 l (.lst ((aI ls).map λk=>V.int ((k:Nat):Int)))):=λb o e _=>by rw[af (ae (g.same _ _ e) hl)];exact g.same _ _ e
  have s4:upd H4 l (.lst ((aI ls).map λk=>V.int ((k:Nat):Int))) l=_:=aa;have gD4:=k4 _ _ (k3 _ _ g1 (by simp)) (by simp)
  have lD:l≠D:=λz=>by
   have:=g.same _ _ (k3 _ _ g1 (by simp))
   rw[<- z,hl] at this;cases this
  generalize upd H4 l (.lst ((aI ls).map λk=>V.int ((k:Nat):Int)))=H5 at *;have h05:KB [] H H5:=h02.trans (k3.trans k4);have a5:a≠D:=λz=>by rw[z,D0] at ha;cases ha
  clear k3 k4 g hl hr0 s3 ha3 le eo g1 h02 ha2 g3 g4 ha1 k1;refine fj (xs:=(aI ls).map λk=>V.int ((k:Nat):Int)) (λi σ H'=>∃o:Option V,i<=(aI ls).length/\(∀v,(fD ls ((aI ls).take i)).1=some v->v.length<=40)/\H' D=some (.lst (wV (fD ls ((aI ls).take i)).2))/\H' l=some (.lst ((aI ls).map λk=>V.int ((k:Nat):Int)))/\KB [] H H'/\σ=[some (.ref a),some (.ref D),some (Kl (fD ls ((aI ls).take i)).1),o]) ⟨none,KW _,(λv z=>by cases z),gD4,s4,h05,rfl⟩ (λi σ H' _ h=>by obtain⟨o,_,_,_,h,_⟩:=h;exact a_.of h) ?_ ?_
  ·rintro i x σ H' hx ⟨o,hi,hw,gD,gl,h0,rfl⟩;have hio:i<(aI ls).length:=by have:=(K7.mp hx).1;rw[K2] at this;exact this
   obtain rfl:x=.int (((aI ls)[i]:Nat):Int):=by
    rw[K8,K1 hio] at hx;exact (Option.some.inj hx).symm
   have hth:(aI ls)[i]<ls.length:=i5 (KZ hio);have eT:(aI ls).take (i+1)=(aI ls).take i++[(aI ls)[i]]:=by rw[L8,K1 hio];rfl
   rw[eT];generalize (aI ls)[i]=th at *;generalize (aI ls).take i=done at *;have ex:bC (iV ls) (th:Int)=some (.int ls[th]):=DT hth;have hlt:=hL.2.2 _ (KZ hth);have en:ls[th]=((aU ls th:Nat):Int):=by
    unfold aU;rw[KD,K1 hth];simp;lia
   have hn20:aU ls th<=40:=by lia
   have eD:fD ls (done++[th])=Cw.along Cw.fi (aU ls) [th] (fD ls done):=Cw.fB _ _ _;have hwl:(fD ls done).2.length=ls.length:=FV ls done;have gt:=aC (h0 _ _ ha (by simp))
   obtain⟨n,hn⟩:∃n,aU ls th=n:=⟨_,rfl⟩;rw[hn] at en hn20;have fin:∀y:List Nat,y.length<=40->fD ls (done++[th])=(some y,(fD ls done).2.set th y)->∀M,M=(λσ H'=>∃o:Option V,i+1<=(aI ls).length/\(∀v,(fD ls (done++[th])).1=some v->v.length<=40)/\H' D=some (.lst (wV (fD ls (done++[th])).2))/\H' l=some (.lst ((aI ls).map λk=>V.int ((k:Nat):Int)))/\KB [] H H'/\σ=[some (.ref a),some (.ref D),some (Kl (fD ls (done++[th])).1),o])->M [some (.ref a),some (.ref D),some (.str (wd y)),some (.int (th:Nat))] (upd H' D (.lst ((wV (fD ls done).2).set th (.str (wd y))))):=λy hy e M hM=>by
    rw[hM,e];refine⟨some _,hio,λv z=>by cases z;exact hy,?_,by rw[af lD];exact gl,λb u e _=>by rw[af (ae e D0)];exact h0 _ _ e (by simp),rfl⟩
    rw[aa];unfold wV;rw[MN]
   have xk:iF (wV (fD ls done).2).length (th:Int)=some th:=by rw[nH (by lia) (by rw[ow,hwl];lia),Lg]
   have setI:∀y:List Nat,bC ((wV (fD ls done).2).set th (.str (wd y))) (th:Int)=some (.str (wd y)):=λy=>aR (MI (by rw[ow,hwl];exact hth))
   unfold aL;refine ar λM hM=>?_;exists gt,ex
   cases hs:(fD ls done).1 with
   |none =>
    refine⟨n,hn20,.inl ⟨by rw[en];rfl,?_⟩⟩
    exists gD,xk;rw[hM];clear hM M;dsimp only;refine jN λM hM=>?_;exists setI;refine fin _ (by rw[List.length_replicate];exact hn20) ?_ M hM
    rw[eD];generalize fD ls done=st at *;obtain⟨x,ws⟩:=st;obtain rfl:x=none:=hs;subst hn;rfl
   |some v =>
    refine⟨n,hn20,.inr ⟨v,by rw[en];rfl,hw v hs,?_⟩⟩
    exists gD,xk;rw[hM];clear hM M;dsimp only;refine jN λM hM=>?_;exists setI;refine fin _ (v9 (hw v hs) hn20) ?_ M hM;rw[eD];generalize fD ls done=st at *;obtain⟨x,ws⟩:=st;obtain rfl:x=some v:=hs;subst hn;rfl
  ·rintro σ H' ⟨o,_,_,gD,_,h0,rfl⟩;rw[K2,Lz] at gD;show N _ _;rw[hN];clear hN N;exists au gD;exactλb hb=>q b _ (h0.trans (KB.new hb)) aa
noncomputable def ay:Row->Option Nat
 |.jump g=>some g
 |.zero _ g=>some g
 |_=>none
theorem pre_split{a:List Nat}(h:a++b <+: z.drop p):a <+: z.drop p/\b <+: z.drop (p+a.length):=by
 obtain⟨y,e⟩:=h;refine⟨⟨b++y,by rw[<- e,Ld]⟩,y,?_⟩
 rw[<- Qn,<- e,Ld,Qk]
theorem uv{ws:List (List Nat)}(h:Pf ws)(ht:t<ws.length)(hp:ws.getD t [] <+: z.drop p):kC ws z p=some (t,p+(ws.getD t []).length):=by
 unfold kC;rw[h.th ht hp];rfl
theorem GB:Pf vo:=⟨om,λi j hi hj hne=>by
 rcases iB hi with rfl|rfl|rfl<;>rcases iB hj with rfl|rfl|rfl<;>first|exact absurd rfl hne|decide +revert⟩
theorem kR{cd:List (List (List Nat))}{b:Nat}(hR:yo cd)(hb:b<8)(hp:aM cd (2,b) <+: z.drop p):mw cd z p .box=some (.box b,p+(aM cd (2,b)).length):=by
 obtain⟨c0,c1,c2,rfl,l0,l1,l2⟩:=hR.fR.ex;show (kC c2 z p).map _=_;rw[uv (hR.pf c2 (by simp)) (by lia) hp];rfl
theorem Fs{cd:List (List (List Nat))}{n:Nat}(hR:yo cd)(hn:n<65536)(hp:aM cd (1,bq n)++(dA n).tail <+: z.drop p):mw cd z p .num=some (.num n,p+(aM cd (1,bq n)++(dA n).tail).length):=by
 obtain⟨c0,c1,c2,rfl,l0,l1,l2⟩:=hR.fR.ex;have hb:=iH hn;obtain⟨h1,y,e⟩:=pre_split hp;have hl:=hp.length_le;rw[K6,Ly] at hl;have htl:(dA n).tail.length=bq n-1:=by rw[P7,nQ]
 have hc:=uv (hR.pf c1 (by simp)) (by lia) h1
 have h0:=(fO (hR.pf c1 (by simp)).ne hc).2.2.1
 replace hc:kC c1 z p=some (bq n,p+(aM [c0,c1,c2] (1,bq n)).length):=hc
 show (zc c1 z p).map _=_;unfold zc;rw[hc];dsimp only
 replace h0:p<p+(aM [c0,c1,c2] (1,bq n)).length:=h0
 generalize aM [c0,c1,c2] (1,bq n)=w at *;by_cases c:bq n=0
 ·rw[KO c];have e0:=xm c;subst e0;rw[K6,htl,c];rfl
 ·rw[KJ c,KO (by lia),<- e,<- htl,NX]
  have hn0:0<n:=by
   rcases NU n with e|e
   ·subst e;exact absurd (by decide +kernel) c
   ·exact e
  rw[BY hn0,K6,NB];rfl
theorem jX{w:Nat}(d:Int):(cH w d).length=(cy w).length+ba w:=by
 unfold cH;rw[K6,dm];rfl
theorem DR{cd:List (List (List Nat))}{k:Nat}(hk:k<3)(h1:-bK k<=d)(h2:d<bK k)(hp:cH k d <+: z.drop p):mw cd z p .go=some (.go d,p+(cH k d).length):=by
 obtain⟨hh,y,e⟩:=pre_split hp;have hl:=hp.length_le;rw[jX,Ly] at hl;have hc:=uv (t:=k) GB hk (by rw[A9 hk];exact hh)
 rw[A9 hk] at hc;have h16:0<ba k:=by rcases iB hk with rfl|rfl|rfl<;>decide
 have h2h:(2:Int)^ba k=2*bK k:=by rcases iB hk with rfl|rfl|rfl<;>decide
 have hl2:(bo d (ba k) []).length=ba k:=by rw[dm];rfl
 show (gA z p).map _=_;unfold gA;rw[hc];dsimp only;rw[if_pos (by lia),<- e,jX]
 have et:(bo d (ba k) []++y).take (ba k)=bo d (ba k) []:=by
  conv=>lhs;arg 1;rw[<- hl2]
  rw[NX]
 rw[et,uE,NB];have hv:=jj (ba k) d;rw[h2h] at hv;have:BG k (Cw.val (bo d (ba k) []))=d:=by
  unfold BG;rw[hv];by_cases c:0<=d
  ·rw[Oe c (by lia),KJ (by lia)]
  ·have:d % (2*bK k)=d+2*bK k:=by
    rw[<- Int.add_emod_right];exact Oe (by lia) (by lia)
   rw[this,KO (by lia)];lia
 rw[this];rfl
def eL(cd:List (List (List Nat)))(r:Row)(w:Nat)(d:Int):List Nat:=bf cd r++(match ay r with|none=>[]|some _=>cH w d)
def Row.m(g:Int):Row->iN
 |.put b n=>.put b n
 |.two u a b=>.two u a b
 |.one u b=>.one u b
 |.jump _=>.jump g
 |.zero b _=>.zero b g
 |.halt=>.halt
theorem G0{cd:List (List (List Nat))}{n k:Nat}{r:Row}(hR:yo cd)(hr:r.Ok n)(hd:∀t,ay r=some t->k<3/\-bK k<=d/\d<bK k)(hp:eL cd r k d <+: z.drop p):∃x,DZ cd z p=some x/\x.2=p+(eL cd r k d).length/\Fj x=r.m ((x.2:Int)+d):=by
 have hw:∀{i:Nat} {y:List Nat},i<9->aM cd (0,i)++y <+: z.drop p->kC (cd.getD 0 []) z p=some (i,p+(aM cd (0,i)).length)/\y <+: z.drop (p+(aM cd (0,i)).length):=λ{i y} hi h=>by
  obtain⟨h1,h2⟩:=pre_split h;obtain⟨c0,c1,c2,rfl,l0,l1,l2⟩:=hR.fR.ex;exact⟨uv (hR.pf c0 (by simp)) (by rw[show [c0,c1,c2].getD 0 []=c0 from rfl];lia) h1,h2⟩
 have fin:∀(i:Nat) (y:List Nat) (v:List (PV×Nat)) (e:Nat),i<9->eL cd r k d=aM cd (0,i)++y->(y <+: z.drop (p+(aM cd (0,i)).length)->rm cd z (Dx i) (p+(aM cd (0,i)).length)=some (v,e))->e=p+(eL cd r k d).length->Fj (⟨i,v⟩,e)=r.m ((e:Int)+d)->∃x,DZ cd z p=some x/\x.2=p+(eL cd r k d).length/\Fj x=r.m ((x.2:Int)+d):=λi y v e hi e1 e2 e3 e4=>by
  rw[e1] at hp;obtain⟨h1,h2⟩:=hw hi hp;refine⟨(⟨i,v⟩,e),?_,e3,e4⟩;unfold DZ;rw[h1,N9,e2 h2];rfl
 cases r with
 |put b n' =>
  have e0:eL cd (.put b n') k d=aM cd (0,0)++(aM cd (2,b)++(aM cd (1,bq n')++(dA n').tail)):=by
   simp[eL,bf,cG,Row.dy,Pk.qh,Row.wi,fU,ay]
  refine fin 0 _ [(.box b,p+(aM cd (0,0)).length+(aM cd (2,b)).length),(.num n',p+(aM cd (0,0)).length+(aM cd (2,b)).length+(aM cd (1,bq n')++(dA n').tail).length)] (p+(aM cd (0,0)).length+(aM cd (2,b)).length+(aM cd (1,bq n')++(dA n').tail).length) (by decide) e0 (λhy=>?_) ?_ rfl
  ·obtain⟨y1,y2⟩:=pre_split hy;show (mw cd z _ .box).bind _=_;rw[kR hR hr.1 y1,N9];show ((mw cd z _ .num).bind _).map _=_;rw[Fs hR hr.2 y2];rfl
  ·rw[e0];simp only[K6];lia
 |two u a b =>
  have hu:(1+(u:Nat))<9:=(by decide:∀u:_root_.Fin 3,1+(u:Nat)<9) u
  have e0:eL cd (.two u a b) k d=aM cd (0,1+(u:Nat))++(aM cd (2,a)++aM cd (2,b)):=by
   simp[eL,bf,cG,Row.dy,Pk.qh,Row.wi,fU,ay]
  have ek:Dx (1+(u:Nat))=[.box,.box]:=by rcases xb u with rfl|rfl|rfl<;>rfl
  refine fin (1+(u:Nat)) _ [(.box a,p+(aM cd (0,1+(u:Nat))).length+(aM cd (2,a)).length),(.box b,p+(aM cd (0,1+(u:Nat))).length+(aM cd (2,a)).length+(aM cd (2,b)).length)] (p+(aM cd (0,1+(u:Nat))).length+(aM cd (2,a)).length+(aM cd (2,b)).length) hu e0 (λhy=>?_) ?_ ?_
  ·obtain⟨y1,y2⟩:=pre_split hy;rw[ek];show (mw cd z _ .box).bind _=_;rw[kR hR hr.1 y1,N9];show ((mw cd z _ .box).bind _).map _=_;rw[kR hR hr.2 y2];rfl
  ·rw[e0];simp only[K6];lia
  ·rcases xb u with rfl|rfl|rfl<;>rfl
 |one u b =>
  have hu:(4+(u:Nat))<9:=(by decide:∀u:_root_.Fin 2,4+(u:Nat)<9) u
  have e0:eL cd (.one u b) k d=aM cd (0,4+(u:Nat))++aM cd (2,b):=by
   simp[eL,bf,cG,Row.dy,Pk.qh,Row.wi,fU,ay]
  have ek:Dx (4+(u:Nat))=[.box]:=by rcases xr u with rfl|rfl<;>rfl
  refine fin (4+(u:Nat)) _ [(.box b,p+(aM cd (0,4+(u:Nat))).length+(aM cd (2,b)).length)] (p+(aM cd (0,4+(u:Nat))).length+(aM cd (2,b)).length) hu e0 (λhy=>?_) ?_ ?_
  ·rw[ek];show (mw cd z _ .box).bind _=_;rw[kR hR hr hy];rfl
  ·rw[e0];simp only[K6];lia
  ·rcases xr u with rfl|rfl<;>rfl
 |jump g =>
  have e0:eL cd (.jump g) k d=aM cd (0,6)++cH k d:=by
   simp[eL,bf,cG,Row.dy,Pk.qh,Row.wi,fU,ay]
  obtain⟨d1,d2,d3⟩:=hd g rfl;refine fin 6 _ [(.go d,p+(aM cd (0,6)).length+(cH k d).length)] (p+(aM cd (0,6)).length+(cH k d).length) (by decide) e0 (λhy=>?_) ?_ rfl
  ·show (mw cd z _ .go).bind _=_;rw[DR d1 d2 d3 hy];rfl
  ·rw[e0];simp only[K6];lia
 |zero b g =>
  have e0:eL cd (.zero b g) k d=aM cd (0,7)++(aM cd (2,b)++cH k d):=by
   simp[eL,bf,cG,Row.dy,Pk.qh,Row.wi,fU,ay]
  obtain⟨d1,d2,d3⟩:=hd g rfl;refine fin 7 _ [(.box b,p+(aM cd (0,7)).length+(aM cd (2,b)).length),(.go d,p+(aM cd (0,7)).length+(aM cd (2,b)).length+(cH k d).length)] (p+(aM cd (0,7)).length+(aM cd (2,b)).length+(cH k d).length) (by decide) e0 (λhy=>?_) ?_ rfl
  ·obtain⟨y1,y2⟩:=pre_split hy;show (mw cd z _ .box).bind _=_;rw[kR hR hr.1 y1,N9];show ((mw cd z _ .go).bind _).map _=_;rw[DR d1 d2 d3 y2];rfl
  ·rw[e0];simp only[K6];lia
 |halt =>
  have e0:eL cd .halt k d=aM cd (0,8)++[]:=by
   simp[eL,bf,cG,Row.dy,Pk.qh,Row.wi,fU,ay]
  refine fin 8 _ [] (p+(aM cd (0,8)).length) (by decide) e0 (λhy=>rfl) ?_ rfl
  rw[e0];simp only[K6];rfl
noncomputable def Bt:Nat->Nat
 |0=>5
 |1=>10
 |_=>18
def addW:Option Nat->Nat->Nat
 |none,_=>0
 |some _,w=>Bt w
theorem CW(g:Option Nat)(w:Nat):addW g w<=18:=by
 unfold addW Bt;split
 ·decide
 ·split<;>decide
def df:Nat->List Nat->List (Option Nat)->List Nat->List Nat
 |a,s::ss,g::gs,w::ws=>a::df (a+s+addW g w) ss gs ws
 |a,_,_,_=>[a]
theorem gu(a:Nat)(ss:List Nat)(gs:List (Option Nat))(ws:List Nat):∃l,df a ss gs ws=a::l:=by
 unfold df;split
 ·exact⟨_,rfl⟩
 ·exact⟨_,rfl⟩
theorem fM:∀(ss:List Nat) (gs:List (Option Nat)) (ws:List Nat) (a:Nat),gs.length=ss.length->ws.length=ss.length->(df a ss gs ws).length=ss.length+1
 |[],_,_,_,_,_=>by unfold df;rfl
 |s::ss,[],_,_,h,_=>by cases h
 |s::ss,_::_,[],_,_,h=>by cases h
 |s::ss,g::gs,w::ws,a,h1,h2=>by
  rw[df,KQ,fM ss gs ws _ (Nat.succ.inj h1) (Nat.succ.inj h2)];rfl
theorem A7:∀(ss:List Nat) (gs:List (Option Nat)) (ws:List Nat) (a:Nat),(∀s∈ss,s<=150)->∀v∈df a ss gs ws,a<=v/\v<=a+168*ss.length
 |[],_,_,a,_,v,h=>by
  have:v=a:=by unfold df at h;simpa using h
  rw[this];simp
 |s::ss,[],_,a,_,v,h=>by
  have:v=a:=by unfold df at h;simpa using h
  rw[this];simp
 |s::ss,_::_,[],a,_,v,h=>by
  have:v=a:=by unfold df at h;simpa using h
  rw[this];simp
 |s::ss,g::gs,w::ws,a,hs,v,h=>by
  rw[df] at h;have h1:=hs s KG;have h2:=CW g w;rw[KQ];rcases KL.mp h with rfl|h
  ·exact⟨KH _,Nat.le_add_right _ _⟩
  ·have:=A7 ss gs ws _ (λx hx=>hs x (KI _ hx)) v h;lia
theorem lM:∀(ss:List Nat) (gs:List (Option Nat)) (ws:List Nat) (a k:Nat) (s:Nat) (g:Option Nat) (w:Nat),ss[k]?=some s->gs[k]?=some g->ws[k]?=some w->(df a ss gs ws).getD (k+1) 0=(df a ss gs ws).getD k 0+s+addW g w
 |[],_,_,_,_,_,_,_,h,_,_=>by simp at h
 |s::ss,[],_,_,_,_,_,_,_,h,_=>by simp at h
 |s::ss,_::_,[],_,_,_,_,_,_,_,h=>by simp at h
 |s::ss,g::gs,w::ws,a,0,s',g',w',h1,h2,h3=>by
  simp at h1 h2 h3;subst h1;subst h2;subst h3;rw[df];obtain⟨l,e⟩:=gu (a+s+addW g w) ss gs ws;rw[e];rfl
 |s::ss,g::gs,w::ws,a,k+1,s',g',w',h1,h2,h3=>by
  rw[df];have:=lM ss gs ws (a+s+addW g w) k s' g' w' (by simpa using h1) (by simpa using h2) (by simpa using h3)
  simpa using this
noncomputable def bU(sp:List Nat)(t k:Nat):Int:=(sp.getD t 0:Int)-(sp.getD (k+1) 0:Int)
def kN(w:Nat)(d:Int):Bool:=decide (-bK w<=d) && decide (d<bK w)
def gX(sp:List Nat)(k:Nat):Option Nat->Nat->Nat
 |none,w=>w
 |some t,w=>if kN w (bU sp t k)=true then w else min (w+1) 2
def eN(sp:List Nat):Nat->List (Option Nat)->List Nat->List Nat
 |k,g::gs,w::ws=>gX sp k g w::eN sp (k+1) gs ws
 |_,_,ws=>ws
def fT(ss:List Nat)(gs:List (Option Nat))(ws:List Nat):List Nat:=eN (df 0 ss gs ws) 0 gs ws
def bD(ss:List Nat)(gs:List (Option Nat))(ws:List Nat):Nat->List Nat
 |0=>ws
 |m+1=>fT ss gs (bD ss gs ws m)
def oF(ss:List Nat)(gs:List (Option Nat))(ws:List Nat):List Nat:=bD ss gs ws (2*ss.length+1)
theorem qr{k w:Nat}(h:w<3):w<=gX sp k g w/\gX sp k g w<3:=by
 unfold gX;split
 ·exact⟨KH _,h⟩
 ·split<;>lia
theorem d7(sp:List Nat):∀(k:Nat) (gs:List (Option Nat)) (ws:List Nat),(eN sp k gs ws).length=ws.length
 |_,[],_=>rfl
 |_,_::_,[]=>rfl
 |k,g::gs,w::ws=>by rw[eN,KQ,KQ,d7 sp (k+1) gs ws]
theorem uN(sp:List Nat):∀(k:Nat) (gs:List (Option Nat)) (ws:List Nat),(∀w∈ws,w<3)->∀w∈eN sp k gs ws,w<3
 |_,[],_,h=>h
 |_,_::_,[],h=>h
 |k,g::gs,w::ws,h=>λv hv=>by
  rw[eN] at hv;rcases KL.mp hv with rfl|hv
  ·exact (qr (h w KG)).2
  ·exact uN sp (k+1) gs ws (λx hx=>h x (KI _ hx)) v hv
theorem step_at(sp:List Nat):∀(k:Nat) (gs:List (Option Nat)) (ws:List Nat) (i:Nat) (g:Option Nat) (w:Nat),gs[i]?=some g->ws[i]?=some w->(eN sp k gs ws)[i]?=some (gX sp (k+i) g w)
 |_,[],_,_,_,_,h,_=>by simp at h
 |_,_::_,[],_,_,_,_,h=>by simp at h
 |k,g::gs,w::ws,0,g',w',h1,h2=>by
  simp at h1 h2;subst h1;subst h2;rfl
 |k,g::gs,w::ws,i+1,g',w',h1,h2=>by
  rw[eN,LL,step_at sp (k+1) gs ws i g' w' (by simpa using h1) (by simpa using h2)]
  rw[show k+1+i=k+(i+1) by lia]
theorem pw(sp:List Nat):∀(k:Nat) (gs:List (Option Nat)) (ws:List Nat),(∀w∈ws,w<3)->eN sp k gs ws=ws\/ws.sum<(eN sp k gs ws).sum
 |_,[],_,_=>.inl rfl
 |_,_::_,[],_=>.inl rfl
 |k,g::gs,w::ws,h=>by
  rw[eN,Nk,Nk];have h1:=(qr (sp:=sp) (k:=k) (g:=g) (h w KG)).1;rcases pw sp (k+1) gs ws (λx hx=>h x (KI _ hx)) with e|e
  ·rw[e];by_cases z:gX sp k g w=w
   ·exact .inl (by rw[z])
   ·exact .inr (by lia)
  ·exact .inr (by lia)
theorem gK(ss:List Nat)(gs:List (Option Nat))(ws:List Nat):∀m,(bD ss gs ws m).length=ws.length
 |0=>rfl
 |m+1=>(d7 _ _ _ _).trans (gK ss gs ws m)
theorem gn(h:∀w∈ws,w<3):∀m,∀w∈bD ss gs ws m,w<3
 |0=>h
 |m+1=>uN _ _ _ _ (gn h m)
theorem nc{ss:List Nat}{gs:List (Option Nat)}(h:∀w∈ws,w<3):∀m,fT ss gs (bD ss gs ws m)=bD ss gs ws m\/m<=(bD ss gs ws m).sum
 |0=>.inr (KW _)
 |m+1=>by
  rcases nc (ss:=ss) (gs:=gs) h m with e|e
  ·refine .inl ?_;show fT ss gs (fT ss gs (bD ss gs ws m))=fT ss gs (bD ss gs ws m);rw[e,e]
  ·rcases pw (df 0 ss gs (bD ss gs ws m)) 0 gs (bD ss gs ws m) (gn h m) with z|z
   ·refine .inl ?_;show fT ss gs (fT ss gs (bD ss gs ws m))=fT ss gs (bD ss gs ws m);have z':fT ss gs (bD ss gs ws m)=bD ss gs ws m:=z;rw[z',z']
   ·refine .inr ?_;show m+1<=(fT ss gs (bD ss gs ws m)).sum;exact LG e z
theorem iU:∀{ws:List Nat},(∀w∈ws,w<3)->ws.sum<=2*ws.length
 |[],_=>KH _
 |w::ws,h=>by
  have h1:=h w KG;have h2:=iU λx hx=>h x (KI _ hx);rw[Nk,KQ];lia
theorem uY(ss:List Nat)(gs:List (Option Nat))(ws:List Nat):(oF ss gs ws).length=ws.length:=gK ss gs ws _
theorem rA(h:∀w∈ws,w<3):∀w∈oF ss gs ws,w<3:=gn h _
theorem C0{ss:List Nat}{gs:List (Option Nat)}(hl:ws.length=ss.length)(h:∀w∈ws,w<3):fT ss gs (oF ss gs ws)=oF ss gs ws:=by
 rcases nc (ss:=ss) (gs:=gs) h (2*ss.length+1) with e|e
 ·exact e
 ·have:=iU (gn (ss:=ss) (gs:=gs) h (2*ss.length+1));rw[gK,hl] at this;lia
theorem qR(hs:∀s∈ss,s<=150)(i:Nat):(df 0 ss gs ws).getD i 0<=168*ss.length:=by
 rw[KD]
 cases c:(df 0 ss gs ws)[i]? with
 |none=>exact KW _
 |some v=>have:=A7 ss gs ws 0 hs v (Lu c);show v<=_;lia
def qG(ss:List Nat)(gs:List (Option Nat))(ws:List Nat):Prop:=∀(k t w:Nat),gs[k]?=some (some t)->ws[k]?=some w->kN w (bU (df 0 ss gs ws) t k)=true
theorem CI{gs:List (Option Nat)}{ws:List Nat}(hs:∀s∈ss,s<=150)(hn:ss.length<=64)(h:∀w∈ws,w<3)(hf:fT ss gs ws=ws):qG ss gs ws:=λk t w h1 h2=>by
 have e:=step_at (df 0 ss gs ws) 0 gs ws k (some t) w h1 h2;have e':ws[k]?=some (gX (df 0 ss gs ws) (0+k) (some t) w):=by rw[<- e];exact Lw (·[k]?) hf.symm
 rw[h2,Mv] at e';have e2:=Option.some.inj e';unfold gX at e2;by_cases c:kN w (bU (df 0 ss gs ws) t k)=true
 ·exact c
 ·simp only[KJ c] at e2;have hw:w=2:=by have:=h w (Lu h2);lia
  subst hw;have h3:=qR (gs:=gs) (ws:=ws) hs t;have h4:=qR (gs:=gs) (ws:=ws) hs (k+1);unfold kN bU;rw[Li (show -bK 2<=_ by show -32768<=_;lia),Li (show _<bK 2 by show _<32768;lia)]
  rfl
theorem Cm(hs:∀s∈ss,s<=150)(hn:ss.length<=64)(hl:ws.length=ss.length)(h:∀w∈ws,w<3):qG ss gs (oF ss gs ws):=CI hs hn (rA h) (C0 hl h)
def dH(cd:List (List (List Nat)))(rs:List Row):List Nat:=rs.map λr=>(bf cd r).length
def mh(sp:List Nat)(k w:Nat):Option Nat->List Nat
 |none=>[]
 |some t=>cH w (bU sp t k)
def ik(cd:List (List (List Nat)))(sp:List Nat):Nat->List Row->List Nat->List Nat
 |k,r::rs,w::ws=>bf cd r++mh sp k w (ay r)++ik cd sp (k+1) rs ws
 |_,_,_=>[]
theorem nj:∀(k:Nat) (n:Int) (acc:List Nat),bo (n % 2^k) k acc=bo n k acc
 |0,_,_=>rfl
 |k+1,n,acc=>by
  have e1:(n % 2^(k+1)) % 2=n % 2:=Int.emod_emod_of_dvd n ⟨2^k,by rw[P8];lia⟩
  have e2:(n % 2^(k+1)) / 2=(n / 2) % 2^k:=by
   rw[P8,Int.mul_comm];have h:=O2 n (2*2^k);have h2:n / (2*2^k)=n / 2 / 2^k:=(Int.ediv_ediv_of_nonneg (by decide)).symm
   rw[Int.emod_def,Int.emod_def,h2];rw[show n-2*2^k*(n / 2 / 2^k)=n+2*(-(2^k*(n / 2 / 2^k))) by rw[Int.mul_neg,Qy];lia]
   rw[Int.add_mul_ediv_left _ _ (by decide)]
   lia
  show bo ((n % 2^(k+1)) / 2) k (dg (n % 2^(k+1))::acc)=bo (n / 2) k (dg n::acc);rw[e2,nj k (n / 2)];unfold dg;rw[e1]
def pz(bk:List (List Int))(rs:List Row)(ws:List Nat):List Nat:=
 ik (cT bk) (df 0 (dH (cT bk) rs) (rs.map ay) (oF (dH (cT bk) rs) (rs.map ay) ws)) 0 rs (oF (dH (cT bk) rs) (rs.map ay) ws)
theorem gO{r:Row}{n:Nat}(h:r.Ok n)(e:ay r=some t):t<=n:=by
 cases r with
 |jump g=>cases e;exact h
 |zero b g=>cases e;exact h.2
 |put=>cases e
 |two=>cases e
 |one=>cases e
 |halt=>cases e
theorem uG{w:Nat}(h:w<3)(d:Int):(cH w d).length=Bt w:=by
 rw[jX];rcases iB h with rfl|rfl|rfl<;>rfl
structure Laid (cd:List (List (List Nat))) (rs:List Row) (ws sp z:List Nat):Prop where
 hR:yo cd
 len:ws.length=rs.length
 le:rs.length<=64
 ok:∀r∈rs,r.Ok rs.length
 lt:∀w∈ws,w<3
 jH:sp=df 0 (dH cd rs) (rs.map ay) ws
 fit:qG (dH cd rs) (rs.map ay) ws
 hz:z=ik cd sp 0 rs ws
section
variable {cd:List (List (List Nat))} {rs:List Row} {ws sp z:List Nat}
theorem Laid.sl(L:Laid cd rs ws sp z):sp.length=rs.length+1:=by
 rw[L.jH,fM _ _ _ _ (by unfold dH;rw[K2,K2]) (by unfold dH;rw[K2];exact L.len)]
 unfold dH;rw[K2]
def CU(sp:List Nat)(k:Nat)(r:Row):Int:=match ay r with|none=>0|some t=>bU sp t k
theorem Laid.row(L:Laid cd rs ws sp z){k:Nat}(hk:k<rs.length):∃w,ws[k]?=some w/\w<3/\sp.getD (k+1) 0=sp.getD k 0+(eL cd rs[k] w (CU sp k rs[k])).length/\ik cd sp k (rs.drop k) (ws.drop k)=eL cd rs[k] w (CU sp k rs[k])++ik cd sp (k+1) (rs.drop (k+1)) (ws.drop (k+1))/\∀t,ay rs[k]=some t->w<3/\-bK w<=CU sp k rs[k]/\CU sp k rs[k]<bK w:=by
 have hw:k<ws.length:=by rw[L.len];exact hk
 have ew:=K1 hw;have lw:=L.lt _ (KZ hw);have er:=K1 hk;have okr:=L.ok _ (KZ hk);refine⟨ws[k],ew,lw,?_,?_,?_⟩
 ·have:=lM (dH cd rs) (rs.map ay) ws 0 k (bf cd rs[k]).length (ay rs[k]) ws[k] (by unfold dH;rw[K8,er];rfl) (by rw[K8,er];rfl) ew
  rw[<- L.jH] at this;rw[this,eL,K6,NB];congr 2
  cases e:ay rs[k] with
  |none=>rfl
  |some t=>exact (uG lw _).symm
 ·rw[L7 hk,L7 hw,ik,eL];congr 2;unfold mh CU
  cases e:ay rs[k] with
  |none=>rfl
  |some t=>rfl
 ·intro t et;have hf:=L.fit k t ws[k] (by rw[K8,er];exact Lw some et) ew
  rw[<- L.jH] at hf;unfold kN at hf;rw[LK] at hf;unfold CU;rw[et];exact⟨lw,LC hf.1,LC hf.2⟩
theorem Laid.at(L:Laid cd rs ws sp z):∀k,k<=rs.length->z.drop (sp.getD k 0)=ik cd sp k (rs.drop k) (ws.drop k)/\sp.getD k 0<=z.length
 |0,_=>by
  have e:sp.getD 0 0=0:=by
   rw[L.jH];obtain⟨l,e⟩:=gu 0 (dH cd rs) (rs.map ay) ws;rw[e];rfl
  rw[e,LD];exact⟨L.hz,KW _⟩
 |k+1,hk=>by
  obtain⟨h1,h2⟩:=L.at k (by lia)
  obtain⟨w,_,_,e1,e2,_⟩:=L.row (show k<rs.length by lia)
  rw[e2] at h1;have hl:=Lw List.length h1;rw[Ly,K6] at hl;refine⟨?_,by lia⟩
  rw[e1,<- Qn,h1,Qk]
theorem Laid.pos(L:Laid cd rs ws sp z){k w:Nat}(hk:k<rs.length):0<(eL cd rs[k] w d).length:=by
 have g0:=L.hR.fR.at (p:=(0,rs[k].wi)) (.inl ⟨rfl,rs[k].vj⟩);obtain⟨c0,c1,c2,e,l0,l1,l2⟩:=L.hR.fR.ex;have hne:aM cd (0,rs[k].wi)≠[]:=by
  refine (L.hR.pf c0 (by rw[e];simp)).ne _ ?_
  have:=g0.2.1;rw[e] at this ⊢;exact Lu this
 unfold eL bf cG;rw[K6,K6,Ny,K6];have:=NF.mpr hne;lia
theorem Laid.up(L:Laid cd rs ws sp z){k:Nat}(hk:k<rs.length):sp.getD k 0<sp.getD (k+1) 0:=by
 obtain⟨w,_,_,e1,_⟩:=L.row hk;have:=L.pos (w:=w) (d:=CU sp k rs[k]) hk;lia
theorem Laid.mono(L:Laid cd rs ws sp z):∀(i d:Nat),i+d+1<=rs.length->sp.getD i 0<sp.getD (i+d+1) 0
 |i,0,h=>L.up (by lia)
 |i,d+1,h=>NO (L.mono i d (by lia)) (L.up (show i+d+1<rs.length by lia))
theorem Laid.last(L:Laid cd rs ws sp z):z.length=sp.getD rs.length 0:=by
 obtain⟨h1,h2⟩:=L.at rs.length (KH _);rw[My] at h1;have hl:=Lw List.length h1;rw[Ly,show (ik cd sp rs.length [] (ws.drop rs.length)).length=0 by unfold ik;rfl] at hl
 lia
theorem Laid.JN(L:Laid cd rs ws sp z):z.length<=20000:=by
 rw[L.last,L.jH];have:=qR (ss:=dH cd rs) (gs:=rs.map ay) (ws:=ws) (λs hs=>by
  obtain⟨r,hr,rfl⟩:=L3.mp hs;have:=cW L.hR.fR (L.ok r hr)
  lia) rs.length
 have l:(dH cd rs).length=rs.length:=K2 ..;have:=L.le;lia
end
def fA(sp:List Nat)(gs:List (Option Nat))(ws:List Nat)(i:Nat):List Nat:=(eN sp 0 gs ws).take i++ws.drop i
theorem Cj(sp:List Nat)(gs:List (Option Nat))(ws:List Nat)(i:Nat):(fA sp gs ws i).length=ws.length:=by
 unfold fA;rw[K6,K_,Ly,d7];lia
theorem CA(sp:List Nat)(gs:List (Option Nat))(ws:List Nat):fA sp gs ws ws.length=eN sp 0 gs ws:=by
 unfold fA;rw[My,LF,L9 (by rw[d7];exact KH _)]
theorem xX{w:Nat}(h:ws[i]?=some w):(fA sp gs ws i)[i]?=some w:=by
 have hi:=(K7.mp h).1;unfold fA;rw[Le (by rw[K_,d7];lia),K_,d7,Ma]
 rw[show i+(i-min i ws.length)=i by lia]
 exact h
theorem pF{w:Nat}(hg:gs[i]?=some g)(h:ws[i]?=some w):fA sp gs ws (i+1)=(fA sp gs ws i).set i (gX sp i g w):=by
 have hi:=(K7.mp h).1;have hs:=step_at sp 0 gs ws i g w hg h;rw[Mv] at hs;unfold fA;rw[O1 _ _ (by rw[K_,d7];lia),K_,d7]
 rw[show i-min i ws.length=0 by lia,L7 hi,NR]
 rw[L8,hs,Ld];rfl
theorem p_{sp:List Nat}{gs:List (Option Nat)}{w:Nat}(hg:gs[i]?=some g)(h:ws[i]?=some w)(e:gX sp i g w=w):fA sp gs ws (i+1)=fA sp gs ws i:=by
 rw[pF hg h,e];have:=xX (sp:=sp) (gs:=gs) h;obtain⟨hi,e2⟩:=K7.mp this;rw[<- e2];exact List.set_getElem_self hi
theorem DO{r:Row}{n k:Nat}(h:r.Ok n)(hg:∀t,ay r=some t->t<=k):r.Ok k:=by
 cases r with
 |jump g=>exact hg g rfl
 |zero b g=>exact⟨h.1,hg g rfl⟩
 |put=>exact h
 |two=>exact h
 |one=>exact h
 |halt=>exact h
def bA(H:Hp)(p dq:Addr)(n:Nat):Prop:=∃(cells:List Int) (i t z:Int),H p=some (.lst [.ref dq,.int i,.int t,.int z])/\H dq=some (.lst (iV cells))/\(∀c∈cells,0<=c)/\0<=i/\i<=cells.length/\cells.length<=63/\0<=t/\t<=n
theorem bA.mono{p:Addr}{n m:Nat}(h:bA H p dq n)(hm:n<=m):bA H p dq m:=by
 obtain⟨cells,i,t,z,h1,h2,h3,h4,h5,h6,h7,h8⟩:=h;exact⟨cells,i,t,z,h1,h2,h3,h4,h5,h6,h7,by lia⟩
theorem bA.keep{p:Addr}{n:Nat}(h:bA H p dq n)(k:KB ex H H')(n1:p∉ex)(n2:dq∉ex):bA H' p dq n:=by
 obtain⟨cells,i,t,z,h1,h2,h3⟩:=h;exact⟨cells,i,t,z,k _ _ h1 n1,k _ _ h2 n2,h3⟩
theorem bA.kb{p:Addr}{n:Nat}(h:bA H p dq n)(k:KB [] H H'):bA H' p dq n:=h.keep k (by simp) (by simp)
theorem bA.lst{p:Addr}{n:Nat}(h:bA H p dq n):∀b∈[p,dq],∃ys,H b=some (.lst ys):=by
 obtain⟨cells,i,t,z,h1,h2,h3⟩:=h;intro b hb;simp only[KL,Ln,Mh] at hb;rcases hb with rfl|rfl
 ·exact⟨_,h1⟩
 ·exact⟨_,h2⟩
theorem bA.new{p l:Addr}{n:Nat}(h:bA H p dq n)(hl:H l=none):l∉[p,dq]:=λz=>by
 obtain⟨ys,e⟩:=h.lst l z;rw[hl] at e;cases e
theorem bA.tup{p:Addr}{n:Nat}(h:bA H p dq n)(k:KB [p,dq] H H')(e:H a=some (.tup xs)):H' a=some (.tup xs):=FO k h.lst e
def DN:Sp:=λvs H Q _=>∃c k:Int,vs=[.int c,.int k]/\0<=k/\k<2^60/\∀v:Int,Q (.int v) H
theorem FG(F:HasFn K mg "_law_mix" iq ["number","turn"]):ao P w K mg base aS 1 "_law_mix" ["number","turn"] DN:=by
 refine F.dR f_ (λvs H Q E h=>?_) (λf cdv A outer s H vs Q E hr h=>?_)
 ·obtain⟨c,k,rfl,_⟩:=h;rfl
 ·obtain⟨c,k,rfl,h0,h1,q⟩:=h;have hu:=aN hr;refine⟨_,(Z.aq (Z.se (i:=2) f_.nd (Z.op eJ (Z.op (Z.aQ K rfl) (Z.op (Z.aQ K rfl) (Z.op (Z.aQ K rfl) (Z.op eJ (Z.v 0) Z.int) (Z.op cu (Z.op cu Z.int (Z.v 1)) (Z.v 1))) (Z.op cu Z.int (Z.v 1))) Z.int) Z.int))
   (Z.aq (Z.se (i:=2) f_.nd (Z.op eJ (Z.op cu (Z.v 2) (Z.v 2)) Z.int))
   (Z.az (Z.ret (Z.op jK (Z.op eJ (Z.op (Z.aQ K rfl) (Z.op cu (Z.v 2) Z.int) (Z.v 1)) Z.int) Z.int))))),?_⟩
  refine ar λN hN=>?_;walk_at "rz";refine⟨by decide,.inl (by decide),.inr ⟨by lia,by lia⟩,.inl (by decide),by decide,?_⟩
  rw[hN];clear hN N;generalize hx:(c % 1999999927+7001*k*k+40009*k+17) % 2147483629=x;have hx1:0<=x/\x<2147483629:=by rw[<- hx];exact⟨Nt _ (by decide),Nu _ (by decide)⟩
  refine ar λN hN=>?_;walk_at "rz";refine⟨.inl ⟨by lia,by lia⟩,by decide,?_⟩
  rw[hN];clear hN N;generalize hy:x*x % 2147483587=y;have hy1:0<=y/\y<2147483587:=by rw[<- hy];exact⟨Nt _ (by decide),Nu _ (by decide)⟩
  walk_at "rz";exact⟨.inr (by decide),by decide,⟨by decide,by decide⟩,q _⟩
def yU(K:W.Frag):Sp:=λvs H Q _=>∃(a:Addr) (ns:List Int),vs=[.ref a]/\a_ K H a (ns.map V.int)/\∀p dq H',bA H' p dq 0->KB [] H H'->Q (.ref p) H'
theorem BR(T:Txt K mg)(F:HasFn K mg "_law_deck" eO ["script"]):ao P w K mg base aS 1 "_law_deck" ["script"] (yU K):=by
 refine F.dR oO (λvs H Q E h=>?_) (λf cdv A outer s H vs Q E hr h=>?_)
 ·obtain⟨a,ns,rfl,_⟩:=h;rfl
 ·obtain⟨a,ns,rfl,hS,q⟩:=h;have hu:=aN hr;refine⟨_,(Z.az (Z.ret (Z.lst (Z.cons (Z.o_ (osc:=ab eO) (ON:=["script"]) (own:=["cell"]) (N:=["cell","script"]) (aA.of rfl (by decide +kernel)) (Z.any K rfl (Z.slice (Z.Ei K rfl) (Z.v 0) Z.t9 (Z.oW Z.int))) (λnd _ _ _ _=>(Z.aG (i:=0) nd rfl (by right))) (λ_ _ _ _=>Z.jA) (λ_ _ _ _=>(Z.cb Am rfl T.IJ (by decide +kernel) (Z.cons (Z.v 0) Z.nil)))) (Z.cons Z.int (Z.cons Z.int (Z.cons (Z.op eJ (Z.op (Z.aQ K rfl) (Z.cb (Z.HQ K rfl rfl) rfl T.Ip (by decide +kernel) (Z.cons (Z.slice (Z.Ei K rfl) (Z.v 0) Z.t9 (Z.oW Z.int)) Z.nil)) (Z.op cu Z.int (Z.cb (Z.EO K rfl) rfl T.cp (by decide +kernel) (Z.cons (Z.v 0) Z.nil)))) Z.int) Z.nil))))))),?_⟩
  have ec:dQ (ns.map V.int) none (some 63)=iV (ns.take 63):=by
   unfold dQ iV;rw[HT.cY,show HT.bI (ns.map V.int).length (ns.map V.int).length (some 63)=min 63 (ns.map V.int).length from HT.cX _ _ 63,K2,MZ,LD,<- ME];congr 1;rw[List.take_eq_take_iff];lia
  have hm:(ns.take 63).length<=63:=by rw[K_];lia
  generalize ns.take 63=ms at ec hm;walk_at "rz";refine⟨a,_,rfl,hS,λc hc=>?_⟩;rw[ec];have k1:KB [] H (upd H c (.lst (iV ms))):=KB.new hc;have s1:upd H c (.lst (iV ms)) c=some (.lst (iV ms)):=aa;generalize upd H c (.lst (iV ms))=H1 at *;simp only[au s1];refine dZ (xs:=iV ms) (KA (show _<=63 by rw[bj];exact hm) (by decide)) (λD i ys H'=>H' D=some (.lst ys)/\KB [] H1 H'/\H1 D=none/\∃bs:List Int,ys=iV bs/\bs.length=i/\∀b∈bs,0<=b) (λD hD=>⟨aa,KB.new hD,hD,[],rfl,rfl,λb hb=>nomatch hb⟩) (λD i ys H' h=>⟨h.1,by obtain⟨_,_,_,bs,rfl,e,_⟩:=h;rw[bj,e]⟩) (λD i ys H' h=>a_.of (h.2.1 _ _ s1 (by simp))) ?_ ?_
  ·rintro D i ys H' x R hx ⟨g1,g2,g3,bs,rfl,g4,g5⟩ k;obtain⟨hi,rfl⟩:=kn hx;walk_at "rz";refine k _ _ g1 ⟨aa,λb o e _=>?_,g3,bs++[_],(f9 bs [_]).symm,by rw[K6,g4];rfl,λb hb=>?_⟩
   ·rw[af (ae e g3)];exact g2 b o e (by simp)
   ·rcases Lq.mp hb with z|z
    ·exact g5 b z
    ·rw[KU.mp z];split<;>lia
  ·rintro D ys H' ⟨g1,g2,g3,bs,rfl,g4,g5⟩;rw[bj] at g4;refine⟨a,_,rfl,(k1.trans g2).Hq (by simp) hS,λd hd=>?_⟩
   rw[ec];have k2:KB [] H' (upd H' d (.lst (iV ms))):=KB.new hd;have s2:upd H' d (.lst (iV ms)) d=some (.lst (iV ms)):=aa;generalize upd H' d (.lst (iV ms))=H2 at *;have kk:=(k1.trans g2).trans k2;refine⟨d,ms,rfl,a_.of s2,.ref a,_,rfl,.inl ⟨_,kk.Hq (by simp) hS,rfl⟩,.inl (by decide),by decide,by decide,λp hp=>?_⟩
   have gD:=k2 _ _ g1 (by simp)
   exact q p D _ ⟨bs,0,0,_,aa,by rw[af (ae gD hp)];exact gD,g5,by decide,by lia,by lia,by decide,by decide⟩ (kk.trans (KB.new hp))
def eY:Sp:=λvs H Q _=>∃(p dq:Addr) (m:Int) (n:Nat),vs=[.ref p,.int m]/\bA H p dq n/\n<2^50/\0<m/\m<2^30/\∀(v:Nat) H',(v:Int)<m->bA H' p dq (n+1)->KB [p,dq] H H'->Q (.int (v:Nat)) H'
theorem C8(T:Txt K mg)(F:HasFn K mg "_law_draw" fZ ["deck","most"])(h_law_mix:ao P w K mg base aS 1 "_law_mix" ["number","turn"] DN):ao P w K mg base aS 2 "_law_draw" ["deck","most"] eY:=by
 refine F.dR iX (λvs H Q E h=>?_) (λf cdv A outer s H vs Q E hr h=>?_)
 ·obtain⟨p,dq,m,n,rfl,_⟩:=h;rfl
 ·obtain⟨p,c,m,n,rfl,⟨cells,i,t,z,hp,hc,hn0,i0,i1,k63,t0,t1⟩,hn,hm0,hm1,q⟩:=h;have hu:=aN hr;have hcp:c≠p:=by
   rintro rfl;rw[hp] at hc
   cases cells<;>cases hc
  have sp:=au hp;have fin:∀(a:Int) (H':Hp),bA H' p c (n+1)->KB [p,c] H H'->Q (.int (a % m)) H':=λa H' D k=>by
   have h0:=Nt a (Int.ne_of_gt hm0);have h1:=Nu a hm0;have:=q (a % m).toNat H' (by lia) D k
   rwa [Int.toNat_of_nonneg h0] at this
  refine⟨_,(Z.aq (Z.asg (Z.op (Z.aQ K rfl) (Z.ix (Z.aF K rfl hu) (Z.v 0) Z.int) Z.int) (Z.oz (Z.v 0) Z.int))
   (Z.aq (Z.dW (Z.bp cc (Z.ix (Z.aF K rfl hu) (Z.v 0) Z.int) (Z.cb (Z.cx K rfl) rfl T.cp (by decide +kernel) (Z.cons (Z.ix (Z.aF K rfl hu) (Z.v 0) Z.int) Z.nil))) (Z.az (Z.ret (Z.op eJ (Z.fc h_law_mix (Z.cons (Z.ix (Z.aF K rfl hu) (Z.v 0) Z.int) (Z.cons (Z.ix (Z.aF K rfl hu) (Z.v 0) Z.int) Z.nil))) (Z.v 1)))) Z.bB)
   (Z.aq (Z.se (i:=2) iX.nd (Z.ix (Z.aF K rfl hu) (Z.ix (Z.aF K rfl hu) (Z.v 0) Z.int) (Z.ix (Z.aF K rfl hu) (Z.v 0) Z.int)))
   (Z.aq (Z.dW (Z.bp iC (Z.v 2) (Z.op EH Z.int Z.int)) (Z.aq (Z.asg (Z.op (Z.aQ K rfl) (Z.ix (Z.aF K rfl hu) (Z.v 0) Z.int) Z.int) (Z.oz (Z.v 0) Z.int))
   (Z.az (Z.ret (Z.op eJ (Z.fc h_law_mix (Z.cons (Z.v 2) (Z.cons (Z.ix (Z.aF K rfl hu) (Z.v 0) Z.int) Z.nil))) (Z.v 1))))) Z.bB)
   (Z.aq (Z.asg (Z.op jK (Z.v 2) (Z.v 1)) (Z.oz (Z.ix (Z.aF K rfl hu) (Z.v 0) Z.int) (Z.ix (Z.aF K rfl hu) (Z.v 0) Z.int)))
   (Z.az (Z.ret (Z.op eJ (Z.v 2) (Z.v 1))))))))),?_⟩
  have x1:iF 4 1=some 1:=by decide
  have x2:iF 4 2=some 2:=by decide
  refine ar λN hN=>?_;exists sp,hp,x2;have k1:KB [p,c] H (upd H p (.lst [.ref c,.int i,.int (t+1),.int z])):=KB.set (by simp)
  have p1:upd H p (.lst [.ref c,.int i,.int (t+1),.int z]) p=_:=aa;have c1:upd H p (.lst [.ref c,.int i,.int (t+1),.int z]) c=some (.lst (iV cells)):=by rw[af hcp];exact hc
  generalize upd H p (.lst [.ref c,.int i,.int (t+1),.int z])=H1 at *;have s1:=au p1;have sc:=au c1;rw[hN];clear hN N;refine ar λN hN=>?_;exists s1,sc,bj;by_cases e1:i=(cells.length:Nat)
  ·exists KO e1,s1;refine⟨_,_,rfl,by lia,by lia,λv=>?_⟩
   walk_at "rz";exact⟨hm0,fin v H1 ⟨cells,i,t+1,z,p1,c1,hn0,i0,i1,k63,by lia,by lia⟩ k1⟩
  ·rw[KJ e1,hN];clear hN N;obtain⟨j,rfl⟩:∃j:Nat,i=(j:Int):=⟨i.toNat,by lia⟩
   have hj:j<cells.length:=by lia
   have aj:=DT hj;have hv0:=hn0 _ (KZ hj);refine ar λN hN=>?_;exists s1,sc,aj;generalize cells[j]=v at *;rw[hN];clear hN N;refine ar λN hN=>?_;walk_at "rz";refine⟨⟨by decide,by decide,by decide⟩,?_⟩
   by_cases e2:v<10^(18:Int).toNat
   ·rw[KO e2];exists s1,p1,x1;have k2:KB [p,c] H1 (upd H1 p (.lst [.ref c,.int ((j:Int)+1),.int (t+1),.int z])):=KB.set (by simp)
    have p2:upd H1 p (.lst [.ref c,.int ((j:Int)+1),.int (t+1),.int z]) p=_:=aa;have c2:upd H1 p (.lst [.ref c,.int ((j:Int)+1),.int (t+1),.int z]) c=some (.lst (iV cells)):=by rw[af hcp];exact c1
    generalize upd H1 p (.lst [.ref c,.int ((j:Int)+1),.int (t+1),.int z])=H2 at *;refine⟨_,_,rfl,by lia,by lia,λv=>?_⟩
    walk_at "rz";exact⟨hm0,fin v H2 ⟨cells,(j:Int)+1,t+1,z,p2,c2,hn0,by lia,by lia,k63,by lia,by lia⟩ (k1.trans k2)⟩
   ·rw[KJ e2,hN];clear hN N;have xj:iF (iV cells).length (j:Int)=some j:=by rw[nH (by lia) (by rw[bj];lia)];simp
    refine ar λM hM=>?_;exists s1,c1,xj;refine⟨⟨hm0,by lia⟩,?_⟩
    rw[Ep];have k2:KB [p,c] H1 (upd H1 c (.lst (iV (cells.set j (v / m))))):=KB.set (by simp)
    have c2:upd H1 c (.lst (iV (cells.set j (v / m)))) c=_:=aa;have p2:upd H1 c (.lst (iV (cells.set j (v / m)))) p=_:=(af hcp.symm).trans p1;generalize upd H1 c (.lst (iV (cells.set j (v / m))))=H2 at *;rw[hM];clear hM M;walk_at "rz";refine⟨hm0,fin v H2 ⟨cells.set j (v / m),j,t+1,z,p2,c2,λx hx=>?_,by lia,by rw[LR];lia,by rw[LR];exact k63,by lia,by lia⟩ (k1.trans k2)⟩
    rcases LX hx with hx|rfl
    ·exact hn0 x hx
    ·exact Int.ediv_nonneg hv0 (by lia)
theorem HL(l:List Nat)(a:Nat):(iV (nZ l)).eraseIdx a=iV (nZ (l.eraseIdx a)):=by
 unfold iV nZ;simp only[O3,KN,ME,List.map_drop]
theorem xT(l:List Nat)(n k:Nat):jr (iV (nZ l)) n (V.int (k:Int))=iV (nZ (jr l n k)):=by
 unfold jr iV nZ;simp only[KN,ME,List.map_drop,Lp]
theorem b9(l:List Nat):(iV (nZ l)).length=l.length:=by rw[bj,cf]
def sI(K:W.Frag):Sp:=λvs H Q _=>∃(p dq:Addr) (m n:Nat),vs=[.ref p,.int (m:Nat)]/\bA H p dq n/\n<2^40/\2<=m/\m<=17/\∀(ls:List Int) (a:Addr) H',bA H' p dq (n+60)->KB [p,dq] H H'->H' a=some (.tup (iV ls))->ls.length=m->ia ls->jG ls=true->Q (.ref a) H'
theorem Ar(T:Txt K mg)(F:HasFn K mg "_law_lengths" eB ["deck","many"])(h_law_draw:ao P w K mg base aS 2 "_law_draw" ["deck","most"] eY):ao P w K mg base aS 3 "_law_lengths" ["deck","many"] (sI K):=by
 refine F.dR bX (λvs H Q E h=>?_) (λf cdv A outer s H vs Q E hr h=>?_)
 ·obtain⟨p,dq,m,n,rfl,_⟩:=h;rfl
 ·have hu:=aN hr;obtain⟨p,dq,m,n,rfl,hd,hn,hm2,hm,q⟩:=h;refine⟨_,(Z.aq (Z.se (i:=2) bX.nd (Z.lst (Z.cons Z.int Z.nil)))
   (Z.aq (Z.dO Lm rfl (Z.ke rfl T.cA (Z.cons (Z.op cZ (Z.v 1) Z.int) Z.nil)) (Z.aG (i:=3) bX.nd rfl (by right)) (Z.aq (Z.se (i:=4) bX.nd (Z.op (Z.aQ K rfl) (Z.bm K rfl PySem.F.plainAttrs_list PySem.F.slot_list_pop PySem.F.type_list_pop xK (Z.v 2) (Z.cons (Z.fc h_law_draw (Z.cons (Z.v 0) (Z.cons (Z.cb (Z.cx K rfl) rfl T.cp (by decide +kernel) (Z.cons (Z.v 2) Z.nil)) Z.nil))) Z.nil)) Z.int))
   (Z.aq (Z.expr (Z.bm K rfl PySem.F.plainAttrs_list PySem.F.slot_list_insert PySem.F.type_list_insert ng (Z.v 2) (Z.cons (Z.fc h_law_draw (Z.cons (Z.v 0) (Z.cons (Z.op (Z.aQ K rfl) (Z.cb (Z.cx K rfl) rfl T.cp (by decide +kernel) (Z.cons (Z.v 2) Z.nil)) Z.int) Z.nil))) (Z.cons (Z.v 4) Z.nil))))
   (Z.az (Z.expr (Z.bm K rfl PySem.F.plainAttrs_list PySem.F.slot_list_insert PySem.F.type_list_insert ng (Z.v 2) (Z.cons (Z.fc h_law_draw (Z.cons (Z.v 0) (Z.cons (Z.op (Z.aQ K rfl) (Z.cb (Z.cx K rfl) rfl T.cp (by decide +kernel) (Z.cons (Z.v 2) Z.nil)) Z.int) Z.nil))) (Z.cons (Z.v 4) Z.nil))))))))
   (Z.aq (Z.dW (Z.bp cc (Z.fc h_law_draw (Z.cons (Z.v 0) (Z.cons Z.int Z.nil))) Z.int) (Z.aq (Z.se (i:=5) bX.nd (Z.fc h_law_draw (Z.cons (Z.v 0) (Z.cons (Z.v 1) Z.nil))))
   (Z.az (Z.asg (Z.cb (jg rfl) rfl T.Ag (by decide +kernel) (Z.cons Z.int (Z.cons (Z.op (Z.aQ K rfl) (Z.op (Z.aQ K rfl) (Z.ix (Z.aF K rfl hu) (Z.v 2) (Z.v 5)) Z.int) (Z.fc h_law_draw (Z.cons (Z.v 0) (Z.cons Z.int Z.nil)))) Z.nil))) (Z.oz (Z.v 2) (Z.v 5))))) Z.bB)
   (Z.az (Z.ret (Z.ct (Z.cm K rfl) rfl T.cq (by decide +kernel) (Z.cons (Z.v 2) Z.nil))))))),?_⟩
  refine ar λN hN=>?_;walk_at "rz";refine⟨by decide,λd hd0=>?_⟩
  have k1:KB [] H (upd H d (.lst [.int 0])):=KB.new hd0;have s1:upd H d (.lst [.int 0]) d=some (.lst (iV (nZ [0]))):=aa;generalize upd H d (.lst [.int 0])=H1 at *;have nd:=hd.new hd0;have dp:p≠d:=λz=>nd (by simp[z])
  have ddq:dq≠d:=λz=>nd (by simp[z])
  rw[hN];clear hN N;refine ar λN hN=>?_;walk_at "rz";refine⟨by lia,by lia,?_⟩
  have setD:∀{G:Hp} {n:Nat} {o:HO},bA G p dq n->bA (upd G d o) p dq n:=λh=>h.keep (KB.set (ex:=[d]) (by simp)) (by simpa using dp) (by simpa using ddq)
  have keep:∀{G G':Hp},KB [p,dq] H G->KB [p,dq] G G'->KB [p,dq] H G':=λa b=>a.trans b;have keepD:∀{G:Hp} {o:HO},KB [p,dq] H G->KB [p,dq] H (upd G d o):=λa b o e z=>by rw[af (ae e hd0)];exact a b o e z
  refine bL (λi σ H'=>∃(l:List Nat) (o3 o4:Option V),Pt l/\l.length=i+1/\bA H' p dq (n+3*i)/\KB [p,dq] H H'/\H' d=some (.lst (iV (nZ l)))/\σ=[some (.ref p),some (.int (m:Nat)),some (.ref d),o3,o4,none]) ⟨[0],none,none,⟨by decide,by simp,.inl rfl⟩,rfl,hd.kb k1,k1.all,s1,rfl⟩ ?_ ?_
  ·rintro i σ H' hi ⟨l,o3,o4,hl,hli,hD,hk,gd,rfl⟩;unfold aL;refine ar λM hM=>?_;exists au gd,b9;refine⟨.inl ⟨rfl,_,a_.of gd⟩,p,dq,_,_,rfl,hD,by lia,by lia,by lia,λa H2 ha D2 k2=>?_⟩
   have ha':a<l.length:=by lia
   have hle:=l.length_eraseIdx_of_lt ha';have gd2:=k2 _ _ gd nd;have six:seqIndex? (a:Int) (iV (nZ l)).length=some a:=by
    rw[b9];unfold seqIndex?;simp;lia
   have enZ:(iV (nZ l))[a]?=some (.int ((l[a]:Nat):Int)):=by unfold iV nZ;rw[K8,K8,K1 ha'];rfl
   refine⟨d,_,_,a,_,rfl,rfl,gd2,by lia,by lia,six,enZ,?_⟩
   rw[HL];have D3:=setD (o:=.lst (iV (nZ (l.eraseIdx a)))) D2;have K3:=keepD (o:=.lst (iV (nZ (l.eraseIdx a)))) (hk.trans k2);have g3:upd H2 d (.lst (iV (nZ (l.eraseIdx a)))) d=_:=aa;generalize upd H2 d (.lst (iV (nZ (l.eraseIdx a))))=H3 at *;walk_at "rz";rw[show ((l[a]:Nat):Int)+1=((l[a]+1:Nat):Int) from rfl,hM];clear hM M;refine ar λM hM=>?_;exists au g3,b9,hle;refine⟨.inl ⟨rfl,_,a_.of g3⟩,p,dq,_,_,rfl,D3,by lia,by lia,by lia,λv H4 hv D4 k4=>?_⟩
   have g4:=k4 _ _ g3 nd;refine⟨d,_,_,_,rfl,rfl,g4,by lia,by lia,LG (show _<=20 by rw[b9];lia) (by decide),?_⟩
   rw[b9,xT,hle];generalize hl2:jr (l.eraseIdx a) (min (v:Int).toNat (l.length-1)) (l[a]+1)=l2;have le2:l2.length=l.length:=by rw[<- hl2,CC,hle];lia
   have pe2:l2.Perm ((l[a]+1)::l.eraseIdx a):=by rw[<- hl2];exact pB ..
   clear hl2;have D5:=setD (o:=.lst (iV (nZ l2))) D4;have K5:=keepD (o:=.lst (iV (nZ l2))) (K3.trans k4);have g5:upd H4 d (.lst (iV (nZ l2))) d=_:=aa;generalize upd H4 d (.lst (iV (nZ l2)))=H5 at *;rw[hM];clear hM M;dsimp only;refine jN λM hM=>?_;exists au g5,b9;refine⟨.inl ⟨rfl,_,a_.of g5⟩,p,dq,_,_,rfl,D5,by lia,by lia,by lia,λv H6 hv D6 k6=>?_⟩
   have g6:=k6 _ _ g5 nd;refine⟨d,_,_,_,rfl,rfl,g6,by lia,by lia,LG (show _<=20 by rw[b9];lia) (by decide),?_⟩
   rw[b9,xT];obtain⟨hP3,hL3⟩:=hl.next ha' (by lia) ((pB l2 (min (v:Int).toNat l2.length) (l[a]+1)).trans (List.Perm.cons _ pe2))
   rw[hM];exact⟨_,some _,some _,hP3,by lia,(setD D6).mono (by lia),keepD (K5.trans k6),aa,rfl⟩
  ·rintro σ H' ⟨l,o3,o4,hl,hli,hD,hk,gd,rfl⟩;have hlm:l.length=m:=by lia
   show N _ _;rw[hN];clear hN N;have h1:∀x∈l,1<=x:=by
    rcases hl.one with e|e
    ·exfalso;rw[e] at hlm;simp at hlm;lia
    ·exact e
   have fin:∀(l:List Nat) (G:Hp),G d=some (.lst (iV (nZ l)))->KB [p,dq] H G->l.length=m->(∀x∈l,1<=x/\x<=20)->Kr.ks 40 l<=2^40->bA G p dq (n+60)->∀t,G t=none->Q (.ref t) (upd G t (.tup (iV (nZ l)))):=λl G hg hK a b c e t ht=>by
    refine q (nZ l) t _ (e.kb (KB.new ht)) (hK.trans (KB.new ht)) aa (by rw[cf];exact a) ⟨by rw[cf];lia,by rw[cf];lia,λx hx=>?_⟩ (GA c)
    obtain⟨y,hy,rfl⟩:=L3.mp hx;have:=b y hy;exact⟨by lia,by lia⟩
   refine ar λN hN=>?_;walk_at "rz";refine⟨p,dq,2,_,rfl,hD,by lia,by decide,by decide,λv H2 hv D2 k2=>?_⟩
   have g2:=k2 _ _ gd nd;by_cases c:(v:Int)=0
   ·exists KO c;refine⟨p,dq,(m:Nat),_,rfl,D2,by lia,by lia,by lia,λa H3 ha D3 k3=>?_⟩
    have g3:=k3 _ _ g2 nd;have ha':a<l.length:=by lia
    have ea:bC (iV (nZ l)) (a:Int)=some (.int ((l[a]:Nat):Int)):=aR (by unfold iV nZ;rw[K8,K8,K1 ha'];rfl)
    exists au g3,ea;refine⟨p,dq,5,_,rfl,D3,by lia,by decide,by decide,λv H4 hv D4 k4=>?_⟩
    have g4:=k4 _ _ g3 nd;obtain⟨nz,enz,hnz⟩:∃nz:Nat,(if ((l[a]:Nat):Int)+1+(v:Int)<20 then ((l[a]:Nat):Int)+1+(v:Int) else 20)=(nz:Int)/\l[a]<=nz/\nz<=20:=by
     have:=hl.le _ (KZ ha');by_cases c:((l[a]:Nat):Int)+1+(v:Int)<20
     ·rw[KO c];exact⟨l[a]+1+v,by lia,by lia,by lia⟩
     ·rw[KJ c];exact⟨20,rfl,by lia,by lia⟩
    have ei:iF (iV (nZ l)).length (a:Int)=some a:=by rw[b9,nH (by lia) (by lia)];simp
    exists enz,g4,ei;have es:(iV (nZ l)).set a (.int (nz:Int))=iV (nZ (l.set a nz)):=by unfold iV nZ;rw[MN,MN]
    rw[es];have D5:=setD (o:=.lst (iV (nZ (l.set a nz)))) D4;have K5:=keepD (o:=.lst (iV (nZ (l.set a nz)))) ((hk.trans k2).trans (k3.trans k4));have g5:upd H4 d (.lst (iV (nZ (l.set a nz)))) d=_:=aa;generalize upd H4 d (.lst (iV (nZ (l.set a nz))))=H5 at *;rw[hN];clear hN N;exists au g5;refine fin _ H5 g5 K5 (by rw[LR];exact hlm) (λx hx=>?_) (KA (xQ ha' hnz.1) (Q2 hl.ks)) (D5.mono (by lia))
    rcases LX hx with hx|rfl
    ·exact⟨h1 x hx,by have:=hl.le x hx;lia⟩
    ·exact⟨by have:=h1 _ (KZ ha');lia,hnz.2⟩
   ·exists KJ c;rw[hN];clear hN N;exists au g2;exact fin l H2 g2 (hk.trans k2) hlm (λx hx=>⟨h1 x hx,by have:=hl.le x hx;lia⟩) (Q2 hl.ks) (D2.mono (by lia))
def xS(H:Hp)(ca:Addr)(cd:List (List (List Nat))):Prop:=∃a0 a1 a2,H ca=some (.lst [.ref a0,.ref a1,.ref a2])/\H a0=some (.tup (wV (cd.getD 0 [])))/\H a1=some (.tup (wV (cd.getD 1 [])))/\H a2=some (.tup (wV (cd.getD 2 [])))
theorem xS.keep{ca:Addr}{cd:List (List (List Nat))}(h:xS H ca cd)(k:KB ex H H')(n:ca∉ex)(hx:∀b∈ex,∀xs,H b≠some (.tup xs)):xS H' ca cd:=by
 obtain⟨a0,a1,a2,h1,h2,h3,h4⟩:=h;exact⟨a0,a1,a2,k _ _ h1 n,k _ _ h2 λz=>hx _ z _ h2,k _ _ h3 λz=>hx _ z _ h3,k _ _ h4 λz=>hx _ z _ h4⟩
theorem xS.kb{ca:Addr}{cd:List (List (List Nat))}(h:xS H ca cd)(k:KB [] H H'):xS H' ca cd:=h.keep k (by simp) (by simp)
def IZ(H:Hp)(v:V):Option (PV×Nat)->Prop
 |none=>v=.aO
 |some x=>∃t,v=.ref t/\H t=some (.tup [x.1.v x.2,.int (x.2:Nat)])
theorem ID{b:Nat}(h:b<8):bC [V.str "a",.str "b",.str "c",.str "d",.str "e",.str "f",.str "g",.str "h"] (b:Int)=some (.str (e9 b)):=by
 show bC (GW.map V.str) (b:Int)=_;exact aR (by rw[K8,(xY h).1];rfl)
def qN(K:W.Frag):Sp:=λvs H Q _=>∃(ca:Addr) (cd:List (List (List Nat))) (z:List Nat) (p:Nat) (k:Kd),vs=[.str k.s,.ref ca,.str (wd z),.int (p:Nat)]/\xS H ca cd/\yo cd/\dX z/\z.length<=1000000/\∀v H',KB [] H H'->IZ H' v (mw cd z p k)->Q v H'
theorem vH(T:Txt K mg)(F:HasFn K mg "part_at" jt ["kind","codes","bits","place"])(hcoded_at:ao P w K mg base aS 2 "coded_at" ["code","bits","place"] (iI K))(hnumber_at:ao P w K mg base aS 3 "number_at" ["code","bits","place"] (tT K))(hgoal_at:ao P w K mg base aS 3 "goal_at" ["bits","place"] (pA K)):ao P w K mg base aS 4 "part_at" ["kind","codes","bits","place"] (qN K):=by
 obtain⟨u1,hg_OF_CLASSES,hr_OF_CLASSES⟩:=T.iP;obtain⟨u2,hg_OF_BOXES,hr_OF_BOXES⟩:=T.lh;obtain⟨aB,hg_BOXES,sB⟩:=T.tW;have hr_BOXES:RelV (.ref aB) (.ref aB):=rfl;refine F.dR lq (λvs H Q E h=>?_) (λf cdv A outer s H vs Q E hr h=>?_)
 ·obtain⟨ca,cd,z,p,k,rfl,_⟩:=h;rfl
 ·have hu:=aN hr;obtain⟨ca,cd,z,p,k,rfl,hc,hR,hb,hz,q⟩:=h;refine⟨_,(Z.aq (Z.dW (Z.bp cc (Z.v 0) Z.str) (Z.az (Z.ret (Z.fc hnumber_at (Z.cons (Z.ix (Z.aF K rfl hu) (Z.v 1) (Z.glob rfl hg_OF_CLASSES hr_OF_CLASSES)) (Z.cons (Z.v 2) (Z.cons (Z.v 3) Z.nil)))))) Z.bB)
   (Z.aq (Z.dW (Z.bp cc (Z.v 0) Z.str) (Z.az (Z.ret (Z.fc hgoal_at (Z.cons (Z.v 2) (Z.cons (Z.v 3) Z.nil))))) Z.bB)
   (Z.aq (Z.se (i:=4) lq.nd (Z.fc hcoded_at (Z.cons (Z.ix (Z.aF K rfl hu) (Z.v 1) (Z.glob rfl hg_OF_BOXES hr_OF_BOXES)) (Z.cons (Z.v 2) (Z.cons (Z.v 3) Z.nil)))))
   (Z.az (Z.ret (Z.ER (Z.bp dC (Z.v 4) Z.aO) Z.aO (Z.tup (Z.cons (Z.ix (Z.gY K rfl) (Z.glob rfl hg_BOXES hr_BOXES) (Z.ix (Z.aF K rfl hu) (Z.v 4) Z.int)) (Z.cons (Z.ix (Z.aF K rfl hu) (Z.v 4) Z.int) Z.nil))))))))),?_⟩
  obtain⟨c0,c1,c2,rfl,l0,l1,l2⟩:=hR.fR.ex;have n1:=(hR.pf c1 (by simp)).ne
  have n2:=(hR.pf c2 (by simp)).ne
  obtain⟨a0,a1,a2,g,g0,g1,g2⟩:=hc;have sg:=au g;refine ar λN hN=>?_
  cases k with
  |box =>
   replace q:∀v H',KB [] H H'->IZ H' v ((kC c2 z p).map λx=>(.box x.1,x.2))->Q v H':=q
   exists KJ (by decide +kernel:¬ Kd.s .box=Str.ofString "number")
   rw[hN];clear hN N;refine ar λN hN=>?_;exists KJ (by decide +kernel:¬ Kd.s .box=Str.ofString "goal")
   rw[hN];clear hN N;refine ar λN hN=>?_;exists sg;refine⟨a2,c2,z,p,rfl,aX.of g2,n2,by lia,hz,λv H1 k1 o1=>?_⟩
   rw[hN];clear hN N
   cases c:kC c2 z p with
   |none =>
    rw[c] at q o1;obtain rfl:v=.aO:=o1;walk_at "rz";exact q _ _ k1 rfl
   |some x =>
    rw[c] at q o1;have hb:=(fO n2 c).1;obtain⟨t,rfl,ht⟩:=o1;exists KJ (show ¬ V.ref t=V.aO from V.noConfusion),aC ht;refine⟨aB,_,_,_,rfl,rfl,sB H1,ID (show x.1<8 by lia),?_⟩
    exists aC ht;exact⟨by decide,λb2 hb2=>q _ _ (k1.trans (KB.new hb2)) ⟨b2,rfl,aa⟩⟩
  |num =>
   replace q:∀v H',KB [] H H'->IZ H' v ((zc c1 z p).map λx=>(.num x.1,x.2))->Q v H':=q
   exists KO (show Kd.s .num=Str.ofString "number" from rfl),sg;refine⟨a1,c1,z,p,rfl,aX.of g1,n1,by lia,hb,hz,λv H1 k1 o1=>q v H1 k1 ?_⟩
   cases c:zc c1 z p with
   |none=>rw[c] at o1;exact o1
   |some x=>rw[c] at o1;exact o1
  |go =>
   replace q:∀v H',KB [] H H'->IZ H' v ((gA z p).map λx=>(.go x.1,x.2))->Q v H':=q
   exists KJ (by decide +kernel:¬ Kd.s .go=Str.ofString "number")
   rw[hN];clear hN N;refine ar λN hN=>?_;exists KO (show Kd.s .go=Str.ofString "goal" from rfl);refine⟨z,p,rfl,hb,hz,λv H1 k1 o1=>q v H1 k1 ?_⟩
   cases c:gA z p with
   |none=>rw[c] at o1;exact o1
   |some x=>rw[c] at o1;exact o1
def Jr(H:Hp)(v:V):Option (RW×Nat)->Prop
 |none=>v=.aO
 |some x=>∃t r,v=.ref t/\H t=some (.tup [.ref r,.int (x.2:Nat)])/\H r=some (.tup x.1.v)
def ur(K:W.Frag):Sp:=λvs H Q _=>∃(ca:Addr) (cd:List (List (List Nat))) (z:List Nat) (p:Int),vs=[.ref ca,.str (wd z),.int p]/\xS H ca cd/\yo cd/\dX z/\z.length<=1000000/\∀v H',KB [] H H'->Jr H' v (Jb cd z p)->Q v H'
def bO:=bH
theorem zm(T:Txt K mg)(F:HasFn K mg "row_at" lL ["codes","bits","place"])(hcoded_at:ao P w K mg base aS 2 "coded_at" ["code","bits","place"] (iI K))(hpart_at:ao P w K mg base aS 4 "part_at" ["kind","codes","bits","place"] (qN K)):ao P w K mg base aS 5 "row_at" ["codes","bits","place"] (ur K):=by
 obtain⟨u1,hg_OF_WORDS,hr_OF_WORDS⟩:=T.jV;obtain⟨dS,hg_SHAPES,hd0⟩:=T.lR;have hd_SHAPES:kx K dS bO:=hd0;have hr_SHAPES:RelV (.ref dS) (.ref dS):=rfl;clear hd0;refine F.dR cQ (λvs H Q E h=>?_) (λf cdv A outer s H vs Q E hr h=>?_)
 ·obtain⟨ca,cd,z,p,rfl,_⟩:=h;rfl
 ·have hu:=aN hr;obtain⟨ca,cd,z,p,rfl,hc,hR,hb,hz,q⟩:=h;refine⟨_,(Z.aq (Z.dW (Z.bp iC (Z.v 2) Z.int) (Z.az (Z.ret Z.aO)) Z.bB)
   (Z.aq (Z.se (i:=3) cQ.nd (Z.fc hcoded_at (Z.cons (Z.ix (Z.aF K rfl hu) (Z.v 0) (Z.glob rfl hg_OF_WORDS hr_OF_WORDS)) (Z.cons (Z.v 1) (Z.cons (Z.v 2) Z.nil)))))
   (Z.aq (Z.dW (Z.bp dC (Z.v 3) Z.aO) (Z.az (Z.ret Z.aO)) Z.bB)
   (Z.aq (Z.se (i:=4) cQ.nd (Z.ix (Z.aF K rfl hu) (Z.ct (lC (D:=bO) K rfl rfl) rfl T.rH (by decide +kernel) (Z.cons (Z.glob rfl hg_SHAPES hr_SHAPES) Z.nil)) (Z.ix (Z.aF K rfl hu) (Z.v 3) Z.int)))
   (Z.aq (Z.se (i:=5) cQ.nd (Z.lst (Z.cons (Z.v 4) Z.nil)))
   (Z.aq (Z.se (i:=6) cQ.nd (Z.ix (Z.aF K rfl hu) (Z.v 3) Z.int))
   (Z.aq (Z.dO Lm rfl (Z.seq K rfl (Z.Jk K rfl rfl hg_SHAPES hd_SHAPES (Z.v 4))) (Z.aG (i:=7) cQ.nd rfl (by right)) (Z.aq (Z.se (i:=8) cQ.nd (Z.fc hpart_at (Z.cons (Z.v 7) (Z.cons (Z.v 0) (Z.cons (Z.v 1) (Z.cons (Z.v 6) Z.nil))))))
   (Z.aq (Z.dW (Z.bp dC (Z.v 8) Z.aO) (Z.az (Z.ret Z.aO)) Z.bB)
   (Z.aq (Z.expr (Z.app K (Z.v 5) (Z.cons (Z.ix (Z.aF K rfl hu) (Z.v 8) Z.int) Z.nil)))
   (Z.az (Z.se (i:=6) cQ.nd (Z.ix (Z.aF K rfl hu) (Z.v 8) Z.int)))))))
   (Z.az (Z.ret (Z.tup (Z.cons (Z.ct (Z.cm K rfl) rfl T.cq (by decide +kernel) (Z.cons (Z.v 5) Z.nil)) (Z.cons (Z.v 6) Z.nil)))))))))))),?_⟩
  refine ar λN hN=>?_;by_cases hp:p<0
  ·unfold Jb at q;rw[KO hp] at q;exists KO hp;exact q _ _ (KB.refl _ _) rfl
  obtain⟨p,rfl⟩:∃p':Nat,p=(p':Int):=⟨p.toNat,by lia⟩
  rw[uT] at q;exists KJ hp;rw[hN];clear hN N;refine ar λN hN=>?_;obtain⟨c0,c1,c2,rfl,l0,l1,l2⟩:=hR.fR.ex;have n0:=(hR.pf c0 (by simp)).ne
  have hc':=hc;obtain⟨a0,a1,a2,g,g0,g1,g2⟩:=hc';exists au g;refine⟨a0,c0,z,p,rfl,aX.of g0,n0,by lia,hz,λv H1 k1 o1=>?_⟩
  rw[hN];clear hN N;refine ar λN hN=>?_;unfold DZ at q
  replace q:∀v H',KB [] H H'->Jr H' v ((kC c0 z p).bind λx=>(rm [c0,c1,c2] z (Dx x.1) x.2).map λy=>(⟨x.1,y.1⟩,y.2))->Q v H':=q
  cases c:kC c0 z p with
  |none =>
   rw[c] at q o1;obtain rfl:v=.aO:=o1;walk_at "rz";exact q _ _ k1 rfl
  |some x =>
   rw[c] at q o1;obtain⟨wi,e⟩:=x;have h9:wi<9:=by have:=(fO n0 c).1;dsimp only at this;lia
   replace q:∀v H',KB [] H H'->Jr H' v ((rm [c0,c1,c2] z (Dx wi) e).map λy=>(⟨wi,y.1⟩,y.2))->Q v H':=q
   obtain⟨t,rfl,ht⟩:=o1;dsimp only at ht;exists if_neg (show ¬ V.ref t=V.aO from V.noConfusion);rw[hN];clear hN N;refine ar λN hN=>?_;have ak:bC (bO.map λp=>V.str p.1) (wi:Int)=some (.str (bP.getD wi (Str.ofString ""))):=aR (by
    show (bP.map V.str)[wi]?=_;rw[K8,KD,K1 (show wi<bP.length from h9)];rfl)
   walk_at "rz";refine⟨dS,rfl,hd_SHAPES,by decide,λl hl=>?_⟩
   have k2:KB [] H1 (upd H1 l (.lst (bO.map λp=>V.str p.1))):=KB.new hl;have s2:upd H1 l (.lst (bO.map λp=>V.str p.1)) l=some (.lst (bO.map λp=>V.str p.1)):=aa;generalize upd H1 l (.lst (bO.map λp=>V.str p.1))=H2 at *;have ht2:=k2 _ _ ht (by simp)
   exists aC ht2,au s2,ak;have h02:KB [] H H2:=k1.trans k2;clear k1 k2 s2 hl ht ak;rw[hN];clear hN N;have hlen:(Dx wi).length<=2:=by
    have:wi=0\/wi=1\/wi=2\/wi=3\/wi=4\/wi=5\/wi=6\/wi=7\/wi=8:=by lia
    rcases this with rfl|rfl|rfl|rfl|rfl|rfl|rfl|rfl|rfl<;>decide
   have e1:=Cf h9;generalize hps:Dx wi=ks0 at *;generalize hw9:bP.getD wi (Str.ofString "")=W at *;refine ar λN hN=>?_;walk_at "rz";refine⟨by decide,λrl hrl=>?_⟩
   have k3:KB [] H2 (upd H2 rl (.lst [.str W])):=KB.new hrl;have s3:upd H2 rl (.lst [.str W]) rl=some (.lst [.str W]):=aa;generalize upd H2 rl (.lst [.str W])=H3 at *;have hrl0:H rl=none:=h02.free (by simp) hrl
   have h03:KB [] H H3:=h02.trans k3;have ht3:=k3 _ _ ht2 (by simp)
   rw[hN];clear hN N;refine ar λN hN=>?_;exists aC ht3;rw[hN];clear hN N;refine ar λN hN=>?_;walk_at "rz";refine⟨W,_,rfl,e1,λpk kt=>?_⟩;have st:∀H,aX K H pk ((ks0.map Kd.s).map V.str):=λH=>.inr kt;refine .inr ⟨⟨_,st H3⟩,?_⟩;have kL:∀{H4 H5:Hp},KB [rl] H4 H5->KB [rl] H H4->KB [] H H5:=λa b c o e _=>a _ _ (b _ _ e (by simpa using ae e hrl0)) (by simpa using ae e hrl0)
   refine pq (xs:=(ks0.map Kd.s).map V.str) (λi σ H'=>∃(acc:List (PV×Nat)) (a:Nat) (o7 o8:Option V),i<=ks0.length/\(rm [c0,c1,c2] z ks0 e=(rm [c0,c1,c2] z (ks0.drop i) a).map λy=>(acc++y.1,y.2))/\acc.length=i/\H' rl=some (.lst (.str W::acc.map λx=>x.1.v x.2))/\KB [] H H'/\σ=[some (.ref ca),some (.str (wd z)),some (.int (p:Nat)),some (.ref t),some (.str W),some (.ref rl),some (.int (a:Nat)),o7,o8]) ⟨[],e,none,none,KW _,by rw[LD];cases rm [c0,c1,c2] z ks0 e<;>rfl,rfl,s3,h03,rfl⟩ (λi σ H' _ _=>st H') ?_ ?_
   ·rintro i x σ H' hx ⟨acc,a,o7,o8,hi,ep,hacc,hrl',h0',rfl⟩;have hi2:i<ks0.length:=by have:=(K7.mp hx).1;rw[K2,K2] at this;exact this
    obtain rfl:x=.str (ks0[i]).s:=by
     rw[K8,K8,K1 hi2] at hx;exact (Option.some.inj hx).symm
    rw[L7 hi2,rm] at ep;generalize ks0[i]=k at *;unfold aL;refine ar λM hM=>?_;walk_at "rz";refine⟨ca,[c0,c1,c2],z,a,k,rfl,hc.kb h0',hR,hb,hz,λv H5 k5 o5=>?_⟩;rw[hM];clear hM M;have h05:=h0'.trans k5
    cases c3:mw [c0,c1,c2] z a k with
    |none =>
     rw[c3] at ep o5;obtain rfl:v=.aO:=o5;have ep':rm [c0,c1,c2] z ks0 e=none:=ep;rw[ep'] at q;refine ar λM hM=>?_;walk_at "rz";exact q _ _ h05 rfl
    |some x =>
     rw[c3] at ep o5;obtain⟨t5,rfl,ht5⟩:=o5;refine ar λM hM=>?_;exists KJ (show ¬ V.ref t5=V.aO from V.noConfusion);rw[hM];clear hM M;refine ar λM hM=>?_;exists aC ht5;have hr5:=k5 _ _ hrl' (by simp)
     refine⟨.inl ⟨rfl,_,a_.of hr5⟩,rl,_,_,rfl,rfl,hr5,Ls (show _<4 by rw[KQ,K2];lia) (by decide),?_⟩
     rw[hM];clear hM M;have nt:t5≠rl:=λz=>by rw[z,hr5] at ht5;cases ht5
     have e6:(V.str W::acc.map λx=>x.1.v x.2)++[x.1.v x.2]=.str W::(acc++[x]).map λx=>x.1.v x.2:=by rw[KN];rfl
     rw[e6];have s6:upd H5 rl (.lst (.str W::(acc++[x]).map λx=>x.1.v x.2)) rl=_:=aa;have ht6:=(af (o:=HO.lst (.str W::(acc++[x]).map λx=>x.1.v x.2)) (H:=H5) nt).trans ht5;have h06:KB [] H (upd H5 rl (.lst (.str W::(acc++[x]).map λx=>x.1.v x.2))):=λc o e _=>by rw[af (ae e hrl0)];exact h05 _ _ e (by simp)
     generalize upd H5 rl (.lst (.str W::(acc++[x]).map λx=>x.1.v x.2))=H6 at *;dsimp only;refine jN λM hM=>?_;exists aC ht6;rw[hM];refine⟨acc++[x],x.2,some _,some _,hi2,?_,by rw[List.length_append,hacc];rfl,s6,h06,rfl⟩
     rw[ep,N9]
     cases rm [c0,c1,c2] z (ks0.drop (i+1)) x.2 with
     |none=>rfl
     |some y=>show some (acc++(x::y.1),y.2)=some ((acc++[x])++y.1,y.2);rw[Ld];rfl
   ·rintro σ H' ⟨acc,a,o7,o8,_,ep,_,hrl',h0',rfl⟩;rw[K2,K2,My] at ep;have ep':rm [c0,c1,c2] z ks0 e=some (acc,a):=by rw[ep];show some (acc++[],a)=_;rw[LF]
    rw[ep'] at q;show N _ _;rw[hN];clear hN N;exists au hrl';intro rt hrt;have k7:KB [] H' (upd H' rt (.tup (.str W::acc.map λx=>x.1.v x.2))):=KB.new hrt;have s7:upd H' rt (.tup (.str W::acc.map λx=>x.1.v x.2)) rt=_:=aa;generalize upd H' rt (.tup (.str W::acc.map λx=>x.1.v x.2))=H7 at *;refine⟨by decide,λtt htt=>q _ _ ((h0'.trans k7).trans (KB.new htt)) ⟨tt,rt,rfl,aa,?_⟩⟩
    rw[af (ae s7 htt),s7];show some (HO.tup (V.str W::_))=some (.tup (RW.v ⟨wi,acc⟩));unfold RW.v;rw[hw9]
def NT(ex:List Addr)(H:Hp):Prop:=∀b∈ex,∀xs,H b≠some (.tup xs)
theorem NT.nil(H:Hp):NT [] H:=λb hb=>nomatch hb
theorem bA.nt{p:Addr}{n:Nat}(h:bA H p dq n):NT [p,dq] H:=λb hb xs e=>by
 obtain⟨ys,e'⟩:=h.lst b hb;rw[e] at e';cases e'
def vA(H:Hp)(b:Addr)(bk:List (List Int)):Prop:=∃as:List Addr,H b=some (.tup (as.map V.ref))/\as.length=bk.length/\∀(i:Nat) (a:Addr),as[i]?=some a->H a=some (.tup (iV (bk.getD i [])))
theorem vA.keep{b:Addr}{bk:List (List Int)}(h:vA H b bk)(k:KB ex H H')(hx:NT ex H):vA H' b bk:=by
 obtain⟨as,h1,h2,h3⟩:=h;exact⟨as,k _ _ h1 λz=>hx _ z _ h1,h2,λi a e=>k _ _ (h3 i a e) λz=>hx _ z _ (h3 i a e)⟩
theorem vA.kb{b:Addr}{bk:List (List Int)}(h:vA H b bk)(k:KB [] H H'):vA H' b bk:=h.keep k (NT.nil _)
theorem oK{l:List α}(h:l.length=3):∃a b c,l=[a,b,c]:=by
 rcases l with _|⟨a,_|⟨b,_|⟨c,_|⟨d,l⟩⟩⟩⟩<;>first|exact⟨_,_,_,rfl⟩ | (exfalso;revert h;simp)
def oR(K:W.Frag):Sp:=λvs H Q _=>∃(b:Addr) (bk:List (List Int)),vs=[.ref b]/\vA H b bk/\Bk bk/\∀ca H',H ca=none->KB [] H H'->xS H' ca (cT bk)->Q (.ref ca) H'
theorem yH(T:Txt K mg)(F:HasFn K mg "codes_of" fC ["book"])(hcode_of:ao P w K mg base aS 4 "code_of" ["lengths"] (zL K)):ao P w K mg base aS 6 "codes_of" ["book"] (oR K):=by
 refine F.dR qM (λvs H Q E h=>?_) (λf cdv A outer s H vs Q E hr h=>?_)
 ·obtain⟨b,bk,rfl,_⟩:=h;rfl
 ·have hu:=aN hr;obtain⟨b,bk,rfl,hb,hB,q⟩:=h;obtain⟨as,hb1,hb2,hb3⟩:=hb;obtain⟨l0,l1,l2,rfl,_,_,_,hl⟩:=hB;refine⟨_,(Z.az (Z.ret (Z.o_ (osc:=ab fC) (ON:=["book"]) (own:=["lengths"]) (N:=["lengths","book"]) (aA.of rfl (by decide +kernel)) (Z.any K rfl (Z.v 0)) (λnd _ _ _ _=>(Z.aG (i:=0) nd rfl (by right))) (λ_ _ _ _=>Z.jA) (λ_ _ _ _=>(Z.fc hcode_of (Z.cons (Z.v 0) Z.nil)))))),?_⟩
  exists aC hb1;refine bF (xs:=as.map V.ref) (KA (show _<=3 by rw[K2,hb2];exact KH 3) (by decide)) (λD i ys H'=>H D=none/\H' D=some (.lst ys)/\KB [] H H'/\∃cs:List Addr,ys=cs.map V.ref/\cs.length=i/\∀(j:Nat) (c:Addr),cs[j]?=some c->H' c=some (.tup (wV (wordsOf Cw.fi (List.getD [l0,l1,l2] j []))))) (λD hD=>⟨hD,aa,KB.new hD,[],rfl,rfl,λj c e=>nomatch e⟩) (λD i ys H' h=>⟨h.2.1,by obtain⟨_,_,_,cs,rfl,e,_⟩:=h;rw[K2,e]⟩) (λD i ys H' h=>aX.of (h.2.2.1 _ _ hb1 (by simp))) ?_ ?_
  ·rintro D i ys H' x R hx ⟨g0,g1,g2,cs,rfl,g4,g5⟩ kk;obtain⟨a,ea,rfl⟩:∃a,as[i]?=some a/\x=.ref a:=by
    rw[K8] at hx;obtain⟨a,e,rfl⟩:=Lc.mp hx;exact⟨a,e,rfl⟩
   have hi:i<3:=by have:=(K7.mp ea).1;rw[hb2] at this;exact this
   have hm:List.getD [l0,l1,l2] i []∈[l0,l1,l2]:=by
    rcases iB hi with rfl|rfl|rfl<;>simp
   walk_at "rz";refine⟨a,_,rfl,g2 _ _ (hb3 i a ea) (by simp),(hl _ hm).1,(hl _ hm).2,λc H5 k5 e5=>?_⟩
   have gD:=k5 _ _ g1 (by simp)
   have cD:c≠D:=λz=>by rw[z,gD] at e5;cases e5
   refine kk _ _ gD ⟨g0,aa,λu o e _=>by rw[af (ae e g0)];exact k5 _ _ (g2 _ _ e (by simp)) (by simp),cs++[c],by rw[KN];rfl,by rw[K6,g4];rfl,λj d e=>?_⟩
   rcases LH j cs.length with hj|hj
   ·rw[Lj hj] at e;have e6:=k5 _ _ (g5 j d e) (by simp)
    rw[af (λz=>by rw[z,gD] at e6;cases e6)];exact e6
   ·rw[Le hj] at e;obtain⟨hj2,rfl⟩:=K7.mp e;have:j=i:=by simp at hj2;lia
    subst this;rw[af (show _≠D by simpa using cD)]
    simpa using e5
  ·rintro D ys H' ⟨g0,g1,g2,cs,rfl,g4,g5⟩;rw[K2,hb2] at g4;obtain⟨c0,c1,c2,rfl⟩:=oK g4;exact q D H' g0 g2 ⟨c0,c1,c2,g1,g5 0 c0 rfl,g5 1 c1 rfl,g5 2 c2 rfl⟩
def Aj(K:W.Frag):Sp:=λvs H Q _=>∃(p dq:Addr) (n:Nat),vs=[.ref p]/\bA H p dq n/\n<2^38/\∀(bk:List (List Int)) (b:Addr) H',bA H' p dq (n+200)->KB [p,dq] H H'->vA H' b bk->Bk bk->Q (.ref b) H'
theorem DA(T:Txt K mg)(F:HasFn K mg "_law_book" eM ["deck"])(h_law_draw:ao P w K mg base aS 2 "_law_draw" ["deck","most"] eY)(h_law_lengths:ao P w K mg base aS 3 "_law_lengths" ["deck","many"] (sI K)):ao P w K mg base aS 4 "_law_book" ["deck"] (Aj K):=by
 refine F.dR nF (λvs H Q E h=>?_) (λf cdv A outer s H vs Q E hr h=>?_)
 ·obtain⟨p,dq,n,rfl,_⟩:=h;rfl
 ·have hu:=aN hr;obtain⟨p,dq,n,rfl,hd,hn,q⟩:=h;refine⟨_,(Z.aq (Z.dW (Z.bp cc (Z.fc h_law_draw (Z.cons (Z.v 0) (Z.cons Z.int Z.nil))) Z.int) (Z.az (Z.ret (Z.tup (Z.cons (Z.op (Y.oZ K rfl) (Z.tup (Z.cons Z.int Z.nil)) Z.int) (Z.cons (Z.op (Y.oZ K rfl) (Z.tup (Z.cons Z.int Z.nil)) Z.int) (Z.cons (Z.op (Y.oZ K rfl) (Z.tup (Z.cons Z.int Z.nil)) Z.int) Z.nil)))))) Z.bB)
   (Z.az (Z.ret (Z.ct (Z.cm K rfl) rfl T.cq (by decide +kernel) (Z.cons (Z.o_ (osc:=ab eM) (ON:=["deck"]) (own:=["many"]) (N:=["many","deck"]) (aA.of rfl (by decide +kernel)) (Z.any K rfl (Z.tup (Z.consts rfl))) (λnd _ _ _ _=>(Z.aG (i:=0) nd rfl (by right))) (λ_ _ _ _=>Z.jA) (λ_ _ _ _=>(Z.fc h_law_lengths (Z.cons (Z.v 1) (Z.cons (Z.v 0) Z.nil))))) Z.nil))))),?_⟩
  refine ar λN hN=>?_;walk_at "rz";refine⟨p,dq,4,_,rfl,hd,by lia,by decide,by decide,λv H1 hv D1 k1=>?_⟩
  by_cases c:(v:Int)=0
  ·exists KO c;have rep:∀(G:Hp) (j k:Int) (Q:VK),1<k->k<=20->(∀t u G',KB [] G G'->G t=none->u≠t->G' u=some (.tup (iV (List.replicate k.toNat j)))->Q (.ref u) G')->(0+1<=sizeLine/\∀t,G t=none->Y.DQ K (.ref t) (.int k) (upd G t (.tup [.int j])) Q):=λG j k Q h1 h2 q=>by
    refine⟨by decide,λt ht=>.inr ⟨t,k,_,rfl,rfl,aX.of aa,by simp,(show 1<=1000 by decide),h1,by lia,λu hu=>?_⟩⟩
    have e:(List.replicate k.toNat [V.int j]).flatten=iV (List.replicate k.toNat j):=by
     unfold iV;rw[MO];generalize k.toNat=m
     induction m with
     |zero=>rfl
     |succ m ih=>rw[L6,Lr,ih];rfl
    rw[e];have ut:u≠t:=λz=>by rw[z,aa] at hu;cases hu
    exact q t u _ ((KB.new ht).trans (KB.new hu)) ht ut aa
   refine rep H1 4 9 _ (by decide) (by decide) λt1 u1 G1 g1 _ _ e1=>?_
   refine rep G1 5 17 _ (by decide) (by decide) λt2 u2 G2 g2 _ _ e2=>?_
   refine rep G2 3 8 _ (by decide) (by decide) λt3 u3 G3 g3 _ _ e3=>⟨by decide,λb hb=>?_⟩
   have kk:KB [] H1 (upd G3 b (.tup [.ref u1,.ref u2,.ref u3])):=((g1.trans g2).trans g3).trans (KB.new hb);have up:∀{x:Addr} {o:HO},G3 x=some o->upd G3 b (.tup [.ref u1,.ref u2,.ref u3]) x=some o:=λe=>by rw[af (ae e hb)];exact e
   refine q [List.replicate 9 4,List.replicate 17 5,List.replicate 8 3] b _ ((D1.kb kk).mono (by lia)) (k1.trans kk.all) ⟨[u1,u2,u3],aa,rfl,λi a e=>?_⟩ ⟨_,_,_,rfl,rfl,rfl,rfl,λl hl=>?_⟩
   ·have hi:i<3:=(K7.mp e).1;rcases iB hi with rfl|rfl|rfl
    ·cases e;exact up (g3 _ _ (g2 _ _ e1 (by simp)) (by simp))
    ·cases e;exact up (g3 _ _ e2 (by simp))
    ·cases e;exact up e3
   have rr:∀(n:Nat) (k:Int),0<n->n<=20->1<=k->k<=20->ia (List.replicate n k):=λn k a b c d=>⟨by rw[KY];exact a,by rw[KY];exact b,λx hx=>by rw[(Mb.mp hx).2];lia⟩
   rcases KL.mp hl with rfl|hl
   ·exact⟨rr 9 4 (by decide) (by decide) (by decide) (by decide),by decide +kernel⟩
   ·rcases KL.mp hl with rfl|hl
    ·exact⟨rr 17 5 (by decide) (by decide) (by decide) (by decide),by decide +kernel⟩
    ·rw[KU.mp hl];exact⟨rr 8 3 (by decide) (by decide) (by decide) (by decide),by decide +kernel⟩
  ·exists KJ c;rw[hN];clear hN N;walk_at "rz";refine⟨by decide,λt ht=>?_⟩
   have k2:KB [] H1 (upd H1 t (.tup [.int 9,.int 17,.int 8])):=KB.new ht;have s2:upd H1 t (.tup [.int 9,.int 17,.int 8]) t=some (.tup (iV [9,17,8])):=aa;generalize upd H1 t (.tup [.int 9,.int 17,.int 8])=H2 at *;have D2:=D1.kb k2;refine bF (xs:=iV [9,17,8]) (by decide) (λD i ys H'=>H2 D=none/\H' D=some (.lst ys)/\bA H' p dq (n+1+60*i)/\KB [p,dq] H2 H'/\∃(as:List Addr) (done:List (List Int)),ys=as.map V.ref/\as.length=i/\done.map List.length=[9,17,8].take i/\(∀l∈done,ia l/\jG l=true)/\∀(j:Nat) (a:Addr),as[j]?=some a->H' a=some (.tup (iV (done.getD j [])))) (λD hD=>⟨hD,aa,D2.kb (KB.new hD),KB.new hD,[],[],rfl,rfl,rfl,(λl h=>nomatch h),λj a e=>nomatch e⟩) (λD i ys H' h=>⟨h.2.1,by obtain⟨_,_,_,_,as,_,rfl,e,_⟩:=h;rw[K2,e]⟩) (λD i ys H' h=>aX.of (h.2.2.2.1 _ _ s2 λz=>D2.nt _ z _ s2)) ?_ ?_
   ·rintro D i ys H' x R hx ⟨g0,g1,gd,gk,as,done,rfl,ga,gl,gok,gat⟩ kk;obtain⟨hi,rfl⟩:=kn hx;have nD:=D2.new g0;have dl:done.length=i:=by
     have:=Lw List.length gl;rw[K2,K_] at this;have h3:([9,17,8]:List Nat).length=3:=rfl;have hi3:i<3:=hi;lia
    have key:∀m:Nat,2<=m->m<=17->([9,17,8]:List Nat).take (i+1)=([9,17,8]:List Nat).take i++[m]->sI K [.ref p,.int (m:Nat)] H' R E0:=λm m2 m17 em=>by
     refine⟨p,dq,m,_,rfl,gd,by have:i<3:=hi;lia,m2,m17,λls a H5 D5 k5 e5 l1 l2 l3=>?_⟩
     have gD:=k5 _ _ g1 nD;have aD:a≠D:=λz=>by rw[z,gD] at e5;cases e5
     have pD:p≠D:=λz=>nD (by simp[z])
     have qD:dq≠D:=λz=>nD (by simp[z])
     refine kk _ _ gD ⟨g0,aa,(D5.keep (KB.set (ex:=[D]) (by simp)) (by simpa using pD) (by simpa using qD)).mono (by lia),λu o e z=>by rw[af (ae e g0)];exact k5 _ _ (gk _ _ e z) z,as++[a],done++[ls],by rw[KN];rfl,by rw[K6,ga];rfl,by rw[KN,gl,em];rw[Lp,l1];rfl,λl hl=>?_,λj b e=>?_⟩
     ·rcases Lq.mp hl with hl|hl
      ·exact gok l hl
      ·rw[KU.mp hl];exact⟨l2,l3⟩
     ·rcases LH j as.length with hj|hj
      ·rw[Lj hj] at e;have e6:=gd.tup k5 (gat j b e);rw[af (λz=>by rw[z,gD] at e6;cases e6),e6,KD,KD,Lj (by lia)]
      ·rw[Le hj] at e;obtain⟨hj2,rfl⟩:=K7.mp e;have hj3:j=as.length:=by simp at hj2;lia
       subst hj3;simp only[LU,Mg];rw[af aD,e5,KD,Le (by lia),show as.length-done.length=0 by lia]
       rfl
    walk_at "rz";rcases iB (show i<3 from hi) with rfl|rfl|rfl
    ·exact key 9 (by decide) (by decide) rfl
    ·exact key 17 (by decide) (by decide) rfl
    ·exact key 8 (by decide) (by decide) rfl
   ·rintro D ys H' ⟨g0,g1,gd,gk,as,done,rfl,ga,gl,gok,gat⟩;exists au g1;intro b hb;have gl':done.map List.length=[9,17,8]:=gl;have h3:done.length=3:=by have:=Lw List.length gl';rw[K2] at this;exact this
    obtain⟨x,y,z,rfl⟩:=oK h3;simp only[Lp,MK,List.cons.injEq] at gl';refine q [x,y,z] b _ ((gd.kb (KB.new hb)).mono (by show n+1+60*3<=_;lia)) (k1.trans (k2.all.trans (gk.trans (KB.new hb)))) ⟨as,aa,by rw[ga];rfl,λj a e=>?_⟩ ⟨x,y,z,rfl,gl'.1,gl'.2.1,gl'.2.2.1,gok⟩
    have:=gat j a e;rw[af (ae this hb)];exact this
def pQ:Sp:=λvs H Q _=>∃(p dq:Addr) (n:Nat),vs=[.ref p]/\bA H p dq n/\n<2^40/\∀(v:Nat) H',bA H' p dq (n+2)->KB [p,dq] H H'->v<65536->Q (.int (v:Nat)) H'
theorem wB(T:Txt K mg)(F:HasFn K mg "_law_number" e_ ["deck"])(h_law_draw:ao P w K mg base aS 2 "_law_draw" ["deck","most"] eY):ao P w K mg base aS 3 "_law_number" ["deck"] pQ:=by
 refine F.dR eC (λvs H Q E h=>?_) (λf cdv A outer s H vs Q E hr h=>?_)
 ·obtain⟨p,dq,n,rfl,_⟩:=h;rfl
 ·have hu:=aN hr;obtain⟨p,dq,n,rfl,hd,hn,q⟩:=h;refine⟨_,(Z.aq (Z.se (i:=1) eC.nd (Z.fc h_law_draw (Z.cons (Z.v 0) (Z.cons Z.int Z.nil))))
   (Z.aq (Z.dW (Z.bp cc (Z.v 1) Z.int) (Z.az (Z.ret Z.int)) Z.bB)
   (Z.aq (Z.se (i:=2) eC.nd (Z.op Et Z.int (Z.op cZ (Z.v 1) Z.int)))
   (Z.az (Z.ret (Z.op (Z.aQ K rfl) (Z.v 2) (Z.fc h_law_draw (Z.cons (Z.v 0) (Z.cons (Z.v 2) Z.nil))))))))),?_⟩
  refine ar λN hN=>?_;walk_at "rz";refine⟨p,dq,17,n,rfl,hd,by lia,by decide,by decide,λz H1 hz D1 k1=>?_⟩
  rw[hN];clear hN N;refine ar λN hN=>?_;by_cases a0:(z:Int)=0
  ·exists KO a0;exact q 0 H1 (D1.mono (by lia)) k1 (by decide)
  ·exists KJ a0;rw[hN];clear hN N;refine ar λN hN=>?_;walk_at "rz";refine⟨⟨by lia,by lia,by decide⟩,?_⟩
   rw[hN];clear hN N;obtain⟨j,ej,hj⟩:∃j:Nat,((z:Int)-1).toNat=j/\j<=15:=⟨_,rfl,by lia⟩
   rw[ej,Int.one_mul];have p1:(0:Int)<2^j:=Int.pow_pos (by decide)
   have p2:(2:Int)^j<=2^15:=by
    have:2^j<=2^15:=M9 (by decide) hj
    exact_mod_cast this
   generalize (2:Int)^j=t at p1 p2;walk_at "rz";refine⟨p,dq,t,n+1,rfl,D1,by lia,p1,by lia,λv H2 hv D2 k2=>?_⟩
   walk_at "rz";obtain⟨k,ek⟩:∃k:Nat,t+(v:Int)=k:=⟨(t+(v:Int)).toNat,by lia⟩
   rw[ek];exact q k H2 D2 (k1.trans k2) (by lia)
theorem two8{c:Nat}(h1:(c:Int)<2):∃m:Int,bC [V.int 2,.int 8] (c:Int)=some (.int m)/\0<m/\m<=8:=by
 have:c=0\/c=1:=by lia
 rcases this with rfl|rfl
 ·exact⟨2,rfl,by decide,by decide⟩
 ·exact⟨8,rfl,by decide,by decide⟩
theorem qK{p:Addr}{n:Nat}(D:bA H p dq n)(hn:n<2^49)(q:∀b H',b<8->bA H' p dq (n+2)->KB [p,dq] H H'->Q (.str (e9 b)) H'):
  0+1+1<=sizeLine/\∀m,H m=none->eY [.ref p,.int 2] (upd H m (.lst [.int 2,.int 8])) (λy H2=>Br K (.ref m) y H2 λx H1=>eY [.ref p,x] H1 (λy H2=>Br K (.str (Str.ofString "abcdefgh")) y H2 Q) E0) E0:=by
 refine⟨by decide,λm hm=>⟨p,dq,2,n,rfl,D.kb (KB.new hm),by lia,by decide,by decide,λd H2 hd D2 k2=>?_⟩⟩
 have s2:=au (k2 m _ aa (D.new hm));have kk:KB [p,dq] H H2:=(KB.new hm).trans k2;obtain⟨x,ha,x0,x8⟩:=two8 hd;exists s2,ha;refine⟨p,dq,x,n+1,rfl,D2,by lia,x0,by lia,λy H3 hy D3 k3=>?_⟩
 have hb:=Gn (show 0<=(y:Int) by lia) (show (y:Int)<8 by lia)
 exists hb;exact⟨by decide +kernel,q y H3 (by lia) D3 (kk.trans k3)⟩
def DK(K:W.Frag):Sp:=λvs H Q _=>∃(p dq:Addr) (many n:Nat),vs=[.ref p,.int (many:Nat)]/\bA H p dq n/\n<2^38/\many<1000/\∀(r:Row) (a:Addr) H',r.Ok many->H' a=some (.tup r.vs)->bA H' p dq (n+5)->KB [p,dq] H H'->Q (.ref a) H'
theorem Ez(T:Txt K mg)(F:HasFn K mg "_law_row" hZ ["deck","goals"])(h_law_draw:ao P w K mg base aS 2 "_law_draw" ["deck","most"] eY)(h_law_number:ao P w K mg base aS 3 "_law_number" ["deck"] pQ):ao P w K mg base aS 4 "_law_row" ["deck","goals"] (DK K):=by
 refine F.dR eU (λvs H Q E h=>?_) (λf cdv A outer s H vs Q E hr h=>?_)
 ·obtain⟨p,dq,many,n,rfl,_⟩:=h;rfl
 ·have hu:=aN hr;obtain⟨p,dq,many,n,rfl,hd,hn,hmy,q⟩:=h;refine⟨_,(Z.aq (Z.se (i:=2) eU.nd (Z.lst (Z.consts rfl)))
   (Z.aq (Z.se (i:=3) eU.nd (Z.ix (Z.aF K rfl hu) (Z.v 2) (Z.fc h_law_draw (Z.cons (Z.v 0) (Z.cons Z.int Z.nil)))))
   (Z.aq (Z.se (i:=4) eU.nd (Z.ix (Z.aF K rfl hu) Z.str (Z.fc h_law_draw (Z.cons (Z.v 0) (Z.cons (Z.ix (Z.aF K rfl hu) (Z.lst (Z.consts rfl)) (Z.fc h_law_draw (Z.cons (Z.v 0) (Z.cons Z.int Z.nil)))) Z.nil)))))
   (Z.aq (Z.dW (Z.bp cc (Z.v 3) Z.str) (Z.az (Z.ret (Z.tup (Z.cons (Z.v 3) (Z.cons (Z.v 4) (Z.cons (Z.fc h_law_number (Z.cons (Z.v 0) Z.nil)) Z.nil)))))) Z.bB)
   (Z.aq (Z.dW (Z.bp (Z.Cv K rfl hu) (Z.v 3) (Z.tup (Z.consts rfl))) (Z.az (Z.ret (Z.tup (Z.cons (Z.v 3) (Z.cons (Z.v 4) (Z.cons (Z.ix (Z.aF K rfl hu) Z.str (Z.fc h_law_draw (Z.cons (Z.v 0) (Z.cons (Z.ix (Z.aF K rfl hu) (Z.lst (Z.consts rfl)) (Z.fc h_law_draw (Z.cons (Z.v 0) (Z.cons Z.int Z.nil)))) Z.nil)))) Z.nil)))))) Z.bB)
   (Z.aq (Z.dW (Z.bp (Z.Cv K rfl hu) (Z.v 3) (Z.tup (Z.consts rfl))) (Z.az (Z.ret (Z.tup (Z.cons (Z.v 3) (Z.cons (Z.v 4) Z.nil))))) Z.bB)
   (Z.aq (Z.dW (Z.bp cc (Z.v 3) Z.str) (Z.az (Z.ret (Z.tup (Z.cons (Z.v 3) (Z.cons (Z.fc h_law_draw (Z.cons (Z.v 0) (Z.cons (Z.op (Z.aQ K rfl) (Z.v 1) Z.int) Z.nil))) Z.nil))))) Z.bB)
   (Z.aq (Z.dW (Z.bp cc (Z.v 3) Z.str) (Z.az (Z.ret (Z.tup (Z.cons (Z.v 3) (Z.cons (Z.v 4) (Z.cons (Z.fc h_law_draw (Z.cons (Z.v 0) (Z.cons (Z.op (Z.aQ K rfl) (Z.v 1) Z.int) Z.nil))) Z.nil)))))) Z.bB)
   (Z.az (Z.ret (Z.tup (Z.cons (Z.v 3) Z.nil)))))))))))),?_⟩
  refine ar λN hN=>?_;walk_at "rz";refine⟨by decide,λl hl=>?_⟩
  have k1:KB [] H (upd H l (.lst [.str (Str.ofString "put"),.str (Str.ofString "put"),.str (Str.ofString "add"),.str (Str.ofString "sub"),.str (Str.ofString "copy"),.str (Str.ofString "tell"),.str (Str.ofString "tell"),.str (Str.ofString "hear"),.str (Str.ofString "jump"),.str (Str.ofString "zero"),.str (Str.ofString "zero"),.str (Str.ofString "halt")])):=KB.new hl;have s1:upd H l (.lst [.str (Str.ofString "put"),.str (Str.ofString "put"),.str (Str.ofString "add"),.str (Str.ofString "sub"),.str (Str.ofString "copy"),.str (Str.ofString "tell"),.str (Str.ofString "tell"),.str (Str.ofString "hear"),.str (Str.ofString "jump"),.str (Str.ofString "zero"),.str (Str.ofString "zero"),.str (Str.ofString "halt")]) l=_:=aa;generalize upd H l _=H1 at *;have D1:=hd.kb k1;have nl:=hd.new hl;rw[hN];clear hN N;refine ar λN hN=>?_;walk_at "rz";refine⟨p,dq,12,n,rfl,D1,by lia,by decide,by decide,λc H2 hc D2 k2=>?_⟩
  have s2:=k2 _ _ s1 nl;obtain⟨v,hv,ha⟩:=FT (xs:=[V.str (Str.ofString "put"),.str (Str.ofString "put"),.str (Str.ofString "add"),.str (Str.ofString "sub"),.str (Str.ofString "copy"),.str (Str.ofString "tell"),.str (Str.ofString "tell"),.str (Str.ofString "hear"),.str (Str.ofString "jump"),.str (Str.ofString "zero"),.str (Str.ofString "zero"),.str (Str.ofString "halt")]) (i:=c) hc;exists au s2,ha;have kk2:KB [p,dq] H H2:=k1.all.trans k2;clear ha hc k1 k2 s1 s2 nl hl;rw[hN];clear hN N;refine ar λN hN=>?_;walk_at "rz";refine qK D2 (by lia) λbn H3 hb8 D3 k3=>?_
  have kk3:=kk2.trans k3;clear k3 D2 kk2 D1;rw[hN];clear hN N;have hv6:v=.str "put"\/(∃w,v=.str (w2 w))\/(∃w,v=.str (w1 w))\/v=.str "jump"\/v=.str "zero"\/v=.str "halt":=by
   simp only[KL,Ln,Mh] at hv;rcases hv with h|h|h|h|h|h|h|h|h|h|h|h<;>subst h<;>first|exact .inl rfl|exact .inr (.inl ⟨0,rfl⟩)|exact .inr (.inl ⟨1,rfl⟩)|exact .inr (.inl ⟨2,rfl⟩)|exact .inr (.inr (.inl ⟨0,rfl⟩))|exact .inr (.inr (.inl ⟨1,rfl⟩))|exact .inr (.inr (.inr (.inl rfl)))|exact .inr (.inr (.inr (.inr (.inl rfl))))|exact .inr (.inr (.inr (.inr (.inr rfl))))
  clear hv;have tell:∀(r:Row) (G:Hp) (m:Nat),r.Ok many->bA G p dq m->m<=n+5->KB [p,dq] H G->∀t,G t=none->Q (.ref t) (upd G t (.tup r.vs)):=λr G m ok D hm k t ht=>q r t _ ok aa ((D.kb (KB.new ht)).mono hm) (k.trans (KB.new ht));refine ar λN hN=>?_;rcases hv6 with rfl|⟨u,rfl⟩|⟨u,rfl⟩|hv
  ·exists (show (Str.ofString "put"=Str.ofString "put")=True from eq_true rfl),MV;refine⟨p,dq,n+3,rfl,D3,by lia,λk H4 D4 k4 hk=>⟨by decide,λt ht=>?_⟩⟩
   exact tell (.put bn k) H4 _ ⟨hb8,hk⟩ D4 (by lia) (kk3.trans k4) t ht
  ·have n1:∀u,w2 u≠"put":=by decide +kernel
   have i1:∀u,jF (.str (w2 u)) [.str "add",.str "sub",.str "copy"]=true:=by decide +kernel
   exists KJ (n1 u);rw[hN];clear hN N;refine ar λN hN=>?_;exists i1 u;refine⟨by decide,λt0 ht0=>⟨rfl,rfl,?_⟩⟩
   refine qK (D3.kb (KB.new ht0)) (by lia) λb2 H4 hb2 D4 k4=>⟨by decide,λt ht=>?_⟩
   exact tell (.two u bn b2) H4 _ ⟨hb8,hb2⟩ D4 (by lia) ((kk3.trans (KB.new ht0)).trans k4) t ht
  ·have n1:∀u,w1 u≠"put":=by decide +kernel
   have i1:∀u,jF (.str (w1 u)) [.str "add",.str "sub",.str "copy"]=false:=by decide +kernel
   have i2:∀u,jF (.str (w1 u)) [.str "tell",.str "hear"]=true:=by decide +kernel
   exists KJ (n1 u);rw[hN];clear hN N;refine ar λN hN=>?_;exists i1 u;refine⟨by decide,λt0 ht0=>⟨rfl,rfl,?_⟩⟩
   rw[hN];clear hN N;refine ar λN hN=>?_;exists i2 u;refine⟨by decide,λt1 ht1=>⟨rfl,rfl,by decide,λt ht=>?_⟩⟩
   exact tell (.one u bn) _ _ hb8 ((D3.kb (KB.new ht0)).kb (KB.new ht1)) (by lia) ((kk3.trans (KB.new ht0)).trans (KB.new ht1)) t ht
  ·have n1:∀z∈([("jump"),("zero"),("halt")]:List Str),z≠"put"/\jF (.str z) [.str "add",.str "sub",.str "copy"]=false/\jF (.str z) [.str "tell",.str "hear"]=false:=by decide +kernel
   obtain⟨z,hz,rfl⟩:∃z∈([("jump"),("zero"),("halt")]:List Str),v=.str z:=by rcases hv with rfl|rfl|rfl<;>exact⟨_,by simp,rfl⟩
   obtain⟨e1,e2,e3⟩:=n1 z hz;exists KJ e1;rw[hN];clear hN N;refine ar λN hN=>?_;exists e2;refine⟨by decide,λt0 ht0=>⟨rfl,rfl,?_⟩⟩
   rw[hN];clear hN N;refine ar λN hN=>?_;exists e3;refine⟨by decide,λt1 ht1=>⟨rfl,rfl,?_⟩⟩
   have D4:=(D3.kb (KB.new (o:=.tup [.str "add",.str "sub",.str "copy"]) ht0)).kb (KB.new (o:=.tup [.str "tell",.str "hear"]) ht1);have kk4:=(kk3.trans (KB.new (o:=.tup [.str "add",.str "sub",.str "copy"]) ht0)).trans (KB.new (o:=.tup [.str "tell",.str "hear"]) ht1);rw[hN];clear hN N;generalize upd (upd H3 t0 _) t1 _=H4 at *;refine ar λN hN=>?_;rcases hv with hv|hv
   ·cases hv;exists KO (rfl:Str.ofString "jump"=Str.ofString "jump");refine⟨p,dq,(many:Int)+1,n+3,rfl,D4,by lia,by lia,by lia,λg H5 hg D5 k5=>⟨by decide,λt ht=>?_⟩⟩
    exact tell (.jump g) H5 _ (show g<=many by lia) D5 (by lia) (kk4.trans k5) t ht
   ·have nh:z≠"jump":=by rcases hv with hv|hv<;>cases hv<;>decide +kernel
    exists KJ nh;rw[hN];clear hN N;refine ar λN hN=>?_;rcases hv with hv|hv
    ·cases hv;exists KO (rfl:Str.ofString "zero"=Str.ofString "zero");refine⟨p,dq,(many:Int)+1,n+3,rfl,D4,by lia,by lia,by lia,λg H5 hg D5 k5=>⟨by decide,λt ht=>?_⟩⟩
     exact tell (.zero bn g) H5 _ ⟨hb8,(show g<=many by lia)⟩ D5 (by lia) (kk4.trans k5) t ht
    ·cases hv;have nz:Str.ofString "halt"≠Str.ofString "zero":=by decide +kernel
     exists KJ nz;rw[hN];clear hN N;walk_at "rz";exact⟨by decide,λt ht=>tell .halt H4 _ trivial D4 (by lia) kk4 t ht⟩
def PA(H:Hp)(as:List Addr)(rs:List Row):Prop:=as.length=rs.length/\∀(i:Nat) (q:Addr) (r:Row),as[i]?=some q->rs[i]?=some r->H q=some (.tup r.vs)
theorem PA.snoc{rs:List Row}{r:Row}(h:PA H as rs)(e:H q=some (.tup r.vs)):PA H (as++[q]) (rs++[r]):=by
 refine⟨by rw[K6,K6,h.1];rfl,λi q' r' e1 e2=>?_⟩
 rcases LH i as.length with hi|hi
 ·rw[Lj hi] at e1;rw[Lj (by rw[<- h.1];exact hi)] at e2
  exact h.2 i q' r' e1 e2
 ·have h1:=h.1;rw[Le hi] at e1;rw[Le (by lia),<- h1] at e2
  obtain⟨hj,rfl⟩:=K7.mp e1;obtain⟨hj2,rfl⟩:=K7.mp e2;have:i-as.length=0:=by simp at hj;lia
  simp only[this,Mg];exact e
theorem PA.keep{rs:List Row}(h:PA H as rs)(k:KB ex H H')(hx:NT ex H):PA H' as rs:=⟨h.1,λi q r e1 e2=>k _ _ (h.2 i q r e1 e2) λz=>hx q z _ (h.2 i q r e1 e2)⟩
theorem jS(h:H D=some (.lst ys)):NT [D] H:=λb hb xs e=>by
 rw[KU.mp hb,h] at e;cases e
def iL(H:Hp)(a:Addr)(rs:List Row):Prop:=∃as:List Addr,H a=some (.tup (as.map V.ref))/\PA H as rs
theorem iL.keep{rs:List Row}(h:iL H a rs)(k:KB ex H H')(hx:NT ex H):iL H' a rs:=by
 obtain⟨as,h1,h2⟩:=h;exact⟨as,k _ _ h1 λz=>hx a z _ h1,h2.keep k hx⟩
theorem iL.kb{rs:List Row}(h:iL H a rs)(k:KB [] H H'):iL H' a rs:=h.keep k (NT.nil _)
def AJ:Sp:=λvs H Q _=>∃(p dq:Addr) (m n:Nat),vs=[.ref p,.int (m:Nat)]/\bA H p dq n/\n<2^37/\m<=60/\∀(rs:List Row) (a:Addr) H',rs.length<=m->(∀r∈rs,r.Ok rs.length)->iL H' a rs->bA H' p dq (n+1+5*m)->KB [p,dq] H H'->Q (.ref a) H'
theorem Dl(T:Txt K mg)(F:HasFn K mg "_law_program" dc ["deck","most"])(h_law_draw:ao P w K mg base aS 2 "_law_draw" ["deck","most"] eY)(h_law_row:ao P w K mg base aS 4 "_law_row" ["deck","goals"] (DK K)):ao P w K mg base aS 5 "_law_program" ["deck","most"] AJ:=by
 refine F.dR fP (λvs H Q E h=>?_) (λf cdv A outer s H vs Q E hr h=>?_)
 ·obtain⟨p,dq,m,n,rfl,_⟩:=h;rfl
 ·have hu:=aN hr;obtain⟨p,dq,m,n,rfl,hd,hn,hm,q⟩:=h;refine⟨_,(Z.aq (Z.se (i:=2) fP.nd (Z.fc h_law_draw (Z.cons (Z.v 0) (Z.cons (Z.op (Z.aQ K rfl) (Z.v 1) Z.int) Z.nil))))
   (Z.az (Z.ret (Z.ct (Z.cm K rfl) rfl T.cq (by decide +kernel) (Z.cons (Z.o_ (osc:=ab dc) (ON:=["deck","most","many"]) (own:=["k"]) (N:=["k","deck","most","many"]) (aA.of rfl (by decide +kernel)) (Z.ke rfl T.cA (Z.cons (Z.v 2) Z.nil)) (λnd _ _ _ _=>(Z.aG (i:=0) nd rfl (by right))) (λ_ _ _ _=>Z.jA) (λ_ _ _ _=>(Z.fc h_law_row (Z.cons (Z.v 1) (Z.cons (Z.v 3) Z.nil))))) Z.nil))))),?_⟩
  refine ar λN hN=>?_;walk_at "rz";refine⟨p,dq,(m:Int)+1,n,rfl,hd,by lia,by lia,by lia,λv H1 hv D1 k1=>?_⟩
  rw[hN];clear hN N;walk_at "rz";refine⟨by lia,by lia,?_⟩
  rw[Lg];refine j6 (KA (show v<=1000 by lia) (by decide)) (λD i ys H'=>H1 D=none/\H' D=some (.lst ys)/\i<=v/\bA H' p dq (n+1+5*i)/\KB [p,dq] H1 H'/\∃(as:List Addr) (rs:List Row),ys=as.map V.ref/\rs.length=i/\(∀r∈rs,r.Ok v)/\PA H' as rs) (λD hD=>⟨hD,aa,KW _,D1.kb (KB.new hD),KB.new hD,[],[],rfl,rfl,(λr hr=>absurd hr Ln),rfl,λi q r e=>nomatch e⟩) (λD i ys H' h=>⟨h.2.1,by obtain⟨_,_,_,_,_,as,rs,rfl,e,_,e2⟩:=h;rw[K2,e2.1,e]⟩) ?_ ?_
  ·rintro D i ys H' R hi ⟨g0,g1,g2,gD,gk,as,rs,rfl,e1,e2,e3⟩ kk;have nD:=D1.new g0;have pD:p≠D:=λz=>nD (by simp[z])
   have qD:dq≠D:=λz=>nD (by simp[z])
   walk_at "rz";refine⟨p,dq,v,_,rfl,gD,by lia,by lia,λr a H5 hr hra D5 k5=>?_⟩
   have gD5:=k5 _ _ g1 nD;have e35:PA H5 (as++[a]) (rs++[r]):=(e3.keep k5 gD.nt).snoc hra;refine kk _ _ gD5 ⟨g0,aa,by lia,(D5.keep (KB.set (ex:=[D]) (by simp)) (by simpa using pD) (by simpa using qD)).mono (by lia),λu o e z=>by rw[af (ae e g0)];exact k5 _ _ (gk _ _ e z) z,as++[a],rs++[r],by rw[KN];rfl,by rw[K6,e1];rfl,λr' hr'=>?_,e35.keep (KB.set (ex:=[D]) (by simp)) (jS gD5)⟩
   rcases Lq.mp hr' with h|h
   ·exact e2 r' h
   ·rw[KU.mp h];exact hr
  ·rintro D ys H' ⟨g0,g1,g2,gD,gk,as,rs,rfl,e1,e2,e3⟩;exists au g1;intro b hb;have kb:=KB.new (ex:=[]) (o:=.tup (as.map V.ref)) hb;refine q rs b _ (by lia) (by rw[e1];exact e2) ⟨as,aa,e3.keep kb (NT.nil _)⟩ ((gD.kb kb).mono (by lia)) (k1.trans (gk.trans kb.all))
noncomputable def aT:Option Nat->V
 |none=>.aO
 |some t=>.int (t:Nat)
def qW:Sp:=λvs H Q _=>∃(a c:Addr) (rs:List Row) (ks:List Nat),vs=[.ref a,.ref c]/\iL H a rs/\rs.length<=64/\(∀r∈rs,r.Ok rs.length)/\H c=some (.tup (iV (nZ ks)))/\ks.length=rs.length/\(∀k∈ks,k<=40)/\∀(bk:List (List Int)) b H',KB [] H H'->vA H' b bk->Bk bk->Q (.ref b) H'
def AQ:Sp:=λvs H Q _=>∃(n m:Int),vs=[.int n,.int m]/\-1<=m/\m<=40/\Q (.str (wd (bo n m.toNat []))) H
theorem Gd(T:Txt K mg)(F:HasFn K mg "last_figures" eG ["number","many"]):ao P w K mg base aS 1 "last_figures" ["number","many"] AQ:=by
 refine F.dR bE (λvs H Q E h=>?_) (λf cdv A outer s H vs Q E hr h=>?_)
 ·obtain⟨n,m,rfl,_⟩:=h;rfl
 ·have hu:=aN hr;obtain⟨n,m,rfl,hm0,hm,q⟩:=h;refine⟨_,(Z.aq (Z.se (i:=2) bE.nd Z.str)
   (Z.aq (Z.se (i:=3) bE.nd (Z.v 0))
   (Z.aq (Z.dO Lm rfl (Z.ke rfl T.cA (Z.cons (Z.v 1) Z.nil)) (Z.aG (i:=4) bE.nd rfl (by right)) (Z.aq (Z.se (i:=2) bE.nd (Z.op (Z.aQ K rfl) (Z.ct xv rfl T.DF (by decide +kernel) (Z.cons (Z.op eJ (Z.v 3) Z.int) Z.nil)) (Z.v 2)))
   (Z.az (Z.se (i:=3) bE.nd (Z.op jK (Z.v 3) Z.int)))))
   (Z.az (Z.ret (Z.v 2)))))),?_⟩
  refine ar λN hN=>?_;walk_at "rz";rw[hN];clear hN N;refine ar λN hN=>?_;walk_at "rz";rw[hN];clear hN N;refine ar λN hN=>?_;walk_at "rz";refine⟨by lia,by lia,?_⟩
  have hk:m.toNat<=40:=by lia
  generalize m.toNat=k at *;refine bL (λi σ H'=>∃(l:Int) (acc:List Nat) (o:Option V),H'=H/\i<=k/\bo l (k-i) acc=bo n k []/\acc.length=i/\σ=[some (.int n),some (.int m),some (.str (wd acc)),some (.int l),o]) ⟨n,[],none,rfl,KW _,rfl,rfl,by rw[lJ]⟩ ?_ ?_
  ·rintro i σ H' hi ⟨l,acc,o,rfl,_,e,hl,rfl⟩;unfold aL;refine ar λM hM=>?_;exists FK;rw[dF,aK,aK];refine⟨by decide,by rcases Int.emod_two_eq l with h|h<;>rw[h]<;>decide,KA (show _<=50 by simp;lia) (by decide),?_⟩
   rw[hM];clear hM M;refine jN λM hM=>?_;walk_at "rz";refine⟨⟨by decide,by decide⟩,?_⟩
   rw[hM];refine⟨l / 2,dg l::acc,some _,rfl,hi,?_,by rw[KQ,hl],rfl⟩
   rw[<- e,show k-i=(k-(i+1))+1 by lia]
   rfl
  ·rintro σ H' ⟨l,acc,o,rfl,_,e,_,rfl⟩;show N _ _;rw[hN];clear hN N;walk_at "rz";rw[LU] at e;rw[<- e] at q;exact q
theorem rY(n:Nat):bo (n:Int) (((bq n:Nat):Int)-1).toNat []=(dA n).tail:=by
 unfold dA
 cases e:bq n with
 |zero=>rfl
 |succ b =>
  obtain⟨d,ed⟩:=lG b (n:Int) [];rw[ed,show (((b+1:Nat):Int)-1).toNat=b by lia];rfl
def mX:Sp:=λvs H Q _=>∃(n:Nat),vs=[.int (n:Nat)]/\n<65536/\Q (.str (wd (dA n).tail)) H
theorem rP(T:Txt K mg)(F:HasFn K mg "figures_behind_first" bT ["number"])(hlast_figures:ao P w K mg base aS 1 "last_figures" ["number","many"] AQ):ao P w K mg base aS 2 "figures_behind_first" ["number"] mX:=by
 refine F.dR fm (λvs H Q E h=>?_) (λf cdv A outer s H vs Q E hr h=>?_)
 ·obtain⟨n,rfl,_⟩:=h;rfl
 ·have hu:=aN hr;obtain⟨n,rfl,hn,q⟩:=h;have hb:=iH hn;refine⟨_,(Z.az (Z.ret (Z.fc hlast_figures (Z.cons (Z.v 0) (Z.cons (Z.op cZ (Z.JR K rfl PySem.F.plainAttrs_int PySem.F.slot_int_bit_length PySem.F.type_int_bit_length Y.oV (Z.v 0)) Z.int) Z.nil))))),?_⟩;walk_at "rz";refine⟨rfl,?_⟩;refine⟨_,rfl,rfl,?_⟩;walk_at "rz";refine⟨_,_,rfl,?_,?_,?_⟩
  ·show (-1:Int)<=((bq n:Nat):Int)-1;lia
  ·show ((bq n:Nat):Int)-1<=40;lia
  ·show Q (.str (wd (bo (n:Int) (((bq n:Nat):Int)-1).toNat []))) H;rw[rY];exact q
def uU:Sp:=λvs H Q _=>∃(k:Nat) (d:Int),vs=[.int (k:Nat),.int d]/\k<3/\Q (.str (wd (cH k d))) H
theorem AB(T:Txt K mg)(F:HasFn K mg "jump_written" ee ["width","distance"])(hlast_figures:ao P w K mg base aS 1 "last_figures" ["number","many"] AQ):ao P w K mg base aS 2 "jump_written" ["width","distance"] uU:=by
 obtain⟨ah,hg_HEADS,kt_HEADS⟩:=T.nV;obtain⟨aw,hg_WIDTHS,kt_WIDTHS⟩:=T.lO;have hr_HEADS:RelV (.ref ah) (.ref ah):=rfl;have hr_WIDTHS:RelV (.ref aw) (.ref aw):=rfl;refine F.dR jC (λvs H Q E h=>?_) (λf cdv A outer s H vs Q E hr h=>?_)
 ·obtain⟨k,d,rfl,_⟩:=h;rfl
 ·have hu:=aN hr;obtain⟨k,d,rfl,hk,q⟩:=h;refine⟨_,(Z.az (Z.ret (Z.op (Z.aQ K rfl) (Z.ix (Z.gY K rfl) (Z.glob rfl hg_HEADS hr_HEADS) (Z.v 0)) (Z.fc hlast_figures (Z.cons (Z.v 1) (Z.cons (Z.ix (Z.gY K rfl) (Z.glob rfl hg_WIDTHS hr_WIDTHS) (Z.v 0)) Z.nil)))))),?_⟩;walk_at "rz";have p2:bC [V.str (Str.ofString "0"),.str (Str.ofString "10"),.str (Str.ofString "11")] (k:Int)=some (.str (wd (cy k))):=by
   rcases iB hk with rfl|rfl|rfl
   ·exact Lw (λz=>some (V.str z)) (by decide +kernel)
   ·exact Lw (λz=>some (V.str z)) (by decide +kernel)
   ·exact Lw (λz=>some (V.str z)) (by decide +kernel)
  have p3:bC [V.int 4,.int 8,.int 16] (k:Int)=some (.int ((ba k:Nat):Int)):=by rcases iB hk with rfl|rfl|rfl<;>rfl
  have p4:ba k<=16/\(cy k).length<=2:=by rcases iB hk with rfl|rfl|rfl<;>decide
  refine⟨ah,_,_,_,rfl,rfl,kt_HEADS H,p2,aw,_,_,_,rfl,rfl,kt_WIDTHS H,p3,_,_,rfl,by lia,by lia,?_⟩
  rw[Lg];walk_at "rz";rw[dF,aK,aK,dm];exact⟨KA (show _<=30 by simp;lia) (by decide),q⟩
theorem p7{X:Cx}{tk:Nat}{tp:Pos}{e1 e2:Expr}{ta:TA}{p pos:Pos}(K:W.Frag)(hK:X.K=K)(hg:Gl X "zip")(hm:X.mg "zip"=none)(ha:QA X [e1,e2] ta)(h1:autoParam (dY e1=true) ℜ0)(h2:autoParam (dY e2=true) ℜ0):QI X (.Tuple es tk tp) (.Call (.Name "zip" p) [e1,e2] [] pos) (y9 K ta):=by
 subst hK;exact⟨Bz hg hm ha.h h1 h2⟩
theorem gh(K:W.Frag)(ta:TA)(σ:L2.St)(H:Hp)(R:It->Hp->Prop):L2.y9 K ta σ H R=ta σ H λvs H1=>∃p q:Bool×Addr,vs=[V.ref p.2,V.ref q.2]/\(∃xs,hJ K p.1 H1 p.2 xs)/\(∃ys,hJ K q.1 H1 q.2 ys)/\∀n,R (Bs K (fh n [p,q])) H1:=rfl
theorem jm{g:TG}{tb:TS}{D:Ends}{k1 k2:Bool}{b:Addr}{n:Nat}(hxy:xs.length=ys.length)(Pv:Nat->L2.St->Hp->Prop)(h0:Pv 0 σ H)(hl:∀i σ H,Pv i σ H->hJ K k1 H a xs/\hJ K k2 H b ys)
  (hs:∀i x y σ H p,xs[i]?=some x->ys[i]?=some y->Pv i σ H->H p=none->g (.ref p) σ (upd H p (.tup [x,y])) λσ2 H2=>tb {D with nx:=Pv (i+1),ct:=Pv (i+1),bk:=D.nx} σ2 H2) (hd:∀σ H,Pv xs.length σ H->D.nx σ H):qP (Bs K (fh n [(k1,a),(k2,b)])) g tb D σ H:=by
 refine⟨λi m σ H=>m=xs.length-i/\i<=xs.length/\Pv i σ H,⟨xs.length,by simp,KW _,h0⟩,?_⟩
 rintro i m σ H ⟨rfl,hi,p⟩;obtain⟨q1,q2⟩:=hl i σ H p;by_cases hlt:i<xs.length
 ·have hl2:i<ys.length:=by lia
  refine .inr ⟨⟨[xs[i],ys[i]],.cons ⟨xs,q1,by simp[hlt]⟩ (.cons ⟨ys,q2,by simp[hl2]⟩ .nil)⟩,Pv (i+1),λσ' H' p'=>⟨xs.length-(i+1),by lia,rfl,hlt,p'⟩,λx H' z=>?_⟩
  obtain⟨c',vs,pr,fr,rfl,rfl⟩:=z;obtain⟨v1,vs,rfl,e1,pr⟩:=Paired.dI pr;obtain⟨v2,vs,rfl,e2,pr⟩:=Paired.dI pr;cases pr;exact hs i v1 v2 σ H c' (e1 xs q1) (e2 ys q2) p fr
 ·have e:i=xs.length:=by lia
  subst e;exact .inl ⟨⟨[],(k1,n,a),_,[],rfl,.nil,xs,q1,rfl⟩,hd σ H p⟩
def ye(H:Hp)(ps:List Addr)(l:List (Nat×Nat)):Prop:=ps.length=l.length/\∀(j:Nat) (q:Addr) (x:Nat×Nat),ps[j]?=some q->l[j]?=some x->H q=some (.tup [.int (x.1:Nat),.int (x.2:Nat)])
theorem ye.snoc{ps:List Addr}{l:List (Nat×Nat)}{x:Nat×Nat}(h:ye H ps l)(e:H q=some (.tup [.int (x.1:Nat),.int (x.2:Nat)])):ye H (ps++[q]) (l++[x]):=by
 refine⟨by rw[K6,K6,h.1];rfl,λi q' r' e1 e2=>?_⟩
 rcases LH i ps.length with hi|hi
 ·rw[Lj hi] at e1;rw[Lj (by rw[<- h.1];exact hi)] at e2
  exact h.2 i q' r' e1 e2
 ·have h1:=h.1;rw[Le hi] at e1;rw[Le (by lia),<- h1] at e2
  obtain⟨hj,rfl⟩:=K7.mp e1;obtain⟨hj2,rfl⟩:=K7.mp e2;have:i-ps.length=0:=by simp at hj;lia
  simp only[this,Mg];exact e
theorem ug(h:H D=some (.lst ys)):NT [D] H:=λb hb xs e=>by
 rw[KU.mp hb,h] at e;cases e
theorem ye.keep{ps:List Addr}{l:List (Nat×Nat)}(h:ye H ps l)(k:KB ex H H')(hx:NT ex H):ye H' ps l:=⟨h.1,λi q r e1 e2=>k _ _ (h.2 i q r e1 e2) λz=>hx q z _ (h.2 i q r e1 e2)⟩
theorem JF(x:V)(xs:List V):dQ (x::xs) (some 1) none=xs:=by
 unfold dQ;rw[HT.cY,show (some (1:Int))=some ((1:Nat):Int) from rfl,HT.cX];simp
theorem nX{x:V}(h:H a=some (.tup (x::xs)))(q:∀p,H p=none->Q (.ref p) (upd H p (.tup xs))):sh K (.ref a) (some 1) none H Q:=⟨a,x::xs,rfl,aX.of h,λz=>by
 have:=z.1;rw[show (some (1:Int))=some ((1:Nat):Int) from rfl,HT.cX] at this;simp at this,by rw[JF];exact q⟩
def la:Sp:=λvs H Q _=>∃(ra:Addr) (r:Row) (k:Nat),vs=[.ref ra]/\H ra=some (.tup r.vs)/\r.Ok k/\∀D ps H',H D=none->KB [] H H'->H' D=some (.lst (ps.map V.ref))->ye H' ps (cG r)->Q (.ref D) H'
theorem v_(T:Txt K mg)(F:HasFn K mg "coded_things" d_ ["row"]):ao P w K mg base aS 1 "coded_things" ["row"] la:=by
 obtain⟨u0,hg_OF_WORDS,hr_OF_WORDS⟩:=T.jV;obtain⟨u1,hg_OF_CLASSES,hr_OF_CLASSES⟩:=T.iP;obtain⟨u2,hg_OF_BOXES,hr_OF_BOXES⟩:=T.lh;obtain⟨aB,hg_BOXES,sB⟩:=T.tW;have hr_BOXES:RelV (.ref aB) (.ref aB):=rfl;obtain⟨_,oB,hmB,hoB,hdB⟩:=T.BU;rw[hg_BOXES] at hmB;cases hmB;have tyB:∀H,GX K "tuple" (.ref aB) H:=λH=>.inr (.inl ⟨rfl,oB,hoB,by
  rcases sB (λ_=>none) with h|⟨o,_,_,h1,h2,_⟩
  ·rcases h with h|⟨_,h⟩
   ·cases h
   ·cases h
  ·rw[hoB] at h1;cases h1;exact h2,hdB⟩)
 obtain⟨dS,hg_SHAPES,hd0⟩:=T.lR;have hd_SHAPES:kx K dS bO:=hd0;have hr_SHAPES:RelV (.ref dS) (.ref dS):=rfl;refine F.dR cL (λvs H Q E h=>?_) (λf cdv A outer s H vs Q E hr h=>?_)
 ·obtain⟨ra,r,k,rfl,_⟩:=h;rfl
 ·have hu:=aN hr;obtain⟨ra,r,k,rfl,hra,bg,q⟩:=h;refine⟨_,(Z.aq (Z.se (i:=1) cL.nd (Z.lst (Z.cons (Z.tup (Z.cons (Z.glob rfl hg_OF_WORDS hr_OF_WORDS) (Z.cons (Z.bm K rfl PySem.F.plainAttrs_list PySem.F.slot_list_index PySem.F.type_list_index Y.uu (Z.ct (lC (D:=bO) K rfl rfl) rfl T.rH (by decide +kernel) (Z.cons (Z.glob rfl hg_SHAPES hr_SHAPES) Z.nil)) (Z.cons (Z.ix (Z.aF K rfl hu) (Z.v 0) Z.int) Z.nil)) Z.nil))) Z.nil)))
   (Z.aq (Z.dO Lm rfl (p7 K rfl rfl T.mE (Z.cons (Z.Jk K rfl rfl hg_SHAPES hd_SHAPES (Z.ix (Z.aF K rfl hu) (Z.v 0) Z.int)) (Z.cons (Z.slice (Z.ze K rfl) (Z.v 0) (Z.oW Z.int) Z.t9) Z.nil))) (Z.gQ (n:=2) K rfl rfl (Z.aZ (Z.aG (i:=2) cL.nd rfl (by right)) (Z.aZ (Z.aG (i:=3) cL.nd rfl (by right)) Z.dJ))) (Z.az (Z.dW (Z.bp cc (Z.v 2) Z.str) (Z.az (Z.expr (Z.app K (Z.v 1) (Z.cons (Z.tup (Z.cons (Z.glob rfl hg_OF_BOXES hr_OF_BOXES) (Z.cons (Z.bm K rfl PySem.F.plainAttrs_tuple PySem.F.slot_tuple_index PySem.F.type_tuple_index (FX (X:=_)) (Z.glob rfl hg_BOXES hr_BOXES) (Z.cons (Z.v 3) Z.nil)) Z.nil))) Z.nil)))) (Z.az (Z.dW (Z.bp cc (Z.v 2) Z.str) (Z.az (Z.expr (Z.app K (Z.v 1) (Z.cons (Z.tup (Z.cons (Z.glob rfl hg_OF_CLASSES hr_OF_CLASSES) (Z.cons (Z.JR K rfl PySem.F.plainAttrs_int PySem.F.slot_int_bit_length PySem.F.type_int_bit_length Y.oV (Z.v 3)) Z.nil))) Z.nil)))) Z.bB)))))
   (Z.az (Z.ret (Z.v 1))))),?_⟩
  have a0:bC r.vs 0=some (.str r.wd):=by cases r<;>rfl
  refine ar λN hN=>?_;exists aC hra,a0;refine⟨dS,rfl,hd_SHAPES,by decide,λl hl=>?_⟩
  have k1:=KB.new (ex:=[]) (o:=.lst (bO.map λp=>V.str p.1)) hl;have s1:upd H l (.lst (bO.map λp=>V.str p.1)) l=some (.lst (bO.map λp=>V.str p.1)):=aa;generalize upd H l (.lst (bO.map λp=>V.str p.1))=H1 at *;refine⟨.inl ⟨rfl,_,a_.of s1⟩,?_⟩;have hra1:=k1 _ _ hra (by simp)
  exists aC hra1,a0;refine⟨l,bP,r.wd,r.wi,rfl,s1,rfl,(uX r).1,(uX r).2,⟨by decide,λp1 hp1=>⟨by decide,λD hD=>?_⟩⟩⟩
  have kp1:=KB.new (ex:=[]) (o:=.tup [.int 0,.int (r.wi:Nat)]) hp1;have sp1:upd H1 p1 (.tup [.int 0,.int (r.wi:Nat)]) p1=_:=aa;generalize upd H1 p1 (.tup [.int 0,.int (r.wi:Nat)])=H2 at *;have kD:=KB.new (ex:=[]) (o:=.lst [.ref p1]) hD;have sD:upd H2 D (.lst [.ref p1]) D=some (.lst ([p1].map V.ref)):=aa;generalize upd H2 D (.lst [.ref p1])=H3 at *;have hDH:H D=none:=(k1.trans kp1).free (by simp) hD
  have th3:ye H3 [p1] [(0,r.wi)]:=⟨rfl,λj q x e1 e2=>by
   have hj:j<1:=(K7.mp e1).1;obtain rfl:j=0:=by lia
   cases e1;cases e2
   exact kD _ _ sp1 (by simp)⟩
  have k03:=(k1.trans kp1).trans kD;rw[hN];clear hN N;clear sp1 hp1 s1 hl hD hra1;refine ar λN hN=>?_;have hra3:=k03 _ _ hra (by simp)
  exists gh,aC hra3,a0;refine⟨_,_,rfl,xp r,λpk kt=>?_⟩;rw[Row.DW] at hra3;refine nX hra3 λtl htl=>?_;have kt3:=KB.new (ex:=[]) (o:=.tup (r.dy.map Pk.v)) htl;have st3:upd H3 tl (.tup (r.dy.map Pk.v)) tl=_:=aa;generalize upd H3 tl (.tup (r.dy.map Pk.v))=H4 at *;have k04:=k03.trans kt3;have ktq:∀G:Hp,aX K G pk ((r.dy.map Pk.kd).map V.str):=λG=>.inr kt;refine⟨(false,pk),(false,tl),⟨rfl,rfl⟩,⟨_,ktq _⟩,⟨_,aX.of st3⟩,λn=>?_⟩;refine jm (xs:=(r.dy.map Pk.kd).map V.str) (ys:=r.dy.map Pk.v) (by rw[K2,K2,K2]) (λi σ H'=>∃(ps:List Addr) (o2 o3:Option V),i<=r.dy.length/\KB [] H H'/\H' tl=some (.tup (r.dy.map Pk.v))/\H' D=some (.lst (ps.map V.ref))/\ye H' ps ((0,r.wi)::(r.dy.take i).flatMap Pk.qh)/\σ=[some (.ref ra),some (.ref D),o2,o3]) ⟨[p1],none,none,KW _,k04,st3,kt3 _ _ sD (by simp),th3.keep kt3 (NT.nil _),rfl⟩ (λi σ H' h=>by obtain⟨_,_,_,_,_,h1,_⟩:=h;exact⟨ktq _,aX.of h1⟩) ?_ ?_
  ·rintro i x y σ H' z hx hy ⟨ps,o2,o3,hi,hk,h1,h2,h3,rfl⟩ hz;have hlt:i<r.dy.length:=by have:=(K7.mp hy).1;rw[K2] at this;exact this
   have ep:=K1 hlt;have pok:=Row.t7 bg _ (KZ hlt);have et:(r.dy.take (i+1)).flatMap Pk.qh=(r.dy.take i).flatMap Pk.qh++(r.dy[i]).qh:=by rw[L8,ep,List.flatMap_append];simp
   rw[K8,K8,ep] at hx;rw[K8,ep] at hy;generalize r.dy[i]=pt at *
   cases hx;cases hy
   unfold aL;refine⟨z,_,rfl,aX.of aa,rfl,_,_,rfl,_,_,rfl,rfl,?_⟩;have kz:=KB.new (ex:=[]) (o:=.tup [.str pt.kd,pt.v]) hz;generalize upd H' z (.tup [.str pt.kd,pt.v])=H5 at *;have hk5:=hk.trans kz;have h15:=kz _ _ h1 (by simp)
   have h25:=kz _ _ h2 (by simp)
   have h35:=h3.keep kz (NT.nil _);dsimp only;refine jN λM hM=>?_;have psl:ps.length<=4:=by
    have e:=h3.1;rw[e];have c:=oi r;unfold cG at c;rw[KQ] at c ⊢;have:((r.dy.take i).flatMap Pk.qh).length<=(r.dy.flatMap Pk.qh).length:=by
     rw[<- LI i r.dy,List.flatMap_append,K6,LI];exact Nat.le_add_right _ _
    lia
   have fin:∀(u v:Nat) (G:Hp) (t:Addr),pt.qh=[(u,v)]->KB [] H5 G->G t=none->M [some (.ref ra),some (.ref D),some (.str pt.kd),some pt.v] (upd (upd G t (.tup [.int (u:Nat),.int (v:Nat)])) D (.lst (ps.map V.ref++[.ref t]))):=λu v G t ec kG ht=>by
    rw[hM];have kt':=KB.new (ex:=[]) (o:=.tup [.int (u:Nat),.int (v:Nat)]) ht;have st':upd G t (.tup [.int (u:Nat),.int (v:Nat)]) t=some (.tup [.int (u:Nat),.int (v:Nat)]):=aa;generalize upd G t (.tup [.int (u:Nat),.int (v:Nat)])=G2 at *;have k52:=kG.trans kt';have hD2:=k52 _ _ h25 (by simp)
    have nt:=ug hD2;refine⟨ps++[t],_,_,hlt,λb o e _=>by rw[af (ae e hDH)];exact k52 _ _ (hk5 _ _ e (by simp)) (by simp),by rw[af (λz=>by rw[z] at h15;rw[h25] at h15;cases h15)];exact k52 _ _ h15 (by simp),by rw[aa,KN];rfl,?_,rfl⟩
    rw[et,ec,<- Me];exact ((h35.keep k52 (NT.nil _)).snoc (q:=t) (x:=(u,v)) st').keep (KB.set (ex:=[D]) (by simp)) nt
   cases pt with
   |box b =>
    obtain⟨e1,e2⟩:=xY (b:=b) pok;walk_at "rz";rw[KO (show (Pk.box b).kd=Str.ofString "box" from rfl)];refine⟨.inl ⟨rfl,_,a_.of h25⟩,tyB _,aB,GW,e9 b,b,rfl,sB _,rfl,e1,e2,by decide,λt ht=>?_⟩
    have h26:upd H5 t (.tup [.int 2,.int (b:Nat)]) D=some (.lst (ps.map V.ref)):=by rw[af (ae h25 ht)];exact h25
    exact⟨D,_,_,rfl,rfl,h26,LG (show _<=10 by rw[K2];lia) (by decide),fin 2 b H5 t rfl (KB.refl _ _) ht⟩
   |num n =>
    walk_at "rz";rw[KJ (show ¬ (Pk.num n).kd=Str.ofString "box" from (by decide +kernel:¬ Str.ofString "number"=Str.ofString "box")),KO (show (Pk.num n).kd=Str.ofString "number" from rfl)]
    refine⟨.inl ⟨rfl,_,a_.of h25⟩,rfl,(n:Int),rfl,rfl,by decide,λt ht=>?_⟩
    have h26:upd H5 t (.tup [.int 1,.int (bq n:Nat)]) D=some (.lst (ps.map V.ref)):=by rw[af (ae h25 ht)];exact h25
    exact⟨D,_,_,rfl,rfl,h26,LG (show _<=10 by rw[K2];lia) (by decide),fin 1 (bq n) H5 t rfl (KB.refl _ _) ht⟩
   |goal g =>
    walk_at "rz";rw[KJ (show ¬ (Pk.goal g).kd=Str.ofString "box" from (by decide +kernel:¬ Str.ofString "goal"=Str.ofString "box")),KJ (show ¬ (Pk.goal g).kd=Str.ofString "number" from (by decide +kernel:¬ Str.ofString "goal"=Str.ofString "number"))]
    rw[hM];exact⟨ps,_,_,hlt,hk5,h15,h25,by rw[et];show ye H5 ps ((0,r.wi)::((r.dy.take i).flatMap Pk.qh++[]));rw[LF];exact h35,rfl⟩
  ·rintro σ H' ⟨ps,o2,o3,hi,hk,h1,h2,h3,rfl⟩;show N _ _;rw[hN];clear hN N;walk_at "rz";refine q D ps H' hDH hk h2 ?_;rw[K2,K2,Lz] at h3;exact h3
theorem qo(hn:xs.length<=sizeLine)(Pv:Addr->Nat->List V->Hp->Prop)(h0:∀D,H D=none->Pv D 0 [] (upd H D (.lst [])))(hD:∀D i ys H',Pv D i ys H'->H' D=some (.lst ys)/\ys.length=i)
  (hl:∀D i ys H',Pv D i ys H'->a_ K H' a xs)
  (hs:∀D i ys H' x,xs[i]?=some x->Pv D i ys H'->∃q u v,x=.ref q/\H' q=some (.tup [u,v])/\∀R:VK,(∀v H5,H5 D=some (.lst ys)->Pv D (i+1) (ys++[v]) (upd H5 D (.lst (ys++[v])))->R v H5)->te (some u::some v::σ) H' R) (hd:∀D ys H',Pv D xs.length ys H'->Q (.ref D) H') :
  gU (xB K a) 2 (kB K 2 (d9 (aL 0) (d9 (aL 1) jP))) dh te Q σ H:=by
 intro D hD0;refine⟨λi m ys σ' H'=>m=xs.length-i/\i<=xs.length/\Pv D i ys H'/\∃o1 o2,σ'=o1::o2::σ,⟨xs.length,by simp,KW _,h0 D hD0,none,none,rfl⟩,?_⟩
 rintro i m ys σ' H' ⟨rfl,hi,p,o1,o2,rfl⟩;obtain⟨hDi,hly⟩:=hD _ _ _ _ p;have q:=hl _ _ _ _ p;refine⟨hDi,?_⟩;by_cases hlt:i<xs.length
 ·refine .inr ⟨⟨xs,xs[i],q,by simp[hlt]⟩,by lia,λx H2 y=>?_⟩
  obtain⟨rfl,y⟩:=y;obtain⟨t,u,v,rfl,ht,h⟩:=hs D i ys H2 x (y xs q) p;refine⟨t,[u,v],rfl,aX.of ht,rfl,u,[v],rfl,v,[],rfl,rfl,?_⟩;unfold dh;dsimp only;rw[if_pos rfl];exact h _ λv H5 q1 q2=>⟨q1,xs.length-(i+1),by lia,rfl,hlt,q2,_,_,rfl⟩
 ·have e:i=xs.length:=by lia
  subst e;exact .inl ⟨⟨xs,q,KH _⟩,hd D ys H' p⟩
def vf(K:W.Frag):Sp:=λvs H Q _=>∃(ra ca:Addr) (r:Row) (k:Nat) (cd:List (List (List Nat))),vs=[.ref ra,.ref ca]/\H ra=some (.tup r.vs)/\r.Ok k/\xS H ca cd/\Cd cd/\∀H',KB [] H H'->Q (.str (wd (bf cd r))) H'
theorem zi(T:Txt K mg)(F:HasFn K mg "bits_ahead_of_goal" bJ ["row","codes"])(hcoded_things:ao P w K mg base aS 1 "coded_things" ["row"] la)(hfigures_behind_first:ao P w K mg base aS 2 "figures_behind_first" ["number"] mX):ao P w K mg base aS 3 "bits_ahead_of_goal" ["row","codes"] (vf K):=by
 refine F.dR de (λvs H Q E h=>?_) (λf cdv A outer s H vs Q E hr h=>?_)
 ·obtain⟨ra,ca,r,k,cd,rfl,_⟩:=h;rfl
 ·have hu:=aN hr;obtain⟨ra,ca,r,k,cd,rfl,hra,bg,fR,hC,q⟩:=h;refine⟨_,(Z.aq (Z.se (i:=2) de.nd (Z.bm K rfl PySem.F.plainAttrs_str PySem.F.slot_str_join PySem.F.type_str_join (Z.yB K rfl) Z.str (Z.cons (Z.o_ (osc:=ab bJ) (ON:=["row","codes","bits"]) (own:=["which","thing"]) (N:=["which","thing","row","codes","bits"]) (aA.of rfl (by decide +kernel)) (Z.any K rfl (Z.fc hcoded_things (Z.cons (Z.v 0) Z.nil))) (λnd _ _ _ _=>(Z.gQ (n:=2) K rfl rfl (Z.aZ (Z.aG (i:=0) nd rfl (by right)) (Z.aZ (Z.aG (i:=1) nd rfl (by right)) Z.dJ)))) (λ_ _ _ _=>Z.jA) (λ_ _ _ _=>(Z.ix (Z.aF K rfl hu) (Z.ix (Z.aF K rfl hu) (Z.v 3) (Z.v 0)) (Z.v 1)))) Z.nil)))
   (Z.az (Z.ret (Z.ER (Z.bp cc (Z.ix (Z.aF K rfl hu) (Z.v 0) Z.int) Z.str) (Z.op (Z.aQ K rfl) (Z.v 2) (Z.fc hfigures_behind_first (Z.cons (Z.ix (Z.aF K rfl hu) (Z.v 0) (Z.un cP Z.int)) Z.nil))) (Z.v 2))))),?_⟩
  have a0:bC r.vs 0=some (.str r.wd):=by cases r<;>rfl
  refine ar λN hN=>?_;walk_at "rz";refine⟨rfl,ra,r,k,rfl,hra,bg,λD ps H1 hD k1 hD1 th=>?_⟩;exists au hD1;have hcd1:xS H1 ca cd:=fR.keep k1 (by simp) (λb hb=>nomatch hb)
  have thl:=th.1;have cl:=oi r;refine qo (xs:=ps.map V.ref) (KA (show _<=3 by rw[K2];lia) (by decide)) (λL i ys H'=>H1 L=none/\H' L=some (.lst ys)/\KB [] H1 H'/\i<=(cG r).length/\ys=(((cG r).take i).map λp=>wd (aM cd p)).map V.str) (λL hL=>⟨hL,aa,KB.new hL,KW _,rfl⟩) (λL i ys H' h=>⟨h.2.1,by rw[h.2.2.2.2,K2,K2,K_];have:=h.2.2.2.1;lia⟩) (λL i ys H' h=>a_.of (h.2.2.1 _ _ hD1 (by simp))) ?_ ?_
  ·rintro L i ys H' x hx ⟨g0,g1,gk,hi,rfl⟩;obtain⟨c,ec,rfl⟩:∃c,ps[i]?=some c/\x=.ref c:=by
    rw[K8] at hx;obtain⟨c,e,rfl⟩:=Lc.mp hx;exact⟨c,e,rfl⟩
   have hlt:i<(cG r).length:=by have:=(K7.mp ec).1;lia
   have er:=K1 hlt;have et:(cG r).take (i+1)=(cG r).take i++[(cG r)[i]]:=by rw[L8,er];rfl
   have hc:=gk _ _ (th.2 i c _ ec er) (by simp)
   have ck:=sQ bg _ (KZ hlt);generalize (cG r)[i]=pr at *;refine⟨c,_,_,rfl,hc,λR kk=>?_⟩;have g:=hC.at ck;obtain⟨a0',a1',a2',y1,y2,y3,y4⟩:=hcd1;have y1':=gk _ _ y1 (by simp)
   obtain⟨ai,e1,e2⟩:∃ai,bC [V.ref a0',.ref a1',.ref a2'] (pr.1:Int)=some (.ref ai)/\H' ai=some (.tup (wV (cd.getD pr.1 []))):=by
    rcases ck with ⟨h,_⟩|⟨h,_⟩|⟨h,_⟩<;>rw[h]
    ·exact⟨a0',rfl,gk _ _ y2 (by simp)⟩
    ·exact⟨a1',rfl,gk _ _ y3 (by simp)⟩
    ·exact⟨a2',rfl,gk _ _ y4 (by simp)⟩
   have e3:bC (wV (cd.getD pr.1 [])) (pr.2:Int)=some (.str (wd (aM cd pr))):=aR (by unfold wV;rw[K8,g.2.1];rfl)
   exists au y1',e1,aC e2,e3;exact kk _ _ g1 ⟨g0,aa,λu o e _=>by rw[af (ae e g0)];exact gk _ _ e (by simp),hlt,by rw[et,KN,KN];rfl⟩
  rintro L ys H2 ⟨_,gL,k2,_,rfl⟩;rw[K2,thl,Lz] at gL;have k02:=k1.trans k2;have hl:=qa hC bg;have e1:((cG r).map λp=>wd (aM cd p))=((cG r).map (aM cd)).map wd:=by rw[LM];rfl
  have e2:(((cG r).map λp=>wd (aM cd p)).map λx=>x.length).sum=((cG r).flatMap (aM cd)).length:=by
   rw[List.length_flatMap,LM];rfl
  refine⟨_,L,_,rfl,rfl,a_.of gL,?_,?_⟩
  ·rw[e2,show (Str.ofString "").length=0 from by decide +kernel];lia
  rw[e1,oA,<- List.flatMap_def];rw[hN];clear hN N;have hra2:=k02 _ _ hra (by simp)
  exists aC hra2,a0;have hh:bf cd r=(cG r).flatMap (aM cd)++fU r:=rfl;have qq:=q H2 k02;rw[hh] at qq;generalize (cG r).flatMap (aM cd)=y at *;by_cases hp:r.wd=Str.ofString "put"
  ·obtain⟨b,n,rfl⟩:∃b n,r=.put b n:=by
    cases r with
    |put b n=>exact⟨b,n,rfl⟩
    |two u b c=>exact absurd hp ((by decide +kernel:∀u,¬ w2 u=Str.ofString "put") u)
    |one u b=>exact absurd hp ((by decide +kernel:∀u,¬ w1 u=Str.ofString "put") u)
    |jump g=>exact absurd hp (show ¬ Str.ofString "jump"=Str.ofString "put" from by decide +kernel)
    |zero b g=>exact absurd hp (show ¬ Str.ofString "zero"=Str.ofString "put" from by decide +kernel)
    |halt=>exact absurd hp (show ¬ Str.ofString "halt"=Str.ofString "put" from by decide +kernel)
   rw[KO hp];refine⟨n,rfl,bg.2,?_⟩;walk_at "rz";rw[dF,aK,aK];exact⟨KA (show _<=200 by have:=hl.2;show y.length+(fU (.put b n)).length<=200;lia) (by decide),qq⟩
  ·rw[KJ hp];have et:fU r=[]:=by cases r<;>first|rfl|exact absurd rfl hp
   rw[et,LF] at qq;exact qq
noncomputable def xw:Option Nat->Nat->V
 |none,_=>.aO
 |some _,w=>.int (w:Nat)
def ij(gs:List (Option Nat))(ws:List Nat):List V:=List.zipWith xw gs ws
theorem zP(h:ws.length=gs.length):(ij gs ws).length=gs.length:=by unfold ij;rw[List.length_zipWith];lia
theorem nE{w:Nat}(h1:gs[i]?=some g)(h2:ws[i]?=some w):(ij gs ws)[i]?=some (xw g w):=by
 unfold ij;rw[List.getElem?_zipWith,h1,h2]
def DL:Sp:=λvs H Q _=>∃(g:Option Nat) (w:Nat),vs=[xw g w]/\w<3/\Q (.int (addW g w:Nat)) H
theorem FF(T:Txt K mg)(F:HasFn K mg "own_part" iw ["width"]):ao P w K mg base aS 1 "own_part" ["width"] DL:=by
 obtain⟨ah,hg_HEADS,kt_HEADS⟩:=T.nV;obtain⟨aw,hg_WIDTHS,kt_WIDTHS⟩:=T.lO;have hr_HEADS:RelV (.ref ah) (.ref ah):=rfl;have hr_WIDTHS:RelV (.ref aw) (.ref aw):=rfl;refine F.dR p9 (λvs H Q E h=>?_) (λf cdv A outer s H vs Q E hr h=>?_)
 ·obtain⟨g,w,rfl,_⟩:=h;rfl
 ·have hu:=aN hr;obtain⟨g,k,rfl,hk,q⟩:=h;refine⟨_,(Z.az (Z.ret (Z.ER (Z.bp dC (Z.v 0) Z.aO) Z.int (Z.op (Z.aQ K rfl) (Z.cb (Z.cx K rfl) rfl T.cp (by decide +kernel) (Z.cons (Z.ix (Z.gY K rfl) (Z.glob rfl hg_HEADS hr_HEADS) (Z.v 0)) Z.nil)) (Z.ix (Z.gY K rfl) (Z.glob rfl hg_WIDTHS hr_WIDTHS) (Z.v 0)))))),?_⟩
  cases g with
  |none =>
   unfold xw;walk_at "rz";exact q
  |some t =>
   have p2:bC [V.str (Str.ofString "0"),.str (Str.ofString "10"),.str (Str.ofString "11")] (k:Int)=some (.str (wd (cy k))):=by
    rcases iB hk with rfl|rfl|rfl
    ·exact Lw (λz=>some (V.str z)) (by decide +kernel)
    ·exact Lw (λz=>some (V.str z)) (by decide +kernel)
    ·exact Lw (λz=>some (V.str z)) (by decide +kernel)
   have p3:bC [V.int 4,.int 8,.int 16] (k:Int)=some (.int ((ba k:Nat):Int)):=by rcases iB hk with rfl|rfl|rfl<;>rfl
   unfold xw;walk_at "rz";rw[KJ (show ¬ V.int (k:Nat)=V.aO from λz=>nomatch z)];refine⟨ah,_,_,_,rfl,rfl,kt_HEADS H,p2,?_⟩;walk_at "rz";rw[aK];refine⟨KA (show (cy k).length<=2 by rcases iB hk with rfl|rfl|rfl<;>decide) (by decide),aw,_,_,_,rfl,rfl,kt_WIDTHS H,p3,?_⟩
   walk_at "rz";rw[show ((cy k).length:Int)+(ba k:Nat)=((addW (some t) k:Nat):Int) by rcases iB hk with rfl|rfl|rfl<;>rfl]
   exact q
theorem v7{l:List Nat}{v:V}(h:(iV (nZ l))[i]?=some v):∃x:Nat,l[i]?=some x/\v=.int (x:Nat):=by
 unfold iV nZ at h;rw[LM,K8] at h;obtain⟨x,e,rfl⟩:=Lc.mp h;exact⟨x,e,rfl⟩
theorem eR(l:List Nat):(iV (nZ l)).length=l.length:=by rw[bj,cf]
theorem s_{l:List Nat}(h:i<l.length):bC (iV (nZ l)) (i:Int)=some (.int ((l.getD i 0:Nat):Int)):=aR (by unfold iV nZ;rw[LM,K8,K1 h,KD,K1 h];rfl)
theorem Ct{l:List Nat}(h:i<l.length):bC (iV (nZ (l.take (i+1)))) (-1)=some (.int ((l.getD i 0:Nat):Int)):=by
 have hi2:(l.take (i+1)).length=i+1:=by rw[K_];lia
 unfold bC iF;rw[KJ (by decide),KO (by rw[eR,hi2];lia),eR,hi2,show -1+((i+1:Nat):Int)=(i:Int) by lia]
 show (iV (nZ (l.take (i+1))))[((i:Nat):Int).toNat]?=_;rw[Lg];unfold iV nZ;rw[LM,K8,NL (Ot i),K1 h,KD,K1 h];rfl
def ki(K:W.Frag):Sp:=λvs H Q _=>∃(a b:Addr) (k:Bool) (ss:List Nat) (gs:List (Option Nat)) (ws:List Nat),vs=[.ref a,.ref b]/\H a=some (.lst (iV (nZ ss)))/\hJ K k H b (ij gs ws)/\(∀H',KB [] H H'->hJ K k H' b (ij gs ws))/\gs.length=ss.length/\ws.length=ss.length/\ss.length<=64/\(∀w∈ws,w<3)/\∀d H',H d=none->KB [] H H'->H' d=some (.lst (iV (nZ (df 0 ss gs ws))))->Q (.ref d) H'
theorem wb(T:Txt K mg)(F:HasFn K mg "row_starts" fK ["sizes","widths"])(hown_part:ao P w K mg base aS 1 "own_part" ["width"] DL):ao P w K mg base aS 2 "row_starts" ["sizes","widths"] (ki K):=by
 refine F.dR d5 (λvs H Q E h=>?_) (λf cdv A outer s H vs Q E hr h=>?_)
 ·obtain⟨a,b,k,ss,gs,ws,rfl,_⟩:=h;rfl
 ·have hu:=aN hr;obtain⟨a,b,k,ss,gs,ws,rfl,ha,hb,hbk,h1,h2,h3,h4,q⟩:=h;have hl:=fM ss gs ws 0 h1 h2;have hat:=lM ss gs ws 0;obtain⟨l0,e0⟩:=gu 0 ss gs ws;refine⟨_,(Z.aq (Z.se (i:=2) d5.nd (Z.lst (Z.cons Z.int Z.nil)))
   (Z.aq (Z.dO Lm rfl (p7 K rfl rfl T.mE (Z.cons (Z.v 0) (Z.cons (Z.v 1) Z.nil))) (Z.gQ (n:=2) K rfl rfl (Z.aZ (Z.aG (i:=3) d5.nd rfl (by right)) (Z.aZ (Z.aG (i:=4) d5.nd rfl (by right)) Z.dJ))) (Z.az (Z.expr (Z.app K (Z.v 2) (Z.cons (Z.op (Z.aQ K rfl) (Z.op (Z.aQ K rfl) (Z.ix (Z.aF K rfl hu) (Z.v 2) (Z.un cP Z.int)) (Z.v 3)) (Z.fc hown_part (Z.cons (Z.v 4) Z.nil))) Z.nil)))))
   (Z.az (Z.ret (Z.v 2))))),?_⟩
  generalize jH:df 0 ss gs ws=sp at *;refine ar λN hN=>?_;walk_at "rz";refine⟨by decide,λfd hfd=>?_⟩
  have k1:=KB.new (ex:=[]) (o:=.lst [.int 0]) hfd;have s1:upd H fd (.lst [.int 0]) fd=some (.lst (iV (nZ (sp.take 1)))):=by rw[aa,e0];rfl
  generalize upd H fd (.lst [.int 0])=H1 at *;rw[hN];clear hN N;refine ar λN hN=>?_;exists gh;refine⟨(true,a),(k,b),⟨rfl,rfl⟩,⟨_,a_.of (k1 _ _ ha (by simp))⟩,⟨_,hbk _ k1⟩,λn=>?_⟩
  refine jm (xs:=iV (nZ ss)) (ys:=ij gs ws) (by rw[eR,zP (by lia),h1]) (λi σ H'=>∃o3 o4:Option V,i<=ss.length/\KB [] H H'/\H' fd=some (.lst (iV (nZ (sp.take (i+1)))))/\σ=[some (.ref a),some (.ref b),some (.ref fd),o3,o4]) ⟨none,none,KW _,k1,s1,rfl⟩ (λi σ H' ⟨_,_,_,k,_⟩=>⟨a_.of (k _ _ ha (by simp)),hbk _ k⟩) ?_ ?_
  ·rintro i x y σ H' p hx hy ⟨o3,o4,hi,hk,gf,rfl⟩ hp;obtain⟨s0,es,rfl⟩:=v7 hx;have hlt:i<ss.length:=(K7.mp es).1;have eg:=K1 (show i<gs.length by lia)
   have ew:=K1 (show i<ws.length by lia)
   have lw:=h4 _ (KZ (show i<ws.length by lia))
   generalize gs[i]'_=g at eg;generalize ws[i]'_=w0 at ew lw;have en:=hat i s0 g w0 es eg ew;rw[nE eg ew] at hy;cases hy;unfold aL;refine⟨p,_,rfl,aX.of aa,rfl,_,_,rfl,_,_,rfl,rfl,?_⟩;have k2:=hk.trans (KB.new (o:=.tup [.int (s0:Nat),xw g w0]) hp);have gf2:upd H' p (.tup [.int (s0:Nat),xw g w0]) fd=some (.lst (iV (nZ (sp.take (i+1))))):=by rw[af (ae gf hp)];exact gf
   generalize upd H' p (.tup [.int (s0:Nat),xw g w0])=H2 at *;have et:sp.take (i+1+1)=sp.take (i+1)++[sp.getD (i+1) 0]:=by
    rw[L8,KD,K1 (show i+1<sp.length by lia)];rfl
   have lst:=Ct (l:=sp) (i:=i) (by lia)
   dsimp only;refine jN λM hM=>?_;exists au gf2,lst;refine⟨.inl ⟨rfl,_,a_.of gf2⟩,g,w0,rfl,lw,?_⟩;walk_at "rz";refine⟨fd,_,_,rfl,rfl,gf2,Nat.lt_of_le_of_lt (show _<=1000 by rw[eR,List.length_take];lia) (by decide),?_⟩
   rw[hM];refine⟨_,_,hlt,λu o e _=>by rw[af (ae e hfd)];exact k2 _ _ e (by simp),?_,rfl⟩
   rw[aa,et,en];unfold nZ;rw[KN,f9];rfl
  ·rintro σ H' ⟨o3,o4,hi,hk,gf,rfl⟩;show N _ _;rw[hN];clear hN N;walk_at "rz";rw[L9 (by rw[hl,eR];exact KH _)] at gf
   exact q fd H' hfd hk gf
def rK:Sp:=λvs H Q _=>∃(a b:Addr) (sp:List Nat) (gs:List (Option Nat)) (k t:Nat),vs=[.ref a,.ref b,.int (k:Nat)]/\H a=some (.lst (iV (nZ sp)))/\H b=some (.lst (gs.map aT))/\gs[k]?=some (some t)/\t<sp.length/\k+1<sp.length/\Q (.int (bU sp t k)) H
theorem Dz(T:Txt K mg)(F:HasFn K mg "distance_of" fe ["starts","goals","row"]):ao P w K mg base aS 1 "distance_of" ["starts","goals","row"] rK:=by
 refine F.dR lU (λvs H Q E h=>?_) (λf cdv A outer s H vs Q E hr h=>?_)
 ·obtain⟨a,b,sp,gs,k,t,rfl,_⟩:=h;rfl
 ·have hu:=aN hr;obtain⟨a,b,sp,gs,k,t,rfl,ha,hb,hg,ht,hk,q⟩:=h;refine⟨_,(Z.az (Z.ret (Z.op cZ (Z.ix (Z.aF K rfl hu) (Z.v 0) (Z.ix (Z.aF K rfl hu) (Z.v 1) (Z.v 2))) (Z.ix (Z.aF K rfl hu) (Z.v 0) (Z.op (Z.aQ K rfl) (Z.v 2) Z.int))))),?_⟩;have ag:bC (gs.map aT) (k:Int)=some (.int (t:Nat)):=aR (by rw[K8,hg];rfl)
  have as1:=s_ ht;have as2:bC (iV (nZ sp)) ((k:Int)+1)=some (.int ((sp.getD (k+1) 0:Nat):Int)):=s_ hk;exists au hb,ag,au ha,as1,as2;exact q
def yE:Sp:=λvs H Q _=>∃(a b c:Addr) (sp:List Nat) (gs:List (Option Nat)) (ws:List Nat) (k t w:Nat),vs=[.ref a,.ref b,.ref c,.int (k:Nat)]/\H a=some (.lst (iV (nZ sp)))/\H b=some (.lst (gs.map aT))/\H c=some (.lst (ij gs ws))/\gs[k]?=some (some t)/\ws[k]?=some w/\w<3/\t<sp.length/\k+1<sp.length/\Q (.bl (kN w (bU sp t k))) H
theorem B2(T:Txt K mg)(F:HasFn K mg "fits" rO ["starts","goals","widths","row"])(hdistance_of:ao P w K mg base aS 1 "distance_of" ["starts","goals","row"] rK):ao P w K mg base aS 2 "fits" ["starts","goals","widths","row"] yE:=by
 obtain⟨ah,hg_HALVES,kt_HALVES⟩:=T.p5;have hr_HALVES:RelV (.ref ah) (.ref ah):=rfl;refine F.dR vz (λvs H Q E h=>?_) (λf cdv A outer s H vs Q E hr h=>?_)
 ·obtain⟨a,b,c,sp,gs,ws,k,t,w,rfl,_⟩:=h;rfl
 ·have hu:=aN hr;obtain⟨a,b,c,sp,gs,ws,k,t,w0,rfl,ha,hb,hc,hg,hw,lw,ht,hk,q⟩:=h;refine⟨_,(Z.aq (Z.se (i:=4) vz.nd (Z.ix (Z.gY K rfl) (Z.glob rfl hg_HALVES hr_HALVES) (Z.ix (Z.aF K rfl hu) (Z.v 2) (Z.v 3))))
   (Z.az (Z.ret (Z.chain (Ea) (iC) (Z.un cP (Z.v 4)) (Z.fc hdistance_of (Z.cons (Z.v 0) (Z.cons (Z.v 1) (Z.cons (Z.v 3) Z.nil)))) (Z.v 4))))),?_⟩
  have aw:bC (ij gs ws) (k:Int)=some (.int (w0:Nat)):=aR (nE hg hw);have ah':bC [V.int 8,.int 128,.int 32768] (w0:Int)=some (.int (bK w0)):=by rcases iB lw with rfl|rfl|rfl<;>rfl
  refine ar λN hN=>?_;exists au hc,aw;refine⟨ah,_,_,_,rfl,rfl,kt_HALVES H,ah',?_⟩;rw[hN];clear hN N;walk_at "rz";refine⟨a,b,sp,gs,k,t,rfl,ha,hb,hg,ht,hk,?_⟩;walk_at "rz";unfold kN at q;by_cases c1:-bK w0<=bU sp t k
  ·rw[KO c1];rw[Li c1,Qv] at q;exact q
  ·rw[KJ c1];rw[Lf c1,NW] at q;exact q
def jD(sp:List Nat)(gs:List (Option Nat))(ws:List Nat)(k:Nat):Bool:=match gs[k]?,ws[k]? with
 |some (some t),some w=>!kN w (bU sp t k)
 |_,_=>false
def dG(ss:List Nat)(gs:List (Option Nat))(ws:List Nat):Option Nat:=(List.range' 0 gs.length).find? (jD (df 0 ss gs ws) gs ws)
def tL(K:W.Frag):Sp:=λvs H Q _=>∃(a b c:Addr) (ss:List Nat) (gs:List (Option Nat)) (ws:List Nat),vs=[.ref a,.ref b,.ref c]/\H a=some (.lst (iV (nZ ss)))/\H b=some (.lst (gs.map aT))/\H c=some (.lst (ij gs ws))/\gs.length=ss.length/\ws.length=ss.length/\ss.length<=64/\(∀t,some t∈gs->t<=ss.length)/\(∀w∈ws,w<3)/\∀H',KB [] H H'->Q (xD (dG ss gs ws)) H'
theorem AW(T:Txt K mg)(F:HasFn K mg "first_too_narrow" cO ["sizes","goals","widths"])(hrow_starts:ao P w K mg base aS 2 "row_starts" ["sizes","widths"] (ki K))(hfits:ao P w K mg base aS 2 "fits" ["starts","goals","widths","row"] yE):ao P w K mg base aS 3 "first_too_narrow" ["sizes","goals","widths"] (tL K):=by
 refine F.dR bN (λvs H Q E h=>?_) (λf cdv A outer s H vs Q E hr h=>?_)
 ·obtain⟨a,b,c,ss,gs,ws,rfl,_⟩:=h;rfl
 ·have hu:=aN hr;obtain⟨a,b,c,ss,gs,ws,rfl,ha,hb,hc,h1,h2,h3,h5,h4,q⟩:=h;refine⟨_,(Z.aq (Z.se (i:=3) bN.nd (Z.fc hrow_starts (Z.cons (Z.v 0) (Z.cons (Z.v 2) Z.nil))))
   (Z.aq (Z.dO Lm rfl (Z.zv K rfl rfl T.cR (Z.cons (Z.v 1) Z.nil)) (Z.gQ (n:=2) K rfl rfl (Z.aZ (Z.aG (i:=4) bN.nd rfl (by right)) (Z.aZ (Z.aG (i:=5) bN.nd rfl (by right)) Z.dJ))) (Z.az (Z.dW (Z.tw (Z.wK (Z.bp gJ (Z.v 5) Z.aO) (Z.mN (Z.AS (Z.pI K rfl (Z.fc hfits (Z.cons (Z.v 3) (Z.cons (Z.v 1) (Z.cons (Z.v 2) (Z.cons (Z.v 4) Z.nil)))))))))) (Z.az (Z.ret (Z.v 4))) Z.bB)))
   (Z.az (Z.ret Z.aO)))),?_⟩
  refine ar λN hN=>?_;walk_at "rz";refine⟨a,c,true,ss,gs,ws,rfl,ha,a_.of hc,λH' k=>a_.of (k _ _ hc (by simp)),h1,h2,h3,h4,λd H1 hd k1 g1=>?_⟩
  rw[hN];clear hN N;have sl:=fM ss gs ws 0 h1 h2;unfold dG at q;generalize df 0 ss gs ws=sp at *;refine ar λN hN=>?_;walk_at "rz";refine⟨⟨_,a_.of (k1 _ _ hb (by simp))⟩,?_⟩
  refine lB (xs:=gs.map aT) (λi σ H'=>∃o4 o5:Option V,KB [] H H'/\H' d=some (.lst (iV (nZ sp)))/\i<=gs.length/\(List.range' i (gs.length-i)).find? (jD sp gs ws)=(List.range' 0 gs.length).find? (jD sp gs ws)/\σ=[some (.ref a),some (.ref b),some (.ref c),some (.ref d),o4,o5]) ⟨none,none,k1,g1,KW _,rfl,rfl⟩ (λi σ H' _ h=>by obtain⟨_,_,k,_⟩:=h;exact a_.of (k _ _ hb (by simp))) ?_ ?_
  ·rintro i x σ H' p hx ⟨o4,o5,hk,gd,hi,ef,rfl⟩ hp;have hlt:i<gs.length:=by have:=(K7.mp hx).1;rw[K2] at this;exact this
   have eg:=K1 hlt;have gm:=KZ hlt;have ew:=K1 (show i<ws.length by lia)
   have lw:=h4 _ (KZ (show i<ws.length by lia))
   generalize gs[i]'_=g at eg gm;generalize ws[i]'_=w0 at ew lw;rw[K8,eg] at hx;cases hx;rw[show gs.length-i=(gs.length-(i+1))+1 by lia,Mx,M5] at ef
   unfold aL;refine⟨p,_,rfl,aX.of aa,rfl,_,_,rfl,_,_,rfl,rfl,?_⟩;have kz:=KB.new (ex:=[]) (o:=.tup [.int i,aT g]) hp;generalize upd H' p (.tup [.int i,aT g])=H2 at *;have hk2:=hk.trans kz;have gd2:=kz _ _ gd (by simp)
   dsimp only;refine jN λM hM=>?_;refine xy λA B hA hB=>?_;walk_at "rz";have go:jD sp gs ws i=false->∀G:Hp,KB [] H G->G d=some (.lst (iV (nZ sp)))->B [some (.ref a),some (.ref b),some (.ref c),some (.ref d),some (.int (i:Int)),some (aT g)] G:=λhf G kG gG=>by
    rw[hB];show M _ _;rw[hM];rw[hf] at ef;exact⟨_,_,kG,gG,hlt,ef,rfl⟩
   cases g with
   |none =>
    rw[KJ (show ¬ ¬ aT none=V.aO from λz=>z rfl)];exact go (by unfold jD;rw[eg]) _ hk2 gd2
   |some t =>
    rw[KO (show ¬ aT (some t)=V.aO from λz=>nomatch z)];have ht:t<=ss.length:=h5 t gm;refine⟨d,b,c,sp,gs,ws,i,t,w0,rfl,gd2,hk2 _ _ hb (by simp),hk2 _ _ hc (by simp),eg,ew,lw,by lia,by lia,?_⟩
    have et:jD sp gs ws i=!kN w0 (bU sp t i):=by unfold jD;rw[eg,ew]
    refine⟨_,rfl,?_⟩
    cases co:kN w0 (bU sp t i) with
    |true=>
     rw[KJ (by decide)]
     exact go (by rw[et,co];rfl) _ hk2 gd2
    |false =>
     rw[KO rfl,hA];rw[et,co] at ef;have ef':some i=(List.range' 0 gs.length).find? (jD sp gs ws):=ef;rw[<- ef'] at q;walk_at "rz";exact q _ hk2
  ·rintro σ H' ⟨o4,o5,hk,gd,hi,ef,rfl⟩;show N _ _;rw[hN];clear hN N;rw[K2,LU] at ef;have ef':none=(List.range' 0 gs.length).find? (jD sp gs ws):=ef;rw[<- ef'] at q;walk_at "rz";exact q _ hk
def pY:Sp:=λvs H Q _=>∃(b:Addr) (gs:List (Option Nat)),vs=[.ref b]/\H b=some (.lst (gs.map aT))/\gs.length<=64/\∀d H',H d=none->KB [] H H'->H' d=some (.lst (ij gs (List.replicate gs.length 0)))->Q (.ref d) H'
theorem Df(gs:List (Option Nat)):ij gs (List.replicate gs.length 0)=gs.map λg=>xw g 0:=by
 induction gs with
 |nil=>rfl
 |cons g gs ih=>rw[KQ,L6,Lp,<- ih];rfl
theorem wA(T:Txt K mg)(F:HasFn K mg "narrowest" eW ["goals"]):ao P w K mg base aS 1 "narrowest" ["goals"] pY:=by
 refine F.dR nR (λvs H Q E h=>?_) (λf cdv A outer s H vs Q E hr h=>?_)
 ·obtain⟨b,gs,rfl,_⟩:=h;rfl
 ·have hu:=aN hr;obtain⟨b,gs,rfl,hb,hl,q⟩:=h;refine⟨_,(Z.az (Z.ret (Z.o_ (osc:=ab eW) (ON:=["goals"]) (own:=["goal"]) (N:=["goal","goals"]) (aA.of rfl (by decide +kernel)) (Z.any K rfl (Z.v 0)) (λnd _ _ _ _=>(Z.aG (i:=0) nd rfl (by right))) (λ_ _ _ _=>Z.jA) (λ_ _ _ _=>(Z.ER (Z.bp dC (Z.v 0) Z.aO) Z.aO Z.int))))),?_⟩
  exists au hb;refine dZ (xs:=gs.map aT) (KA (show _<=64 by rw[K2];exact hl) (by decide)) (λD i ys H'=>H D=none/\H' D=some (.lst ys)/\KB [] H H'/\ys=((gs.take i).map λg=>xw g 0)/\i<=gs.length) (λD hD=>⟨hD,aa,KB.new hD,rfl,KW _⟩) (λD i ys H' h=>⟨h.2.1,by rw[h.2.2.2.1,K2,K_];have:=h.2.2.2.2;lia⟩) (λD i ys H' h=>a_.of (h.2.2.1 _ _ hb (by simp))) ?_ ?_
  ·rintro D i ys H' x R hx ⟨g0,g1,gk,rfl,hi⟩ kk;have hlt:i<gs.length:=by have:=(K7.mp hx).1;rw[K2] at this;exact this
   have eg:=K1 hlt;have et:gs.take (i+1)=gs.take i++[gs[i]]:=by rw[L8,eg];rfl
   rw[K8,eg] at hx;cases hx;have fin:R (xw gs[i] 0) H':=kk _ _ g1 ⟨g0,aa,λu o e _=>by rw[af (ae e g0)];exact gk _ _ e (by simp),by rw[et,KN];rfl,hlt⟩
   walk_at "rz"
   cases hg:gs[i] with
   |none=>rw[hg] at fin;rw[KO (show aT none=V.aO from rfl)];exact fin
   |some t=>rw[hg] at fin;rw[KJ (show ¬ aT (some t)=V.aO from λz=>nomatch z)];exact fin
  ·rintro D ys H' ⟨g0,g1,gk,rfl,hi⟩;refine q D H' g0 gk ?_;rw[g1,K2,Lz,Df]
def rp(ss:List Nat)(gs:List (Option Nat)):Nat->List Nat->List Nat
 |0,ws=>ws
 |m+1,ws=>match dG ss gs ws with
  |none=>ws
  |some k=>rp ss gs m (ws.set k (ws.getD k 0+1))
def xC(ss:List Nat)(gs:List (Option Nat)):List Nat:=rp ss gs (2*ss.length+1) (List.replicate ss.length 0)
theorem Fi{gs:List (Option Nat)}{ws:List Nat}(hs:∀s∈ss,s<=150)(hn:ss.length<=64)(t k:Nat):kN 2 (bU (df 0 ss gs ws) t k)=true:=by
 have h3:=qR (gs:=gs) (ws:=ws) hs t;have h4:=qR (gs:=gs) (ws:=ws) hs (k+1);unfold kN bU;rw[Li (show -bK 2<=_ by show -32768<=_;lia),Li (show _<bK 2 by show _<32768;lia)]
 rfl
theorem kK{k:Nat}(hs:∀s∈ss,s<=150)(hn:ss.length<=64)(hl:ws.length=ss.length)(hg:gs.length=ss.length)(hw:∀w∈ws,w<3)(h:dG ss gs ws=some k):∃t w,gs[k]?=some (some t)/\ws[k]?=some w/\w<2:=by
 have h1:=PN h;have h2:=NI h;unfold jD at h1;have hk:k<gs.length:=by have:=PQ.mp h2;obtain⟨i,hi,e⟩:=this;lia
 have eg:=K1 hk;have ew:=K1 (show k<ws.length by lia)
 have lw:=hw _ (KZ (show k<ws.length by lia))
 rw[eg,ew] at h1;generalize gs[k]'_=g at *;generalize ws[k]'_=w at *
 cases g with
 |none=>cases h1
 |some t =>
  refine⟨t,w,eg,ew,?_⟩;rcases LH w 2 with c|c
  ·exact c
  ·have:w=2:=by lia
   subst this
   replace h1:(!kN 2 (bU (df 0 ss gs ws) t k))=true:=h1
   rw[Fi hs hn t k] at h1;cases h1
theorem r8(h:dG ss gs ws=none):qG ss gs ws:=λk t w h1 h2=>by
 have hk:k<gs.length:=(K7.mp h1).1;have:=List.find?_eq_none.mp h k (PQ.mpr ⟨k,hk,by lia⟩)
 unfold jD at this;rw[h1,h2] at this
 simpa using this
theorem Bx{l:List Nat}{k w:Nat}(h:l[k]?=some w):(l.set k (l.getD k 0+1)).sum=l.sum+1:=by
 induction l generalizing k with
 |nil=>cases h
 |cons x l ih =>
  cases k with
  |zero=>show ((x+1)::l).sum=_;rw[Nk,Nk];lia
  |succ k=>show (x::l.set k (l.getD k 0+1)).sum=_;rw[Nk,Nk,ih (by simpa using h)];lia
theorem Er{k v:Nat}(h:gs[k]?=some (some t)):(ij gs ws).set k (.int (v:Nat))=ij gs (ws.set k v):=by
 induction gs generalizing ws k with
 |nil=>cases h
 |cons g gs ih =>
  cases ws with
  |nil=>rfl
  |cons w ws =>
   cases k with
   |zero=>cases h;rfl
   |succ k=>show xw g w::(ij gs ws).set k _=xw g w::ij gs (ws.set k v);rw[ih (by simpa using h)]
structure Wy (ss:List Nat) (gs:List (Option Nat)) (ws:List Nat):Prop where
 len:ws.length=ss.length
 lt:∀w∈ws,w<3
 to:rp ss gs (2*ss.length+1-ws.sum) ws=xC ss gs
theorem Wy.zero(ss:List Nat)(gs:List (Option Nat)):Wy ss gs (List.replicate ss.length 0):=⟨KY ..,λw hw=>by rw[(Mb.mp hw).2];decide,by rw[Oj,Q7];rfl⟩
theorem Wy.next{k:Nat}(h:Wy ss gs ws)(hs:∀s∈ss,s<=150)(hn:ss.length<=64)(hg:gs.length=ss.length)(hf:dG ss gs ws=some k):Wy ss gs (ws.set k (ws.getD k 0+1))/\(ws.set k (ws.getD k 0+1)).sum=ws.sum+1/\ws.sum<2*ss.length:=by
 obtain⟨t,w,e1,e2,e3⟩:=kK hs hn h.len hg h.lt hf;have es:=Bx e2;have eg:ws.getD k 0=w:=by rw[KD,e2];rfl
 have hlt:∀x∈ws.set k (ws.getD k 0+1),x<3:=λx hx=>by
  rcases LX hx with z|z
  ·exact h.lt x z
  ·rw[z,eg];lia
 have hb:=iU hlt;rw[LR,h.len,es] at hb;refine⟨⟨by rw[LR,h.len],hlt,?_⟩,es,by lia⟩
 rw[es,<- h.to,show 2*ss.length+1-ws.sum=(2*ss.length+1-(ws.sum+1))+1 by lia,rp,hf]
theorem Wy.done(h:Wy ss gs ws)(hf:dG ss gs ws=none):xC ss gs=ws:=by
 rw[<- h.to];have hb:=iU h.lt;rw[h.len] at hb;rw[show 2*ss.length+1-ws.sum=(2*ss.length-ws.sum)+1 by lia,rp,hf]
theorem Wy.fit(hs:∀s∈ss,s<=150)(hn:ss.length<=64)(hg:gs.length=ss.length):∀(m:Nat) (ws:List Nat),Wy ss gs ws->2*ss.length+1-ws.sum<=m->Wy ss gs (xC ss gs)/\qG ss gs (xC ss gs)
 |0,ws,h,hm=>by
  have hb:=iU h.lt;rw[h.len] at hb;lia
 |m+1,ws,h,hm=>by
  cases hf:dG ss gs ws with
  |none=>rw[h.done hf];exact⟨h,r8 hf⟩
  |some k =>
   obtain⟨h1,h2,h3⟩:=h.next hs hn hg hf;exact Wy.fit hs hn hg m _ h1 (by lia)
theorem HH(hs:∀s∈ss,s<=150)(hn:ss.length<=64)(hg:gs.length=ss.length):(xC ss gs).length=ss.length/\(∀w∈xC ss gs,w<3)/\qG ss gs (xC ss gs):=by
 obtain⟨h1,h2⟩:=Wy.fit hs hn hg _ _ (Wy.zero ss gs) (KH _);exact⟨h1.len,h1.lt,h2⟩
def qf(K:W.Frag):Sp:=λvs H Q _=>∃(a b:Addr) (ss:List Nat) (gs:List (Option Nat)),vs=[.ref a,.ref b]/\H a=some (.lst (iV (nZ ss)))/\H b=some (.lst (gs.map aT))/\gs.length=ss.length/\ss.length<=64/\(∀s∈ss,s<=150)/\(∀t,some t∈gs->t<=ss.length)/\∀t u v H',KB [] H H'->H' t=some (.tup [.ref u,v])->H' u=some (.tup (ij gs (xC ss gs)))->Q (.ref t) H'
theorem w_(T:Txt K mg)(F:HasFn K mg "raised_till_good" cN ["sizes","goals"])(hnarrowest:ao P w K mg base aS 1 "narrowest" ["goals"] pY)(hfirst_too_narrow:ao P w K mg base aS 3 "first_too_narrow" ["sizes","goals","widths"] (tL K)):ao P w K mg base aS 4 "raised_till_good" ["sizes","goals"] (qf K):=by
 obtain⟨uW,hg_WIDEST,hr_WIDEST⟩:=T.yT;refine F.dR b8 (λvs H Q E h=>?_) (λf cdv A outer s H vs Q E hr h=>?_)
 ·obtain⟨a,b,ss,gs,rfl,_⟩:=h;rfl
 ·have hu:=aN hr;obtain⟨a,b,ss,gs,rfl,ha,hb,hg,hn,hs,ht,q⟩:=h;refine⟨_,(Z.aq (Z.se (i:=2) b8.nd (Z.fc hnarrowest (Z.cons (Z.v 1) Z.nil)))
   (Z.aq (Z.se (i:=3) b8.nd (Z.lst Z.nil))
   (Z.aq (Z.se (i:=4) b8.nd (Z.fc hfirst_too_narrow (Z.cons (Z.v 0) (Z.cons (Z.v 1) (Z.cons (Z.v 2) Z.nil)))))
   (Z.aq (Z.sj Lm (Z.bp gJ (Z.v 4) Z.aO) (Z.aq (Z.dW (Z.bp cc (Z.ix (Z.aF K rfl hu) (Z.v 2) (Z.v 4)) (Z.glob rfl hg_WIDEST hr_WIDEST)) (Z.az Z.IP) Z.bB)
   (Z.aq (Z.asg (Z.op (Z.aQ K rfl) (Z.ix (Z.aF K rfl hu) (Z.v 2) (Z.v 4)) Z.int) (Z.oz (Z.v 2) (Z.v 4)))
   (Z.aq (Z.expr (Z.app K (Z.v 3) (Z.cons (Z.v 4) Z.nil)))
   (Z.az (Z.se (i:=4) b8.nd (Z.fc hfirst_too_narrow (Z.cons (Z.v 0) (Z.cons (Z.v 1) (Z.cons (Z.v 2) Z.nil))))))))))
   (Z.az (Z.ret (Z.tup (Z.cons (Z.ct (Z.cm K rfl) rfl T.cq (by decide +kernel) (Z.cons (Z.v 2) Z.nil)) (Z.cons (Z.ct (Z.cm K rfl) rfl T.cq (by decide +kernel) (Z.cons (Z.v 3) Z.nil)) Z.nil))))))))),?_⟩
  refine ar λN hN=>?_;walk_at "rz";refine⟨b,gs,rfl,hb,by lia,λd H1 hd k1 g1=>?_⟩
  rw[hg] at g1;rw[hN];clear hN N;refine ar λN hN=>?_;walk_at "rz";refine⟨KW _,λpp hpp=>?_⟩;have k2:=KB.new (ex:=[]) (o:=.lst []) hpp;have s2:upd H1 pp (.lst []) pp=some (.lst (iV (nZ []))):=aa;generalize upd H1 pp (.lst [])=H2 at *;have g2:=k2 _ _ g1 (by simp)
  have k02:=k1.trans k2;have hppH:H pp=none:=k1.free (by simp) hpp
  have dpp:d≠pp:=λz=>by rw[z,hpp] at g1;cases g1
  rw[hN];clear hN N;refine ar λN hN=>?_;walk_at "rz";have wy0:=Wy.zero ss gs;refine⟨a,b,d,ss,gs,_,rfl,k02 _ _ ha (by simp),k02 _ _ hb (by simp),g2,hg,wy0.len,hn,ht,wy0.lt,λH3 k3=>?_⟩
  rw[hN];clear hN N;have k03:=k02.trans k3;have g3:=k3 _ _ g2 (by simp)
  have s3:=k3 _ _ s2 (by simp)
  refine ar λN hN=>?_;refine⟨λm σ H'=>∃(ws pa:List Nat),m=2*ss.length-ws.sum/\Wy ss gs ws/\pa.length=ws.sum/\KB [] H H'/\H' d=some (.lst (ij gs ws))/\H' pp=some (.lst (iV (nZ pa)))/\σ=[some (.ref a),some (.ref b),some (.ref d),some (.ref pp),some (xD (dG ss gs ws))],⟨2*ss.length,_,[],by rw[Oj,Q7];rfl,wy0,by rw[Oj,Q7];rfl,k03,g3,s3,rfl⟩,?_⟩
  rintro m σ H' ⟨ws,pa,rfl,wy,hpa,hk,gd,gp,rfl⟩;walk_at "rz"
  cases hf:dG ss gs ws with
  |none =>
   rw[KJ (show ¬ ¬ xD none=V.aO from λz=>z rfl)];show N _ _;rw[hN];clear hN N;rw[wy.done hf] at q;exists au gd;intro u hu';have k5:=KB.new (ex:=[]) (o:=.tup (ij gs ws)) hu';have s5:upd H' u (.tup (ij gs ws)) u=_:=aa;have gp5:=k5 _ _ gp (by simp)
   generalize upd H' u (.tup (ij gs ws))=H5 at *;exists au gp5;intro u2 hu2;have k6:=KB.new (ex:=[]) (o:=.tup (iV (nZ pa))) hu2;have s6:=k6 _ _ s5 (by simp)
   generalize upd H5 u2 (.tup (iV (nZ pa)))=H6 at *;refine⟨by decide,λt ht=>?_⟩
   have k7:=KB.new (ex:=[]) (o:=.tup [.ref u,.ref u2]) ht;exact q t u _ _ (hk.trans (k5.trans (k6.trans k7))) aa (k7 _ _ s6 (by simp))
  |some k =>
   rw[KO (show ¬ xD (some k)=V.aO from λz=>nomatch z)];obtain⟨t,w0,e1,e2,e3⟩:=kK hs hn wy.len hg wy.lt hf;obtain⟨wn,ws1,ws2⟩:=wy.next hs hn hg hf;refine⟨λσ' H'=>∃m',m'<2*ss.length-ws.sum/\∃(ws pa:List Nat),m'=2*ss.length-ws.sum/\Wy ss gs ws/\pa.length=ws.sum/\KB [] H H'/\H' d=some (.lst (ij gs ws))/\H' pp=some (.lst (iV (nZ pa)))/\σ'=[some (.ref a),some (.ref b),some (.ref d),some (.ref pp),some (xD (dG ss gs ws))],λ_ _ h=>h,?_⟩;have aw:bC (ij gs ws) (k:Int)=some (.int (w0:Nat)):=aR (nE e1 e2);have eg:ws.getD k 0=w0:=by rw[KD,e2];rfl
   rw[eg] at wn ws1;show Br K (V.ref d) (.int (k:Nat)) H' _;exists au gd,aw;have c2:¬ (w0:Int)=2:=by lia
   have c3:iF (ij gs ws).length (k:Int)=some k:=by
    have hkl:=(K7.mp e2).1;have:=wy.len;rw[zP (by lia)]
    unfold iF;rw[KO (by lia),KO (by lia),Lg]
   rw[KJ c2];show Br K (V.ref d) (.int (k:Nat)) H' _;exists au gd,aw;show xR (V.ref d) (.int (k:Nat)) (.int ((w0:Int)+1)) H' _;exists gd,c3;rw[show ((w0:Int)+1)=((w0+1:Nat):Int) from rfl,Er e1];have hdd:H d=none:=hd;have kd:KB [] H (upd H' d (.lst (ij gs (ws.set k (w0+1))))):=λu o e z=>by rw[af (ae e hdd)];exact hk _ _ e z
   have gd5:upd H' d (.lst (ij gs (ws.set k (w0+1)))) d=_:=aa;have gp5:upd H' d (.lst (ij gs (ws.set k (w0+1)))) pp=some (.lst (iV (nZ pa))):=by rw[af dpp.symm];exact gp
   generalize upd H' d (.lst (ij gs (ws.set k (w0+1))))=H5 at *;refine⟨.inl ⟨rfl,_,a_.of gp5⟩,pp,_,_,rfl,rfl,gp5,LG (show _<=1000 by rw[eR,hpa];lia) (by decide),?_⟩
   have kp:KB [] H (upd H5 pp (.lst (iV (nZ pa)++[xD (some k)]))):=λu o e z=>by rw[af (ae e hppH)];exact kd _ _ e z
   have gd6:upd H5 pp (.lst (iV (nZ pa)++[xD (some k)])) d=some (.lst (ij gs (ws.set k (w0+1)))):=by rw[af dpp];exact gd5
   have gp6:upd H5 pp (.lst (iV (nZ pa)++[xD (some k)])) pp=some (.lst (iV (nZ (pa++[k])))):=by rw[aa];unfold nZ;rw[KN,f9];rfl
   generalize upd H5 pp (.lst (iV (nZ pa)++[xD (some k)]))=H6 at *;refine⟨a,b,d,ss,gs,_,rfl,kp _ _ ha (by simp),kp _ _ hb (by simp),gd6,hg,wn.len,hn,ht,wn.lt,λH7 k7=>?_⟩
   exact⟨2*ss.length-(ws.sum+1),by lia,ws.set k (w0+1),pa++[k],by rw[ws1],wn,by rw[K6,ws1,hpa];rfl,kp.trans k7,k7 _ _ gd6 (by simp),k7 _ _ gp6 (by simp),rfl⟩
def pV(K:W.Frag):Sp:=λvs H Q _=>∃(a b:Addr) (ss:List Nat) (gs:List (Option Nat)),vs=[.ref a,.ref b]/\H a=some (.lst (iV (nZ ss)))/\H b=some (.lst (gs.map aT))/\gs.length=ss.length/\ss.length<=64/\(∀s∈ss,s<=150)/\(∀t,some t∈gs->t<=ss.length)/\∀u H',KB [] H H'->H' u=some (.tup (ij gs (xC ss gs)))->Q (.ref u) H'
theorem wY(T:Txt K mg)(F:HasFn K mg "least_widths" eH ["sizes","goals"])(hraised_till_good:ao P w K mg base aS 4 "raised_till_good" ["sizes","goals"] (qf K)):ao P w K mg base aS 5 "least_widths" ["sizes","goals"] (pV K):=by
 refine F.dR j9 (λvs H Q E h=>?_) (λf cdv A outer s H vs Q E hr h=>?_)
 ·obtain⟨a,b,ss,gs,rfl,_⟩:=h;rfl
 ·have hu:=aN hr;obtain⟨a,b,ss,gs,rfl,ha,hb,hg,hn,hs,ht,q⟩:=h;refine⟨_,(Z.az (Z.ret (Z.ix (Z.aF K rfl hu) (Z.fc hraised_till_good (Z.cons (Z.v 0) (Z.cons (Z.v 1) Z.nil))) Z.int))),?_⟩;walk_at "rz";refine⟨a,b,ss,gs,rfl,ha,hb,hg,hn,hs,ht,λt u v H' k h1 h2=>?_⟩;exists aC h1,Iz;exact q u H' k h2
def qB:Sp:=λvs H Q _=>∃(c:Addr) (ks:List Nat),vs=[.ref c,.int 12]/\H c=some (.tup (iV (nZ ks)))/\8<=ks.length/\ks.length<=17/\∀(ls:List Int) a H',KB [] H H'->H' a=some (.tup (iV ls))->ls.length=ks.length->ia ls->jG ls=true->Q (.ref a) H'
structure Cn (H H0:Hp) (sa a0 a1 a2:Addr) (k0 k1 k2:List Nat):Prop where
 s:H sa=some (.lst [.ref a0,.ref a1,.ref a2])
 h0:H a0=some (.lst (iV (nZ k0)))
 h1:H a1=some (.lst (iV (nZ k1)))
 h2:H a2=some (.lst (iV (nZ k2)))
 l0:k0.length=9
 l1:k1.length=17
 l2:k2.length=8
theorem Cn.kb{H0:Hp}{sa a0 a1 a2:Addr}(h:Cn H H0 sa a0 a1 a2 k0 k1 k2)(k:KB [] H H'):Cn H' H0 sa a0 a1 a2 k0 k1 k2:=⟨k _ _ h.s (by simp),k _ _ h.h0 (by simp),k _ _ h.h1 (by simp),k _ _ h.h2 (by simp),h.l0,h.l1,h.l2⟩
theorem Cn.put{H0:Hp}{sa a0 a1 a2:Addr}(h:Cn H H0 sa a0 a1 a2 k0 k1 k2)(hn:[a0,a1,a2].Nodup){pr:Nat×Nat}(ck:(pr.1=0/\pr.2<9)\/(pr.1=1/\pr.2<17)\/(pr.1=2/\pr.2<8)):∃(aw:Addr) (kw:List Nat),bC [V.ref a0,.ref a1,.ref a2] (pr.1:Int)=some (.ref aw)/\H aw=some (.lst (iV (nZ kw)))/\pr.2<kw.length/\aw∈[a0,a1,a2]/\∀x:Nat,∃k0 k1 k2,Cn (upd H aw (.lst (iV (nZ (kw.set pr.2 x))))) H0 sa a0 a1 a2 k0 k1 k2:=by
 have ns:∀{b:Addr} {k:List Nat},H b=some (.lst (iV (nZ k)))->3<k.length->sa≠b:=λ{b k} e hk z=>by
  have:=h.s;rw[z,e] at this;have e2:=Lw List.length (HO.lst.inj (Option.some.inj this));rw[bj,cf] at e2;simp at e2;lia
 have l0:=h.l0;have l1:=h.l1;have l2:=h.l2;have s0:=ns h.h0 (by lia)
 have s1:=ns h.h1 (by lia)
 have s2:=ns h.h2 (by lia)
 simp only[Mm,KL,Ln,Mh,not_or] at hn;obtain⟨⟨n01,n02⟩,n12,_⟩:=hn;rcases ck with ⟨e,hp⟩|⟨e,hp⟩|⟨e,hp⟩<;>rw[e]
 ·exact⟨a0,k0,rfl,h.h0,by lia,by simp,λx=>⟨k0.set pr.2 x,k1,k2,by rw[af s0];exact h.s,aa,by rw[af (Mc n01)];exact h.h1,by rw[af (Mc n02)];exact h.h2,by rw[LR];exact l0,l1,l2⟩⟩
 ·exact⟨a1,k1,rfl,h.h1,by lia,by simp,λx=>⟨k0,k1.set pr.2 x,k2,by rw[af s1];exact h.s,by rw[af n01];exact h.h0,aa,by rw[af (Mc n12)];exact h.h2,l0,by rw[LR];exact l1,l2⟩⟩
 ·exact⟨a2,k2,rfl,h.h2,by lia,by simp,λx=>⟨k0,k1,k2.set pr.2 x,by rw[af s2];exact h.s,by rw[af n02];exact h.h0,by rw[af n12];exact h.h1,aa,l0,l1,by rw[LR];exact l2⟩⟩
theorem wN(T:Txt K mg)(F:HasFn K mg "book_of" fq ["program","counts"])(hcoded_things:ao P w K mg base aS 1 "coded_things" ["row"] la)(hleast_lengths:ao P w K mg base aS 6 "least_lengths" ["counts","bound"] qB):ao P w K mg base aS 7 "book_of" ["program","counts"] qW:=by
 obtain⟨aH,hg_HOW_MANY,sH⟩:=T.rE;have hr_HOW_MANY:RelV (.ref aH) (.ref aH):=rfl;obtain⟨uL,hg_LONGEST,hr_LONGEST⟩:=T.vK;refine F.dR dk (λvs H Q E h=>?_) (λf cdv A outer s H vs Q E hr h=>?_)
 ·obtain⟨a,c,rs,ks,rfl,_⟩:=h;rfl
 ·have hu:=aN hr;obtain⟨a,c,rs,ks,rfl,hp,hl,bg,hc,hkl,hk40,q⟩:=h;refine⟨_,(Z.aq (Z.sec (j:=2) dk.nd (osc:=ab fq) (ON:=["program","counts","sums","row","count","which","thing"]) (own:=["many"]) (N:=["many","program","counts","sums","row","count","which","thing"]) (aA.of rfl (by decide +kernel)) (Z.seq K rfl (Z.glob rfl hg_HOW_MANY hr_HOW_MANY)) (λnd _ _ _ _=>(Z.aG (i:=0) nd rfl (by right))) (λ_ _ _ _=>Z.jA) (λ_ _ _ _=>(Z.op cu (Z.lst (Z.cons Z.int Z.nil)) (Z.v 0))))
   (Z.aq (Z.dO Lm rfl (p7 K rfl rfl T.mE (Z.cons (Z.v 0) (Z.cons (Z.v 1) Z.nil))) (Z.gQ (n:=2) K rfl rfl (Z.aZ (Z.aG (i:=3) dk.nd rfl (by right)) (Z.aZ (Z.aG (i:=4) dk.nd rfl (by right)) Z.dJ))) (Z.az (Z.dO Lm rfl (Z.any K rfl (Z.fc hcoded_things (Z.cons (Z.v 3) Z.nil))) (Z.gQ (n:=2) K rfl rfl (Z.aZ (Z.aG (i:=5) dk.nd rfl (by right)) (Z.aZ (Z.aG (i:=6) dk.nd rfl (by right)) Z.dJ))) (Z.az (Z.asg (Z.op (Z.aQ K rfl) (Z.ix (Z.aF K rfl hu) (Z.ix (Z.aF K rfl hu) (Z.v 2) (Z.v 5)) (Z.v 6)) (Z.v 4)) (Z.oz (Z.ix (Z.aF K rfl hu) (Z.v 2) (Z.v 5)) (Z.v 6)))))))
   (Z.az (Z.ret (Z.ct (Z.cm K rfl) rfl T.cq (by decide +kernel) (Z.cons (Z.o_ (osc:=ab fq) (ON:=["program","counts","sums","row","count","which","thing"]) (own:=["counted"]) (N:=["counted","program","counts","sums","row","count","which","thing"]) (aA.of rfl (by decide +kernel)) (Z.any K rfl (Z.v 2)) (λnd _ _ _ _=>(Z.aG (i:=0) nd rfl (by right))) (λ_ _ _ _=>Z.jA) (λ_ _ _ _=>(Z.fc hleast_lengths (Z.cons (Z.ct (Z.cm K rfl) rfl T.cq (by decide +kernel) (Z.cons (Z.v 0) Z.nil)) (Z.cons (Z.glob rfl hg_LONGEST hr_LONGEST) Z.nil))))) Z.nil)))))),?_⟩
  refine ar λN hN=>?_;walk_at "rz";refine .inr ⟨⟨_,sH H⟩,?_⟩;have er:∀m:Nat,(List.replicate m [V.int 0]).flatten=iV (nZ (List.replicate m 0)):=λm=>by
   unfold iV nZ;rw[MO,MO]
   induction m with
   |zero=>rfl
   |succ m ih=>rw[L6,Lr,ih];rfl
  refine bF (xs:=[.int 9,.int 17,.int 8]) (by decide) (λD i ys H'=>H D=none/\H' D=some (.lst ys)/\KB [] H H'/\∃ds:List Addr,ys=ds.map V.ref/\ds.length=i/\ds.Nodup/\∀(j:Nat) (d:Addr),ds[j]?=some d->H d=none/\d≠D/\H' d=some (.lst (iV (nZ (List.replicate ([9,17,8].getD j 0) 0))))) (λD hD=>⟨hD,aa,KB.new hD,[],rfl,rfl,List.nodup_nil,λj d e=>nomatch e⟩) (λD i ys H' h=>⟨h.2.1,by obtain⟨_,_,_,ds,rfl,e,_⟩:=h;rw[K2,e]⟩) (λD i ys H' h=>sH H') ?_ ?_
  ·rintro D i ys H' x R hx ⟨g0,g1,gk,ds,rfl,e1,e2,e3⟩ kk;have hi:i<3:=(K7.mp hx).1;obtain⟨m,rfl,hm,hm17⟩:∃m:Nat,x=.int (m:Nat)/\[9,17,8].getD i 0=m/\m<=17:=by
    rcases iB hi with rfl|rfl|rfl
    ·cases hx;exact⟨9,rfl,rfl,by decide⟩
    ·cases hx;exact⟨17,rfl,rfl,by decide⟩
    ·cases hx;exact⟨8,rfl,rfl,by decide⟩
   walk_at "rz";refine⟨by decide,λp1 hp1=>?_⟩
   refine⟨p1,_,_,rfl,rfl,aa,by lia,by lia,KA (show _<=20 by simp;lia) (by decide),λu hu'=>?_⟩
   rw[Lg,er];have k1:=KB.new (ex:=[]) (o:=.lst [.int 0]) hp1;have k2:=KB.new (ex:=[]) (o:=.lst (iV (nZ (List.replicate m 0)))) hu';have k12:=k1.trans k2;have su:upd (upd H' p1 (.lst [.int 0])) u (.lst (iV (nZ (List.replicate m 0)))) u=_:=aa;have hu0:H' u=none:=k1.free (by simp) hu'
   generalize upd (upd H' p1 (.lst [.int 0])) u (.lst (iV (nZ (List.replicate m 0))))=G at *;have uD:u≠D:=λz=>by rw[z,g1] at hu0;cases hu0
   refine kk _ _ (k12 _ _ g1 (by simp)) ⟨g0,aa,λb o e _=>by rw[af (ae e g0)];exact k12 _ _ (gk _ _ e (by simp)) (by simp),ds++[u],by rw[KN];rfl,by rw[K6,e1];rfl,?_,λj d e=>?_⟩
   ·refine List.nodup_append.mpr ⟨e2,(N_ _ _),λb hb b' hb' z=>?_⟩;rw[KU.mp hb'] at z;subst z;obtain⟨j,hj,rfl⟩:=N8.mp hb;have:=(e3 j _ (K1 hj)).2.2;rw[hu0] at this;cases this
   ·rcases LH j ds.length with hj|hj
    ·rw[Lj hj] at e;obtain⟨q1,q2,q3⟩:=e3 j d e;exact⟨q1,q2,by rw[af q2];exact k12 _ _ q3 (by simp)⟩
    ·rw[Le hj] at e;obtain⟨hj2,rfl⟩:=K7.mp e;have:j=i:=by simp at hj2;lia
     subst this;simp only[e1,LU,Mg];exact⟨gk.free (by simp) hu0,uD,by rw[af uD,su,hm]⟩
  rintro sa ys H1 ⟨g0,g1,gk,ds,rfl,e1,e2,e3⟩;obtain⟨a0,a1,a2,rfl⟩:=oK (show ds.length=3 from e1);have sm0:Cn H1 H sa a0 a1 a2 (List.replicate 9 0) (List.replicate 17 0) (List.replicate 8 0):=⟨g1,(e3 0 a0 rfl).2.2,(e3 1 a1 rfl).2.2,(e3 2 a2 rfl).2.2,rfl,rfl,rfl⟩;have n0:=e3 0 a0 rfl;have n1:=e3 1 a1 rfl;have n2:=e3 2 a2 rfl;show N _ _;rw[hN];clear hN N;refine ar λN hN=>?_;exists gh;have hpk:∀{G:Hp},KB [] H G->iL G a rs:=λk=>hp.kb k;obtain⟨as,ha,hpa⟩:=hp;have hpl:=hpa.1;refine⟨(false,a),(false,c),⟨rfl,rfl⟩,⟨_,aX.of (gk _ _ ha (by simp))⟩,⟨_,aX.of (gk _ _ hc (by simp))⟩,λn=>?_⟩
  have newA:∀b∈[a0,a1,a2],H b=none:=λb hb=>by
   simp only[KL,Ln,Mh] at hb;rcases hb with rfl|rfl|rfl
   ·exact n0.1
   ·exact n1.1
   ·exact n2.1
  refine jm (xs:=as.map V.ref) (ys:=iV (nZ ks)) (by rw[K2,bj,cf];lia) (λi σ H'=>∃(k0 k1 k2:List Nat) (o3 o4 o5 o6:Option V),KB [] H H'/\Cn H' H sa a0 a1 a2 k0 k1 k2/\σ=[some (.ref a),some (.ref c),some (.ref sa),o3,o4,o5,o6]) ⟨_,_,_,none,none,none,none,gk,sm0,rfl⟩ (λi σ H' h=>by obtain⟨_,_,_,_,_,_,_,k,_⟩:=h;exact⟨aX.of (k _ _ ha (by simp)),aX.of (k _ _ hc (by simp))⟩) ?_ ?_
  ·rintro i x y σ H' z hx hy ⟨k0,k1,k2,o3,o4,o5,o6,hk,sm,rfl⟩ hz;obtain⟨ra,ea,rfl⟩:∃u,as[i]?=some u/\x=.ref u:=by
    rw[K8] at hx;obtain⟨u,e,rfl⟩:=Lc.mp hx;exact⟨u,e,rfl⟩
   have hlt:i<rs.length:=by have:=(K7.mp ea).1;lia
   have er':=K1 hlt;have hra:=hk _ _ (hpa.2 i ra _ ea er') (by simp)
   have rok:=bg _ (List.getElem_mem hlt);generalize rs[i]=r at *;obtain⟨cn,ec,rfl⟩:=v7 hy;unfold aL;refine⟨z,_,rfl,aX.of aa,rfl,_,_,rfl,_,_,rfl,rfl,?_⟩;have kz:=KB.new (ex:=[]) (o:=.tup [.ref ra,.int (cn:Nat)]) hz;generalize upd H' z (.tup [.ref ra,.int (cn:Nat)])=H2 at *;dsimp only;refine jN λM hM=>?_;walk_at "rz";refine⟨ra,r,_,rfl,kz _ _ hra (by simp),rok,λD ps H3 hD k3 hD3 th=>?_⟩
   have sm3:=(sm.kb kz).kb k3;have hk3:=hk.trans (kz.trans k3);exists au hD3;have Dn:∀b∈[a0,a1,a2],D≠b:=λb hb zz=>by
    have sm2:=sm.kb kz;simp only[KL,Ln,Mh] at hb;rcases hb with rfl|rfl|rfl
    ·have e:=sm2.h0;rw[<- zz,hD] at e;cases e
    ·have e:=sm2.h1;rw[<- zz,hD] at e;cases e
    ·have e:=sm2.h2;rw[<- zz,hD] at e;cases e
   refine fj (xs:=ps.map V.ref) (λj σ G=>∃(k0 k1 k2:List Nat) (o5 o6:Option V),KB [] H G/\Cn G H sa a0 a1 a2 k0 k1 k2/\G D=some (.lst (ps.map V.ref))/\ye G ps (cG r)/\σ=[some (.ref a),some (.ref c),some (.ref sa),some (.ref ra),some (.int (cn:Nat)),o5,o6]) ⟨k0,k1,k2,o5,o6,hk3,sm3,hD3,th,rfl⟩ (λj σ G _ h=>by obtain⟨_,_,_,_,_,_,_,h,_⟩:=h;exact a_.of h) ?_ ?_
   ·rintro j x σ G hx' ⟨k0,k1,k2,o5,o6,kG,smG,gD,thG,rfl⟩;obtain⟨t,et,rfl⟩:∃u,ps[j]?=some u/\x=.ref u:=by
     rw[K8] at hx';obtain⟨u,e,rfl⟩:=Lc.mp hx';exact⟨u,e,rfl⟩
    have thl:=thG.1;have hj:j<(cG r).length:=by have:=(K7.mp et).1;lia
    have ht:=thG.2 j t _ et (List.getElem?_eq_getElem hj);have ck:=sQ rok _ (List.getElem_mem hj);generalize (cG r)[j]=pr at *;obtain⟨aw,kw,w1,w2,w3,w4,w5⟩:=smG.put e2 ck;refine⟨t,_,rfl,aX.of ht,rfl,_,_,rfl,_,_,rfl,rfl,?_⟩;dsimp only;refine jN λM2 hM2=>?_;have av:bC (iV (nZ kw)) (pr.2:Int)=some (.int ((kw.getD pr.2 0:Nat):Int)):=s_ w3;have c3:iF (iV (nZ kw)).length (pr.2:Int)=some pr.2:=by
     rw[eR];unfold iF;rw[KO (by lia),KO (by lia),Lg]
    exists au smG.s,w1,au w2,av,w2,c3;have es:(iV (nZ kw)).set pr.2 (.int (((kw.getD pr.2 0:Nat):Int)+(cn:Int)))=iV (nZ (kw.set pr.2 (kw.getD pr.2 0+cn))):=by unfold iV nZ;rw[MN,MN];rfl
    rw[es,hM2];obtain⟨k0',k1',k2',sm'⟩:=w5 (kw.getD pr.2 0+cn);exact⟨k0',k1',k2',_,_,λb o e _=>by rw[af (ae e (newA aw w4))];exact kG _ _ e (by simp),sm',by rw[af (Dn aw w4)];exact gD,thG.keep (KB.set (ex:=[aw]) (by simp)) (ug w2),rfl⟩
   ·rintro σ G ⟨k0,k1,k2,o5,o6,kG,smG,gD,thG,rfl⟩;show M _ _;rw[hM];exact⟨k0,k1,k2,_,_,_,_,kG,smG,rfl⟩
  ·rintro σ H' ⟨k0,k1,k2,o3,o4,o5,o6,hk,sm,rfl⟩;show N _ _;rw[hN];clear hN N;exists au sm.s;have kts:∀{j:Nat} {x:V},[V.ref a0,.ref a1,.ref a2][j]?=some x->∃(b:Addr) (k:List Nat),x=.ref b/\H' b=some (.lst (iV (nZ k)))/\8<=k.length/\k.length<=17/\([9,17,8]:List Nat).take (j+1)=([9,17,8]:List Nat).take j++[k.length]:=λ{j x} e=>by
    have hj:j<3:=(K7.mp e).1;have l0:=sm.l0;have l1:=sm.l1;have l2:=sm.l2;rcases iB hj with rfl|rfl|rfl
    ·cases e;exact⟨a0,k0,rfl,sm.h0,by lia,by lia,by rw[l0];rfl⟩
    ·cases e;exact⟨a1,k1,rfl,sm.h1,by lia,by lia,by rw[l1];rfl⟩
    ·cases e;exact⟨a2,k2,rfl,sm.h2,by lia,by lia,by rw[l2];rfl⟩
   refine dZ (xs:=[V.ref a0,.ref a1,.ref a2]) (show 3<=sizeLine by decide) (λD i ys G=>H' D=none/\G D=some (.lst ys)/\KB [] H' G/\∃(bs:List Addr) (done:List (List Int)),ys=bs.map V.ref/\bs.length=i/\done.map List.length=([9,17,8]:List Nat).take i/\(∀l∈done,ia l/\jG l=true)/\∀(j:Nat) (b:Addr),bs[j]?=some b->G b=some (.tup (iV (done.getD j [])))) (λD hD=>⟨hD,aa,KB.new hD,[],[],rfl,rfl,rfl,(λl hl=>absurd hl Ln),λj b e=>nomatch e⟩) (λD i ys G h=>⟨h.2.1,by obtain⟨_,_,_,bs,done,rfl,e,_⟩:=h;rw[K2,e]⟩) (λD i ys G h=>a_.of (h.2.2.1 _ _ sm.s (by simp))) ?_ ?_
   ·rintro D i ys G x R hx ⟨g0,g1,gk',bs,done,rfl,ga,gl,gok,gat⟩ kk;obtain⟨b,k,rfl,hb,hk8,hk17,em⟩:=kts hx;have hb':=gk' _ _ hb (by simp)
    exists au hb';intro ta hta;have kt:=KB.new (ex:=[]) (o:=.tup (iV (nZ k))) hta;refine⟨ta,k,rfl,aa,hk8,hk17,λls r G5 k5 e5 l1 l2 l3=>?_⟩;have k15:=kt.trans k5;have gD:=k15 _ _ g1 (by simp)
    have rD:r≠D:=λz=>by rw[z,gD] at e5;cases e5
    have gl':done.length=bs.length:=by
     have:=Lw List.length gl;rw[K2,K_] at this;have hi3:i<3:=(K7.mp hx).1;rw[this,ga];simp;lia
    refine kk _ _ gD ⟨g0,aa,λu o e _=>by rw[af (ae e g0)];exact k15 _ _ (gk' _ _ e (by simp)) (by simp),bs++[r],done++[ls],by rw[KN];rfl,by rw[K6,ga];rfl,by rw[KN,gl,em,Lp,l1];rfl,λl hl'=>?_,λj b' e=>?_⟩
    ·rcases Lq.mp hl' with h|h
     ·exact gok l h
     ·rw[KU.mp h];exact⟨l2,l3⟩
    ·rcases LH j bs.length with hj|hj
     ·rw[Lj hj] at e;have e6:=k15 _ _ (gat j b' e) (by simp)
      rw[af (λz=>by rw[z,gD] at e6;cases e6),e6,KD,KD,Lj (by lia)]
     ·rw[Le hj] at e;obtain⟨hj2,rfl⟩:=K7.mp e;have hj3:j=bs.length:=by simp at hj2;lia
      subst hj3;simp only[LU,Mg];rw[af rD,e5,KD,Le (by lia),show bs.length-done.length=0 by lia]
      rfl
   ·rintro D ys G ⟨g0,g1,gk',bs,done,rfl,ga,gl,gok,gat⟩;have gl2:done.map List.length=[9,17,8]:=gl;have h3:done.length=3:=by have:=Lw List.length gl2;rw[K2] at this;exact this
    obtain⟨x,y,z,rfl⟩:=oK h3;simp only[Lp,MK,List.cons.injEq] at gl2;exists au g1;intro b hb;refine q [x,y,z] b _ (hk.trans (gk'.trans (KB.new hb))) ⟨bs,aa,by rw[ga];rfl,λj a' e=>?_⟩ ⟨x,y,z,rfl,gl2.1,gl2.2.1,gl2.2.2.1,gok⟩
    have:=gat j a' e;rw[af (ae this hb)];exact this
theorem EF{X:Cx}{e:Expr}{t:TA}{p pos kpos lpos p1 p2 p3:Pos}{cj:Nat}{x y:Str}{c Pt:Addr}{params:Arguments}{scope:Scope}{k:Nat}(K:W.Frag)(hK:X.K=K)(hx:y∈d8)(ht:W.tabIn K y=some (c,Pt))(hcode:X.env.code=.ref c)(hq:X.env.qual=y++".<locals>.")(hdef:defaultsOf params X.env=([],[]))(hcl:closureFor scope X.env=pure [])
  (hg:Gl X "sorted") (hm:X.mg "sorted"=none) (ha:QA X [e] t) (hr:bQ (k+3) X.A)
  (hsc:scope={kind:=.function,names:=[(x,.local)],isGenerator:=false,isCoroutine:=false,more:=[]}) (hx1:(x ==("__debug__":Str))=false) (hx2:(x ==("__classdict__":Str))=false)
  (hbind:∀c' pm ctv u,bindArgs (W.kla_fn "<lambda>" ((y++".<locals>.")++"<lambda>") params (.Subscript (.Name x p1) (.Constant (.int 0) cj p2) p3) scope [] pm (.ref c') ctv) ⟨[u],[]⟩=pure [(x,u)]) (h1:autoParam (dY e=true) ℜ0) :
  QE X (.Call (.Name "sorted" p) [e] [⟨some "key",.Lambda params (.Subscript (.Name x p1) (.Constant (.int 0) cj p2) p3) scope lpos,kpos⟩] pos) (zM (xN K) t):=by
 subst hK;exact⟨Bd hg hm ha.h h1 hr (yO hx ht hcode hq hdef hcl) hsc hx1 hx2 hbind⟩
theorem Ii{X:Cx}{e:Expr}(K:W.Frag)(hK:X.K=K)(m:Nat){i:Int}(hi:i=(m:Int)){j2:Nat}{pos p1 p2 p3:Pos}(he:QE X e te):QE X (.Subscript e (.Slice (some (.Constant (.int i) j p1)) none (some (.Constant (.int 2) j2 p3)) p2) pos) (EM K m te):=by
 subst hK;exact⟨EV hi he.h⟩
theorem FN(K:W.Frag)(m:Nat)(te:TE)(σ:L2.St)(H:Hp)(Q:VK):EM K m te σ H Q=te σ H λx H1=>∃a xs,x=V.ref a/\a_ K H1 a xs/\∀p,H1 p=none->Q (.ref p) (upd H1 p (.lst (iz (xs.drop m)))):=rfl
theorem J5{i j:Int}(q:Q (.int (i+j)) H):Y.xJ K (.int i) (.int j) H Q:=.inl ⟨_,_,rfl,rfl,q⟩
theorem HG{b:Addr}(ha:H a=some (.lst xs))(hb:H b=some (.lst ys))(hn:xs.length+ys.length<=sizeLine)(q:∀p,H p=none->Q (.ref p) (upd H p (.lst (xs++ys)))):Y.xJ K (.ref a) (.ref b) H Q:=.inr (.inr (.inl ⟨_,_,_,_,rfl,rfl,ha,hb,hn,q⟩))
def xA(D:Addr)(H:Hp)(z:V×List Nat):Prop:=∃(p q:Addr) (w:Int),z.1=.ref p/\H p=some (.tup [.int w,.ref q])/\H q=some (.lst (iV (nZ z.2)))/\q≠D
def vG(H:Hp)(z:V×List Nat):Prop:=∃(p q:Addr) (w:Int),z.1=.ref p/\H p=some (.tup [.int w,.ref q])/\H q=some (.lst (iV (nZ z.2)))
theorem xA.it{z:V×List Nat}(h:xA D H z):vG H z:=by
 obtain⟨p,q,w,a,b,c,_⟩:=h;exact⟨p,q,w,a,b,c⟩
theorem vG.kb{z:V×List Nat}(h:vG H z)(k:KB [] H H'):vG H' z:=by
 obtain⟨p,q,w,a,b,c⟩:=h;exact⟨p,q,w,a,k _ _ b (by simp),k _ _ c (by simp)⟩
theorem xA.kb{z:V×List Nat}(h:xA D H z)(k:KB [] H H'):xA D H' z:=by
 obtain⟨p,q,w,a,b,c,d⟩:=h;exact⟨p,q,w,a,k _ _ b (by simp),k _ _ c (by simp),d⟩
theorem xA.set{z:V×List Nat}(h:xA D H z)(hD:H D=some (.lst xs)):xA D (upd H D (.lst ys)) z:=by
 obtain⟨p,q,w,a,b,c,d⟩:=h;exact⟨p,q,w,a,by rw[af (λe=>by rw[e,hD] at b;cases b)];exact b,by rw[af d];exact c,d⟩
theorem BC(h:∀z∈Us,vG H z):∃kz:List Int,kz.length=Us.length/\∀(i:Nat) z k,Us[i]?=some z->kz[i]?=some k->∃p q:Addr,z.1=.ref p/\H p=some (.tup [.int k,.ref q]):=by
 induction Us with
 |nil=>exact⟨[],rfl,λi z k e=>nomatch e⟩
 |cons x Us ih =>
  obtain⟨kz,e1,e2⟩:=ih λz hz=>h z (KI _ hz);obtain⟨p,q,w,a,b,c⟩:=h x KG;refine⟨w::kz,by rw[KQ,KQ,e1],λi z k e3 e4=>?_⟩
  cases i with
  |zero=>cases e3;cases e4;exact⟨p,q,a,b⟩
  |succ i=>exact e2 i z k (by simpa using e3) (by simpa using e4)
theorem oN{v:V}(h:(Us.map Prod.fst)[i]?=some v):∃z,Us[i]?=some z/\v=z.1:=by
 rw[K8] at h;obtain⟨z,e,rfl⟩:=Lc.mp h;exact⟨z,e,rfl⟩
def u4:Sp:=λvs H Q _=>∃(a:Addr) (Us:List (V×List Nat)),vs=[.ref a]/\H a=some (.lst (Us.map Prod.fst))/\(∀z∈Us,vG H z)/\Us.length<64/\∀(Us':List (V×List Nat)) (b:Addr) H',Us'.Perm Us->KB [] H H'->H' b=some (.lst (Us'.map Prod.fst))->Q (.ref b) H'
theorem yL(T:Txt K mg)(F:HasFn K mg "by_worth" dw ["shelf"]):ao P w K mg base aS 4 "by_worth" ["shelf"] u4:=by
 obtain⟨c,Pt,htab,hcc⟩:=T.oD.ex;refine F.Ig qL (λvs H Q E h=>?_) (λf cdv A outer s H vs Q E hr hm fR h=>?_)
 ·obtain⟨a,Us,rfl,_⟩:=h;rfl
 ·have:=hcc _ _ ⟨hm,fR⟩;subst this;have hu:=aN hr;obtain⟨a,Us,rfl,ha,hz,hl,q⟩:=h;refine⟨_,(Z.az (Z.ret (EF (k:=0) K rfl (by decide) htab rfl rfl rfl rfl rfl T.iO (Z.cons (Z.v 0) Z.nil) (hr.mono (by decide)) rfl rfl rfl (λ_ _ _ _=>rfl)))),?_⟩
  walk_at "rz";obtain⟨kz,e1,e2⟩:=BC hz;refine⟨a,Us.map Prod.fst,kz,rfl,a_.of ha,by rw[e1,K2],by rw[K2];exact hl,λi v k e3 e4 H' g=>?_,λH2 D g hD=>?_⟩
  ·obtain⟨z,e5,rfl⟩:=oN e3;obtain⟨p,r,e6,e7⟩:=e2 i z k e5 e4;exact⟨p,_,e6,aX.of (g.same _ _ e7)⟩
  ·rw[vD];exact q (jc kz Us) D _ (iZ e1) (λb o e _=>by rw[af (ae (g.same _ _ e) hD)];exact g.same _ _ e) aa
theorem rB:∀(l:List α) (i:Nat),(iz l)[i]?=l[2*i]?
 |[],i=>by simp[iz,ya]
 |[x],i=>by
  cases i with
  |zero=>rfl
  |succ i=>rw[show 2*(i+1)=2*i+1+1 by lia];simp[iz,ya]
 |x::y::r,i=>by
  cases i with
  |zero=>rfl
  |succ i=>rw[show 2*(i+1)=2*i+1+1 by lia,LL,LL,<- rB r i];rfl
theorem iy:∀l:List α,(iz l).length=(l.length+1) / 2
 |[]=>by simp[iz,ya]
 |[x]=>by simp[iz,ya]
 |x::y::r=>by
  show (x::iz r).length=_;rw[KQ,iy r];simp only[KQ];lia
theorem sU{b:Addr}{n:Nat}(hn:xs.length<=sizeLine)(hyx:ys.length<=xs.length)(Pv:Addr->Nat->List V->Hp->Prop)(h0:∀D,H D=none->Pv D 0 [] (upd H D (.lst [])))(hD:∀D i ws H',Pv D i ws H'->H' D=some (.lst ws)/\ws.length=i)
  (hl:∀D i ws H',Pv D i ws H'->a_ K H' a xs/\a_ K H' b ys)
  (hs:∀D i ws H' x y p (R:VK),xs[i]?=some x->ys[i]?=some y->Pv D i ws H'->H' p=none->(∀v H5,H5 D=some (.lst ws)->Pv D (i+1) (ws++[v]) (upd H5 D (.lst (ws++[v])))->R v H5)->te (some x::some y::σ) (upd H' p (.tup [x,y])) R) (hd:∀D ws H',Pv D (ys.length) ws H'->Q (.ref D) H') :
  gU (Bs K (fh n [(true,a),(true,b)])) 2 (kB K 2 (d9 (aL 0) (d9 (aL 1) jP))) dh te Q σ H:=by
 intro D hD0;refine⟨λi m ws σ' H'=>m=ys.length-i/\i<=ys.length/\Pv D i ws H'/\∃o1 o2,σ'=o1::o2::σ,⟨ys.length,by simp,KW _,h0 D hD0,none,none,rfl⟩,?_⟩
 rintro i m ws σ' H' ⟨rfl,hi,p,o1,o2,rfl⟩;obtain⟨hDi,hly⟩:=hD _ _ _ _ p;obtain⟨q1,q2⟩:=hl _ _ _ _ p;have q1':hJ K true H' a xs:=q1;have q2':hJ K true H' b ys:=q2;refine⟨hDi,?_⟩;by_cases hlt:i<ys.length
 ·have hl1:i<xs.length:=by lia
  refine .inr ⟨⟨[xs[i],ys[i]],.cons ⟨xs,q1',by simp[hl1]⟩ (.cons ⟨ys,q2',by simp[hlt]⟩ .nil)⟩,by lia,λx H2 z=>?_⟩
  obtain⟨c,vs,pr,fr,rfl,rfl⟩:=z;obtain⟨y1,vs,rfl,e1,pr⟩:=Paired.dI pr;obtain⟨y2,vs,rfl,e2,pr⟩:=Paired.dI pr;cases pr;refine CT ?_;unfold dh;dsimp only;rw[if_pos rfl];exact hs D i ws H' y1 y2 c _ (e1 xs q1') (e2 ys q2') p fr λv H5 q1 q2=>⟨q1,ys.length-(i+1),by lia,rfl,hlt,q2,_,_,rfl⟩
 ·have e:i=ys.length:=by lia
  subst e;by_cases hxe:xs.length=ys.length
  ·exact .inl ⟨⟨[],(true,n,a),_,[],rfl,.nil,xs,q1',hxe⟩,hd D ws H' p⟩
  ·exact .inl ⟨⟨[(true,n,a)],(true,n+1,b),[],[xs[ys.length]'(by lia)],rfl,.cons ⟨xs,q1',by simp⟩ .nil,ys,q2',rfl⟩,hd D ws H' p⟩
theorem qu{x:List Nat}(h:x∈X):x.length<=X.flatten.length:=by
 induction X with
 |nil=>cases h
 |cons y X ih =>
  rw[Lr,K6];rcases KL.mp h with rfl|h
  ·lia
  ·have:=ih h;lia
def uV:Sp:=λvs H Q _=>∃(a:Addr) (Us:List (V×List Nat)),vs=[.ref a]/\H a=some (.lst (Us.map Prod.fst))/\(∀z∈Us,vG H z)/\Us.length<=64/\(Us.map Prod.snd).flatten.length<=1000/\∀(Vs:List (V×List Nat)) (b:Addr) H',KB [] H H'->H' b=some (.lst (Vs.map Prod.fst))->(∀z∈Vs,vG H' z)->Vs.map Prod.snd=Pn.pk (Us.map Prod.snd)->Q (.ref b) H'
theorem yw(T:Txt K mg)(F:HasFn K mg "packs_of" fN ["shelf"]):ao P w K mg base aS 1 "packs_of" ["shelf"] uV:=by
 refine F.dR qw (λvs H Q E h=>?_) (λf cdv A outer s H vs Q E hr h=>?_)
 ·obtain⟨a,Us,rfl,_⟩:=h;rfl
 ·have hu:=aN hr;obtain⟨a,Us,rfl,ha,hz,hl,ht,q⟩:=h;refine⟨_,(Z.az (Z.ret (Z.o_ (osc:=ab fN) (ON:=["shelf"]) (own:=["one","other"]) (N:=["one","other","shelf"]) (aA.of rfl (by decide +kernel)) (p7 K rfl rfl T.mE (Z.cons (Ii K rfl 0 rfl (Z.v 0)) (Z.cons (Ii K rfl 1 rfl (Z.v 0)) Z.nil))) (λnd _ _ _ _=>(Z.gQ (n:=2) K rfl rfl (Z.aZ (Z.aG (i:=0) nd rfl (by right)) (Z.aZ (Z.aG (i:=1) nd rfl (by right)) Z.dJ)))) (λ_ _ _ _=>Z.jA) (λ_ _ _ _=>(Z.tup (Z.cons (Z.op (Y.nW K rfl) (Z.ix (Z.aF K rfl hu) (Z.v 0) Z.int) (Z.ix (Z.aF K rfl hu) (Z.v 1) Z.int)) (Z.cons (Z.op (Y.nW K rfl) (Z.ix (Z.aF K rfl hu) (Z.v 0) Z.int) (Z.ix (Z.aF K rfl hu) (Z.v 1) Z.int)) Z.nil))))))),?_⟩
  exists FN,gh;refine⟨a,_,rfl,a_.of ha,λp1 hp1=>?_⟩;have k1:=KB.new (ex:=[]) (o:=.lst (iz ((Us.map Prod.fst).drop 0))) hp1;have s1:upd H p1 (.lst (iz ((Us.map Prod.fst).drop 0))) p1=_:=aa;generalize upd H p1 (.lst (iz ((Us.map Prod.fst).drop 0)))=H1 at *;refine⟨a,_,rfl,a_.of (k1 _ _ ha (by simp)),λp2 hp2=>?_⟩
  have k2:=KB.new (ex:=[]) (o:=.lst (iz ((Us.map Prod.fst).drop 1))) hp2;have s2:upd H1 p2 (.lst (iz ((Us.map Prod.fst).drop 1))) p2=_:=aa;generalize upd H1 p2 (.lst (iz ((Us.map Prod.fst).drop 1)))=H2 at *;have s1':=k2 _ _ s1 (by simp)
  have k12:=k1.trans k2;refine⟨(true,p1),(true,p2),⟨rfl,rfl⟩,⟨_,a_.of s1'⟩,⟨_,a_.of s2⟩,λn=>?_⟩;have l1:(iz ((Us.map Prod.fst).drop 0)).length=(Us.length+1) / 2:=by rw[iy,LD,K2]
  have l2:(iz ((Us.map Prod.fst).drop 1)).length=Us.length / 2:=by rw[iy,Ly,K2];lia
  have pl:(Pn.pk (Us.map Prod.snd)).length=Us.length / 2:=by rw[Pn.oh,K2]
  refine sU (xs:=iz ((Us.map Prod.fst).drop 0)) (ys:=iz ((Us.map Prod.fst).drop 1)) (KA (show _<=64 by lia) (by decide)) (by lia) (λD i ws G=>H2 D=none/\G D=some (.lst ws)/\KB [] H2 G/\∃Vs:List (V×List Nat),ws=Vs.map Prod.fst/\(∀z∈Vs,xA D G z)/\Vs.length=i/\Vs.map Prod.snd=(Pn.pk (Us.map Prod.snd)).take i) (λD hD=>⟨hD,aa,KB.new hD,[],rfl,(λz hz=>absurd hz Ln),rfl,rfl⟩) (λD i ws G h=>⟨h.2.1,by obtain⟨_,_,_,Vs,rfl,_,e,_⟩:=h;rw[K2,e]⟩) (λD i ws G h=>⟨a_.of (h.2.2.1 _ _ s1' (by simp)),a_.of (h.2.2.1 _ _ s2 (by simp))⟩) ?_ ?_
  ·rintro D i ws G x y p R hx hy ⟨g0,g1,gk,Vs,rfl,gi,gl,gs⟩ hp kk;rw[rB,LD] at hx;rw[rB,Ma,show 1+2*i=2*i+1 by lia] at hy
   obtain⟨z1,e1,rfl⟩:=oN hx;obtain⟨z2,e2,rfl⟩:=oN hy;have kz:=KB.new (ex:=[]) (o:=.tup [z1.1,z2.1]) hp;generalize upd G p (.tup [z1.1,z2.1])=G1 at *;have kG:=gk.trans kz;have m1:=Lu e1;have m2:=Lu e2;obtain⟨a1,b1,w1,v1,t1,c1⟩:=((hz z1 m1).kb k12).kb kG;obtain⟨a2,b2,w2,v2,t2,c2⟩:=((hz z2 m2).kb k12).kb kG;have n1:=qu (Mj (f:=Prod.snd) m1);have n2:=qu (Mj (f:=Prod.snd) m2);have ep:(Pn.pk (Us.map Prod.snd))[i]?=some (z1.2++z2.2):=by rw[Pn.Eb,K8,K8,e1,e2];rfl
   rw[v1,v2];have at0:∀(u:Int) (v:V),bC [V.int u,v] 0=some (.int u):=λu v=>rfl;have at1:∀(u:Int) (v:V),bC [V.int u,v] 1=some v:=λu v=>rfl;exists aC t1,aC t2,at0,at1;refine J5 ?_;exists aC t1,aC t2,at0,at1;refine HG c1 c2 (by rw[bj,bj,cf,cf];exact KA (show _<=2000 by lia) (by decide)) λl hl'=>?_
   have kl:=KB.new (ex:=[]) (o:=.lst (iV (nZ z1.2)++iV (nZ z2.2))) hl';have sl':upd G1 l (.lst (iV (nZ z1.2)++iV (nZ z2.2))) l=_:=aa;have gD:=kz _ _ g1 (by simp)
   have lD:l≠D:=λz=>by rw[z,gD] at hl';cases hl'
   generalize upd G1 l (.lst (iV (nZ z1.2)++iV (nZ z2.2)))=G2 at *;refine⟨by decide,λt ht'=>?_⟩
   have kt:=KB.new (ex:=[]) (o:=.tup [.int (w1+w2),.ref l]) ht';have st':upd G2 t (.tup [.int (w1+w2),.ref l]) t=_:=aa;generalize upd G2 t (.tup [.int (w1+w2),.ref l])=G3 at *;have kk3:=kz.trans (kl.trans kt);have gD3:=kk3 _ _ g1 (by simp)
   refine kk _ _ gD3 ⟨g0,aa,λu o e _=>by rw[af (ae e g0)];exact kk3 _ _ (gk _ _ e (by simp)) (by simp),Vs++[(.ref t,z1.2++z2.2)],by rw[KN];rfl,λz hz'=>?_,by rw[K6,gl];rfl,?_⟩
   ·rcases Lq.mp hz' with h|h
    ·exact ((gi z h).kb kk3).set gD3
    ·rw[KU.mp h];refine xA.set ⟨t,l,w1+w2,rfl,st',?_,lD⟩ gD3;rw[kt _ _ sl' (by simp)]
     unfold iV nZ;rw[KN,KN]
   ·rw[KN,gs,L8,ep];rfl
  ·rintro D ws G ⟨g0,g1,gk,Vs,rfl,gi,gl,gs⟩;refine q Vs D G (k12.trans gk) g1 (λz hz'=>(gi z hz').it) ?_;rw[gs,L9 (by rw[l2,pl];lia)]
theorem Ba{B:n8}(l:List Int):cV K H B (iV l) (l.map T.int):=by
 induction l with
 |nil=>exact .nil
 |cons x l ih=>exact .cons (.int x) ih
theorem CZ(x:Int):Y.Eg (.int x) (.int x)=true:=by unfold Y.Eg;exact Li rfl
theorem vb(n:Nat)(x:Int):mQ n (.int x) (.int x) true:=by
 have:=mQ.flat (n:=n) (t:=.int x) (u:=.int x) rfl rfl
 rwa [CZ] at this
theorem uI(n:Nat)(x:Str):mQ n (.str x) (.str x) true:=by
 have:=mQ.flat (n:=n) (t:=.str x) (u:=.str x) rfl rfl
 rwa [show Y.Eg (.str x) (.str x)=true from by unfold Y.Eg;exact Li rfl] at this
theorem all_true(n:Nat):kP n n (λ_=>true)=true:=ja rfl λ_ _=>rfl
theorem xG(n:Nat)(l:List Int):mQ (n+1) (.tup (l.map T.int)) (.tup (l.map T.int)) true:=by
 have:=mQ.tup (n:=n) (xs:=l.map T.int) (ys:=l.map T.int) (λ_=>true) λj x y h1 h2=>by
  rw[h1] at h2;cases h2;rw[K8] at h1;obtain⟨k,_,rfl⟩:=Lc.mp h1;exact vb n k
 rwa [all_true] at this
def no:n8:=λ_=>False
theorem vC{neg:Bool}{b:Addr}{vs ws:List V}{xs:List T}(ha:H a=some (.tup vs))(hb:H b=some (.tup ws))(r1:cV K H no vs xs)(r2:cV K H no ws xs)(he:∀x∈xs,mQ 4 x x true)(q:Q (.bl (!neg)) H):Y.zW K 4 neg (.ref a) (.ref b) H Q:=by
 refine⟨no,a,b,vs,ws,xs,xs,λ_=>true,rfl,rfl,.inl ⟨aX.of ha,aX.of hb⟩,r1,r2,λj x y h1 h2=>?_,?_⟩
 ·rw[h1] at h2;cases h2;exact he x (Lu h1)
 ·rw[all_true]
  cases neg<;>exact q
theorem uH{p:Addr}{l:List Int}(h:H p=some (.tup (iV l))):Rep K H no (.ref p) (.tup (l.map T.int)):=.tup (λz=>z) h (Ba l)
theorem vx(h:H a=some (.tup xs))(q1:dQ xs lo hi=xs->Q (.ref a) H)(q2:∀p,H p=none->Q (.ref p) (upd H p (.tup (dQ xs lo hi)))):Y.yu K (.ref a) lo hi H Q:=by
 by_cases z:HT.bI xs.length 0 lo=0/\HT.bI xs.length xs.length hi=xs.length
 ·exact .inr (.inr ⟨a,xs,rfl,aX.of h,z.1,z.2,q1 (by unfold dQ;rw[z.1,z.2,MZ,LD,Lz])⟩)
 ·exact .inr (.inl ⟨a,xs,rfl,aX.of h,z,q2⟩)
theorem jU(xs:List V)(n:Nat):dQ xs none (some (n:Int))=xs.take n:=by
 unfold dQ;rw[HT.cY,HT.cX,LD,MZ];rcases P9 n xs.length with c|c
 ·rw[NJ c]
 ·rw[Ox c,Lz,L9 c]
theorem qc(xs:List V)(v:V):bC (xs++[v]) (-1)=some v:=by
 have hl:(xs++[v]).length=xs.length+1:=by rw[K6];rfl
 unfold bC iF;rw[KJ (by decide),hl,KO (by lia),show (-1+((xs.length+1:Nat):Int)).toNat=xs.length by lia]
 show (xs++[v])[xs.length]?=_;rw[Le (KH _),LU];rfl
theorem rG{tc:TT}(hn:xs.length<=sizeLine)(Pv:Addr->Nat->List V->Hp->Prop)(h0:∀D,H D=none->Pv D 0 [] (upd H D (.lst [])))(hD:∀D i ys H',Pv D i ys H'->H' D=some (.lst ys)/\ys.length<=i)
  (hl:∀D i ys H',Pv D i ys H'->aX K H' a xs)
  (hs:∀D i ys H' x (R:Bool->Hp->Prop),xs[i]?=some x->Pv D i ys H'->(∀H4,Pv D (i+1) ys H4->R false H4)->(∀H4,(te (some x::σ) H4 λv H5=>H5 D=some (.lst ys)/\Pv D (i+1) (ys++[v]) (upd H5 D (.lst (ys++[v]))))->R true H4)->tc (some x::σ) H' R) (hd:∀D ys H',Pv D xs.length ys H'->Q (.ref D) H')
  (mono:∀σ H (A B:VK),(∀v H,A v H->B v H)->te σ H A->te σ H B):gU (tX K a) 1 (aL 0) tc te Q σ H:=by
 intro D hD0;refine⟨λi m ys σ' H'=>m=xs.length-i/\i<=xs.length/\Pv D i ys H'/\∃o,σ'=o::σ,⟨xs.length,by simp,KW _,h0 D hD0,none,rfl⟩,?_⟩
 rintro i m ys σ' H' ⟨rfl,hi,p,o,rfl⟩;obtain⟨hDi,hly⟩:=hD _ _ _ _ p;have q:=hl _ _ _ _ p;refine⟨hDi,?_⟩;by_cases hlt:i<xs.length
 ·refine .inr ⟨⟨xs,xs[i],q,by simp[hlt]⟩,by lia,λx H2 y=>?_⟩
  obtain⟨rfl,y⟩:=y;unfold aL;dsimp only;refine hs D i ys H2 x _ (y xs q) p (λH4 p4=>?_) (λH4 p4=>?_)
  ·rw[KJ KP];exact⟨xs.length-(i+1),by lia,rfl,hlt,p4,_,rfl⟩
  ·rw[KO rfl];exact mono _ _ _ _ (λv H5 h=>⟨h.1,xs.length-(i+1),by lia,rfl,hlt,h.2,_,rfl⟩) p4
 ·have e:i=xs.length:=by lia
  subst e;exact .inl ⟨⟨xs,q,KH _⟩,hd D ys H' p⟩
theorem Dg(h:H a=some (.lst xs))(q:∀p,H p=none->Q (.ref p) (upd H p (.lst (dQ xs lo hi)))):Y.yu K (.ref a) lo hi H Q:=.inl ⟨a,xs,rfl,a_.of h,q⟩
def qY:Sp:=λvs H Q _=>∃(c:Addr) (ks:List Nat) (b:Nat),vs=[.ref c,.int (b:Nat)]/\H c=some (.tup (iV (nZ ks)))/\2<=ks.length/\ks.length<=20/\1<=b/\b<=40/\∀(S:List (List Nat)) (d:Addr) H',Pn.fw ks.length b S->KB [] H H'->H' d=some (.lst (iV (nZ (S.take (2*ks.length-2)).flatten)))->Q (.ref d) H'
theorem vE(T:Txt K mg)(F:HasFn K mg "chosen_things" cM ["counts","bound"])(hby_worth:ao P w K mg base aS 4 "by_worth" ["shelf"] u4)(hpacks_of:ao P w K mg base aS 1 "packs_of" ["shelf"] uV):ao P w K mg base aS 5 "chosen_things" ["counts","bound"] qY:=by
 refine F.dR bu (λvs H Q E h=>?_) (λf cdv A outer s H vs Q E hr h=>?_)
 ·obtain⟨c,ks,b,rfl,_⟩:=h;rfl
 ·have hu:=aN hr;obtain⟨c,ks,b,rfl,hc,hn2,hn,hb1,hb,q⟩:=h;refine⟨_,(Z.aq (Z.sec (j:=2) bu.nd (osc:=ab cM) (ON:=["counts","bound","coins","shelf","depth","chosen","item"]) (own:=["thing","count"]) (N:=["thing","count","counts","bound","coins","shelf","depth","chosen","item"]) (aA.of rfl (by decide +kernel)) (Z.enum K rfl rfl T.cR (Z.cons (Z.v 0) Z.nil)) (λnd _ _ _ _=>(Z.gQ (n:=2) K rfl rfl (Z.aZ (Z.aG (i:=0) nd rfl (by right)) (Z.aZ (Z.aG (i:=1) nd rfl (by right)) Z.dJ)))) (λ_ _ _ _=>Z.jA) (λ_ _ _ _=>(Z.tup (Z.cons (Z.v 1) (Z.cons (Z.lst (Z.cons (Z.v 0) Z.nil)) Z.nil)))))
   (Z.aq (Z.se (i:=3) bu.nd (Z.fc hby_worth (Z.cons (Z.v 2) Z.nil)))
   (Z.aq (Z.dO Lm rfl (Z.J7 rfl T.cA (Z.cons Z.int (Z.cons (Z.v 1) Z.nil))) (Z.aG (i:=4) bu.nd rfl (by right)) (Z.az (Z.se (i:=3) bu.nd (Z.fc hby_worth (Z.cons (Z.op (Y.nW K rfl) (Z.v 2) (Z.fc hpacks_of (Z.cons (Z.v 3) Z.nil))) Z.nil)))))
   (Z.aq (Z.se (i:=5) bu.nd (Z.lst Z.nil))
   (Z.aq (Z.dO Lm rfl (Z.any K rfl (Z.slice (Y.Dk K rfl) (Z.v 3) Z.t9 (Z.oW (Z.op cZ (Z.op cu Z.int (Z.cb (Z.cx K rfl) rfl T.cp (by decide +kernel) (Z.cons (Z.v 0) Z.nil))) Z.int)))) (Z.aG (i:=6) bu.nd rfl (by right)) (Z.az (Z.expr (Z.bm K rfl PySem.F.plainAttrs_list PySem.F.slot_list_extend PySem.F.type_list_extend Y.G9 (Z.v 5) (Z.cons (Z.ix (Z.aF K rfl hu) (Z.v 6) Z.int) Z.nil)))))
   (Z.az (Z.ret (Z.v 5)))))))),?_⟩
  refine ar λN hN=>?_;exists aC hc;refine⟨⟨_,aX.of hc⟩,?_⟩;refine jz (xs:=iV (nZ ks)) (KA (show _<=20 by rw[bj,cf];exact hn) (by decide)) (λD i ws G=>H D=none/\G D=some (.lst ws)/\KB [] H G/\∃Vs:List (V×List Nat),ws=Vs.map Prod.fst/\(∀z∈Vs,xA D G z)/\Vs.length=i/\Vs.map Prod.snd=Pn.coins i) (λD hD=>⟨hD,aa,KB.new hD,[],rfl,(λz hz=>absurd hz Ln),rfl,rfl⟩) (λD i ws G h=>⟨h.2.1,by obtain⟨_,_,_,Vs,rfl,_,e,_⟩:=h;rw[K2,e]⟩) (λD i ws G h=>aX.of (h.2.2.1 _ _ hc (by simp))) ?_ ?_
  ·rintro D i ws G x p R hx ⟨g0,g1,gk,Vs,rfl,gi,gl,gs⟩ hp kk;obtain⟨hi,rfl⟩:=kn hx;generalize (nZ ks)[i]=ct at *;have kz:=KB.new (ex:=[]) (o:=.tup [.int (i:Nat),.int ct]) hp;generalize upd G p (.tup [.int (i:Nat),.int ct])=G1 at *;walk_at "rz";refine⟨by decide,λl hl'=>?_⟩
   have kl:=KB.new (ex:=[]) (o:=.lst [.int (i:Nat)]) hl';have sl':upd G1 l (.lst [.int (i:Nat)]) l=_:=aa;have gD:=kz _ _ g1 (by simp)
   have lD:l≠D:=λz=>by rw[z,gD] at hl';cases hl'
   generalize upd G1 l (.lst [.int (i:Nat)])=G2 at *;refine⟨by decide,λt ht'=>?_⟩
   have kt:=KB.new (ex:=[]) (o:=.tup [.int ct,.ref l]) ht';have st':upd G2 t (.tup [.int ct,.ref l]) t=_:=aa;generalize upd G2 t (.tup [.int ct,.ref l])=G3 at *;have kk3:=kz.trans (kl.trans kt);have gD3:=kk3 _ _ g1 (by simp)
   refine kk _ _ gD3 ⟨g0,aa,λu o e _=>by rw[af (ae e g0)];exact kk3 _ _ (gk _ _ e (by simp)) (by simp),Vs++[(.ref t,[i])],by rw[KN];rfl,λz hz'=>?_,by rw[K6,gl];rfl,by rw[KN,gs,Pn.lV];rfl⟩
   rcases Lq.mp hz' with h|h
   ·exact ((gi z h).kb kk3).set gD3
   ·rw[KU.mp h];exact xA.set ⟨t,l,ct,rfl,st',kt _ _ sl' (by simp),lD⟩ gD3
  rintro D ws H1 ⟨g0,g1,gk,Vs,rfl,gi,gl,gs⟩;rw[bj,cf] at gl gs;have gi':∀z∈Vs,vG H1 z:=λz hz=>(gi z hz).it;clear gi;show N _ _;rw[hN];clear hN N;refine ar λN hN=>?_;walk_at "rz";refine⟨D,Vs,rfl,g1,gi',by lia,λZ0 s0 H2 hpm k2 hs0=>?_⟩
  rw[hN];clear hN N;have sh0:Pn.fw ks.length 1 (Z0.map Prod.snd):=⟨[],rfl,by rw[show Pn.pk []=[] from by simp[Pn.pk],LF,<- gs];exact hpm.map _⟩
  have it0:∀z∈Z0,vG H2 z:=λz hz=>(gi' z (hpm.mem_iff.mp hz)).kb k2;refine ar λN hN=>?_;walk_at "rz";have eb:((b:Int)-1).toNat=b-1:=by lia
  refine⟨1,b,⟨rfl,rfl⟩,⟨by decide,by decide,by lia,by lia⟩,?_⟩
  rw[eb];refine bL (λi σ G=>∃(o:Option V) (Us:List (V×List Nat)) (sa:Addr),i<=b-1/\KB [] H1 G/\G sa=some (.lst (Us.map Prod.fst))/\(∀z∈Us,vG G z)/\Pn.fw ks.length (i+1) (Us.map Prod.snd)/\σ=[some (.ref c),some (.int (b:Nat)),some (.ref D),some (.ref sa),o,none,none]) ⟨none,Z0,s0,KW _,k2,hs0,it0,sh0,rfl⟩ ?_ ?_
  ·rintro i σ G hi ⟨o,Us,sa,hib,kG,hsa,hit,hsh,rfl⟩;have hln:=hsh.len (by lia)
   rw[K2] at hln;have hth:=hsh.th;have hth2:ks.length*(i+1)<=20*40:=OK hn (by lia)
   unfold aL;dsimp only;refine jN λM hM=>?_;walk_at "rz";refine⟨sa,Us,rfl,hsa,hit,by lia,by lia,λYp b' G1 k1 hb' hit' hsn=>?_⟩
   have hpl:=Pn.oh (Us.map Prod.snd);rw[<- hsn,K2,K2] at hpl;refine HG (k1 _ _ (kG _ _ g1 (by simp)) (by simp)) hb' (by rw[K2,K2];exact KA (show _<=100 by lia) (by decide)) λl hl'=>?_
   rw[<- KN];have kl:=KB.new (ex:=[]) (o:=.lst ((Vs++Yp).map Prod.fst)) hl';have sl':upd G1 l (.lst ((Vs++Yp).map Prod.fst)) l=_:=aa;generalize upd G1 l (.lst ((Vs++Yp).map Prod.fst))=G2 at *;have k12:=kG.trans (k1.trans kl);refine⟨l,Vs++Yp,rfl,sl',λz hz=>?_,by rw[K6];lia,λUs' s' G3 hpm' k3 hs'=>?_⟩
   ·rcases Lq.mp hz with h|h
    ·exact (gi' z h).kb k12
    ·exact (hit' z h).kb kl
   rw[hM];refine⟨_,Us',s',hi,k12.trans k3,hs',λz hz=>?_,⟨_,hsh,?_⟩,rfl⟩
   ·rcases Lq.mp (hpm'.mem_iff.mp hz) with h|h
    ·exact ((gi' z h).kb k12).kb k3
    ·exact ((hit' z h).kb kl).kb k3
   ·rw[<- gs,<- hsn,<- KN];exact hpm'.map _
  ·rintro σ G ⟨o,Us,sa,_,kG,hsa,hit,hsh,rfl⟩;rw[show b-1+1=b by lia] at hsh
   show N _ _;rw[hN];clear hN N;refine ar λN hN=>?_;walk_at "rz";refine⟨KW _,λch hch=>?_⟩;have kc:=KB.new (ex:=[]) (o:=.lst []) hch;have sc':upd G ch (.lst []) ch=some (.lst []):=aa;generalize upd G ch (.lst [])=G1 at *;rw[hN];clear hN N;have hc1:=kc _ _ (kG _ _ (gk _ _ hc (by simp)) (by simp)) (by simp)
   refine ar λN hN=>?_;have el:(2*(((iV (nZ ks)).length:Nat):Int)-2)=((2*ks.length-2:Nat):Int):=by rw[bj,cf];lia
   exists aC hc1,el;refine⟨.inl ⟨by decide,by decide⟩,?_⟩
   refine Dg (kc _ _ hsa (by simp)) λp hp=>?_
   rw[jU,<- ME];have kp:=KB.new (ex:=[]) (o:=.lst ((Us.take (2*ks.length-2)).map Prod.fst)) hp;have sp':upd G1 p (.lst ((Us.take (2*ks.length-2)).map Prod.fst)) p=_:=aa;have hpc:p≠ch:=λz=>by rw[z,sc'] at hp;cases hp
   have sc2:=kp _ _ sc' (by simp)
   generalize upd G1 p (.lst ((Us.take (2*ks.length-2)).map Prod.fst))=G2 at *;have hth:=hsh.th;have hth2:ks.length*b<=20*40:=OK hn hb;have eS:(Us.take (2*ks.length-2)).map Prod.snd=(Us.map Prod.snd).take (2*ks.length-2):=ME;have hsub:∀z∈Us.take (2*ks.length-2),vG G z:=λz hz=>hit z (M8 hz);have hfl:((Us.take (2*ks.length-2)).map Prod.snd).flatten.length<=800:=by
    have e2:(Us.map Prod.snd).flatten=((Us.map Prod.snd).take (2*ks.length-2)).flatten++((Us.map Prod.snd).drop (2*ks.length-2)).flatten:=by rw[<- Mk,LI]
    rw[e2,K6] at hth;rw[eS];lia
   have q':=q (Us.map Prod.snd) ch;rw[<- eS] at q';generalize Us.take (2*ks.length-2)=W at *;have kHG:KB [] H G:=gk.trans kG;have hchH:H ch=none:=kHG.free (by simp) hch
   exists au sp';refine fj (xs:=W.map Prod.fst) (λj σ G'=>∃o2:Option V,j<=W.length/\KB [] G G'/\G' p=some (.lst (W.map Prod.fst))/\G' ch=some (.lst (iV (nZ ((W.take j).map Prod.snd).flatten)))/\σ=[some (.ref c),some (.int (b:Nat)),some (.ref D),some (.ref sa),o,some (.ref ch),o2]) ⟨none,KW _,kc.trans kp,sp',sc2,rfl⟩ (λj σ G' _ h=>by obtain⟨_,_,_,h,_⟩:=h;exact a_.of h) ?_ ?_
   ·rintro j x σ G' hx ⟨o2,hj,k',hp',hc',rfl⟩;obtain⟨z,ez,rfl⟩:=oN hx;have hjl:=(K7.mp ez).1;obtain⟨a1,b1,w1,v1,t1,c1⟩:=hsub z (Lu ez);have bc:b1≠ch:=λe=>by rw[e,hch] at c1;cases c1
    have t1':=k' _ _ t1 (by simp)
    have c1':=k' _ _ c1 (by simp)
    have e3:(W.take (j+1)).map Prod.snd=(W.take j).map Prod.snd++[z.2]:=by rw[L8,ez,KN];rfl
    have hlen:(((W.take j).map Prod.snd).flatten).length+z.2.length<=800:=by
     have e4:(W.map Prod.snd).flatten=((W.take (j+1)).map Prod.snd).flatten++((W.drop (j+1)).map Prod.snd).flatten:=by rw[<- Mk,<- KN,LI]
     rw[e4,e3,Mk,K6,K6] at hfl;simp at hfl;simp;lia
    unfold aL;rw[v1];dsimp only;refine jN λM hM=>?_;have at1:∀(u:Int) (v:V),bC [V.int u,v] 1=some v:=λu v=>rfl;exists aC t1',at1;refine⟨.inl ⟨rfl,_,a_.of hc'⟩,?_⟩;exists aC t1',at1;refine⟨ch,b1,_,_,rfl,rfl,bc,hc',c1',by rw[bj,bj,cf,cf];exact Nat.le_trans (show _<=800 from hlen) (by decide),?_⟩
    rw[hM];refine⟨_,hjl,λu o e _=>by rw[af (ae e hch)];exact k' _ _ e (by simp),by rw[af hpc];exact hp',?_,rfl⟩
    rw[aa,e3,Mk];unfold iV nZ;simp
   ·rintro σ G' ⟨o2,_,k',hp',hc',rfl⟩;show N _ _;rw[hN];clear hN N;walk_at "rz";rw[K2,Lz] at hc';exact q' G' hsh (kHG.trans k') hc'
theorem EY(L l n:Nat):Kr.ks L (List.replicate n l)=n*2^(L-l):=by
 induction n with
 |zero=>simp[Kr.ks]
 |succ n ih=>rw[L6,Kr.ks,ih,NM];lia
theorem Ff(l:List Nat)(i:Nat):(nZ l).count (i:Int)=l.count i:=by
 induction l with
 |nil=>rfl
 |cons x l ih =>
  unfold nZ at *;rw[Lp,OB,OB,ih];congr 1;by_cases h:x=i
  ·subst h;simp
  ·have:¬ (x:Int)=(i:Int):=by lia
   simp[h,this]
theorem sG(T:Txt K mg)(F:HasFn K mg "least_lengths" bW ["counts","bound"])(hcan_be:ao P w K mg base aS 1 "can_be" ["lengths"] (zY K))(hchosen_things:ao P w K mg base aS 5 "chosen_things" ["counts","bound"] qY):ao P w K mg base aS 6 "least_lengths" ["counts","bound"] qB:=by
 refine F.dR dz (λvs H Q E h=>?_) (λf cdv A outer s H vs Q E hr h=>?_)
 ·obtain⟨c,ks,rfl,_⟩:=h;rfl
 ·have hu:=aN hr;obtain⟨c,ks,rfl,hc,hn8,hn,q⟩:=h;refine⟨_,(Z.aq (Z.se (i:=2) dz.nd (Z.cb (Z.cx K rfl) rfl T.cp (by decide +kernel) (Z.cons (Z.v 0) Z.nil)))
   (Z.aq (Z.dW (Z.tw (Z.IX (Z.bp iC (Z.v 1) Z.int) (Z.Ck (Z.AS (Z.pI K rfl (Z.fc hcan_be (Z.cons (Z.o_ (osc:=ab bW) (ON:=["counts","bound","things","chosen"]) (own:=["count"]) (N:=["count","counts","bound","things","chosen"]) (aA.of rfl (by decide +kernel)) (Z.any K rfl (Z.v 0)) (λnd _ _ _ _=>(Z.aG (i:=0) nd rfl (by right))) (λ_ _ _ _=>Z.jA) (λ_ _ _ _=>(Z.v 2))) Z.nil))))))) (Z.az Z.IP) Z.bB)
   (Z.aq (Z.dW (Z.bp cc (Z.v 2) Z.int) (Z.az (Z.ret (Z.tup (Z.cons Z.int Z.nil)))) Z.bB)
   (Z.aq (Z.se (i:=3) dz.nd (Z.fc hchosen_things (Z.cons (Z.v 0) (Z.cons (Z.cb (jg rfl) rfl T.Ag (by decide +kernel) (Z.cons (Z.v 1) (Z.cons (Z.op cZ (Z.v 2) Z.int) Z.nil))) Z.nil))))
   (Z.az (Z.ret (Z.ct (Z.cm K rfl) rfl T.cq (by decide +kernel) (Z.cons (Z.o_ (osc:=ab bW) (ON:=["counts","bound","things","chosen"]) (own:=["thing"]) (N:=["thing","counts","bound","things","chosen"]) (aA.of rfl (by decide +kernel)) (Z.ke rfl T.cA (Z.cons (Z.v 2) Z.nil)) (λnd _ _ _ _=>(Z.aG (i:=0) nd rfl (by right))) (λ_ _ _ _=>Z.jA) (λ_ _ _ _=>(Z.bm K rfl PySem.F.plainAttrs_list PySem.F.slot_list_count PySem.F.type_list_count Y.Fe (Z.v 4) (Z.cons (Z.v 0) Z.nil)))) Z.nil)))))))),?_⟩
  refine ar λN hN=>?_;exists aC hc;rw[bj,cf,hN];clear hN N;refine ar λN hN=>?_;refine xy λA B hA hB=>?_;exists aC hc,KJ (show ¬ (12:Int)<1 by decide)
  refine bF (xs:=iV (nZ ks)) (KA (show _<=20 by rw[bj,cf];lia) (by decide)) (λD i ys G=>H D=none/\G D=some (.lst ys)/\KB [] H G/\ys=iV (List.replicate i 12)) (λD hD=>⟨hD,aa,KB.new hD,rfl⟩) (λD i ys G h=>⟨h.2.1,by rw[h.2.2.2,bj,KY]⟩) (λD i ys G h=>aX.of (h.2.2.1 _ _ hc (by simp))) ?_ ?_
  ·rintro D i ys G x R hx ⟨g0,g1,gk,rfl⟩ kk;walk_at "rz";refine kk _ _ g1 ⟨g0,aa,λu o e _=>by rw[af (ae e g0)];exact gk _ _ e (by simp),?_⟩
   rw[List.replicate_succ',f9];rfl
  rintro D ys H1 ⟨g0,g1,gk,rfl⟩;rw[bj,cf] at g1;refine⟨D,_,rfl,.inr g1,⟨by rw[KY];lia,by rw[KY];lia,λx hx=>by rw[List.eq_of_mem_replicate hx];decide⟩,λH2 k2=>?_⟩
  have ho:jG (List.replicate ks.length 12)=true:=by
   unfold jG KS;rw[MO,EY];exact Li (KA (OC _ hn) (by decide))
  exists ho,Qz;rw[KJ (λz=>Bool.noConfusion z),hB];clear hA hB A B;have hc2:=k2 _ _ (gk _ _ hc (by simp)) (by simp)
  walk_at "rz";rw[hN];clear hN N;refine ar λN hN=>?_;refine xy λA B hA hB=>?_;exists KJ (show ¬ ((ks.length:Nat):Int)=1 by lia)
  rw[hB];clear hA hB A B;walk_at "rz";rw[hN];clear hN N;refine ar λN hN=>?_;have eb:(if ((ks.length:Nat):Int)-1<12 then ((ks.length:Nat):Int)-1 else 12)=((min 12 (ks.length-1):Nat):Int):=by split<;>lia
  exists eb;refine⟨c,ks,min 12 (ks.length-1),rfl,hc2,by lia,by lia,by lia,by lia,λS d H3 hS k3 hd=>?_⟩
  rw[hN];clear hN N;have k03:KB [] H H3:=gk.trans (k2.trans k3);walk_at "rz";refine⟨by lia,by lia,?_⟩
  rw[Lg];refine j6 (KA (show _<=20 by lia) (by decide)) (λD i ys G=>H3 D=none/\G D=some (.lst ys)/\KB [] H3 G/\ys=iV ((List.range i).map λi=>(((S.take (2*ks.length-2)).flatten.count i:Nat):Int))) (λD hD=>⟨hD,aa,KB.new hD,rfl⟩) (λD i ys G h=>⟨h.2.1,by rw[h.2.2.2,bj,K2,Lo]⟩) ?_ ?_
  ·rintro D' i ys G R hi ⟨g0',g1',gk',rfl⟩ kk;have hd':=gk' _ _ hd (by simp)
   walk_at "rz";refine⟨.inl ⟨rfl,_,a_.of hd'⟩,d,_,_,rfl,hd',rfl,?_⟩;rw[Q8,Ff];refine kk _ _ g1' ⟨g0',aa,λu o e _=>by rw[af (ae e g0')];exact gk' _ _ e (by simp),?_⟩
   rw[M7,KN,f9];rfl
  rintro D' ys G ⟨g0',g1',gk',rfl⟩;exists au g1';intro t ht;have hp:ks.length<=2^min 12 (ks.length-1):=KA hn (KA (show 17<=2^7 by decide) (M9 (by decide) (by lia)))
  obtain⟨L1,L2⟩:=zA hS (by lia) (by lia) hp (by lia) rfl
  exact q _ t _ (k03.trans (gk'.trans (KB.new ht))) aa (by rw[K2,Lo]) L1 L2
noncomputable def Iv:iN->Option Int
 |.jump g=>some g
 |.zero _ g=>some g
 |_=>none
def kO(r:iN):V:=match Iv r with
 |some g=>.int g
 |none=>.aO
def nG:Sp:=λvs H Q _=>∃(p:Addr) (r:iN),vs=[.ref p]/\H p=some (.tup r.vs)/\Q (kO r) H
theorem A2(T:Txt K mg)(F:HasFn K mg "goal_of" je ["row"]):ao P w K mg base aS 1 "goal_of" ["row"] nG:=by
 obtain⟨dS,hg_SHAPES,hd0⟩:=T.lR;have hd_SHAPES:kx K dS bH:=hd0;refine F.dR tH (λvs H Q E h=>?_) (λf cdv A outer s H vs Q E hr h=>?_)
 ·obtain⟨p,r,rfl,_⟩:=h;rfl
 ·have hu:=aN hr;obtain⟨p,r,rfl,hp,q⟩:=h;refine⟨_,(Z.az (Z.ret (Z.ER (Z.bp (Z.Hj K rfl) Z.str (Z.Jk K rfl rfl hg_SHAPES hd_SHAPES (Z.ix (Z.aF K rfl hu) (Z.v 0) Z.int))) (Z.ix (Z.aF K rfl hu) (Z.v 0) (Z.un cP Z.int)) Z.aO))),?_⟩;have sp:=aC hp;have kt1:∀{pk:Addr} {xs:List V},IS K pk xs->a_ K H pk xs\/aX K H pk xs:=λh=>.inr (.inr h);obtain⟨w,ws,e0,ed,ef,h⟩:∃(w:Str) (ws:List Str),bC r.vs 0=some (.str w)/\KTD.datumAt w bH=some ws/\(ws.map V.str).all cK=true/\(jF (.str "goal") (ws.map V.str)=true/\bC r.vs (-1)=some (kO r)\/jF (.str "goal") (ws.map V.str)=false/\kO r=.aO):=by
   cases r with
   |jump g=>exact⟨_,_,rfl,(by decide +kernel:KTD.datumAt ("jump":Str) bH=some [("goal":Str)]),rfl,.inl ⟨by decide +kernel,rfl⟩⟩
   |zero b g=>exact⟨_,_,rfl,(by decide +kernel:KTD.datumAt ("zero":Str) bH=some [("box":Str),"goal"]),rfl,.inl ⟨by decide +kernel,rfl⟩⟩
   |put b n=>exact⟨_,_,rfl,(by decide +kernel:KTD.datumAt ("put":Str) bH=some [("box":Str),"number"]),rfl,.inr ⟨by decide +kernel,rfl⟩⟩
   |two u b c=>exact⟨_,_,rfl,(by decide +kernel:∀u:_root_.Fin 3,KTD.datumAt (w2 u) bH=some [("box":Str),"box"]) u,rfl,.inr ⟨by decide +kernel,rfl⟩⟩
   |one u b=>exact⟨_,_,rfl,(by decide +kernel:∀u:_root_.Fin 2,KTD.datumAt (w1 u) bH=some [("box":Str)]) u,rfl,.inr ⟨by decide +kernel,rfl⟩⟩
   |halt=>exact⟨_,_,rfl,(by decide +kernel:KTD.datumAt ("halt":Str) bH=some ([]:List Str)),rfl,.inr ⟨by decide +kernel,rfl⟩⟩
  exists sp,e0;refine⟨_,_,rfl,ed,λpk kt=>⟨pk,_,rfl,kt1 kt,rfl,ef,?_⟩⟩;refine⟨_,rfl,?_⟩;rcases h with ⟨h1,h2⟩|⟨h1,h2⟩
  ·rw[KJ KP,h1,KO rfl];simp only[sp,h2];exact q
  ·rw[KJ KP,h1,KJ KP];rw[h2] at q;exact q
def xE(cd:List (List (List Nat)))(rs:List Row):List V:=rs.map λr=>.str (wd (bf cd r))
theorem Jn(r:Row):r.vs=(r.m (((ay r).getD 0:Nat):Int)).vs:=by cases r<;>rfl
theorem GP(r:Row):kO (r.m (((ay r).getD 0:Nat):Int))=aT (ay r):=by cases r<;>rfl
def oT(bk:List (List Int))(rs:List Row):List Nat:=xC (dH (cT bk) rs) (rs.map ay)
def vQ(bk:List (List Int))(rs:List Row):List Nat:=df 0 (dH (cT bk) rs) (rs.map ay) (oT bk rs)
def dB(bk:List (List Int))(rs:List Row):List Nat:=ik (cT bk) (vQ bk rs) 0 rs (oT bk rs)
theorem iM{bk:List (List Int)}{rs:List Row}(hB:Bk bk)(h2:rs.length<=64)(h3:∀r∈rs,r.Ok rs.length):Laid (cT bk) rs (oT bk rs) (vQ bk rs) (dB bk rs):=by
 have sl:(dH (cT bk) rs).length=rs.length:=K2 ..;have gl:(rs.map ay).length=rs.length:=K2 ..;obtain⟨l1,l2,l3⟩:=HH (ss:=dH (cT bk) rs) (gs:=rs.map ay) (λs hs=>by
  obtain⟨r,hr,rfl⟩:=L3.mp hs;have:=cW hB.cd (h3 r hr)
  lia) (by rw[sl];exact h2) (by rw[gl,sl])
 exact⟨(pG hB).1,by unfold oT;rw[l1,sl],h2,h3,l2,rfl,l3,rfl⟩
theorem nO(xs:List V):dQ xs none (some (-1))=xs.dropLast:=by
 unfold dQ;rw[HT.cY,LD,MZ,N2];congr 1;unfold HT.bI;simp only[show ((-1:Int)<0)=True from eq_true (by decide),MV]
 lia
def nS:Sp:=λvs H Q _=>∃(a b:Addr) (bk:List (List Int)) (rs:List Row),vs=[.ref a,.ref b]/\iL H a rs/\vA H b bk/\Bk bk/\rs.length<=64/\(∀r∈rs,r.Ok rs.length)/\∀t u H',KB [] H H'->H' t=some (.tup [.str (wd (dB bk rs)),.ref u])->H' u=some (.tup (iV (nZ (vQ bk rs)).dropLast))->Q (.ref t) H'
theorem BW(T:Txt K mg)(F:HasFn K mg "pack_rows" cS ["program","book"])(hcodes_of:ao P w K mg base aS 6 "codes_of" ["book"] (oR K))(hbits_ahead_of_goal:ao P w K mg base aS 3 "bits_ahead_of_goal" ["row","codes"] (vf K))(hgoal_of:ao P w K mg base aS 1 "goal_of" ["row"] nG)(hleast_widths:ao P w K mg base aS 5 "least_widths" ["sizes","goals"] (pV K))(hrow_starts:ao P w K mg base aS 2 "row_starts" ["sizes","widths"] (ki K))(hjump_written:ao P w K mg base aS 2 "jump_written" ["width","distance"] uU)(hdistance_of:ao P w K mg base aS 1 "distance_of" ["starts","goals","row"] rK):ao P w K mg base aS 7 "pack_rows" ["program","book"] nS:=by
 refine F.dR b6 (λvs H Q E h=>?_) (λf cdv A outer s H vs Q E hr h=>?_)
 ·obtain⟨a,b,bk,rs,rfl,_⟩:=h;rfl
 ·have hu:=aN hr;obtain⟨a,b,bk,rs,rfl,hp,hb,hB,h2,h3,q⟩:=h;have hC:=hB.cd;have L:=iM hB h2 h3;unfold dB at q L;have ew:oT bk rs=xC (dH (cT bk) rs) (rs.map ay):=rfl;have es:vQ bk rs=df 0 (dH (cT bk) rs) (rs.map ay) (oT bk rs):=rfl;refine⟨_,(Z.aq (Z.se (i:=2) b6.nd (Z.fc hcodes_of (Z.cons (Z.v 1) Z.nil)))
   (Z.aq (Z.sec (j:=3) b6.nd (osc:=ab cS) (ON:=["program","book","codes","firsts","sizes","goals","widths","starts","bits","row","first"]) (own:=["row"]) (N:=["row","program","book","codes","firsts","sizes","goals","widths","starts","bits",".row","first"]) (aA.of rfl (by decide +kernel)) (Z.any K rfl (Z.v 0)) (λnd _ _ _ _=>(Z.aG (i:=0) nd rfl (by right))) (λ_ _ _ _=>Z.jA) (λ_ _ _ _=>(Z.fc hbits_ahead_of_goal (Z.cons (Z.v 0) (Z.cons (Z.v 3) Z.nil)))))
   (Z.aq (Z.sec (j:=4) b6.nd (osc:=ab cS) (ON:=["program","book","codes","firsts","sizes","goals","widths","starts","bits","row","first"]) (own:=["first"]) (N:=["first","program","book","codes","firsts","sizes","goals","widths","starts","bits","row",".first"]) (aA.of rfl (by decide +kernel)) (Z.any K rfl (Z.v 3)) (λnd _ _ _ _=>(Z.aG (i:=0) nd rfl (by right))) (λ_ _ _ _=>Z.jA) (λ_ _ _ _=>(Z.cb (Z.cx K rfl) rfl T.cp (by decide +kernel) (Z.cons (Z.v 0) Z.nil))))
   (Z.aq (Z.sec (j:=5) b6.nd (osc:=ab cS) (ON:=["program","book","codes","firsts","sizes","goals","widths","starts","bits","row","first"]) (own:=["row"]) (N:=["row","program","book","codes","firsts","sizes","goals","widths","starts","bits",".row","first"]) (aA.of rfl (by decide +kernel)) (Z.any K rfl (Z.v 0)) (λnd _ _ _ _=>(Z.aG (i:=0) nd rfl (by right))) (λ_ _ _ _=>Z.jA) (λ_ _ _ _=>(Z.fc hgoal_of (Z.cons (Z.v 0) Z.nil))))
   (Z.aq (Z.se (i:=6) b6.nd (Z.fc hleast_widths (Z.cons (Z.v 4) (Z.cons (Z.v 5) Z.nil))))
   (Z.aq (Z.se (i:=7) b6.nd (Z.fc hrow_starts (Z.cons (Z.v 4) (Z.cons (Z.v 6) Z.nil))))
   (Z.aq (Z.se (i:=8) b6.nd (Z.lst Z.nil))
   (Z.aq (Z.dO Lm rfl (Z.zv K rfl rfl T.cR (Z.cons (Z.v 3) Z.nil)) (Z.gQ (n:=2) K rfl rfl (Z.aZ (Z.aG (i:=9) b6.nd rfl (by right)) (Z.aZ (Z.aG (i:=10) b6.nd rfl (by right)) Z.dJ))) (Z.aq (Z.expr (Z.app K (Z.v 8) (Z.cons (Z.v 10) Z.nil)))
   (Z.az (Z.dW (Z.bp gJ (Z.ix (Z.aF K rfl hu) (Z.v 5) (Z.v 9)) Z.aO) (Z.az (Z.expr (Z.app K (Z.v 8) (Z.cons (Z.fc hjump_written (Z.cons (Z.ix (Z.aF K rfl hu) (Z.v 6) (Z.v 9)) (Z.cons (Z.fc hdistance_of (Z.cons (Z.v 7) (Z.cons (Z.v 5) (Z.cons (Z.v 9) Z.nil)))) Z.nil))) Z.nil)))) Z.bB))))
   (Z.az (Z.ret (Z.tup (Z.cons (Z.bm K rfl PySem.F.plainAttrs_str PySem.F.slot_str_join PySem.F.type_str_join (Z.yB K rfl) Z.str (Z.cons (Z.v 8) Z.nil)) (Z.cons (Z.ct (Z.cm K rfl) rfl T.cq (by decide +kernel) (Z.cons (Z.slice (Z.ze K rfl) (Z.v 7) Z.t9 (Z.oW (Z.un cP Z.int))) Z.nil)) Z.nil))))))))))))),?_⟩
  refine ar λN hN=>?_;walk_at "rz";refine⟨b,bk,rfl,hb,hB,λca H1 hca k1 cdl=>?_⟩;rw[hN];clear hN N;generalize cT bk=cd at *;generalize oT bk rs=ws at *;generalize vQ bk rs=sp at *;have hp1:=hp.kb k1;refine ar λN hN=>?_;obtain⟨ps,hps,hpa⟩:=hp1;have hpl:=hpa.1;exists aC hps;refine bF (xs:=ps.map V.ref) (KA (show _<=64 by rw[K2];lia) (by decide)) (λD i ys H'=>H1 D=none/\H' D=some (.lst ys)/\KB [] H1 H'/\ys=xE cd (rs.take i)/\i<=rs.length) (λD hD=>⟨hD,aa,KB.new hD,rfl,KW _⟩) (λD i ys H' h=>⟨h.2.1,by rw[h.2.2.2.1,xE,K2,K_];have:=h.2.2.2.2;lia⟩) (λD i ys H' h=>aX.of (h.2.2.1 _ _ hps (by simp))) ?_ ?_
  ·rintro D i ys H' x R hx ⟨g0,g1,gk,rfl,hi⟩ kk;obtain⟨u,eu,rfl⟩:∃u,ps[i]?=some u/\x=.ref u:=by
    rw[K8] at hx;obtain⟨u,e,rfl⟩:=Lc.mp hx;exact⟨u,e,rfl⟩
   have hlt:i<rs.length:=by have:=(K7.mp eu).1;lia
   have er:=K1 hlt;have et:rs.take (i+1)=rs.take i++[rs[i]]:=by rw[L8,er];rfl
   walk_at "rz";refine⟨u,ca,rs[i],rs.length,cd,rfl,gk _ _ (hpa.2 i u _ eu er) (by simp),h3 _ (KZ hlt),cdl.kb gk,hC,λH5 k5=>?_⟩
   exact kk _ _ (k5 _ _ g1 (by simp)) ⟨g0,aa,λu o e _=>by rw[af (ae e g0)];exact k5 _ _ (gk _ _ e (by simp)) (by simp),by rw[et];unfold xE;rw[KN];rfl,hlt⟩
  rintro pl ys H2 ⟨_,gp,k2,rfl,_⟩;rw[K2,hpl,Lz] at gp;show N _ _;rw[hN];clear hN N;have k02:=k1.trans k2;clear cdl hps hpa hpl k2 k1 hca;refine ar λN hN=>?_;exists au gp;refine dZ (xs:=xE cd rs) (KA (show _<=64 by rw[xE,K2];exact h2) (by decide)) (λD i ys H'=>H2 D=none/\H' D=some (.lst ys)/\KB [] H2 H'/\ys=iV (nZ (dH cd (rs.take i)))/\i<=rs.length) (λD hD=>⟨hD,aa,KB.new hD,rfl,KW _⟩) (λD i ys H' h=>⟨h.2.1,by rw[h.2.2.2.1,eR,dH,K2,K_];have:=h.2.2.2.2;lia⟩) (λD i ys H' h=>a_.of (h.2.2.1 _ _ gp (by simp))) ?_ ?_
  ·rintro D i ys H' x R hx ⟨g0,g1,gk,rfl,hi⟩ kk;have hlt:i<rs.length:=by have:=(K7.mp hx).1;rw[xE,K2] at this;exact this
   have er:=K1 hlt;have et:rs.take (i+1)=rs.take i++[rs[i]]:=by rw[L8,er];rfl
   have ex:x=.str (wd (bf cd rs[i])):=by
    unfold xE at hx;rw[K8,er] at hx;exact (Option.some.inj hx).symm
   subst ex;have h136:=cW hC (h3 _ (KZ hlt));exists aK;exact⟨KA h136 (by decide),kk _ _ g1 ⟨g0,aa,λu o e _=>by rw[af (ae e g0)];exact gk _ _ e (by simp),by rw[et];unfold dH nZ iV;rw[KN,KN,KN];rfl,hlt⟩⟩
  rintro sa ys H3 ⟨_,gsz,k3,rfl,_⟩;rw[show (xE cd rs).length=rs.length from K2 ..,Lz] at gsz;show N _ _;rw[hN];clear hN N;have k03:=k02.trans k3;have gp3:=k3 _ _ gp (by simp)
  refine ar λN hN=>?_;obtain⟨ps,hps,hpa⟩:=hp.kb k03;have hpl:=hpa.1;exists aC hps;refine bF (xs:=ps.map V.ref) (KA (show _<=64 by rw[K2];lia) (by decide)) (λD i ys H'=>H3 D=none/\H' D=some (.lst ys)/\KB [] H3 H'/\ys=((rs.take i).map ay).map aT/\i<=rs.length) (λD hD=>⟨hD,aa,KB.new hD,rfl,KW _⟩) (λD i ys H' h=>⟨h.2.1,by rw[h.2.2.2.1,K2,K2,K_];have:=h.2.2.2.2;lia⟩) (λD i ys H' h=>aX.of (h.2.2.1 _ _ hps (by simp))) ?_ ?_
  ·rintro D i ys H' x R hx ⟨g0,g1,gk,rfl,hi⟩ kk;obtain⟨u,eu,rfl⟩:∃u,ps[i]?=some u/\x=.ref u:=by
    rw[K8] at hx;obtain⟨u,e,rfl⟩:=Lc.mp hx;exact⟨u,e,rfl⟩
   have hlt:i<rs.length:=by have:=(K7.mp eu).1;lia
   have er:=K1 hlt;have et:rs.take (i+1)=rs.take i++[rs[i]]:=by rw[L8,er];rfl
   have hu':=gk _ _ (hpa.2 i u _ eu er) (by simp)
   rw[Jn] at hu';walk_at "rz";refine⟨u,_,rfl,hu',?_⟩;rw[GP];exact kk _ _ g1 ⟨g0,aa,λu o e _=>by rw[af (ae e g0)];exact gk _ _ e (by simp),by rw[et,KN,KN];rfl,hlt⟩
  rintro ga ys H4 ⟨_,gg,k4,rfl,_⟩;rw[K2,hpl,Lz] at gg;show N _ _;rw[hN];clear hN N;clear hps hpa hpl;have k04:=k03.trans k4;have gp4:=k4 _ _ gp3 (by simp)
  have gsz4:=k4 _ _ gsz (by simp)
  have nX:(dH cd rs).length=rs.length:=K2 ..;have gl1:(rs.map ay).length=rs.length:=K2 ..;have sb:∀s∈dH cd rs,s<=150:=λs hs=>by
   obtain⟨r,hr',rfl⟩:=L3.mp hs;have:=cW hC (h3 r hr');lia
  have gb:∀t,some t∈rs.map ay->t<=(dH cd rs).length:=λt ht=>by
   obtain⟨r,hr',e⟩:=L3.mp ht;rw[nX];exact gO (h3 r hr') e
  clear gp gp3 gsz k02 k03 k3 k4;refine ar λN hN=>?_;walk_at "rz";refine⟨sa,ga,dH cd rs,rs.map ay,rfl,gsz4,gg,by rw[gl1,nX],by rw[nX];exact h2,sb,gb,λwa H5 k5 g5=>?_⟩
  rw[<- ew] at g5;rw[hN];clear hN N;have wl:=L.len;have wt:=L.lt;refine ar λN hN=>?_;walk_at "rz";refine⟨sa,wa,false,dH cd rs,rs.map ay,ws,rfl,k5 _ _ gsz4 (by simp),aX.of g5,λH' k=>aX.of (k _ _ g5 (by simp)),by rw[gl1,nX],by rw[wl,nX],by rw[nX];exact h2,wt,λpa H6 _ k6 g6=>?_⟩
  rw[<- es] at g6;rw[hN];clear hN N;have spl:=L.sl;have k56:=k5.trans k6;have k06:=k04.trans k56;have gp6:=k56 _ _ gp4 (by simp)
  have gg6:=k56 _ _ gg (by simp)
  have gw6:=k6 _ _ g5 (by simp)
  clear k56 gp4 gg g5 k5 k6 gsz4 k04 sb gb;refine ar λN hN=>?_;walk_at "rz";refine⟨KW _,λbl hbl=>?_⟩;have k7:=KB.new (ex:=[]) (o:=.lst []) hbl;have s7:upd H6 bl (.lst []) bl=some (.lst []):=aa;generalize upd H6 bl (.lst [])=H7 at *;have hblH:H bl=none:=k06.free (by simp) hbl
  rw[hN];clear hN N;refine ar λN hN=>?_;walk_at "rz";have gp7:=k7 _ _ gp6 (by simp)
  refine⟨⟨_,a_.of gp7⟩,?_⟩;have keepB:∀{G:Hp} {o:HO},KB [] H6 G->KB [] H6 (upd G bl o):=λk u o' e z=>by rw[af (ae e hbl)];exact k u o' e z
  refine lB (xs:=xE cd rs) (λi σ H'=>∃(acc:List (List Nat)) (o9 o10:Option V),i<=rs.length/\KB [] H6 H'/\H' bl=some (.lst ((acc.map wd).map V.str))/\acc.flatten++ik cd sp i (rs.drop i) (ws.drop i)=ik cd sp 0 rs ws/\acc.length<=2*i/\acc.flatten.length<=200*i/\σ=[some (.ref a),some (.ref b),some (.ref ca),some (.ref pl),some (.ref sa),some (.ref ga),some (.ref wa),some (.ref pa),some (.ref bl),o9,o10]) ⟨[],none,none,KW _,k7,s7,rfl,KW _,KW _,rfl⟩ (λi σ H' _ h=>by obtain⟨_,_,_,_,k,_⟩:=h;exact a_.of (k _ _ gp6 (by simp))) ?_ ?_
  ·rintro i x σ H' p hx ⟨acc,o9,o10,hi,hk,gb,ex,hx1,hx2,rfl⟩ hp';have hlt:i<rs.length:=by have:=(K7.mp hx).1;rw[xE,K2] at this;exact this
   have er:=K1 hlt;have ewi:=K1 (show i<ws.length by lia)
   have lw:=wt _ (KZ (show i<ws.length by lia))
   have okr:=h3 _ (KZ hlt);rw[L7 hlt,L7 (show i<ws.length by lia),ik] at ex
   unfold xE at hx;rw[K8,er] at hx;generalize rs[i]'_=r at *;generalize ws[i]'_=w0 at *;cases hx;have h136:=cW hC okr;have ag:bC ((rs.map ay).map aT) (i:Int)=some (aT (ay r)):=aR (by rw[K8,K8,er];rfl)
   unfold aL;refine⟨p,_,rfl,aX.of aa,rfl,_,_,rfl,_,_,rfl,rfl,?_⟩;have kz:=KB.new (ex:=[]) (o:=.tup [.int i,.str (wd (bf cd r))]) hp';generalize upd H' p (.tup [.int i,.str (wd (bf cd r))])=G1 at *;have hk1:=hk.trans kz;have gb1:=kz _ _ gb (by simp)
   dsimp only;refine ar λM hM=>?_;walk_at "rz";refine⟨.inl ⟨rfl,_,a_.of gb1⟩,bl,_,_,rfl,rfl,gb1,Nat.lt_of_le_of_lt (show _<=1000 by rw[List.length_map,List.length_map];lia) (by decide),?_⟩
   have gb2:upd G1 bl (.lst ((acc.map wd).map V.str++[.str (wd (bf cd r))])) bl=some (.lst (((acc++[bf cd r]).map wd).map V.str)):=by rw[aa,KN,KN];rfl
   have hk2:=keepB (o:=.lst ((acc.map wd).map V.str++[.str (wd (bf cd r))])) hk1;generalize upd G1 bl (.lst ((acc.map wd).map V.str++[.str (wd (bf cd r))]))=G2 at *;rw[hM];clear hM M;dsimp only;refine jN λM hM=>?_;refine xy λA B hA hB'=>?_;exists au (hk2 _ _ gg6 (by simp)),ag
   have f1:(acc++[bf cd r]).flatten=acc.flatten++bf cd r:=by simp
   cases eg:ay r with
   |none =>
    rw[KJ (show ¬ ¬ aT none=V.aO from λz=>z rfl),hB'];show M _ _;rw[hM];refine⟨acc++[bf cd r],_,_,hlt,hk2,gb2,?_,by rw[K6];simp;lia,by rw[f1,K6];lia,rfl⟩
    rw[<- ex,eg,f1];simp[mh]
   |some g =>
    rw[eg] at ag;rw[KO (show ¬ aT (some g)=V.aO from λz=>nomatch z),hA];clear hA hB';have hg:g<=rs.length:=gO okr eg;have egs:(rs.map ay)[i]?=some (some g):=by rw[K8,er];exact Lw some eg
    have aw:bC (ij (rs.map ay) ws) (i:Int)=some (.int (w0:Nat)):=aR (nE egs ewi);exists aC (hk2 _ _ gw6 (by simp)),aw
    refine⟨.inl ⟨rfl,_,a_.of gb2⟩,pa,ga,sp,rs.map ay,i,g,rfl,hk2 _ _ g6 (by simp),hk2 _ _ gg6 (by simp),egs,by lia,by lia,w0,bU sp g i,rfl,lw,?_⟩
    refine⟨bl,_,_,rfl,rfl,gb2,LG (show _<=1000 by rw[K2,K2,K6];simp;lia) (by decide),?_⟩
    rw[hM];have jl:=uG lw (bU sp g i);have f2:(acc++[bf cd r]++[cH w0 (bU sp g i)]).flatten=acc.flatten++bf cd r++cH w0 (bU sp g i):=by simp
    have jl2:Bt w0<=18:=by rcases iB lw with rfl|rfl|rfl<;>decide
    refine⟨acc++[bf cd r]++[cH w0 (bU sp g i)],_,_,hlt,keepB hk2,by rw[aa];simp only[KN,Lp,MK],?_,by rw[K6,K6];simp;lia,by rw[f2,K6,K6,jl];lia,rfl⟩
    rw[<- ex,eg,f2];simp[mh]
  ·rintro σ H' ⟨acc,o9,o10,hi,hk,gb,ex,hx1,hx2,rfl⟩;show N _ _;rw[hN];clear hN N;rw[show (xE cd rs).length=rs.length from K2 ..] at *;rw[My] at ex;have ex':acc.flatten=ik cd sp 0 rs ws:=by rw[<- ex];unfold ik;exact (LF _).symm
   walk_at "rz";have e2:((acc.map wd).map λx=>x.length).sum=acc.flatten.length:=by
    rw[List.length_flatten,LM];rfl
   refine⟨rfl,_,bl,_,rfl,rfl,a_.of gb,?_,?_⟩
   ·rw[e2,show (Str.ofString "").length=0 from by decide +kernel];lia
   rw[oA,ex'];exists au (hk _ _ g6 (by simp))
   rw[nO];intro q1 hq1 l2 hl2;have k8:=KB.new (ex:=[]) (o:=.lst (iV (nZ sp)).dropLast) hq1;generalize upd H' q1 (.lst (iV (nZ sp)).dropLast)=G1 at *;have k9:=KB.new (ex:=[]) (o:=.tup (iV (nZ sp)).dropLast) hl2;have s9:upd G1 l2 (.tup (iV (nZ sp)).dropLast) l2=_:=aa;generalize upd G1 l2 (.tup (iV (nZ sp)).dropLast)=G2 at *;refine⟨by decide,λt ht=>?_⟩
   have k10:=KB.new (ex:=[]) (o:=.tup [.str (wd (ik cd sp 0 rs ws)),.ref l2]) ht;refine q t l2 _ (k06.trans (hk.trans (k8.trans (k9.trans k10)))) aa ?_;rw[k10 _ _ s9 (by simp)]
   unfold iV;rw[Pd]
def uZ:Sp:=λvs H Q _=>vs=[]/\∀l,H l=none->Q (.ref l) (upd H l (.lst (bP.map V.str)))
theorem w6(F:HasFn K mg "_law_words" fJ []):ao P w K mg base aS 1 "_law_words" [] uZ:=by
 refine F.dR mC (λvs H Q E h=>?_) (λf cdv A outer s H vs Q E hr h=>?_)
 ·obtain⟨rfl,_⟩:=h;rfl
 ·obtain⟨rfl,q⟩:=h;refine⟨_,(Z.az (Z.ret (Z.lst (Z.consts rfl)))),?_⟩;walk_at "rz";exact⟨by decide,λp hp=>q p hp⟩
def jL:Sp:=λvs H Q _=>∃(n:Int) (k:Nat),vs=[.int n,.int (k:Nat)]/\k<=40/\Q (.str (wd (bo n k []))) H
theorem zd(T:Txt K mg)(F:HasFn K mg "_law_bits" gz ["number","many"]):ao P w K mg base aS 1 "_law_bits" ["number","many"] jL:=by
 refine F.dR cU (λvs H Q E h=>?_) (λf cdv A outer s H vs Q E hr h=>?_)
 ·obtain⟨n,k,rfl,_⟩:=h;rfl
 ·have hu:=aN hr;obtain⟨n,k,rfl,hk,q⟩:=h;refine⟨_,(Z.aq (Z.se (i:=2) cU.nd Z.str)
   (Z.aq (Z.dO Lm rfl (Z.ke rfl T.cA (Z.cons (Z.v 1) Z.nil)) (Z.aG (i:=3) cU.nd rfl (by right)) (Z.aq (Z.se (i:=2) cU.nd (Z.op (Z.aQ K rfl) (Z.ix (Z.aF K rfl hu) Z.str (Z.op eJ (Z.v 0) Z.int)) (Z.v 2)))
   (Z.az (Z.se (i:=0) cU.nd (Z.op jK (Z.v 0) Z.int)))))
   (Z.az (Z.ret (Z.v 2))))),?_⟩
  refine ar λN hN=>?_;walk_at "rz";rw[hN];clear hN N;refine ar λN hN=>?_;walk_at "rz";refine⟨by lia,by lia,?_⟩
  rw[Lg];refine bL (λi σ H'=>∃(m:Int) (acc:List Nat) (o:Option V),H'=H/\i<=k/\bo m (k-i) acc=bo n k []/\acc.length=i/\σ=[some (.int m),some (.int (k:Nat)),some (.str (wd acc)),o]) ⟨n,[],none,rfl,KW _,rfl,rfl,by rw[lJ]⟩ ?_ ?_
  ·rintro i σ H' hi ⟨m,acc,o,rfl,_,e,hl,rfl⟩;unfold aL;refine ar λM hM=>?_;exists HM;refine⟨by decide,by decide +kernel,?_⟩
   rw[show (⟨#[dg m]⟩:Str)=wd [dg m] from rfl,aK,aK,dF];refine⟨KA (show _<=50 by simp;lia) (by decide),?_⟩
   rw[hM];clear hM M;refine jN λM hM=>?_;walk_at "rz";refine⟨⟨by decide,by decide⟩,?_⟩
   rw[hM];refine⟨m / 2,dg m::acc,some _,rfl,hi,?_,by rw[KQ,hl],rfl⟩
   rw[<- e,show k-i=(k-(i+1))+1 by lia]
   rfl
  ·rintro σ H' ⟨m,acc,o,rfl,_,e,_,rfl⟩;rw[LU] at e;show N _ _;rw[hN];clear hN N;walk_at "rz";rw[<- e] at q;exact q
theorem yD{n:Nat}(h:n<3):bC [V.str (Str.ofString "0"),.str (Str.ofString "10"),.str (Str.ofString "11")] (n:Int)=some (.str (wd (cy n))):=by
 rcases iB h with rfl|rfl|rfl
 ·exact Lw (λz=>some (V.str z)) (by decide +kernel)
 ·exact Lw (λz=>some (V.str z)) (by decide +kernel)
 ·exact Lw (λz=>some (V.str z)) (by decide +kernel)
theorem vL{β:Type}{R:α->β->Prop}{d:α}{e:β}{vs:List α}{ps:List β}(h:Paired R vs ps):∀i,i<ps.length->R (vs.getD i d) (ps.getD i e):=by
 induction h with
 |nil=>exactλi hi=>nomatch hi
 |cons h _ ih =>
  intro i hi
  cases i with
  |zero=>exact h
  |succ i=>exact ih i (Qc hi)
theorem map_getD:(List.range ((List.range ls.length).map (pd ls)).length).map (λi=>((List.range ls.length).map (pd ls)).getD i (0,0))=(List.range ls.length).map (pd ls):=by
 refine MS λi=>?_;rw[K8];rcases LH i ls.length with c|c
 ·rw[Nc (by simpa using c),K8,Nc c];simp[c]
 ·rw[LW.mpr (by simpa using c),LW.mpr (by simpa using c)];rfl
def tV(K:W.Frag):Sp:=λvs H Q _=>∃(a:Addr) (ls:List Int),vs=[.ref a]/\H a=some (.tup (iV ls))/\ia ls/\jG ls=true/\∀b H',H b=none->KB [] H H'->H' b=some (.lst (wV (wordsOf Cw.fi ls)))->Q (.ref b) H'
theorem AG(T:Txt K mg)(F:HasFn K mg "_law_code" eQ ["lengths"])(h_law_bits:ao P w K mg base aS 1 "_law_bits" ["number","many"] jL):ao P w K mg base aS 2 "_law_code" ["lengths"] (tV K):=by
 refine F.dR bz (λvs H Q E h=>?_) (λf cdv A outer s H vs Q E hr h=>?_)
 ·obtain⟨a,ls,rfl,_⟩:=h;rfl
 ·have hu:=aN hr;obtain⟨a,ls,rfl,ha,hL,ho,q⟩:=h;refine⟨_,(Z.aq (Z.se (i:=1) bz.nd (Z.op cu (Z.lst (Z.cons Z.str Z.nil)) (Z.cb (Z.cx K rfl) rfl T.cp (by decide +kernel) (Z.cons (Z.v 0) Z.nil))))
   (Z.aq (Z.se (i:=2) bz.nd Z.int)
   (Z.aq (Z.se (i:=3) bz.nd Z.int)
   (Z.aq (Z.dO Lm rfl (Z.any K rfl (Z.cb (Y.sA K rfl) rfl T.iO (by decide +kernel) (Z.cons (Z.o_ (osc:=ab eQ) (ON:=["lengths","found","number","size","length","thing","k"]) (own:=["thing","length"]) (N:=["thing","length","lengths","found","number","size",".length",".thing","k"]) (aA.of rfl (by decide +kernel)) (Z.enum K rfl rfl T.cR (Z.cons (Z.v 0) Z.nil)) (λnd _ _ _ _=>(Z.gQ (n:=2) K rfl rfl (Z.aZ (Z.aG (i:=0) nd rfl (by right)) (Z.aZ (Z.aG (i:=1) nd rfl (by right)) Z.dJ)))) (λ_ _ _ _=>Z.jA) (λ_ _ _ _=>(Z.tup (Z.cons (Z.v 1) (Z.cons (Z.v 0) Z.nil))))) Z.nil))) (Z.gQ (n:=2) K rfl rfl (Z.aZ (Z.aG (i:=4) bz.nd rfl (by right)) (Z.aZ (Z.aG (i:=5) bz.nd rfl (by right)) Z.dJ))) (Z.aq (Z.dO Lm rfl (Z.ke rfl T.cA (Z.cons (Z.op cZ (Z.v 4) (Z.v 3)) Z.nil)) (Z.aG (i:=6) bz.nd rfl (by right)) (Z.az (Z.se (i:=2) bz.nd (Z.op cu (Z.v 2) Z.int))))
   (Z.aq (Z.se (i:=3) bz.nd (Z.v 4))
   (Z.aq (Z.asg (Z.fc h_law_bits (Z.cons (Z.v 2) (Z.cons (Z.v 4) Z.nil))) (Z.oz (Z.v 1) (Z.v 5)))
   (Z.az (Z.se (i:=2) bz.nd (Z.op (Z.aQ K rfl) (Z.v 2) Z.int)))))))
   (Z.az (Z.ret (Z.v 1))))))),?_⟩
  have hl20:=hL.2.1;refine ar λN hN=>?_;walk_at "rz";refine⟨by decide,λp0 hp0=>?_⟩
  have k1:KB [] H (upd H p0 (.lst [.str (Str.ofString "")])):=KB.new hp0;have s1:upd H p0 (.lst [.str (Str.ofString "")]) p0=_:=aa;generalize upd H p0 (.lst [.str (Str.ofString "")])=H1 at *;have ha1:=k1 _ _ ha (by simp)
  exists aC ha1,bj;refine⟨p0,_,_,rfl,rfl,s1,by lia,by lia,KA (show _<=20 by simp;lia) (by decide),λfd hfd=>?_⟩
  have er:(List.replicate ls.length [V.str (Str.ofString "")]).flatten=wV (List.replicate ls.length []):=by
   rw[lJ];unfold wV;rw[MO];generalize ls.length=n
   induction n with
   |zero=>rfl
   |succ n ih=>rw[L6,Lr,ih];rfl
  rw[Lg,er];have k2:KB [] H1 (upd H1 fd (.lst (wV (List.replicate ls.length [])))):=KB.new hfd;have s2:upd H1 fd (.lst (wV (List.replicate ls.length []))) fd=_:=aa;generalize upd H1 fd (.lst (wV (List.replicate ls.length [])))=H2 at *;have fd0:H fd=none:=k1.free (by simp) hfd
  have h02:=k1.trans k2;clear k1 s1 hp0 ha1 er k2 hfd;rw[hN];clear hN N H1;refine ar λN hN=>?_;walk_at "rz";rw[hN];clear hN N;refine ar λN hN=>?_;walk_at "rz";rw[hN];clear hN N;refine ar λN hN=>?_;walk_at "rz";have ha2:=h02 _ _ ha (by simp)
  refine⟨⟨_,aX.of ha2⟩,?_⟩;refine jz (xs:=iV ls) (KA (show _<=20 by rw[bj];exact hl20) (by decide)) (λD i ys H'=>H2 D=none/\H' D=some (.lst ys)/\KB [] H2 H'/\i<=ls.length/\ys.length=i/\Paired (Y.HI H') ys ((List.range i).map (pd ls))) (λD hD=>⟨hD,aa,KB.new hD,KW _,rfl,.nil⟩) (λD i ys H' h=>⟨h.2.1,h.2.2.2.2.1⟩) (λD i ys H' h=>aX.of (h.2.2.1 _ _ ha2 (by simp))) ?_ ?_
  ·rintro D i ys H' x p R hx ⟨g0,g1,g2,g3,g4,g5⟩ hp kk;obtain⟨hi,rfl⟩:=kn hx;have k3:KB [] H' (upd H' p (.tup [.int (i:Nat),.int ls[i]])):=KB.new hp;generalize upd H' p (.tup [.int (i:Nat),.int ls[i]])=H3 at *;walk_at "rz";refine⟨by decide,λt ht=>?_⟩
   have k4:KB [] H3 (upd H3 t (.tup [.int ls[i],.int (i:Nat)])):=KB.new ht;have s4:upd H3 t (.tup [.int ls[i],.int (i:Nat)]) t=_:=aa;generalize upd H3 t (.tup [.int ls[i],.int (i:Nat)])=H4 at *;have k34:=k3.trans k4;have gD:=k34 _ _ g1 (by simp)
   have tD:t≠D:=λz=>by rw[z,gD] at s4;cases s4
   have up:∀{v:V} {q:Int×Int},Y.HI H4 v q->Y.HI (upd H4 D (.lst (ys++[.ref t]))) v q:=λ{v q} h=>by
    obtain⟨r,e1,e2⟩:=h;exact⟨r,e1,by rw[af (λz=>by rw[z,gD] at e2;cases e2)];exact e2⟩
   refine kk _ _ gD ⟨g0,aa,λb o e _=>by rw[af (ae e g0)];exact k34 _ _ (g2 _ _ e (by simp)) (by simp),hi,by rw[K6,g4];rfl,?_⟩
   rw[M7,KN];refine Paired.snoc (Paired.Cp g5 λ_ _ h=>up ?_) (up ⟨t,rfl,?_⟩)
   ·obtain⟨r,e1,e2⟩:=h;exact⟨r,e1,k34 _ _ e2 (by simp)⟩
   ·rw[s4];unfold pd;simp[hi]
  rintro D ys H3 ⟨g0,g1,g2,_,g4,g5⟩;rw[bj] at g4 g5;have hpl:((List.range ls.length).map (pd ls)).length=ls.length:=by rw[K2,Lo]
  refine⟨D,ys,_,rfl,a_.of g1,g5,by rw[hpl];lia,λix hix hup l hl=>?_⟩
  have hpm:=hix.map λi=>((List.range ls.length).map (pd ls)).getD i (0,0);rw[map_getD] at hpm;obtain⟨eo,hR⟩:=xf hpm hup;have hup2:=FE hR;have k4:KB [] H3 (upd H3 l (.lst (ix.map λi=>ys.getD i .aO))):=KB.new hl;have s4:upd H3 l (.lst (ix.map λi=>ys.getD i .aO)) l=_:=aa;have hit:∀(j:Nat) (x:V),(ix.map λi=>ys.getD i .aO)[j]?=some x->∃(hj:j<(aI ls).length) (r:Addr),x=.ref r/\H3 r=some (.tup [.int (ls.getD (aI ls)[j] 0),.int ((aI ls)[j]:Nat)]):=λj x hx=>by
   rw[K8] at hx;obtain⟨i,ei,rfl⟩:=Lc.mp hx;have hi:i<((List.range ls.length).map (pd ls)).length:=LA.mp (hix.mem_iff.mp (Lu ei));obtain⟨r,e1,e2⟩:=vL (d:=V.aO) (e:=(0,0)) g5 i hi;have e3:(ix.map λi=>((List.range ls.length).map (pd ls)).getD i (0,0))[j]?=some (((List.range ls.length).map (pd ls)).getD i (0,0)):=by rw[K8,ei];rfl
   rw[eo,K8] at e3;obtain⟨t,et,e4⟩:=Lc.mp e3;obtain⟨hj,rfl⟩:=K7.mp et;exact⟨hj,r,e1,by rw[e2,<- e4];rfl⟩
  have hxl:(ix.map λi=>ys.getD i .aO).length=(aI ls).length:=by
   have:=Lw List.length eo;rw[K2,K2] at this;rw[K2,this]
  generalize (ix.map λi=>ys.getD i .aO)=xs at *;generalize upd H3 l (.lst xs)=H4 at *;have gF:=k4 _ _ (g2 _ _ s2 (by simp)) (by simp)
  have lF:l≠fd:=λz=>by
   have:=g2 _ _ s2 (by simp)
   rw[<- z,hl] at this;cases this
  have h04:KB [] H H4:=h02.trans (g2.trans k4);have hit4:∀(j:Nat) (x:V),xs[j]?=some x->∃(hj:j<(aI ls).length) (r:Addr),x=.ref r/\H4 r=some (.tup [.int (ls.getD (aI ls)[j] 0),.int ((aI ls)[j]:Nat)]):=λj x hx=>by
   obtain⟨hj,r,e1,e2⟩:=hit j x hx;exact⟨hj,r,e1,k4 _ _ e2 (by simp)⟩
  clear hit g0 g1 g2 g4 g5 hpl hix hup hl k4 hpm eo hR h02 ha2 s2;have h40:∀t∈aI ls,ls.getD t 0=(aU ls t:Int)/\aU ls t<=40/\t<ls.length:=λt ht=>by
   have h:=i5 ht;have:=hL.2.2 _ (KZ h);unfold aU;rw[KD,K1 h];show ls[t]=((ls[t].toNat:Nat):Int)/\ls[t].toNat<=40/\_;exact⟨by lia,by lia,h⟩
  exists au s4;refine fj (xs:=xs) (λi σ H'=>∃(a':Option (List Nat)) (ws:List (List Nat)) (n h:Int) (o4 o5 o6:Option V),At ls ((aI ls).take i) ((aI ls).drop i) a' n h/\Cw.along Cw.fk (aU ls) ((aI ls).take i) (none,List.replicate ls.length [])=(a',ws)/\ws.length=ls.length/\KB [fd] H4 H'/\KB [] H H'/\H' fd=some (.lst (wV ws))/\σ=[some (.ref a),some (.ref fd),some (.int (n+1)),some (.int h),o4,o5,o6]) ⟨none,_,-1,0,none,none,none,⟨rfl,.inl ⟨rfl,rfl,rfl,rfl⟩⟩,rfl,KY ..,KB.refl _ _,h04,gF,rfl⟩ (λi σ H' _ h=>by obtain⟨_,_,_,_,_,_,_,_,_,_,kF,_⟩:=h;exact a_.of (kF _ _ s4 (by simpa using lF))) ?_ ?_
  ·rintro i x σ H' hx ⟨a',ws,n,h,o4,o5,o6,hA,hal,hwl,kF,h0',gF',rfl⟩;obtain⟨hj,r,rfl,er⟩:=hit4 i x hx;have rF:r≠fd:=λz=>by rw[z,gF] at er;cases er
   have er':=kF _ _ er (by simpa using rF)
   have ed:(aI ls).drop i=(aI ls)[i]::(aI ls).drop (i+1):=L7 hj;have eT:(aI ls).take (i+1)=(aI ls).take i++[(aI ls)[i]]:=by rw[L8,K1 hj];rfl
   rw[ed] at hA;rw[eT];obtain⟨hx1,hx2,hx3⟩:=h40 _ (KZ hj);obtain⟨d,e1,e0,e2,e3,e4,hA2⟩:=hA.next hL ho hup2;have hal2:Cw.along Cw.fk (aU ls) ((aI ls).take i++[(aI ls)[i]]) (none,List.replicate ls.length [])=(some (lX a' (aU ls (aI ls)[i])),ws.set (aI ls)[i] (lX a' (aU ls (aI ls)[i]))):=by
    rw[Cw.fB,hal]
    cases a'<;>rfl
   rw[hx1] at er';generalize (aI ls)[i]=t at *;generalize aU ls t=l at *;generalize hw':lX a' l=w' at *;refine⟨r,_,rfl,aX.of er',rfl,_,_,rfl,_,_,rfl,rfl,?_⟩;refine ar λM hM=>?_;exists e1;refine⟨by lia,by lia,?_⟩
   rw[Lg];refine bL (λj σ G=>G=H'/\∃o6:Option V,σ=[some (.ref a),some (.ref fd),some (.int ((n+1)*2^j)),some (.int h),some (.int (l:Nat)),some (.int (t:Nat)),o6]) ⟨rfl,o6,by rw[Int.pow_zero,Int.mul_one]⟩ ?_ ?_
   ·rintro j σ G hj ⟨rfl,o6,rfl⟩;unfold aL;refine jN λM hM=>?_;walk_at "rz";refine⟨.inr (by decide),?_⟩
    rw[hM];exact⟨rfl,some _,by rw[show (n+1)*2^j*2=(n+1)*2^(j+1) from by rw[P8,<- Qy]]⟩
   ·rintro σ G ⟨rfl,o6,rfl⟩;rw[e2];show M _ _;rw[hM];clear hM M;refine ar λM hM=>?_;walk_at "rz";rw[hM];clear hM M;refine ar λM hM=>?_;walk_at "rz";refine⟨_,l,rfl,hx2,?_⟩;rw[wq l w' [] e3 e4,LF];have ixw:iF (wV ws).length (t:Int)=some t:=by rw[nH (by lia) (by rw[ow,hwl];lia)];simp
    have sw:(wV ws).set t (.str (wd w'))=wV (ws.set t w'):=by unfold wV;rw[MN]
    exists gF',ixw,sw;rw[hM];clear hM M;dsimp only;refine jN λM hM=>?_;walk_at "rz";rw[hM];refine⟨some w',ws.set t w',_,_,some _,some _,o6,hA2,hal2,by rw[List.length_set,hwl],λb o e z=>?_,λb o e _=>?_,aa,rfl⟩
    ·rw[af (by simpa using z)];exact kF _ _ e z
    ·rw[af (ae e fd0)];exact h0' _ _ e (by simp)
  ·rintro σ H' ⟨a',ws,n,h,o4,o5,o6,hA,hal,_,_,h0',gF',rfl⟩;rw[hxl,Lz] at hal;have ew:wordsOf Cw.fi ls=ws:=by
    unfold wordsOf;rw[Cw.iu (aI ls) [] none _ hup2 (λt ht=>(h40 t ht).2.1) (λv z=>by cases z) (λ_=>rfl) (by rw[L_,zb];exact LC ho),hal]
   show N _ _;rw[hN];clear hN N;walk_at "rz";rw[ew] at q;exact q fd H' fd0 h0' gF'
def JZ(H:Hp)(ca:Addr)(cd:List (List (List Nat))):Prop:=∃a0 a1 a2,H ca=some (.lst [.ref a0,.ref a1,.ref a2])/\H a0=some (.lst (wV (cd.getD 0 [])))/\H a1=some (.lst (wV (cd.getD 1 [])))/\H a2=some (.lst (wV (cd.getD 2 [])))
def qk(cd:List (List (List Nat))):Pk->List Nat
 |.box b=>aM cd (2,b)
 |.num n=>aM cd (1,bq n)++(dA n).tail
 |.goal _=>[]
def Pk.of(w:Str):Pk->Prop
 |.box _=>True
 |.num _=>w=Str.ofString "put"
 |.goal _=>w≠Str.ofString "put"
theorem Fq(r:Row):∀p∈r.dy,p.of r.wd:=by
 cases r with
 |put b n=>intro p hp;simp only[Row.dy,KL,Ln,Mh] at hp;rcases hp with rfl|rfl;exact trivial;exact rfl
 |two u a b=>intro p hp;simp only[Row.dy,KL,Ln,Mh] at hp;rcases hp with rfl|rfl<;>exact trivial
 |one u b=>intro p hp;simp only[Row.dy,KL,Ln,Mh] at hp;subst hp;exact trivial
 |jump g=>intro p hp;simp only[Row.dy,KL,Ln,Mh] at hp;subst hp;show Str.ofString "jump"≠Str.ofString "put";decide +kernel
 |zero b g=>intro p hp;simp only[Row.dy,KL,Ln,Mh] at hp;rcases hp with rfl|rfl;exact trivial;show Str.ofString "zero"≠Str.ofString "put";decide +kernel
 |halt=>intro p hp;cases hp
theorem sT(cd:List (List (List Nat)))(r:Row):bf cd r=aM cd (0,r.wi)++r.dy.flatMap (qk cd):=by
 cases r<;>simp[bf,cG,Row.dy,Pk.qh,qk,fU]
theorem CK(l:List Nat):Y.fV (wd l) (some 1) none=wd l.tail:=by
 unfold Y.fV wd;congr 2;show Y.ml l (some 1) none=l.tail;unfold Y.ml;rw[HT.cY,show (some (1:Int))=some ((1:Nat):Int) from rfl,HT.cX]
 cases l with
 |nil=>rfl
 |cons x l=>simp
theorem vU(x:V)(xs:List V):dQ (x::xs) (some 1) none=xs:=by
 unfold dQ;rw[HT.cY,show (some (1:Int))=some ((1:Nat):Int) from rfl,HT.cX];simp
theorem yc{ws:List (List Nat)}{x:List Nat}(h:ws[i]?=some x):bC (wV ws) (i:Int)=some (.str (wd x)):=aR (by unfold wV;rw[K8,h];rfl)
def tY(K:W.Frag):Sp:=λvs H Q _=>∃(ra ca:Addr) (r:Row) (k:Nat) (cd:List (List (List Nat))),vs=[.ref ra,.ref ca]/\H ra=some (.tup r.vs)/\JZ H ca cd/\r.Ok k/\Cd cd/\∀H',KB [] H H'->Q (.str (wd (bf cd r))) H'
theorem zF(T:Txt K mg)(F:HasFn K mg "_law_plain" fG ["row","codes"])(h_law_words:ao P w K mg base aS 1 "_law_words" [] uZ)(h_law_bits:ao P w K mg base aS 1 "_law_bits" ["number","many"] jL):ao P w K mg base aS 2 "_law_plain" ["row","codes"] (tY K):=by
 refine F.dR bZ (λvs H Q E h=>?_) (λf cdv A outer s H vs Q E hr h=>?_)
 ·obtain⟨ra,ca,r,k,cd,rfl,_⟩:=h;rfl
 ·have hu:=aN hr;obtain⟨ra,ca,r,k,cd,rfl,hra,hca,bg,hC,q⟩:=h;obtain⟨a0,a1,a2,g,g0,g1,g2⟩:=hca;rw[Row.DW] at hra;rw[sT] at q;refine⟨_,(Z.aq (Z.se (i:=2) bZ.nd (Z.ix (Z.aF K rfl hu) (Z.ix (Z.aF K rfl hu) (Z.v 1) Z.int) (Z.bm K rfl PySem.F.plainAttrs_list PySem.F.slot_list_index PySem.F.type_list_index Y.uu (Z.Kp h_law_words (hr.mono (by decide)) rfl DX) (Z.cons (Z.ix (Z.aF K rfl hu) (Z.v 0) Z.int) Z.nil))))
   (Z.aq (Z.dO Lm rfl (Z.any K rfl (Z.slice (Z.ze K rfl) (Z.v 0) (Z.oW Z.int) Z.t9)) (Z.aG (i:=3) bZ.nd rfl (by right)) (Z.az (Z.dW (Z.pI K rfl (Z.cb (Z.Hv K rfl) rfl T.oU PyProof.Rows.boot_isinstance (Z.cons (Z.v 3) (Z.cons (Z.Kx (T:="str") rfl T.DF (by decide +kernel)) Z.nil)))) (Z.az (Z.se (i:=2) bZ.nd (Z.op (Z.aQ K rfl) (Z.v 2) (Z.ix (Z.aF K rfl hu) (Z.ix (Z.aF K rfl hu) (Z.v 1) Z.int) (Z.bm K rfl PySem.F.plainAttrs_str PySem.F.slot_str_index PySem.F.type_str_index Y.yN Z.str (Z.cons (Z.v 3) Z.nil)))))) (Z.az (Z.dW (Z.bp cc (Z.ix (Z.aF K rfl hu) (Z.v 0) Z.int) Z.str) (Z.aq (Z.se (i:=4) bZ.nd (Z.JR K rfl PySem.F.plainAttrs_int PySem.F.slot_int_bit_length PySem.F.type_int_bit_length Y.oV (Z.v 3)))
   (Z.az (Z.se (i:=2) bZ.nd (Z.op (Z.aQ K rfl) (Z.op (Z.aQ K rfl) (Z.v 2) (Z.ix (Z.aF K rfl hu) (Z.ix (Z.aF K rfl hu) (Z.v 1) Z.int) (Z.v 4))) (Z.slice Y.jh (Z.fc h_law_bits (Z.cons (Z.v 3) (Z.cons (Z.v 4) Z.nil))) (Z.oW Z.int) Z.t9))))) Z.bB)))))
   (Z.az (Z.ret (Z.v 2))))),?_⟩
  obtain⟨c0,c1,c2,rfl,l0,l1,l2⟩:=hC.ex;have w0:=hC.at (p:=(0,r.wi)) (.inl ⟨rfl,r.vj⟩);refine ar λN hN=>?_;exists au g;refine⟨rfl,λl hl=>?_⟩;have k1:KB [] H (upd H l (.lst (bP.map V.str))):=KB.new hl;have s1:upd H l (.lst (bP.map V.str)) l=_:=aa;generalize upd H l (.lst (bP.map V.str))=H1 at *;exists aC (k1 _ _ hra (by simp))
  refine⟨.inl ⟨rfl,_,a_.of s1⟩,l,bP,r.wd,r.wi,rfl,s1,rfl,(uX r).1,(uX r).2,?_⟩;exists au (k1 _ _ g0 (by simp)),yc w0.2.1
  rw[hN];clear hN N;refine ar λN hN=>?_;have hra1:=k1 _ _ hra (by simp)
  exists aC hra1;refine⟨ra,_,rfl,aX.of hra1,by rw[show (some (1:Int))=some ((1:Nat):Int) from rfl,HT.cX,KQ];lia,λt ht=>?_⟩
  rw[vU];have k2:KB [] H1 (upd H1 t (.tup (r.dy.map Pk.v))):=KB.new ht;have s2:upd H1 t (.tup (r.dy.map Pk.v)) t=_:=aa;generalize upd H1 t (.tup (r.dy.map Pk.v))=H2 at *;have k02:=k1.trans k2;simp only[aC s2];have G:=k02 _ _ g (by simp)
  have G1:=k02 _ _ g1 (by simp)
  have G2:=k02 _ _ g2 (by simp)
  have GR:=k02 _ _ hra (by simp)
  refine pq (xs:=r.dy.map Pk.v) (λi σ H'=>H'=H2/\∃(x:List Nat) (o3 o4:Option V),x.length+60*(r.dy.drop i).length<=200/\aM [c0,c1,c2] (0,r.wi)++r.dy.flatMap (qk [c0,c1,c2])=x++(r.dy.drop i).flatMap (qk [c0,c1,c2])/\σ=[some (.ref ra),some (.ref ca),some (.str (wd x)),o3,o4]) ⟨rfl,_,none,none,?_,rfl,rfl⟩ (λi σ H' _ h=>by rw[h.1];exact aX.of s2) ?_ ?_
  ·have h1:r.dy.length<=2:=by cases r<;>simp[Row.dy]
   have h2:=w0.2.2;rw[LD];lia
  ·rintro i x σ H' hx ⟨rfl,y,o3,o4,hy,ea,rfl⟩;have hi:i<r.dy.length:=by have:=(K7.mp hx).1;rw[K2] at this;exact this
   obtain rfl:x=(r.dy[i]).v:=by
    rw[K8,K1 hi] at hx;exact (Option.some.inj hx).symm
   have hp0:=Row.t7 bg _ (List.getElem_mem hi);have hp1:=Fq r _ (List.getElem_mem hi);rw[List.drop_eq_getElem_cons hi] at hy ea;rw[List.length_cons] at hy;generalize r.dy[i]=pk at *;unfold aL;dsimp only;refine jN λM hM=>?_
   cases pk with
   |box b =>
    have hb:b<8:=hp0;have w2:=hC.at (p:=(2,b)) (.inr (.inr ⟨rfl,hb⟩));show oY _ _ _ _ [_,_,_,some (V.str (e9 b)),_] _;exists (show vP "str" "str"=true from by decide +kernel),au G
    refine⟨by decide,rfl,_,_,b,[],rfl,rfl,J6 hb,?_⟩
    exists au G2,yc w2.2.1;rw[aK,aK,dF];refine⟨KA (show _<=240 by have:=w2.2.2;lia) (by decide),?_⟩
    rw[hM];exact⟨rfl,y++aM [c0,c1,c2] (2,b),some _,o4,by rw[K6];have:=w2.2.2;lia,by rw[ea,Ny,Ld];rfl,rfl⟩
   |num n =>
    have hn:n<65536:=hp0;have hb:=iH hn;have w1:=hC.at (p:=(1,bq n)) (.inr (.inl ⟨rfl,hb⟩));show oY _ _ _ _ [_,_,_,some (V.int (n:Nat)),_] _;exists (show vP "int" "str"=false from by decide +kernel),aC GR,KO (show r.wd=Str.ofString "put" from hp1)
    refine⟨by decide,rfl,(n:Int),rfl,rfl,?_⟩
    rw[show ((Builtin.Int.intBits (n:Int):Nat):Int)=(bq n:Int) from rfl];exists au G,au G1,yc w1.2.1;have fl:(dA n).length=bq n:=nQ n;have ft:(dA n).tail.length<=16:=by rw[P7];lia
    have h3:=w1.2.2;refine⟨by rw[aK,aK];exact KA (show _<=300 by lia) (by decide),(n:Int),bq n,rfl,by lia,?_⟩
    rw[show bo (n:Int) (bq n) []=dA n from rfl];refine⟨_,rfl,by rw[aK];exact KA (show _<=20 by lia) (by decide),?_⟩
    rw[CK,dF];exists aK;rw[dF];refine⟨KA (show _<=300 by rw[K6];lia) (by decide),?_⟩
    rw[hM];exact⟨rfl,y++aM [c0,c1,c2] (1,bq n)++(dA n).tail,some _,some _,by rw[K6,K6];lia,by rw[ea,Ny];simp[qk],rfl⟩
   |goal n =>
    show oY _ _ _ _ [_,_,_,some (V.int (n:Nat)),_] _;exists (show vP "int" "str"=false from by decide +kernel),aC GR,KJ (show r.wd≠Str.ofString "put" from hp1)
    refine⟨by decide,?_⟩
    rw[hM];exact⟨rfl,y,some _,o4,by lia,by rw[ea,Ny];rfl,rfl⟩
  ·rintro σ H' ⟨rfl,x,o3,o4,_,ea,rfl⟩;rw[K2,My,List.flatMap_nil,LF] at ea;show N _ _;rw[hN];clear hN N;walk_at "rz";rw[ea] at q;exact q _ k02
def u_:Sp:=λvs H Q _=>∃(a:Addr) (rs:List Row),vs=[.ref a]/\iL H a rs/\rs.length<=64/\∀b H',H b=none->KB [] H H'->H' b=some (.lst ((rs.map ay).map aT))->Q (.ref b) H'
theorem AX(T:Txt K mg)(F:HasFn K mg "_law_goals" dN ["program"]):ao P w K mg base aS 1 "_law_goals" ["program"] u_:=by
 refine F.dR l_ (λvs H Q E h=>?_) (λf cdv A outer s H vs Q E hr h=>?_)
 ·obtain⟨a,rs,rfl,_⟩:=h;rfl
 ·have hu:=aN hr;obtain⟨a,rs,rfl,⟨as,ha,hp⟩,hl,q⟩:=h;have hp1:=hp.1;refine⟨_,(Z.az (Z.ret (Z.o_ (osc:=ab dN) (ON:=["program"]) (own:=["row"]) (N:=["row","program"]) (aA.of rfl (by decide +kernel)) (Z.any K rfl (Z.v 0)) (λnd _ _ _ _=>(Z.aG (i:=0) nd rfl (by right))) (λ_ _ _ _=>Z.jA) (λ_ _ _ _=>(Z.ER (Z.bp (Z.Cv K rfl hu) (Z.ix (Z.aF K rfl hu) (Z.v 0) Z.int) (Z.tup (Z.consts rfl))) (Z.ix (Z.aF K rfl hu) (Z.v 0) (Z.un cP Z.int)) Z.aO))))),?_⟩
  exists aC ha;refine bF (xs:=as.map V.ref) (KA (show _<=64 by rw[K2];lia) (by decide)) (λD i ys H'=>H D=none/\H' D=some (.lst ys)/\KB [] H H'/\ys=((rs.take i).map ay).map aT/\i<=rs.length) (λD hD=>⟨hD,aa,KB.new hD,rfl,KW _⟩) (λD i ys H' h=>⟨h.2.1,by rw[h.2.2.2.1,K2,K2,K_];have:=h.2.2.2.2;lia⟩) (λD i ys H' h=>aX.of (h.2.2.1 _ _ ha (by simp))) ?_ ?_
  ·rintro D i ys H' x R hx ⟨g0,g1,gk,rfl,hi⟩ kk;obtain⟨c,ec,rfl⟩:∃c,as[i]?=some c/\x=.ref c:=by
    rw[K8] at hx;obtain⟨c,e,rfl⟩:=Lc.mp hx;exact⟨c,e,rfl⟩
   have hlt:i<rs.length:=by have:=(K7.mp ec).1;lia
   have er:=K1 hlt;have hc:=gk _ _ (hp.2 i c _ ec er) (by simp)
   have et:rs.take (i+1)=rs.take i++[rs[i]]:=by rw[L8,er];rfl
   have fin:∀G:Hp,KB [] H' G->R (aT (ay rs[i])) G:=λG kG=>by
    have g1':=kG _ _ g1 (by simp)
    refine kk _ _ g1' ⟨g0,aa,λu o e _=>by rw[af (ae e g0)];exact kG _ _ (gk _ _ e (by simp)) (by simp),by rw[et,KN,KN];rfl,hlt⟩
   generalize rs[i]=r at *;have sc:=aC hc;obtain⟨z,e0,h⟩:∃z:Str,bC r.vs 0=some (.str z)/\(jF (.str z) [.str "jump",.str "zero"]=true/\bC r.vs (-1)=some (aT (ay r))\/jF (.str z) [.str "jump",.str "zero"]=false/\aT (ay r)=.aO):=by
    cases r with
    |jump g=>exact⟨_,rfl,.inl ⟨by decide +kernel,rfl⟩⟩
    |zero b g=>exact⟨_,rfl,.inl ⟨by decide +kernel,rfl⟩⟩
    |put b n=>exact⟨_,rfl,.inr ⟨by decide +kernel,rfl⟩⟩
    |two u b c=>exact⟨_,rfl,.inr ⟨(show ∀u,jF (.str (w2 u)) [.str "jump",.str "zero"]=false by decide +kernel) u,rfl⟩⟩
    |one u b=>exact⟨_,rfl,.inr ⟨(show ∀u,jF (.str (w1 u)) [.str "jump",.str "zero"]=false by decide +kernel) u,rfl⟩⟩
    |halt=>exact⟨_,rfl,.inr ⟨by decide +kernel,rfl⟩⟩
   exists sc,e0;refine⟨by decide,λt ht=>⟨rfl,rfl,?_⟩⟩
   have k6:=KB.new (ex:=[]) (o:=.tup [.str "jump",.str "zero"]) ht;rcases h with ⟨h1,h2⟩|⟨h1,h2⟩
   ·exists h1,aC (k6 _ _ hc (by simp)),h2
    exact fin _ k6
   ·exists h1;rw[h2] at fin;exact fin _ k6
  ·rintro D ys H' ⟨g0,g1,gk,rfl,hi⟩;refine q D H' g0 gk ?_;rw[g1,K2,hp1,Lz]
theorem Hk{X:Cx}{tk:Nat}{tp:Pos}{e1 e2 e3:Expr}{ta:TA}{p pos:Pos}(K:W.Frag)(hK:X.K=K)(hg:Gl X "zip")(hm:X.mg "zip"=none)(ha:QA X [e1,e2,e3] ta)(h1:autoParam (dY e1=true) ℜ0)(h2:autoParam (dY e2=true) ℜ0)(h3:autoParam (dY e3=true) ℜ0):QI X (.Tuple es tk tp) (.Call (.Name "zip" p) [e1,e2,e3] [] pos) (AE K ta):=by
 subst hK;exact⟨Cb hg hm ha.h h1 h2 h3⟩
theorem yk(K:W.Frag)(ta:TA)(σ:L2.St)(H:Hp)(R:It->Hp->Prop):L2.AE K ta σ H R=ta σ H λvs H1=>∃p q r:Bool×Addr,vs=[V.ref p.2,V.ref q.2,V.ref r.2]/\(∃xs,hJ K p.1 H1 p.2 xs)/\(∃ys,hJ K q.1 H1 q.2 ys)/\(∃zs,hJ K r.1 H1 r.2 zs)/\∀n,R (Bs K (fh n [p,q,r])) H1:=rfl
theorem xa{g:TG}{tb:TS}{D:Ends}{b c:Addr}{zs:List V}{n:Nat}(hxy:xs.length=ys.length)(hxz:xs.length=zs.length)(Pv:Nat->L2.St->Hp->Prop)(h0:Pv 0 σ H)(hl:∀i σ H,Pv i σ H->a_ K H a xs/\a_ K H b ys/\a_ K H c zs)
  (hs:∀i x y z σ H p,xs[i]?=some x->ys[i]?=some y->zs[i]?=some z->Pv i σ H->H p=none->g (.ref p) σ (upd H p (.tup [x,y,z])) λσ2 H2=>tb {D with nx:=Pv (i+1),ct:=Pv (i+1),bk:=D.nx} σ2 H2) (hd:∀σ H,Pv xs.length σ H->D.nx σ H):qP (Bs K (fh n [(true,a),(true,b),(true,c)])) g tb D σ H:=by
 refine⟨λi m σ H=>m=xs.length-i/\i<=xs.length/\Pv i σ H,⟨xs.length,by simp,KW _,h0⟩,?_⟩
 rintro i m σ H ⟨rfl,hi,p⟩;obtain⟨q1,q2,q3⟩:=hl i σ H p;have q1':hJ K true H a xs:=q1;have q2':hJ K true H b ys:=q2;have q3':hJ K true H c zs:=q3;by_cases hlt:i<xs.length
 ·have hl2:i<ys.length:=by lia
  have hl3:i<zs.length:=by lia
  refine .inr ⟨⟨[xs[i],ys[i],zs[i]],.cons ⟨xs,q1',by simp[hlt]⟩ (.cons ⟨ys,q2',by simp[hl2]⟩ (.cons ⟨zs,q3',by simp[hl3]⟩ .nil))⟩,Pv (i+1),λσ' H' p'=>⟨xs.length-(i+1),by lia,rfl,hlt,p'⟩,λx H' z=>?_⟩
  obtain⟨c',vs,pr,fr,rfl,rfl⟩:=z;obtain⟨v1,vs,rfl,e1,pr⟩:=Paired.dI pr;obtain⟨v2,vs,rfl,e2,pr⟩:=Paired.dI pr;obtain⟨v3,vs,rfl,e3,pr⟩:=Paired.dI pr;cases pr;exact hs i v1 v2 v3 σ H c' (e1 xs q1') (e2 ys q2') (e3 zs q3') p fr
 ·have e:i=xs.length:=by lia
  subst e;exact .inl ⟨⟨[],(true,n,a),_,[],rfl,.nil,xs,q1',rfl⟩,hd σ H p⟩
theorem uk{l:List Nat}(h:i<l.length):bC (iV (nZ l)) (i:Int)=some (.int ((l.getD i 0:Nat):Int)):=aR (by unfold iV nZ;rw[LM,K8,K1 h,KD,K1 h];rfl)
theorem AY{l:List Nat}{v:V}(h:(iV (nZ l))[i]?=some v):∃x:Nat,l[i]?=some x/\v=.int (x:Nat):=by
 unfold iV nZ at h;rw[LM,K8] at h;obtain⟨x,e,rfl⟩:=Lc.mp h;exact⟨x,e,rfl⟩
theorem Fc{l:List (Option Nat)}{v:V}(h:(l.map aT)[i]?=some v):∃x,l[i]?=some x/\v=aT x:=by
 rw[K8] at h;obtain⟨x,e,rfl⟩:=Lc.mp h;exact⟨x,e,rfl⟩
def oH(K:W.Frag):Sp:=λvs H Q _=>∃(a b c:Addr) (ss:List Nat) (gs:List (Option Nat)) (ws:List Nat),vs=[.ref a,.ref b,.ref c]/\H a=some (.lst (iV (nZ ss)))/\H b=some (.lst (gs.map aT))/\H c=some (.lst (iV (nZ ws)))/\gs.length=ss.length/\ws.length=ss.length/\ss.length<=64/\(∀w∈ws,w<3)/\∀d H',H d=none->KB [] H H'->H' d=some (.lst (iV (nZ (df 0 ss gs ws))))->Q (.ref d) H'
theorem zS(T:Txt K mg)(F:HasFn K mg "_law_spots" fL ["sizes","goals","widths"]):ao P w K mg base aS 1 "_law_spots" ["sizes","goals","widths"] (oH K):=by
 refine F.dR cI (λvs H Q E h=>?_) (λf cdv A outer s H vs Q E hr h=>?_)
 ·obtain⟨a,b,c,ss,gs,ws,rfl,_⟩:=h;rfl
 ·have hu:=aN hr;obtain⟨a,b,c,ss,gs,ws,rfl,ha,hb,hc,h1,h2,h3,h4,q⟩:=h;have hl:=fM ss gs ws 0 h1 h2;have hat:=lM ss gs ws 0;obtain⟨l0,e0⟩:=gu 0 ss gs ws;refine⟨_,(Z.aq (Z.se (i:=3) cI.nd (Z.lst (Z.cons Z.int Z.nil)))
   (Z.aq (Z.dO Lm rfl (Hk K rfl rfl T.mE (Z.cons (Z.v 0) (Z.cons (Z.v 1) (Z.cons (Z.v 2) Z.nil)))) (Z.gQ (n:=3) K rfl rfl (Z.aZ (Z.aG (i:=4) cI.nd rfl (by right)) (Z.aZ (Z.aG (i:=5) cI.nd rfl (by right)) (Z.aZ (Z.aG (i:=6) cI.nd rfl (by right)) Z.dJ)))) (Z.az (Z.expr (Z.app K (Z.v 3) (Z.cons (Z.op (Z.aQ K rfl) (Z.op (Z.aQ K rfl) (Z.ix (Z.aF K rfl hu) (Z.v 3) (Z.un cP Z.int)) (Z.v 4)) (Z.ix (Z.aF K rfl hu) (Z.lst (Z.cons Z.int (Z.cons (Z.ix (Z.aF K rfl hu) (Z.lst (Z.consts rfl)) (Z.v 6)) Z.nil))) (Z.ct wG rfl T.zk (by decide +kernel) (Z.cons (Z.cmp gJ (Z.v 5) Z.aO) Z.nil)))) Z.nil)))))
   (Z.az (Z.ret (Z.v 3))))),?_⟩
  generalize jH:df 0 ss gs ws=sp at *;refine ar λN hN=>?_;walk_at "rz";refine⟨by decide,λfd hfd=>?_⟩
  have k1:=KB.new (ex:=[]) (o:=.lst [.int 0]) hfd;have s1:upd H fd (.lst [.int 0]) fd=some (.lst (iV (nZ (sp.take 1)))):=by rw[aa,e0];rfl
  generalize upd H fd (.lst [.int 0])=H1 at *;rw[hN];clear hN N;refine ar λN hN=>?_;exists yk;have ha1:=k1 _ _ ha (by simp)
  have hb1:=k1 _ _ hb (by simp)
  have hc1:=k1 _ _ hc (by simp)
  refine⟨(true,a),(true,b),(true,c),⟨rfl,rfl,rfl⟩,⟨_,a_.of ha1⟩,⟨_,a_.of hb1⟩,⟨_,a_.of hc1⟩,λn=>?_⟩;refine xa (xs:=iV (nZ ss)) (ys:=gs.map aT) (zs:=iV (nZ ws)) (by rw[b9,K2,h1]) (by rw[b9,b9,h2]) (λi σ H'=>∃o4 o5 o6:Option V,i<=ss.length/\KB [] H H'/\H' fd=some (.lst (iV (nZ (sp.take (i+1)))))/\σ=[some (.ref a),some (.ref b),some (.ref c),some (.ref fd),o4,o5,o6]) ⟨none,none,none,KW _,k1,s1,rfl⟩ (λi σ H' ⟨_,_,_,_,k,_⟩=>⟨a_.of (k _ _ ha (by simp)),a_.of (k _ _ hb (by simp)),a_.of (k _ _ hc (by simp))⟩) ?_ ?_
  ·rintro i x y z σ H' p hx hy hz ⟨o4,o5,o6,hi,hk,gf,rfl⟩ hp;obtain⟨s0,es,rfl⟩:=AY hx;obtain⟨g,eg,rfl⟩:=Fc hy;obtain⟨w0,ew,rfl⟩:=AY hz;have hlt:i<ss.length:=(K7.mp es).1;have lw:=h4 _ (Lu ew);have en:=hat i s0 g w0 es eg ew;unfold aL;refine⟨p,_,rfl,aX.of aa,rfl,_,_,rfl,_,_,rfl,_,_,rfl,rfl,?_⟩;have k2:=hk.trans (KB.new (o:=.tup [.int (s0:Nat),aT g,.int (w0:Nat)]) hp);have gf2:upd H' p (.tup [.int (s0:Nat),aT g,.int (w0:Nat)]) fd=some (.lst (iV (nZ (sp.take (i+1))))):=by rw[af (ae gf hp)];exact gf
   generalize upd H' p (.tup [.int (s0:Nat),aT g,.int (w0:Nat)])=H2 at *;have et:sp.take (i+1+1)=sp.take (i+1)++[sp.getD (i+1) 0]:=by
    rw[L8,KD,K1 (show i+1<sp.length by lia)];rfl
   have lst:bC (iV (nZ (sp.take (i+1)))) (-1)=some (.int ((sp.getD i 0:Nat):Int)):=by
    have hi2:(sp.take (i+1)).length=i+1:=by rw[K_];lia
    unfold bC iF;rw[KJ (by decide),KO (by rw[b9,hi2];lia),b9,hi2,show -1+((i+1:Nat):Int)=(i:Int) by lia]
    show (iV (nZ (sp.take (i+1))))[((i:Nat):Int).toNat]?=_;rw[Lg];unfold iV nZ;rw[LM,K8,NL (Ot i),K1 (show i<sp.length by lia),KD,K1 (show i<sp.length by lia)];rfl
   dsimp only;refine jN λM hM=>?_;exists au gf2,lst;have a1:bC [V.int 5,.int 10,.int 18] (w0:Int)=some (.int ((Bt w0:Nat):Int)):=by rcases iB lw with rfl|rfl|rfl<;>rfl
   refine⟨.inl ⟨rfl,_,a_.of gf2⟩,by decide,λp1 hp1=>?_⟩
   rw[a1];refine⟨by decide,λp2 hp2=>?_⟩
   have a2:bC [V.int 0,.int ((Bt w0:Nat):Int)] (if ¬ aT g=V.aO then 1 else 0)=some (.int ((addW g w0:Nat):Int)):=by cases g<;>rfl
   rw[a2];have k3:=(KB.new (ex:=[]) (o:=.lst [.int 5,.int 10,.int 18]) hp1).trans (KB.new (o:=.lst [.int 0,.int ((Bt w0:Nat):Int)]) hp2);generalize upd (upd H2 p1 _) p2 _=H3 at *;have gf3:=k3 _ _ gf2 (by simp)
   walk_at "rz";refine⟨fd,_,_,rfl,rfl,gf3,LG (show _<=1000 by rw[b9,K_];lia) (by decide),?_⟩
   rw[hM];refine⟨_,_,_,hlt,λu o e _=>by rw[af (ae e hfd)];exact k3 _ _ (k2 _ _ e (by simp)) (by simp),?_,rfl⟩
   rw[aa,et,en];unfold nZ;rw[KN,f9];rfl
  ·rintro σ H' ⟨o4,o5,o6,hi,hk,gf,rfl⟩;show N _ _;rw[hN];clear hN N;walk_at "rz";rw[L9 (by rw[hl,b9];exact KH _)] at gf
   exact q fd H' hfd hk gf
def vn(K:W.Frag):Sp:=λvs H Q _=>∃(a b c:Addr) (ss:List Nat) (gs:List (Option Nat)) (ws:List Nat),vs=[.ref a,.ref b,.ref c]/\H a=some (.lst (iV (nZ ss)))/\H b=some (.lst (gs.map aT))/\H c=some (.lst (iV (nZ ws)))/\gs.length=ss.length/\ws.length=ss.length/\ss.length<=64/\(∀t,some t∈gs->t<=ss.length)/\(∀w∈ws,w<3)/\∀d H',H d=none->KB [] H H'->H' d=some (.lst (iV (nZ (oF ss gs ws))))->Q (.ref d) H'
theorem E5(l:List Nat)(i v:Nat):(iV (nZ l)).set i (.int (v:Int))=iV (nZ (l.set i v)):=by
 unfold iV nZ;rw[MN,MN]
theorem AD(T:Txt K mg)(F:HasFn K mg "_law_least" fE ["sizes","goals","widths"])(h_law_spots:ao P w K mg base aS 1 "_law_spots" ["sizes","goals","widths"] (oH K)):ao P w K mg base aS 2 "_law_least" ["sizes","goals","widths"] (vn K):=by
 refine F.dR bM (λvs H Q E h=>?_) (λf cdv A outer s H vs Q E hr h=>?_)
 ·obtain⟨a,b,c,ss,gs,ws,rfl,_⟩:=h;rfl
 ·have hu:=aN hr;obtain⟨a,b,c,ss,gs,ws,rfl,ha,hb,hc,h1,h2,h3,h5,h6,q⟩:=h;refine⟨_,(Z.aq (Z.se (i:=2) bM.nd (Z.ct (Z.E_ K rfl) rfl T.rH (by decide +kernel) (Z.cons (Z.v 2) Z.nil)))
   (Z.aq (Z.dO Lm rfl (Z.ke rfl T.cA (Z.cons (Z.op (Z.aQ K rfl) (Z.op cu Z.int (Z.cb (Z.cx K rfl) rfl T.cp (by decide +kernel) (Z.cons (Z.v 0) Z.nil))) Z.int) Z.nil)) (Z.aG (i:=3) bM.nd rfl (by right)) (Z.aq (Z.se (i:=4) bM.nd (Z.fc h_law_spots (Z.cons (Z.v 0) (Z.cons (Z.v 1) (Z.cons (Z.v 2) Z.nil)))))
   (Z.az (Z.dO Lm rfl (Z.ke rfl T.cA (Z.cons (Z.cb (Z.cx K rfl) rfl T.cp (by decide +kernel) (Z.cons (Z.v 0) Z.nil)) Z.nil)) (Z.aG (i:=5) bM.nd rfl (by right)) (Z.az (Z.dW (Z.bp gJ (Z.ix (Z.aF K rfl hu) (Z.v 1) (Z.v 5)) Z.aO) (Z.aq (Z.se (i:=6) bM.nd (Z.ix (Z.aF K rfl hu) (Z.lst (Z.consts rfl)) (Z.ix (Z.aF K rfl hu) (Z.v 2) (Z.v 5))))
   (Z.aq (Z.se (i:=7) bM.nd (Z.op cZ (Z.ix (Z.aF K rfl hu) (Z.v 4) (Z.ix (Z.aF K rfl hu) (Z.v 1) (Z.v 5))) (Z.ix (Z.aF K rfl hu) (Z.v 4) (Z.op (Z.aQ K rfl) (Z.v 5) Z.int))))
   (Z.az (Z.dW (Z.AS (Z.EA (Ea) (iC) (Z.op cZ Z.int (Z.v 6)) (Z.v 7) (Z.v 6))) (Z.az (Z.asg (Z.cb (jg rfl) rfl T.Ag (by decide +kernel) (Z.cons (Z.op (Z.aQ K rfl) (Z.ix (Z.aF K rfl hu) (Z.v 2) (Z.v 5)) Z.int) (Z.cons Z.int Z.nil))) (Z.oz (Z.v 2) (Z.v 5)))) Z.bB)))) Z.bB))))))
   (Z.az (Z.ret (Z.v 2))))),?_⟩
  refine ar λN hN=>?_;walk_at "rz";refine⟨c,_,rfl,.inl (a_.of hc),λd hd=>?_⟩;have k1:=KB.new (ex:=[]) (o:=.lst (iV (nZ ws))) hd;have s1:upd H d (.lst (iV (nZ ws))) d=some (.lst (iV (nZ (bD ss gs ws 0)))):=aa;generalize upd H d (.lst (iV (nZ ws)))=H1 at *;rw[hN];clear hN N;refine ar λN hN=>?_;have ha1:=k1 _ _ ha (by simp)
  exists au ha1,b9;refine⟨.inl ⟨by decide,by decide⟩,by lia,by lia,?_⟩
  rw[show (2*(ss.length:Int)+1).toNat=2*ss.length+1 by lia]
  refine bL (λm σ H'=>∃o3 o4 o5 o6 o7:Option V,KB [] H H'/\H' d=some (.lst (iV (nZ (bD ss gs ws m))))/\σ=[some (.ref a),some (.ref b),some (.ref d),o3,o4,o5,o6,o7]) ⟨none,none,none,none,none,k1,s1,rfl⟩ ?_ ?_
  ·rintro m σ H' hm ⟨o3,o4,o5,o6,o7,hk,gd,rfl⟩;generalize (0:Int)+((m:Nat):Int)=kI;have wl:=gK ss gs ws m;have wt:=gn (ss:=ss) (gs:=gs) h6 m;rw[h2] at wl;unfold aL;have en:bD ss gs ws (m+1)=eN (df 0 ss gs (bD ss gs ws m)) 0 gs (bD ss gs ws m):=rfl;generalize bD ss gs ws m=wm at *;refine ar λM hM=>?_;walk_at "rz";refine⟨a,b,d,ss,gs,wm,rfl,hk _ _ ha (by simp),hk _ _ hb (by simp),gd,h1,wl,h3,wt,λsd H2 hsd k2 g2=>?_⟩
   rw[hM];clear hM M;have sl:=fM ss gs wm 0 h1 wl;generalize df 0 ss gs wm=sp at *;have dsd:sd≠d:=λz=>by rw[z,gd] at hsd;cases hsd
   have hk2:=hk.trans k2;have gd2:=k2 _ _ gd (by simp)
   have ha2:=hk2 _ _ ha (by simp)
   dsimp only;refine jN λM hM=>?_;exists au ha2,b9;refine⟨by lia,by lia,?_⟩
   rw[Lg];have hsdH:H sd=none:=hk.free (by simp) hsd
   refine bL (λi σ G=>∃o5 o6 o7:Option V,KB [] H G/\G sd=some (.lst (iV (nZ sp)))/\G d=some (.lst (iV (nZ (fA sp gs wm i))))/\σ=[some (.ref a),some (.ref b),some (.ref d),some (.int kI),some (.ref sd),o5,o6,o7]) ⟨o5,o6,o7,hk2,g2,gd2,rfl⟩ ?_ ?_
   ·rintro i σ G hi ⟨o5,o6,o7,hkG,gs3,gd3,rfl⟩;rw[show (0:Int)+((i:Nat):Int)=(i:Int) from Q8 _];have eg:=K1 (show i<gs.length by lia)
    have ew:=K1 (show i<wm.length by lia)
    have lw:=wt _ (KZ (show i<wm.length by lia))
    have gm:=KZ (show i<gs.length by lia)
    generalize gs[i]'_=g at eg gm;generalize wm[i]'_=w0 at ew lw;have hbG:=au (hkG _ _ hb (by simp))
    have ag:bC (gs.map aT) (i:Int)=some (aT g):=aR (by rw[K8,eg];rfl)
    have aw:bC (iV (nZ (fA sp gs wm i))) (i:Int)=some (.int (w0:Nat)):=aR (by unfold iV nZ;rw[LM,K8,xX ew];rfl)
    dsimp only;refine jN λM2 hM2=>?_;have xb:∀(G':Hp) (o6 o7:Option V),KB [] H G'->G' sd=some (.lst (iV (nZ sp)))->G' d=some (.lst (iV (nZ (fA sp gs wm (i+1)))))->M2 [some (.ref a),some (.ref b),some (.ref d),some (.int kI),some (.ref sd),some (.int (i:Int)),o6,o7] G':=λG' o6 o7 g1 g2 g3=>by rw[hM2];exact⟨_,o6,o7,g1,g2,g3,rfl⟩
    refine xy λA B hA hB=>?_;exists hbG,ag
    cases g with
    |none =>
     rw[KJ (show ¬ ¬ aT none=V.aO from λz=>z rfl),hB];rw[<- p_ (sp:=sp) eg ew rfl] at gd3;exact xb G _ _ hkG gs3 gd3
    |some t =>
     have ht:t<=ss.length:=h5 t gm;have as1:=uk (l:=sp) (i:=t) (by lia)
     have as2:bC (iV (nZ sp)) ((i:Int)+1)=some (.int ((sp.getD (i+1) 0:Nat):Int)):=uk (l:=sp) (i:=i+1) (by lia)
     rw[KO (show ¬ aT (some t)=V.aO from λz=>nomatch z),hA];clear hA hB;have ah:bC [V.int 8,.int 128,.int 32768] (w0:Int)=some (.int (bK w0)):=by rcases iB lw with rfl|rfl|rfl<;>rfl
     refine ar λM3 hM3=>?_;walk_at "rz";refine⟨by decide,λl hl=>?_⟩
     have k4:=KB.new (ex:=[]) (o:=.lst [.int 8,.int 128,.int 32768]) hl;have s4:upd G l (.lst [.int 8,.int 128,.int 32768]) l=_:=aa;have gd4:=k4 _ _ gd3 (by simp)
     exists au gd4,aw,au s4,ah;clear s4;have gs4:=k4 _ _ gs3 (by simp)
     have hkG4:=hkG.trans k4;generalize upd G l (.lst [.int 8,.int 128,.int 32768])=G4 at *;rw[hM3];clear hM3 M3;refine ar λM3 hM3=>?_;have hbG4:=au (hkG4 _ _ hb (by simp))
     have ag':bC (gs.map aT) (i:Int)=some (.int (t:Nat)):=ag;exists hbG4,ag',au gs4,as1,as2;rw[hM3];clear hM3 M3;have bad:kN w0 (bU sp t i)=false->M2 [some (.ref a),some (.ref b),some (.ref d),some (.int kI),some (.ref sd),some (.int (i:Int)),some (.int (bK w0)),some (.int (((sp.getD t 0:Nat):Int)-((sp.getD (i+1) 0:Nat):Int)))] (upd G4 d (.lst ((iV (nZ (fA sp gs wm i))).set i (.int (if 2<(w0:Int)+1 then 2 else (w0:Int)+1))))):=λc=>by
      have e3:fA sp gs wm (i+1)=(fA sp gs wm i).set i (min (w0+1) 2):=by
       rw[pF eg ew];show (fA sp gs wm i).set i (if kN w0 (bU sp t i)=true then w0 else min (w0+1) 2)=_
       rw[c,KJ (by decide)]
      refine xb _ _ _ (λu o e _=>by rw[af (ae e hd)];exact hkG4 _ _ e (by simp)) (by rw[af dsd];exact gs4) ?_
      rw[aa,show (if 2<(w0:Int)+1 then 2 else (w0:Int)+1)=((min (w0+1) 2:Nat):Int) by split<;>lia,E5,<- e3]
     exists au gd4,aw;have ex:iF (iV (nZ (fA sp gs wm i))).length (i:Int)=some i:=by
      rw[b9,Cj];unfold iF;rw[KO (by lia),KO (by lia),Lg]
     rw[gd4];simp only[ex];by_cases c1:0-bK w0<=((sp.getD t 0:Nat):Int)-((sp.getD (i+1) 0:Nat):Int)
     ·rw[KO c1];by_cases c2:((sp.getD t 0:Nat):Int)-((sp.getD (i+1) 0:Nat):Int)<bK w0
      ·rw[KJ (λz=>z c2)];rw[<- p_ (sp:=sp) eg ew (by
        show (if kN w0 (bU sp t i)=true then w0 else min (w0+1) 2)=w0
        rw[KO];unfold kN bU;rw[Li (by lia),Li c2];rfl)] at gd4
       exact xb _ _ _ hkG4 gs4 gd4
      ·rw[KO c2];refine bad ?_;unfold kN bU;rw[Lf c2,OL]
     ·rw[KJ c1];refine bad ?_;unfold kN bU;rw[Lf (by lia),NW]
   ·rintro σ G ⟨o5,o6,o7,hkG,gs3,gd3,rfl⟩;show M _ _;rw[hM];rw[<- wl,CA] at gd3;exact⟨_,_,o5,o6,o7,hkG,by rw[en];exact gd3,rfl⟩
  ·rintro σ H' ⟨o3,o4,o5,o6,o7,hk,gd,rfl⟩;show N _ _;rw[hN];clear hN N;walk_at "rz";exact q d H' hd hk gd
def hV(cd:List (List (List Nat)))(rs:List Row):List V:=rs.map λr=>.str (wd (bf cd r))
def pN(K:W.Frag):Sp:=λvs H Q _=>∃(a b c:Addr) (bk:List (List Int)) (rs:List Row) (ws:List Nat),vs=[.ref a,.ref b,.ref c]/\iL H a rs/\vA H b bk/\Bk bk/\H c=some (.lst (iV (nZ ws)))/\ws.length=rs.length/\rs.length<=64/\(∀r∈rs,r.Ok rs.length)/\(∀w∈ws,w<3)/\∀t v H',KB [] H H'->H' t=some (.tup [.str (wd (pz bk rs ws)),v])->Q (.ref t) H'
theorem wu(T:Txt K mg)(F:HasFn K mg "_law_packed" bY ["program","book","widths"])(h_law_code:ao P w K mg base aS 2 "_law_code" ["lengths"] (tV K))(h_law_plain:ao P w K mg base aS 2 "_law_plain" ["row","codes"] (tY K))(h_law_goals:ao P w K mg base aS 1 "_law_goals" ["program"] u_)(h_law_least:ao P w K mg base aS 2 "_law_least" ["sizes","goals","widths"] (vn K))(h_law_spots:ao P w K mg base aS 1 "_law_spots" ["sizes","goals","widths"] (oH K))(h_law_bits:ao P w K mg base aS 1 "_law_bits" ["number","many"] jL):ao P w K mg base aS 3 "_law_packed" ["program","book","widths"] (pN K):=by
 refine F.dR aJ (λvs H Q E h=>?_) (λf cdv A outer s H vs Q E hr h=>?_)
 ·obtain⟨a,b,c,bk,rs,ws,rfl,_⟩:=h;rfl
 ·have hu:=aN hr;obtain⟨a,b,c,bk,rs,ws,rfl,hp,hb,hB,hc,h1,h2,h3,h4,q⟩:=h;have hC:=hB.cd;obtain⟨as,hb1,hb2,hb3⟩:=hb;have ebk:bk.length=3:=by obtain⟨_,_,_,e,_⟩:=hB;rw[e];rfl
  have hl:∀l∈bk,ia l/\jG l=true:=by obtain⟨_,_,_,e,_,_,_,h⟩:=hB;exact h
  refine⟨_,(Z.aq (Z.asg (Z.o_ (osc:=ab bY) (ON:=["program","book","widths","codes","plain","goals","sizes","spots","bits","k","span","far"]) (own:=["lengths"]) (N:=["lengths","program","book","widths","codes","plain","goals","sizes","spots","bits","k","span","far"]) (aA.of rfl (by decide +kernel)) (Z.any K rfl (Z.v 1)) (λnd _ _ _ _=>(Z.aG (i:=0) nd rfl (by right))) (λ_ _ _ _=>Z.jA) (λ_ _ _ _=>(Z.fc h_law_code (Z.cons (Z.v 0) Z.nil)))) (Z.aG (i:=3) aJ.nd rfl (by right)))
   (Z.aq (Z.sec (j:=4) aJ.nd (osc:=ab bY) (ON:=["program","book","widths","codes","plain","goals","sizes","spots","bits","k","span","far"]) (own:=["row"]) (N:=["row","program","book","widths","codes","plain","goals","sizes","spots","bits","k","span","far"]) (aA.of rfl (by decide +kernel)) (Z.any K rfl (Z.v 0)) (λnd _ _ _ _=>(Z.aG (i:=0) nd rfl (by right))) (λ_ _ _ _=>Z.jA) (λ_ _ _ _=>(Z.fc h_law_plain (Z.cons (Z.v 0) (Z.cons (Z.v 4) Z.nil)))))
   (Z.aq (Z.se (i:=5) aJ.nd (Z.fc h_law_goals (Z.cons (Z.v 0) Z.nil)))
   (Z.aq (Z.sec (j:=6) aJ.nd (osc:=ab bY) (ON:=["program","book","widths","codes","plain","goals","sizes","spots","bits","k","span","far"]) (own:=["text"]) (N:=["text","program","book","widths","codes","plain","goals","sizes","spots","bits","k","span","far"]) (aA.of rfl (by decide +kernel)) (Z.any K rfl (Z.v 4)) (λnd _ _ _ _=>(Z.aG (i:=0) nd rfl (by right))) (λ_ _ _ _=>Z.jA) (λ_ _ _ _=>(Z.cb (Z.cx K rfl) rfl T.cp (by decide +kernel) (Z.cons (Z.v 0) Z.nil))))
   (Z.aq (Z.se (i:=2) aJ.nd (Z.fc h_law_least (Z.cons (Z.v 6) (Z.cons (Z.v 5) (Z.cons (Z.v 2) Z.nil)))))
   (Z.aq (Z.se (i:=7) aJ.nd (Z.fc h_law_spots (Z.cons (Z.v 6) (Z.cons (Z.v 5) (Z.cons (Z.v 2) Z.nil)))))
   (Z.aq (Z.se (i:=8) aJ.nd Z.str)
   (Z.aq (Z.dO Lm rfl (Z.ke rfl T.cA (Z.cons (Z.cb (Z.cx K rfl) rfl T.cp (by decide +kernel) (Z.cons (Z.v 0) Z.nil)) Z.nil)) (Z.aG (i:=9) aJ.nd rfl (by right)) (Z.aq (Z.se (i:=8) aJ.nd (Z.op (Z.aQ K rfl) (Z.v 8) (Z.ix (Z.aF K rfl hu) (Z.v 4) (Z.v 9))))
   (Z.az (Z.dW (Z.bp gJ (Z.ix (Z.aF K rfl hu) (Z.v 5) (Z.v 9)) Z.aO) (Z.aq (Z.se (i:=10) aJ.nd (Z.ix (Z.aF K rfl hu) (Z.lst (Z.consts rfl)) (Z.ix (Z.aF K rfl hu) (Z.v 2) (Z.v 9))))
   (Z.aq (Z.se (i:=11) aJ.nd (Z.op eJ (Z.op cZ (Z.ix (Z.aF K rfl hu) (Z.v 7) (Z.ix (Z.aF K rfl hu) (Z.v 5) (Z.v 9))) (Z.ix (Z.aF K rfl hu) (Z.v 7) (Z.op (Z.aQ K rfl) (Z.v 9) Z.int))) (Z.v 10)))
   (Z.az (Z.se (i:=8) aJ.nd (Z.op (Z.aQ K rfl) (Z.op (Z.aQ K rfl) (Z.v 8) (Z.ix (Z.aF K rfl hu) (Z.lst (Z.consts rfl)) (Z.ix (Z.aF K rfl hu) (Z.v 2) (Z.v 9)))) (Z.fc h_law_bits (Z.cons (Z.v 11) (Z.cons (Z.ix (Z.aF K rfl hu) (Z.lst (Z.consts rfl)) (Z.ix (Z.aF K rfl hu) (Z.v 2) (Z.v 9))) Z.nil)))))))) Z.bB))))
   (Z.az (Z.ret (Z.tup (Z.cons (Z.v 8) (Z.cons (Z.ct (Z.cm K rfl) rfl T.cq (by decide +kernel) (Z.cons (Z.slice (Z.ze K rfl) (Z.v 7) Z.t9 (Z.oW (Z.un cP Z.int))) Z.nil)) Z.nil))))))))))))),?_⟩
  refine ar λN hN=>?_;exists aC hb1;refine bF (xs:=as.map V.ref) (KA (show _<=3 by rw[K2,hb2,ebk];exact KH 3) (by decide)) (λD i ys H'=>H D=none/\H' D=some (.lst ys)/\KB [] H H'/\∃cs:List Addr,ys=cs.map V.ref/\cs.length=i/\∀(j:Nat) (c:Addr),cs[j]?=some c->c≠D/\H' c=some (.lst (wV (wordsOf Cw.fi (bk.getD j []))))) (λD hD=>⟨hD,aa,KB.new hD,[],rfl,rfl,λj c e=>nomatch e⟩) (λD i ys H' h=>⟨h.2.1,by obtain⟨_,_,_,cs,rfl,e,_⟩:=h;rw[K2,e]⟩) (λD i ys H' h=>aX.of (h.2.2.1 _ _ hb1 (by simp))) ?_ ?_
  ·rintro D i ys H' x R hx ⟨g0,g1,g2,cs,rfl,g4,g5⟩ kk;obtain⟨u,eu,rfl⟩:∃u,as[i]?=some u/\x=.ref u:=by
    rw[K8] at hx;obtain⟨u,e,rfl⟩:=Lc.mp hx;exact⟨u,e,rfl⟩
   have hi:i<bk.length:=by have:=(K7.mp eu).1;lia
   have hm:bk.getD i []∈bk:=by rw[KD,K1 hi];exact KZ hi
   walk_at "rz";refine⟨u,_,rfl,g2 _ _ (hb3 i u eu) (by simp),(hl _ hm).1,(hl _ hm).2,λc H5 c0 k5 e5=>?_⟩
   have gD:=k5 _ _ g1 (by simp)
   have cD:c≠D:=λz=>by rw[z,g1] at c0;cases c0
   refine kk _ _ gD ⟨g0,aa,λu o e _=>by rw[af (ae e g0)];exact k5 _ _ (g2 _ _ e (by simp)) (by simp),cs++[c],by rw[KN];rfl,by rw[K6,g4];rfl,λj d e=>?_⟩
   rcases LH j cs.length with hj|hj
   ·rw[Lj hj] at e;obtain⟨q2,q3⟩:=g5 j d e;exact⟨q2,by rw[af q2];exact k5 _ _ q3 (by simp)⟩
   ·rw[Le hj] at e;obtain⟨hj2,rfl⟩:=K7.mp e;have:j=i:=by simp at hj2;lia
    subst this;simp only[g4,LU,Mg];exact⟨cD,by rw[af cD];exact e5⟩
  rintro ca ys H1 ⟨g0,g1,g2,cs,rfl,g4,g5⟩;rw[K2,hb2,ebk] at g4;obtain⟨c0,c1,c2,rfl⟩:=oK g4;have cdl:JZ H1 ca (cT bk):=by
   obtain⟨l0,l1,l2,rfl⟩:=oK ebk;exact⟨c0,c1,c2,g1,(g5 0 c0 rfl).2,(g5 1 c1 rfl).2,(g5 2 c2 rfl).2⟩
  show N _ _;rw[hN];clear hN N;clear g5 g4 g1 hb1 hb2 hb3 hl g0 ebk;have hp1:=hp.kb g2;unfold pz at q;generalize cT bk=cd at *;refine ar λN hN=>?_;obtain⟨ps,hps,hpa⟩:=hp1;have hpl:=hpa.1;exists aC hps;refine bF (xs:=ps.map V.ref) (KA (show _<=64 by rw[K2];lia) (by decide)) (λD i ys H'=>H1 D=none/\H' D=some (.lst ys)/\KB [] H1 H'/\ys=hV cd (rs.take i)/\i<=rs.length) (λD hD=>⟨hD,aa,KB.new hD,rfl,KW _⟩) (λD i ys H' h=>⟨h.2.1,by rw[h.2.2.2.1,hV,K2,K_];have:=h.2.2.2.2;lia⟩) (λD i ys H' h=>aX.of (h.2.2.1 _ _ hps (by simp))) ?_ ?_
  ·rintro D i ys H' x R hx ⟨g0,g1,gk,rfl,hi⟩ kk;obtain⟨u,eu,rfl⟩:∃u,ps[i]?=some u/\x=.ref u:=by
    rw[K8] at hx;obtain⟨u,e,rfl⟩:=Lc.mp hx;exact⟨u,e,rfl⟩
   have hlt:i<rs.length:=by have:=(K7.mp eu).1;lia
   have er:=K1 hlt;have et:rs.take (i+1)=rs.take i++[rs[i]]:=by rw[L8,er];rfl
   walk_at "rz";refine⟨u,ca,rs[i],rs.length,cd,rfl,gk _ _ (hpa.2 i u _ eu er) (by simp),?_,h3 _ (KZ hlt),hC,λH5 k5=>?_⟩
   ·obtain⟨x0,x1,x2,y1,y2,y3,y4⟩:=cdl;exact⟨x0,x1,x2,gk _ _ y1 (by simp),gk _ _ y2 (by simp),gk _ _ y3 (by simp),gk _ _ y4 (by simp)⟩
   ·exact kk _ _ (k5 _ _ g1 (by simp)) ⟨g0,aa,λu o e _=>by rw[af (ae e g0)];exact k5 _ _ (gk _ _ e (by simp)) (by simp),by rw[et];unfold hV;rw[KN];rfl,hlt⟩
  rintro pl ys H2 ⟨_,gp,k2,rfl,_⟩;rw[K2,hpl,Lz] at gp;show N _ _;rw[hN];clear hN N;have k02:=g2.trans k2;clear cdl hps hpa hpl g2 k2;refine ar λN hN=>?_;walk_at "rz";refine⟨a,rs,rfl,hp.kb k02,h2,λga H3 hga k3 gg=>?_⟩;rw[hN];clear hN N;have k03:=k02.trans k3;have gp3:=k3 _ _ gp (by simp)
  refine ar λN hN=>?_;exists au gp3;refine dZ (xs:=hV cd rs) (KA (show _<=64 by rw[hV,K2];exact h2) (by decide)) (λD i ys H'=>H3 D=none/\H' D=some (.lst ys)/\KB [] H3 H'/\ys=iV (nZ (dH cd (rs.take i)))/\i<=rs.length) (λD hD=>⟨hD,aa,KB.new hD,rfl,KW _⟩) (λD i ys H' h=>⟨h.2.1,by rw[h.2.2.2.1,b9,dH,K2,K_];have:=h.2.2.2.2;lia⟩) (λD i ys H' h=>a_.of (h.2.2.1 _ _ gp3 (by simp))) ?_ ?_
  ·rintro D i ys H' x R hx ⟨g0,g1,gk,rfl,hi⟩ kk;have hlt:i<rs.length:=by have:=(K7.mp hx).1;rw[hV,K2] at this;exact this
   have er:=K1 hlt;have et:rs.take (i+1)=rs.take i++[rs[i]]:=by rw[L8,er];rfl
   have ex:x=.str (wd (bf cd rs[i])):=by
    unfold hV at hx;rw[K8,er] at hx;exact (Option.some.inj hx).symm
   subst ex;have h136:=cW hC (h3 _ (KZ hlt));exists aK;exact⟨KA h136 (by decide),kk _ _ g1 ⟨g0,aa,λu o e _=>by rw[af (ae e g0)];exact gk _ _ e (by simp),by rw[et];unfold dH nZ iV;rw[KN,KN,KN];rfl,hlt⟩⟩
  rintro sa ys H4 ⟨_,gsz,k4,rfl,_⟩;rw[show (hV cd rs).length=rs.length from K2 ..,Lz] at gsz;show N _ _;rw[hN];clear hN N;have k04:=k03.trans k4;have gg4:=k4 _ _ gg (by simp)
  have gp4:=k4 _ _ gp3 (by simp)
  have nX:(dH cd rs).length=rs.length:=K2 ..;have gl1:(rs.map ay).length=rs.length:=K2 ..;have sb:∀s∈dH cd rs,s<=150:=λs hs=>by
   obtain⟨r,hr',rfl⟩:=L3.mp hs;have:=cW hC (h3 r hr');lia
  have gb:∀t,some t∈rs.map ay->t<=(dH cd rs).length:=λt ht=>by
   obtain⟨r,hr',e⟩:=L3.mp ht;rw[nX];exact gO (h3 r hr') e
  clear gp gp3 gg k02 k03 k3 k4;refine ar λN hN=>?_;walk_at "rz";refine⟨sa,ga,c,dH cd rs,rs.map ay,ws,rfl,gsz,gg4,k04 _ _ hc (by simp),by rw[gl1,nX],by rw[h1,nX],by rw[nX];exact h2,gb,h4,λwa H5 _ k5 g5=>?_⟩
  rw[hN];clear hN N;have wl:=uY (dH cd rs) (rs.map ay) ws;have wt:=rA (ss:=dH cd rs) (gs:=rs.map ay) h4;rw[h1] at wl;generalize oF (dH cd rs) (rs.map ay) ws=w' at *;refine ar λN hN=>?_;walk_at "rz";refine⟨sa,ga,wa,dH cd rs,rs.map ay,w',rfl,k5 _ _ gsz (by simp),k5 _ _ gg4 (by simp),g5,by rw[gl1,nX],by rw[wl,nX],by rw[nX];exact h2,wt,λpa H6 _ k6 g6=>?_⟩
  rw[hN];clear hN N;have spl:=fM (dH cd rs) (rs.map ay) w' 0 (by rw[gl1,nX]) (by rw[wl,nX])
  rw[nX] at spl;generalize df 0 (dH cd rs) (rs.map ay) w'=sp at *;have k56:=k5.trans k6;have k06:=k04.trans k56;have gp6:=k56 _ _ gp4 (by simp)
  have gg6:=k56 _ _ gg4 (by simp)
  have gw6:=k6 _ _ g5 (by simp)
  clear k56 gp4 gg4 g5 k5 k6 gsz k04 sb gb;refine ar λN hN=>?_;walk_at "rz";rw[hN];clear hN N;refine ar λN hN=>?_;obtain⟨as2,ha2,hpa2⟩:=hp.kb k06;have hpl2:=hpa2.1;exists aC ha2,K2,hpl2;refine⟨by lia,by lia,?_⟩
  rw[Lg];refine bL (λi σ H'=>∃(x:List Nat) (o9 o10 o11:Option V),KB [] H6 H'/\x++ik cd sp i (rs.drop i) (w'.drop i)=ik cd sp 0 rs w'/\x.length<=200*i/\σ=[some (.ref a),some (.ref b),some (.ref wa),some (.ref ca),some (.ref pl),some (.ref ga),some (.ref sa),some (.ref pa),some (.str (wd x)),o9,o10,o11]) ⟨[],none,none,none,KB.refl _ _,rfl,KW _,by rw[<- lJ]⟩ ?_ ?_
  ·rintro i σ H' hlt ⟨x,o9,o10,o11,hk,ex,hx,rfl⟩;rw[show (0:Int)+((i:Nat):Int)=(i:Int) from Q8 _];have er:=K1 hlt;have ew:=K1 (show i<w'.length by lia)
   have lw:=wt _ (KZ (show i<w'.length by lia))
   have okr:=h3 _ (KZ hlt);rw[L7 hlt,L7 (show i<w'.length by lia),ik] at ex
   generalize rs[i]'_=r at *;generalize w'[i]'_=w0 at *;have ap:bC (hV cd rs) (i:Int)=some (.str (wd (bf cd r))):=aR (by unfold hV;rw[K8,er];rfl)
   have ag:bC ((rs.map ay).map aT) (i:Int)=some (aT (ay r)):=aR (by rw[K8,K8,er];rfl)
   have aw:bC (iV (nZ w')) (i:Int)=some (.int (w0:Nat)):=aR (by unfold iV nZ;rw[LM,K8,ew];rfl)
   have h136:=cW hC okr;have gpH:=au (hk _ _ gp6 (by simp))
   have ggH:=au (hk _ _ gg6 (by simp))
   unfold aL;refine ar λM hM=>?_;exists gpH,ap;rw[dF,aK,aK];refine⟨KA (show _<=20000 by lia) (by decide),?_⟩
   rw[hM];clear hM M;dsimp only;refine jN λM hM=>?_;have fin:∀(G:Hp) (o10 o11:Option V),KB [] H6 G->(mh sp i w0 (ay r)).length<=18->M [some (.ref a),some (.ref b),some (.ref wa),some (.ref ca),some (.ref pl),some (.ref ga),some (.ref sa),some (.ref pa),some (.str (wd (x++bf cd r++mh sp i w0 (ay r)))),some (.int (i:Int)),o10,o11] G:=λG o10 o11 g1 hj=>by
    rw[hM];exact⟨_,_,o10,o11,g1,by rw[<- ex];simp,by rw[K6,K6];lia,rfl⟩
   clear hM ex;refine xy λA B hA hB=>?_;exists ggH,ag
   cases eg:ay r with
   |none =>
    rw[eg] at fin;rw[KJ (show ¬ ¬ aT none=V.aO from λz=>z rfl),hB];have:=fin H' o10 o11 hk (KW _);rw[show mh sp i w0 none=[] from rfl,LF] at this;exact this
   |some g =>
    rw[eg] at fin ag;rw[KO (show ¬ aT (some g)=V.aO from λz=>nomatch z),hA];clear hA hB;have hg:g<=rs.length:=gO okr eg;have as1:=uk (l:=sp) (i:=g) (by lia)
    have as2:bC (iV (nZ sp)) ((i:Int)+1)=some (.int ((sp.getD (i+1) 0:Nat):Int)):=uk (l:=sp) (i:=i+1) (by lia)
    have p1:bC [V.int 16,.int 256,.int 65536] (w0:Int)=some (.int (2^ba w0)):=by rcases iB lw with rfl|rfl|rfl<;>rfl
    have p2:=yD lw;have p3:bC [V.int 4,.int 8,.int 16] (w0:Int)=some (.int ((ba w0:Nat):Int)):=by rcases iB lw with rfl|rfl|rfl<;>rfl
    have p4:0<ba w0/\ba w0<=16/\(cy w0).length<=2:=by rcases iB lw with rfl|rfl|rfl<;>decide
    refine ar λM3 hM3=>?_;walk_at "rz";refine⟨by decide,λl1 hl1=>?_⟩
    have k7:=KB.new (ex:=[]) (o:=.lst [.int 16,.int 256,.int 65536]) hl1;have s7:upd H' l1 (.lst [.int 16,.int 256,.int 65536]) l1=_:=aa;exists au (k7 _ _ (hk _ _ gw6 (by simp)) (by simp)),aw,au s7,p1
    have hk7:=hk.trans k7;clear s7;generalize upd H' l1 (.lst [.int 16,.int 256,.int 65536])=H7 at *;rw[hM3];clear hM3 M3;refine ar λM3 hM3=>?_;have ag':bC ((rs.map ay).map aT) (i:Int)=some (.int (g:Nat)):=ag;exists au (hk7 _ _ gg6 (by simp)),ag',au (hk7 _ _ g6 (by simp)),as1,as2
    refine⟨Int.pow_pos (by decide),?_⟩
    rw[hM3];clear hM3 M3;walk_at "rz";refine⟨by decide,λl2 hl2=>?_⟩
    have k8:=KB.new (ex:=[]) (o:=.lst [.str (Str.ofString "0"),.str (Str.ofString "10"),.str (Str.ofString "11")]) hl2;have s8:upd H7 l2 (.lst [.str (Str.ofString "0"),.str (Str.ofString "10"),.str (Str.ofString "11")]) l2=_:=aa;exists au (k8 _ _ (hk7 _ _ gw6 (by simp)) (by simp)),aw,au s8,p2
    have hk8:=hk7.trans k8;clear s8;generalize upd H7 l2 (.lst [.str (Str.ofString "0"),.str (Str.ofString "10"),.str (Str.ofString "11")])=H8 at *;have hxl:(x++bf cd r).length<=13000:=by rw[K6];lia
    have ll:(bo (bU sp g i) (ba w0) []).length=ba w0:=by rw[dm];rfl
    rw[aK,aK];refine⟨KA (show _<=20000 by lia) (by decide),by decide,λl3 hl3=>?_⟩
    have k9:=KB.new (ex:=[]) (o:=.lst [.int 4,.int 8,.int 16]) hl3;have s9:upd H8 l3 (.lst [.int 4,.int 8,.int 16]) l3=_:=aa;exists au (k9 _ _ (hk8 _ _ gw6 (by simp)) (by simp)),aw,au s9,p3
    refine⟨_,ba w0,rfl,by lia,?_⟩
    rw[nj,dF];walk_at "rz";rw[dF,aK,aK];have hfin:=fin (upd H8 l3 (.lst [.int 4,.int 8,.int 16])) (some (.int (2^ba w0))) (some (.int ((((sp.getD g 0:Nat):Int)-((sp.getD (i+1) 0:Nat):Int)) % 2^ba w0))) (hk8.trans k9) (by show (cH w0 (bU sp g i)).length<=18;unfold cH;rw[K6,ll];lia)
    rw[show x++bf cd r++mh sp i w0 (some g)=x++bf cd r++cy w0++bo (((sp.getD g 0:Nat):Int)-((sp.getD (i+1) 0:Nat):Int)) (ba w0) [] by show x++bf cd r++(cy w0++bo (bU sp g i) (ba w0) [])=_;rw[Ld (x++bf cd r)];rfl] at hfin
    exact⟨KA (show _<=20000 by rw[K6];unfold bU at ll;lia) (by decide),hfin⟩
  ·rintro σ H' ⟨x,o9,o10,o11,hk,ex,hx,rfl⟩;show N _ _;rw[hN];clear hN N;rw[My] at ex;have ex':x=ik cd sp 0 rs w':=by rw[<- ex];unfold ik;exact (LF x).symm
   exists au (hk _ _ g6 (by simp))
   intro q1 hq1 l2 hl2;refine⟨by decide,λt ht=>?_⟩
   rw[<- ex'] at q;exact q t _ _ (k06.trans (hk.trans ((KB.new hq1).trans ((KB.new hl2).trans (KB.new ht))))) aa
theorem x5{bk:List (List Int)}{rs:List Row}(hB:Bk bk)(h1:ws.length=rs.length)(h2:rs.length<=64)(h3:∀r∈rs,r.Ok rs.length)(h4:∀w∈ws,w<3):∃ws' sp,Laid (cT bk) rs ws' sp (pz bk rs ws):=by
 have sl:(dH (cT bk) rs).length=rs.length:=K2 ..;exact⟨_,_,(pG hB).1,by rw[uY,h1],h2,h3,rA h4,rfl,Cm (λs hs=>by
  obtain⟨r,hr,rfl⟩:=L3.mp hs;have:=cW hB.cd (h3 r hr)
  lia) (by rw[sl];exact h2) (by rw[sl];exact h1) h4,rfl⟩
theorem sM{cd:List (List (List Nat))}(h:∀ws∈cd,∀w∈ws,dX w)(sp:List Nat):∀(rs:List Row) (ws:List Nat) (k:Nat),dX (ik cd sp k rs ws)
 |[],_,_=>λc hc=>by unfold ik at hc;cases hc
 |_::_,[],_=>λc hc=>by unfold ik at hc;cases hc
 |r::rs,w::ws,k=>by
  rw[ik];refine dX.app (dX.app (ym h r) ?_) (sM h sp rs ws (k+1))
  cases ay r with
  |none=>exactλc hc=>by cases hc
  |some t =>
   refine dX.app ?_ (ic _ _ _ λc hc=>by cases hc)
   match w with
   |0=>exactλc hc=>.inl (KU.mp hc)
   |1=>exactλc hc=>by simp[cy] at hc;exact hc.symm
   |_+2=>exactλc hc=>by simp[cy] at hc;exact .inr hc
theorem xU(bk:List (List Int))(rs:List Row)(ws:List Nat):dX (pz bk rs ws):=sM (Bh bk) _ _ _ _
theorem Gs{b p:Addr}{how:Str}{l:List Int}(ha:H a=some (.tup [.str how,.ref p]))(hb:H b=some (.tup [.str how,.ref q]))(hp:H p=some (.tup (iV l)))(hq:H q=some (.tup (iV l)))(k:Q (.bl false) H):Y.EC K (.ref a) (.ref b) H Q:=.inr (vC (neg:=true) ha hb (xs:=[.str how,.tup (l.map T.int)]) (.cons (.str _) (.cons (uH hp) .nil)) (.cons (.str _) (.cons (uH hq) .nil)) (λy hy=>by
 simp only[KL,Ln,Mh] at hy;rcases hy with rfl|rfl
 ·exact uI _ _
 ·exact xG _ _) k)
theorem yv(xs:List V)(v:V):dQ (xs++[v]) none (some (-1))=xs:=by
 unfold dQ;rw[HT.cY,LD,MZ];have:HT.bI (xs++[v]).length (xs++[v]).length (some (-1))=xs.length:=by
  unfold HT.bI;simp only[show ((-1:Int)<0)=True from eq_true (by decide),MV,K6,KQ,LS]
  lia
 rw[this,NX]
def zZ:Sp:=λvs H Q _=>∃(a:Addr) (xs:List V) (v:V) (g:Int),vs=[.ref a,.int g]/\H a=some (.tup (xs++[v]))/\xs≠[]/\xs.length<=2/\∀p H',KB [] H H'->H' p=some (.tup (xs++[.int g]))->Q (.ref p) H'
theorem DC(T:Txt K mg)(F:HasFn K mg "with_goal" gq ["row","goal"]):ao P w K mg base aS 1 "with_goal" ["row","goal"] zZ:=by
 refine F.dR nK (λvs H Q E h=>?_) (λf cdv A outer s H vs Q E hr h=>?_)
 ·obtain⟨a,xs,v,g,rfl,_⟩:=h;rfl
 ·have hu:=aN hr;obtain⟨a,xs,v,g,rfl,ha,hne,hl,q⟩:=h;refine⟨_,(Z.az (Z.ret (Z.op (Z.aQ K rfl) (Z.slice (Z.ze K rfl) (Z.v 0) Z.t9 (Z.oW (Z.un cP Z.int))) (Z.tup (Z.cons (Z.v 1) Z.nil))))),?_⟩;exists aC ha;refine⟨a,_,rfl,aX.of ha,λz=>?_,λp hp=>?_⟩
  ·have h1:=z.2;have:HT.bI (xs++[v]).length (xs++[v]).length (some (-1))=xs.length:=by
    unfold HT.bI;simp only[show ((-1:Int)<0)=True from eq_true (by decide),MV,K6,KQ,LS]
    lia
   rw[this,K6] at h1;simp at h1
  rw[yv];have k1:=KB.new (ex:=[]) (o:=.tup xs) hp;have s1:upd H p (.tup xs) p=_:=aa;generalize upd H p (.tup xs)=H1 at *;refine⟨by decide,λp2 hp2=>?_⟩
  have k2:=KB.new (ex:=[]) (o:=.tup [.int g]) hp2;have s2:upd H1 p2 (.tup [.int g]) p2=_:=aa;have s12:=k2 _ _ s1 (by simp)
  generalize upd H1 p2 (.tup [.int g])=H2 at *;simp only[L2.Ap.addRef,s12,s2];refine⟨hne,by simp,KA (show _<=3 by simp;lia) (by decide),λp3 hp3=>?_⟩
  exact q _ _ (k1.trans (k2.trans (KB.new hp3))) aa
theorem B7(r:Row)(g:Int):kO (r.m g)=(match ay r with|none=>V.aO|some _=>.int g):=by cases r<;>rfl
theorem Eu{r:Row}(g:Int)(h:ay r=none):(r.m g).vs=r.vs:=by cases r<;>first|rfl|cases h
theorem Fu{r:Row}(g:Int)(h:ay r=some t):∃xs:List V,xs≠[]/\xs.length<=2/\(r.m g).vs=xs++[.int g]/\r.vs=xs++[.int (t:Nat)]:=by
 cases r with
 |jump _=>cases h;exact⟨[.str "jump"],by simp,by simp,rfl,rfl⟩
 |zero b _=>cases h;exact⟨[.str "zero",.str (e9 b)],by simp,by simp,rfl,rfl⟩
 |put=>cases h
 |two=>cases h
 |one=>cases h
 |halt=>cases h
def Bn:Sp:=λvs H Q _=>∃(a d:Addr) (st:V) (r:Row) (g:Int) (kvs:List (Key×V)),vs=[.ref a,st,.ref d]/\H a=some (.tup (r.m g).vs)/\H d=some (.dK kvs)/\(∀t,ay r=some t->fW kvs (.inl g)=some (.int (t:Nat)))/\∀p H',KB [] H H'->H' p=some (.tup r.vs)->Q (.ref p) H'
theorem B9(T:Txt K mg)(F:HasFn K mg "goal_numbered" dD ["row","start","numbers"])(hgoal_of:ao P w K mg base aS 1 "goal_of" ["row"] nG)(hwith_goal:ao P w K mg base aS 1 "with_goal" ["row","goal"] zZ):ao P w K mg base aS 2 "goal_numbered" ["row","start","numbers"] Bn:=by
 refine F.dR fo (λvs H Q E h=>?_) (λf cdv A outer s H vs Q E hr h=>?_)
 ·obtain⟨a,d,st,r,g,kvs,rfl,_⟩:=h;rfl
 ·have hu:=aN hr;obtain⟨a,d,st,r,g,kvs,rfl,ha,hd,hv,q⟩:=h;refine⟨_,(Z.aq (Z.se (i:=3) fo.nd (Z.fc hgoal_of (Z.cons (Z.v 0) Z.nil)))
   (Z.aq (Z.dW (Z.bp dC (Z.v 3) Z.aO) (Z.az (Z.ret (Z.v 0))) Z.bB)
   (Z.aq (Z.dW (Z.bp (Y.y_ hu) (Z.v 3) (Z.v 2)) (Z.az Z.IP) Z.bB)
   (Z.az (Z.ret (Z.fc hwith_goal (Z.cons (Z.v 0) (Z.cons (Z.JY hu (Z.v 2) (Z.v 3)) Z.nil)))))))),?_⟩
  refine ar λN hN=>?_;walk_at "rz";refine⟨a,_,rfl,ha,?_⟩;rw[hN];clear hN N;rw[B7]
  cases c:ay r with
  |none =>
   refine ar λN hN=>?_;walk_at "rz";exact q _ _ (KB.refl _ _) (by rw[ha,Eu g c])
  |some t =>
   refine ar λN hN=>?_;exists KJ (show ¬ V.int g=V.aO from V.noConfusion);rw[hN];clear hN N;have hv1:=hv t c;have dg:m8 H d (.int g) (some (.int (t:Nat))):=by
    have:=m8.k (k:=.inl g) hd;rw[hv1] at this;exact this
   refine ar λN hN=>?_;walk_at "rz";refine⟨d,_,rfl,dg,?_⟩;walk_at "rz";rw[hN];clear hN N;walk_at "rz";refine⟨d,_,rfl,dg,?_⟩;obtain⟨xs,x1,x2,x3,x4⟩:=Fu g c;rw[x3] at ha;exact⟨a,xs,_,_,rfl,ha,x1,x2,λp H' k e=>q p H' k (by rw[e,x4])⟩
theorem qe(hn:xs.length<=sizeLine)(Pv:Addr->Nat->List V->Hp->Prop)(h0:∀D,H D=none->Pv D 0 [] (upd H D (.lst [])))(hD:∀D i ys H',Pv D i ys H'->H' D=some (.lst ys)/\ys.length=i)
  (hl:∀D i ys H',Pv D i ys H'->a_ K H' a xs)
  (hs:∀D i ys H' x p (R:VK),xs[i]?=some x->Pv D i ys H'->H' p=none->(∀v H5,H5 D=some (.lst ys)->Pv D (i+1) (ys++[v]) (upd H5 D (.lst (ys++[v])))->R v H5)->te (some (.int i)::some x::σ) (upd H' p (.tup [.int i,x])) R) (hd:∀D ys H',Pv D xs.length ys H'->Q (.ref D) H') :
  gU (yY K a) 2 (kB K 2 (d9 (aL 0) (d9 (aL 1) jP))) dh te Q σ H:=by
 intro D hD0;refine⟨λi m ys σ' H'=>m=xs.length-i/\i<=xs.length/\Pv D i ys H'/\∃o1 o2,σ'=o1::o2::σ,⟨xs.length,by simp,KW _,h0 D hD0,none,none,rfl⟩,?_⟩
 rintro i m ys σ' H' ⟨rfl,hi,p,o1,o2,rfl⟩;obtain⟨hDi,hly⟩:=hD _ _ _ _ p;have q:=hl _ _ _ _ p;refine⟨hDi,?_⟩;by_cases hlt:i<xs.length
 ·refine .inr ⟨⟨xs[i],xs,q,by simp[hlt]⟩,by lia,λx H2 y=>?_⟩
  obtain⟨c,y,hy,fr,rfl,rfl⟩:=y;refine CT ?_;unfold dh;dsimp only;rw[if_pos rfl];exact hs D i ys H' y c _ (hy xs q) p fr λv H5 q1 q2=>⟨q1,xs.length-(i+1),by lia,rfl,hlt,q2,_,_,rfl⟩
 ·have e:i=xs.length:=by lia
  subst e;exact .inl ⟨⟨xs,q,rfl⟩,hd D ys H' p⟩
theorem rR{b:Addr}{n:Nat}(hn:xs.length<=sizeLine)(hyx:xs.length<=ys.length)(Pv:Addr->Nat->List V->Hp->Prop)(h0:∀D,H D=none->Pv D 0 [] (upd H D (.lst [])))(hD:∀D i ws H',Pv D i ws H'->H' D=some (.lst ws)/\ws.length=i)
  (hl:∀D i ws H',Pv D i ws H'->a_ K H' a xs/\a_ K H' b ys)
  (hs:∀D i ws H' x y p (R:VK),xs[i]?=some x->ys[i]?=some y->Pv D i ws H'->H' p=none->(∀v H5,H5 D=some (.lst ws)->Pv D (i+1) (ws++[v]) (upd H5 D (.lst (ws++[v])))->R v H5)->te (some x::some y::σ) (upd H' p (.tup [x,y])) R) (hd:∀D ws H',Pv D (xs.length) ws H'->Q (.ref D) H') :
  gU (Bs K (fh n [(true,a),(true,b)])) 2 (kB K 2 (d9 (aL 0) (d9 (aL 1) jP))) dh te Q σ H:=by
 intro D hD0;refine⟨λi m ws σ' H'=>m=xs.length-i/\i<=xs.length/\Pv D i ws H'/\∃o1 o2,σ'=o1::o2::σ,⟨xs.length,by simp,KW _,h0 D hD0,none,none,rfl⟩,?_⟩
 rintro i m ws σ' H' ⟨rfl,hi,p,o1,o2,rfl⟩;obtain⟨hDi,hly⟩:=hD _ _ _ _ p;obtain⟨q1,q2⟩:=hl _ _ _ _ p;have q1':hJ K true H' a xs:=q1;have q2':hJ K true H' b ys:=q2;refine⟨hDi,?_⟩;by_cases hlt:i<xs.length
 ·have hl1:i<ys.length:=by lia
  refine .inr ⟨⟨[xs[i],ys[i]],.cons ⟨xs,q1',by simp[hlt]⟩ (.cons ⟨ys,q2',by simp[hl1]⟩ .nil)⟩,by lia,λx H2 z=>?_⟩
  obtain⟨c,vs,pr,fr,rfl,rfl⟩:=z;obtain⟨y1,vs,rfl,e1,pr⟩:=Paired.dI pr;obtain⟨y2,vs,rfl,e2,pr⟩:=Paired.dI pr;cases pr;refine CT ?_;unfold dh;dsimp only;rw[if_pos rfl];exact hs D i ws H' y1 y2 c _ (e1 xs q1') (e2 ys q2') p fr λv H5 q1 q2=>⟨q1,xs.length-(i+1),by lia,rfl,hlt,q2,_,_,rfl⟩
 ·have e:i=xs.length:=by lia
  subst e;exact .inl ⟨⟨[],(true,n,a),_,[],rfl,.nil,xs,q1',rfl⟩,hd D ws H' p⟩
def rZ(sp:List Nat)(r:Row):Int:=match ay r with|none=>0|some t=>(sp.getD t 0:Nat)
theorem Ht(sp:List Nat)(k:Nat)(r:Row):r.m (((sp.getD (k+1) 0:Nat):Int)+CU sp k r)=r.m (rZ sp r):=by
 unfold CU rZ bU
 cases r<;>first|rfl | (show _=_;dsimp only[ay];congr 1;lia)
def PM(sp:List Nat)(H:Hp)(as:List Addr)(rs:List Row):Prop:=as.length=rs.length/\∀(i:Nat) (q:Addr) (r:Row),as[i]?=some q->rs[i]?=some r->H q=some (.tup (r.m (rZ sp r)).vs)
theorem PM.snoc{rs:List Row}{r:Row}(h:PM sp H as rs)(e:H q=some (.tup (r.m (rZ sp r)).vs)):PM sp H (as++[q]) (rs++[r]):=by
 refine⟨by rw[K6,K6,h.1];rfl,λi q' r' e1 e2=>?_⟩
 rcases LH i as.length with hi|hi
 ·rw[Lj hi] at e1;rw[Lj (by rw[<- h.1];exact hi)] at e2
  exact h.2 i q' r' e1 e2
 ·have h1:=h.1;rw[Le hi] at e1;rw[Le (by lia),<- h1] at e2
  obtain⟨hj,rfl⟩:=K7.mp e1;obtain⟨hj2,rfl⟩:=K7.mp e2;have:i-as.length=0:=by simp at hj;lia
  simp only[this,Mg];exact e
theorem PM.keep{rs:List Row}(h:PM sp H as rs)(k:KB ex H H')(hx:NT ex H):PM sp H' as rs:=⟨h.1,λi q r e1 e2=>k _ _ (h.2 i q r e1 e2) λz=>hx q z _ (h.2 i q r e1 e2)⟩
noncomputable def x9(sp:List Nat):List (Key×V):=(List.range sp.length).map λi=>(.inl (sp.getD i 0:Int),.int (i:Nat))
theorem ud(f:α->Int)(g:α->V):∀(l:List α) (x:α),x∈l->(∀y∈l,f y=f x->y=x)->fW (l.map λy=>((.inl (f y):Key),g y)) (.inl (f x))=some (g x)
 |[],_,h,_=>nomatch h
 |y::l,x,h,u=>by
  by_cases e:f y=f x
  ·have:=u y KG e;subst this;exact iJ rfl
  ·rw[Lp,iD (λz=>e (Sum.inl.inj z))];rcases KL.mp h with rfl|h
   ·exact absurd rfl e
   ·exact ud f g l x h λz hz=>u z (KI _ hz)
section
variable {cd:List (List (List Nat))} {rs:List Row} {ws sp z:List Nat}
theorem Laid.ne(L:Laid cd rs ws sp z)(hi:i<=rs.length)(hj:j<=rs.length)(h:sp.getD i 0=sp.getD j 0):i=j:=by
 rcases Od i j with c|c|c
 ·have:=L.mono i (j-i-1) (by lia)
  rw[show i+(j-i-1)+1=j by lia] at this
  lia
 ·exact c
 ·have:=L.mono j (i-j-1) (by lia)
  rw[show j+(i-j-1)+1=i by lia] at this
  lia
theorem Laid.kv(L:Laid cd rs ws sp z)(h:t<=rs.length):fW (x9 sp) (.inl (sp.getD t 0:Int))=some (.int (t:Nat)):=by
 have sl:=L.sl;refine ud (λi=>((sp.getD i 0:Nat):Int)) (λi=>V.int (i:Nat)) (List.range sp.length) t (LA.mpr (by lia)) λy hy e=>?_
 have:=LA.mp hy;have e':((sp.getD y 0:Nat):Int)=((sp.getD t 0:Nat):Int):=e;exact L.ne (by lia) h (by lia)
theorem Laid.merge(L:Laid cd rs ws sp z):gv [] (x9 sp)=x9 sp:=by
 rw[Y.mY _ [] ?_,L_];rw[L_];unfold x9;rw[LM];have sl:=L.sl;refine MA.mpr (NQ (λ{i j} hi hj hne e=>?_) (Ow (n:=sp.length)));have h1:=LA.mp hi;have h2:=LA.mp hj;have e':((sp.getD i 0:Nat):Int)=((sp.getD j 0:Nat):Int):=Sum.inl.inj e;exact hne (L.ne (by lia) (by lia) (by lia))
theorem Laid.rd(L:Laid cd rs ws sp z){k:Nat}(hk:k<rs.length):∃x,DZ cd z (sp.getD k 0)=some x/\x.2=sp.getD (k+1) 0/\Fj x=rs[k].m (rZ sp rs[k]):=by
 obtain⟨w0,_,lw,e1,e2,bg⟩:=L.row hk;obtain⟨x,h1,h2,h3⟩:=G0 (z:=z) (p:=sp.getD k 0) L.hR (L.ok _ (KZ hk)) bg (by rw[(L.at k (by lia)).1,e2];exact NV _ _)
 refine⟨x,h1,by lia,?_⟩
 rw[h3,show x.2=sp.getD (k+1) 0 by lia,Ht]
end
theorem vc{k:Nat}(h:k<sp.length):sp.take (k+1)=sp.take k++[sp.getD k 0]:=by
 rw[L8,K1 h,KD,K1 h];rfl
theorem uC(l:List Nat)(x:Nat):iV (nZ (l++[x]))=iV (nZ l)++[.int (x:Nat)]:=by
 unfold nZ;rw[KN,f9];rfl
def tM:Sp:=λvs H Q _=>∃(b:Addr) (bk:List (List Int)) (rs:List Row) (ws sp z:List Nat),vs=[.str (wd z),.ref b]/\vA H b bk/\Bk bk/\Laid (cT bk) rs ws sp z/\dX z/\∀t H',KB [] H H'->iL H' t rs->Q (.ref t) H'
theorem xV(T:Txt K mg)(F:HasFn K mg "read_rows" d6 ["bits","book"])(hcodes_of:ao P w K mg base aS 6 "codes_of" ["book"] (oR K))(hrow_at:ao P w K mg base aS 5 "row_at" ["codes","bits","place"] (ur K))(hgoal_numbered:ao P w K mg base aS 2 "goal_numbered" ["row","start","numbers"] Bn):ao P w K mg base aS 7 "read_rows" ["bits","book"] tM:=by
 refine F.dR cB (λvs H Q E h=>?_) (λf cdv A outer s H vs Q E hr h=>?_)
 ·obtain⟨b,bk,rs,ws,sp,z,rfl,_⟩:=h;rfl
 ·have hu:=aN hr;obtain⟨b,bk,rs,ws,sp,z,rfl,hb,hB,L,hz,q⟩:=h;have hzl:=L.JN;have sl:=L.sl;have rl:=L.le;refine⟨_,(Z.aq (Z.se (i:=2) cB.nd (Z.fc hcodes_of (Z.cons (Z.v 1) Z.nil)))
   (Z.aq (Z.se (i:=3) cB.nd (Z.lst Z.nil))
   (Z.aq (Z.se (i:=4) cB.nd (Z.lst (Z.cons Z.int Z.nil)))
   (Z.aq (Z.sj Lm (Z.bp iC (Z.ix (Z.aF K rfl hu) (Z.v 4) (Z.un cP Z.int)) (Z.cb (Z.cx K rfl) rfl T.cp (by decide +kernel) (Z.cons (Z.v 0) Z.nil))) (Z.aq (Z.se (i:=5) cB.nd (Z.fc hrow_at (Z.cons (Z.v 2) (Z.cons (Z.v 0) (Z.cons (Z.ix (Z.aF K rfl hu) (Z.v 4) (Z.un cP Z.int)) Z.nil)))))
   (Z.aq (Z.dW (Z.bp dC (Z.v 5) Z.aO) (Z.az Z.IP) Z.bB)
   (Z.aq (Z.expr (Z.app K (Z.v 3) (Z.cons (Z.ix (Z.aF K rfl hu) (Z.v 5) Z.int) Z.nil)))
   (Z.az (Z.expr (Z.app K (Z.v 4) (Z.cons (Z.ix (Z.aF K rfl hu) (Z.v 5) Z.int) Z.nil))))))))
   (Z.aq (Z.se (i:=6) cB.nd (Z.ct (qI K rfl) rfl T.Fw (by decide +kernel) (Z.cons (Z.o_ (osc:=ab d6) (ON:=["bits","book","codes","rows","starts","found","numbers"]) (own:=["number","start"]) (N:=["number","start","bits","book","codes","rows","starts","found","numbers"]) (aA.of rfl (by decide +kernel)) (Z.zv K rfl rfl T.cR (Z.cons (Z.v 4) Z.nil)) (λnd _ _ _ _=>(Z.gQ (n:=2) K rfl rfl (Z.aZ (Z.aG (i:=0) nd rfl (by right)) (Z.aZ (Z.aG (i:=1) nd rfl (by right)) Z.dJ)))) (λ_ _ _ _=>Z.jA) (λ_ _ _ _=>(Z.tup (Z.cons (Z.v 1) (Z.cons (Z.v 0) Z.nil))))) Z.nil)))
   (Z.az (Z.ret (Z.ct (Z.cm K rfl) rfl T.cq (by decide +kernel) (Z.cons (Z.o_ (osc:=ab d6) (ON:=["bits","book","codes","rows","starts","found","numbers"]) (own:=["row","start"]) (N:=["row","start","bits","book","codes","rows","starts","found","numbers"]) (aA.of rfl (by decide +kernel)) (p7 K rfl rfl T.mE (Z.cons (Z.v 3) (Z.cons (Z.v 4) Z.nil))) (λnd _ _ _ _=>(Z.gQ (n:=2) K rfl rfl (Z.aZ (Z.aG (i:=0) nd rfl (by right)) (Z.aZ (Z.aG (i:=1) nd rfl (by right)) Z.dJ)))) (λ_ _ _ _=>Z.jA) (λ_ _ _ _=>(Z.fc hgoal_numbered (Z.cons (Z.v 0) (Z.cons (Z.v 1) (Z.cons (Z.v 8) Z.nil)))))) Z.nil))))))))),?_⟩
  refine ar λN hN=>?_;walk_at "rz";refine⟨b,bk,rfl,hb,hB,λca H1 hca k1 cdl=>?_⟩;rw[hN];clear hN N;generalize cT bk=cd at *;refine ar λN hN=>?_;walk_at "rz";refine⟨KW _,λra hra=>?_⟩;have k2:=KB.new (ex:=[]) (o:=.lst []) hra;have s2:upd H1 ra (.lst []) ra=some (.lst []):=aa;generalize upd H1 ra (.lst [])=H2 at *;rw[hN];clear hN N;refine ar λN hN=>?_;walk_at "rz";refine⟨by decide,λsa hsa=>?_⟩
  have k3:=KB.new (ex:=[]) (o:=.lst [.int 0]) hsa;have s3:upd H2 sa (.lst [.int 0]) sa=some (.lst [.int 0]):=aa;have s23:=k3 _ _ s2 (by simp)
  have k13:=k2.trans k3;have hsa1:H1 sa=none:=k2.free (by simp) hsa
  have nrs:ra≠sa:=λz=>by rw[z,hsa] at s2;cases s2
  generalize upd H2 sa (.lst [.int 0])=H3 at *;rw[hN];clear hN N;have e0:iV (nZ (sp.take (0+1)))=[.int 0]:=by
   have:sp.take 1=[0]:=by
    rw[L.jH];obtain⟨l,e⟩:=gu 0 (dH cd rs) (rs.map ay) ws;rw[e];rfl
   rw[Mv,this];rfl
  rw[<- e0] at s3;refine ar λN hN=>?_;refine⟨λm σ H'=>∃(k:Nat) (as:List Addr) (o5:Option V),k<=rs.length/\m=rs.length-k/\KB [] H1 H'/\H' ra=some (.lst (as.map V.ref))/\PM sp H' as (rs.take k)/\H' sa=some (.lst (iV (nZ (sp.take (k+1)))))/\σ=[some (.str (wd z)),some (.ref b),some (.ref ca),some (.ref ra),some (.ref sa),o5,none],⟨rs.length,0,[],none,KW _,rfl,k13,s23,⟨rfl,λi q r e=>nomatch e⟩,s3,rfl⟩,?_⟩;rintro m σ H' ⟨k,as,o5,hk,rfl,hkb,gr,pm,gs,rfl⟩;have es:bC (iV (nZ (sp.take (k+1)))) (-1)=some (.int ((sp.getD k 0:Nat):Int)):=by
   rw[vc (show k<sp.length by lia),uC]
   exact qc _ _
  exists au gs,es,aK;refine⟨KA hzl (by decide),?_⟩
  rcases LH k rs.length with hlt|hge
  ·obtain⟨x,x1,x2,x3⟩:=L.rd hlt;obtain⟨m1,m2,m3,m4,m5⟩:=Jl L.hR x1;have c:((sp.getD k 0:Nat):Int)<(z.length:Int):=by lia
   rw[KO c];refine⟨λσ' H'=>∃m',m'<rs.length-k/\∃(k:Nat) (as:List Addr) (o5:Option V),k<=rs.length/\m'=rs.length-k/\KB [] H1 H'/\H' ra=some (.lst (as.map V.ref))/\PM sp H' as (rs.take k)/\H' sa=some (.lst (iV (nZ (sp.take (k+1)))))/\σ'=[some (.str (wd z)),some (.ref b),some (.ref ca),some (.ref ra),some (.ref sa),o5,none],λ_ _ h=>h,?_⟩;refine⟨ca,cd,z,_,rfl,cdl.kb hkb,L.hR,hz,by lia,λv H5 k5 o=>?_⟩
   rw[uT,x1] at o;obtain⟨t,r,rfl,ht,hr'⟩:=o;rw[m2,x3] at hr';rw[KJ (show ¬ V.ref t=V.aO from V.noConfusion)];have gr5:=k5 _ _ gr (by simp)
   have gs5:=k5 _ _ gs (by simp)
   have pm5:=pm.keep k5 (NT.nil _);have pl:=pm.1;rw[K_] at pl;refine⟨.inl ⟨rfl,_,a_.of gr5⟩,?_⟩;show Br K (V.ref t) (.int 0) H5 _;exists aC ht;refine⟨ra,_,_,rfl,rfl,gr5,LG (show _<=64 by rw[K2];lia) (by decide),?_⟩
   have er:as.map V.ref++[V.ref r]=(as++[r]).map V.ref:=by rw[KN];rfl
   rw[er];have gr6:upd H5 ra (.lst ((as++[r]).map V.ref)) ra=_:=aa;have k56:KB [ra] H5 (upd H5 ra (.lst ((as++[r]).map V.ref))):=KB.set (by simp)
   generalize upd H5 ra (.lst ((as++[r]).map V.ref))=H6 at *;have ntr:=jS gr5;have hr6:=k56 _ _ hr' λz=>ntr _ z _ hr';have pm6:=(pm5.keep k56 ntr).snoc hr6;have ht6:=k56 _ _ ht λz=>ntr _ z _ ht;have gs6:=k56 _ _ gs5 (by simpa using nrs.symm)
   have kf:KB [] H1 H6:=λu o e _=>k56 _ _ (k5 _ _ (hkb _ _ e (by simp)) (by simp)) (by simpa using ae e hra)
   refine⟨.inl ⟨rfl,_,a_.of gs6⟩,?_⟩;exists aC ht6;refine⟨sa,_,_,rfl,rfl,gs6,LG (show _<=65 by rw[b9,K_];lia) (by decide),?_⟩
   rw[x2,<- uC,<- vc (show k+1<sp.length by lia)]
   refine⟨rs.length-(k+1),by lia,k+1,as++[r],_,hlt,rfl,λu o e _=>?_,?_,?_,aa,rfl⟩
   ·rw[af (ae e hsa1)];exact kf _ _ e (by simp)
   ·rw[af nrs];exact gr6
   ·rw[show rs.take (k+1)=rs.take k++[rs[k]] by rw[L8,K1 hlt];rfl]
    exact pm6.keep (KB.set (ex:=[sa]) (by simp)) (jS gs6)
  ·have hkn:k=rs.length:=by lia
   subst hkn;have c:¬ ((sp.getD rs.length 0:Nat):Int)<(z.length:Int):=by rw[L.last];lia
   rw[KJ c];show N _ _;rw[hN];clear hN N;rw[Lz] at pm;rw[L9 (show sp.length<=rs.length+1 by lia)] at gs
   clear es e0 s3 s23 k13 c;have szl:(iV (nZ sp)).length=rs.length+1:=by rw[b9,sl]
   refine ar λN hN=>?_;exists au gs;refine⟨⟨_,a_.of gs⟩,?_⟩;refine qe (xs:=iV (nZ sp)) (KA (show _<=65 by rw[szl];lia) (by decide)) (λD i ys H5=>H' D=none/\H5 D=some (.lst ys)/\KB [] H' H5/\i<=sp.length/\∃ps:List Addr,ys=ps.map V.ref/\ps.length=i/\∀(j:Nat) (p:Addr),ps[j]?=some p->H5 p=some (.tup [.int ((sp.getD j 0:Nat):Int),.int (j:Nat)])) (λD hD=>⟨hD,aa,KB.new hD,KW _,[],rfl,rfl,λj p e=>nomatch e⟩) (λD i ys H5 h=>⟨h.2.1,by obtain⟨_,_,_,_,ps,rfl,e,_⟩:=h;rw[K2,e]⟩) (λD i ys H5 h=>a_.of (h.2.2.1 _ _ gs (by simp))) ?_ ?_
   ·rintro D i ys H5 x p R hx ⟨g0,g1,gk,hi,ps,rfl,e1,e2⟩ hp kk;have hlt:i<sp.length:=by have:=(K7.mp hx).1;lia
    have ex:x=.int ((sp.getD i 0:Nat):Int):=by
     unfold iV nZ at hx;rw[K8,K8,K1 hlt] at hx;rw[KD,K1 hlt];exact (Option.some.inj hx).symm
    subst ex;have kz:=KB.new (ex:=[]) (o:=.tup [.int i,.int ((sp.getD i 0:Nat):Int)]) hp;have g1':=kz _ _ g1 (by simp)
    generalize upd H5 p (.tup [.int i,.int ((sp.getD i 0:Nat):Int)])=G at *;walk_at "rz";refine⟨by decide,λc hc=>?_⟩
    have kc:=KB.new (ex:=[]) (o:=.tup [.int ((sp.getD i 0:Nat):Int),.int i]) hc;have sc:upd G c (.tup [.int ((sp.getD i 0:Nat):Int),.int i]) c=_:=aa;have g1'':=kc _ _ g1' (by simp)
    generalize upd G c (.tup [.int ((sp.getD i 0:Nat):Int),.int i])=G2 at *;have kzc:=kz.trans kc;have ntD:=jS g1'';refine kk _ _ g1'' ⟨g0,aa,λu o e _=>by rw[af (ae e g0)];exact kzc _ _ (gk _ _ e (by simp)) (by simp),hlt,ps++[c],by rw[KN];rfl,by rw[K6,e1];rfl,λj p e=>?_⟩
    have key:G2 p=some (.tup [.int ((sp.getD j 0:Nat):Int),.int (j:Nat)]):=by
     rcases LH j ps.length with hj|hj
     ·rw[Lj hj] at e;exact kzc _ _ (e2 j p e) (by simp)
     ·rw[Le hj] at e;have hj0:j-ps.length=0:=by have:=(K7.mp e).1;simp at this;lia
      rw[hj0] at e;cases e;rw[show j=i by lia]
      exact sc
    exact KB.set (ex:=[D]) (by simp) _ _ key λz=>ntD _ z _ key
   ·rintro pl ys H5 ⟨g0,g1,gk,_,ps,rfl,e1,e2⟩;have kvl:(x9 sp).length=sp.length:=by unfold x9;rw[K2,Lo]
    rw[szl] at e1;refine⟨pl,_,x9 sp,rfl,g1,⟨by rw[K2,kvl];lia,λj k x e=>?_⟩,by rw[kvl];lia,λd hd=>?_⟩
    ·unfold x9 at e;rw[K8] at e;obtain⟨i,ei,e⟩:=Lc.mp e;obtain⟨hj,ej⟩:=K7.mp ei;rw[OU] at ej;subst ej;rw[Lo] at hj;cases e;have ep:=K1 (show j<ps.length by lia)
     exact⟨ps[j],by rw[K8,ep];rfl,e2 j _ ep⟩
    rw[L.merge];have kd:=KB.new (ex:=[]) (o:=.dK (x9 sp)) hd;have sd:upd H5 d (.dK (x9 sp)) d=_:=aa;generalize upd H5 d (.dK (x9 sp))=H6 at *;have kk6:=gk.trans kd;have gr6:=kk6 _ _ gr (by simp)
    have gs6:=kk6 _ _ gs (by simp)
    have pm6:=pm.keep kk6 (NT.nil _);show N _ _;rw[hN];clear hN N;clear gr gs pm g1 gk e2 kd g0;have al:=pm6.1;walk_at "rz";rw[gh];exists au gr6;refine⟨(true,ra),(true,sa),⟨rfl,rfl⟩,⟨_,a_.of gr6⟩,⟨_,a_.of gs6⟩,λn=>?_⟩;refine rR (xs:=as.map V.ref) (ys:=iV (nZ sp)) (KA (show _<=64 by rw[K2];lia) (by decide)) (by rw[K2,szl];lia) (λD i ys G=>H6 D=none/\G D=some (.lst ys)/\KB [] H6 G/\i<=rs.length/\∃ps:List Addr,ys=ps.map V.ref/\PA G ps (rs.take i)) (λD hD=>⟨hD,aa,KB.new hD,KW _,[],rfl,rfl,λj p r e=>nomatch e⟩) (λD i ys G h=>⟨h.2.1,by obtain⟨_,_,_,hi,ps,rfl,e,_⟩:=h;rw[K2,e,K_];lia⟩) (λD i ys G h=>⟨a_.of (h.2.2.1 _ _ gr6 (by simp)),a_.of (h.2.2.1 _ _ gs6 (by simp))⟩) ?_ ?_
    ·rintro D i ys G x y p R hx hy ⟨g0,g1,gk,hi,ps',rfl,pa⟩ hp kk;obtain⟨u,eu,rfl⟩:∃u,as[i]?=some u/\x=.ref u:=by
      rw[K8] at hx;obtain⟨u,e,rfl⟩:=Lc.mp hx;exact⟨u,e,rfl⟩
     have hlt:i<rs.length:=by have:=(K7.mp eu).1;lia
     have er:=K1 hlt;have kz:=KB.new (ex:=[]) (o:=.tup [.ref u,y]) hp;have g1':=kz _ _ g1 (by simp)
     generalize upd G p (.tup [.ref u,y])=G1 at *;have gk1:=gk.trans kz;walk_at "rz";refine⟨u,d,y,rs[i],rZ sp rs[i],x9 sp,rfl,gk1 _ _ (pm6.2 i u _ eu er) (by simp),gk1 _ _ sd (by simp),λt et=>?_,λc G2 kc hc=>?_⟩
     ·have ht:=gO (L.ok _ (KZ hlt)) et;unfold rZ;rw[et];exact L.kv ht
     have g2:=kc _ _ g1' (by simp)
     refine kk _ _ g2 ⟨g0,aa,λu o e _=>by rw[af (ae e g0)];exact kc _ _ (gk1 _ _ e (by simp)) (by simp),hlt,ps'++[c],by rw[KN];rfl,?_⟩
     rw[show rs.take (i+1)=rs.take i++[rs[i]] by rw[L8,er];rfl]
     exact (((pa.keep kz (NT.nil _)).keep kc (NT.nil _)).snoc hc).keep (KB.set (ex:=[D]) (by simp)) (jS g2)
    ·rintro D ys G ⟨g0,g1,gk,_,ps',rfl,pa⟩;rw[K2,al,Lz] at pa;exists au g1;intro t ht;have kt:=KB.new (ex:=[]) (o:=.tup (ps'.map V.ref)) ht;exact q t _ (k1.trans (hkb.trans (kk6.trans (gk.trans kt)))) ⟨ps',aa,pa.keep kt (NT.nil _)⟩
theorem yW{a b:Nat}(h:a<=b):Bt a<=Bt b:=by
 rcases a with _|_|a<;>rcases b with _|_|b<;>first | (simp[Bt];done) | (exfalso;lia)
theorem vM{a b:Nat}(g:Option Nat)(h:a<=b):addW g a<=addW g b:=by
 cases g with
 |none=>exact KH _
 |some _=>exact yW h
def HJ(ws vs:List Nat):Prop:=∀(k a b:Nat),ws[k]?=some a->vs[k]?=some b->a<=b
section
variable {ss:List Nat} {gs:List (Option Nat)} {ws vs:List Nat}
theorem oI(hg:gs.length=ss.length)(hw:ws.length=ss.length){k:Nat}(hk:k<ss.length):(df 0 ss gs ws).getD (k+1) 0=(df 0 ss gs ws).getD k 0+ss[k]+addW (gs[k]'(by lia)) (ws[k]'(by lia)):=
 lM ss gs ws 0 k _ _ _ (K1 hk) (K1 _) (K1 _)
theorem yZ(hg:gs.length=ss.length)(hw:ws.length=ss.length)(i:Nat):∀d,i+d<=ss.length->(df 0 ss gs ws).getD i 0<=(df 0 ss gs ws).getD (i+d) 0
 |0,_=>KH _
 |d+1,h=>by
  have h1:=yZ hg hw i d (by lia)
  have h2:=oI hg hw (k:=i+d) (by lia)
  rw[show i+(d+1)=i+d+1 by lia]
  lia
theorem oq(hg:gs.length=ss.length)(hw:ws.length=ss.length)(hv:vs.length=ss.length)(h:HJ ws vs)(i:Nat):∀d,i+d<=ss.length->(df 0 ss gs vs).getD i 0+(df 0 ss gs ws).getD (i+d) 0<=(df 0 ss gs ws).getD i 0+(df 0 ss gs vs).getD (i+d) 0
 |0,_=>by rw[Q6];lia
 |d+1,hd=>by
  have h1:=oq hg hw hv h i d (by lia)
  have h2:=oI hg hw (k:=i+d) (by lia)
  have h3:=oI hg hv (k:=i+d) (by lia)
  have h4:=vM (gs[i+d]'(by lia)) (h (i+d) _ _ (K1 (by lia)) (K1 (by lia)))
  rw[show i+(d+1)=i+d+1 by lia]
  lia
theorem yR(w:Nat):0<bK w:=by rcases w with _|_|w<;>(show (0:Int)<_;simp[bK])
theorem C3(hg:gs.length=ss.length)(hw:ws.length=ss.length)(hv:vs.length=ss.length)(h:HJ ws vs){w k:Nat}(ht:t<=ss.length)(hk:k<ss.length)(ho:kN w (bU (df 0 ss gs vs) t k)=true):kN w (bU (df 0 ss gs ws) t k)=true:=by
 unfold kN bU at ho ⊢;rw[LK] at ho;have o1:=LC ho.1;have o2:=LC ho.2;have hp:=yR w;rw[LK,MB,MB];rcases P9 t (k+1) with c|c
 ·have u:=yZ hg hw t (k+1-t) (by lia)
  have g:=oq hg hw hv h t (k+1-t) (by lia)
  rw[show t+(k+1-t)=k+1 by lia] at u g
  lia
 ·have u:=yZ hg hw (k+1) (t-(k+1)) (by lia)
  have g:=oq hg hw hv h (k+1) (t-(k+1)) (by lia)
  rw[show k+1+(t-(k+1))=t by lia] at u g
  lia
theorem yF(hg:gs.length=ss.length)(hv:vs.length=ss.length)(hf:qG ss gs vs)(hgo:∀(k t:Nat),gs[k]?=some (some t)->t<=ss.length):∀(m:Nat) (ws:List Nat),ws.length=ss.length->HJ ws vs->HJ (rp ss gs m ws) vs
 |0,_,_,h=>h
 |m+1,ws,hw,h=>by
  unfold rp
  cases c:dG ss gs ws with
  |none=>exact h
  |some k =>
   refine yF hg hv hf hgo m _ (by rw[LR,hw]) λj a b ha hb=>?_
   have hkm:=NI c;have hk:k<gs.length:=by obtain⟨i,hi,e⟩:=PQ.mp hkm;lia
   by_cases e:j=k
   ·subst e;have h1:=PN c;unfold jD at h1;have eg:=K1 hk;have ew:=K1 (show j<ws.length by lia)
    rw[eg,ew] at h1
    cases hgj:gs[j] with
    |none=>rw[hgj] at h1;cases h1
    |some t =>
     rw[hgj] at h1 eg;have h1':(!kN ws[j] (bU (df 0 ss gs ws) t j))=true:=h1;have hle:=h j _ _ ew hb;have hne:ws[j]≠b:=λz=>by
      have:=C3 hg hw hv h (hgo j t eg) (by lia) (hf j t b eg hb)
      rw[<- z] at this;rw[this] at h1';cases h1'
     rw[MI (by lia),KD,ew] at ha
     have ha':ws[j]+1=a:=Option.some.inj ha;lia
   ·rw[N3 (λz=>e z.symm)] at ha;exact h j a b ha hb
theorem Ih(hg:gs.length=ss.length)(hv:vs.length=ss.length)(hf:qG ss gs vs)(hgo:∀(k t:Nat),gs[k]?=some (some t)->t<=ss.length):HJ (xC ss gs) vs:=by
 refine yF hg hv hf hgo _ _ (KY ..) λk a b ha _=>?_;rw[NY] at ha
 split at ha
 ·cases ha;exact KW _
 ·cases ha
end
theorem AH{rs:List Row}(ok:∀r∈rs,r.Ok rs.length){k:Nat}(h:(rs.map ay)[k]?=some (some t)):t<=rs.length:=by
 rw[K8] at h;obtain⟨r,e,h⟩:=Lc.mp h;exact gO (ok r (Lu e)) h
theorem wX{bk:List (List Int)}{rs:List Row}{ws:List Nat}(hB:Bk bk)(L:Laid (cT bk) rs ws sp z):(dB bk rs).length<=z.length:=by
 have L0:=iM hB L.le L.ok;rw[L0.last,L.last,L.jH,L0.jH];have sl:(dH (cT bk) rs).length=rs.length:=K2 ..;have gl:(rs.map ay).length=rs.length:=K2 ..;have h:=oq (ss:=dH (cT bk) rs) (gs:=rs.map ay) (ws:=oT bk rs) (vs:=ws) (by lia) (by rw[L0.len,sl]) (by rw[L.len,sl]) (Ih (by lia) (by rw[L.len,sl]) L.fit λk t e=>by rw[sl];exact AH L.ok e) 0 rs.length (by lia)
 have e0:∀ws',(df 0 (dH (cT bk) rs) (rs.map ay) ws').getD 0 0=0:=λws'=>by
  obtain⟨l,e⟩:=gu 0 (dH (cT bk) rs) (rs.map ay) ws';rw[e];rfl
 rw[e0,e0,Mv] at h;lia
theorem qC:∀(k:Nat) (ss:List Nat) (gs:List (Option Nat)) (ws:List Nat) (a:Nat),k<=ss.length->gs.length=ss.length->ws.length=ss.length->df a (ss.take k) (gs.take k) (ws.take k)=(df a ss gs ws).take (k+1)
 |0,ss,gs,ws,a,_,_,_=>by
  obtain⟨l,e⟩:=gu a ss gs ws;rw[e,Qq];unfold df;rfl
 |k+1,[],_,_,_,h,_,_=>absurd h (by simp)
 |k+1,_::_,[],_,_,_,h,_=>absurd h (by simp)
 |k+1,_::_,_::_,[],_,_,_,h=>absurd h (by simp)
 |k+1,s::ss,g::gs,w::ws,a,h1,h2,h3=>by
  rw[Ml,Ml,Ml,df,df,Ml,qC k ss gs ws _ (by simpa using h1) (by simpa using h2) (by simpa using h3)]
theorem uK{cd:List (List (List Nat))}:∀(n:Nat) (rs:List Row) (ws:List Nat) (i:Nat),n<=rs.length->ws.length=rs.length->(∀j,j<=i+n->sp'.getD j 0=sp.getD j 0)->(∀r∈rs.take n,∀t,ay r=some t->t<=i+n)->ik cd sp i rs ws=ik cd sp' i (rs.take n) (ws.take n)++ik cd sp (i+n) (rs.drop n) (ws.drop n)
 |0,rs,ws,i,_,_,_,_=>by rw[Qq,Qq,LD,LD,Q6];unfold ik;rfl
 |n+1,[],_,_,h,_,_,_=>absurd h (by simp)
 |n+1,_::_,[],_,_,h,_,_=>absurd h (by simp)
 |n+1,r::rs,w::ws,i,h1,h2,h3,h4=>by
  rw[Ml,Ml,List.drop_succ_cons,List.drop_succ_cons,ik,ik,uK n rs ws (i+1) (by simpa using h1) (by simpa using h2) (λj hj=>h3 j (by lia)) (λr hr t e=>by have:=h4 r (by rw[Ml];exact KI _ hr) t e;lia)]
  have ej:mh sp' i w (ay r)=mh sp i w (ay r):=by
   cases c:ay r with
   |none=>rfl
   |some t =>
    have ht:=h4 r (by rw[Ml];exact KG) t c
    show cH w (bU sp' t i)=cH w (bU sp t i);unfold bU;rw[h3 t ht,h3 (i+1) (by lia)]
  rw[ej,Ld,Ld,Ld,show i+1+n=i+(n+1) by lia]
theorem ju{l:List Nat}{n:Nat}(h:j<n):(l.take n).getD j 0=l.getD j 0:=by
 rw[KD,KD,Mo,KO h]
theorem Laid.cut{cd:List (List (List Nat))}{rs:List Row}(L:Laid cd rs ws sp z){k:Nat}(hk:k<=rs.length)(hg:∀r∈rs.take k,∀t,ay r=some t->t<=k):Laid cd (rs.take k) (ws.take k) (sp.take (k+1)) (z.take (sp.getD k 0)):=by
 have tl:(rs.take k).length=k:=by rw[K_];lia
 have wl:=L.len;have sl:(dH cd rs).length=rs.length:=K2 ..;have gl:(rs.map ay).length=rs.length:=K2 ..;have es:sp.take (k+1)=df 0 (dH cd (rs.take k)) ((rs.take k).map ay) (ws.take k):=by
  rw[L.jH,<- qC k _ _ _ 0 (by lia) (by lia) (by lia)]
  unfold dH;rw[ME,ME]
 have lz:=(L.at k hk).2;refine⟨L.hR,by rw[K_,tl];lia,by rw[tl];have:=L.le;lia,λr hr=>?_,λw hw=>L.lt w (M8 hw),es,λj t w h1 h2=>?_,?_⟩
 ·rw[tl];exact DO (L.ok r (M8 hr)) (hg r hr)
 ·have hj:j<k:=by have:=(K7.mp h2).1;rw[K_] at this;lia
  rw[K8] at h1;obtain⟨r,er,eg⟩:=Lc.mp h1;have ht:=hg r (Lu er) t eg;rw[Mo,KO hj] at er h2;have:=L.fit j t w (by rw[K8,er];exact Lw some eg) h2
  rw[<- es];rw[<- L.jH] at this;unfold bU at this ⊢;rw[ju (by lia),ju (by lia)]
  exact this
 ·have h1:=L.hz;rw[uK (sp':=sp.take (k+1)) k rs ws 0 hk wl (λj hj=>ju (by lia)) (λr hr t e=>by have:=hg r hr t e;lia),Mv] at h1
  have h2:=(L.at k hk).1;have h3:z=z.take (sp.getD k 0)++z.drop (sp.getD k 0):=(LI ..).symm;rw[h2] at h3;rw[h3] at h1;exact List.append_cancel_right h1
theorem Laid.one{cd:List (List (List Nat))}{rs rs':List Row}{ws':List Nat}(L:Laid cd rs ws sp z)(L':Laid cd rs' ws' sp' z):rs.length=rs'.length:=by
 have h0:∀{rs:List Row} {ws sp:List Nat},Laid cd rs ws sp z->sp.getD 0 0=0:=λ{rs ws sp} L=>by
  rw[L.jH];obtain⟨l,e⟩:=gu 0 (dH cd rs) (rs.map ay) ws;rw[e];rfl
 have h:∀k,k<=rs.length->k<=rs'.length->sp.getD k 0=sp'.getD k 0:=λk=>by
  induction k with
  |zero=>intro _ _;rw[h0 L,h0 L']
  |succ k ih =>
   intro h1 h2;obtain⟨x,x1,x2,_⟩:=L.rd (show k<rs.length by lia)
   obtain⟨y,y1,y2,_⟩:=L'.rd (show k<rs'.length by lia)
   rw[ih (by lia) (by lia),y1] at x1
   cases x1;lia
 have l1:=L.last;have l2:=L'.last;rcases Od rs.length rs'.length with c|c|c
 ·have:=L'.mono rs.length (rs'.length-rs.length-1) (by lia)
  rw[show rs.length+(rs'.length-rs.length-1)+1=rs'.length by lia] at this
  have:=h rs.length (KH _) (by lia)
  lia
 ·exact c
 ·have:=L.mono rs'.length (rs.length-rs'.length-1) (by lia)
  rw[show rs'.length+(rs.length-rs'.length-1)+1=rs.length by lia] at this
  have:=h rs'.length (by lia) (KH _)
  lia
theorem iL.cut{rs:List Row}(hp:PA H as rs)(k:Nat):PA H (as.take k) (rs.take k):=by
 refine⟨by rw[K_,K_,hp.1],λi q r e1 e2=>?_⟩
 rw[Mo] at e1 e2
 split at e1
 ·rename_i c;rw[KO c] at e2;exact hp.2 i q r e1 e2
 ·cases e1
theorem Ak{rs:List Row}{k:Nat}(h:iL H a rs)(q:∀u G,KB [] H G->iL G u (rs.take k)->Q (.ref u) G):Y.yu K (.ref a) none (some (k:Int)) H Q:=by
 obtain⟨as,ha,hp⟩:=h;refine vx ha (λe=>q a H (KB.refl _ _) ⟨as.take k,?_,iL.cut hp k⟩) (λp hp'=>q p _ (KB.new hp') ⟨as.take k,?_,(iL.cut hp k).keep (KB.new hp') (NT.nil _)⟩)
 ·rw[jU] at e;rw[ha,ME,e]
 ·rw[aa,jU,ME]
def kZ:Sp:=λvs H Q _=>∃(a:Addr) (rs:List Row) (k:Nat),vs=[.ref a,.int (k:Nat)]/\iL H a rs/\rs.length<=64/\∀(bb:Bool) H',(bb=true->∀r∈rs.take k,∀t,ay r=some t->t<=k)->KB [] H H'->Q (.bl bb) H'
theorem vX(T:Txt K mg)(F:HasFn K mg "_law_ahead" dM ["program","k"]):ao P w K mg base aS 1 "_law_ahead" ["program","k"] kZ:=by
 refine F.dR m7 (λvs H Q E h=>?_) (λf cdv A outer s H vs Q E hr h=>?_)
 ·obtain⟨a,rs,k,rfl,_⟩:=h;rfl
 ·have hu:=aN hr;obtain⟨a,rs,k,rfl,hP,hl,q⟩:=h;refine⟨_,(Z.az (Z.ret (Z.cmp (Y.Ge K rfl (Nat.lt_of_succ_lt hu)) (Z.o_ (osc:=ab dM) (ON:=["program","k"]) (own:=["row"]) (N:=["row","program","k"]) (aA.of rfl (by decide +kernel)) (Z.any K rfl (Z.slice (Y.Dk K rfl) (Z.v 0) Z.t9 (Z.oW (Z.v 1)))) (λnd _ _ _ _=>(Z.aG (i:=0) nd rfl (by right))) (λ_ _ _ _=>(Z.Kt (Z.tw (Z.wK (Z.bp (Z.Cv K rfl hu) (Z.ix (Z.aF K rfl hu) (Z.v 0) Z.int) (Z.tup (Z.consts rfl))) (Z.mN (Z.bp zN (Z.ix (Z.aF K rfl hu) (Z.v 0) (Z.un cP Z.int)) (Z.v 2))))))) (λ_ _ _ _=>(Z.v 0))) (Z.lst Z.nil)))),?_⟩
  walk_at "rz";refine Ak hP λu H2 k2 hP2=>?_;obtain⟨as,ha,hp⟩:=hP2;have hpl:=hp.1;have h64:(rs.take k).length<=64:=by rw[K_];lia
  generalize rs.take k=ts at *;exists aC ha;refine rG (xs:=as.map V.ref) (KA (show _<=64 by rw[K2];lia) (by decide)) (λD i ys H'=>H2 D=none/\H' D=some (.lst ys)/\ys.length<=i/\KB [] H2 H'/\(ys=[]->∀(j:Nat) (r:Row),j<i->ts[j]?=some r->∀t,ay r=some t->t<=k)) (λD hD=>⟨hD,aa,KH _,KB.new hD,λ_ j r hj=>absurd hj (Nr _)⟩) (λD i ys H' h=>⟨h.2.1,h.2.2.1⟩) (λD i ys H' h=>aX.of (h.2.2.2.1 _ _ ha (by simp))) ?_ ?_ (λσ H A B hAB h=>?_)
  ·rintro D i ys H' x' R hx' ⟨g0,g1,g2,gk,gg⟩ kf kt;obtain⟨c,ec,rfl⟩:∃c,as[i]?=some c/\x'=.ref c:=by
    rw[K8] at hx';obtain⟨c,e,rfl⟩:=Lc.mp hx';exact⟨c,e,rfl⟩
   have hlt:i<ts.length:=by have:=(K7.mp ec).1;lia
   have er:=K1 hlt;have hc:=gk _ _ (hp.2 i c _ ec er) (by simp)
   have no1:(∀t,ay ts[i]=some t->t<=k)->∀G:Hp,KB [] H' G->R false G:=λhne G kG=>kf G ⟨g0,kG _ _ g1 (by simp),Pc g2,gk.trans kG,λe j r hj ej=>by
    rcases Nat.lt_succ_iff_lt_or_eq.mp hj with h|h
    ·exact gg e j r h ej
    ·subst h;rw[er] at ej;cases ej;exact hne⟩
   have yes:∀G:Hp,KB [] H' G->R true G:=λG kG=>kt G ⟨_,rfl,kG _ _ g1 (by simp),g0,aa,by rw[K6];exact Pz g2,λu o e _=>by rw[af (ae e g0)];exact kG _ _ (gk _ _ e (by simp)) (by simp),λe=>absurd e (by simp)⟩
   clear kf kt;generalize ts[i]=r' at *;obtain⟨z,e0,h⟩:∃z:Str,bC r'.vs 0=some (.str z)/\((jF (.str z) [.str "jump",.str "zero"]=true/\∃g,ay r'=some g/\bC r'.vs (-1)=some (.int (g:Nat)))\/jF (.str z) [.str "jump",.str "zero"]=false/\ay r'=none):=by
    cases r' with
    |jump g=>exact⟨_,rfl,.inl ⟨by decide +kernel,g,rfl,rfl⟩⟩
    |zero b g=>exact⟨_,rfl,.inl ⟨by decide +kernel,g,rfl,rfl⟩⟩
    |put b n=>exact⟨_,rfl,.inr ⟨by decide +kernel,rfl⟩⟩
    |two u b c=>exact⟨_,rfl,.inr ⟨(show ∀u,jF (.str (w2 u)) [.str "jump",.str "zero"]=false by decide +kernel) u,rfl⟩⟩
    |one u b=>exact⟨_,rfl,.inr ⟨(show ∀u,jF (.str (w1 u)) [.str "jump",.str "zero"]=false by decide +kernel) u,rfl⟩⟩
    |halt=>exact⟨_,rfl,.inr ⟨by decide +kernel,rfl⟩⟩
   exists aC hc,e0;refine⟨by decide,λt ht=>⟨rfl,rfl,?_⟩⟩
   have k6:=KB.new (ex:=[]) (o:=.tup [.str "jump",.str "zero"]) ht;rcases h with ⟨h1,g,h2,h3⟩|⟨h1,h2⟩
   ·exists h1,aC (k6 _ _ hc (by simp)),h3
    by_cases cg:(k:Int)<(g:Int)
    ·rw[Li cg];exact yes _ k6
    ·rw[Lf cg];exact no1 (by rw[h2];intro t z;cases z;lia) _ k6
   ·exists h1;exact no1 (by rw[h2];exactλt z=>nomatch z) _ k6
  ·rintro D ys H' ⟨g0,g1,g2,gk,gg⟩;refine⟨KW _,λp3 hp3=>?_⟩;have k7:=KB.new (ex:=[]) (o:=.lst []) hp3;refine⟨D,p3,ys,rfl,rfl,a_.of (k7 _ _ g1 (by simp)),a_.of aa,?_⟩
   refine q _ _ (λe r' hr''=>?_) (k2.trans (gk.trans k7));obtain⟨j,hj,rfl⟩:=N8.mp hr'';exact gg (List.isEmpty_iff.mp e) j _ (by rw[K2];lia) (K1 hj)
  ·obtain⟨v,e,h⟩:=h;exact⟨v,e,hAB _ _ h⟩
def Bu.tr:Bu->L2.T
 |.s z=>.str z
 |.n k=>.int (k:Nat)
def D9(r:Row):L2.T:=.tup (r.ps.map Bu.tr)
theorem CM{r:Row}(h:H q=some (.tup r.vs)):Rep K H no (.ref q) (D9 r):=.tup (λz=>z) h (by
 unfold Row.vs
 induction r.ps with
 |nil=>exact .nil
 |cons x l ih =>
  refine .cons ?_ ih
  cases x with
  |s z=>exact .str z
  |n k=>exact .int _)
theorem oE:∀{as:List Addr} {rs:List Row},PA H as rs->cV K H no (as.map V.ref) (rs.map D9)
 |[],[],_=>.nil
 |[],_::_,h=>nomatch h.1
 |_::_,[],h=>nomatch h.1
 |a::as,r::rs,h=>.cons (CM (h.2 0 a r rfl rfl)) (oE ⟨Nat.succ.inj h.1,λi q r' e1 e2=>h.2 (i+1) q r' e1 e2⟩)
theorem Cc(n:Nat)(r:Row):mQ (n+1) (D9 r) (D9 r) true:=by
 have:=mQ.tup (n:=n) (xs:=r.ps.map Bu.tr) (ys:=r.ps.map Bu.tr) (λ_=>true) λj x y h1 h2=>by
  rw[h1] at h2;cases h2;rw[K8] at h1;obtain⟨k,_,rfl⟩:=Lc.mp h1
  cases k with
  |s z=>exact uI n z
  |n k=>exact vb n _
 rwa [all_true] at this
theorem og{b:Addr}{rs:List Row}(ha:iL H a rs)(hb:iL H b rs)(q:Q (.bl false) H):Y.EC K (.ref a) (.ref b) H Q:=by
 obtain⟨as,h1,h2⟩:=ha;obtain⟨bs,h3,h4⟩:=hb;exact .inr (vC (neg:=true) h1 h3 (oE h2) (oE h4) (λx hx=>by
  obtain⟨r,_,rfl⟩:=L3.mp hx;exact Cc 3 r) q)
def mM:Sp:=λvs H Q _=>∃(p dq pa b:Addr) (n:Nat) (bk:List (List Int)) (rs:List Row),vs=[.ref p,.ref pa,.ref b]/\bA H p dq n/\n<2^40/\iL H pa rs/\vA H b bk/\Bk bk/\rs.length<=60/\(∀r∈rs,r.Ok rs.length)/\∀H',KB [p,dq] H H'->bA H' p dq (n+60)->Q (.bl true) H'
theorem si(T:Txt K mg)(F:HasFn K mg "_law_right" dU ["deck","program","book"])(hpack_rows:ao P w K mg base aS 7 "pack_rows" ["program","book"] nS)(hread_rows:ao P w K mg base aS 7 "read_rows" ["bits","book"] tM)(h_law_packed:ao P w K mg base aS 3 "_law_packed" ["program","book","widths"] (pN K))(h_law_draw:ao P w K mg base aS 2 "_law_draw" ["deck","most"] eY)(h_law_ahead:ao P w K mg base aS 1 "_law_ahead" ["program","k"] kZ):ao P w K mg base aS 8 "_law_right" ["deck","program","book"] mM:=by
 refine F.dR b_ (λvs H Q E h=>?_) (λf cdv A outer s H vs Q E hr h=>?_)
 ·obtain⟨p,dq,pa,b,n,bk,rs,rfl,_⟩:=h;rfl
 ·have hu:=aN hr;obtain⟨p,dq,pa,b,n,bk,rs,rfl,hD,hn,hp,hb,hB,hl,bg,q⟩:=h;have L:=iM hB (by lia) bg
  have bnz:dX (dB bk rs):=sM (Bh bk) _ _ _ _;refine⟨_,(Z.aq (Z.asg (Z.fc hpack_rows (Z.cons (Z.v 1) (Z.cons (Z.v 2) Z.nil))) (Z.gQ (n:=2) K rfl rfl (Z.aZ (Z.aG (i:=3) b_.nd rfl (by right)) (Z.aZ (Z.aG (i:=4) b_.nd rfl (by right)) Z.dJ))))
   (Z.aq (Z.se (i:=5) b_.nd (Z.fc hread_rows (Z.cons (Z.v 3) (Z.cons (Z.v 2) Z.nil))))
   (Z.aq (Z.dW (Z.tw (Z.IX (Z.bp (Y.kE K rfl (jd hr)) (Z.v 5) (Z.v 1)) (Z.Ck (Z.bp (Y.kE K rfl (jd hr)) (Z.fc hpack_rows (Z.cons (Z.v 5) (Z.cons (Z.v 2) Z.nil))) (Z.tup (Z.cons (Z.v 3) (Z.cons (Z.v 4) Z.nil))))))) (Z.az (Z.ret Z.bl)) Z.bB)
   (Z.aq (Z.se (i:=6) b_.nd (Z.ix (Z.aF K rfl hu) (Z.fc h_law_packed (Z.cons (Z.v 1) (Z.cons (Z.v 2) (Z.cons (Z.o_ (osc:=ab dU) (ON:=["deck","program","book","bits","spots","again","wide","k"]) (own:=["row"]) (N:=["row","deck","program","book","bits","spots","again","wide","k"]) (aA.of rfl (by decide +kernel)) (Z.any K rfl (Z.v 1)) (λnd _ _ _ _=>(Z.aG (i:=0) nd rfl (by right))) (λ_ _ _ _=>Z.jA) (λ_ _ _ _=>(Z.fc h_law_draw (Z.cons (Z.v 1) (Z.cons Z.int Z.nil))))) Z.nil)))) Z.int))
   (Z.aq (Z.dW (Z.tw (Z.IX (Z.bp (Y.kE K rfl (jd hr)) (Z.fc hread_rows (Z.cons (Z.v 6) (Z.cons (Z.v 2) Z.nil))) (Z.v 1)) (Z.Ck (Z.bp iC (Z.cb (Z.cx K rfl) rfl T.cp (by decide +kernel) (Z.cons (Z.v 6) Z.nil)) (Z.cb (Z.cx K rfl) rfl T.cp (by decide +kernel) (Z.cons (Z.v 3) Z.nil)))))) (Z.az (Z.ret Z.bl)) Z.bB)
   (Z.aq (Z.dO Lm rfl (Z.ke rfl T.cA (Z.cons (Z.cb (Z.cx K rfl) rfl T.cp (by decide +kernel) (Z.cons (Z.v 1) Z.nil)) Z.nil)) (Z.aG (i:=7) b_.nd rfl (by right)) (Z.az (Z.dW (Z.tw (Z.wK (Z.pI K rfl (Z.fc h_law_ahead (Z.cons (Z.v 1) (Z.cons (Z.v 7) Z.nil)))) (Z.mN (Z.bp (Y.kE K rfl (jd hr)) (Z.fc hread_rows (Z.cons (Z.slice Y.jh (Z.v 3) Z.t9 (Z.oW (Z.ix (Z.aF K rfl hu) (Z.v 4) (Z.v 7)))) (Z.cons (Z.v 2) Z.nil))) (Z.slice (Y.Dk K rfl) (Z.v 1) Z.t9 (Z.oW (Z.v 7))))))) (Z.az (Z.ret Z.bl)) Z.bB)))
   (Z.az (Z.ret Z.bl)))))))),?_⟩
  refine ar λN hN=>?_;walk_at "rz";refine⟨pa,b,bk,rs,rfl,hp,hb,hB,by lia,bg,λt1 u1 H1 k1 e1 e2=>?_⟩
  unfold aL;refine⟨t1,_,rfl,aX.of e1,rfl,_,_,rfl,_,_,rfl,rfl,?_⟩;rw[hN];clear hN N;have zl:=L.JN;have sl:=L.sl;have hle:∀{ws sp z},Laid (cT bk) rs ws sp z->(dB bk rs).length<=z.length:=λL=>wX hB L;refine ar λN hN=>?_;walk_at "rz";refine⟨b,bk,rs,_,_,_,rfl,hb.kb k1,hB,L,bnz,λga H2 k2 hg2=>?_⟩;rw[hN];clear hN N;have k02:=k1.trans k2;have hp2:=hp.kb k02;have hb2:=hb.kb k02;have e22:=k2 _ _ e2 (by simp)
  refine ar λN hN=>?_;refine xy λA B hA hB'=>?_;walk_at "rz";refine og hg2 hp2 ⟨false,rfl,?_⟩;rw[KJ KP];refine⟨ga,b,bk,rs,rfl,hg2,hb2,hB,by lia,bg,λt3 u3 H3 k3 e3 e4=>?_⟩
  refine⟨by decide,λp4 hp4=>?_⟩
  have k4:=KB.new (ex:=[]) (o:=.tup [.str (wd (dB bk rs)),.ref u1]) hp4;have s4:upd H3 p4 (.tup [.str (wd (dB bk rs)),.ref u1]) p4=_:=aa;generalize upd H3 p4 (.tup [.str (wd (dB bk rs)),.ref u1])=H4 at *;have k34:=k3.trans k4;refine Gs (k4 _ _ e3 (by simp)) s4 (k4 _ _ e4 (by simp)) (k34 _ _ e22 (by simp)) ⟨false,rfl,?_⟩
  rw[KJ KP,hB'];show N _ _;rw[hN];clear hN N hA hB' A B;have k04:=k02.trans k34;have e24:=k34 _ _ e22 (by simp)
  have hp4':=hp.kb k04;have hb4:=hb.kb k04;have D4:=hD.kb k04;clear k34 e22 hp2 hb2 k02 k1 k2 k3 k4 e1 e2 e3 e4 s4 hp4 hg2;generalize dB bk rs=z at *;generalize vQ bk rs=sp at *;generalize oT bk rs=ws at *;refine ar λN hN=>?_;obtain⟨as4,ha4,hpl4,_⟩:=hp4';exists aC ha4;refine bF (xs:=as4.map V.ref) (KA (show _<=64 by rw[K2];lia) (by decide)) (λD i' ys H'=>H4 D=none/\H' D=some (.lst ys)/\bA H' p dq (n+i')/\KB [p,dq] H4 H'/\∃ws:List Nat,ys=iV (nZ ws)/\ws.length=i'/\i'<=rs.length/\∀w∈ws,w<3) (λD hD=>⟨hD,aa,D4.kb (KB.new hD),KB.new hD,[],rfl,rfl,KW _,λw hw=>absurd hw Ln⟩) (λD i' ys H' h=>⟨h.2.1,by obtain⟨_,_,_,_,ws,rfl,e,_⟩:=h;rw[b9,e]⟩) (λD i' ys H' h=>aX.of (h.2.2.2.1 _ _ ha4 λz=>D4.nt _ z _ ha4)) ?_ ?_
  ·rintro D i' ys H' x R hx ⟨g0,g1,gD,gk,ws,rfl,e1,e2,e3⟩ kk;have hlt:i'<rs.length:=by have:=(K7.mp hx).1;rw[K2] at this;lia
   have nD:=D4.new g0;have pD:p≠D:=λz=>nD (by simp[z])
   have qD:dq≠D:=λz=>nD (by simp[z])
   walk_at "rz";refine⟨p,dq,3,_,rfl,gD,by lia,by decide,by decide,λv G5 hv D5 k5=>?_⟩
   refine kk _ _ (k5 _ _ g1 nD) ⟨g0,aa,(D5.keep (KB.set (ex:=[D]) (by simp)) (by simpa using pD) (by simpa using qD)).mono (by lia),λu o e z=>by rw[af (ae e g0)];exact k5 _ _ (gk _ _ e z) z,ws++[v],by unfold nZ;rw[KN,f9];rfl,by rw[K6,e1];rfl,hlt,λw hw=>?_⟩
   rcases Lq.mp hw with h|h
   ·exact e3 w h
   ·rw[KU.mp h];lia
  rintro wa ys H5 ⟨_,gw,D5,k5,vs,rfl,e1,_,e3⟩;rw[K2,hpl4] at e1 D5;have hp5:=(hp.kb k04).keep k5 D4.nt;have hb5:=hb4.keep k5 D4.nt;have e25:=D4.tup k5 e24;have k05:KB [p,dq] H H5:=k04.all.trans k5;clear ha4 hpl4 hb4 e24 D4 k04 k5;refine⟨pa,b,wa,bk,rs,vs,rfl,hp5,hb5,hB,gw,e1,by lia,bg,e3,λt6 v6 H6 k6 e6=>?_⟩
  exists aC e6;obtain⟨ws2,sp2,L2'⟩:=x5 hB e1 (by lia) bg e3
  have bn2:=xU bk rs vs;generalize pz bk rs vs=y at *;have yl:=L2'.JN;have hzy:=hle L2';show N _ _;rw[hN];clear hN N;have hp6:=hp5.kb k6;have hb6:=hb5.kb k6;have e26:=k6 _ _ e25 (by simp)
  have D6:=D5.kb k6;have k06:KB [p,dq] H H6:=k05.trans k6.all;clear hp5 hb5 e25 D5 k05 k6 e6 gw e3 e1;refine ar λN hN=>?_;refine xy λA B hA hB'=>?_;walk_at "rz";refine⟨b,bk,rs,_,_,_,rfl,hb6,hB,L2',bn2,λgx H7 k7 hg7=>?_⟩;refine og hg7 (hp6.kb k7) ⟨false,rfl,?_⟩;rw[KJ KP];exists aK;refine⟨KA yl (by decide),KA zl (by decide),?_⟩
  rw[KJ (show ¬ ((y.length:Nat):Int)<((z.length:Nat):Int) by lia),hB']
  show N _ _;rw[hN];clear hN N hA hB' A B;have hp7:=hp6.kb k7;have hb7:=hb6.kb k7;have e27:=k7 _ _ e26 (by simp)
  have D7:=D6.kb k7;have k07:KB [p,dq] H H7:=k06.trans k7.all;clear hp6 hb6 e26 D6 k06 k7 hg7;refine ar λN hN=>?_;obtain⟨as7,ha7,hpl7,_⟩:=hp7;exists aC ha7,K2,hpl7;refine⟨by lia,by lia,?_⟩
  rw[Lg];refine bL (λi σ H'=>∃s7:Option V,i<=rs.length/\KB [] H7 H'/\σ=[some (.ref p),some (.ref pa),some (.ref b),some (.str (wd z)),some (.ref u1),some (.ref ga),some (.str (wd y)),s7]) ⟨none,KW _,KB.refl _ _,rfl⟩ ?_ ?_
  ·rintro i σ H' hi ⟨s7,_,hk,rfl⟩;rw[Int.zero_add];unfold aL;have hp8:iL H' pa rs:=iL.kb ⟨as7,ha7,hpl7,‹_›⟩ hk;have hb8:=hb7.kb hk;dsimp only;refine jN λM hM=>?_;refine xy λA B hA hB'=>?_;walk_at "rz";refine⟨pa,rs,i,rfl,hp8,by lia,λbb H9 hbb k9=>⟨bb,rfl,?_⟩⟩
   have fin:∀G,KB [] H9 G->B [some (.ref p),some (.ref pa),some (.ref b),some (.str (wd z)),some (.ref u1),some (.ref ga),some (.str (wd y)),some (.int (i:Nat))] G:=λG kG=>by
    rw[hB'];show M _ _;rw[hM];exact⟨_,hi,hk.trans (k9.trans kG),rfl⟩
   cases bb with
   |false=>rw[KJ KP];exact fin H9 (KB.refl _ _)
   |true =>
    rw[KO rfl];have Lk:=L.cut (M1 hi) (hbb rfl);have as9:bC (iV (nZ sp).dropLast) (i:Int)=some (.int ((sp.getD i 0:Nat):Int)):=aR (by
     unfold iV nZ;rw[K8,List.getElem?_dropLast,K2,KO (by lia),K8,KD,K1 (show i<sp.length by lia)];rfl)
    have e29:=(hk.trans k9) _ _ e27 (by simp)
    exists aC e29,as9;have ec:Y.fV (wd z) none (some ((sp.getD i 0:Nat):Int))=wd (z.take (sp.getD i 0)):=by
     have:=B0 z 0 (sp.getD i 0) (KW _);rw[LD,MZ] at this;rw[<- this];unfold Y.fV Y.ml;rw[HT.cY];rfl
    refine⟨_,rfl,by rw[aK];exact KA zl (by decide),?_⟩
    rw[ec];refine⟨b,bk,rs.take i,_,_,_,rfl,hb8.kb k9,hB,Lk,λc hc=>bnz c (M8 hc),λgc H10 k10 hg10=>?_⟩;refine Ak ((hp8.kb k9).kb k10) λu H11 k11 hu11=>?_;refine og (hg10.kb k11) hu11 ⟨false,rfl,?_⟩;rw[KJ KP];exact fin H11 (k10.trans k11)
  ·rintro σ H' ⟨s7,_,hk,rfl⟩;show N _ _;rw[hN];clear hN N;walk_at "rz";exact q H' (k07.trans hk.all) ((D7.kb hk).mono (by lia))
theorem EX{rs:List Row}(h:iL H a rs)(q:∀u G,KB [] H G->iL G u rs.dropLast->Q (.ref u) G):Y.yu K (.ref a) none (some (-1)) H Q:=by
 obtain⟨as,ha,hp⟩:=h;have hd:PA H as.dropLast rs.dropLast:=by
  rw[N2,N2,hp.1];exact iL.cut hp _
 refine vx ha (λe=>q a H (KB.refl _ _) ⟨as.dropLast,?_,hd⟩) (λp hp'=>q p _ (KB.new hp') ⟨as.dropLast,?_,hd.keep (KB.new hp') (NT.nil _)⟩)
 ·rw[nO] at e;rw[ha,Pd,e]
 ·rw[aa,nO,Pd]
theorem E9{f:Addr}{fd:FuncData}(T:Txt K mg)(F:DE K "law" "law" gW f fd)(h_law_deck:ao P w K mg base aS 1 "_law_deck" ["script"] (yU K))(h_law_program:ao P w K mg base aS 5 "_law_program" ["deck","most"] AJ)(h_law_book:ao P w K mg base aS 4 "_law_book" ["deck"] (Aj K))(hbook_of:ao P w K mg base aS 7 "book_of" ["program","counts"] qW)(h_law_draw:ao P w K mg base aS 2 "_law_draw" ["deck","most"] eY)(h_law_right:ao P w K mg base aS 8 "_law_right" ["deck","program","book"] mM)(h_law_ahead:ao P w K mg base aS 1 "_law_ahead" ["program","k"] kZ)(hpack_rows:ao P w K mg base aS 7 "pack_rows" ["program","book"] nS):gR P w K mg base aS 9 f fd ["script"] (qg K):=by
 refine BF F h_ (λvs H Q E h=>?_) (λcdv A outer s H vs Q E hr h=>?_)
 ·obtain⟨a,ns,rfl,_⟩:=h;rfl
 ·obtain⟨a,ns,rfl,hS,hl,q⟩:=h;have hu:=aN hr;refine⟨_,(Z.aq (Z.se (i:=1) h_.nd (Z.fc h_law_deck (Z.cons (Z.v 0) Z.nil)))
   (Z.aq (Z.dO Lm rfl (Z.ke rfl T.cA (Z.cons Z.int Z.nil)) (Z.aG (i:=2) h_.nd rfl (by right)) (Z.aq (Z.se (i:=3) h_.nd (Z.fc h_law_program (Z.cons (Z.v 1) (Z.cons (Z.ix (Z.aF K rfl hu) (Z.lst (Z.consts rfl)) (Z.fc h_law_draw (Z.cons (Z.v 1) (Z.cons Z.int Z.nil)))) Z.nil))))
   (Z.aq (Z.se (i:=4) h_.nd (Z.fc h_law_book (Z.cons (Z.v 1) Z.nil)))
   (Z.aq (Z.dW (Z.bp cc (Z.fc h_law_draw (Z.cons (Z.v 1) (Z.cons Z.int Z.nil))) Z.int) (Z.az (Z.se (i:=4) h_.nd (Z.fc hbook_of (Z.cons (Z.v 3) (Z.cons (Z.ct (Z.cm K rfl) rfl T.cq (by decide +kernel) (Z.cons (Z.o_ (osc:=ab gW) (ON:=["script","deck","turn","program","book","other"]) (own:=["row"]) (N:=["row","script","deck","turn","program","book","other"]) (aA.of rfl (by decide +kernel)) (Z.any K rfl (Z.v 3)) (λnd _ _ _ _=>(Z.aG (i:=0) nd rfl (by right))) (λ_ _ _ _=>Z.jA) (λ_ _ _ _=>(Z.fc h_law_draw (Z.cons (Z.v 2) (Z.cons Z.int Z.nil))))) Z.nil)) Z.nil))))) Z.bB)
   (Z.aq (Z.dW (Z.AS (Z.pI K rfl (Z.fc h_law_right (Z.cons (Z.v 1) (Z.cons (Z.v 3) (Z.cons (Z.v 4) Z.nil)))))) (Z.az (Z.ret Z.bl)) Z.bB)
   (Z.aq (Z.se (i:=5) h_.nd (Z.slice (Y.Dk K rfl) (Z.v 3) Z.t9 (Z.oW (Z.un cP Z.int))))
   (Z.az (Z.dW (Z.tw (Z.wK (Z.bp (Y.kE K rfl (jd hr)) (Z.v 3) (Z.tup Z.nil)) (Z.mN (Z.pI K rfl (Z.fc h_law_ahead (Z.cons (Z.v 5) (Z.cons (Z.cb (Z.cx K rfl) rfl T.cp (by decide +kernel) (Z.cons (Z.v 5) Z.nil)) Z.nil))))))) (Z.az (Z.dW (Z.bp (Y.E7 K rfl (jd hr)) (Z.ix (Z.aF K rfl hu) (Z.fc hpack_rows (Z.cons (Z.v 5) (Z.cons (Z.v 4) Z.nil))) Z.int) (Z.ix (Z.aF K rfl hu) (Z.fc hpack_rows (Z.cons (Z.v 3) (Z.cons (Z.v 4) Z.nil))) Z.int)) (Z.az (Z.ret Z.bl)) Z.bB)) Z.bB))))))))
   (Z.az (Z.ret Z.bl)))),?_⟩
  refine ar λN hN=>?_;walk_at "rz";refine⟨a,ns,rfl,hS,λp dq H1 D1 k1=>?_⟩;rw[hN];clear hN N;refine ar λN hN=>?_;walk_at "rz";refine⟨by decide,by decide,?_⟩
  refine bL (n:=2) (λi σ H'=>∃s2 s3 s4 s5:Option V,bA H' p dq (2000*i)/\σ=[some (.ref a),some (.ref p),s2,s3,s4,s5]) ⟨none,none,none,none,D1,rfl⟩ ?_ ?_
  ·rintro i σ H' hi ⟨s2,s3,s4,s5,hD,rfl⟩;generalize (0:Int)+((i:Nat):Int)=kI;unfold aL;refine ar λM hM=>?_;walk_at "rz";refine⟨by decide,λl hl=>?_⟩
   have k3:KB [] H' (upd H' l (.lst [.int 10,.int 10,.int 10,.int 60])):=KB.new hl;have s3':upd H' l (.lst [.int 10,.int 10,.int 10,.int 60]) l=_:=aa;generalize upd H' l (.lst [.int 10,.int 10,.int 10,.int 60])=H3 at *;have nl:=hD.new hl;refine⟨p,dq,4,_,rfl,hD.kb k3,by lia,by decide,by decide,λv1 H4 hv1 D4 k4=>?_⟩
   obtain⟨m,hm,em⟩:∃m:Nat,m<=60/\bC [V.int 10,.int 10,.int 10,.int 60] (v1:Int)=some (.int (m:Nat)):=by
    rcases (show v1=0\/v1=1\/v1=2\/v1=3 by lia) with rfl|rfl|rfl|rfl
    ·exact⟨10,by decide,rfl⟩
    ·exact⟨10,by decide,rfl⟩
    ·exact⟨10,by decide,rfl⟩
    ·exact⟨60,by decide,rfl⟩
   exists au (k4 _ _ s3' nl),em;refine⟨p,dq,m,_,rfl,D4,by lia,by lia,λrs pa H5 hrl hrs hpa D5 k5=>?_⟩
   rw[hM];clear hM M;clear k3 k4 k5 s3' nl hl em D4 hD;refine ar λM hM=>?_;walk_at "rz";refine⟨p,dq,_,rfl,D5,by lia,λbk1 b1 H6 D6 k6 hb1 hB1=>?_⟩
   have hpa6:=hpa.keep k6 D5.nt;rw[hM];clear hM M;refine ar λM hM=>?_;have fin:∀(G:Hp) (b:Addr) (bk:List (List Int)),iL G pa rs->vA G b bk->Bk bk->bA G p dq (2000*i+1000)->M [some (.ref a),some (.ref p),some (.int kI),some (.ref pa),some (.ref b),s5] G:=λG b bk hpG hbG hB DG=>by
    rw[hM];clear hM M;refine ar λM hM=>?_;refine xy λA B hA hB'=>?_;walk_at "rz";refine⟨p,dq,pa,b,_,bk,rs,rfl,DG,by lia,hpG,hbG,hB,by lia,hrs,λG1 k1 D1=>?_⟩
    exists Qz;rw[KJ (by decide),hB']
    show M _ _;rw[hM];clear hM M hA hB' A B;have hp1:=hpG.keep k1 DG.nt;have hb1':=hbG.keep k1 DG.nt;refine ar λM hM=>?_;walk_at "rz";refine EX hp1 λo G2 k2 ho=>?_;rw[hM];clear hM M;have hp2:=hp1.kb k2;have hb2:=hb1'.kb k2;have D2:=D1.kb k2;dsimp only;refine jN λM hM=>?_;have xr:∀G',KB [] G2 G'->M [some (.ref a),some (.ref p),some (.int kI),some (.ref pa),some (.ref b),some (.ref o)] G':=λG' kG=>by
     rw[hM];exact⟨_,_,_,_,(D2.kb kG).mono (by lia),rfl⟩
    clear hM;refine xy λA B hA hB'=>?_;walk_at "rz";refine⟨KW _,λp1 hp1'=>?_⟩;have k3:=KB.new (ex:=[]) (o:=.tup []) hp1';have s3:upd G2 p1 (.tup []) p1=some (.tup []):=aa;generalize upd G2 p1 (.tup [])=G3 at *;obtain⟨as,ha,hpA⟩:=hp2;have hpl:=hpA.1;have ha3:=k3 _ _ ha (by simp)
    have radr:∀l:List Addr,cV K G3 no (l.map V.ref) (l.map L2.T.adr):=λl=>by
     induction l with
     |nil=>exact .nil
     |cons x l ih=>exact .cons (.adr x) ih
    refine .inr ⟨no,pa,p1,_,_,_,[],λ_=>true,rfl,rfl,.inl ⟨aX.of ha3,aX.of s3⟩,radr as,.nil,λj x y _ e=>(nomatch e),?_⟩;by_cases c0:rs=[]
    ·subst c0;have e0:as=[]:=MG.mp hpl;subst e0;refine⟨false,rfl,?_⟩;rw[KJ KP,hB'];exact xr G3 k3
    ·have r0:0<rs.length:=NF.mpr c0;refine⟨true,by
      have:kP (as.map L2.T.adr).length ([]:List L2.T).length (λ_=>true)=false:=by
       unfold kP;rw[K2,hpl];have:rs.length≠([]:List L2.T).length:=by simp;exact c0
       simp[c0]
      simp only[this];rfl,?_⟩
     rw[KO rfl];have dl:rs.dropLast.length=rs.length-1:=OD;have ho3:=ho.kb k3;have ho3':=ho3;obtain⟨os,hoa,hol,_⟩:=ho3';exists aC hoa,K2,hol;refine⟨o,rs.dropLast,rs.dropLast.length,rfl,ho3,by lia,λbb G4 hbb k4=>⟨bb,rfl,?_⟩⟩
     cases bb with
     |false =>
      rw[KJ KP,hB'];exact xr G4 (k3.trans k4)
     |true =>
      rw[KO rfl,hA];clear hA hB' A B;have hbb':=hbb rfl;rw[Lz] at hbb';have bg:∀r∈rs.dropLast,r.Ok rs.dropLast.length:=λr hr'=>DO (hrs r (List.dropLast_subset _ hr')) (hbb' r hr');refine xy λA B hA hB'=>?_;walk_at "rz";refine⟨o,b,bk,rs.dropLast,rfl,ho3.kb k4,(hb2.kb k3).kb k4,hB,by lia,bg,λt5 u5 G5 k5 e5 _=>?_⟩
      exists aC e5;have k25:=k3.trans (k4.trans k5);refine⟨pa,b,bk,rs,rfl,iL.kb ⟨as,ha,hpA⟩ k25,hb2.kb k25,hB,by lia,hrs,λt6 u6 G6 k6 e6 _=>?_⟩
      exists aC e6;have hne:¬ wd (dB bk rs.dropLast)=wd (dB bk rs):=λz=>by
       have L1:=iM hB (by lia) bg
       have L2:=iM hB (rs:=rs) (by lia) hrs
       rw[E1 z] at L1;have:=L1.one L2;lia
      refine .inl (.inl ⟨rfl,?_⟩);rw[Lf (λz=>hne (V.str.inj z))];refine⟨false,rfl,?_⟩;rw[KJ KP,hB'];exact xr G6 (k25.trans k6)
   refine xy λA B hA hB'=>?_;walk_at "rz";refine⟨p,dq,2,_,rfl,D6,by lia,by decide,by decide,λv2 H7 hv2 D7 k7=>?_⟩
   have hpa7:=hpa6.keep k7 D6.nt;walk_at "rz";by_cases c:(v2:Int)=0
   ·rw[KO c,hA];clear hA hB';obtain⟨as,ha,hpl,_⟩:=hpa7;exists aC ha;refine bF (xs:=as.map V.ref) (KA (show _<=64 by rw[K2];lia) (by decide)) (λD i' ys H'=>H7 D=none/\H' D=some (.lst ys)/\bA H' p dq (2000*i+600+i')/\KB [p,dq] H7 H'/\∃ks:List Nat,ys=iV (nZ ks)/\ks.length=i'/\i'<=rs.length/\∀k∈ks,k<=40) (λD hD=>⟨hD,aa,(D7.kb (KB.new hD)).mono (by lia),KB.new hD,[],rfl,rfl,KW _,λw hw=>absurd hw Ln⟩) (λD i' ys H' h=>⟨h.2.1,by obtain⟨_,_,_,_,ks,rfl,e,_⟩:=h;rw[bj,cf,e]⟩) (λD i' ys H' h=>aX.of (h.2.2.2.1 _ _ ha λz=>D7.nt _ z _ ha)) ?_ ?_
    ·rintro D i' ys H' x R hx ⟨g0,g1,gD,gk,ks,rfl,e1,e2,e3⟩ kk;have hlt:i'<rs.length:=by have:=(K7.mp hx).1;rw[K2] at this;lia
     have nD:=D7.new g0;have pD:p≠D:=λz=>nD (by simp[z])
     have qD:dq≠D:=λz=>nD (by simp[z])
     walk_at "rz";refine⟨p,dq,41,_,rfl,gD,by lia,by decide,by decide,λv G5 hv D5 k5=>?_⟩
     refine kk _ _ (k5 _ _ g1 nD) ⟨g0,aa,(D5.keep (KB.set (ex:=[D]) (by simp)) (by simpa using pD) (by simpa using qD)).mono (by lia),λu o e z=>by rw[af (ae e g0)];exact k5 _ _ (gk _ _ e z) z,ks++[v],by unfold nZ;rw[KN,f9];rfl,by rw[K6,e1];rfl,hlt,λw hw=>?_⟩
     rcases Lq.mp hw with h|h
     ·exact e3 w h
     ·rw[KU.mp h];lia
    rintro wa ys G5 ⟨_,gw,D5,k5,ks,rfl,e1,_,e3⟩;rw[K2,hpl] at e1 D5;have hpa5:=(hpa6.keep k7 D6.nt).keep k5 D7.nt;exists au gw;intro ca hca;have kca:=KB.new (ex:=[]) (o:=.tup (iV (nZ ks))) hca;refine⟨pa,ca,rs,ks,rfl,hpa5.kb kca,by lia,hrs,aa,e1,e3,λbk b G6 k6' hb6 hB6=>?_⟩
    exact fin G6 b bk ((hpa5.kb kca).kb k6') hb6 hB6 (((D5.kb kca).kb k6').mono (by lia))
   ·rw[KJ c,hB'];exact fin H7 b1 bk1 hpa7 (hb1.keep k7 D6.nt) hB1 (D7.mono (by lia))
  ·rintro σ H' ⟨s2,s3,s4,s5,_,rfl⟩;show N _ _;rw[hN];clear hN N;walk_at "rz";exact q _
local macro_rules | `(tactic| walk_at "b1") => `(tactic| (intro _ _ _ _ _ _ us hl; obtain ⟨_, e⟩ := L2.Y.G8 hl; subst e; rfl))
theorem dE{x:Str}{st:Stmt}{ps:List Str}{f:Addr}{oc:Value}{od an:Option Addr}{osl:Array (Option Value)}{kV doc pm cdv ct:Value}(X:K.In h)(G:h.Ns mainGlobals mg)(a:W.nsIn K mainGlobals x=some (some (.ref f)))
  (l:K.lookup f=some ⟨oc,od,.func (W.fnOf x x (d4 st) (bV st) (ab st) .none kV doc pm an cdv ct),osl⟩) (c:W.codeIn K cdv x=true) (k:W.keepIn K (.ref f)=true)
  (hb:∀(kV doc pm:Value) (an:Option Addr) (cdv ct:Value) (us:List Value),us.length=ps.length->bindArgs (W.fnOf x x (d4 st) (bV st) (ab st) .none kV doc pm an cdv ct) ⟨us,[]⟩=pure (ps.zip us)):HasFn K mg x st ps:=
 ⟨f,_,sP l c k,(sP l c k).binds hb,MW X G a⟩
set_option autoImplicit true in
theorem all_mk{l:W.OpenLaw}{w:World}{fa:Addr}(X:K.In h)(G:h.Ns mainGlobals mg)(hfa:mg "law"=some (.ref fa))
  (F0:HasFn K mg "can_be" lg ["lengths"])
  (F1:HasFn K mg "least_lengths" bW ["counts","bound"])
  (F2:HasFn K mg "chosen_things" cM ["counts","bound"])
  (a3:W.nsIn K mainGlobals "by_worth"=some (some (.ref f3))) (l3:K.lookup f3=some ⟨oc3,od3,.func (W.fnOf "by_worth" "by_worth" (d4 dw) (bV dw) (ab dw) .none kV3 dc3 pm3 an3 cd3 ct3),sl3⟩) (c3:W.codeIn K cd3 "by_worth"=true) (k3:W.keepIn K (.ref f3)=true)
  (F4:HasFn K mg "packs_of" fN ["shelf"])
  (a5:W.nsIn K mainGlobals "code_of"=some (some (.ref f5))) (l5:K.lookup f5=some ⟨oc5,od5,.func (W.fnOf "code_of" "code_of" (d4 dn) (bV dn) (ab dn) .none kV5 dc5 pm5 an5 cd5 ct5),sl5⟩) (c5:W.codeIn K cd5 "code_of"=true) (k5:W.keepIn K (.ref f5)=true)
  (F6:HasFn K mg "word_behind" fb ["ahead","length"])
  (F7:HasFn K mg "thing_at" hW ["code","bits","place"])
  (F8:HasFn K mg "goal_of" je ["row"])
  (F9:HasFn K mg "with_goal" gq ["row","goal"])
  (F10:HasFn K mg "least_widths" eH ["sizes","goals"])
  (F11:HasFn K mg "raised_till_good" cN ["sizes","goals"])
  (F12:HasFn K mg "narrowest" eW ["goals"])
  (F13:HasFn K mg "first_too_narrow" cO ["sizes","goals","widths"])
  (F14:HasFn K mg "fits" rO ["starts","goals","widths","row"])
  (F15:HasFn K mg "distance_of" fe ["starts","goals","row"])
  (F16:HasFn K mg "row_starts" fK ["sizes","widths"])
  (F17:HasFn K mg "own_part" iw ["width"])
  (F18:HasFn K mg "book_of" fq ["program","counts"])
  (F19:HasFn K mg "coded_things" d_ ["row"])
  (F20:HasFn K mg "codes_of" fC ["book"])
  (F21:HasFn K mg "pack_rows" cS ["program","book"])
  (F22:HasFn K mg "bits_ahead_of_goal" bJ ["row","codes"])
  (F23:HasFn K mg "figures_behind_first" bT ["number"])
  (F24:HasFn K mg "jump_written" ee ["width","distance"])
  (F25:HasFn K mg "last_figures" eG ["number","many"])
  (F26:HasFn K mg "read_rows" d6 ["bits","book"])
  (F27:HasFn K mg "goal_numbered" dD ["row","start","numbers"])
  (F28:HasFn K mg "row_at" lL ["codes","bits","place"])
  (F29:HasFn K mg "coded_at" ig ["code","bits","place"])
  (F30:HasFn K mg "part_at" jt ["kind","codes","bits","place"])
  (F31:HasFn K mg "number_at" fY ["code","bits","place"])
  (F32:HasFn K mg "goal_at" jo ["bits","place"])
  (F33:HasFn K mg "_law_deck" eO ["script"])
  (F34:HasFn K mg "_law_mix" iq ["number","turn"])
  (F35:HasFn K mg "_law_draw" fZ ["deck","most"])
  (F36:HasFn K mg "_law_words" fJ [])
  (F37:HasFn K mg "_law_bits" gz ["number","many"])
  (F38:HasFn K mg "_law_code" eQ ["lengths"])
  (F39:HasFn K mg "_law_lengths" eB ["deck","many"])
  (F40:HasFn K mg "_law_book" eM ["deck"])
  (F41:HasFn K mg "_law_number" e_ ["deck"])
  (F42:HasFn K mg "_law_row" hZ ["deck","goals"])
  (F43:HasFn K mg "_law_program" dc ["deck","most"])
  (F44:HasFn K mg "_law_goals" dN ["program"])
  (F45:HasFn K mg "_law_plain" fG ["row","codes"])
  (F46:HasFn K mg "_law_spots" fL ["sizes","goals","widths"])
  (F47:HasFn K mg "_law_least" fE ["sizes","goals","widths"])
  (F48:HasFn K mg "_law_packed" bY ["program","book","widths"])
  (F49:HasFn K mg "_law_ahead" dM ["program","k"])
  (F50:HasFn K mg "_law_right" dU ["deck","program","book"])
  (a51:W.nsIn K mainGlobals "law"=some (some (.ref f51))) (l51:K.lookup f51=some ⟨oc51,od51,.func (W.fnOf "law" "law" (d4 gW) (bV gW) (ab gW) .none kV51 dc51 pm51 an51 cd51 ct51),sl51⟩) (c51:W.codeIn K cd51 "law"=true) (k51:W.keepIn K (.ref f51)=true)
  (z0:W.nsIn K mainGlobals "abs"=some none)
  (z1:W.nsIn K mainGlobals "dict"=some none)
  (z2:W.nsIn K mainGlobals "enumerate"=some none)
  (z3:W.nsIn K mainGlobals "int"=some none)
  (z4:W.nsIn K mainGlobals "isinstance"=some none)
  (z5:W.nsIn K mainGlobals "len"=some none)
  (z6:W.nsIn K mainGlobals "list"=some none)
  (z7:W.nsIn K mainGlobals "min"=some none)
  (z8:W.nsIn K mainGlobals "range"=some none)
  (z9:W.nsIn K mainGlobals "sorted"=some none)
  (z10:W.nsIn K mainGlobals "str"=some none)
  (z11:W.nsIn K mainGlobals "sum"=some none)
  (z12:W.nsIn K mainGlobals "tuple"=some none)
  (z13:W.nsIn K mainGlobals "zip"=some none)
  (g0:W.nsIn K mainGlobals "BOXES"=some (some (.ref q0))) (m0:K.lookup q0=some ⟨.type "tuple",none,.seq #[.str "a" w0_0,.str "b" w0_1,.str "c" w0_2,.str "d" w0_3,.str "e" w0_4,.str "f" w0_5,.str "g" w0_6,.str "h" w0_7] qn0,qs0⟩)
  (g1:W.nsIn K mainGlobals "HALVES"=some (some (.ref q1))) (m1:K.lookup q1=some ⟨.type "tuple",qd1,.seq #[.int 8 w1_0,.int 128 w1_1,.int 32768 w1_2] qn1,qs1⟩)
  (g2:W.nsIn K mainGlobals "HEADS"=some (some (.ref q2))) (m2:K.lookup q2=some ⟨.type "tuple",qd2,.seq #[.str "0" w2_0,.str "10" w2_1,.str "11" w2_2] qn2,qs2⟩)
  (g3:W.nsIn K mainGlobals "HOW_MANY"=some (some (.ref q3))) (m3:K.lookup q3=some ⟨.type "tuple",qd3,.seq #[.int 9 w3_0,.int 17 w3_1,.int 8 w3_2] qn3,qs3⟩)
  (g4:W.nsIn K mainGlobals "LONGEST"=some (some (.int 12 w4_0)))
  (g5:W.nsIn K mainGlobals "OF_BOXES"=some (some (.int 2 w5_0)))
  (g6:W.nsIn K mainGlobals "OF_CLASSES"=some (some (.int 1 w6_0)))
  (g7:W.nsIn K mainGlobals "OF_WORDS"=some (some (.int 0 w7_0)))
  (g8:W.nsIn K mainGlobals "WIDEST"=some (some (.int 2 w8_0)))
  (g9:W.nsIn K mainGlobals "WIDTHS"=some (some (.ref q9))) (m9:K.lookup q9=some ⟨.type "tuple",qd9,.seq #[.int 4 w9_0,.int 8 w9_1,.int 16 w9_2] qn9,qs9⟩)
  (dg0:W.nsIn K mainGlobals "SHAPES"=some (some (.ref dd0))) (dz0:(dd0 == sysModules)=false) (dl0:K.lookup dd0=some ⟨.type "dict",none,.dict #[⟨dh0_0,.str "put" dt0_0,.ref dp0_0⟩,⟨dh0_1,.str "add" dt0_1,.ref dp0_1⟩,⟨dh0_2,.str "sub" dt0_2,.ref dp0_2⟩,⟨dh0_3,.str "copy" dt0_3,.ref dp0_3⟩,⟨dh0_4,.str "tell" dt0_4,.ref dp0_4⟩,⟨dh0_5,.str "hear" dt0_5,.ref dp0_5⟩,⟨dh0_6,.str "jump" dt0_6,.ref dp0_6⟩,⟨dh0_7,.str "zero" dt0_7,.ref dp0_7⟩,⟨dh0_8,.str "halt" dt0_8,.ref dp0_8⟩] dh0_ep,#[]⟩)
  (dm0_0:K.lookup dp0_0=some ⟨.type "tuple",do0_0,.seq #[.str "box" dw0_0_0,.str "number" dw0_0_1] dn0_0,ds0_0⟩)
  (dm0_1:K.lookup dp0_1=some ⟨.type "tuple",do0_1,.seq #[.str "box" dw0_1_0,.str "box" dw0_1_1] dn0_1,ds0_1⟩)
  (dm0_2:K.lookup dp0_2=some ⟨.type "tuple",do0_2,.seq #[.str "box" dw0_2_0,.str "box" dw0_2_1] dn0_2,ds0_2⟩)
  (dm0_3:K.lookup dp0_3=some ⟨.type "tuple",do0_3,.seq #[.str "box" dw0_3_0,.str "box" dw0_3_1] dn0_3,ds0_3⟩)
  (dm0_4:K.lookup dp0_4=some ⟨.type "tuple",do0_4,.seq #[.str "box" dw0_4_0] dn0_4,ds0_4⟩)
  (dm0_5:K.lookup dp0_5=some ⟨.type "tuple",do0_5,.seq #[.str "box" dw0_5_0] dn0_5,ds0_5⟩)
  (dm0_6:K.lookup dp0_6=some ⟨.type "tuple",do0_6,.seq #[.str "goal" dw0_6_0] dn0_6,ds0_6⟩)
  (dm0_7:K.lookup dp0_7=some ⟨.type "tuple",do0_7,.seq #[.str "box" dw0_7_0,.str "goal" dw0_7_1] dn0_7,ds0_7⟩)
  (dm0_8:K.lookup dp0_8=some ⟨.type "tuple",do0_8,.seq #[] dn0_8,ds0_8⟩)
  (le_by_worth:cd3=.ref lc_by_worth) (lk_by_worth:K.lookup lc_by_worth=some ⟨lO_by_worth,lD_by_worth,.fields lv_by_worth,lS_by_worth⟩) (lw_by_worth:lv_by_worth[11]?=some (.ref lp_by_worth))
  (le_code_of:cd5=.ref lc_code_of) (lk_code_of:K.lookup lc_code_of=some ⟨lO_code_of,lD_code_of,.fields lv_code_of,lS_code_of⟩) (lw_code_of:lv_code_of[11]?=some (.ref lp_code_of))
  : ∃fd:FuncData,(∀(s:Shared) (v:Value),BindsTo s fd ⟨[v],[]⟩ [("script",v)])/\∀base:Heap,K.In base->base.Ns mainGlobals mg->gR l.prog w K mg base aS 30 fa fd ["script"] (qg K):=by
 have e:=hfa.symm.trans (MW X G a51);cases e;have T:Txt K mg:=⟨LZ X G z0,LZ X G z1,LZ X G z2,LZ X G z3,LZ X G z4,LZ X G z5,LZ X G z6,LZ X G z7,LZ X G z8,LZ X G z9,LZ X G z10,LZ X G z11,LZ X G z12,LZ X G z13,⟨q0,MW X G g0,λH=>.inr ⟨_,_,_,m0,rfl,rfl,(by show 8<=sizeLine;decide),(.cons ⟨w0_0,rfl⟩ (.cons ⟨w0_1,rfl⟩ (.cons ⟨w0_2,rfl⟩ (.cons ⟨w0_3,rfl⟩ (.cons ⟨w0_4,rfl⟩ (.cons ⟨w0_5,rfl⟩ (.cons ⟨w0_6,rfl⟩ (.cons ⟨w0_7,rfl⟩ .nil))))))))⟩⟩,⟨q1,MW X G g1,λH=>.inr ⟨_,_,_,m1,rfl,rfl,(by show 3<=sizeLine;decide),(.cons ⟨w1_0,rfl⟩ (.cons ⟨w1_1,rfl⟩ (.cons ⟨w1_2,rfl⟩ .nil)))⟩⟩,⟨q2,MW X G g2,λH=>.inr ⟨_,_,_,m2,rfl,rfl,(by show 3<=sizeLine;decide),(.cons ⟨w2_0,rfl⟩ (.cons ⟨w2_1,rfl⟩ (.cons ⟨w2_2,rfl⟩ .nil)))⟩⟩,⟨q3,MW X G g3,λH=>.inr ⟨_,_,_,m3,rfl,rfl,(by show 3<=sizeLine;decide),(.cons ⟨w3_0,rfl⟩ (.cons ⟨w3_1,rfl⟩ (.cons ⟨w3_2,rfl⟩ .nil)))⟩⟩,⟨_,MW X G g4,⟨_,rfl⟩⟩,⟨_,MW X G g5,⟨_,rfl⟩⟩,⟨_,MW X G g6,⟨_,rfl⟩⟩,⟨_,MW X G g7,⟨_,rfl⟩⟩,⟨_,MW X G g8,⟨_,rfl⟩⟩,⟨q9,MW X G g9,λH=>.inr ⟨_,_,_,m9,rfl,rfl,(by show 3<=sizeLine;decide),(.cons ⟨w9_0,rfl⟩ (.cons ⟨w9_1,rfl⟩ (.cons ⟨w9_2,rfl⟩ .nil)))⟩⟩,⟨q0,_,MW X G g0,m0,rfl⟩,⟨dd0,MW X G dg0,dz0,_,_,_,dl0,⟨rfl,rfl,rfl⟩,rfl,(.cons rfl ⟨dp0_0,rfl,⟨_,_,_,dm0_0,rfl,rfl,(by show 2<=sizeLine;decide),(.cons ⟨dw0_0_0,rfl⟩ (.cons ⟨dw0_0_1,rfl⟩ .nil))⟩⟩ (.cons rfl ⟨dp0_1,rfl,⟨_,_,_,dm0_1,rfl,rfl,(by show 2<=sizeLine;decide),(.cons ⟨dw0_1_0,rfl⟩ (.cons ⟨dw0_1_1,rfl⟩ .nil))⟩⟩ (.cons rfl ⟨dp0_2,rfl,⟨_,_,_,dm0_2,rfl,rfl,(by show 2<=sizeLine;decide),(.cons ⟨dw0_2_0,rfl⟩ (.cons ⟨dw0_2_1,rfl⟩ .nil))⟩⟩ (.cons rfl ⟨dp0_3,rfl,⟨_,_,_,dm0_3,rfl,rfl,(by show 2<=sizeLine;decide),(.cons ⟨dw0_3_0,rfl⟩ (.cons ⟨dw0_3_1,rfl⟩ .nil))⟩⟩ (.cons rfl ⟨dp0_4,rfl,⟨_,_,_,dm0_4,rfl,rfl,(by show 1<=sizeLine;decide),(.cons ⟨dw0_4_0,rfl⟩ .nil)⟩⟩ (.cons rfl ⟨dp0_5,rfl,⟨_,_,_,dm0_5,rfl,rfl,(by show 1<=sizeLine;decide),(.cons ⟨dw0_5_0,rfl⟩ .nil)⟩⟩ (.cons rfl ⟨dp0_6,rfl,⟨_,_,_,dm0_6,rfl,rfl,(by show 1<=sizeLine;decide),(.cons ⟨dw0_6_0,rfl⟩ .nil)⟩⟩ (.cons rfl ⟨dp0_7,rfl,⟨_,_,_,dm0_7,rfl,rfl,(by show 2<=sizeLine;decide),(.cons ⟨dw0_7_0,rfl⟩ (.cons ⟨dw0_7_1,rfl⟩ .nil))⟩⟩ (.cons rfl ⟨dp0_8,rfl,⟨_,_,_,dm0_8,rfl,rfl,(by show 0<=sizeLine;decide),.nil⟩⟩ .nil)))))))))⟩,nA.mk' X G (iK a3 l3 le_by_worth lk_by_worth lw_by_worth),nA.mk' X G (iK a5 l5 le_code_of lk_code_of lw_code_of)⟩
 have F3:HasFn K mg "by_worth" dw ["shelf"]:=dE X G a3 l3 c3 k3 (by walk_at "b1")
 have F5:HasFn K mg "code_of" dn ["lengths"]:=dE X G a5 l5 c5 k5 (by walk_at "b1")
 refine⟨W.fnOf "law" "law" (d4 gW) (bV gW) (ab gW) .none kV51 dc51 pm51 an51 cd51 ct51,λs v=>.of_eq rfl,λbase _ _=>(show gR l.prog w K mg base aS 9 _ _ ["script"] (qg K) from ?_).mono (by decide)⟩
 have dr:=C8 (P:=l.prog) (w:=w) (base:=base) T F35 (FG F34);have ca:=xI (P:=l.prog) (w:=w) (base:=base) T F29 (Aw T F7);have lr:=Ez (P:=l.prog) (w:=w) (base:=base) T F42 dr (wB T F41 dr);have cb:=EI (P:=l.prog) (w:=w) (base:=base) T F0;have cs:=yH T F20 (Ce (P:=l.prog) (w:=w) (base:=base) T F5 cb (wo T F6));have go:=A2 (P:=l.prog) (w:=w) (base:=base) T F8;have th:=v_ (P:=l.prog) (w:=w) (base:=base) T F19;have fg:=Gd (P:=l.prog) (w:=w) (base:=base) T F25;have st:=wb (P:=l.prog) (w:=w) (base:=base) T F16 (FF T F17);have di:=Dz (P:=l.prog) (w:=w) (base:=base) T F15;have pk:=BW T F21 cs (zi T F22 th (rP T F23 fg)) go (wY T F10 (w_ T F11 (wA T F12) (AW T F13 st (B2 T F14 di)))) st (AB T F24 fg) di;have rd:=xV T F26 cs (zm T F28 ca (vH T F30 ca (yV T F31 ca) (wC T F32 ca))) (B9 T F27 go (DC T F9));have lb:=zd (P:=l.prog) (w:=w) (base:=base) T F37;have lc:=AG (P:=l.prog) (w:=w) (base:=base) T F38 lb;have pl:=zF (P:=l.prog) (w:=w) (base:=base) T F45 (w6 F36) lb;have sp:=zS (P:=l.prog) (w:=w) (base:=base) T F46;have ah:=vX (P:=l.prog) (w:=w) (base:=base) T F49;exact E9 T (sP (st:=gW) l51 c51 k51) (BR T F33) (Dl T F43 dr lr) (DA T F40 dr (Ar T F39 dr)) (wN T F18 th (sG T F1 cb (vE T F2 (yL T F3) (yw T F4)))) dr (si T F50 pk rd (wu T F48 lc pl (AX T F44) (AD T F47 sp) sp lb) dr ah) ah pk
theorem walk{l:W.OpenLaw}{q:Program}{loose:List Str}{XP:(Str->Option Value)->Heap->Prop}{YP:World->Heap->Prop}{d:DefRec}{K:Params->W.Frag}(hn:l.most=some 63)(hdf:d.params.defaults=[])
  (hY:∀(w:World) (h:Heap),YP w h->(K w.params).In h)
  (F:∀(w:World) (mg:Str->Option Value) (fa:Addr) (h:Heap),(K w.params).In h->h.Ns mainGlobals mg->mg d.name=some (.ref fa)->∃fd:FuncData,(∀(s:Shared) (u:Value),BindsTo s fd ⟨[u],[]⟩ [("script",u)])/\∀base:Heap,(K w.params).In base->base.Ns mainGlobals mg->gR l.prog w (K w.params) mg base aS 30 fa fd ["script"] (qg (K w.params))) (hL:∀(w:World) (h:Heap),(K w.params).In h->iS q (K w.params)) :
  W.WalkO q loose XP YP l.row.toRowW d [] (λf vs=>PySem.call f vs):=
 L2.Dr (n:=63) (k:=30) (x:="script") (CX:=λ_=>aS) (sp:=λw=>qg (K w.params)) hn (by decide) hdf ⟨rfl,by decide,by decide,rfl⟩ hY F (λ_ _ a ns hl _ hS=>⟨a,ns,rfl,hS,hl,λ_=>rfl⟩) (λ_ _ _ _ _ z=>z) hL
theorem Gv{q:Program}(_:K.In h){la_by_worth lc_by_worth lp_by_worth:Addr}{lo_by_worth lO_by_worth:Value}{ld_by_worth lD_by_worth:Option Addr}{lfd_by_worth:FuncData}{lv_by_worth:Array Value}{ls_by_worth lS_by_worth:Array (Option Value)}{la_code_of lc_code_of lp_code_of:Addr}{lo_code_of lO_code_of:Value}{ld_code_of lD_code_of:Option Addr}{lfd_code_of:FuncData}{lv_code_of:Array Value}{ls_code_of lS_code_of:Array (Option Value)}(nt:W.noTabs K=true)
  (ma_by_worth:W.nsIn K mainGlobals "by_worth"=some (some (.ref la_by_worth))) (ml_by_worth:K.lookup la_by_worth=some ⟨lo_by_worth,ld_by_worth,.func lfd_by_worth,ls_by_worth⟩) (mc_by_worth:lfd_by_worth.code=.ref lc_by_worth) (mk_by_worth:K.lookup lc_by_worth=some ⟨lO_by_worth,lD_by_worth,.fields lv_by_worth,lS_by_worth⟩) (mw_by_worth:lv_by_worth[11]?=some (.ref lp_by_worth)) (mr_by_worth:((recsOf q).find? (λe=>e.name ==("by_worth":Str))).isSome=true)
  (ma_by_weight:W.nsIn K mainGlobals "by_weight"=some none)
  (ma_code_of:W.nsIn K mainGlobals "code_of"=some (some (.ref la_code_of))) (ml_code_of:K.lookup la_code_of=some ⟨lo_code_of,ld_code_of,.func lfd_code_of,ls_code_of⟩) (mc_code_of:lfd_code_of.code=.ref lc_code_of) (mk_code_of:K.lookup lc_code_of=some ⟨lO_code_of,lD_code_of,.fields lv_code_of,lS_code_of⟩) (mw_code_of:lv_code_of[11]?=some (.ref lp_code_of)) (mr_code_of:((recsOf q).find? (λe=>e.name ==("code_of":Str))).isSome=true)
  (mn:[lp_by_worth,lp_code_of].Nodup)
  : iS q K:=iS.of nt (iK ma_by_worth ml_by_worth mc_by_worth mk_by_worth mw_by_worth) (sJ ma_by_weight) (iK ma_code_of ml_code_of mc_code_of mk_code_of mw_code_of) (by first|exact mn|simp) (.inr mr_by_worth) (.inl rfl) (.inr mr_code_of)
end
end G
open PySem PySem.W PyProof.Rows
local macro_rules | `(tactic| walk_at "b0") => `(tactic| (intro _ _ _ _ _ _ us hl; match us, hl with | [], _ => rfl))
local macro_rules | `(tactic| walk_at "b1") => `(tactic| (intro _ _ _ _ _ _ us hl; obtain ⟨_, e⟩ := L2.Y.G8 hl; subst e; rfl))
local macro_rules | `(tactic| walk_at "b2") => `(tactic| (intro _ _ _ _ _ _ us hl; obtain ⟨_, _, e⟩ := L2.Y.IB hl; subst e; rfl))
local macro_rules | `(tactic| walk_at "b3") => `(tactic| (intro _ _ _ _ _ _ us hl; obtain ⟨_, _, _, e⟩ := L2.Y.oK hl; subst e; rfl))
local macro_rules | `(tactic| walk_at "b4") => `(tactic| (intro _ _ _ _ _ _ us hl; obtain ⟨_, _, _, _, e⟩ := L2.Y.JD hl; subst e; rfl))
set_option maxRecDepth 100000 in
set_option maxHeartbeats 0 in
theorem PySem.Challenge.cw_shortrows_k33_whole_packed_and_back_holds : PySem.Challenge.rw_shortrows_k33_whole_packed_and_back.Holds := by
 w_on;o_law;k_head;(case hw=>w_witness2)
 k_fill
 refine G.walk (l:=PySem.Challenge.rw_shortrows_k33_whole_packed_and_back) rfl rfl (λw h Y=>by first|exact W.kIn_of Y|exact W.km_in_of Y) ?F ?L
 case F =>
  intro w mg fa h KX GN hmg
  refine' G.all_mk KX GN hmg (G.dE KX GN ?a0 ?l0 ?c0 ?k0 (by walk_at "b1")) (G.dE KX GN ?a1 ?l1 ?c1 ?k1 (by walk_at "b2")) (G.dE KX GN ?a2 ?l2 ?c2 ?k2 (by walk_at "b2")) ?a3 ?l3 ?c3 ?k3 (G.dE KX GN ?a4 ?l4 ?c4 ?k4 (by walk_at "b1")) ?a5 ?l5 ?c5 ?k5 (G.dE KX GN ?a6 ?l6 ?c6 ?k6 (by walk_at "b2")) (G.dE KX GN ?a7 ?l7 ?c7 ?k7 (by walk_at "b3")) (G.dE KX GN ?a8 ?l8 ?c8 ?k8 (by walk_at "b1")) (G.dE KX GN ?a9 ?l9 ?c9 ?k9 (by walk_at "b2")) (G.dE KX GN ?a10 ?l10 ?c10 ?k10 (by walk_at "b2")) (G.dE KX GN ?a11 ?l11 ?c11 ?k11 (by walk_at "b2")) (G.dE KX GN ?a12 ?l12 ?c12 ?k12 (by walk_at "b1")) (G.dE KX GN ?a13 ?l13 ?c13 ?k13 (by walk_at "b3")) (G.dE KX GN ?a14 ?l14 ?c14 ?k14 (by walk_at "b4")) (G.dE KX GN ?a15 ?l15 ?c15 ?k15 (by walk_at "b3")) (G.dE KX GN ?a16 ?l16 ?c16 ?k16 (by walk_at "b2")) (G.dE KX GN ?a17 ?l17 ?c17 ?k17 (by walk_at "b1")) (G.dE KX GN ?a18 ?l18 ?c18 ?k18 (by walk_at "b2")) (G.dE KX GN ?a19 ?l19 ?c19 ?k19 (by walk_at "b1")) (G.dE KX GN ?a20 ?l20 ?c20 ?k20 (by walk_at "b1")) (G.dE KX GN ?a21 ?l21 ?c21 ?k21 (by walk_at "b2")) (G.dE KX GN ?a22 ?l22 ?c22 ?k22 (by walk_at "b2")) (G.dE KX GN ?a23 ?l23 ?c23 ?k23 (by walk_at "b1")) (G.dE KX GN ?a24 ?l24 ?c24 ?k24 (by walk_at "b2")) (G.dE KX GN ?a25 ?l25 ?c25 ?k25 (by walk_at "b2")) (G.dE KX GN ?a26 ?l26 ?c26 ?k26 (by walk_at "b2")) (G.dE KX GN ?a27 ?l27 ?c27 ?k27 (by walk_at "b3")) (G.dE KX GN ?a28 ?l28 ?c28 ?k28 (by walk_at "b3")) (G.dE KX GN ?a29 ?l29 ?c29 ?k29 (by walk_at "b3")) (G.dE KX GN ?a30 ?l30 ?c30 ?k30 (by walk_at "b4")) (G.dE KX GN ?a31 ?l31 ?c31 ?k31 (by walk_at "b3")) (G.dE KX GN ?a32 ?l32 ?c32 ?k32 (by walk_at "b2")) (G.dE KX GN ?a33 ?l33 ?c33 ?k33 (by walk_at "b1")) (G.dE KX GN ?a34 ?l34 ?c34 ?k34 (by walk_at "b2")) (G.dE KX GN ?a35 ?l35 ?c35 ?k35 (by walk_at "b2")) (G.dE KX GN ?a36 ?l36 ?c36 ?k36 (by walk_at "b0")) (G.dE KX GN ?a37 ?l37 ?c37 ?k37 (by walk_at "b2")) (G.dE KX GN ?a38 ?l38 ?c38 ?k38 (by walk_at "b1")) (G.dE KX GN ?a39 ?l39 ?c39 ?k39 (by walk_at "b2")) (G.dE KX GN ?a40 ?l40 ?c40 ?k40 (by walk_at "b1")) (G.dE KX GN ?a41 ?l41 ?c41 ?k41 (by walk_at "b1")) (G.dE KX GN ?a42 ?l42 ?c42 ?k42 (by walk_at "b2")) (G.dE KX GN ?a43 ?l43 ?c43 ?k43 (by walk_at "b2")) (G.dE KX GN ?a44 ?l44 ?c44 ?k44 (by walk_at "b1")) (G.dE KX GN ?a45 ?l45 ?c45 ?k45 (by walk_at "b2")) (G.dE KX GN ?a46 ?l46 ?c46 ?k46 (by walk_at "b3")) (G.dE KX GN ?a47 ?l47 ?c47 ?k47 (by walk_at "b3")) (G.dE KX GN ?a48 ?l48 ?c48 ?k48 (by walk_at "b3")) (G.dE KX GN ?a49 ?l49 ?c49 ?k49 (by walk_at "b2")) (G.dE KX GN ?a50 ?l50 ?c50 ?k50 (by walk_at "b3")) ?a51 ?l51 ?c51 ?k51 ?z0 ?z1 ?z2 ?z3 ?z4 ?z5 ?z6 ?z7 ?z8 ?z9 ?z10 ?z11 ?z12 ?z13 ?gq0 ?mq0 ?gq1 ?mq1 ?gq2 ?mq2 ?gq3 ?mq3 ?gq4 ?gq5 ?gq6 ?gq7 ?gq8 ?gq9 ?mq9 ?dg0 ?dz0 ?dl0 ?dm0_0 ?dm0_1 ?dm0_2 ?dm0_3 ?dm0_4 ?dm0_5 ?dm0_6 ?dm0_7 ?dm0_8 ?le_by_worth ?lk_by_worth ?lw_by_worth ?le_code_of ?lk_code_of ?lw_code_of
  (case a0|l0|c0|k0|a1|l1|c1|k1|a2|l2|c2|k2|a3|l3|c3|k3|a4|l4|c4|k4|a5|l5|c5|k5|a6|l6|c6|k6|a7|l7|c7|k7|a8|l8|c8|k8|a9|l9|c9|k9|a10|l10|c10|k10|a11|l11|c11|k11|a12|l12|c12|k12|a13|l13|c13|k13|a14|l14|c14|k14|a15|l15|c15|k15|a16|l16|c16|k16|a17|l17|c17|k17|a18|l18|c18|k18|a19|l19|c19|k19|a20|l20|c20|k20|a21|l21|c21|k21|a22|l22|c22|k22|a23|l23|c23|k23|a24|l24|c24|k24|a25|l25|c25|k25|a26|l26|c26|k26|a27|l27|c27|k27|a28|l28|c28|k28|a29|l29|c29|k29|a30|l30|c30|k30|a31|l31|c31|k31|a32|l32|c32|k32|a33|l33|c33|k33|a34|l34|c34|k34|a35|l35|c35|k35|a36|l36|c36|k36|a37|l37|c37|k37|a38|l38|c38|k38|a39|l39|c39|k39|a40|l40|c40|k40|a41|l41|c41|k41|a42|l42|c42|k42|a43|l43|c43|k43|a44|l44|c44|k44|a45|l45|c45|k45|a46|l46|c46|k46|a47|l47|c47|k47|a48|l48|c48|k48|a49|l49|c49|k49|a50|l50|c50|k50|a51|l51|c51|k51|z0|z1|z2|z3|z4|z5|z6|z7|z8|z9|z10|z11|z12|z13|gq0|mq0|gq1|mq1|gq2|mq2|gq3|mq3|gq4|gq5|gq6|gq7|gq8|gq9|mq9|dg0|dl0|dm0_0|dm0_1|dm0_2|dm0_3|dm0_4|dm0_5|dm0_6|dm0_7|dm0_8=>k_is)
  (case dz0=>rfl)
  (case le_by_worth=>exact rfl)
  (case lk_by_worth=>k_is)
  (case lw_by_worth=>exact rfl)
  (case le_code_of=>exact rfl)
  (case lk_code_of=>k_is)
  (case lw_code_of=>exact rfl)
 case L =>
  intro w h KX
  refine' G.Gv KX (by kernel_rfl) ?ma_by_worth ?ml_by_worth ?mc_by_worth ?mk_by_worth ?mw_by_worth ?mr_by_worth ?ma_by_weight ?ma_code_of ?ml_code_of ?mc_code_of ?mk_code_of ?mw_code_of ?mr_code_of ?mn
  (case ma_by_worth|ml_by_worth=>k_is)
  (case mc_by_worth=>exact rfl)
  (case mk_by_worth=>k_is)
  (case mw_by_worth=>exact rfl)
  (case mr_by_worth=>exact rfl)
  (case ma_by_weight|ma_code_of|ml_code_of=>k_is)
  (case mc_code_of=>exact rfl)
  (case mk_code_of=>k_is)
  (case mw_code_of=>exact rfl)
  (case mr_code_of=>exact rfl)
  (case mn=>decide)
end
