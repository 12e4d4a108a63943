import PyProof.Rows.All
import Wide.All
import OpenK.AllK
import Wide.FinOn
import Lean
import PyProof.EqAt
import PyProof.EqKinds
import PyProof.TupleCall
import KE.KSortKey
import KE.KLam
import PySem.Challenge.RW_shortrows_k27_pack_rows
namespace PySem.W.Fast
def tw7499034526097147504:=0
def tw545331355537274119:=0
def tw17761729878803602152:=0
def tw6232138383990625373:=0
def tw9035991825746197598:=0
def tw17560349874388834482:=0
def tw12409331721889673587:=0
def tw6799733335700131517:=0
def tw18373958594321404258:=0
def tw10635431044466752288:=0
def tw6175671421807434713:=0
def tw9104874486534932312:=0
def tw14307951371430609493:=0
def tw7615254742038026062:=0
def tw699282329656130048:=0
def tw14074728731648961242:=0
def tw6611720906924934166:=0
def tw13155578965061294473:=0
def tw9617883217599876063:=0
def tw9991824158262692120:=0
def tw13615202287620053015:=0
def tw551079541806596177:=0
def tw4996196617193116716:=0
def tw116689634212746865:=0
def tw4612958903995342139:=0
def tw16111669447222787342:=0
def tw7585159700085892373:=0
def tw3145926075392972063:=0
def tw10002287808767286810:=0
def tw1632191371746062668:=0
def tw16160474802674879457:=0
def tw9346462425636806230:=0
def tw4717622794852289823:=0
def tw18106224817924687488:=0
def tw5563164241241593477:=0
def tw527037248745300744:=0
def tw12774121420271547660:=0
def tw9009700104515126803:=0
def tw2975978730399491386:=0
def tw7709806809035425723:=0
def tw7188543407017627197:=0
def tw5195119963070965406:=0
def tw5514924369675707176:=0
def tw14736829955240789771:=0
def tw8196372859586987127:=0
def tw13548358918229865158:=0
def tw14234437165808224096:=0
def tw12283076782228213257:=0
def tw9131809599111408668:=0
def tw1711748375885062099:=0
def tw4333467281857268127:=0
def tw16381045599396145765:=0
def tw12381919175296938562:=0
def tw11539558621158701091:=0
def tw1893976658628293790:=0
def tw10668408535087273842:=0
def tw6273176635241915512:=0
def tw14843098195588713050:=0
def tw4522659911305872901:=0
def tw3830078258818502341:=0
def tw11471304760470969796:=0
def tw18132728147254299675:=0
def tw1648784439330206190:=0
def tw10449825841481295344:=0
def tw14762283122385808152:=0
def tw2929192520523929536:=0
def tw11322562403722950038:=0
def tw9852749701551462881:=0
def tw968030795244752599:=0
def tw4019005428170248885:=0
def tw6224573886845865332:=0
def tw16520686705214870618:=0
def tw18379006644637460159:=0
def tw7690415363317490320:=0
def tw14834361156007904327:=0
def tw15218858938439912564:=0
def tw12615179860123260206:=0
def tw15458790917029224562:=0
def tw15582965062457787166:=0
def tw16264546788275043862:=0
def tw2027308600915518915:=0
def tw12053962126702803700:=0
def tw4726971538647138438:=0
def tw13648808179797174005:=0
def tw3057611381723335203:=0
def tw8062043621075917052:=0
def tw3267749715857294597:=0
def tw4115479221059319767:=0
def tw4972412683768808685:=0
def tw9171452274902451859:=0
def tw16632934234161813801:=0
def tw17479657979802024435:=0
def tw5149017906354100415:=0
def tw7028773759743757962:=0
def tw16696565267628684046:=0
def tw4645569823516037048:=0
def tw8965734105494378335:=0
def tw16330559652173946918:=0
def tw1913500168273710701:=0
def tw1275725294843141818:=0
def tw3031211873321119709:=0
def tw5658647709198336438:=0
def tw14507618927587363073:=0
def tw11443141178535086602:=0
def tw3021576626865902719:=0
def tw13887461176516132677:=0
def tw11935756762140364017:=0
def tw10829996357161999036:=0
def tw3991574211772955912:=0
def tw820221777263783945:=0
def tw6757249622609224648:=0
def tw11800977613309934299:=0
def tw12276294642412339077:=0
def tw4586244874502362344:=0
def tw1990077025858712238:=0
def tw12904192598086784722:=0
def tw2829991161360280314:=0
def tw14261368517881443515:=0
def tw6785924969351255618:=0
def tw2472145385286487365:=0
def tw15009855270083135067:=0
def tw8975969345020995045:=0
def tw8884107696380971246:=0
def tw15170961345329444969:=0
def tw3868245009979341226:=0
def tw3396759994932261241:=0
def tw4746120793468601055:=0
def tw4256131692484247791:=0
def tw2757298508951451079:=0
def tw18009338752294000881:=0
def tw3070752315472747097:=0
def tw17087594412666514878:=0
def tw10035032847869890285:=0
def tw12009439182591327337:=0
def tw14946362702006924399:=0
def tw17389098688746258186:=0
def tw5681464075773311162:=0
def tw8390611685975247215:=0
def tw4992146373680117981:=0
def tw2048867835316347826:=0
def tw17871367597874661996:=0
def tw6152251861783211040:=0
def tw7715377549882337919:=0
end PySem.W.Fast
set_option Elab.async false
set_option linter.all false
set_option maxRecDepth 100000
set_option maxHeartbeats 4000000
noncomputable section
set_option compiler.extract_closed false
theorem ℜz0(_:True:=by rfl):True:=⟨⟩
def ℜ0:Lean.Syntax:=ℜz0._auto_1
theorem ℜz1(_:True:=by decide):True:=⟨⟩
def ℜ1:Lean.Syntax:=ℜz1._auto_1
theorem ℜz2(_:True:=by first|exact .inl rfl|exact .inr rfl|assumption):True:=⟨⟩
def ℜ2:Lean.Syntax:=ℜz2._auto_1
theorem ℜz3(_:True:=by intro _;rfl):True:=⟨⟩
def ℜ3:Lean.Syntax:=ℜz3._auto_1
theorem ℜz4(_:True:=by first|exact Or.inl rfl|exact Or.inr (Or.inl rfl)|exact Or.inr (Or.inr rfl)):True:=⟨⟩
def ℜ4:Lean.Syntax:=ℜz4._auto_1
theorem ℜz5(_:True:=by with_unfolding_all rfl):True:=⟨⟩
def ℜ5:Lean.Syntax:=ℜz5._auto_1
theorem ℜz6(_:True:=by decide +kernel):True:=⟨⟩
def ℜ6:Lean.Syntax:=ℜz6._auto_1
namespace L2
open PySem PySem.Spec PyProof.Rows
variable{us:List Value}{x:Str}{u:Value}{a b:Addr}{o:Obj}{base h:Heap}{items:Array Value}{P:Program}{w:World}{g':Array GenState}{ch fp:List Addr}{c e tg:Expr}{N:List Str}{i j k:Nat}{M:Model}{A:Around}{E Q:Value->Shared->Prop}{s s':Shared}{pins:List (Addr×Obj)}{f:Value->Value->Sem Value}{es:List Expr}{body:List Stmt}{mA mg:Str->Option Value}{fd:FuncData}{kindOf:Str->Option NameKind}{scope:Scope}
def Jp:=@PySem.wpAny_bind
def Jq:=@List.getElem?_eq_getElem
def Jr:=@PySem.Heap.get?_push_of_some
def Js:=@List.length_map
def Jt:=@List.length_append
def Ju:=@if_neg
def Jv:=@List.size_toArray
def Jw:=@Bool.false_ne_true
def Jx:=@PySem.wpAny_pure
def Jy:=@if_pos
def Jz:=@List.getElem?_eq_some_iff
def J5:=@List.mem_cons
def J6:=@Nat.le_refl
def J7:=@List.length_cons
def J8:=@List.mem_cons_of_mem
def J9:=@List.getElem?_map
def JA:=@PySem.Heap.lt_size
def JC:=@PySem.Heap.get?_push_size
def JD:=@Nat.le_trans
def JE:=@List.mem_singleton
def JF:=@List.length_replicate
def JG:=@List.mem_cons_self
def JH:=@List.map_append
def JI:=@List.getD_eq_getElem?_getD
def JJ:=@Nat.lt_of_le_of_lt
def JK:=@List.append_nil
def JL:=@decide_eq_false
def JM:=@List.getElem?_eq_none_iff
def JN:=@List.length_range
def JO:=@Nat.lt_of_lt_of_le
def JP:=@Nat.ne_of_lt
def JQ:=@List.mem_append_right
def JR:=@PySem.PassesOwn.never
def JS:=@congrArg
def JT:=@Array.getElem?_toList
def JU:=@List.append_assoc
def JV:=@Int.toNat_natCast
def JW:=@Nat.lt_of_succ_lt
def JX:=@List.mem_map
def JY:=@List.getElem_mem
def JZ:=@Array.length_toList
def J_:=@List.length_singleton
def Ka:=@List.replicate_succ
def Kb:=@List.getElem?_set_self
def Kc:=@List.map_cons
def Kd:=@Array.getElem?_eq_some_iff
def Ke:=@List.length_nil
def Kf:=@PySem.wpAny_holding
def Kg:=@List.getElem?_set_ne
def Kh:=@Nat.zero_le
def Ki:=@List.nodup_cons
def Kj:=@decide_eq_true
def Kk:=@beq_eq_false_iff_ne
def Kl:=@Bool.and_eq_true
def Km:=@List.mem_of_getElem?
def Kn:=@List.pairwise_cons
def Ko:=@List.length_set
def Kq:=@beq_self_eq_true
def Ks:=@Nat.lt_or_ge
def Kt:=@List.not_mem_nil
def Ku:=@PySem.wpAny_callSpecial?_slot
def Kv:=@List.all_cons
def Kw:=@PySem.wpAny_mono
def Kx:=@List.all_eq_true
def Ky:=@PySem.wpAny_call_entry
def Kz:=@PySem.wpAny_field
def K0:=@List.map_eq_nil_iff
def K1:=@List.flatten_cons
def K2:=@PySem.wpAny_newObj_type
def K3:=@List.getElem?_toArray
def K4:=@List.mem_append
def K5:=@List.length_take
def K6:=@List.range'_succ
def K7:=@List.pairwise_append
def K8:=@Bool.false_eq_true
def K9:=@List.lookup_cons
def KA:=@List.ext_getElem?
def KC:=@PyProof.Rows.callWith_type1
def KD:=@PySem.Heap.SameBut.update
def KG:=@List.getElem?_range
def KH:=@List.getElem?_append_right
def KI:=@PySem.call_meets
def KJ:=@List.getElem?_drop
def KL:=@PySem.wpAny_pyIter_tuple
def KN:=@List.length_range'
def KO:=@PyProof.Rows.slot_tuple_getitem
def KP:=@PySem.sizeLine_eq
def KQ:=@Nat.min_self
def KR:=@List.map_map
def KU:=@Nat.lt_irrefl
def KW:=@PySem.wpAny_typeNameOfWhole_keyiter
def KY:=@if_false
def KZ:=@PySem.wpAny_seqItems
def K_:=@Nat.le_of_lt
def Ld:=@PySem.wpAny_Call_Name_kw
def Le:=@PySem.wpAny_setField_rec
def Lf:=@List.mem_replicate
def Lg:=@PySem.wpAny_passesOwn
def Lh:=@if_true
def Li:=@List.nil_append
def Lj:=@List.range_succ
def Lk:=@List.take_append_drop
def Ll:=@PySem.F.slot_tuple_iterator_next
def Lm:=@PySem.wpAny_pyIter_list
def Ln:=@of_decide_eq_true
def Lo:=@List.flatMap_cons
def Lp:=@List.getElem?_append_left
def Lq:=@PySem.wpAny_binaryOp_repeat_ref
def Lr:=@List.drop_eq_getElem_cons
def Ls:=@Nat.pow_le_pow_right
def Lu:=@List.range_eq_range'
def Lv:=@Nat.le_succ
def Lw:=@PySem.Heap.size_push
def Lx:=@Nat.ne_of_gt
def Ly:=@or_false
def Lz:=@List.set_eq_of_length_le
def L0:=@Nat.zero_add
def L1:=@List.cons_append
def L3:=@PySem.wpAny_typeNameOf_keyiter
def L4:=@List.map_congr_left
def L5:=@List.length_reverse
def L6:=@List.flatten_append
def L7:=@List.eraseIdx_eq_take_drop_succ
def L8:=@List.getElem?_replicate
def L9:=@PySem.wpAny_getItem_str_slice
def LA:=@PySem.typeIs_int
def LC:=@PySem.Obj.data_mapFields
def LD:=@List.getElem?_take
def LF:=@PySem.Heap.get?_update_other
def LG:=@Nat.lt_succ_of_lt
def LH:=@List.mem_range
def LI:=@PySem.Heap.get?_update_self
def LJ:=@List.drop_zero
def LK:=@List.length_drop
def LL:=@List.getElem?_append
def LM:=@Array.toArray_toList
def LN:=@PySem.wpAny_newList
def LO:=@Array.toList_append
def LP:=@List.forIn_cons
def LQ:=@PyProof.Rows.get?_update_seq
def LR:=@PySem.W.KasT.kasWp_bind
def LS:=@List.mem_or_eq_of_mem_set
def LU:=@List.mem_filterMap
def LV:=@Nat.succ_mul
def LW:=@PySem.AutoSeq1.wpAny_loadPart'
def LX:=@Int.natAbs_natCast
def LY:=@PySem.wpAny_setField
def LZ:=@decide_eq_false_iff_not
def L_:=@PySem.wpAny_truthy_bool
def Ma:=@PySem.wpAny_pyIter_enum
def Mb:=@List.getElem?_set
def Mc:=@PySem.wpAny_dictEntries
def Md:=@List.pairwise_map
def Me:=@List.take_of_length_le
def Mf:=@PySem.wpAny_standAt
def Mg:=@PyProof.Rows.listUpdate_at
def Mh:=@Bool.and_true
def Mi:=@Nat.mul_assoc
def Mj:=@decide_eq_decide
def Mk:=@Nat.le_add_right
def Ml:=@List.mem_reverse
def Mm:=@List.perm_middle
def Mn:=@List.ext_getElem
def Mo:=@PySem.Obj.isFreed_of_fields
def Mp:=@List.pairwise_reverse
def Mq:=@PySem.wpAny_isOneOf_keyiter
def Mr:=@List.dropLast_eq_take
def Ms:=@List.mem_append_left
def Mt:=@PySem.wpAny_execs_nil
def Mw:=@Bool.eq_iff_iff
def Mx:=@PySem.wpAny_loadPart'
def My:=@PySem.wpAny_updateSeq_pair
def Mz:=@PySem.codeAny_builtin
def M0:=@PyProof.Rows.listItems_at
def M1:=@Nat.sub_zero
def M4:=@PySem.post_val_or_str
def M5:=@Nat.sub_self
def M6:=@List.reverse_reverse
def M7:=@List.length_dropLast
def M8:=@List.filterMap_cons
def M9:=@List.dropWhile_cons
def MA:=@List.reverse_append
def MB:=@List.toList_toArray
def MC:=@PySem.F.args_tuple_iterator_next_1
def MD:=@PySem.wpAny_fieldsOf
def ME:=@Int.le_refl
def MF:=@Array.append_empty
def MG:=@PySem.F.entry_tuple_iterator_next
def MH:=@PySem.SeqAt.EqAt.of_refs
def MI:=@Array.getD_eq_getD_getElem?
def MJ:=@List.getElem_range
def MK:=@Nat.add_sub_cancel
def ML:=@PySem.Calls.Name_function_global
def MM:=@List.any_cons
def MN:=@PySem.wpAny_letOwnedTupleGo_enum
def MO:=@PySem.wpAny_onRaise
def MP:=@PySem.wpAny_attempt
def MQ:=@PySem.SeqAt.RcNeAt.lists_lengths
def MR:=@Array.getElem?_eq_none_iff
def MS:=@List.map_take
def MT:=@List.map_drop
def MU:=@Array.size_append
def MV:=@bne_self_eq_false
def MW:=@PySem.wpAny_rule
def MX:=@bne_iff_ne
def MY:=@PySem.Calls.call_function_entry
def MZ:=@List.exists_mem_of_ne_nil
def M_:=@Nat.not_lt
def Na:=@Array.getElem?_eq_getElem
def Nb:=@Option.isNone_iff_eq_none
def Nc:=@PySem.wpAny_eqBool_int
def Nd:=@PySem.wpAny_eqBool_str
def Nf:=@PySem.codeAny_mono
def Ng:=@Option.isSome_iff_exists
def Nh:=@PySem.wpAny_comprehension_free
def Ni:=@Nat.lt_succ_self
def Nj:=@PySem.Heap.size_update
def Nk:=@List.take_length
def Nl:=@List.flatten_nil
def Nm:=@List.Pairwise.imp_of_mem
def Nn:=@List.map_snd_zip
def Np:=@List.getElem_map
def Nq:=@List.Perm.eq_of_pairwise
def Nr:=@List.map_set
def Nt:=@PySem.wpAny_pyNext_enum_itemD
def Nu:=@PySem.SeqAt.eq_list_lengthsAt
def Nv:=@List.getElem?_cons_succ
def Nx:=@List.length_eq_zero_iff
def Ny:=@List.mem_filter
def Nz:=@List.of_mem_zip
def N1:=@Nat.not_lt_zero
def N3:=@List.length_zip
def N4:=@PySem.wpAny_dictEpoch
def N5:=@PySem.wpAny_pyNext_list_item
def N7:=@PySem.Calls.callWith_builtin
def N8:=@PySem.wpAny_pyNext_enum_endD
def N9:=@Nat.log2_lt
def NA:=@List.length_eq_one_iff
def NB:=@List.pairwise_lt_range
def NC:=@Int.le_ediv_iff_mul_le
def ND:=@Array.getElem?_eq_none
def NF:=@Int.sub_mul
def NG:=@Nat.pow_add
def NH:=@List.dropWhile_sublist
def NI:=@List.filter_eq_nil_iff
def NJ:=@List.getElem_cons_drop
def NK:=@Bool.false_and
def NM:=@PySem.fitsIndex_both
def NN:=@List.nodup_nil
def NO:=@PySem.wpAny_newTuple
def NQ:=@Bool.and_false
def NR:=@List.eq_nil_or_concat
def NS:=@List.mem_iff_getElem?
def NT:=@List.countP_mono_left
def NU:=@Nat.sub_le
def NW:=@Nat.add_assoc
def NY:=@PySem.seqIndex_neg
def NZ:=@Nat.le_of_eq
def N_:=@PySem.wpAny_typeOf
def Oa:=@Nat.add_zero
def Oe:=@Nat.lt_trans
def Of:=@Nat.pow_succ
def Og:=@Int.zero_add
def Oh:=@Nat.mul_zero
abbrev Oi:=PySem.W.Frag
variable{K:Oi}
abbrev Key:=Sum Int Str
noncomputable def A0:Key->Value->Bool
 |.inl k,v=>Value.isInt k v
 |.inr x,v=>Value.isStrOf x v
noncomputable def Ib(w:World):Key->Int
 |.inl k=>hashInt k
 |.inr x=>hashStr w x
theorem bX:∀{k:Key} {v:Value},A0 k v=true->(∃ i t,k=Sum.inl i/\v=Value.int i t)\/(∃ x t,k=Sum.inr x/\v=Value.str x t)
 |.inl i,v,h=>by
  obtain⟨t,e⟩:=Value.isInt_shape (k:=i) (v:=v) h;exact .inl ⟨i,t,rfl,e⟩
 |.inr x,v,h=>by
  obtain⟨t,e⟩:=Value.isStrOf_shape (x:=x) (v:=v) h;exact .inr ⟨x,t,rfl,e⟩
theorem Dh(a b:Int):decide ((Sum.inl a:Key)=Sum.inl b)=(a == b):=by
 by_cases e:a=b
 ·subst e;simp
 ·have h:¬ (Sum.inl a:Key)=Sum.inl b:=fun q=>e (Sum.inl.inj q);rw[JL h];exact (Kk.mpr e).symm
theorem Bu(a b:Str):decide ((Sum.inr a:Key)=Sum.inr b)=decide (a=b):=by
 by_cases e:a=b
 ·subst e;simp
 ·have h:¬ (Sum.inr a:Key)=Sum.inr b:=fun q=>e (Sum.inr.inj q);rw[JL h,JL e]
theorem BU(a:Int)(b:Str):decide ((Sum.inl a:Key)=Sum.inr b)=false:=JL (fun q=>nomatch q)
theorem Dy(a:Str)(b:Int):decide ((Sum.inr a:Key)=Sum.inl b)=false:=JL (fun q=>nomatch q)
noncomputable def mR(prog:Program)(w:World):PySem.KeyKind prog w Key where
 is:=A0
 hash:=Ib w
 inj:=fun v a b ha hb=>by
  rcases bX ha with ⟨i,t,rfl,rfl⟩|⟨x,t,rfl,rfl⟩
  ·rcases bX hb with ⟨j,u,rfl,e⟩|⟨y,u,rfl,e⟩
   ·injection e with e1 _;rw[e1]
   ·exact nomatch e
  ·rcases bX hb with ⟨j,u,rfl,e⟩|⟨y,u,rfl,e⟩
   ·exact nomatch e
   ·injection e with e1 _;rw[e1]
 byValue:=fun k v h=>by
  rcases bX h with ⟨i,t,rfl,rfl⟩|⟨x,t,rfl,rfl⟩<;>rfl
 pyHash:=fun hv h=>by
  rcases bX hv with ⟨i,t,rfl,rfl⟩|⟨x,t,rfl,rfl⟩
  ·exact wpAny_pyHash_int h
  ·exact wpAny_pyHash_str h
 eqBool:=fun hu hv h=>by
  rcases bX hu with ⟨i,t,rfl,rfl⟩|⟨x,t,rfl,rfl⟩
  ·rcases bX hv with ⟨j,u,rfl,rfl⟩|⟨y,u,rfl,rfl⟩
   ·rw[Dh] at h;exact Nc h
   ·rw[BU] at h;exact SeqAt.EqAt.int_str i t y u _ _ _ _ h
  ·rcases bX hv with ⟨j,u,rfl,rfl⟩|⟨y,u,rfl,rfl⟩
   ·rw[Dy] at h;exact SeqAt.EqAt.str_int x t j u _ _ _ _ h
   ·rw[Bu] at h;exact Nd h
 «strs»:=fun k x t v h=>by
  rcases bX h with ⟨i,u,rfl,e⟩|⟨y,u,rfl,e⟩
  ·exact nomatch e
  ·injection e with e1 _
   subst e1
   cases v<;>rfl
inductive V where
 |aJ|bl (b:Bool)|int (i:Int)|str (x:Str)|sU (b:Array UInt8)|DQ (b:UInt64)|ref (a:Addr)|ty (n:String)
 deriving DecidableEq
variable{vs xs:List V}
noncomputable def RelV:V->Value->Prop
 |.aJ,u=>u=Value.none
 |.bl b,u=>u=Value.bool b
 |.int i,u=>∃ t,u=Value.int i t
 |.str x,u=>∃ t,u=Value.str x t
 |.sU b,u=>∃ t,u=Value.bytes b t
 |.DQ b,u=>∃ t,u=Value.float b t
 |.ref a,u=>u=Value.ref a
 |.ty n,u=>u=Value.type n
abbrev Vals:List V->List Value->Prop:=Paired RelV
theorem Vals.length(r:Vals xs us):xs.length=us.length:=Paired.length r
theorem Vals.get:∀{xs:List V} {us:List Value} {i:Nat} {x:V},Vals xs us->xs[i]?=some x->∃ u,us[i]?=some u/\RelV x u
 |_,_,_,_,.nil,e=>by simp at e
 |_,_,0,_,.cons r _,e=>by simp at e;subst e;exact⟨_,rfl,r⟩
 |_,_,i+1,x,.cons _ t,e=>by
  obtain⟨u,h1,h2⟩:=Vals.get (i:=i) (x:=x) t (by simpa using e)
  exact⟨u,by simpa using h1,h2⟩
theorem Vals.set{x:V}(r:RelV x u):∀{xs:List V} {us:List Value} (i:Nat),Vals xs us->Vals (xs.set i x) (us.set i u)
 |_,_,_,.nil=>.nil
 |_,_,0,.cons _ t=>.cons r t
 |_,_,i+1,.cons q t=>.cons q (Vals.set r i t)
theorem Vals.append:∀{xs ys:List V} {us ws:List Value},Vals xs us->Vals ys ws->Vals (xs++ys) (us++ws)
 |_,_,_,_,.nil,s=>s
 |_,_,_,_,.cons r t,s=>.cons r (Vals.append t s)
theorem Vals.take:∀{xs:List V} {us:List Value} (n:Nat),Vals xs us->Vals (xs.take n) (us.take n)
 |_,_,0,_=>.nil
 |_,_,_+1,.nil=>.nil
 |_,_,n+1,.cons r t=>.cons r (Vals.take n t)
theorem Vals.drop:∀{xs:List V} {us:List Value} (n:Nat),Vals xs us->Vals (xs.drop n) (us.drop n)
 |_,_,0,r=>r
 |_,_,_+1,.nil=>.nil
 |_,_,n+1,.cons _ t=>Vals.drop n t
noncomputable def Dd:Option V->Option Value->Prop
 |some v,some u=>RelV v u
 |none,none=>True
 |_,_=>False
noncomputable def KV{κ:Type}:List (κ×V)->List (κ×Value)->Prop:=Paired fun (p:κ×V) (q:κ×Value)=>p.1=q.1/\RelV p.2 q.2
noncomputable def kV:Key->V
 |.inl i=>.int i
 |.inr x=>.str x
inductive HO where
 |lst (xs:List V)
 |tup (xs:List V)
 |dK (kvs:List (Key×V))|dT (kvs:List (List Key×V))
 |set (S:Int->Bool) (n:Nat)
 |ins (C dx:Addr) (fs:List (Str×V))
 |own (x:Addr)
 |xd (fs:List (Str×V))
 |met (f x:Addr)
 |fh (lo hi:Int)
 |hV (o:Obj) (u:HO)
 |uq (ps:Array Value)
 |ext (φ:Heap->Prop)
abbrev Hp:=Addr->Option HO
variable{H:Hp}
noncomputable def upd(H:Hp)(a:Addr)(o:HO):Hp:=fun b=>if b=a then some o else H b
theorem ax{o:HO}:upd H a o a=some o:=by unfold upd;rw[Jy rfl]
theorem ao{o:HO}(h:b≠a):upd H a o b=H b:=by unfold upd;rw[Ju h]
theorem qk{o u:HO}:upd (upd H a o) a u=upd H a u:=by
 funext b;unfold upd;split<;>rfl
theorem aF{o:HO}(h:H a=some o)(h':H b=none):a≠b:=by
 intro e;subst e;rw[h] at h';cases h'
noncomputable def Ha:List Value->Str
 |.str q _::_=>q
 |_=>Str.ofString ""
def wC(ps:Array Value):Str:=Ha ps.toList
noncomputable def Ax(H:Hp)(q:Str)(cv:Value):Prop:=∃(c:Addr) (oc:Obj) (vs:Array Value) (t:Tok),cv=.ref c/\H c=some (.hV oc (.own c))/\oc.data=.fields vs/\vs[1]?=some (.str q t)
noncomputable def dB(h:Heap)(a:Addr)(items:Array Value):Prop:=∃ o:Obj,h.get? a=some o/\o.cls=.type "tuple"/\∃ n,o.data=.seq items n/\o.dict=none
theorem dB.to(x:dB h a items):IsTup h a items:=let ⟨o,e,c,n,d,_⟩:=x;⟨o,e,c,n,d⟩
theorem dB.new(h:Heap)(items:Array Value):dB (h.push {cls:=.type "tuple",data:=.seq items}) h.objs.size items:=⟨_,JC h rfl,rfl,_,rfl,rfl⟩
theorem dB.lt(x:dB h a items):a<h.objs.size:=x.to.lt
section
variable (P:Program) (w:World)
noncomputable def bO(H:Hp)(h:Heap)(a:Addr):HO->Prop
 |.lst xs=>xs.length<=sizeLine/\∃(its:List Value) (n:Nat),Vals xs its/\h.get? a=some {cls:=.type "list",data:=.seq its.toArray n}
 |.tup xs=>xs.length<=sizeLine/\∃ its:List Value,Vals xs its/\dB h a its.toArray
 |.dK kvs=>kvs.length<=sizeLine/\(a == sysModules)=false/\∃ vs,KV kvs vs/\h.DictOf (mR P w) a vs
 |.dT kvs=>kvs.length<=sizeLine/\(a == sysModules)=false/\∃ xs:List (List Key×Addr×Value),
   Paired (fun (p:List Key×V) (q:List Key×Addr×Value)=>p.1=q.1/\H q.2.1=some (.tup (p.1.map kV))/\RelV p.2 q.2.2) kvs xs /\
   ∃ o es ep,h.get? a=some o/\o.ExactDict/\o.data=.dict es ep/\es.toList=xs.map (entryOfKey (tupleKind (mR P w)))/\(xs.map (·.1)).Nodup
 |.set S n=>h.SetOf (intKind P w) a S n
 |.ins C dx fs=>H dx=some (.own a)/\fs.length<=1000/\dx≠a/\h.get? a=some (PySem.W.instObj C dx) /\
   ∃ mA,h.Ns1 dx mA/\(∀ f,Dd (fs.lookup f) (mA f))/\PySem.Within mA (fs.map (·.1))
 |.own _=>∃ o,h.get? a=some o
 |.xd fs=>∃ mA,h.Ns1 a mA/\∀ f,Dd (fs.lookup f) (mA f)
 |.fh lo hi=>∃ t u v,h.get? a=some {cls:=.type "range",data:=.fields #[.int lo t,.int hi u,.int 1 v]}
 |.hV o u=>h.get? a=some o/\bO H h a u
 |.uq ps=>∃ qs:Array Value,h.get? a=some {cls:=.none,data:=.fields qs}/\TriplesOk qs.toList/\∀ pos cv,codeAmong pos qs.toList=some cv->Ax H (wC ps) cv
 |.met f x=>h.get? a=some (PySem.W.methodObj (.ref f) (.ref x))
 |.ext φ=>φ h/\(∃ o,h.get? a=some o)/\∀ h1 h2:Heap,φ h1->(∀ o,h1.get? a=some o->h2.get? a=some o)->φ h2
noncomputable def fU(H:Hp)(h:Heap):Prop:=∀ a o,H a=some o->bO P w H h a o
end
section
variable {P:Program} {w:World} {H H':Hp} {h h':Heap} {a:Addr} {o:HO}
theorem bO.lt(x:bO P w H h a o):a<h.objs.size:=by
 cases o with
 |lst xs=>obtain⟨_,_,_,_,e⟩:=x;exact JA e
 |tup xs=>obtain⟨_,_,_,p⟩:=x;exact p.lt
 |dK kvs=>obtain⟨_,_,_,_,o,_,_,e,_⟩:=x;exact JA e
 |dT kvs=>obtain⟨_,_,_,_,o,_,_,e,_⟩:=x;exact JA e
 |set S n=>obtain⟨o,_,_,_,e,_⟩:=x;exact JA e
 |ins C dx fs=>obtain⟨_,_,_,e,_⟩:=x;exact JA e
 |own y=>obtain⟨_,e⟩:=x;exact JA e
 |xd fs=>obtain⟨_,⟨_,_,_,e,_⟩,_⟩:=x;exact JA e
 |fh lo hi=>obtain⟨_,_,_,e⟩:=x;exact JA e
 |hV ob u=>obtain⟨e,_⟩:=x;exact JA e
 |uq ps=>obtain⟨_,e,_⟩:=x;exact JA e
 |met f y=>exact JA (show h.get? a=some _ from x)
 |ext φ=>obtain⟨_,⟨_,e⟩,_⟩:=x;exact JA e
theorem Paired.mD{α β:Type}{F G:α->β->Prop}:∀{l₁:List α} {l₂:List β},Paired F l₁ l₂->(∀ a b,F a b->G a b)->Paired G l₁ l₂
 |_,_,.nil,_=>.nil
 |_,_,.cons r t,f=>.cons (f _ _ r) (Paired.mD t f)
theorem bO.jv(x:bO P w H h a o)(k:∀ b u,(b=a\/H b=some (.own a))->h.get? b=some u->h'.get? b=some u)
  (ho:∀ b,H b=some (.own a)->H' b=some (.own a)) (ht:∀ b xs,H b=some (.tup xs)->H' b=some (.tup xs)) (hz:∀ b o u,H b=some (.hV o u)->H' b=some (.hV o u)):bO P w H' h' a o:=by
 induction o with
 |lst xs=>obtain⟨z,its,n,r,e⟩:=x;exact⟨z,its,n,r,k _ _ (.inl rfl) e⟩
 |tup xs=>obtain⟨z,its,r,ob,e,c⟩:=x;exact⟨z,its,r,ob,k _ _ (.inl rfl) e,c⟩
 |dK kvs=>obtain⟨z,y,vs,r,ob,es,ep,e,c⟩:=x;exact⟨z,y,vs,r,ob,es,ep,k _ _ (.inl rfl) e,c⟩
 |dT kvs =>
  obtain⟨z,y,xs,r,ob,es,ep,e,c⟩:=x;exact⟨z,y,xs,Paired.mD r fun p q z=>⟨z.1,ht _ _ z.2.1,z.2.2⟩,ob,es,ep,k _ _ (.inl rfl) e,c⟩
 |set S n=>obtain⟨ob,es,ep,t,e,c⟩:=x;exact⟨ob,es,ep,t,k _ _ (.inl rfl) e,c⟩
 |ins C dx fs =>
  obtain⟨d,z,ne,e,mA,⟨od,es,ep,e2,c⟩,r⟩:=x;exact⟨ho _ d,z,ne,k _ _ (.inl rfl) e,mA,⟨od,es,ep,k _ _ (.inr d) e2,c⟩,r⟩
 |own y=>obtain⟨ob,e⟩:=x;exact⟨ob,k _ _ (.inl rfl) e⟩
 |xd fs=>obtain⟨mA,⟨od,es,ep,e,c⟩,r⟩:=x;exact⟨mA,⟨od,es,ep,k _ _ (.inl rfl) e,c⟩,r⟩
 |fh lo hi=>obtain⟨t,u,v,e⟩:=x;exact⟨t,u,v,k _ _ (.inl rfl) e⟩
 |hV ob u ih=>obtain⟨e,q⟩:=x;exact⟨k _ _ (.inl rfl) e,ih q⟩
 |uq ps =>
  obtain⟨qs,e,t,f⟩:=x;exact⟨qs,k a _ (.inl rfl) e,t,fun pos cv q=>let ⟨c,oc,vs,t',e1,e2,e3⟩:=f pos cv q;⟨c,oc,vs,t',e1,hz _ _ _ e2,e3⟩⟩
 |met f y =>
  have e:h.get? a=some (PySem.W.methodObj (.ref f) (.ref y)):=x;show h'.get? a=some (PySem.W.methodObj (.ref f) (.ref y));exact k a _ (.inl rfl) e
 |ext φ=>obtain⟨p,⟨o,e⟩,st⟩:=x;exact⟨st _ _ p fun o q=>k _ _ (.inl rfl) q,⟨o,k _ _ (.inl rfl) e⟩,st⟩
theorem fU.lt(x:fU P w H h)(e:H a=some o):a<h.objs.size:=(x a o e).lt
theorem fU.fresh(x:fU P w H h)(e:h.objs.size<=a):H a=none:=by
 cases q:H a with
 |none=>rfl
 |some u=>exact absurd (JO (x.lt q) e) (KU _)
theorem fU.kept(x:fU P w H h)(k:∀ b u,h.get? b=some u->h'.get? b=some u):fU P w H h':=fun a o e =>
 (x a o e).jv (fun b u _ q=>k b u q) (fun _ q=>q) (fun _ _ q=>q) fun _ _ _ q=>q
theorem fU.laid(x:fU P w H h)(k:∀ b u,h.get? b=some u->h'.get? b=some u)(hp:h.objs.size<=a)(new:bO P w (upd H a o) h' a o):fU P w (upd H a o) h':=fun b u e=>by
 have hn:=x.fresh hp;by_cases hb:b=a
 ·subst hb;rw[ax] at e;cases e;exact new
 ·rw[ao hb] at e;exact (x b u e).jv (fun c v _ q=>k c v q) (fun c q=>by rw[ao (aF q hn)];exact q) (fun c xs q=>by rw[ao (aF q hn)];exact q) fun c _ _ q=>by rw[ao (aF q hn)];exact q
end
noncomputable def Rd(H:Hp)(a:Addr)(u:HO):Prop:=H a=some u\/∃ o,H a=some (.hV o u)
theorem Rd.ok{u:HO}(r:Rd H a u)(x:fU P w H h):bO P w H h a u:=by
 rcases r with r|⟨o,r⟩
 ·exact x a u r
 ·obtain⟨_,q⟩:=x a _ r;exact q
noncomputable def G1:Option HO->Prop
 |some (.lst _)=>True
 |some (.dK _)=>True
 |some (.dT _)=>True
 |some (.set _ _)=>True
 |some (.ins _ _ _)=>True
 |some (.ext _)=>True
 |_=>False
section
variable {P:Program} {w:World} {H:Hp} {h h':Heap} {x e:Addr} {o':HO}
theorem fU.write(ok:fU P w H h)(mu:G1 (H x))(he:e=x\/H e=some (.own x))(k:∀ b u,b≠e->h.get? b=some u->h'.get? b=some u)(heo:∃ u,h'.get? e=some u)
  (new:bO P w (upd H x o') h' x o'):fU P w (upd H x o') h':=fun b u q=>by
 have nown:∀ c y,H c=some (.own y)->c≠x:=fun c y r z=>by subst z;rw[r] at mu;exact mu
 have ntup:∀ c xs,H c=some (.tup xs)->c≠x:=fun c xs r z=>by subst z;rw[r] at mu;exact mu
 have nfrz:∀ c o1 u1,H c=some (.hV o1 u1)->c≠x:=fun c _ _ r z=>by subst z;rw[r] at mu;exact mu
 by_cases hb:b=x
 ·subst hb;rw[ax] at q;cases q;exact new
 ·rw[ao hb] at q;by_cases hbe:b=e
  ·have q':H b=some (.own x):=by
    rcases he with z|z
    ·exact absurd (hbe.trans z) hb
    ·rw[hbe];exact z
   rw[q] at q';cases q';obtain⟨v,hv⟩:=heo;exact⟨v,by rw[hbe];exact hv⟩
  ·refine (ok b u q).jv (fun c v hc r=>k c v ?_ r) (fun c r=>by rw[ao (nown c b r)];exact r) (fun c xs r=>by rw[ao (ntup c xs r)];exact r) fun c _ _ r=>by rw[ao (nfrz c _ _ r)];exact r
   rcases hc with rfl|hc
   ·exact hbe
   ·rintro rfl;rcases he with z|z
    ·exact nown c b hc z
    ·rw[hc] at z;cases z;exact hb rfl
end
structure Un (fs ex:List Addr) (H H':Hp) (h h':Heap):Prop where
 keep:∀ b o,h.get? b=some o->H b=none->b∉fs->b∉ex->h'.get? b=some o
 slot:∀ b o,h.get? b=some o->H b=none->b∈fs->b∉ex->∃ sl,h'.get? b=some {o with slots:=sl}
 free:∀ b o,h.get? b=some o->H b=none->b∉ex->H' b=none
 there:∀ b o,h.get? b=some o->b∉ex->∃ o',h'.get? b=some o'
 jZ:∀ b xs,H b=some (.tup xs)->H' b=some (.tup xs)
 jj:∀ b o u,H b=some (.hV o u)->H' b=some (.hV o u)
 iP:∀ b ps,H b=some (.uq ps)->∃ more,H' b=some (.uq (ps++more))
section
variable {fs fs' ex ex':List Addr} {H H1 H2:Hp} {h h1 h2 h':Heap} {a x e:Addr} {o:HO}
theorem Un.any(u:Un fs ex H H1 h h1){ob:Obj}(q:h.get? b=some ob)(n:H b=none)(hx:b∉ex):∃ sl,h1.get? b=some {ob with slots:=sl}:=by
 by_cases hb:b∈fs
 ·exact u.slot b ob q n hb hx
 ·exact⟨ob.slots,u.keep b ob q n hb hx⟩
theorem Un.kept(k:∀ b u,h.get? b=some u->h'.get? b=some u):Un fs ex H H h h':=
 ⟨fun b ob q _ _ _=>k b ob q,fun b ob q _ _ _=>⟨ob.slots,k b ob q⟩,fun _ _ _ n _=>n,fun b ob q _=>⟨ob,k b ob q⟩,fun _ _ q=>q,fun _ _ _ q=>q,fun _ ps q=>⟨#[],by rw[q];simp⟩⟩
theorem Un.refl:Un fs ex H H h h:=Un.kept fun _ _ q=>q
theorem Un.laid(k:∀ b u,h.get? b=some u->h'.get? b=some u)(hp:h.objs.size<=a)(hn:H a=none):Un fs ex H (upd H a o) h h' where
 keep:=fun b u q _ _ _=>k b u q
 slot:=fun b u q _ _ _=>⟨u.slots,k b u q⟩
 free:=fun b u q n _=>by rw[ao (JP (JO (JA q) hp))];exact n
 there:=fun b u q _=>⟨u,k b u q⟩
 jZ:=fun b xs q=>by rw[ao (aF q hn)];exact q
 jj:=fun b u xs q=>by rw[ao (aF q hn)];exact q
 iP:=fun b ps q=>⟨#[],by rw[ao (aF q hn),q];simp⟩
theorem Un.write(mu:G1 (H x))(he:e=x\/H e=some (.own x))(k:∀ b u,b≠e->h.get? b=some u->h'.get? b=some u)(heo:∃ u,h'.get? e=some u):Un fs ex H (upd H x o) h h':=by
 have hx:∀ b,H b=none->b≠x:=fun b n z=>by subst z;rw[n] at mu;exact mu
 have hb:∀ b,H b=none->b≠e:=fun b n z=>by
  subst z;rcases he with r|r
  ·exact hx b n r
  ·rw[n] at r;cases r
 have hm:∀ b u,H b=some u->¬ G1 (some u)->b≠x:=fun b u q nm z=>by subst z;rw[q] at mu;exact nm mu
 refine⟨fun b u q n _ _=>k b u (hb b n) q,fun b u q n _ _=>⟨u.slots,k b u (hb b n) q⟩,fun b u q n _=>by rw[ao (hx b n)];exact n,fun b u q _=>?_,
  fun b xs q=>by rw[ao (hm b _ q fun z=>z)];exact q,fun b u xs q=>by rw[ao (hm b _ q fun z=>z)];exact q,fun b ps q=>⟨#[],by rw[ao (hm b _ q fun z=>z),q];simp⟩⟩
 by_cases hbe:b=e
 ·subst hbe;exact heo
 ·exact⟨u,k b u hbe q⟩
end
noncomputable def fY(h:Heap)(H:Hp):List Addr:=(List.range h.objs.size).filter fun a=>(H a).isSome
noncomputable def kf(h:Heap)(H:Hp):Heap:=PySem.W.hideAll h (fY h H)
theorem tE(h:Heap)(H:Hp):(kf h H).objs.size=h.objs.size:=PySem.W.hideAll_size _ _
theorem hG(e:h.get? b=some o)(n:H b=none):(kf h H).get? b=some o:=
 PySem.W.hideAll_get _ e fun hm=>by
  have q:(H b).isSome=true:=(Ny.mp hm).2;rw[n] at q;simp at q
theorem y1(e:(kf h H).get? b=some o):h.get? b=some o/\H b=none:=by
 have e':h.get? b=some o:=PySem.W.of_hideAll (fY h H) e;refine⟨e',?_⟩
 cases q:H b with
 |none=>rfl
 |some x =>
  have hm:b∈fY h H:=Ny.mpr ⟨LH.mpr (JA e'),by simp[q]⟩
  have z:(kf h H).get? b=none:=PySem.W.hideAll_none (fY h H) hm;rw[z] at e;cases e
noncomputable def zK(g h:Heap)(L:Addr):List (Addr×Obj):=(List.range h.objs.size).filterMap fun a=>if a=L\/(g.get? a).isSome=true then none else (h.get? a).map fun o=>(a,o)
noncomputable def rest(g h:Heap)(L d:Addr):List (Addr×Obj):=(zK g h L).filter fun p=>decide (p.1≠d)
noncomputable def dS:List Str:=["by_worth","by_weight","code_of"]
noncomputable def cw(K:Oi):List (Addr×Addr×Str):=dS.filterMap fun x=>(PySem.W.tabIn K x).map fun p=>(p.1,p.2,(x++".<locals>.")++"<lambda>")
noncomputable def TabsOk(K:Oi)(H:Hp):Prop:=∀ t∈cw K,∃ more,H t.2.1=some (.uq (#[.str t.2.2 0]++more))
theorem TabsOk.un{fs ex:List Addr}{H1:Hp}{h1:Heap}(x:TabsOk K H)(u:Un fs ex H H1 h h1):TabsOk K H1:=fun t ht=>by
 obtain⟨m,e⟩:=x t ht;obtain⟨m2,e2⟩:=u.iP _ _ e;exact⟨m++m2,by rw[e2,Array.append_assoc]⟩
noncomputable def CN(mg:Str->Option Value)(h:Heap):Prop:=∃ bm ob,mg "__builtins__"=some (.ref bm)/\bm≠builtinsNs/\h.get? bm=some ob/\ob.cls=.type "module"/\ob.dict=some builtinsNs/\ob.data=.plain
structure Mod (K:Oi) (mg:Str->Option Value) (base:Heap):Prop where
 Ak:K.In base
 glob:base.Ns mainGlobals mg
 blt:∃ mb,base.Ns builtinsNs mb/\∀ x:Str,x≠"__name__"->mb x=bootBuiltins x
 nolimit:base.NoLimit
 codes:∀ t∈cw K,PySem.W.CodeHd base t.1 t.2.1
 bm:CN mg base
structure Cx where
 prog:Program
 w:World
 K:Oi
 mg:Str->Option Value
 base:Heap
 A:Around
 N:List Str
 s₀:Shared
 H₀:Hp
 env:Env
 outer:List Env
 stack:List Env
 ex:List Addr
 fn:Str->Bool
 calm:Bool
 pn:List (Addr×Obj)
 xe:Value->Shared->Prop
variable{X:Cx}
noncomputable def iQ(l:List Env):List Addr:=l.filterMap (·.frame)
abbrev Cx.fs(X:Cx):List Addr:=iQ X.outer
noncomputable def B5(sc:Scope)(x:Str):Prop:=sc.names.lookup x=some .local\/sc.names.lookup x=some .cell\/sc.names.lookup x=some .free
noncomputable def Loc(sc:Scope)(x:Str):Prop:=sc.names.lookup x=some .local\/sc.names.lookup x=some .cell
noncomputable def Look(env:Env)(h:Heap)(m:Str->Option Value)(x:Str)(u:Value):Prop:=
 (env.kindOf x=some .local/\m x=some u)\/((env.kindOf x=some .cell\/env.kindOf x=some .free)/\∃ c,env.cells.lookup x=some c/\h.IsCell c (some u))
structure Cx.Ok (X:Cx):Prop where
 mod:Mod X.K X.mg X.base
 kind:X.env.scope.kind=.function
 glob:X.env.globals=mainGlobals
 blt:X.env.builtins=builtinsNs
 above:X.s₀.heap.objs.size<=X.env.locals
 inj:∀ x y c,X.env.cells.lookup x=some c->X.env.cells.lookup y=some c->x=y
 has:∀ x,(X.env.kindOf x=some .cell\/X.env.kindOf x=some .free)->∃ c,X.env.cells.lookup x=some c
 FC:∀ x c,X.fn x=true->X.env.cells.lookup x=some c->X.s₀.heap.objs.size<=c
 hd:X.calm=true->X.A.handled=none
 frames:X.A.frames=some X.stack
 G2:X.stack=X.outer\/(X.stack=X.env::X.outer/\X.env.frame=some X.env.locals)
 IH:∀ b∈X.ex,b≠X.env.locals/\∀ x c,X.env.cells.lookup x=some c->c≠b
 bs:∀ b o,X.base.get? b=some o->X.s₀.heap.get? b=some o/\X.H₀ b=none
 yN:X.base.objs.size<=X.s₀.heap.objs.size
 x3:∀ b o,X.base.get? b=some o->b∉X.ex
 zx:∀ b∈X.ex,b∉X.fs
 j9:X.s₀.heap.FunFrames X.base X.outer
 DT:∀ b∈X.fs,X.H₀ b=none
 tabs:TabsOk X.K X.H₀
structure Inv (X:Cx) (pins:List (Addr×Obj)) (σ:List (Option V)) (H:Hp) (s:Shared):Prop where
 ok:X.Ok
 os:s.os=X.s₀.os
 bare:AllBare s.gens
 base:Un X.fs X.ex X.H₀ H X.s₀.heap s.heap
 loc:∃ m,s.heap.Ns X.env.locals m/\∀(i:Nat) (x:Str) (v:V),X.N[i]?=some x->σ[i]?=some (some v)->B5 X.env.scope x->∃ u,RelV v u/\Look X.env s.heap m x u
 cell:∀ x c,X.env.cells.lookup x=some c->∃ v,s.heap.IsCell c v
 free:H X.env.locals=none
 dR:∀ x c,X.env.cells.lookup x=some c->H c=none
 pin:∀ p∈X.pn++pins,s.heap.get? p.1=some p.2/\H p.1=none/\p.1≠X.env.locals/\p.1∉X.fs/\∀ v,p.2.data≠.cell v
 aU:fU X.prog X.w H s.heap
 len:σ.length=X.N.length
section
variable {X:Cx} {pins:List (Addr×Obj)} {σ:List (Option V)} {H H':Hp} {s:Shared} {h':Heap}
theorem Cx.Ok.Iy(ok:X.Ok)(e:X.base.get? b=some o):b∉X.fs:=fun hb=>by
 have:=(ok.j9.mem hb).1;rw[e] at this;cases this
theorem Inv.bs(I:Inv X pins σ H s):∀ b o,X.base.get? b=some o->s.heap.get? b=some o/\H b=none:=fun b o e =>
 ⟨I.base.keep b o (I.ok.bs b o e).1 (I.ok.bs b o e).2 (I.ok.Iy e) (I.ok.x3 b o e),I.base.free b o (I.ok.bs b o e).1 (I.ok.bs b o e).2 (I.ok.x3 b o e)⟩
theorem Inv.bk(I:Inv X pins σ H s):∀ b o,X.base.get? b=some o->s.heap.get? b=some o:=fun b o e=>(I.bs b o e).1
theorem Inv.mod(I:Inv X pins σ H s):Mod X.K X.mg X.base:=I.ok.mod
theorem Inv.gJ(I:Inv X pins σ H s):X.K.In s.heap:=I.ok.mod.Ak.keeps I.bk
theorem Inv.nolimit(I:Inv X pins σ H s):s.heap.NoLimit:=I.ok.mod.nolimit.keeps I.bk
theorem Inv.lt(I:Inv X pins σ H s):X.env.locals<s.heap.objs.size:=let ⟨_,hn,_⟩:=I.loc;hn.lt
theorem Inv.sz(I:Inv X pins σ H s):X.s₀.heap.objs.size<=s.heap.objs.size:=JD I.ok.above (K_ I.lt)
theorem Inv.Ge(I:Inv X pins σ H s)(h:s.heap.objs.size<=a):a∉X.fs:=fun hb=>by
 obtain⟨_,o,ho,_⟩:=I.ok.j9.mem hb;exact absurd (JO (JA ho) (JD I.sz h)) (KU _)
theorem Inv.yt(I:Inv X pins σ H s):∀ x c,X.env.cells.lookup x=some c->c≠X.env.locals:=fun x c e z=>by
 obtain⟨v,o,ho,hd⟩:=I.cell x c e;obtain⟨m,⟨o',es,ep,ho',hd',_⟩,_⟩:=I.loc;rw[z,ho'] at ho;cases ho;rw[hd'] at hd;cases hd
theorem Inv.j9(I:Inv X pins σ H s):s.heap.FunFrames X.base X.outer:=by
 have all:∀(l:List Env),(∀ b∈iQ l,b∈X.fs)->X.s₀.heap.FunFrames X.base l->s.heap.FunFrames X.base l:=by
  intro l
  induction l with
  |nil=>intro _ _;trivial
  |cons env r ih =>
   intro hs hl;obtain⟨hk,⟨L,o,hf,hn,ho,hd⟩,hr⟩:=hl;have hL:L∈X.fs:=hs L (by unfold iQ;rw[M8,hf];exact JG)
   obtain⟨sl,e⟩:=I.base.slot L o ho (I.ok.DT L hL) hL fun z=>I.ok.zx L z hL;exact⟨hk,⟨L,_,hf,hn,e,hd⟩,ih (fun b hb=>hs b (by unfold iQ;rw[M8,hf];exact J8 _ hb)) hr⟩
 exact all X.outer (fun _ hb=>hb) I.ok.j9
theorem Inv.stack(I:Inv X pins σ H s):s.heap.FunFrames X.base X.stack:=by
 rcases I.ok.G2 with e|⟨e,hf⟩
 ·rw[e];exact I.j9
 ·rw[e];obtain⟨m,hn,_⟩:=I.loc;refine .cons (by rw[I.ok.kind];decide) hf hn ?_ I.j9
  exact Heap.get?_none_of_le (JD I.ok.yN I.ok.above)
theorem Inv.j7(I:Inv X pins σ H s):∀ b∈iQ X.stack,b∈X.env.locals::X.fs:=fun b hb=>by
 rcases I.ok.G2 with e|⟨e,hf⟩
 ·rw[e] at hb;exact J8 _ hb
 ·rw[e] at hb;unfold iQ at hb;rw[M8,hf] at hb;exact hb
theorem Inv.iR(I:Inv X pins σ H s):∀ b∈iQ X.stack,H b=none:=fun b hb=>by
 rcases J5.mp (I.j7 b hb) with e|hb
 ·rw[e];exact I.free
 ·obtain⟨_,o,ho,_⟩:=I.ok.j9.mem hb;exact I.base.free b o ho (I.ok.DT b hb) fun z=>I.ok.zx b z hb
theorem Inv.step{t':Nat}{d':Drawn}(I:Inv X pins σ H s)
  (hch:∀ b∈ch,(b∈X.ex\/X.s₀.heap.objs.size<=b)/\b≠X.env.locals/\(∀ x c,X.env.cells.lookup x=some c->c≠b)/\∀ p∈X.pn++pins,p.1≠b)
  (keep:∀ b o,b≠X.env.locals->b∉X.fs->b∉ch->s.heap.get? b=some o->H b=none->h'.get? b=some o)
  (slot:∀ b o,b≠X.env.locals->b∈X.fs->b∉ch->s.heap.get? b=some o->H b=none->∃ sl,h'.get? b=some {o with slots:=sl}) (free:∀ b o,b∉ch->s.heap.get? b=some o->H b=none->H' b=none)
  (there:∀ b o,b∉ch->s.heap.get? b=some o->∃ o',h'.get? b=some o')
  (jZ:∀ b xs,H b=some (.tup xs)->H' b=some (.tup xs)) (jj:∀ b o u,H b=some (.hV o u)->H' b=some (.hV o u)) (iP:∀ b ps,H b=some (.uq ps)->∃ more,H' b=some (.uq (ps++more)))
  (ns:∀ m,s.heap.Ns X.env.locals m->h'.Ns X.env.locals m) (aU:fU X.prog X.w H' h') (hg:AllBare g') :
  Inv X pins σ H' {s with heap:=h',gens:=g',drawn:=d',toks:=t'}:=by
 have neL:∀ b o,X.s₀.heap.get? b=some o->b≠X.env.locals:=fun b o e=>JP (JO (JA e) I.ok.above);have neC:∀ b o,X.s₀.heap.get? b=some o->b∉X.ex->b∉ch:=fun b o e hx hb=>by
  rcases (hch b hb).1 with z|z
  ·exact hx z
  ·exact absurd (JO (JA e) z) (KU _)
 have cellK:∀ x c,X.env.cells.lookup x=some c->∀ v,s.heap.IsCell c v->h'.IsCell c v:=fun x c e v ⟨o,ho,hd⟩=>by
  have nch:c∉ch:=fun z=>(hch c z).2.2.1 x c e rfl;by_cases hc:c∈X.fs
  ·obtain⟨sl,q⟩:=slot c o (I.yt x c e) hc nch ho (I.dR x c e);exact⟨_,q,hd⟩
  ·exact⟨o,keep c o (I.yt x c e) hc nch ho (I.dR x c e),hd⟩
 refine⟨I.ok,I.os,hg,⟨fun b o e n hb hx=>?_,fun b o e n hb hx=>?_,fun b o e n hx=>?_,fun b o e hx=>?_,fun b xs e=>jZ b xs (I.base.jZ b xs e),fun b o xs e=>jj b o xs (I.base.jj b o xs e),fun b ps e=>?_⟩,?_,fun x c e=>?_,?_,fun x c e=>?_,fun p hp=>?_,aU,I.len⟩
 ·exact keep b o (neL b o e) hb (neC b o e hx) (I.base.keep b o e n hb hx) (I.base.free b o e n hx)
 ·obtain⟨sl,e1⟩:=I.base.slot b o e n hb hx;obtain⟨sl',e2⟩:=slot b _ (neL b o e) hb (neC b o e hx) e1 (I.base.free b o e n hx);exact⟨sl',e2⟩
 ·obtain⟨o',e1⟩:=I.base.there b o e hx;exact free b o' (neC b o e hx) e1 (I.base.free b o e n hx)
 ·obtain⟨o',e1⟩:=I.base.there b o e hx;exact there b o' (neC b o e hx) e1
 ·obtain⟨m1,e1⟩:=I.base.iP b ps e;obtain⟨m2,e2⟩:=iP b _ e1;exact⟨m1++m2,by rw[e2,Array.append_assoc]⟩
 ·obtain⟨m,hn,hl⟩:=I.loc;refine⟨m,ns m hn,fun i x v e1 e2 e3=>?_⟩;obtain⟨u,r,l⟩:=hl i x v e1 e2 e3;refine⟨u,r,?_⟩;rcases l with l|⟨k,c,e,z⟩
  ·exact .inl l
  ·exact .inr ⟨k,c,e,cellK x c e _ z⟩
 ·obtain⟨v,z⟩:=I.cell x c e;exact⟨v,cellK x c e v z⟩
 ·obtain⟨m,⟨o,_,_,ho,_⟩,_⟩:=I.loc;exact free _ o (fun z=>(hch _ z).2.1 rfl) ho I.free
 ·obtain⟨v,o,ho,hd⟩:=I.cell x c e;exact free c o (fun z=>(hch c z).2.2.1 x c e rfl) ho (I.dR x c e)
 ·obtain⟨e,n,ne,nf,d⟩:=I.pin p hp;have nch:p.1∉ch:=fun z=>(hch p.1 z).2.2.2 p hp rfl;exact⟨keep p.1 p.2 ne nf nch e n,free p.1 p.2 nch e n,ne,nf,d⟩
theorem Inv.un{t':Nat}(I:Inv X pins σ H s)(u:Un X.fs [] H H' s.heap h')(aU:fU X.prog X.w H' h'):Inv X pins σ H' {s with heap:=h',toks:=t'}:=by
 obtain⟨m,⟨o,es,ep,ho,r⟩,_⟩:=id I.loc;obtain⟨sl,hL⟩:=u.any ho I.free (by simp)
 exact I.step (g':=s.gens) (d':=s.drawn) (ch:=[]) (fun _ z=>nomatch z) (fun b o _ hb _ e n=>u.keep b o e n hb (by simp)) (fun b o _ hb _ e n=>u.slot b o e n hb (by simp)) (fun b o _ e n=>u.free b o e n (by simp)) (fun b o _ e=>u.there b o e (by simp)) u.jZ u.jj u.iP (fun m' hm=>by
  obtain⟨o',es',ep',ho',r'⟩:=hm;rw[ho] at ho';cases ho';exact⟨_,es',ep',hL,r'⟩) aU I.bare
theorem Inv.call{t':Nat}{d':Drawn}{ch:List Addr}(I:Inv X pins σ H s)(u:Un (iQ X.stack) ch H H' s.heap h')(aU:fU X.prog X.w H' h')(hg:AllBare g')
  (hch:∀ b∈ch,(b∈X.ex\/X.s₀.heap.objs.size<=b)/\b≠X.env.locals/\(∀ x c,X.env.cells.lookup x=some c->c≠b)/\∀ p∈X.pn++pins,p.1≠b) :
  Inv X pins σ H' {s with heap:=h',gens:=g',drawn:=d',toks:=t'}:=by
 obtain⟨m,⟨o,es,ep,ho,r⟩,_⟩:=id I.loc;obtain⟨sl,hL⟩:=u.any ho I.free fun z=>(hch _ z).2.1 rfl;exact I.step (ch:=ch) hch (fun b o hL hb hc e n=>u.keep b o e n (fun z=>(J5.mp (I.j7 b z)).elim hL hb) hc) (fun b o _ _ hc e n=>u.any e n hc) (fun b o hc e n=>u.free b o e n hc) (fun b o hc e=>u.there b o e hc) u.jZ u.jj u.iP (fun m' hm=>by
  obtain⟨o',es',ep',ho',r'⟩:=hm;rw[ho] at ho';cases ho';exact⟨_,es',ep',hL,r'⟩) aU hg
theorem Inv.turned{t':Nat}{it:Addr}(I:Inv X pins σ H s)(k:∀ b o,b≠it->s.heap.get? b=some o->h'.get? b=some o)(hn:H it=none)(hL:it≠X.env.locals)
  (h1:it∈X.ex\/X.s₀.heap.objs.size<=it) (h2:∀ x c,X.env.cells.lookup x=some c->c≠it) (h3:∀ p∈X.pn++pins,p.1≠it):Inv X pins σ H {s with heap:=h',toks:=t'}:=by
 have nit:∀ b u,H b=some u->b≠it:=fun b u e z=>by rw[z,hn] at e;cases e
 refine I.step (g':=s.gens) (d':=s.drawn) (ch:=[it]) (fun b hb=>?_) (fun b o _ _ hc e _=>k b o (fun z=>hc (by simp[z])) e) (fun b o _ _ hc e _=>⟨o.slots,k b o (fun z=>hc (by simp[z])) e⟩) (fun _ _ _ _ n=>n)
  (fun b o hc e=>⟨o,k b o (fun z=>hc (by simp[z])) e⟩) (fun _ _ e=>e) (fun _ _ _ e=>e) (fun b ps e=>⟨#[],by rw[e];simp⟩) (fun m hm=>?_) (fun b u e=>?_) I.bare
 ·have e:b=it:=by simpa using hb
  subst e;exact⟨h1,hL,h2,h3⟩
 ·obtain⟨o,es,ep,ho,r⟩:=hm;exact⟨o,es,ep,k _ o (Ne.symm hL) ho,r⟩
 ·refine (I.aU b u e).jv (fun c v hc q=>k c v ?_ q) (fun _ q=>q) (fun _ _ q=>q) fun _ _ _ q=>q;rcases hc with z|z
  ·rw[z];exact nit b u e
  ·exact nit c _ z
theorem Inv.tok(I:Inv X pins σ H s)(t:Nat):Inv X pins σ H {s with toks:=t}:=I.un (h':=s.heap) (t':=t) Un.refl I.aU
theorem Inv.kept{t':Nat}(I:Inv X pins σ H s)(k:∀ b u,s.heap.get? b=some u->h'.get? b=some u):Inv X pins σ H {s with heap:=h',toks:=t'}:=I.un (Un.kept k) (I.aU.kept k)
theorem Inv.laid{o:HO}{t':Nat}(I:Inv X pins σ H s)(k:∀ b u,s.heap.get? b=some u->h'.get? b=some u)(hp:s.heap.objs.size<=a)(new:bO X.prog X.w (upd H a o) h' a o):
  Inv X pins σ (upd H a o) {s with heap:=h',toks:=t'}:=I.un (Un.laid k hp (I.aU.fresh hp)) (I.aU.laid k hp new)
theorem Inv.write{x e:Addr}{o:HO}{t':Nat}(I:Inv X pins σ H s)(mu:G1 (H x))(he:e=x\/H e=some (.own x))(k:∀ b u,b≠e->s.heap.get? b=some u->h'.get? b=some u)(heo:∃ u,h'.get? e=some u)
  (new:bO X.prog X.w (upd H x o) h' x o):Inv X pins σ (upd H x o) {s with heap:=h',toks:=t'}:=I.un (Un.write mu he k heo) (I.aU.write mu he k heo new)
theorem Inv.lZ{pins':List (Addr×Obj)}(I:Inv X pins σ H s)(h:∀ p∈pins',s.heap.get? p.1=some p.2/\H p.1=none/\p.1≠X.env.locals/\p.1∉X.fs/\∀ v,p.2.data≠.cell v):Inv X pins' σ H s:=
 ⟨I.ok,I.os,I.bare,I.base,I.loc,I.cell,I.free,I.dR,fun p hp=>(K4.mp hp).elim (fun z=>I.pin p (Ms _ z)) (h p),I.aU,I.len⟩
theorem nc(hN:N.Nodup)(a:N[i]?=some x)(b:N[j]?=some x):i=j:=by
 obtain⟨h1,e1⟩:=Jz.mp a;obtain⟨h2,e2⟩:=Jz.mp b;exact (List.getElem_inj hN).mp (e1.trans e2.symm)
theorem kM{v:V}{Q:Unit->Shared->Prop}(I:Inv X pins σ H s)(hN:X.N.Nodup)(hi:X.N[i]?=some x)(hx:Loc X.env.scope x)(r:RelV v u)
  (h:∀ s',Inv X pins (σ.set i (some v)) H s'->(∃ a,Heap.SameBut a s.heap s'.heap/\(a=X.env.locals\/X.env.cells.lookup x=some a))->Q () s') (hf:autoParam (X.fn x=true\/X.env.scope.names.lookup x=some .local) ℜ2):wpAny M A (storeName X.env x u) Q E s:=by
 obtain⟨m,hn,hl⟩:=id I.loc;have hcls:(X.env.scope.kind == .class || (X.env.scope.kind == .module && X.env.locals != X.env.globals))=false:=by rw[I.ok.kind];rfl
 have hiσ:i<σ.length:=by rw[I.len];exact (Jz.mp hi).1
 have yt:=I.yt;have tracked:∀{a:Addr} {h':Heap},(∃ o,s.heap.get? a=some o/\H a=none)->Heap.SameBut a s.heap h'->fU X.prog X.w H h':=fun {a h'} ha hs b ob e=>by
  obtain⟨_,_,hfree⟩:=ha;refine (I.aU b ob e).jv (fun c w' hc q=>(hs.2 c ?_).trans q) (fun _ q=>q) (fun _ _ q=>q) fun _ _ _ q=>q;rintro rfl;rcases hc with rfl|hc
  ·rw[hfree] at e;cases e
  ·rw[hfree] at hc;cases hc
 rcases hx with hk|hk
 ·refine wpAny_storeName_local hk hn (fun h' hn' hs=>?_) hcls;obtain⟨oL,_,_,hoL,_⟩:=id hn;refine h _ ⟨I.ok,I.os,I.bare,⟨fun b o e n hb hx=>?_,fun b o e n hb hx=>?_,I.base.free,fun b o e hx=>?_,I.base.jZ,I.base.jj,I.base.iP⟩,⟨_,hn',fun j y v' e1 e2 e3=>?_⟩,fun y c e=>?_,I.free,I.dR,fun p hp=>?_,tracked ⟨oL,hoL,I.free⟩ hs,by simpa using I.len⟩ ⟨_,hs,.inl rfl⟩
  ·exact (hs.2 b (JP (JO (JA e) I.ok.above))).trans (I.base.keep b o e n hb hx)
  ·obtain⟨sl,e1⟩:=I.base.slot b o e n hb hx;exact⟨sl,(hs.2 b (JP (JO (JA e) I.ok.above))).trans e1⟩
  ·obtain⟨o',e1⟩:=I.base.there b o e hx;exact⟨o',(hs.2 b (JP (JO (JA e) I.ok.above))).trans e1⟩
  ·by_cases hj:j=i
   ·subst hj;rw[hi] at e1;cases e1;rw[Kb hiσ] at e2;cases e2;exact⟨u,r,.inl ⟨hk,by simp⟩⟩
   ·rw[Kg (Ne.symm hj)] at e2;obtain⟨u',r',q⟩:=hl j y v' e1 e2 e3;refine⟨u',r',?_⟩;rcases q with ⟨k,e⟩|⟨k,c,e,z⟩
    ·refine .inl ⟨k,?_⟩;have:y≠x:=fun e=>hj (nc hN e1 (e ▸ hi));simp[this,e]
    ·exact .inr ⟨k,c,e,z.sameBut hs (yt y c e)⟩
  ·obtain⟨w',z⟩:=I.cell y c e;exact⟨w',z.sameBut hs (yt y c e)⟩
  ·obtain⟨e,n,ne,nf,d⟩:=I.pin p hp;exact⟨(hs.2 p.1 ne).trans e,n,ne,nf,d⟩
 ·have hfn:X.fn x=true:=by
   rcases hf with z|z
   ·exact z
   ·rw[z] at hk;cases hk
  obtain⟨c,hc⟩:=I.ok.has x (.inl hk);obtain⟨w',z⟩:=I.cell x c hc;refine wpAny_storeName_cell I.ok.kind hk hc z (fun h' hc' hs=>?_);obtain⟨oc,hoc,hocd⟩:=id z;refine h {s with heap:=h'} ⟨I.ok,I.os,I.bare,⟨fun b o e n hb hx=>?_,fun b o e n hb hx=>?_,I.base.free,fun b o e hx=>?_,I.base.jZ,I.base.jj,I.base.iP⟩,⟨m,hn.sameBut hs (Ne.symm (yt x c hc)),fun j y v' e1 e2 e3=>?_⟩,fun y c' e=>?_,I.free,I.dR,fun p hp=>?_,tracked ⟨oc,hoc,I.dR x c hc⟩ hs,by simpa using I.len⟩ ⟨c,hs,.inr hc⟩
  ·exact (hs.2 b (JP (JO (JA e) (I.ok.FC x c hfn hc)))).trans (I.base.keep b o e n hb hx)
  ·obtain⟨sl,e1⟩:=I.base.slot b o e n hb hx;exact⟨sl,(hs.2 b (JP (JO (JA e) (I.ok.FC x c hfn hc)))).trans e1⟩
  ·obtain⟨o',e1⟩:=I.base.there b o e hx;exact⟨o',(hs.2 b (JP (JO (JA e) (I.ok.FC x c hfn hc)))).trans e1⟩
  ·by_cases hj:j=i
   ·subst hj;rw[hi] at e1;cases e1;rw[Kb hiσ] at e2;cases e2;exact⟨u,r,.inr ⟨.inl hk,c,hc,hc'⟩⟩
   ·rw[Kg (Ne.symm hj)] at e2;obtain⟨u',r',q⟩:=hl j y v' e1 e2 e3;refine⟨u',r',?_⟩;rcases q with q|⟨k,c',e,z'⟩
    ·exact .inl q
    ·refine .inr ⟨k,c',e,z'.sameBut hs ?_⟩;rintro rfl;exact hj (nc hN e1 (I.ok.inj _ _ _ e hc ▸ hi))
  ·by_cases hcc:c'=c
   ·subst hcc;exact⟨_,hc'⟩
   ·obtain⟨w2,z2⟩:=I.cell y c' e;exact⟨w2,z2.sameBut hs hcc⟩
  ·obtain⟨e,n,ne,nf,d⟩:=I.pin p hp;refine⟨(hs.2 p.1 ?_).trans e,n,ne,nf,d⟩;intro q;rw[q,hoc] at e;have q':oc=p.2:=Option.some.inj e;exact d w' (by rw[<- q'];exact hocd)
theorem mY{v:V}{Q:Unit->Shared->Prop}(I:Inv X pins σ H s)(hN:X.N.Nodup)(hi:X.N[i]?=some x)(hx:Loc X.env.scope x)(r:RelV v u)
  (h:∀ s',Inv X pins (σ.set i (some v)) H s'->Q () s') (hf:autoParam (X.fn x=true\/X.env.scope.names.lookup x=some .local) ℜ2):wpAny M A (storeName X.env x u) Q E s:=
 kM I hN hi hx r (fun s' I' _=>h s' I') hf
theorem Inv.Bf(I:Inv X pins σ H s)(ho:s'.os=s.os)(u:Un (iQ X.stack) ch H H' s.heap s'.heap)(aU:fU X.prog X.w H' s'.heap)(hg:AllBare s'.gens)
  (hch:∀ b∈ch,(b∈X.ex\/X.s₀.heap.objs.size<=b)/\b≠X.env.locals/\(∀ x c,X.env.cells.lookup x=some c->c≠b)/\∀ p∈X.pn++pins,p.1≠b):Inv X pins σ H' s':=by
 obtain⟨h',g',d',t',o'⟩:=s';have e:o'=s.os:=ho;subst e;exact I.call (g':=g') (t':=t') (d':=d') u aU hg hch
end
abbrev XK:=Value->Option Addr->Hp->Prop
abbrev St:=List (Option V)
variable{σ:St}
abbrev VK:=V->Hp->Prop
abbrev TE:=St->Hp->VK->Prop
abbrev TT:=St->Hp->(Bool->Hp->Prop)->Prop
abbrev TA:=St->Hp->(List V->Hp->Prop)->Prop
structure Ends where
 nx:St->Hp->Prop
 rt:VK
 bk:St->Hp->Prop:=fun _ _=>False
 ct:St->Hp->Prop:=fun _ _=>False
abbrev TS:=Ends->St->Hp->Prop
noncomputable def EP(X:Cx)(pins:List (Addr×Obj))(σ:St)(Q:VK)(u:Value)(s':Shared):Prop:=∃ v H',Inv X pins σ H' s'/\RelV v u/\Q v H'
noncomputable def TP(X:Cx)(pins:List (Addr×Obj))(σ:St)(Q:Bool->Hp->Prop)(b:Bool)(s':Shared):Prop:=∃ H',Inv X pins σ H' s'/\Q b H'
noncomputable def AP(X:Cx)(pins:List (Addr×Obj))(σ:St)(Q:List V->Hp->Prop)(us:List Value)(s':Shared):Prop:=∃ vs H',Inv X pins σ H' s'/\Vals vs us/\Q vs H'
noncomputable def SP(X:Cx)(pins:List (Addr×Obj))(D:Ends)(f:Flow)(s':Shared):Prop:=
 match f with
 |.next=>∃ σ' H',Inv X pins σ' H' s'/\D.nx σ' H'
 |.brk=>∃ σ' H',Inv X pins σ' H' s'/\D.bk σ' H'
 |.cont=>∃ σ' H',Inv X pins σ' H' s'/\D.ct σ' H'
 |.ret u=>∃ v σ' H',Inv X pins σ' H' s'/\RelV v u/\D.rt v H'
noncomputable def PE(X:Cx)(e:Expr)(t:TE):Prop:=
 ∀(pins:List (Addr×Obj)) (s:Shared) (σ:St) (H:Hp) (Q:VK),Inv X pins σ H s->t σ H Q->wpAny (model X.prog X.w) X.A (eval e X.env) (EP X pins σ Q) X.xe s
noncomputable def PT(X:Cx)(e:Expr)(t:TT):Prop:=
 ∀(pins:List (Addr×Obj)) (s:Shared) (σ:St) (H:Hp) (Q:Bool->Hp->Prop),Inv X pins σ H s->t σ H Q->wpAny (model X.prog X.w) X.A (isTrue e X.env (eval e X.env)) (TP X pins σ Q) X.xe s
noncomputable def PW(X:Cx)(e:Expr)(t:TT):Prop:=
 ∀(whole:Sem Value) (pins:List (Addr×Obj)) (s:Shared) (σ:St) (H:Hp) (Q:Bool->Hp->Prop),Inv X pins σ H s->t σ H Q->wpAny (model X.prog X.w) X.A (isTrue e X.env whole) (TP X pins σ Q) X.xe s
theorem PW.pt{t:TT}(h:PW X e t):PT X e t:=h _
noncomputable def PA(X:Cx)(es:List Expr)(t:TA):Prop:=
 ∀(pos:Pos) (pins:List (Addr×Obj)) (s:Shared) (σ:St) (H:Hp) (Q:List V->Hp->Prop),Inv X pins σ H s->t σ H Q->wpAny (model X.prog X.w) X.A (spliced (backTo pos (starEach es X.env))) (AP X pins σ Q) X.xe s
noncomputable def PS(X:Cx)(st:Stmt)(t:TS):Prop:=
 ∀(pins:List (Addr×Obj)) (s:Shared) (σ:St) (H:Hp) (D:Ends),Inv X pins σ H s->t D σ H->wpAny (model X.prog X.w) X.A (exec st X.env) (SP X pins D) X.xe s
noncomputable def pq(X:Cx)(st:List Stmt)(t:TS):Prop:=
 ∀(pins:List (Addr×Obj)) (s:Shared) (σ:St) (H:Hp) (D:Ends),Inv X pins σ H s->t D σ H->wpAny (model X.prog X.w) X.A (execs st X.env) (SP X pins D) X.xe s
theorem cB{α:Type}{t:Sem α}{Q Q':α->Shared->Prop}(h:wpAny M A t Q E s)(hQ:∀ a s,Q a s->Q' a s):wpAny M A t Q' E s:=Kw h hQ fun _ _ x=>x
section
variable {X:Cx}
noncomputable def Ck(i:Nat):TE:=fun σ H Q=>∃ v,σ[i]?=some (some v)/\Q v H
def tC(v:V):TE:=fun _ H Q=>Q v H
theorem BD{pos:Pos}(hN:X.N[i]?=some x)(hv:B5 X.env.scope x)(hd:autoParam ((x ==("__debug__":Str))=false) ℜ1)(hcd:autoParam ((x ==("__classdict__":Str))=false) ℜ1):PE X (.Name x pos) (Ck i):=by
 intro pins s σ H Q I h;obtain⟨v,e,h⟩:=h;obtain⟨m,hn,hl⟩:=I.loc;obtain⟨u,r,l⟩:=hl i x v hN e hv;have fin:EP X pins σ Q u s:=⟨v,H,I,r,h⟩;rcases l with ⟨hk,hm⟩|⟨hk,c,hc,hcell⟩
 ·exact wpAny_Name (wpAny_loadName_local I.ok.kind hk hn hm fin) hd
 ·rcases hk with hk|hk
  ·exact wpAny_Name (wpAny_loadName_cell I.ok.kind hk hc hcell fin) hd
  ·exact wpAny_Name (wpAny_loadName_free I.ok.kind hk hc hcell fin hcd) hd
theorem xH{i j pos}:PE X (.Constant (.int i) j pos) (tC (.int i)):=fun _ _ _ H _ I h=>wpAny_Constant_int ⟨.int i,H,I.tok _,⟨_,rfl⟩,h⟩
theorem AM{b j pos}:PE X (.Constant (.bool b) j pos) (tC (.bl b)):=fun _ _ _ H _ I h=>Constant_bool ⟨.bl b,H,I,rfl,h⟩
theorem vp{j pos}:PE X (.Constant .none j pos) (tC .aJ):=fun _ _ _ H _ I h=>Constant_none ⟨.aJ,H,I,rfl,h⟩
theorem yc{x j pos}:PE X (.Constant (.str x) j pos) (tC (.str x)):=fun _ _ _ H _ I h=>Calls.Constant_str ⟨.str x,H,I.tok _,⟨_,rfl⟩,h⟩
noncomputable def Gl(X:Cx)(x:Str):Prop:=X.env.kindOf x=some .globalImplicit
theorem gD{pos:Pos}(I:Inv X pins σ H s)(hg:Gl X x)(hm:X.mg x=some u)(h:Q u s)
  (hd:autoParam ((x ==("__debug__":Str))=false) ℜ1):wpAny (model X.prog X.w) X.A (eval (.Name x pos) X.env) Q E s:=
 ML I.ok.kind hg (Calls.loadGlobal_global (by rw[I.ok.glob];exact I.mod.glob.keeps I.bk) hm h) hd
theorem ft{pos:Pos}(I:Inv X pins σ H s)(hg:Gl X x)(hm:X.mg x=none)(hv:bootBuiltins x=some u)(h:Q u s)
  (hn:autoParam (x≠"__name__") ℜ1) (hd:autoParam ((x ==("__debug__":Str))=false) ℜ1):wpAny (model X.prog X.w) X.A (eval (.Name x pos) X.env) Q E s:=by
 obtain⟨mb,h1,h2⟩:=I.mod.blt;exact ML I.ok.kind hg (Calls.loadGlobal_builtin (by rw[I.ok.glob];exact I.mod.glob.keeps I.bk) hm (by rw[I.ok.blt];exact h1.keeps I.bk) ((h2 x hn).trans hv) h) hd
theorem mC{v:V}{pos:Pos}(hg:Gl X x)(hm:X.mg x=some u)(r:RelV v u)(hd:autoParam ((x ==("__debug__":Str))=false) ℜ1):PE X (.Name x pos) (tC v):=
 fun _ _ _ H _ I h=>gD I hg hm ⟨v,H,I,r,h⟩ hd
theorem zC{v:V}{pos:Pos}(hg:Gl X x)(hm:X.mg x=none)(hv:bootBuiltins x=some u)(r:RelV v u)(hn:autoParam (x≠"__name__") ℜ1)(hd:autoParam ((x ==("__debug__":Str))=false) ℜ1):PE X (.Name x pos) (tC v):=
 fun _ _ _ H _ I h=>ft I hg hm hv ⟨v,H,I,r,h⟩ hn hd
noncomputable def Ji(ta tb:TE)(k:Int->Int->Hp->Prop):St->Hp->Prop:=fun σ H=>ta σ H fun x H1=>tb σ H1 fun y H2=>∃ i j,x=.int i/\y=.int j/\k i j H2
variable {a b:Expr} {ta tb:TE} {pos:Pos}
noncomputable def G_(p:Int->Int->Bool)(ta tb:TE):TE:=fun σ H Q=>Ji ta tb (fun i j H2=>Q (.bl (p i j)) H2) σ H
abbrev EH:TE->TE->TE:=G_ fun i j=>decide (i=j)
noncomputable def oj(ta:TE):TE:=fun σ H Q=>ta σ H fun x H1=>Q (.bl (decide (x=.aJ))) H1
variable {tA tB':TT} {rest:List Expr}
noncomputable def Ce(t u:TT):TT:=fun σ H Q=>t σ H fun c H1=>if c=true then u σ H1 Q else Q false H1
noncomputable def Hr(t u:TT):TT:=fun σ H Q=>t σ H fun c H1=>if c=true then Q true H1 else u σ H1 Q
noncomputable def EM(t:TT):TT:=fun σ H Q=>t σ H fun c H1=>Q (!c) H1
theorem yT(ha:PT X a tA):PW X (.BoolOp .And [a] pos) tA:=by
 intro wh pins s σ H Q I h;refine isTrue_and (cB (ha pins s σ H Q I h) fun c s1 e=>?_)
 cases c with
 |true=>exact isTrue_and_nil e
 |false=>exact e
theorem Dq(ha:PT X a tA):PW X (.BoolOp .Or [a] pos) tA:=by
 intro wh pins s σ H Q I h;refine isTrue_or (cB (ha pins s σ H Q I h) fun c s1 e=>?_)
 cases c with
 |false=>exact isTrue_or_nil e
 |true=>exact e
theorem B9(ha:PT X a tA)(hb:PW X (.BoolOp .And (b::rest) pos) tB'):PW X (.BoolOp .And (a::b::rest) pos) (Ce tA tB'):=by
 intro wh pins s σ H Q I h;refine isTrue_and (cB (ha pins s σ H _ I h) fun c s1 ⟨H1,I1,q1⟩=>?_)
 cases c with
 |true=>exact hb wh pins s1 σ H1 Q I1 q1
 |false=>exact⟨H1,I1,q1⟩
theorem ER(ha:PT X a tA)(hb:PW X (.BoolOp .Or (b::rest) pos) tB'):PW X (.BoolOp .Or (a::b::rest) pos) (Hr tA tB'):=by
 intro wh pins s σ H Q I h;refine isTrue_or (cB (ha pins s σ H _ I h) fun c s1 ⟨H1,I1,q1⟩=>?_)
 cases c with
 |true=>exact⟨H1,I1,q1⟩
 |false=>exact hb wh pins s1 σ H1 Q I1 q1
theorem BG(ha:PT X a tA):PT X (.UnaryOp .Not a pos) (EM tA):=by
 intro pins s σ H Q I h;exact isTrue_not (ha pins s σ H (fun c H1=>Q (!c) H1) I h)
noncomputable def A2(ta tb:TE):TE:=fun σ H Q=>ta σ H fun x H1=>∃ c,x=.bl c/\if c=true then tb σ H1 Q else Q (.bl false) H1
theorem CU{op}{t:TE}(h:PE X a t):PE X (.BoolOp op [a] pos) t:=fun pins s σ H Q I hw=>BoolOp_one (h pins s σ H Q I hw)
theorem BB(ha:PE X a ta)(hb:PE X (.BoolOp .And (b::rest) pos) tb):PE X (.BoolOp .And (a::b::rest) pos) (A2 ta tb):=by
 intro pins s σ H Q I h;refine BoolOp_and (cB (ha pins s σ H _ I h) fun v s1 ⟨x,H1,I1,r1,q1⟩=>?_);obtain⟨c,rfl,q1⟩:=q1;cases r1;refine L_ ?_
 cases c with
 |true=>exact hb pins s1 σ H1 Q I1 q1
 |false=>exact⟨.bl false,H1,I1,rfl,q1⟩
noncomputable def IW(t:TT)(ta tb:TE):TE:=fun σ H Q=>t σ H fun c H1=>if c=true then ta σ H1 Q else tb σ H1 Q
theorem vG(hc:PT X c tA)(ha:PE X a ta)(hb:PE X b tb):PE X (.IfExp c a b pos) (IW tA ta tb):=by
 intro pins s σ H Q I h;refine wpAny_IfExp (cB (hc pins s σ H _ I h) fun d s1 ⟨H1,I1,q1⟩=>?_)
 cases d with
 |true=>exact ha pins s1 σ H1 Q I1 q1
 |false=>exact hb pins s1 σ H1 Q I1 q1
end
noncomputable def cJ(K:Oi)(H:Hp)(a:Addr)(xs:List V):Prop:=
 Rd H a (.lst xs) \/
  ∃(o:Obj) (its:Array Value) (n:Nat),K.lookup a=some o/\o.cls=.type "list"/\o.dict=none/\o.data=.seq its n/\its.size<=sizeLine/\Vals xs its.toList
noncomputable def cD(K:Oi)(H:Hp)(a:Addr)(xs:List V):Prop:=
 Rd H a (.tup xs) \/
  ∃(o:Obj) (its:Array Value) (n:Nat),K.lookup a=some o/\o.cls=.type "tuple"/\o.data=.seq its n/\its.size<=sizeLine/\Vals xs its.toList
noncomputable def Hj:Value->Option V
 |.none=>some .aJ
 |.bool b=>some (.bl b)
 |.int i _=>some (.int i)
 |.str x _=>some (.str x)
 |.bytes b _=>some (.sU b)
 |.float b _=>some (.DQ b)
 |.ref a=>some (.ref a)
 |.type n=>some (.ty n)
 |_=>none
theorem RelV.abs{x:V}(r:RelV x u):Hj u=some x:=by
 cases x with
 |aJ=>cases r;rfl
 |bl _=>cases r;rfl
 |int _=>obtain⟨t,rfl⟩:=r;rfl
 |str _=>obtain⟨t,rfl⟩:=r;rfl
 |sU _=>obtain⟨t,rfl⟩:=r;rfl
 |DQ _=>obtain⟨t,rfl⟩:=r;rfl
 |ref _=>cases r;rfl
 |ty _=>cases r;rfl
theorem RelV.inj{x y:V}(r:RelV x u)(q:RelV y u):x=y:=Option.some.inj (r.abs.symm.trans q.abs)
theorem Vals.inj:∀{xs ys:List V} {us:List Value},Vals xs us->Vals ys us->xs=ys
 |_,_,_,.nil,.nil=>rfl
 |_,_,_,.cons r t,.cons r' t'=>by rw[r.inj r',Vals.inj t t']
section
variable {X:Cx} {pins:List (Addr×Obj)} {σ:St} {H:Hp} {s:Shared} {a:Addr} {xs ys:List V}
theorem cJ.of(h:H a=some (.lst xs)):cJ K H a xs:=.inl (.inl h)
theorem cD.of(h:H a=some (.tup xs)):cD K H a xs:=.inl (.inl h)
theorem Inv.list(I:Inv X pins σ H s)(h:cJ X.K H a xs):∃ its:List Value,Vals xs its/\PlainL s.heap a its.toArray/\xs.length<=sizeLine:=by
 rcases h with h|⟨o,its,n,hk,hc,hd,hs,hz,r⟩
 ·obtain⟨z,its,n,r,e⟩:=h.ok I.aU;exact⟨its,r,⟨_,n,e,rfl,rfl,rfl⟩,z⟩
 ·refine⟨its.toList,r,⟨o,n,I.gJ a o hk,hc,hd,by simpa using hs⟩,?_⟩
  have e:=r.length;simp only[JZ] at e;lia
theorem Inv.tuple(I:Inv X pins σ H s)(h:cD X.K H a xs):∃ its:List Value,Vals xs its/\IsTup s.heap a its.toArray/\xs.length<=sizeLine:=by
 rcases h with h|⟨o,its,n,hk,hc,hs,hz,r⟩
 ·obtain⟨z,its,r,p⟩:=h.ok I.aU;exact⟨its,r,p.to,z⟩
 ·refine⟨its.toList,r,⟨o,I.gJ a o hk,hc,n,by simpa using hs⟩,?_⟩
  have e:=r.length;simp only[JZ] at e;lia
theorem Inv.jI(I:Inv X pins σ H s)(h:cJ X.K H a xs)(h':cJ X.K H a ys):xs=ys:=by
 obtain⟨its,r,⟨o,n,e,_,_,d⟩,_⟩:=I.list h;obtain⟨its',r',⟨o',n',e',_,_,d'⟩,_⟩:=I.list h';rw[e] at e';cases e';rw[d] at d'
 injection d' with d1 _
 have:its=its':=by simpa using JS Array.toList d1
 subst this;exact r.inj r'
theorem Inv.ip(I:Inv X pins σ H s)(h:cD X.K H a xs)(h':cD X.K H a ys):xs=ys:=by
 obtain⟨its,r,⟨o,e,_,n,d⟩,_⟩:=I.tuple h;obtain⟨its',r',⟨o',e',_,n',d'⟩,_⟩:=I.tuple h';rw[e] at e';cases e';rw[d] at d'
 injection d' with d1 _
 have:its=its':=by simpa using JS Array.toList d1
 subst this;exact r.inj r'
end
abbrev Cx.ka(X:Cx)(E:Value->Shared->Prop):Cx:={X with xe:=E}
abbrev Cx.zX(X:Cx):Cx:=X.ka fun _ _=>False
theorem Cx.Ok.ka(ok:X.Ok)(E:Value->Shared->Prop):(X.ka E).Ok:=
 ⟨ok.mod,ok.kind,ok.glob,ok.blt,ok.above,ok.inj,ok.has,ok.FC,ok.hd,ok.frames,ok.G2,ok.IH,ok.bs,ok.yN,ok.x3,ok.zx,ok.j9,ok.DT,ok.tabs⟩
theorem Cx.Ok.fM(ok:(X.ka E).Ok):X.Ok:=
 ⟨ok.mod,ok.kind,ok.glob,ok.blt,ok.above,ok.inj,ok.has,ok.FC,ok.hd,ok.frames,ok.G2,ok.IH,ok.bs,ok.yN,ok.x3,ok.zx,ok.j9,ok.DT,ok.tabs⟩
section
variable {X:Cx} {pins:List (Addr×Obj)} {σ:St} {H:Hp} {s:Shared} {E:Value->Shared->Prop}
theorem Inv.ka(I:Inv X pins σ H s)(E:Value->Shared->Prop):Inv (X.ka E) pins σ H s:=⟨I.ok.ka E,I.os,I.bare,I.base,I.loc,I.cell,I.free,I.dR,I.pin,I.aU,I.len⟩
theorem Inv.fM(I:Inv (X.ka E) pins σ H s):Inv X pins σ H s:=⟨I.ok.fM,I.os,I.bare,I.base,I.loc,I.cell,I.free,I.dR,I.pin,I.aU,I.len⟩
theorem SP.fM{D:Ends}{f:Flow}(h:SP (X.ka E) pins D f s'):SP X pins D f s':=by
 cases f with
 |next=>obtain⟨σ',H',I,q⟩:=h;exact⟨σ',H',I.fM,q⟩
 |brk=>obtain⟨σ',H',I,q⟩:=h;exact⟨σ',H',I.fM,q⟩
 |cont=>obtain⟨σ',H',I,q⟩:=h;exact⟨σ',H',I.fM,q⟩
 |ret u=>obtain⟨v,σ',H',I,r,q⟩:=h;exact⟨v,σ',H',I.fM,r,q⟩
theorem pq.zX{st:List Stmt}{t:TS}(h:pq X.zX st t):pq X st t:=fun pins s σ H D I hw =>
 Kw (h pins s σ H D (I.ka _) hw) (fun _ _ q=>q.fM) fun _ _ z=>False.elim z
end
section
variable {X:Cx} {st:Stmt} {rest:List Stmt} {t u:TS} {e:Expr} {te:TE} {pos:Pos}
def AQ:TS:=fun D σ H=>D.nx σ H
noncomputable def Ec(t u:TS):TS:=fun D σ H=>t {D with nx:=u D} σ H
theorem yF:pq X [] AQ:=fun _ _ σ H _ I h=>Mt ⟨σ,H,I,h⟩
theorem vF(h1:PS X st t)(h2:pq X rest u):pq X (st::rest) (Ec t u):=by
 intro pins s σ H D I h;refine wpAny_execs_cons (cB (h1 pins s σ H {D with nx:=u D} I h) fun f s1 q=>?_)
 cases f with
 |next =>
  obtain⟨σ',H',I',q⟩:=q;exact h2 pins s1 σ' H' D I' q
 |ret v=>exact q
 |brk=>exact q
 |cont=>exact q
theorem yR(h1:PS X st t):pq X [st] t:=by
 intro pins s σ H D I h;refine wpAny_execs_cons (cB (h1 pins s σ H D I h) fun f s1 q=>?_)
 cases f with
 |next=>exact Mt q
 |ret v=>exact q
 |brk=>exact q
 |cont=>exact q
theorem Inv.quiet(I:Inv X pins σ H s):interactive X.env=false:=by simp[interactive,I.ok.kind]
noncomputable def AJ(te:TE):TS:=fun D σ H=>te σ H fun _ H1=>D.nx σ H1
theorem zP(he:PE X e te)(hs:autoParam (swapsWith e none pos.line X.env=pure false) ℜ0):PS X (.Expr e pos) (AJ te):=by
 intro pins s σ H D I h;exact wpAny_Expr_any (cB (he pins s σ H _ I h) fun v s1 ⟨x,H1,I1,r1,q1⟩=>⟨σ,H1,I1,q1⟩) I.quiet hs
def EO(te:TE):TS:=fun D σ H=>te σ H D.rt
theorem BA(he:PE X e te):PS X (.Return (some e) pos) (EO te):=by
 intro pins s σ H D I h;exact wpAny_Return_some (cB (he pins s σ H _ I h) fun v s1 ⟨x,H1,I1,r1,q1⟩=>⟨x,σ,H1,I1,r1,q1⟩)
noncomputable def Ff(c:TT)(t u:TS):TS:=fun D σ H=>c σ H fun b H1=>if b=true then t D σ H1 else u D σ H1
theorem Ek{a b:List Stmt}{tc:TT}(hc:PT X c tc)(ha:pq X a t)(hb:pq X b u):PS X (.If c a b pos) (Ff tc t u):=by
 intro pins s σ H D I h;refine wpAny_If (cB (hc pins s σ H _ I h) fun d s1 ⟨H1,I1,q1⟩=>?_)
 cases d with
 |true=>exact ha pins s1 σ H1 D I1 q1
 |false=>exact hb pins s1 σ H1 D I1 q1
end
abbrev TG:=V->St->Hp->(St->Hp->Prop)->Prop
abbrev sY:=List V->St->Hp->(St->Hp->Prop)->Prop
noncomputable def PG(X:Cx)(target:Expr)(t:TG):Prop:=
 ∀(pins:List (Addr×Obj)) (s:Shared) (σ:St) (H:Hp) (v:V) (u:Value) (Q:St->Hp->Prop),Inv X pins σ H s->RelV v u->t v σ H Q ->
  wpAny (model X.prog X.w) X.A (assign target X.env u) (fun _ s'=>∃ σ' H',Inv X pins σ' H' s'/\Q σ' H') X.xe s
noncomputable def DO(X:Cx)(ts:List Expr)(t:sY):Prop:=
 ∀(pins:List (Addr×Obj)) (s:Shared) (σ:St) (H:Hp) (vs:List V) (us:List Value) (Q:St->Hp->Prop),Inv X pins σ H s->Vals vs us->t vs σ H Q ->
  wpAny (model X.prog X.w) X.A (assignInOrder ((assignEach ts X.env).map (·.2)) us) (fun _ s'=>∃ σ' H',Inv X pins σ' H' s'/\Q σ' H') X.xe s
abbrev CK:=V->V->V->Hp->(Hp->Prop)->Prop
noncomputable def B7(X:Cx)(t:CK):Prop:=
 ∀(pins:List (Addr×Obj)) (s:Shared) (σ:St) (H:Hp) (o i v:V) (ov iv u:Value) (Q:Hp->Prop),Inv X pins σ H s->RelV o ov->RelV i iv->RelV v u->t o i v H Q ->
  wpAny (model X.prog X.w) X.A (setItem ov iv u) (fun _ s'=>∃ H',Inv X pins σ H' s'/\Q H') X.xe s
section
variable {X:Cx} {pos:Pos}
noncomputable def dE(i:Nat):TG:=fun v σ H Q=>Q (σ.set i (some v)) H
theorem yq(hN:X.N.Nodup)(hi:X.N[i]?=some x)(hx:Loc X.env.scope x)(hf:autoParam (X.fn x=true\/X.env.scope.names.lookup x=some .local) ℜ2):PG X (.Name x pos) (dE i):=by
 intro pins s σ H v u Q I r h;exact wpAny_assign_Name (mY I hN hi hx r (fun s' I'=>⟨_,H,I',h⟩) hf)
def yr:sY:=fun vs σ H Q=>vs=[]/\Q σ H
noncomputable def ko(t:TG)(u:sY):sY:=fun vs σ H Q=>∃ v r,vs=v::r/\t v σ H fun σ' H'=>u r σ' H' Q
theorem zF:DO X [] yr:=by
 intro pins s σ H vs us Q I r h;obtain⟨e,h⟩:=h;subst e;cases r;exact assignInOrder_nil ⟨σ,H,I,h⟩
theorem u6{t:TG}{u:sY}(h1:PG X e t)(h2:DO X es u)
  (hs:autoParam ((assignEach (e::es) X.env).map (·.2)=assign e X.env::(assignEach es X.env).map (·.2)) ℜ0):DO X (e::es) (ko t u):=by
 intro pins s σ H vs us Q I r h;obtain⟨v,vr,e1,h⟩:=h;subst e1
 cases r with
 |cons r rr =>
  rw[hs];refine assignInOrder_cons (cB (h1 pins s σ H _ _ _ I r h) fun _ s1 ⟨σ1,H1,I1,q1⟩=>?_);exact h2 pins s1 σ1 H1 _ _ Q I1 rr q1
noncomputable def As(K:Oi)(n:Nat)(t:sY):TG:=fun v σ H Q=>∃ a xs,v=.ref a/\cD K H a xs/\xs.length=n/\t xs σ H Q
theorem uF{t:sY}{n:Nat}(hc:X.calm=true)(h:DO X es t)
  (hn:autoParam ((assignEach es X.env).length=n) ℜ0) (hst:autoParam ((assignEach es X.env).findIdx? (·.1)=none) ℜ0):PG X (.Tuple es k pos) (As X.K n t):=by
 intro pins s σ H v u Q I r hw;obtain⟨a,xs,e1,hq,hl,hw⟩:=hw;subst e1;cases r;obtain⟨its,rv,ht,hz⟩:=I.tuple hq;refine assign_Tuple_tuple (I.ok.hd hc) ht (by simp[hn,<- hl,rv.length]) hst fun h' hx=>?_
 have I1:Inv X pins σ H {s with heap:=h'}:=I.kept (t':=s.toks) fun b o e=>hx b o (JP (JA e)) e
 exact h pins _ σ H xs _ Q I1 (by simpa using rv) hw
noncomputable def Es(to ti:TE)(t:CK):TG:=fun v σ H Q=>to σ H fun o H1=>ti σ H1 fun i H2=>t o i v H2 fun H3=>Q σ H3
theorem Cz{o i:Expr}{to ti:TE}{t:CK}(ho:PE X o to)(hi:PE X i ti)(hs:B7 X t)
  (ha:autoParam (∀ v,assign (.Subscript o i pos) X.env v=(do
   let ov <- holding [v] (eval o X.env)
   let iv <- holding [v,ov] (eval i X.env)
   standAt pos
   holding [v,ov,iv] (setItem ov iv v)
   release [v,ov,iv] [])) ℜ3):PG X (.Subscript o i pos) (Es to ti t):=by
 intro pins s σ H v u Q I r h;rw[ha];refine Jp (Kf (cB (ho pins s σ H _ I h) fun ov s1 ⟨x,H1,I1,r1,q1⟩=>?_));refine Jp (Kf (cB (hi pins s1 σ H1 _ I1 q1) fun iv s2 ⟨y,H2,I2,r2,q2⟩=>?_));refine Jp (Mf (Jp (Kf (cB (hs pins s2 σ H2 x y v ov iv u _ I2 r1 r2 r q2) fun _ s3 ⟨H3,I3,q3⟩=>?_))));exact wpAny_release ⟨σ,H3,I3,q3⟩
noncomputable def pw(te:TE)(g:TG):TS:=fun D σ H=>te σ H fun x H1=>g x σ H1 D.nx
theorem BK{te:TE}{g:TG}(he:PE X e te)(hg:PG X tg g)(hs:autoParam (swapsWithSole [tg] e pos.line X.env=pure false) ℜ0)(hw:autoParam (swappedStores [tg] e X.env=pure none) ℜ0)
  (h1:autoParam ((assignEach [tg] X.env).map (·.2)=[assign tg X.env]) ℜ0):PS X (.Assign [tg] e pos) (pw te g):=by
 intro pins s σ H D I h;refine wpAny_Assign_stores (cB (he pins s σ H _ I h) fun v s1 ⟨x,H1,I1,r1,q1⟩=>?_) hs hw;rw[h1];exact cB (hg pins s1 σ H1 x v _ I1 r1 q1) fun _ s2 q=>q
theorem CT{te:TE}{pos':Pos}(hN:X.N.Nodup)(hi:X.N[i]?=some x)(hx:Loc X.env.scope x)(he:PE X e te)(hs:autoParam (swapsWith e (some (.Name x pos')) pos.line X.env=pure false) ℜ0)(hf:autoParam (X.fn x=true\/X.env.scope.names.lookup x=some .local) ℜ2):
  PS X (.Assign [.Name x pos'] e pos) (pw te (dE i)):=by
 intro pins s σ H D I h;refine wpAny_Assign_Name (cB (he pins s σ H _ I h) fun v s1 ⟨y,H1,I1,r1,q1⟩=>?_) hs;exact mY I1 hN hi hx r1 (fun s2 I2=>⟨_,H1,I2,q1⟩) hf
end
section
variable {X:Cx} {pos:Pos}
noncomputable def uE(c:TT)(tb:TS):TS:=fun D σ H=>∃ W:Nat->St->Hp->Prop,(∃ m,W m σ H)/\∀ m σ H,W m σ H ->
 c σ H fun b H1=>if b=true then ∃ N:St->Hp->Prop,(∀ σ' H',N σ' H'->∃ m',m'<m/\W m' σ' H')/\tb {D with nx:=N,ct:=N,bk:=D.nx} σ H1 else D.nx σ H1
theorem x6{tc:TT}{tb:TS}(hp:PassesOwn (model X.prog X.w) X.A X.env X.xe)(hc:PT X c tc)(hb:pq X body tb):PS X (.While c body [] pos) (uE tc tb):=by
 intro pins s σ H D I h;obtain⟨W,⟨m0,w0⟩,turn⟩:=h;refine wpAny_While (codeAny_whileLoop (fun n s'=>∃ σ' H',Inv X pins σ' H' s'/\W n σ' H') ?_ m0 ⟨σ,H,I,w0⟩);rintro n s1 ⟨σ1,H1,I1,w1⟩;refine Lg hp (cB (hc pins s1 σ1 H1 _ I1 (turn n σ1 H1 w1)) fun b s2 ⟨H2,I2,q2⟩=>?_)
 cases b with
 |true =>
  obtain⟨N,hN,q2⟩:=q2;rw[Jy rfl];refine Lg hp (cB (hb pins s2 σ1 H2 _ I2 q2) fun f s3 q3=>?_)
  cases f with
  |next =>
   obtain⟨σ3,H3,I3,n3⟩:=q3;obtain⟨m',hm,w3⟩:=hN σ3 H3 n3;exact⟨m',hm,σ3,H3,I3,w3⟩
  |cont =>
   obtain⟨σ3,H3,I3,n3⟩:=q3;obtain⟨m',hm,w3⟩:=hN σ3 H3 n3;exact⟨m',hm,σ3,H3,I3,w3⟩
  |brk=>exact q3
  |ret v=>exact q3
 |false =>
  rw[Ju Jw];exact Mt ⟨σ1,H2,I2,q2⟩
end
structure It where
 go:Nat->Hp->Prop
 Gf:Nat->Hp->V->Hp->Prop
 stop:Nat->Hp->Prop
noncomputable def kn(X:Cx)(pins:List (Addr×Obj))(H:Hp)(b:Addr):Prop:=
 H b=none/\b≠X.env.locals/\b∉X.fs/\(b∈X.ex\/X.s₀.heap.objs.size<=b)/\(∀ x c,X.env.cells.lookup x=some c->c≠b)/\∀ p∈X.pn++pins,p.1≠b
theorem Inv.sL{H':Hp}(I:Inv X pins σ H s)(hb:s.heap.objs.size<=b)(hn:H' b=none):kn X pins H' b:=by
 refine⟨hn,Lx (JO I.lt hb),I.Ge hb,.inr (JD I.sz hb),fun x c e z=>?_,fun p hp z=>?_⟩
 ·obtain⟨v,q⟩:=I.cell x c e;exact absurd (JO q.lt (by rw[z];exact hb)) (KU _)
 ·exact absurd (JO (JA (I.pin p hp).1) (by rw[z];exact hb)) (KU _)
structure Turn (P:Program) (w:World) (K:Oi) (tg:Expr) (J:It) (fp:List Addr) (it:Addr) (tn:Nat->Heap->Prop):Prop where
 mem:it∈fp
 obj:∀ i h,tn i h->∀ b∈fp,∃ o,h.get? b=some o/\∀ v,o.data≠.cell v
 keep:∀ i h h',tn i h->(∀ b∈fp,∀ o,h.get? b=some o->h'.get? b=some o)->tn i h'
 item:∀(X:Cx),X.prog=P->X.w=w->X.K=K->X.calm=true->∀(i:Nat) (pins:List (Addr×Obj)) (s:Shared) (σ:St) (H:Hp) (E:Value->Shared->Prop),Inv X pins σ H s->(∀ b∈fp,kn X pins H b)->tn i s.heap->J.go i H ->
  wpAny (model P w) X.A (pyNext (.ref it)) (fun r s1=>∃ u,r=some u /\
   wpAny (model P w) X.A (letOwnedTupleGo tg (.ref it) u) (fun _ s2=>∃ x H',Inv X pins σ H' s2/\RelV x u/\J.Gf i H x H'/\tn (i+1) s2.heap/\∀ b∈fp,H' b=none) E s1) E s
 done:∀(X:Cx),X.prog=P->X.w=w->X.K=K->X.calm=true->∀(i:Nat) (pins:List (Addr×Obj)) (s:Shared) (σ:St) (H:Hp) (E:Value->Shared->Prop),Inv X pins σ H s->(∀ b∈fp,kn X pins H b)->tn i s.heap->J.stop i H ->
  wpAny (model P w) X.A (pyNext (.ref it)) (fun r s1=>r=none/\Inv X pins σ H s1) E s
 self:∀(A:Around) (i:Nat) (s:Shared) (Q:Value->Shared->Prop) (E:Value->Shared->Prop),tn i s.heap->Q (.ref it) s->wpAny (model P w) A (pyIter (.ref it)) Q E s
abbrev TI:=St->Hp->(It->Hp->Prop)->Prop
noncomputable def IK(X:Cx)(pins:List (Addr×Obj))(σ:St)(tg:Expr)(R:It->Hp->Prop)(itv:Value)(s2:Shared):Prop:=
 ∃(it:Addr) (fp:List Addr) (tn:Nat->Heap->Prop) (J:It) (H':Hp),itv=.ref it/\Inv X pins σ H' s2/\Turn X.prog X.w X.K tg J fp it tn/\tn 0 s2.heap/\(∀ b∈fp,kn X pins H' b)/\R J H'
noncomputable def PI(X:Cx)(tg iter:Expr)(wi:TI):Prop:=
 ∀(pins:List (Addr×Obj)) (s:Shared) (σ:St) (H:Hp) (R:It->Hp->Prop),Inv X pins σ H s->wi σ H R ->
  wpAny (model X.prog X.w) X.A (eval iter X.env) (fun v s1=>wpAny (model X.prog X.w) X.A (pyIter v) (IK X pins σ tg R) X.xe s1) X.xe s
theorem w6{it:Addr}{n:String}{vs:Array Value}{Q:Unit->Shared->Prop}(ho:s.heap.get? it=some o)(hc:o.cls=.type n)(hd:o.data=.fields vs)
    (hn:["enumerate","zip","dict_itemiterator","dict_reverseitemiterator","odict_iterator","itertools.zip_longest","itertools.pairwise"].contains n=false) (hQ:Q () s):wpAny M A (letOwnedTupleGo tg (.ref it) u) Q E s:=by
  unfold letOwnedTupleGo
  cases tg<;>first
    |exact Jx hQ
    | (cases u<;>first
        |exact Jx hQ
        | (refine Jp (wpAny_load ho ?_)
           rw[hc,hd];show wpAny M A (if (["enumerate","zip","dict_itemiterator","dict_reverseitemiterator","odict_iterator","itertools.zip_longest","itertools.pairwise"].contains n && vs[0]? == some (rawInt _))=true then _ else _) Q E s
           rw[Ju (by intro h;rw[hn,NK] at h;cases h)]
           exact Jx hQ))
noncomputable def Fy(K:Oi)(a:Addr):It:=
 ⟨fun i H=>∃ xs x,cJ K H a xs/\xs[i]?=some x,fun i H x H'=>H'=H/\∀ xs,cJ K H a xs->xs[i]?=some x,fun i H=>∃ xs,cJ K H a xs/\xs.length<=i⟩
noncomputable def Fp(K:Oi)(a:Addr):It:=
 ⟨fun i H=>∃ xs x,cD K H a xs/\xs[i]?=some x,fun i H x H'=>H'=H/\∀ xs,cD K H a xs->xs[i]?=some x,fun i H=>∃ xs,cD K H a xs/\xs.length<=i⟩
noncomputable def Fq(lo:Int)(n:Nat):It:=⟨fun i _=>i<n,fun i H x H'=>H'=H/\x=.int (lo+i),fun i _=>n<=i⟩
theorem t7(a it:Addr):Turn P w K tg (Fy K a) [it] it (fun i h=>h.IsListIter it a i) where
 mem:=by simp
 obj:=fun i h st b hb=>by
  have e:b=it:=by simpa using hb
  subst e;obtain⟨o,e,c,d⟩:=st;exact⟨o,e,fun v z=>by rw[d] at z;cases z⟩
 keep:=fun i h h' st k=>st.at fun o e=>k it (by simp) o e
 item:=by
  intro X hP hw hK hc i pins s σ H E I hf st hg;subst hP hw hK;obtain⟨xs,x,hq,hx⟩:=hg;obtain⟨its,rv,p,hz⟩:=I.list hq;obtain⟨u,hu,ru⟩:=rv.get hx;obtain⟨f0,f1,f2,f3,f4,f5⟩:=hf it (by simp)
  refine N5 st p.isList (x:=u) (by simpa using hu) fun h' st' sb=>?_
  have I1:Inv X pins σ H {s with heap:=h'}:=I.turned (t':=s.toks) (fun b o hb e=>(sb.2 b hb).trans e) f0 f1 f3 f4 f5
  obtain⟨o,e,c,d⟩:=id st';exact⟨u,rfl,w6 (s:={s with heap:=h'}) e c d (by decide) ⟨x,H,I1,ru,⟨rfl,fun ys hy=>by rw[I.jI hy hq];exact hx⟩,st',fun b hb=>(hf b hb).1⟩⟩
 done:=by
  intro X hP hw hK hc i pins s σ H E I hf st hg;subst hP hw hK;obtain⟨xs,hq,hx⟩:=hg;obtain⟨its,rv,p,hz⟩:=I.list hq;obtain⟨f0,f1,f2,f3,f4,f5⟩:=hf it (by simp)
  have hl:=rv.length;exact wpAny_pyNext_list_end (I.ok.hd hc) st p.isList (by simp;lia) fun h' eb=>⟨rfl,I.turned (t':=s.toks) (fun b o hb e=>eb b o hb e) f0 f1 f3 f4 f5⟩
 self:=fun _ _ _ _ _ st h=>wpAny_pyIter_listiter st h
theorem oK(a it:Addr):Turn P w K tg (Fp K a) [it] it (fun i h=>h.IsTupleIter it a i) where
 mem:=by simp
 obj:=fun i h st b hb=>by
  have e:b=it:=by simpa using hb
  subst e;obtain⟨o,e,c,d⟩:=st;exact⟨o,e,fun v z=>by rw[d] at z;cases z⟩
 keep:=fun i h h' st k=>st.at fun o e=>k it (by simp) o e
 item:=by
  intro X hP hw hK hc i pins s σ H E I hf st hg;subst hP hw hK;obtain⟨xs,x,hq,hx⟩:=hg;obtain⟨its,rv,p,hz⟩:=I.tuple hq;obtain⟨u,hu,ru⟩:=rv.get hx;obtain⟨f0,f1,f2,f3,f4,f5⟩:=hf it (by simp)
  refine wpAny_pyNext_tuple_item st (show s.heap.IsTuple a its.toArray from p) (x:=u) (by simpa using hu) fun h' st' sb=>?_
  have I1:Inv X pins σ H {s with heap:=h'}:=I.turned (t':=s.toks) (fun b o hb e=>(sb.2 b hb).trans e) f0 f1 f3 f4 f5
  obtain⟨o,e,c,d⟩:=id st';exact⟨u,rfl,w6 (s:={s with heap:=h'}) e c d (by decide) ⟨x,H,I1,ru,⟨rfl,fun ys hy=>by rw[I.ip hy hq];exact hx⟩,st',fun b hb=>(hf b hb).1⟩⟩
 done:=by
  intro X hP hw hK hc i pins s σ H E I hf st hg;subst hP hw hK;obtain⟨xs,hq,hx⟩:=hg;obtain⟨its,rv,p,hz⟩:=I.tuple hq;obtain⟨f0,f1,f2,f3,f4,f5⟩:=hf it (by simp)
  have hl:=rv.length;exact wpAny_pyNext_tuple_end (I.ok.hd hc) st (show s.heap.IsTuple a its.toArray from p) (by simp;lia) fun h' eb=>⟨rfl,I.turned (t':=s.toks) (fun b o hb e=>eb b o hb e) f0 f1 f3 f4 f5⟩
 self:=fun _ _ _ _ _ st h=>wpAny_pyIter_tupleiter st h
theorem oP{w:World}(it:Addr)(lo:Int)(n:Nat):Turn P w K tg (Fq lo n) [it] it (fun i h=>IsRangeIter h it (lo+(i:Nat)*1) ((n:Int)-(i:Nat)) 1) where
 mem:=by simp
 obj:=fun i h st b hb=>by
  have e:b=it:=by simpa using hb
  subst e;exact⟨_,st,fun v z=>by
   have z':Data.fields _=Data.cell v:=z
   cases z'⟩
 keep:=fun i h h' st k=>k it (by simp) _ st
 item:=by
  intro X hP hw hK hc i pins s σ H E I hf st hg;subst hP hw hK;obtain⟨f0,f1,f2,f3,f4,f5⟩:=hf it (by simp)
  have W:=Walks.range (prog:=X.prog) (w:=X.w) (I.ok.hd hc) it lo 1 n;refine W.item i s _ _ hg st fun v h' tk hv st' kk=>?_;obtain⟨t,rfl⟩:=hv;have I1:Inv X pins σ H {s with heap:=h',toks:=tk}:=I.turned (fun b o hb e=>kk b o (by simpa using hb) e) f0 f1 f3 f4 f5
  refine⟨_,rfl,w6 (s:={s with heap:=h',toks:=tk}) (n:="range_iterator") st' rfl rfl (by decide) ⟨.int (lo+i),H,I1,⟨t,?_⟩,⟨rfl,rfl⟩,st',fun b hb=>(hf b hb).1⟩⟩
  rw[Int.mul_one]
 done:=by
  intro X hP hw hK hc i pins s σ H E I hf st hg;subst hP hw hK;obtain⟨f0,f1,f2,f3,f4,f5⟩:=hf it (by simp)
  exact wpAny_pyNext_range_end (I.ok.hd hc) st (by have:n<=i:=hg;lia) fun h' eb=>⟨rfl,I.turned (t':=s.toks) (fun b o hb e=>eb b o hb e) f0 f1 f3 f4 f5⟩
 self:=fun _ _ _ _ _ st h=>wpAny_pyIter_rangeiter st h
section
variable {X:Cx} {tg:Expr}
theorem wu{R:It->Hp->Prop}{lo hi:Int}{t u v:Tok}{tk:Nat}(I:Inv X pins σ H s)(h1:-(2^62)<=lo)(h2:lo<2^62)(h3:-(2^62)<=hi)(h4:hi<2^62)
  (q:R (Fq lo (hi-lo).toNat) H):wpAny (model X.prog X.w) X.A (pyIter (.ref s.heap.objs.size)) (IK X pins σ tg R) E {s with heap:=s.heap.push {cls:=.type "range",data:=.fields #[.int lo t,.int hi u,.int 1 v]},toks:=tk}:=by
 refine wpAny_pyIter_range (IsRange.new ..) (small_one h1 h2 h3 h4) ?_;have I1:Inv X pins σ H {s with heap:=s.heap.push {cls:=.type "range",data:=.fields #[.int lo t,.int hi u,.int 1 v]},toks:=tk}:=I.kept fun b o e=>Jr _ e
 refine⟨(s.heap.push {cls:=.type "range",data:=.fields #[.int lo t,.int hi u,.int 1 v]}).objs.size,[(s.heap.push {cls:=.type "range",data:=.fields #[.int lo t,.int hi u,.int 1 v]}).objs.size],_,_,H,rfl,
  I1.kept (t':=tk) fun b o e=>Jr _ e,oP _ lo (hi-lo).toNat,?_,fun b hb=>?_,q⟩
 ·have e1:lo+((0:Nat):Int)*1=lo:=by simp
  have e2:(((hi-lo).toNat:Nat):Int)-((0:Nat):Int)=Builtin.Range.rangeSize lo hi 1:=by rw[rangeSize_one];split<;>lia
  show IsRangeIter _ _ (lo+((0:Nat):Int)*1) ((((hi-lo).toNat:Nat):Int)-((0:Nat):Int)) 1;rw[e1,e2];exact JC _ rfl
 ·have e:b=(s.heap.push {cls:=.type "range",data:=.fields #[.int lo t,.int hi u,.int 1 v]}).objs.size:=by simpa using hb
  subst e;exact I1.sL (J6 _) (I1.aU.fresh (J6 _))
noncomputable def vM(ta:TA):TI:=fun σ H R=>ta σ H fun vs H1=>∃ j:Int,vs=[.int j]/\-(2^62)<=j/\j<2^62/\R (Fq 0 j.toNat) H1
theorem tM{a:Expr}{ta:TA}{p pos:Pos}(hg:Gl X "range")(hm:X.mg "range"=none)(ha:PA X [a] ta)(hs:autoParam (starEach [a] X.env=[(false,eval a X.env)]) ℜ0):PI X tg (.Call (.Name "range" p) [a] [] pos) (vM ta):=by
 intro pins s σ H R I h;refine Call_ (ft I hg hm boot_range (KC (cB (ha pos pins s σ H _ I h) fun us s1 ⟨vs,H1,I1,r1,q1⟩=>?_) hs rfl));obtain⟨j,e,q1,q2,q⟩:=q1;subst e
 cases r1 with
 |cons r rr =>
  cases rr;obtain⟨t,rfl⟩:=r;exact call_range_1 (wu I1 (by lia) (by lia) q1 q2 (by simpa using q))
noncomputable def FE(wi:TI)(g:TG)(tb:TS):TS:=fun D σ H=>wi σ H fun J H1=>∃ W:Nat->Nat->St->Hp->Prop,(∃ m,W 0 m σ H1)/\∀ i m σ H,W i m σ H ->
 (J.stop i H/\D.nx σ H)\/(J.go i H/\∃ N:St->Hp->Prop,(∀ σ' H',N σ' H'->∃ m',m'<m/\W (i+1) m' σ' H')/\∀ x H',J.Gf i H x H'->g x σ H' fun σ2 H2=>tb {D with nx:=N,ct:=N,bk:=D.nx} σ2 H2)
noncomputable def j6(fp:List Addr)(h:Heap):List (Addr×Obj):=fp.filterMap fun b=>(h.get? b).map fun o=>(b,o)
theorem eW(hb:b∈fp)(e:h.get? b=some o):(b,o)∈j6 fp h:=LU.mpr ⟨b,hb,by rw[e];rfl⟩
theorem sP{p:Addr×Obj}(hp:p∈j6 fp h):p.1∈fp/\h.get? p.1=some p.2:=by
 obtain⟨b,hb,e⟩:=LU.mp hp
 cases q:h.get? b with
 |none=>rw[q] at e;cases e
 |some o =>
  rw[q] at e;have e':(b,o)=p:=Option.some.inj e;subst e';exact⟨hb,q⟩
theorem Inv.pinned(I:Inv X pins σ H s)(hf:∀ b∈fp,kn X pins H b)(ho:∀ b∈fp,∃ o,s.heap.get? b=some o/\∀ v,o.data≠.cell v):Inv X (pins++j6 fp s.heap) σ H s:=
 I.lZ fun p hp=>(K4.mp hp).elim (fun z=>I.pin p (JQ _ z)) fun z=>by
  obtain⟨hb,e⟩:=sP z;obtain⟨f0,f1,f2,_⟩:=hf p.1 hb;obtain⟨o,e',d⟩:=ho p.1 hb;rw[e] at e';cases e';exact⟨e,f0,f1,f2,d⟩
theorem Inv.fA{pl:List (Addr×Obj)}(I:Inv X (pins++pl) σ H s):Inv X pins σ H s:=I.lZ fun p hp=>I.pin p (JQ _ (Ms _ hp))
theorem CF{iter:Expr}{wi:TI}{g:TG}{tb:TS}{pos:Pos}(hp:PassesOwn (model X.prog X.w) X.A X.env X.xe)(hc:X.calm=true)(hi:PI X tg iter wi)(hg:PG X tg g)(hb:pq X body tb)
  (hs:autoParam (∀ x,foldedSetIterable iter X.env x=pure x) ℜ3):PS X (.For tg iter body [] pos) (FE wi g tb):=by
 intro pins s σ H D I h;refine wpAny_For (cB (hi pins s σ H _ I h) fun v s1 h1=>cB h1 fun itv s2 h2=>?_) hs;obtain⟨it,fp,tn,J,H2,e,I2,T,st2,f2,W,⟨m0,w0⟩,turn⟩:=h2;subst e;have stat:∀{H':Hp},(∀ b∈fp,H' b=none)->∀ b∈fp,kn X pins H' b:=fun hn b hb=>⟨hn b hb,(f2 b hb).2⟩;refine codeAny_forLoop_any (fun n s'=>∃ i σ' H',Inv X pins σ' H' s'/\tn i s'.heap/\(∀ b∈fp,H' b=none)/\W i n σ' H') ?_ m0 ⟨0,σ,H2,I2,st2,fun b hb=>(f2 b hb).1,w0⟩;rintro n s3 ⟨i,σ3,H3,I3,st3,fr3,w3⟩;rcases turn i n σ3 H3 w3 with ⟨stop,qn⟩|⟨go,N,hN,step⟩
 ·refine Lg hp (cB (T.done X rfl rfl rfl hc i pins s3 σ3 H3 X.xe I3 (stat fr3) st3 stop) fun r s4 ⟨hr,I4⟩=>?_);subst hr;exact Mt ⟨σ3,H3,I4,qn⟩
 ·refine Lg hp (cB (T.item X rfl rfl rfl hc i pins s3 σ3 H3 X.xe I3 (stat fr3) st3 go) fun r s4 ⟨u,hr,h4⟩=>?_);subst hr;refine Lg hp (cB h4 fun _ s5 ⟨x,H5,I5,r5,y5,st5,fr5⟩=>?_);have I5':=I5.pinned (stat fr5) (T.obj _ _ st5);refine Lg hp (cB (hg _ s5 σ3 H5 x u _ I5' r5 (step x H5 y5)) fun _ s6 ⟨σ6,H6,I6,q6⟩=>?_);refine Lg hp (cB (hb _ s6 σ6 H6 _ I6 q6) fun f s7 q7=>?_);have again:∀{σ7:St} {H7:Hp},Inv X (pins++j6 fp s5.heap) σ7 H7 s7->N σ7 H7->∃ m,m<n/\∃ i σ' H',Inv X pins σ' H' s7/\tn i s7.heap/\(∀ b∈fp,H' b=none)/\W i m σ' H':=fun {σ7 H7} I7 n7=>by
   obtain⟨m',hm,w7⟩:=hN σ7 H7 n7;refine⟨m',hm,i+1,σ7,H7,I7.fA,T.keep _ _ _ st5 fun b hb o e=>(I7.pin (b,o) (JQ _ (JQ _ (eW hb e)))).1,fun b hb=>?_,w7⟩;obtain⟨o,e,d⟩:=T.obj _ _ st5 b hb;exact (I7.pin (b,o) (JQ _ (JQ _ (eW hb e)))).2.1
  cases f with
  |next=>obtain⟨σ7,H7,I7,n7⟩:=q7;exact again I7 n7
  |cont=>obtain⟨σ7,H7,I7,n7⟩:=q7;exact again I7 n7
  |brk=>obtain⟨σ7,H7,I7,q7⟩:=q7;exact⟨σ7,H7,I7.fA,q7⟩
  |ret v=>obtain⟨x7,σ7,H7,I7,r7,q7⟩:=q7;exact⟨x7,σ7,H7,I7.fA,r7,q7⟩
end
abbrev R2:=V->V->Hp->VK->Prop
variable{r:R2}
noncomputable def dm(X:Cx)(f:Value->Value->Sem Value)(r:R2):Prop:=
 ∀(pins:List (Addr×Obj)) (s:Shared) (σ:St) (H:Hp) (x y:V) (v u:Value) (Q:VK),Inv X pins σ H s->RelV x v->RelV y u->r x y H Q ->
  wpAny (model X.prog X.w) X.A (f v u) (EP X pins σ Q) X.xe s
noncomputable def G8(X:Cx)(f:Value->Sem Value)(r:V->Hp->VK->Prop):Prop:=
 ∀(pins:List (Addr×Obj)) (s:Shared) (σ:St) (H:Hp) (x:V) (v:Value) (Q:VK),Inv X pins σ H s->RelV x v->r x H Q ->
  wpAny (model X.prog X.w) X.A (f v) (EP X pins σ Q) X.xe s
noncomputable def bI(X:Cx)(f:Value)(r:List V->Hp->VK->Prop):Prop:=
 ∀(pins:List (Addr×Obj)) (s:Shared) (σ:St) (H:Hp) (xs:List V) (us:List Value) (Q:VK),Inv X pins σ H s->Vals xs us->r xs H Q ->
  wpAny (model X.prog X.w) X.A (call f us) (EP X pins σ Q) X.xe s
noncomputable def Hh(X:Cx)(r:V->Hp->(Bool->Hp->Prop)->Prop):Prop:=
 ∀(pins:List (Addr×Obj)) (s:Shared) (σ:St) (H:Hp) (x:V) (v:Value) (Q:Bool->Hp->Prop),Inv X pins σ H s->RelV x v->r x H Q ->
  wpAny (model X.prog X.w) X.A (truthy v) (TP X pins σ Q) X.xe s
noncomputable def zJ(r:R2)(ta tb:TE):TE:=fun σ H Q=>ta σ H fun x H1=>tb σ H1 fun y H2=>r x y H2 Q
noncomputable def IL(r:V->Hp->VK->Prop)(ta:TE):TE:=fun σ H Q=>ta σ H fun x H1=>r x H1 Q
noncomputable def rI(C:Int->Int->Prop)(g:Int->Int->V):R2:=fun x y H Q=>∃ i j,x=.int i/\y=.int j/\C i j/\Q (g i j) H
noncomputable def yi(g:Int->Int->V):R2:=fun x y H Q=>∃ i j,x=.int i/\y=.int j/\Q (g i j) H
noncomputable def rU(g:Int->V):V->Hp->VK->Prop:=fun x H Q=>∃ i,x=.int i/\Q (g i) H
section
variable {X:Cx} {a b c:Expr} {ta tb tc:TE} {pos:Pos}
theorem CS(ha:PE X a ta)(hb:PE X b tb){R:V->V->Hp->Prop}(I:Inv X pins σ H s)
  (h:ta σ H fun x H1=>tb σ H1 fun y H2=>R x y H2)  
  (hf:∀ v u s2 x y H2,Inv X pins σ H2 s2->RelV x v->RelV y u->R x y H2->wpAny (model X.prog X.w) X.A (f v u) Q X.xe s2) :
  wpAny (model X.prog X.w) X.A (eval a X.env) (fun v s₁=>wpAny (model X.prog X.w) X.A (eval b X.env) (fun u s₂=>wpAny (model X.prog X.w) X.A (f v u) Q X.xe s₂) X.xe s₁) X.xe s:=by
 refine cB (ha pins s σ H _ I h) fun v s1 ⟨x,H1,I1,r1,q1⟩=>?_;refine cB (hb pins s1 σ H1 _ I1 q1) fun u s2 ⟨y,H2,I2,r2,q2⟩=>?_;exact hf v u s2 x y H2 I2 r1 r2 q2
theorem FP{op:Operator}(ho:dm X (binaryOp op) r)(ha:PE X a ta)(hb:PE X b tb):PE X (.BinOp a op b pos) (zJ r ta tb):=by
 intro pins s σ H Q I h;exact wpAny_BinOp (CS ha hb I h fun v u s2 x y H2 I2 rx ry q=>ho pins s2 σ H2 x y v u Q I2 rx ry q)
theorem EN{op:UnaryOp}{r:V->Hp->VK->Prop}(ho:G8 X (unaryOp op) r)(ha:PE X a ta):PE X (.UnaryOp op a pos) (IL r ta):=by
 intro pins s σ H Q I h;exact UnaryOp_ (cB (ha pins s σ H _ I h) fun v s1 ⟨x,H1,I1,r1,q1⟩=>ho pins s1 σ H1 x v Q I1 r1 q1)
theorem Gw{C:Int->Int->Prop}{g:Int->Int->Int}
  (rule:∀(i j:Int) (t u:Tok) (s:Shared) (Q:Value->Shared->Prop) (E:Value->Shared->Prop),C i j->Q (.int (g i j) s.toks) {s with toks:=s.toks+1}->wpAny (model X.prog X.w) X.A (f (.int i t) (.int j u)) Q E s) :
  dm X f (rI C fun i j=>.int (g i j)):=by
 intro pins s σ H x y v u Q I rx ry h;obtain⟨i,j,rfl,rfl,hc,q⟩:=h;obtain⟨t,rfl⟩:=rx;obtain⟨t',rfl⟩:=ry;exact rule i j t t' s _ _ hc ⟨.int (g i j),H,I.tok _,⟨_,rfl⟩,q⟩
theorem EI{g:Int->Int->Int}
  (rule:∀(i j:Int) (t u:Tok) (s:Shared) (Q:Value->Shared->Prop) (E:Value->Shared->Prop),Q (.int (g i j) s.toks) {s with toks:=s.toks+1}->wpAny (model X.prog X.w) X.A (f (.int i t) (.int j u)) Q E s) :
  dm X f (yi fun i j=>.int (g i j)):=by
 intro pins s σ H x y v u Q I rx ry h;obtain⟨i,j,rfl,rfl,q⟩:=h;obtain⟨t,rfl⟩:=rx;obtain⟨t',rfl⟩:=ry;exact rule i j t t' s _ _ ⟨.int (g i j),H,I.tok _,⟨_,rfl⟩,q⟩
theorem zo{g:Int->Int->Bool}
  (rule:∀(i j:Int) (t u:Tok) (s:Shared) (Q:Value->Shared->Prop) (E:Value->Shared->Prop),Q (.bool (g i j)) s->wpAny (model X.prog X.w) X.A (f (.int i t) (.int j u)) Q E s) :
  dm X f (yi fun i j=>.bl (g i j)):=by
 intro pins s σ H x y v u Q I rx ry h;obtain⟨i,j,rfl,rfl,q⟩:=h;obtain⟨t,rfl⟩:=rx;obtain⟨t',rfl⟩:=ry;exact rule i j t t' s _ _ ⟨.bl (g i j),H,I,rfl,q⟩
noncomputable def Iu(i j:Int):Prop:=0<=j/\j<=1000000/\i.natAbs<2^64
noncomputable def om(i j:Int):Prop:=(-(2^64)<i/\i<2^64)\/(-(2^64)<j/\j<2^64)
theorem om.ok{i j:Int}(h:om i j):IntMulOk i j:=by
 rcases h with ⟨h1,h2⟩|⟨h1,h2⟩
 ·exact .of_left (intBits_le_64 h1 h2)
 ·exact .of_right (intBits_le_64 h1 h2)
theorem CO:dm X (binaryOp .Add) (yi fun i j=>.int (i+j)):=EI fun _ _ _ _ _ _ _ q=>add_int q
theorem dD:dm X (binaryOp .Sub) (yi fun i j=>.int (i-j)):=EI fun _ _ _ _ _ _ _ q=>sub_int q
theorem Dp:dm X (binaryOp .Mult) (rI om fun i j=>.int (i*j)):=Gw fun _ _ _ _ _ _ _ hc q=>mul_int q hc.ok
theorem dZ:dm X (binaryOp .Mod) (rI (fun _ j=>0<j) fun i j=>.int (i % j)):=Gw fun i j _ _ _ _ _ hc q=>by
 have h1:(0:Int)<j:=hc;exact mod_int' (by lia) (by rw[Int.fmod_eq_emod_of_nonneg i (by lia)];exact q)
theorem CD:dm X (binaryOp .Pow) (rI Iu fun i j=>.int (i^j.toNat)):=Gw fun _ _ _ _ _ _ _ hc q=>pow_int_small hc.1 hc.2.1 hc.2.2 q
theorem Jo{f:Value->Sem Value}{g:Int->Int}
  (rule:∀(i:Int) (t:Tok) (s:Shared) (Q:Value->Shared->Prop) (E:Value->Shared->Prop),Q (.int (g i) s.toks) {s with toks:=s.toks+1}->wpAny (model X.prog X.w) X.A (f (.int i t)) Q E s) :
  G8 X f (rU fun i=>.int (g i)):=by
 intro pins s σ H x v Q I rx h;obtain⟨i,rfl,q⟩:=h;obtain⟨t,rfl⟩:=rx;exact rule i t s _ _ ⟨.int (g i),H,I.tok _,⟨_,rfl⟩,q⟩
theorem DF:G8 X (unaryOp .USub) (rU fun i=>.int (-i)):=Jo fun _ _ _ _ _ q=>neg_int q
end
noncomputable def FZ:V->V->Bool
 |.aJ,.aJ=>true|.aJ,.int _=>true|.int _,.aJ=>true|.aJ,.bl _=>true|.bl _,.aJ=>true|.aJ,.str _=>true|.str _,.aJ=>true
 |.int _,.int _=>true|.bl _,.bl _=>true|.str _,.str _=>true|.sU _,.sU _=>true
 |.int _,.str _=>true|.str _,.int _=>true|.bl _,.str _=>true|.str _,.bl _=>true
 |_,_=>false
noncomputable def IX:R2:=fun x y H Q=>FZ x y=true/\Q (.bl (decide (x=y))) H
noncomputable def IT:R2:=fun x y H Q=>FZ x y=true/\Q (.bl (!decide (x=y))) H
theorem rE{i j:Int}:decide (V.int i=V.int j)=(i == j):=by
 rw[Mw];simp
theorem wy{i j:Bool}:decide (V.bl i=V.bl j)=(i == j):=by
 rw[Mw];simp
theorem qF{i j:Str}:decide (V.str i=V.str j)=(i == j):=by
 rw[Mw];simp
theorem qJ{i j:Array UInt8}:decide (V.sU i=V.sU j)=(i.toList == j.toList):=by
 rw[Mw];cases i;cases j;simp
section
variable {X:Cx} {a b c:Expr} {ta tb tc:TE} {pos:Pos}
theorem aN{Q:VK}{k k':Bool}(I:Inv X pins σ H s)(q:Q (.bl k) H)(e:k=k'):EP X pins σ Q (.bool k') s:=by
 subst e;exact⟨.bl k,H,I,rfl,q⟩
theorem Ee:dm X (compareOp .Eq) IX:=by
 intro pins s σ H x y v u Q I rx ry h;obtain⟨hs,q⟩:=h
 cases x with
 |aJ =>
  cases rx
  cases y with
  |aJ=>cases ry;exact PySem.EqNone.eq_none_none (aN I q (by simp))
  |bl j=>cases ry;exact PySem.EqNone.eq_none_bool (aN I q (by simp))
  |int j=>obtain⟨t',rfl⟩:=ry;exact PySem.EqNone.eq_none_int (aN I q (by simp))
  |str j=>obtain⟨t',rfl⟩:=ry;exact PySem.EqNone.eq_none_str (aN I q (by simp))
  |_=>exact absurd (show false=true from hs) Jw
 |bl i =>
  cases rx
  cases y with
  |aJ=>cases ry;exact PySem.EqNone.eq_bool_none (aN I q (by simp))
  |bl j=>cases ry;exact eq_bool (aN I q wy)
  |str j=>obtain⟨t',rfl⟩:=ry;exact PySem.EqMixed.eq_bool_str (aN I q (by simp))
  |_=>exact absurd (show false=true from hs) Jw
 |int i =>
  obtain⟨t,rfl⟩:=rx
  cases y with
  |aJ=>cases ry;exact PySem.EqNone.eq_int_none (aN I q (by simp))
  |int j=>obtain⟨t',rfl⟩:=ry;exact eq_int (aN I q rE)
  |str j=>obtain⟨t',rfl⟩:=ry;exact PySem.EqMixed.eq_int_str (aN I q (by simp))
  |_=>exact absurd (show false=true from hs) Jw
 |str i =>
  obtain⟨t,rfl⟩:=rx
  cases y with
  |aJ=>cases ry;exact PySem.EqNone.eq_str_none (aN I q (by simp))
  |bl j=>cases ry;exact PySem.EqMixed.eq_str_bool (aN I q (by simp))
  |int j=>obtain⟨t',rfl⟩:=ry;exact PySem.EqMixed.eq_str_int (aN I q (by simp))
  |str j=>obtain⟨t',rfl⟩:=ry;exact eq_str (aN I q qF)
  |_=>exact absurd (show false=true from hs) Jw
 |sU i =>
  obtain⟨t,rfl⟩:=rx
  cases y with
  |sU j=>obtain⟨t',rfl⟩:=ry;exact PySem.W.eq_bytes (aN I q qJ)
  |_=>exact absurd (show false=true from hs) Jw
 |_=>cases y<;>exact absurd (show false=true from hs) Jw
theorem Fs:dm X (compareOp .NotEq) IT:=by
 intro pins s σ H x y v u Q I rx ry h;obtain⟨hs,q⟩:=h
 cases x with
 |aJ =>
  cases rx
  cases y with
  |aJ=>cases ry;exact PySem.EqNone.ne_none_none (aN I q (by simp))
  |bl j=>cases ry;exact PySem.EqNone.ne_none_bool (aN I q (by simp))
  |int j=>obtain⟨t',rfl⟩:=ry;exact PySem.EqNone.ne_none_int (aN I q (by simp))
  |str j=>obtain⟨t',rfl⟩:=ry;exact PySem.EqNone.ne_none_str (aN I q (by simp))
  |_=>exact absurd (show false=true from hs) Jw
 |bl i =>
  cases rx
  cases y with
  |aJ=>cases ry;exact PySem.EqNone.ne_bool_none (aN I q (by simp))
  |bl j=>cases ry;exact ne_bool (aN I q (JS not wy))
  |str j=>obtain⟨t',rfl⟩:=ry;exact PySem.EqMixed.ne_bool_str (aN I q (by simp))
  |_=>exact absurd (show false=true from hs) Jw
 |int i =>
  obtain⟨t,rfl⟩:=rx
  cases y with
  |aJ=>cases ry;exact PySem.EqNone.ne_int_none (aN I q (by simp))
  |int j=>obtain⟨t',rfl⟩:=ry;exact ne_int (aN I q (JS not rE))
  |str j=>obtain⟨t',rfl⟩:=ry;exact PySem.EqMixed.ne_int_str (aN I q (by simp))
  |_=>exact absurd (show false=true from hs) Jw
 |str i =>
  obtain⟨t,rfl⟩:=rx
  cases y with
  |aJ=>cases ry;exact PySem.EqNone.ne_str_none (aN I q (by simp))
  |bl j=>cases ry;exact PySem.EqMixed.ne_str_bool (aN I q (by simp))
  |int j=>obtain⟨t',rfl⟩:=ry;exact PySem.EqMixed.ne_str_int (aN I q (by simp))
  |str j=>obtain⟨t',rfl⟩:=ry;exact ne_str (aN I q (JS not qF))
  |_=>exact absurd (show false=true from hs) Jw
 |sU i =>
  obtain⟨t,rfl⟩:=rx
  cases y with
  |sU j=>obtain⟨t',rfl⟩:=ry;exact PySem.W.ne_bytes (aN I q (JS not qJ))
  |_=>exact absurd (show false=true from hs) Jw
 |_=>cases y<;>exact absurd (show false=true from hs) Jw
theorem kY:dm X (compareOp .Lt) (yi fun i j=>.bl (decide (i<j))):=zo fun _ _ _ _ _ _ _ q=>lt_int q
theorem AS:dm X (compareOp .LtE) (yi fun i j=>.bl (decide (i<=j))):=zo fun _ _ _ _ _ _ _ q=>le_int q
theorem Az:dm X (compareOp .Gt) (yi fun i j=>.bl (decide (j<i))):=zo fun _ _ _ _ _ _ _ q=>gt_int q
theorem AV:dm X (compareOp .GtE) (yi fun i j=>.bl (decide (j<=i))):=zo fun _ _ _ _ _ _ _ q=>ge_int q
theorem sE:dm X (compareOp .In) (fun x y H Q=>∃ i j,x=.str i/\y=.str j/\Q (.bl (!(Builtin.Str.occurrences j i 0 j.length 1).isEmpty)) H):=by
 intro pins s σ H x y v u Q I rx ry h;obtain⟨i,j,rfl,rfl,q⟩:=h;obtain⟨t,rfl⟩:=rx;obtain⟨t',rfl⟩:=ry;exact in_str (aN I q rfl)
theorem lY:dm X (compareOp .Is) (fun x y H Q=>y=.aJ/\Q (.bl (decide (x=.aJ))) H):=by
 intro pins s σ H x y v u Q I rx ry h;obtain⟨rfl,q⟩:=h;cases ry;refine is_none_gen (aN I q ?_)
 cases x<;>first
  | (cases rx;rfl)
  | (obtain⟨t,rfl⟩:=rx;rfl)
theorem fX:dm X (compareOp .IsNot) (fun x y H Q=>y=.aJ/\Q (.bl (!decide (x=.aJ))) H):=by
 intro pins s σ H x y v u Q I rx ry h;obtain⟨rfl,q⟩:=h;cases ry;refine isnot_none_gen (aN I q ?_)
 cases x<;>first
  | (cases rx;rfl)
  | (obtain⟨t,rfl⟩:=rx;rfl)
theorem dm.or{r':R2}(h:dm X f r)(h':dm X f r'):dm X f (fun x y H Q=>r x y H Q\/r' x y H Q):=by
 intro pins s σ H x y v u Q I rx ry q;rcases q with q|q
 ·exact h pins s σ H x y v u Q I rx ry q
 ·exact h' pins s σ H x y v u Q I rx ry q
theorem yw{op:CmpOp}(ho:dm X (compareOp op) r)(ha:PE X a ta)(hb:PE X b tb)(hm:behindInMarks op b=false):PE X (.Compare a [op] [b] pos) (zJ r ta tb):=by
 intro pins s σ H Q I h;exact wpAny_Compare1 (CS ha hb I h fun v u s2 x y H2 I2 rx ry q=>ho pins s2 σ H2 x y v u Q I2 rx ry q) hm
noncomputable def uH(t:TE):TT:=fun σ H Q=>t σ H fun x H'=>∃ k,x=.bl k/\Q k H'
theorem Ag{op:CmpOp}(ho:dm X (compareOp op) r)(ha:PE X a ta)(hb:PE X b tb)(hm:behindInMarks op b=false):PT X (.Compare a [op] [b] pos) (uH (zJ r ta tb)):=by
 intro pins s σ H Q I h;refine wpAny_isTrue_Compare1 (cB (ha pins s σ H _ I h) fun v s1 ⟨x,H1,I1,r1,q1⟩=>cB (hb pins s1 σ H1 _ I1 q1) fun u s2 ⟨y,H2,I2,r2,q2⟩=>
  cB (ho pins s2 σ H2 x y v u _ I2 r1 r2 q2) fun c s3 ⟨z,H3,I3,r3,k,e,q3⟩=>?_) hm
 subst e;cases r3;exact L_ ⟨H3,I3,q3⟩
noncomputable def pj(r r':R2)(ta tb tc:TE):TE:=fun σ H Q=>ta σ H fun x H1=>tb σ H1 fun y H2=>r x y H2 fun z H3=>∃ k,z=.bl k /\
 (if k=true then tc σ H3 fun w' H4=>r' y w' H4 Q else Q (.bl false) H3)
theorem vh{op op':CmpOp}{r':R2}(ho:dm X (compareOp op) r)(ho':dm X (compareOp op') r')(ha:PE X a ta)(hb:PE X b tb)(hc:PE X c tc)
  (hm:autoParam (lastMarks [op,op'] [b,c]=false) ℜ5):PE X (.Compare a [op,op'] [b,c] pos) (pj r r' ta tb tc):=by
 intro pins s σ H Q I h;refine Compare_chain (cB (ha pins s σ H _ I h) fun v s1 ⟨x,H1,I1,r1,q1⟩=>chain_link (cB (hb pins s1 σ H1 _ I1 q1) fun u s2 ⟨y,H2,I2,r2,q2⟩=>
  cB (ho pins s2 σ H2 x y v u _ I2 r1 r2 q2) fun d s3 ⟨z,H3,I3,r3,k,e,q3⟩=>?_)) hm
 subst e;cases r3;refine L_ ?_
 cases k with
 |false=>exact ite_ff ⟨.bl false,H3,I3,rfl,q3⟩
 |true=>exact ite_tt (chain_last (cB (hc pins s3 σ H3 _ I3 q3) fun w' s4 ⟨z',H4,I4,r4,q4⟩=>ho' pins s4 σ H4 y z' u w' Q I4 r2 r4 q4))
noncomputable def xf(K:Oi)(x:V)(H:Hp)(k:Bool):Prop:=
 match x with
 |.aJ=>k=false
 |.bl b=>k=b
 |.int i=>k=(i != 0)
 |.str y=>y.length<=sizeLine/\k=((y.length:Int) != 0)
 |.sU y=>y.size<=sizeLine/\k=((y.size:Int) != 0)
 |.ref p=>(∃ xs,cJ K H p xs/\k=!xs.isEmpty)\/(∃ xs,cD K H p xs/\k=!xs.isEmpty)\/∃ kvs,H p=some (.dK kvs)/\k=!kvs.isEmpty
 |_=>False
theorem pI{κ:Type}{kvs:List (κ×V)}{vs:List (κ×Value)}(r:KV kvs vs):(!vs.isEmpty)=!kvs.isEmpty:=by
 cases r<;>rfl
theorem jS{its:List Value}(r:Vals xs its):(!its.toArray.isEmpty)=!xs.isEmpty:=by
 cases r<;>simp
theorem gA:(sizeLine:Nat)<2^63:=by rw[KP];decide
theorem BQ:Hh X (fun x H Q=>∃ k,xf X.K x H k/\Q k H):=by
 intro pins s σ H x v Q I rx h;obtain⟨k,e,q⟩:=h;have hl:=gA;have hs:sizeLine=16777216:=KP
 cases x with
 |aJ =>
  cases rx;have e':k=false:=e;subst e';exact truthy_none ⟨H,I,q⟩
 |bl b =>
  cases rx;have e':k=b:=e;subst e';exact L_ ⟨H,I,q⟩
 |int i =>
  obtain⟨t,rfl⟩:=rx;have e':k=(i != 0):=e;subst e';exact PySem.P.truthy_int ⟨H,I,q⟩
 |str y =>
  obtain⟨t,rfl⟩:=rx;obtain⟨hy,e'⟩:y.length<=sizeLine/\k=((y.length:Int) != 0):=e;subst e';exact PySem.P.truthy_str (by lia) ⟨H,I.tok _,q⟩
 |sU y =>
  obtain⟨t,rfl⟩:=rx;obtain⟨hy,e'⟩:y.size<=sizeLine/\k=((y.size:Int) != 0):=e;subst e';exact PySem.W.truthy_bytes (by lia) ⟨H,I.tok _,q⟩
 |ref p =>
  cases rx;have e':(∃ xs,cJ X.K H p xs/\k=!xs.isEmpty)\/(∃ xs,cD X.K H p xs/\k=!xs.isEmpty)\/∃ kvs,H p=some (.dK kvs)/\k=!kvs.isEmpty:=e;rcases e' with ⟨xs,hx,e'⟩|⟨xs,hx,e'⟩|⟨kvs,hx,e'⟩
  ·subst e';obtain⟨its,r,pl,hz⟩:=I.list hx;have hlen:=r.length;exact wpAny_truthy_list pl.isList (by simp only[Jv];lia) ⟨H,I.tok _,by rw[jS r];exact q⟩
  ·subst e';obtain⟨its,r,pl,hz⟩:=I.tuple hx;have hlen:=r.length;exact truthy_tuple pl (by simp only[Jv];lia) ⟨H,I.tok _,by rw[jS r];exact q⟩
  ·subst e';obtain⟨hz,hS,vs,r,m⟩:kvs.length<=sizeLine/\(p == sysModules)=false/\∃ vs,KV kvs vs/\s.heap.DictOf (mR X.prog X.w) p vs:=I.aU p _ hx;have hlen:kvs.length=vs.length:=Paired.length r;exact wpAny_truthy_dict hS m (by lia) ⟨H,I.tok _,by rw[pI r];exact q⟩
 |_=>exact (show False from e).elim
theorem wI(ha:PE X a ta)(he:∀ whole,isTrue a X.env whole=(do let v <- whole;standAt a.pos;holding [v] (truthy v))):
  PT X a (fun σ H Q=>ta σ H fun x H'=>∃ k,xf X.K x H' k/\Q k H'):=by
 intro pins s σ H Q I h;exact isTrue_plain (cB (ha pins s σ H _ I h) fun v s1 ⟨x,H1,I1,r1,q1⟩=>BQ pins s1 σ H1 x v Q I1 r1 q1) (he _)
theorem p6:dm X (binaryOp .Add) (fun x y H Q=>∃ i j,x=.str i/\y=.str j/\i.length+j.length<=sizeLine/\Q (.str (i++j)) H):=by
 intro pins s σ H x y v u Q I rx ry h;obtain⟨i,j,rfl,rfl,hz,q⟩:=h;obtain⟨t,rfl⟩:=rx;obtain⟨t',rfl⟩:=ry;exact add_str (fun t' tk=>⟨.str (i++j),H,I.tok _,⟨_,rfl⟩,q⟩) hz
theorem vals1{x:V}(r:Vals [x] us):∃ u,us=[u]/\RelV x u:=by
 cases r with
 |cons r1 r2=>cases r2;exact⟨_,rfl,r1⟩
theorem vals2{x y:V}(r:Vals [x,y] us):∃ u w',us=[u,w']/\RelV x u/\RelV y w':=by
 cases r with
 |cons r1 r2 =>
  cases r2 with
  |cons r3 r4=>cases r4;exact⟨_,_,rfl,r1,r3⟩
theorem tL(hc:X.calm=true):bI X (.builtin "max") (fun xs H Q=>∃ i j,xs=[.int i,.int j]/\Q (.int (if j > i then j else i)) H):=by
 intro pins s σ H xs us Q I r h;obtain⟨i,j,rfl,q⟩:=h;obtain⟨u,w',rfl,⟨t,rfl⟩,⟨t',rfl⟩⟩:=vals2 r;refine max_two_ints (I.ok.hd hc) fun h' tk k=>⟨_,H,I.kept k,?_,q⟩;by_cases hj:j > i
 ·rw[Jy hj,Jy hj];exact⟨_,rfl⟩
 ·rw[Ju hj,Ju hj];exact⟨_,rfl⟩
theorem sk(hc:X.calm=true):bI X (.builtin "min") (fun xs H Q=>∃ i j,xs=[.int i,.int j]/\Q (.int (if j<i then j else i)) H):=by
 intro pins s σ H xs us Q I r h;obtain⟨i,j,rfl,q⟩:=h;obtain⟨u,w',rfl,⟨t,rfl⟩,⟨t',rfl⟩⟩:=vals2 r;refine min_two_ints (I.ok.hd hc) fun h' tk k=>⟨_,H,I.kept k,?_,q⟩;by_cases hj:j<i
 ·rw[Jy hj,Jy hj];exact⟨_,rfl⟩
 ·rw[Ju hj,Ju hj];exact⟨_,rfl⟩
theorem kW:bI X (.type "int") (fun xs H Q=>(∃ i,xs=[.int i]/\Q (.int i) H)\/∃ k,xs=[.bl k]/\Q (.int (if k then 1 else 0)) H):=by
 intro pins s σ H xs us Q I r h;rcases h with ⟨i,rfl,q⟩|⟨k,rfl,q⟩
 ·obtain⟨u,rfl,t,rfl⟩:=vals1 r;exact call_int_int ⟨.int i,H,I,⟨_,rfl⟩,q⟩
 ·obtain⟨u,rfl,r1⟩:=vals1 r;cases r1;exact call_int_bool ⟨.int (if k then 1 else 0),H,I.tok _,⟨_,rfl⟩,q⟩
theorem m3:bI X (.type "str") (fun xs H Q=>∃ i,xs=[.int i]/\i.natAbs.log2<1920/\Q (.str (toString i)) H):=by
 intro pins s σ H xs us Q I r h;obtain⟨i,rfl,hz,q⟩:=h;obtain⟨u,rfl,t,rfl⟩:=vals1 r;exact PySem.P.str_of_int hz ⟨.str _,H,I.tok _,⟨_,rfl⟩,q⟩
end
structure C1 (h:Heap) (x dx C:Addr) (mA:Str->Option Value):Prop where
 obj:h.get? x=some (PySem.W.instObj C dx)
 ns:h.Ns1 dx mA
 ne:dx≠x
theorem sQ{dx:Addr}(n:h.Ns1 dx mA):∃ od,h.get? dx=some od/\∀ name,PySem.W.lookIn name od=some (mA name):=by
 obtain⟨o,es,ep,ho,hd,hk,_,hm⟩:=n;refine⟨o,ho,fun name=>?_⟩;have e:=hm name;unfold nsFind findBy at e;rw[<- Array.find?_toList] at e;unfold PySem.W.lookIn;rw[hd];dsimp only;split
 ·rename_i y q;rw[q] at e;exact JS some e
 ·rename_i q;rw[q] at e;have a:es.toList.any (·.refKey)=false:=by
   rw[List.any_eq_false];intro y hy;obtain⟨z,t,hkey⟩:=hk y (Array.mem_toList_iff.mp hy);simp[DictEntry.refKey,hkey]
  have a':¬ es.toList.any (·.refKey)=true:=by rw[a];exact Jw
  rw[Ju a'];exact JS some e
theorem C1.look{x dx C:Addr}(I:C1 h x dx C mA):∃ od,PySem.W.InstAt h x (PySem.W.instObj C dx) C (some od)/\∀ name,PySem.W.lookIn name od=some (mA name):=
 let ⟨od,ho,hl⟩:=sQ I.ns
 ⟨od,⟨I.obj,rfl,rfl,ho⟩,hl⟩
section
variable {prog:Program} {w:World} {A:Around} {E:Value->Shared->Prop} {s:Shared} {K:Oi} {x dx C f:Addr} {mA:Str->Option Value} {name:Str} {v:Value}
end
section
variable {P:Program} {w:World} {H H':Hp} {h h':Heap} {a C dx:Addr} {fs fs':List (Str×V)}
theorem zy(aU:fU P w H h)(e:H a=some (.ins C dx fs)):∃ mA,C1 h a dx C mA/\(∀ f,Dd (fs.lookup f) (mA f))/\PySem.Within mA (fs.map (·.1))/\fs.length<=1000/\H dx=some (.own a):=by
 obtain⟨d,z,ne,ob,mA,n,r,q⟩:=(show bO P w H h a (.ins C dx fs) from aU a _ e);exact⟨mA,⟨ob,n,ne⟩,r,q,z,d⟩
end
structure Iz (K:Oi) (C:Addr):Prop where
 pg:PySem.W.plainGet K C Str.empty=true
 hd:PySem.W.hasDictIn K C=true
 po:PySem.W.plainOver K C=true
 sa:PySem.W.findIn K (.ref C) "__setattr__"=some (some (.builtin "object.__setattr__"))
theorem Iz.get{C:Addr}(c:Iz K C)(f:Str):PySem.W.plainGet K C f=true:=c.pg
section
variable {X:Cx} {pins:List (Addr×Obj)} {σ:St} {H:Hp} {s:Shared} {a C dx:Addr} {fs:List (Str×V)} {f:Str} {v:V} {A:Around} {E:Value->Shared->Prop}
end
section
variable {X:Cx} {o e value:Expr} {f:Str} {pos pos' tpos:Pos} {ta tv:TE}
end
section
variable {X:Cx} {pins:List (Addr×Obj)} {σ:St} {H:Hp} {s:Shared} {A:Around} {E:Value->Shared->Prop} {Q:Value->Shared->Prop} {c:Value} {b:Bool}
inductive h9 (K:Oi) (H:Hp):V->Value->Prop where
 |aJ:h9 K H .aJ (.type "NoneType")
 |bl (x:Bool):h9 K H (.bl x) (.type "bool")
 |int (i:Int):h9 K H (.int i) (.type "int")
 |str (x:Str):h9 K H (.str x) (.type "str")
 |DQ (x:UInt64):h9 K H (.DQ x) (.type "float")
 |lst {a:Addr} {xs:List V} (e:H a=some (.lst xs)):h9 K H (.ref a) (.type "list")
 |hV {a:Addr} {o:Obj} {xs:List V} (e:H a=some (.hV o (.lst xs))):h9 K H (.ref a) (.type "list")
 |tup {a:Addr} {xs:List V} (e:H a=some (.tup xs)):h9 K H (.ref a) (.type "tuple")
 |dK {a:Addr} {kvs:List (Key×V)} (e:H a=some (.dK kvs)):h9 K H (.ref a) (.type "dict")
 |dT {a:Addr} {kvs:List (List Key×V)} (e:H a=some (.dT kvs)):h9 K H (.ref a) (.type "dict")
 |ins {a C dx:Addr} {fs:List (Str×V)} (e:H a=some (.ins C dx fs)) (cl:Iz K C) (ha:PySem.W.findIn K (.ref C) "__class__"=some (some (.builtin "object.__class__")))
   (hn:PySem.W.specialIn K (.builtin "object.__class__") "__get__"=some (some (.builtin "getset_descriptor.__get__"))) (htk:PySem.W.takesIn K (.builtin "object.__class__")=some true)
   (hm:PySem.W.mroIn K C (.type "object")=some true):h9 K H (.ref a) (.ref C)
theorem kU{x:V}{t:Value}(I:Inv X pins σ H s)(rx:RelV x u)(ty:h9 X.K H x t)(e:PySem.W.kitOne X.K t c=some b)(h:∀ tk,Q (.bool b) {s with toks:=tk}):
  wpAny (model X.prog X.w) A (call (.builtin "isinstance") [u,c]) Q E s:=by
 cases ty with
 |aJ=>cases (show u=Value.none from rx);exact PySem.W.kia_one PySem.W.kitx_none I.gJ True.intro e (fun z=>nomatch z) h
 |bl y=>cases (show u=Value.bool y from rx);exact PySem.W.kia_one PySem.W.kitx_bool I.gJ True.intro e (fun z=>nomatch z) h
 |int i=>obtain⟨t,q⟩:=(show ∃ t,u=Value.int i t from rx);cases q;exact PySem.W.kia_one PySem.W.kitx_int I.gJ True.intro e (fun z=>nomatch z) h
 |str y=>obtain⟨t,q⟩:=(show ∃ t,u=Value.str y t from rx);cases q;exact PySem.W.kia_one PySem.W.kitx_str I.gJ True.intro e (fun z=>nomatch z) h
 |DQ y=>obtain⟨t,q⟩:=(show ∃ t,u=Value.float y t from rx);cases q;exact PySem.W.kia_one PySem.W.kitx_float I.gJ True.intro e (fun z=>nomatch z) h
 |@lst a xs ea =>
  cases (show u=Value.ref a from rx)
  obtain⟨_,_,n,_,h1⟩:=(show bO X.prog X.w H s.heap a (.lst xs) from I.aU a _ ea);exact PySem.W.kia_one PySem.W.kitx_list I.gJ ⟨_,h1,rfl⟩ e (fun z=>nomatch z) h
 |@hV a ob xs ea =>
  cases (show u=Value.ref a from rx)
  obtain⟨_,_,_,n,_,h1⟩:=(show bO X.prog X.w H s.heap a (.hV ob (.lst xs)) from I.aU a _ ea);exact PySem.W.kia_one PySem.W.kitx_list I.gJ ⟨_,h1,rfl⟩ e (fun z=>nomatch z) h
 |@tup a xs ea =>
  cases (show u=Value.ref a from rx)
  obtain⟨_,_,_,p⟩:=(show bO X.prog X.w H s.heap a (.tup xs) from I.aU a _ ea);obtain⟨o,h1,h2,_⟩:=p;exact PySem.W.kia_one PySem.W.kitx_tuple I.gJ ⟨o,h1,h2⟩ e (fun z=>nomatch z) h
 |@dK a kvs ea =>
  cases (show u=Value.ref a from rx)
  obtain⟨_,_,vs,_,p⟩:=(show bO X.prog X.w H s.heap a (.dK kvs) from I.aU a _ ea);obtain⟨o,es,ep,h1,h2,_⟩:=p;exact PySem.W.kia_one PySem.W.kitx_dict I.gJ ⟨o,h1,h2.1⟩ e (fun z=>nomatch z) h
 |@dT a kvs ea =>
  cases (show u=Value.ref a from rx)
  obtain⟨_,_,xs,_,o,es,ep,h1,h2,_⟩:=(show bO X.prog X.w H s.heap a (.dT kvs) from I.aU a _ ea);exact PySem.W.kia_one PySem.W.kitx_dict I.gJ ⟨o,h1,h2.1⟩ e (fun z=>nomatch z) h
 |@ins a C dx fs ea cl ha hn htk hm =>
  cases (show u=Value.ref a from rx)
  obtain⟨mA,O,_⟩:=zy I.aU ea;obtain⟨od,J,_⟩:=O.look;exact PySem.W.kia_one (PySem.W.kitx_own (cl.get _) cl.hd ha hn htk hm) I.gJ J e (fun z=>nomatch z) h
end
structure bM (k:Nat) (A:Around):Prop where
 hd:A.handled=none
 dp:A.depth+3*k+5<recursionLimit
 un:A.units+16*k+200<cLine
 gd:A.guards=some []
theorem bM.mono(r:bM k A)(h:j<=k):bM j A:=⟨r.hd,by have:=r.dp;lia,by have:=r.un;lia,r.gd⟩
theorem bM.deeper(r:bM (k+1) A)(env:Env):bM k (A.deeper env):=
 ⟨r.hd,by have:=r.dp;show A.depth+1+3*k+5<_;lia,by have:=r.un;show A.units+3+16*k+200<_;lia,r.gd⟩
theorem bM.in1(r:bM (k+1) A):bM k A.in1:=
 ⟨r.hd,by have:=r.dp;show A.depth+3*k+5<_;lia,by have:=r.un;show A.units+1+16*k+200<_;lia,r.gd⟩
theorem bM.depth(r:bM k A):A.depth<recursionLimit:=by have:=r.dp;lia
theorem bM.units(r:bM k A):A.units+64<cLine:=by have:=r.un;lia
theorem bM.BI(r:bM k A):A.units<cLine:=by have:=r.un;lia
def nW:TA:=fun _ H Q=>Q [] H
noncomputable def kI(ta:TE)(tr:TA):TA:=fun σ H Q=>ta σ H fun x H1=>tr σ H1 fun xs H2=>Q (x::xs) H2
section
variable {X:Cx} {e:Expr} {es:List Expr} {te:TE} {t:TA} {pos:Pos}
theorem xO:PA X [] nW:=fun _ _ _ _ H Q I h=>Calls.spliced_nil ⟨[],H,I,.nil,h⟩
theorem qR(ha:PE X e te)(hr:PA X es t)(hs:autoParam (starEach (e::es) X.env=(false,eval e X.env)::starEach es X.env) ℜ0):PA X (e::es) (kI te t):=by
 intro pos pins s σ H Q I h;rw[hs];show wpAny _ _ (spliced ((false,eval e X.env)::backTo pos (starEach es X.env))) _ _ s;refine Calls.spliced_cons (cB (ha pins s σ H _ I h) fun u s1 ⟨x,H1,I1,r1,q1⟩=>?_);exact cB (hr pos pins s1 σ H1 _ I1 q1) fun us s2 ⟨xs,H2,I2,r2,q2⟩=>⟨x::xs,H2,I2,.cons r1 r2,q2⟩
noncomputable def EE(t:TA):TE:=fun σ H Q=>t σ H fun xs H1=>xs.length<=sizeLine/\∀ p,H1 p=none->Q (.ref p) (upd H1 p (.tup xs))
noncomputable def Ft(t:TA):TE:=fun σ H Q=>t σ H fun xs H1=>xs.length<=sizeLine/\∀ p,H1 p=none->Q (.ref p) (upd H1 p (.lst xs))
theorem Bs{x1}(h:PA X es t):PE X (.Tuple es x1 pos) (EE t):=by
 intro pins s σ H Q I hq;refine wpAny_Tuple_spliced (cB (h pos pins s σ H _ I hq) fun us s1 ⟨xs,H1,I1,r,z,q⟩=>⟨by rw[<- r.length];exact z,?_⟩)
 have hf:H1 s1.heap.objs.size=none:=I1.aU.fresh (J6 _);refine⟨.ref s1.heap.objs.size,upd H1 s1.heap.objs.size (.tup xs),I1.laid (t':=s1.toks) (fun b u e=>Jr _ e) (J6 _) ?_,rfl,q _ hf⟩;exact⟨z,us,r,⟨_,JC _ rfl,rfl,_,rfl,rfl⟩⟩
theorem BN(h:PA X es t):PE X (.List es pos) (Ft t):=by
 intro pins s σ H Q I hq;refine wpAny_List_spliced (cB (h pos pins s σ H _ I hq) fun us s1 ⟨xs,H1,I1,r,z,q⟩=>⟨by rw[<- r.length];exact z,?_⟩)
 have hf:H1 s1.heap.objs.size=none:=I1.aU.fresh (J6 _);refine⟨.ref s1.heap.objs.size,upd H1 s1.heap.objs.size (.lst xs),I1.laid (t':=s1.toks) (fun b u e=>Jr _ e) (J6 _) ?_,rfl,q _ hf⟩;exact⟨z,us,0,r,JC _ rfl⟩
end
abbrev Sp:=List V->Hp->VK->XK->Prop
variable{sp:Sp}
abbrev kF:=List Env->Hp->Shared->XK->Value->Shared->Prop
variable{CX:kF}
structure yx (P:Program) (w:World) (K:Oi) (mg:Str->Option Value) (base:Heap) (A:Around) (outer:List Env) (s:Shared) (H:Hp):Prop where
 frames:A.frames=some outer
 mod:Mod K mg base
 bs:∀ b o,base.get? b=some o->s.heap.get? b=some o/\H b=none
 yN:base.objs.size<=s.heap.objs.size
 j9:s.heap.FunFrames base outer
 DT:∀ b∈iQ outer,H b=none
 aU:fU P w H s.heap
 bare:AllBare s.gens
 tabs:TabsOk K H
noncomputable def CE(outer:List Env)(P:Program)(w:World)(H:Hp)(s:Shared)(Q:VK)(u:Value)(s':Shared):Prop:=
 ∃ v H',s'.os=s.os/\AllBare s'.gens/\Un (iQ outer) [] H H' s.heap s'.heap/\fU P w H' s'.heap/\RelV v u/\Q v H'
noncomputable def CR(CX:kF)(outer:List Env)(P:Program)(w:World)(H:Hp)(s:Shared)(Q:VK)(E:XK)(r:Result)(s':Shared):Prop:=
 match r with
 |.ok (.ret u)=>CE outer P w H s Q u s'
 |.ok _=>False
 |.error e=>CX outer H s E e s'
structure ee (P:Program) (w:World) (K:Oi) (mg:Str->Option Value) (base:Heap) (CX:kF) (k:Nat) (f:Addr) (fd:FuncData) (ps:List Str) (sp:Sp):Prop where
 len:∀ vs H Q E,sp vs H Q E->vs.length=ps.length
 run:∀(A:Around) (outer:List Env) (s:Shared) (H:Hp) (args:Args) (us:List Value) (vs:List V) (Q:VK) (E:XK),bM k A->yx P w K mg base A outer s H->BindsTo s fd args (ps.zip us)->Vals vs us->sp vs H Q E ->
  codeAny (model P w) A (.call (.ref f) args) (CR CX outer P w H s Q E) s
theorem ee.mono{f:Addr}{ps:List Str}(F:ee P w K mg base CX j f fd ps sp)(h:j<=k):
  ee P w K mg base CX k f fd ps sp:=⟨F.len,fun A outer s H args us vs Q E hr=>F.run A outer s H args us vs Q E (hr.mono h)⟩
theorem ee.imp{f:Addr}{ps:List Str}{sp':Sp}(F:ee P w K mg base CX k f fd ps sp)
  (h:∀ vs H Q E,sp' vs H Q E->sp vs H Q E):ee P w K mg base CX k f fd ps sp':=
 ⟨fun vs H Q E q=>F.len vs H Q E (h _ _ _ _ q),fun A outer s H args us vs Q E hr he hb hv hs=>F.run A outer s H args us vs Q E hr he hb hv (h _ _ _ _ hs)⟩
section
variable {X:Cx} {pins:List (Addr×Obj)} {σ:St} {H:Hp} {s s':Shared}
theorem Inv.Ex(I:Inv X pins σ H s):yx X.prog X.w X.K X.mg X.base X.A X.stack s H:=
 ⟨I.ok.frames,I.ok.mod,I.bs,JD I.ok.yN I.sz,I.stack,I.iR,I.aU,I.bare,I.ok.tabs.un I.base⟩
theorem Inv.after{Q:VK}(I:Inv X pins σ H s)(h:CE X.stack X.prog X.w H s Q u s'):EP X pins σ Q u s':=by
 obtain⟨v,H',os,bare,un,aU,r,q⟩:=h;obtain⟨hh,g,d,t,os'⟩:=s';obtain rfl:os'=s.os:=os;exact⟨v,H',I.call (h':=hh) (g':=g) (d':=d) (t':=t) (ch:=[]) un aU bare (fun b z=>absurd z (by simp)),r,q⟩
end
noncomputable def ju(sp:Sp)(dvs:List V)(E:XK)(t:TA):TE:=fun σ H Q=>t σ H fun vs H1=>sp (vs++dvs) H1 Q E
noncomputable def Binds(K:Oi)(fd:FuncData)(ps:List Str)(ds:List Value):Prop:=
 ∀(s:Shared) (us:List Value),K.In s.heap->(us++ds).length=ps.length->BindsTo s fd ⟨us,[]⟩ (ps.zip (us++ds))
theorem Binds.all{ps:List Str}(h:∀ us:List Value,us.length=ps.length->bindArgs fd ⟨us,[]⟩=pure (ps.zip us)):Binds K fd ps []:=fun s us _ hl=>by
 rw[JK] at hl ⊢;exact .of_eq (h us hl)
noncomputable def Passes(CX:kF)(X:Cx)(E:XK):Prop:=∀(pins:List (Addr×Obj)) (σ:St) (H:Hp) (s:Shared) (e:Value) (s':Shared),Inv X pins σ H s->CX X.stack H s E e s'->X.xe e s'
section
variable {X:Cx} {CX:kF} {k:Nat} {f C:Addr} {fd:FuncData} {ps:List Str} {sp:Sp} {dvs:List V} {ds:List Value} {E:XK} {x m:Str} {p pos apos:Pos} {e o:Expr} {es:List Expr} {ta:TE} {t:TA}
theorem wq{Q:VK}(F:ee X.prog X.w X.K X.mg X.base CX k f fd ps sp)(hr:bM k X.A)(hb:Binds X.K fd ps ds)(hd:Vals dvs ds)(hx:Passes CX X E)
  (I:Inv X pins σ H s) (r:Vals vs us) (h:sp (vs++dvs) H Q E):wpAny (model X.prog X.w) X.A (call (.ref f) us) (EP X pins σ Q) X.xe s:=by
 have r2:Vals (vs++dvs) (us++ds):=r.append hd;have hl:(us++ds).length=ps.length:=by rw[<- r2.length];exact F.len _ _ _ _ h
 refine wpAny_call (Nf (F.run X.A X.stack s H ⟨us,[]⟩ (us++ds) (vs++dvs) Q E hr I.Ex (hb s us I.gJ hl) r2 h) fun r s' hq=>?_)
 cases r with
 |error e=>exact hx pins σ H s e s' I hq
 |ok fl =>
  cases fl with
  |ret u=>exact I.after hq
  |next=>exact False.elim hq
  |brk=>exact False.elim hq
  |cont=>exact False.elim hq
theorem y6(F:ee X.prog X.w X.K X.mg X.base CX k f fd ps sp)(hr:bM k X.A)(hg:Gl X x)(hm:X.mg x=some (.ref f))(hk:PySem.W.keepIn X.K (.ref f)=true)(hb:Binds X.K fd ps ds)(hd:Vals dvs ds)(hx:Passes CX X E)
  (ha:PA X (e::es) t) (hdb:autoParam ((x ==("__debug__":Str))=false) ℜ1) (he:autoParam (starEach (e::es) X.env=(false,eval e X.env)::starEach es X.env) ℜ0) (hpl:autoParam ((backTo pos (starEach es X.env)).any (·.1)=false) ℜ0) :
  PE X (.Call (.Name x p) (e::es) [] pos) (ju sp dvs E t):=by
 intro pins s σ H Q I h;refine Ld (gD I hg hm ?_ hdb);refine PySem.W.callWith_K (h₀:=X.base) I.ok.mod.Ak hk (cB (ha pos pins s σ H _ I h) fun us s1 ⟨vs,H1,I1,r,q⟩=>⟨I1.gJ,?_⟩) he hpl;exact wq F hr hb hd hx I1 r q
theorem uL(F:ee X.prog X.w X.K X.mg X.base CX k f fd ps sp)(hr:bM k X.A)(hg:Gl X x)(hm:X.mg x=some (.ref f))(hk:PySem.W.keepIn X.K (.ref f)=true)(hb:Binds X.K fd ps ds)(hd:Vals dvs ds)(hx:Passes CX X E)
  (hdb:autoParam ((x ==("__debug__":Str))=false) ℜ1):PE X (.Call (.Name x p) [] [] pos) (ju sp dvs E nW):=by
 intro pins s σ H Q I h;refine Ld (gD I hg hm ?_ hdb);exact PySem.W.callWith_K0 I.gJ hk (wq (us:=[]) F hr hb hd hx I .nil h)
end
noncomputable def PK(X:Cx)(kws:List Keyword)(t:TA):Prop:=
 ∀(pos:Pos) (pins:List (Addr×Obj)) (s:Shared) (σ:St) (H:Hp) (Q:List V->Hp->Prop),Inv X pins σ H s->t σ H Q->wpAny (model X.prog X.w) X.A (evalAll ((backToKw pos (keywordEach kws X.env)).map (·.2))) (AP X pins σ Q) X.xe s
section
variable {X:Cx} {CX:kF} {k:Nat} {f C:Addr} {fd:FuncData} {ps ks:List Str} {sp:Sp} {E:XK} {x m:Str} {p pos apos kpos:Pos} {e o:Expr} {es:List Expr} {kws:List Keyword} {te ta:TE} {t tk:TA} {nm:Option Str}
theorem De:PK X [] nW:=fun _ _ _ _ H Q I h=>wpAny_evalAll_nil ⟨[],H,I,.nil,h⟩
theorem yX(ha:PE X e te)(hr:PK X kws t):PK X (⟨nm,e,kpos⟩::kws) (kI te t):=by
 intro pos pins s σ H Q I h;show wpAny _ _ (evalAll ((do let v <- eval e X.env;standAt pos;pure v)::(backToKw pos (keywordEach kws X.env)).map (·.2))) _ _ s
 refine wpAny_evalAll_cons (Jp (cB (ha pins s σ H _ I h) fun u s1 ⟨x,H1,I1,r1,q1⟩=>Jp (Mf (Jx ?_))));exact cB (hr pos pins s1 σ H1 _ I1 q1) fun us s2 ⟨xs,H2,I2,r2,q2⟩=>⟨x::xs,H2,I2,.cons r1 r2,q2⟩
variable {g:List Value->List Value->List Value} {gV:List V->List V->List V}
end
structure aq (N P:List Str) (sc:Scope):Prop where
 kind:sc.kind=.function
 co:sc.isCoroutine=false
 gen:sc.isGenerator=false
 nd:N.Nodup
 pre:N.take P.length=P
 par:∀ x∈P,sc.names.lookup x=some .local\/sc.names.lookup x=some .cell
 CG:∀ y∈sc.names,y.2≠.free
theorem kD:∀{binds:List (Str×Value)} {m:Str->Option Value},(∀ v,(x,v)∉binds)->bindL kindOf binds m x=m x
 |[],_,_=>rfl
 | (n,v)::r,m,h=>by
  unfold bindL;rw[kD fun w hw=>h w (J8 _ hw)];split
  ·have:x≠n:=by rintro rfl;exact h v JG
   simp[this]
  ·rfl
theorem lA:∀{binds:List (Str×Value)} {m:Str->Option Value},(∀ v,(x,v)∉binds)->bindC kindOf binds m x=m x
 |[],_,_=>rfl
 | (n,v)::r,m,h=>by
  unfold bindC;rw[lA fun w hw=>h w (J8 _ hw)];split
  ·rfl
  ·have:x≠n:=by rintro rfl;exact h v JG
   simp[this]
theorem kT{v:Value}:∀{P:List Str} {vs:List Value} {i:Nat} {m:Str->Option Value},P.Nodup->P[i]?=some x->vs[i]?=some v->kindOf x=some .local ->
  bindL kindOf (P.zip vs) m x=some v
 |[],_,_,_,_,h,_,_=>by simp at h
 |_::_,[],_,_,_,_,h,_=>by simp at h
 |p::P,w::vs,0,m,nd,h1,h2,hk=>by
  simp at h1 h2;subst h1;subst h2;show bindL kindOf ((p,w)::P.zip vs) m p=_;unfold bindL;rw[kD fun v hv=>(Ki.mp nd).1 (Nz hv).1,Jy hk];simp
 |p::P,w::vs,i+1,m,nd,h1,h2,hk=>by
  show bindL kindOf ((p,w)::P.zip vs) m x=_;unfold bindL;exact kT (i:=i) (Ki.mp nd).2 (by simpa using h1) (by simpa using h2) hk
theorem lr{v:Value}:∀{P:List Str} {vs:List Value} {i:Nat} {m:Str->Option Value},P.Nodup->P[i]?=some x->vs[i]?=some v->kindOf x≠some .local ->
  bindC kindOf (P.zip vs) m x=some v
 |[],_,_,_,_,h,_,_=>by simp at h
 |_::_,[],_,_,_,_,h,_=>by simp at h
 |p::P,w::vs,0,m,nd,h1,h2,hk=>by
  simp at h1 h2;subst h1;subst h2;show bindC kindOf ((p,w)::P.zip vs) m p=_;unfold bindC;rw[lA fun v hv=>(Ki.mp nd).1 (Nz hv).1,Ju hk];simp
 |p::P,w::vs,i+1,m,nd,h1,h2,hk=>by
  show bindC kindOf ((p,w)::P.zip vs) m x=_;unfold bindC;exact lr (i:=i) (Ki.mp nd).2 (by simpa using h1) (by simpa using h2) hk
noncomputable def start(N:List Str)(vs:List V):St:=vs.map some++List.replicate (N.length-vs.length) none
noncomputable def gY(CX:kF)(P:Program)(w:World)(K:Oi)(mg:Str->Option Value)(base:Heap)(N:List Str)(qual:Str)(scope:Scope)(f:Addr)(cd:Value)(A:Around)(outer:List Env)(s:Shared)(H:Hp)(E:XK):Cx where
 prog:=P
 w:=w
 K:=K
 mg:=mg
 base:=base
 A:=A.deeper (envOfC qual scope s.heap.objs.size f cd)
 N:=N
 s₀:=s
 H₀:=H
 env:=envOfC qual scope s.heap.objs.size f cd
 outer:=outer
 stack:=envOfC qual scope s.heap.objs.size f cd::outer
 ex:=[]
 calm:=true
 fn:=fun _=>true
 pn:=[]
 xe:=fun e s'=>wpAny (model P w) (A.deeper (envOfC qual scope s.heap.objs.size f cd)) (leaving (envOfC qual scope s.heap.objs.size f cd) e) (fun _ s''=>CX outer H s E e s'') (fun e' s''=>CX outer H s E e' s'') s'
theorem mX{sc:Scope}{n:Nat}(h:sc.names.lookup x=some .cell):∃ c,(cellsFrom n sc.names []).lookup x=some c:=by
 have q:=PySem.W.cellsFrom_some sc.names n [] (.inl h);exact Ng.mp q
theorem sT{ps:List Str}{qual:Str}{f:Addr}{cd:Value}{outer:List Env}{s1:Shared}{E:XK}
  (S:aq N ps scope) (hd:A.handled=none) (e0:yx P w K mg base A outer s H) (hl:vs.length=ps.length) (r:Vals vs us)
  (x:InCallC s s.heap.objs.size (bindL (envOfC qual scope s.heap.objs.size f cd).kindOf (ps.zip us) fun _=>none) (cellsFrom (s.heap.objs.size+1) scope.names []) (bindC (envOfC qual scope s.heap.objs.size f cd).kindOf (ps.zip us) fun _=>none) s1) :
  Inv (gY CX P w K mg base N qual scope f cd A outer s H E) [] (start N vs) H s1:=by
 have hpl:ps.length<=N.length:=by have:=JS List.length S.pre;rw[K5] at this;lia
 obtain⟨h1,tk,rfl,hk⟩:=x.done;have noA:∀ b:Addr,b∉(gY CX P w K mg base N qual scope f cd A outer s H E).ex:=fun b z=>absurd (show b∈([]:List Addr) from z) (by simp)
 refine⟨⟨e0.mod,S.kind,rfl,rfl,J6 _,fun y z c h1 h2=>?_,fun y hy=>?_,fun y c _ h=>?_,fun _=>hd,Around.frames_deeper e0.frames,.inr ⟨rfl,rfl⟩,fun b z=>absurd z (noA b),e0.bs,e0.yN,fun b _ _=>noA b,fun b z=>absurd z (noA b),e0.j9,e0.DT,e0.tabs⟩,
  rfl,e0.bare,Un.kept hk,⟨_,x.toInCall.ns,fun i y v h1 h2 h3=>?_⟩,fun y c h=>⟨_,x.cell y c h⟩,e0.aU.fresh (J6 _),fun y c h=>?_,fun p hp=>absurd (show p∈([]:List (Addr×Obj)) from hp) (by simp),e0.aU.kept hk,?_⟩
 ·exact name_of_addr x.apart (PySem.mem_of_lookup h1) (PySem.mem_of_lookup h2)
 ·have hy:scope.names.lookup y=some .cell\/scope.names.lookup y=some .free:=hy;rcases hy with hy|hy
  ·exact mX hy
  ·exact absurd rfl (S.CG _ (PySem.mem_of_lookup hy))
 ·exact K_ (x.above y c (PySem.mem_of_lookup h))
 ·have hi:i<vs.length:=by
   unfold start at h2;by_cases hi:i<vs.length
   ·exact hi
   ·rw[KH (by simpa using hi)] at h2
    rw[L8] at h2
    split at h2<;>cases h2
  have ha:vs[i]?=some v:=by
   unfold start at h2;rw[Lp (by simpa using hi),J9] at h2
   cases e:vs[i]? with
   |none=>rw[e] at h2;cases h2
   |some a=>rw[e] at h2;cases h2;rfl
  obtain⟨u,hu,rv⟩:=r.get ha;have hp:ps[i]?=some y:=by
   rw[<- S.pre,List.getElem?_take_of_lt (by lia)];exact h1
  have ndP:ps.Nodup:=by rw[<- S.pre];exact S.nd.sublist (List.take_sublist _ _)
  refine⟨u,rv,?_⟩;rcases S.par y (Km hp) with k|k
  ·exact .inl ⟨k,kT ndP hp hu k⟩
  ·obtain⟨c,e⟩:=mX (n:=s.heap.objs.size+1) k;refine .inr ⟨.inl k,c,e,?_⟩;have q:=x.cell y c e;rw[lr ndP hp hu (by show scope.names.lookup y≠_;rw[k];decide)] at q
   exact q
 ·exact e0.aU.fresh (K_ (x.above y c (PySem.mem_of_lookup h)))
 ·unfold start;show _=N.length;rw[Jt,Js,JF];lia
theorem A4{f:Addr}{name qual:Str}{params:Arguments}{dV kV doc pm cdv ct oc:Value}{an od:Option Addr}
  {osl:Array (Option Value)} {ps:List Str}  (lk:K.lookup f=some ⟨oc,od,.func (PySem.W.fnOf name qual params body scope dV kV doc pm an cdv ct),osl⟩) (hcd:PySem.W.codeIn K cdv qual=true) (S:aq N ps scope)
  (len:∀ vs H Q E,sp vs H Q E->vs.length=ps.length)
  (hbody:∀(A:Around) (outer:List Env) (s:Shared) (H:Hp) (vs:List V) (Q:VK) (E:XK),bM k (A.deeper (envOfC qual scope s.heap.objs.size f cdv))->sp vs H Q E ->
   ∃ t,pq (gY CX P w K mg base N qual scope f cdv A outer s H E) body t/\t {nx:=fun _ H'=>Q .aJ H',rt:=Q} (start N vs) H) :
  ee P w K mg base CX (k+1) f (PySem.W.fnOf name qual params body scope dV kV doc pm an cdv ct) ps sp:=by
 refine⟨len,fun A outer s H args us vs Q E hr e0 hb r hsp=>?_⟩;have hl:=len _ _ _ _ hsp;have KX:K.In s.heap:=e0.mod.Ak.keeps fun b o e=>(e0.bs b o e).1;have lim:s.heap.NoLimit:=e0.mod.nolimit.keeps fun b o e=>(e0.bs b o e).1;have hkind:∀ y∈ps.zip us,scope.names.lookup y.1=some .local\/(scope.names.lookup y.1=some .cell/\((cellsFrom (s.heap.objs.size+1) scope.names []).lookup y.1).isSome=true):=fun⟨n,v⟩ hy=>by
  rcases S.par n (Nz hy).1 with q|q
  ·exact .inl q
  ·exact .inr ⟨q,PySem.W.cellsFrom_some _ _ _ (.inl q)⟩
 refine codeAny_call_function hr.depth (KX _ _ lk) rfl S.co S.gen rfl (PySem.W.codeRec_of KX hcd) (hb _ _ _ _ ?_);refine wpAny_newFunctionEnv_cells S.kind hkind fun env he s1 x=>?_;subst he;refine⟨lim.keeps x.toInCall.keep,codeAny_func ?_⟩;obtain⟨t,ht,hq⟩:=hbody A outer s H vs Q E (hr.deeper _) hsp;have I:Inv (gY CX P w K mg base N qual scope f cdv A outer s H E) [] (start N vs) H s1:=sT S hr.hd e0 hl r x;refine Kw (ht [] s1 (start N vs) H _ I hq) (fun fl s' hs=>?_) fun e s' hs=>hs;have fin:∀{σ':St} {H':Hp} {v:V} {u:Value},Inv (gY CX P w K mg base N qual scope f cdv A outer s H E) [] σ' H' s'->RelV v u->Q v H'->CE outer P w H s Q u s':=
  fun {σ' H' v u} J rv q=>⟨v,H',J.os,J.bare,J.base,J.aU,rv,q⟩
 cases fl with
 |ret u =>
  obtain⟨v,σ',H',J,rv,q⟩:=hs;exact fin J rv q
 |next =>
  obtain⟨σ',H',J,q⟩:=hs;exact fin (v:=V.aJ) (u:=Value.none) J rfl q
 |brk =>
  obtain⟨_,_,_,q⟩:=hs;exact False.elim q
 |cont =>
  obtain⟨_,_,_,q⟩:=hs;exact False.elim q
section
variable {X:Cx} {x:Str} {p pos:Pos} {e:Expr} {es:List Expr} {t:TA} {id T:String} {r:List V->Hp->VK->Prop}
noncomputable def Bi(r:List V->Hp->VK->Prop)(t:TA):TE:=fun σ H Q=>t σ H fun vs H1=>r vs H1 Q
theorem vt(hc:bI X (.builtin id) r)(hg:Gl X x)(hm:X.mg x=none)(hv:bootBuiltins x=some (.builtin id))(ha:PA X (e::es) t)(hn:autoParam (x≠"__name__") ℜ1)(hdb:autoParam ((x ==("__debug__":Str))=false) ℜ1)
  (he:autoParam (starEach (e::es) X.env=(false,eval e X.env)::starEach es X.env) ℜ0) (hpl:autoParam ((backTo pos (starEach es X.env)).any (·.1)=false) ℜ0):PE X (.Call (.Name x p) (e::es) [] pos) (Bi r t):=by
 intro pins s σ H Q I h;refine Ld (ft I hg hm hv ?_ hn hdb);exact PyProof.Rows.callWith_builtin1 (cB (ha pos pins s σ H _ I h) fun us s1 ⟨vs,H1,I1,r1,q1⟩=>hc pins s1 σ H1 vs us Q I1 r1 q1) he hpl
theorem sx(hc:bI X (.type T) r)(hg:Gl X x)(hm:X.mg x=none)(hv:bootBuiltins x=some (.type T))(ha:PA X (e::es) t)(hn:autoParam (x≠"__name__") ℜ1)(hdb:autoParam ((x ==("__debug__":Str))=false) ℜ1)
  (he:autoParam (starEach (e::es) X.env=(false,eval e X.env)::starEach es X.env) ℜ0) (hpl:autoParam ((backTo pos (starEach es X.env)).any (·.1)=false) ℜ0):PE X (.Call (.Name x p) (e::es) [] pos) (Bi r t):=by
 intro pins s σ H Q I h;refine Ld (ft I hg hm hv ?_ hn hdb);exact KC (cB (ha pos pins s σ H _ I h) fun us s1 ⟨vs,H1,I1,r1,q1⟩=>hc pins s1 σ H1 vs us Q I1 r1 q1) he hpl
end
end L2
namespace HT
open PySem PyProof.Rows
section
open PySem.SeqAt
open PySem.AutoSeq1 (wpAny_loadPart')
open PySem.MeetsSeq PySem.MeetsSeq2 PySem.MeetsSeq3
end
section
variable {prog:Program} {w:World} {A:Around} {E:Value->Shared->Prop} {s:Shared}
theorem Ai{t b:Addr}{vs ws:List Value}{Q:Value->Shared->Prop}(ht:IsTup s.heap t vs.toArray)(hb:IsTup s.heap b ws.toArray)(hv:vs≠[])
  (h1:ws=[]->Q (.ref t) s) (h2:ws≠[]->Q (.ref s.heap.objs.size) {s with heap:=s.heap.push {cls:=.type "tuple",data:=.seq (vs++ws).toArray}})
  (hsz:vs.length+ws.length<=sizeLine):wpAny (model prog w) A (binaryOp .Add (.ref t) (.ref b)) Q E s:=by
 obtain⟨⟨cls,dd,data,sl⟩,ho,hc,n,hd⟩:=id ht;obtain⟨⟨cls2,dd2,data2,sl2⟩,ho2,hc2,n2,hd2⟩:=id hb;simp only at hc hd hc2 hd2;subst hc hd hc2 hd2;have e:vs.toArray++ws.toArray=(vs++ws).toArray:=by simp
 by_cases hw:ws=[]
 ·exact concat_meets ⟨_,ho,rfl⟩ ⟨_,ho2,rfl⟩ noFill_tuple_add seq_tuple_add PySem.F.slot_tuple_add PySem.F.entry_tuple_add (PySem.F.args_tuple_add_2 _ _)
   (tuple_addW1 t b vs.toArray ws.toArray n n2 dd dd2 sl sl2 (by simpa using hv) (by simp[hw])) ⟨ho,ho2,h1 hw⟩
 ·refine concat_meets ⟨_,ho,rfl⟩ ⟨_,ho2,rfl⟩ noFill_tuple_add seq_tuple_add PySem.F.slot_tuple_add PySem.F.entry_tuple_add (PySem.F.args_tuple_add_2 _ _)
   (tuple_addW2 t b vs.toArray ws.toArray n n2 dd dd2 sl sl2 (by simpa using hv) (by simpa using hw) (by rw[List.size_toArray,List.size_toArray];exact hsz)) ⟨ho,ho2,?_⟩
  rw[e];exact h2 hw
noncomputable def cf(n d:Nat):Option Int->Nat
 |none=>d
 |some v=>if v<0 then (v+(n:Int)).toNat else min v.toNat n
theorem eM(n d:Nat):cf n d none=d:=rfl
theorem lV(n d k:Nat):cf n d (some (k:Int))=min k n:=by
 show (if (k:Int)<0 then ((k:Int)+(n:Int)).toNat else min (k:Int).toNat n)=min k n
 rw[if_neg (by lia),Int.toNat_natCast]
theorem oH(n d:Nat)(hd:d<=n)(o:Option Int):cf n d o<=n:=by
 cases o with
 |none=>exact hd
 |some v =>
  show (if v<0 then (v+(n:Int)).toNat else min v.toNat n)<=n
  by_cases hv:v<0
  ·rw[if_pos hv];lia
  ·rw[if_neg hv];exact Nat.min_le_right _ _
theorem pZ(v:Int)(n d:Nat):(if v<0 then max (v+(n:Int)) 0 else min v (n:Int))=((cf n d (some v):Nat):Int):=by
 show (if v<0 then max (v+(n:Int)) 0 else min v (n:Int))=(((if v<0 then (v+(n:Int)).toNat else min v.toNat n):Nat):Int)
 by_cases hv:v<0
 ·simp only[if_pos hv];lia
 ·simp only[if_neg hv];lia
theorem pV(lo hi:Option Int)(n:Nat):Builtin.Slice.sliceAdjust lo hi 1 (n:Int)=(((cf n 0 lo:Nat):Int),((cf n n hi:Nat):Int)):=by
 have h1:¬ ((1:Int)<0):=by lia
 unfold Builtin.Slice.sliceAdjust;simp only[h1,if_false];refine Prod.ext ?_ ?_
 ·cases lo with
  |none=>rfl
  |some v=>exact pZ v n 0
 ·cases hi with
  |none=>rfl
  |some v=>exact pZ v n n
theorem pS(i j:Nat):Builtin.Slice.slicePlaces (i:Int) (j:Int) 1=j-i:=by
 unfold Builtin.Slice.slicePlaces;have h1:(1:Int) > 0:=by lia
 simp only[h1,if_true,Int.ediv_one]
 split<;>lia
theorem jx{v:Value}{o:Option Int}{Q:Option Int->Shared->Prop}(p:IsPart v o)(h:Q o s):wpAny (model prog w) A (Builtin.Slice.slicePartIndex v) Q E s:=by
 cases p with
 |none=>exact slicePart_none h
 |int i t=>exact slicePart_int h
theorem eE{sl:Addr}{vl vu:Value}{lo hi:Option Int}{n:Nat}{Q:Int×Int×Nat->Shared->Prop}(hs:s.heap.IsSliceOf sl vl vu .none)(pl:IsPart vl lo)(pu:IsPart vu hi)
  (h:Q (((cf n 0 lo:Nat):Int),1,cf n n hi-cf n 0 lo) s):wpAny (model prog w) A (Builtin.Slice.sliceApplied (.ref sl) (pure (n:Int))) Q E s:=by
 obtain⟨os,hos,hcs,hds⟩:=id hs;unfold Builtin.Slice.sliceApplied Builtin.Slice.sliceFields;refine wpAny_bind (wpAny_bind (wpAny_field hos hds (x:=vl) rfl (wpAny_bind (wpAny_field hos hds (x:=vu) rfl (wpAny_bind (wpAny_field hos hds (x:=.none) rfl (wpAny_pure ?_)))))));refine wpAny_bind (slicePart_none ?_);show wpAny _ _ (if ((1:Int) == 0)=true then _ else _) _ _ s
 rw[if_neg (by decide)]
 refine wpAny_bind (jx pl (wpAny_bind (jx pu (wpAny_bind (wpAny_pure ?_)))));show wpAny _ _ (match Builtin.Slice.sliceAdjust lo hi 1 (n:Int) with | (lo,hi)=>pure (lo,(1:Int),Builtin.Slice.slicePlaces lo hi 1)) _ _ s
 rw[pV lo hi n];show wpAny _ _ (pure (((cf n 0 lo:Nat):Int),(1:Int),Builtin.Slice.slicePlaces ((cf n 0 lo:Nat):Int) ((cf n n hi:Nat):Int) 1)) _ _ s;rw[pS];exact wpAny_pure h
theorem xp(xs:Array Value)(i k:Nat):((List.range k).filterMap fun (m:Nat)=>xs[((i:Int)+(m:Int)*1).toNat]?).toArray=((xs.toList.drop i).take k).toArray:=by
 have e:(fun (m:Nat)=>xs[((i:Int)+(m:Int)*1).toNat]?)=fun m=>xs[i+m]?:=by
  funext m
  have:((i:Int)+(m:Int)*1).toNat=i+m:=by lia
  rw[this]
 rw[e];have:=pick_run xs i k;rw[List.filterMap_map] at this;have e2:((fun x=>xs[x]?) ∘ fun x=>i+x)=fun m=>xs[i+m]?:=rfl;rw[e2] at this;rw[this]
theorem gO{t sl:Addr}{items:Array Value}{vl vu:Value}{lo hi:Option Int}{Q:Value->Shared->Prop}(ht:IsTup s.heap t items)(hs:s.heap.IsSliceOf sl vl vu .none)(pl:IsPart vl lo)(pu:IsPart vu hi)
  (hw:¬ (cf items.size 0 lo=0/\cf items.size items.size hi=items.size))
  (h:Q (.ref s.heap.objs.size) {s with heap:=s.heap.push {cls:=.type "tuple",data:=.seq ((items.toList.drop (cf items.size 0 lo)).take (cf items.size items.size hi-cf items.size 0 lo)).toArray}})
  (hsz:items.size<=sizeLine):wpAny (model prog w) A (getItem (.ref t) (.ref sl)) Q E s:=by
 have htake:sizeOk (.seq ((items.toList.drop (cf items.size 0 lo)).take (cf items.size items.size hi-cf items.size 0 lo)).toArray):=by
  show ((items.toList.drop (cf items.size 0 lo)).take (cf items.size items.size hi-cf items.size 0 lo)).toArray.size<=sizeLine;rw[List.size_toArray,List.length_take,List.length_drop,Array.length_toList];exact Nat.le_trans (Nat.min_le_right _ _) (Nat.le_trans (Nat.sub_le _ _) hsz)
 have hj:cf items.size items.size hi<=items.size:=oH _ _ (Nat.le_refl _) hi;obtain⟨os,hos,hcs,hds⟩:=id hs;have hTs:s.TypeIs (.ref sl) "slice":=⟨os,hos,hcs⟩;unfold getItem
 try with_reducible refine wpAny_holding ?_
 first|refine wpAny_bind (wpAny_pure ?_)|skip
 refine wpAny_bind (wpAny_sequenceKey ht.typeIs (by decide) ?_)
 refine wpAny_bind (wpAny_callSpecial?_slot (name:=Str.ofString "__getitem__") ht.typeIs PyProof.Rows.slot_tuple_getitem
  (wpAny_call_entry PyProof.Rows.slot_tuple_getitem ht.typeIs entry_tuple_getitem ?_ (args_tuple_getitem _ _)))
 show wpAny _ _ (Builtin.Tuple.tupleItemsOf (.ref t) >>= _) _ _ s;refine wpAny_bind (tupleItemsOf_ ht ?_);refine wpAny_bind (wpAny_typeOf hTs ?_);rw[if_pos (by decide)]
 refine wpAny_bind (eE hs pl pu ?_);have hno:¬ ((((cf items.size 0 lo:Nat):Int) == 0 && (1:Int) == 1 && (cf items.size items.size hi-cf items.size 0 lo) == items.size)=true):=by
  intro q;rw[Bool.and_eq_true,Bool.and_eq_true] at q;have q1:((cf items.size 0 lo:Nat):Int)=0:=eq_of_beq q.1.1;have q2:cf items.size items.size hi-cf items.size 0 lo=items.size:=eq_of_beq q.2;exact hw ⟨by lia,by lia⟩
 show wpAny _ _ (if (((cf items.size 0 lo:Nat):Int) == 0 && (1:Int) == 1 && (cf items.size items.size hi-cf items.size 0 lo) == items.size)=true then _ else _) _ _ s
 rw[if_neg hno,xp]
 first
  |exact wpAny_bind (m:=Builtin.Tuple.tupleExact _) (wpAny_newObj_type (wpAny_pure ⟨_,rfl,wpAny_pure h⟩) htake)
  |exact wpAny_bind (m:=Builtin.Tuple.tupleExact _) (wpAny_newObj_type (wpAny_bind (wpAny_pure (wpAny_pure ⟨_,rfl,wpAny_pure h⟩))) htake)
  |exact wpAny_bind (wpAny_bind (m:=Builtin.Tuple.tupleExact _) (wpAny_newObj_type (wpAny_pure (wpAny_pure ⟨_,rfl,wpAny_pure h⟩)) htake))
  |exact wpAny_bind (wpAny_bind (m:=Builtin.Tuple.tupleExact _) (wpAny_newObj_type (wpAny_pure ⟨_,rfl,wpAny_pure h⟩) htake))
end
end HT
namespace L2
open PySem PySem.Spec PyProof.Rows
variable{r:V->Option Int->Option Int->Hp->VK->Prop}{xs:List V}{its its' us:List Value}{α:Type}{n:Nat}{pins:List (Addr×Obj)}{σ:St}{H:Hp}{s:Shared}{A:Around}{x:V}
abbrev TO:=St->Hp->(Option Int->Hp->Prop)->Prop
noncomputable def PO(X:Cx)(e:Option Expr)(t:TO):Prop:=
 ∀(pins:List (Addr×Obj)) (s:Shared) (σ:St) (H:Hp) (Q:Option Int->Hp->Prop),Inv X pins σ H s->t σ H Q ->
  wpAny (model X.prog X.w) X.A (evalPart e X.env) (fun u s'=>∃ o H',Inv X pins σ H' s'/\IsPart u o/\Q o H') X.xe s
def qy:TO:=fun _ H Q=>Q none H
noncomputable def AZ(t:TE):TO:=fun σ H Q=>t σ H fun x H1=>∃ i,x=.int i/\Q (some i) H1
theorem intsAre_of{ns:List Int}:∀{us:List Value},Vals (ns.map V.int) us->IntsAre us ns:=by
 induction ns with
 |nil=>intro us r;rw[List.map_nil] at r;cases r;exact .nil
 |cons n ns ih =>
  intro us r;rw[Kc] at r
  cases r with
  |cons r1 r2 =>
   obtain⟨t,e⟩:=r1;subst e;exact .cons n t (ih r2)
section
variable {X:Cx} {e:Expr} {te:TE} {lo hi:Option Expr} {tl th:TO} {pos p2:Pos}
theorem zE:PO X none qy:=by
 intro pins s σ H Q I h;rw[evalPart_none];exact Jx ⟨none,H,I,.none,h⟩
theorem zh(h:PE X e te):PO X (some e) (AZ te):=by
 intro pins s σ H Q I hw;rw[evalPart_some];refine cB (h pins s σ H _ I hw) fun u s1 ⟨x,H1,I1,r1,q1⟩=>?_;obtain⟨i,rfl,q⟩:=q1;obtain⟨t,rfl⟩:=r1;exact⟨some i,H1,I1,.int i t,q⟩
noncomputable def uv(X:Cx)(r:V->Option Int->Option Int->Hp->VK->Prop):Prop:=
 ∀(pins:List (Addr×Obj)) (s:Shared) (σ:St) (H:Hp) (x:V) (v vl vu:Value) (lo hi:Option Int) (sl:Addr) (Q:VK),Inv X pins σ H s->RelV x v->s.heap.IsSliceOf sl vl vu .none->IsPart vl lo->IsPart vu hi->r x lo hi H Q ->
  ∃ T id,typeLookup (.type T) "__getitem__"=pure (some (.builtin id))/\s.TypeIs v T/\wpAny (model X.prog X.w) X.A (getItem v (.ref sl)) (EP X pins σ Q) X.xe s
theorem uv.or{r':V->Option Int->Option Int->Hp->VK->Prop}(h:uv X r)(h':uv X r'):uv X (fun x lo hi H Q=>r x lo hi H Q\/r' x lo hi H Q):=by
 intro pins s σ H x v vl vu lo hi sl Q I rx hs pl pu q;rcases q with q|q
 ·exact h pins s σ H x v vl vu lo hi sl Q I rx hs pl pu q
 ·exact h' pins s σ H x v vl vu lo hi sl Q I rx hs pl pu q
noncomputable def IF(r:V->Option Int->Option Int->Hp->VK->Prop)(te:TE)(tl th:TO):TE:=fun σ H Q=>te σ H fun x H1=>tl σ H1 fun l H2=>th σ H2 fun u H3=>r x l u H3 Q
theorem vq(hr:uv X r)(he:PE X e te)(hl:PO X lo tl)(hu:PO X hi th):PE X (.Subscript e (.Slice lo hi none p2) pos) (IF r te tl th):=by
 intro pins s σ H Q I h;refine Subscript_ (cB (he pins s σ H _ I h) fun v s1 ⟨x,H1,I1,r1,q1⟩=>?_);refine wpAny_Slice (cB (hl pins s1 σ H1 _ I1 q1) fun vl s2 ⟨l,H2,I2,pl,q2⟩=>cB (hu pins s2 σ H2 _ I2 q2) fun vu s3 ⟨u,H3,I3,pu,q3⟩=>?_);rw[evalPart_none];refine Jx ?_;have I4:Inv X pins σ H3 {s3 with heap:=s3.heap.push {cls:=.type "slice",data:=.fields #[vl,vu,.none]}}:=I3.kept (t':=s3.toks) fun b ob q=>Jr _ q
 obtain⟨T,id,hT,ht,hg⟩:=hr pins {s3 with heap:=s3.heap.push {cls:=.type "slice",data:=.fields #[vl,vu,.none]}} σ H3 x v vl vu l u s3.heap.objs.size Q I4 r1 (Heap.IsSliceOf.new ..) pl pu q3
 show wpAny (model X.prog X.w) X.A (subscriptTail e (.Slice lo hi none p2) v (.ref s3.heap.objs.size)) (EP X pins σ Q) X.xe {s3 with heap:=s3.heap.push {cls:=.type "slice",data:=.fields #[vl,vu,.none]}}
 exact tail_any (ops:=[.ref s3.heap.objs.size,v]) ht hT hg (by with_unfolding_all rfl)
noncomputable def me(xs:List V)(lo hi:Option Int):List V:=(xs.drop (HT.cf xs.length 0 lo)).take (HT.cf xs.length xs.length hi-HT.cf xs.length 0 lo)
theorem iE(xs:List V)(lo hi:Option Int):(me xs lo hi).length<=xs.length:=by
 unfold me;rw[K5,LK];exact JD (Nat.min_le_right _ _) (NU _ _)
noncomputable def y2(K:Oi):V->Option Int->Option Int->Hp->VK->Prop:=fun x lo hi H Q=>∃ a xs,x=.ref a/\cD K H a xs /\
 ¬ (HT.cf xs.length 0 lo=0/\HT.cf xs.length xs.length hi=xs.length)/\∀ p,H p=none->Q (.ref p) (upd H p (.tup (me xs lo hi)))
theorem C_:uv X (y2 X.K):=by
 intro pins s σ H x v vl vu lo hi sl Q I rx hs pl pu h;obtain⟨a,xs,rfl,hx,hw,q⟩:=h;cases rx;obtain⟨its,r,ht,hz⟩:=I.tuple hx;have hlen:its.toArray.size=xs.length:=by rw[Jv];exact r.length.symm
 refine⟨"tuple",_,KO.lookup,ht.typeIs,?_⟩;refine HT.gO ht hs pl pu (by rw[hlen];exact hw) ?_ (by rw[hlen];exact hz)
 rw[hlen];refine⟨.ref s.heap.objs.size,_,I.laid (t':=s.toks) (o:=.tup (me xs lo hi)) (fun b ob q=>Jr _ q) (J6 _) ?_,rfl,q _ (I.aU.fresh (J6 _))⟩;exact⟨JD (iE xs lo hi) hz,_,(r.drop (HT.cf xs.length 0 lo)).take (HT.cf xs.length xs.length hi-HT.cf xs.length 0 lo),dB.new _ _⟩
noncomputable def E2(K:Oi):R2:=fun x y H Q=>∃ a b xs ys,x=.ref a/\y=.ref b/\cD K H a xs/\cD K H b ys/\xs≠[]/\xs.length+ys.length<=sizeLine /\
 (ys=[]->Q (.ref a) H)/\(ys≠[]->∀ p,H p=none->Q (.ref p) (upd H p (.tup (xs++ys))))
theorem Vals.mK(r:Vals xs us):us=[] ↔ xs=[]:=by
 cases r with
 |nil=>simp
 |cons _ _=>simp
theorem yE:dm X (binaryOp .Add) (E2 X.K):=by
 intro pins s σ H x y v u Q I rx ry h;obtain⟨a,b,xs,ys,rfl,rfl,ha,hb,hx,hz,q1,q2⟩:=h;cases rx;cases ry;obtain⟨its,r1,p1,_⟩:=I.tuple ha;obtain⟨its2,r2,p2,_⟩:=I.tuple hb;refine HT.Ai p1 p2 (fun z=>hx (r1.mK.mp z)) (fun z=>⟨.ref a,H,I,rfl,q1 (r2.mK.mp z)⟩) (fun z=>?_) (by rw[<- r1.length,<- r2.length];exact hz)
 refine⟨.ref s.heap.objs.size,_,I.laid (t':=s.toks) (o:=.tup (xs++ys)) (fun b ob q=>Jr _ q) (J6 _) ?_,rfl,q2 (fun w=>z (r2.mK.mpr w)) _ (I.aU.fresh (J6 _))⟩;exact⟨by rw[Jt];exact hz,_,r1.append r2,dB.new _ _⟩
end
noncomputable def hZ(n:Nat)(i:Int):Option Nat:=if 0<=i then (if i<n then some i.toNat else none) else if -(n:Int)<=i then some (i+n).toNat else none
noncomputable def bR(xs:List α)(i:Int):Option α:=(hZ xs.length i).bind fun j=>xs[j]?
theorem rC{i:Int}{j:Nat}(h:hZ n i=some j):seqIndex? i n=some j/\j<n/\-(n:Int)<=i/\i<n:=by
 unfold hZ at h;by_cases h0:0<=i
 ·rw[Jy h0] at h;by_cases h1:i<n
  ·rw[Jy h1] at h;have e:i.toNat=j:=Option.some.inj h;exact⟨by rw[seqIndex_of h0 h1,e],by lia,by lia,h1⟩
  ·rw[Ju h1] at h;cases h
 ·rw[Ju h0] at h;by_cases h1:-(n:Int)<=i
  ·rw[Jy h1] at h;have e:(i+n).toNat=j:=Option.some.inj h;exact⟨by rw[NY (by lia) h1,e],by lia,h1,by lia⟩
  ·rw[Ju h1] at h;cases h
theorem lS{xs:List α}{i:Int}{v:α}(h:bR xs i=some v):∃ j,seqIndex? i xs.length=some j/\xs[j]?=some v/\j<xs.length/\-(xs.length:Int)<=i/\i<xs.length:=by
 unfold bR at h
 cases e:hZ xs.length i with
 |none=>rw[e] at h;cases h
 |some j =>
  rw[e] at h;obtain⟨h1,h2,h3,h4⟩:=rC e;exact⟨j,h1,h,h2,h3,h4⟩
theorem bG{xs:List α}{j:Nat}{v:α}(h:xs[j]?=some v):bR xs (j:Int)=some v:=by
 have hj:j<xs.length:=(Jz.mp h).1;have e:hZ xs.length (j:Int)=some j:=by
  unfold hZ;rw[Jy (by lia),Jy (by lia)];simp
 unfold bR;rw[e];exact h
theorem xW(xs:List α)(v:α):bR (xs++[v]) (-1)=some v:=by
 have hl:(xs++[v]).length=xs.length+1:=by simp
 have e:hZ (xs++[v]).length (-1)=some xs.length:=by
  unfold hZ;rw[hl,Ju (by decide),Jy (by lia)]
  congr 1;lia
 unfold bR;rw[e];show (xs++[v])[xs.length]?=some v;simp
noncomputable def pW(b:Expr):Prop:=∀ o i,subscripted b false o i=operate [o,i] (getItem o i)
noncomputable def tO(X:Cx)(r:R2):Prop:=
 ∀(value slice:Expr) (pins:List (Addr×Obj)) (s:Shared) (σ:St) (H:Hp) (x y:V) (v u:Value) (Q:VK),Inv X pins σ H s->RelV x v->RelV y u->r x y H Q ->
  subscripted slice false v u=operate [v,u] (getItem v u)->wpAny (model X.prog X.w) X.A (subscriptTail value slice v u) (EP X pins σ Q) X.xe s
noncomputable def qX(X:Cx)(id:String)(r:V->List V->Hp->VK->Prop):Prop:=
 ∀(pins:List (Addr×Obj)) (s:Shared) (σ:St) (H:Hp) (x:V) (xs:List V) (v:Value) (us:List Value) (Q:VK),Inv X pins σ H s->RelV x v->Vals xs us->r x xs H Q ->
  wpAny (model X.prog X.w) X.A (call (.builtin id) (v::us)) (EP X pins σ Q) X.xe s
section
variable {X:Cx} {a b:Expr} {ta tb:TE} {pos:Pos}
theorem tO.or{r r':R2}(h:tO X r)(h':tO X r'):tO X (fun x y H Q=>r x y H Q\/r' x y H Q):=by
 intro value slice pins s σ H x y v u Q I rx ry q hs;rcases q with q|q
 ·exact h value slice pins s σ H x y v u Q I rx ry q hs
 ·exact h' value slice pins s σ H x y v u Q I rx ry q hs
theorem Bq{r:R2}(hr:tO X r)(ha:PE X a ta)(hb:PE X b tb)(hs:pW b):PE X (.Subscript a b pos) (zJ r ta tb):=by
 intro pins s σ H Q I h;exact Subscript_ (CS ha hb I h fun v u s2 x y H2 I2 rx ry q=>hr a b pins s2 σ H2 x y v u Q I2 rx ry q (hs _ _))
noncomputable def EU(K:Oi):R2:=fun x y H Q=>∃ p xs i v,x=.ref p/\y=.int i/\cJ K H p xs/\bR xs i=some v/\Q v H
noncomputable def Gj(K:Oi):R2:=fun x y H Q=>∃ p xs i v,x=.ref p/\y=.int i/\cD K H p xs/\bR xs i=some v/\Q v H
noncomputable def Ef:R2:=fun x y H Q=>∃ z i c,x=.str z/\y=.int i/\z.length<=sizeLine/\bR z.cps.toList i=some c/\Q (.str ⟨#[c]⟩) H
theorem yV:tO X (EU X.K):=by
 intro value slice pins s σ H x y v u Q I rx ry h hs;obtain⟨p,xs,i,z,rfl,rfl,hq,he,q⟩:=h;cases rx;obtain⟨t,rfl⟩:=ry;obtain⟨its,r,pl,hz⟩:=I.list hq;obtain⟨j,h1,h2,h3,h4,h5⟩:=lS he;obtain⟨w,ew,rw'⟩:=r.get h2;have hl:=r.length;have hn:=gA;have fin:EP X pins σ Q w s:=⟨z,H,I,rw',q⟩;by_cases h0:0<=i
 ·have hj:i.toNat=j:=by
   rw[seqIndex_of h0 h5] at h1;exact Option.some.inj h1
  exact item_listR pl.isList h0 (by lia) (by rw[hj];simpa using ew) fin hs
 ·have hj:(i+(its.toArray.size:Int)).toNat=j:=by
   rw[NY (by lia) h4] at h1
   rw[Jv,<- hl];exact Option.some.inj h1
  exact subscriptTail_builtinR (x:=w) pl.isList.typeIs slot_list_getitem.lookup
   (wpAny_getItem_list_neg (Q:=fun r s'=>r=w/\EP X pins σ Q r s') pl.isList (by lia) (by rw[Jv]<;>lia) (by lia) (by rw[hj];simpa using ew) ⟨rfl,fin⟩) hs
theorem xv:tO X (Gj X.K):=by
 intro value slice pins s σ H x y v u Q I rx ry h hs;obtain⟨p,xs,i,z,rfl,rfl,hq,he,q⟩:=h;cases rx;obtain⟨t,rfl⟩:=ry;obtain⟨its,r,pl,hz⟩:=I.tuple hq;obtain⟨j,h1,h2,h3,h4,h5⟩:=lS he;obtain⟨w,ew,rw'⟩:=r.get h2;have hl:=r.length;have hn:=gA;have fin:EP X pins σ Q w s:=⟨z,H,I,rw',q⟩;exact subscriptTail_builtinR (x:=w) pl.typeIs slot_tuple_getitem.lookup
  (getItem_tuple (j:=j) (Q:=fun r s'=>r=w/\EP X pins σ Q r s') pl (by lia) (by lia) (by rw[Jv,<- hl];exact h1) (by simpa using ew) ⟨rfl,fin⟩) hs
theorem Cr:tO X Ef:=by
 intro value slice pins s σ H x y v u Q I rx ry h hs;obtain⟨z,i,c,rfl,rfl,hz,he,q⟩:=h;obtain⟨t,rfl⟩:=rx;obtain⟨t',rfl⟩:=ry;obtain⟨j,h1,h2,h3,h4,h5⟩:=lS he;have hl:z.cps.toList.length=z.length:=by simp[Str.length]
 rw[hl] at h1 h4 h5;have hn:=gA;exact tail_any (typeIs_str s z t) slot_str_getitem.lookup (getItem_str (c:=c) (by
  have e1:decide (i < -(2^63:Int))=false:=JL (by lia)
  have e2:decide (i >= 2^63)=false:=JL (by lia)
  rw[e1,e2,Bool.or_false]) (by rw[h1];simpa using h2) ⟨.str ⟨#[c]⟩,H,I.tok _,⟨_,rfl⟩,q⟩) hs
noncomputable def GF(K:Oi):R2:=fun x y H Q=>EU K x y H Q\/Gj K x y H Q\/Ef x y H Q
theorem D5:tO X (GF X.K):=yV.or (xv.or Cr)
theorem oX(its:List Value)(n j:Nat)(u:Value):Obj.mapSeq (·.setIfInBounds j u) {cls:=.type "list",data:=.seq its.toArray n}={cls:=.type "list",data:=.seq (its.set j u).toArray n}:=by
 simp[Obj.mapSeq]
theorem Inv.lst{p:Addr}(I:Inv X pins σ H s)(h:H p=some (.lst xs)):
  ∃(its:List Value) (n:Nat),Vals xs its/\s.heap.get? p=some {cls:=.type "list",data:=.seq its.toArray n}/\xs.length<=sizeLine:=by
 obtain⟨z,its,n,r,e⟩:=I.aU p _ h;exact⟨its,n,r,e,z⟩
theorem Inv.Df{p:Addr}{ys:List V}{n':Nat}{f:Obj->Obj}(I:Inv X pins σ H s)(h:H p=some (.lst xs))
  (ho:s.heap.get? p=some {cls:=.type "list",data:=.seq its.toArray n}) (hf:f {cls:=.type "list",data:=.seq its.toArray n}={cls:=.type "list",data:=.seq its'.toArray n'}) (r:Vals ys its') (hz:ys.length<=sizeLine) (t:Nat) :
  Inv X pins σ (upd H p (.lst ys)) {s with heap:=s.heap.update p f,toks:=t}:=by
 have e:(s.heap.update p f).get? p=some {cls:=.type "list",data:=.seq its'.toArray n'}:=by
  rw[LI f ho (by rw[hf]<;>rfl),hf]
 refine I.write (x:=p) (e:=p) (by rw[h];trivial) (.inl rfl) (fun b u hb q=>(LF _ _ (Ne.symm hb)).trans q) ⟨_,e⟩ ?_
 exact⟨hz,its',n',r,e⟩
noncomputable def ES:V->V->V->Hp->(Hp->Prop)->Prop:=fun o i v H Q=>∃ p xs k j,o=.ref p/\i=.int k/\H p=some (.lst xs)/\hZ xs.length k=some j/\Q (upd H p (.lst (xs.set j v)))
theorem set_list:B7 X ES:=by
 intro pins s σ H o i v ov iv u Q I ro ri rv h;obtain⟨p,xs,k,j,rfl,rfl,hp,hj,q⟩:=h;cases ro;obtain⟨t,rfl⟩:=ri;obtain⟨its,n,r,ho,hz⟩:=I.lst hp;obtain⟨h1,h2,h3,h4⟩:=rC hj;have hl:=r.length;have hn:=gA;have I':Inv X pins σ (upd H p (.lst (xs.set j v))) {s with heap:=s.heap.update p (Obj.mapSeq (·.setIfInBounds j u))}:=
  I.Df hp ho (oX its n j u) (r.set rv j) (by rw[Ko];exact hz) s.toks
 by_cases h0:0<=k
 ·have hk:k.toNat=j:=by
   rw[seqIndex_of h0 h4] at h1;exact Option.some.inj h1
  exact PySem.W.ki_setAt ho h0 (by lia) (by rw[Jv,<- hl];exact h4) (by rw[hk];exact⟨_,I',q⟩)
 ·have hk:(k+(its.toArray.size:Int)).toNat=j:=by
   rw[NY (by lia) h3] at h1
   rw[Jv,<- hl];exact Option.some.inj h1
  exact PySem.W.ki_setBack ho (by lia) (by rw[Jv,<- hl];exact h3) (by lia) (by rw[hk];exact⟨_,I',q⟩)
theorem mT(lo hi:Option Int)(n:Nat):(sliceBounds lo hi none n).1=((HT.cf n 0 lo:Nat):Int)/\(sliceBounds lo hi none n).2.1=((HT.cf n n hi:Nat):Int)/\(sliceBounds lo hi none n).2.2=1:=by
 refine⟨?_,?_,rfl⟩
 ·cases lo with
  |none=>simp[sliceBounds,HT.cf]
  |some i =>
   simp only[sliceBounds,HT.cf,Option.getD_none,show (1:Int) > 0 by decide,Lh]
   by_cases h:i<0
   ·simp only[h,Lh]<;>lia
   ·simp only[h,KY]<;>lia
 ·cases hi with
  |none=>simp[sliceBounds,HT.cf]
  |some i =>
   simp only[sliceBounds,HT.cf,Option.getD_none,show (1:Int) > 0 by decide,Lh]
   by_cases h:i<0
   ·simp only[h,Lh]<;>lia
   ·simp only[h,KY]<;>lia
theorem kj(its:List Value)(lo hi:Option Int):slicePick its.toArray lo hi none=((its.drop (HT.cf its.length 0 lo)).take (HT.cf its.length its.length hi-HT.cf its.length 0 lo)).toArray:=by
 obtain⟨h1,h2,h3⟩:=mT lo hi its.toArray.size;unfold slicePick;rw[h1,h2,h3];simp only[sliceRange_one,pick_run,Jv]<;>rfl
noncomputable def Ew(K:Oi):V->Option Int->Option Int->Hp->VK->Prop:=fun x lo hi H Q=>∃ a xs,x=.ref a/\cJ K H a xs/\∀ p,H p=none->Q (.ref p) (upd H p (.lst (me xs lo hi)))
theorem zq:uv X (Ew X.K):=by
 intro pins s σ H x v vl vu lo hi sl Q I rx hs pl pu h;obtain⟨a,xs,rfl,hx,q⟩:=h;cases rx;obtain⟨its,r,ht,hz⟩:=I.list hx;have hlen:=r.length;refine⟨"list",_,slot_list_getitem.lookup,ht.isList.typeIs,?_⟩;refine wpAny_getItem_list_slice ht.isList hs pl pu .none (by simp) ?_ (by rw[Jv]<;>lia)
 rw[kj,<- hlen];refine⟨.ref s.heap.objs.size,_,I.laid (t':=s.toks) (o:=.lst (me xs lo hi)) (fun b ob q=>Jr _ q) (J6 _) ?_,rfl,q _ (I.aU.fresh (J6 _))⟩;exact⟨JD (iE xs lo hi) hz,_,0,(r.drop (HT.cf xs.length 0 lo)).take (HT.cf xs.length xs.length hi-HT.cf xs.length 0 lo),JC _ rfl⟩
noncomputable def dP:V->Bool
 |.aJ=>true
 |.bl _=>true
 |.int _=>true
 |.str _=>true
 |_=>false
noncomputable def tW:V->V->Bool
 |.aJ,.aJ=>true
 |.bl a,.bl b=>a == b
 |.bl a,.int b=>(if a then 1 else 0) == b
 |.int a,.bl b=>a ==(if b then 1 else 0)
 |.int a,.int b=>a == b
 |.str a,.str b=>a == b
 |_,_=>false
theorem lK{y:V}{u v:Value}(ry:RelV y u)(rx:RelV x v)(fy:dP y=true)(fx:dP x=true):SeqAt.EqAt A s u v (tW y x):=by
 cases y with
 |aJ =>
  cases ry
  cases x with
  |aJ=>cases rx;exact SeqAt.EqAt.same _
  |bl b=>cases rx;exact SeqAt.EqAt.none_bool b
  |int b=>obtain⟨t,rfl⟩:=rx;exact SeqAt.EqAt.none_int b t
  |str b=>obtain⟨t,rfl⟩:=rx;exact SeqAt.EqAt.none_str b t
  |_=>exact absurd (show false=true from fx) Jw
 |bl a =>
  cases ry
  cases x with
  |aJ=>cases rx;exact SeqAt.EqAt.bool_none a
  |bl b=>cases rx;exact SeqAt.EqAt.bool_bool a b
  |int b=>obtain⟨t,rfl⟩:=rx;exact SeqAt.EqAt.bool_int a b t
  |str b=>obtain⟨t,rfl⟩:=rx;exact SeqAt.EqAt.bool_str a b t
  |_=>exact absurd (show false=true from fx) Jw
 |int a =>
  obtain⟨t',rfl⟩:=ry
  cases x with
  |aJ=>cases rx;exact SeqAt.EqAt.int_none a t'
  |bl b=>cases rx;exact SeqAt.EqAt.int_bool a t' b
  |int b=>obtain⟨t,rfl⟩:=rx;exact SeqAt.EqAt.int_int a t' b t
  |str b=>obtain⟨t,rfl⟩:=rx;exact SeqAt.EqAt.int_str a t' b t
  |_=>exact absurd (show false=true from fx) Jw
 |str a =>
  obtain⟨t',rfl⟩:=ry
  cases x with
  |aJ=>cases rx;exact SeqAt.EqAt.str_none a t'
  |bl b=>cases rx;exact SeqAt.EqAt.str_bool a t' b
  |int b=>obtain⟨t,rfl⟩:=rx;exact SeqAt.EqAt.str_int a t' b t
  |str b=>obtain⟨t,rfl⟩:=rx;exact SeqAt.EqAt.str_str a t' b t
  |_=>exact absurd (show false=true from fx) Jw
 |_=>exact absurd (show false=true from fy) Jw
noncomputable def zg(x:V)(u:Value):Bool:=match u with
 |.none=>tW .aJ x
 |.bool b=>tW (.bl b) x
 |.int i _=>tW (.int i) x
 |.str z _=>tW (.str z) x
 |_=>false
theorem yb{y:V}{u:Value}(r:RelV y u)(f:dP y=true):zg x u=tW y x:=by
 cases y with
 |aJ=>cases r;rfl
 |bl b=>cases r;rfl
 |int i=>obtain⟨t,rfl⟩:=r;rfl
 |str z=>obtain⟨t,rfl⟩:=r;rfl
 |_=>exact absurd (show false=true from f) Jw
theorem lU:∀{xs:List V} {us:List Value},Vals xs us->xs.all dP=true->us.any (zg x)=xs.any fun y=>tW y x
 |_,_,.nil,_=>rfl
 |y::xs,u::us,.cons r t,f=>by
  rw[Kv,Kl] at f;rw[MM,MM,yb r f.1,lU t f.2]
theorem jk{v:Value}(rx:RelV x v)(fx:dP x=true):∀{xs:List V} {us:List Value},Vals xs us->xs.all dP=true->∀ u∈us,SeqAt.EqAt A s u v (zg x u)
 |_,_,.nil,_=>fun u hu=>by cases hu
 |y::xs,u::us,.cons r t,f=>fun u' hu=>by
  rw[Kv,Kl] at f;rcases J5.mp hu with rfl|hu
  ·rw[yb r f.1];exact lK r rx f.1 fx
  ·exact jk rx fx t f.2 u' hu
noncomputable def G5(x:V)(xs:List V):Bool:=xs.any fun y=>tW y x
noncomputable def IJ(K:Oi)(neg:Bool):R2:=fun x y H Q=>∃ p xs,y=.ref p/\(cJ K H p xs\/cD K H p xs)/\dP x=true/\xs.all dP=true/\Q (.bl (if neg then !G5 x xs else G5 x xs)) H
theorem sO:dm X (compareOp .In) (IJ X.K false):=by
 intro pins s σ H x y v u Q I rx ry h;obtain⟨p,xs,rfl,hq,fx,fs,q⟩:=h;cases ry;rcases hq with hq|hq
 ·obtain⟨its,r,pl,hz⟩:=I.list hq;refine SeqAt.in_listAt (zg x) pl.isList (fun w hw=>jk rx fx r fs w (by simpa using hw)) ⟨.bl _,H,I,rfl,?_⟩
  rw[show its.toArray.any (zg x)=its.any (zg x) by simp,lU r fs]
  exact q
 ·obtain⟨its,r,pl,hz⟩:=I.tuple hq;refine SeqAt.in_tupleAt (zg x) pl (fun w hw=>jk rx fx r fs w (by simpa using hw)) ⟨.bl _,H,I,rfl,?_⟩
  rw[show its.toArray.any (zg x)=its.any (zg x) by simp,lU r fs]
  exact q
theorem mq:bI X (.builtin "len") (fun xs H Q=>∃ p ys,xs=[.ref p]/\(cJ X.K H p ys\/cD X.K H p ys)/\Q (.int ys.length) H):=by
 intro pins s σ H xs us Q I r h;obtain⟨p,ys,rfl,hq,q⟩:=h;obtain⟨u,rfl,rx⟩:=vals1 r;cases rx;have hn:=gA;rcases hq with hq|hq
 ·obtain⟨its,r',pl,hz⟩:=I.list hq;have hlen:=r'.length;exact Calls.call_len_list pl.isList (by simp only[Jv]<;>lia) ⟨.int ys.length,H,I.tok _,⟨s.toks+1,by rw[Jv,hlen]⟩,q⟩
 ·obtain⟨its,r',pl,hz⟩:=I.tuple hq;have hlen:=r'.length;exact len_tuple pl (by simp only[Jv]<;>lia) ⟨.int ys.length,H,I.tok _,⟨s.toks+1,by rw[Jv,hlen]⟩,q⟩
theorem mO:bI X (.builtin "len") (fun xs H Q=>∃ z,xs=[.str z]/\z.length<=sizeLine/\Q (.int z.length) H):=by
 intro pins s σ H xs us Q I r h;obtain⟨z,rfl,hz,q⟩:=h;obtain⟨u,rfl,t,rfl⟩:=vals1 r;have hn:=gA;exact len_str (by lia) ⟨.int z.length,H,I.tok _,⟨_,rfl⟩,q⟩
theorem bI.or{f:Value}{r r':List V->Hp->VK->Prop}(h:bI X f r)(h':bI X f r'):bI X f (fun xs H Q=>r xs H Q\/r' xs H Q):=by
 intro pins s σ H xs us Q I rs q;rcases q with q|q
 ·exact h pins s σ H xs us Q I rs q
 ·exact h' pins s σ H xs us Q I rs q
theorem kg:bI X (.type "tuple") (fun xs H Q=>∃ p ys,xs=[.ref p]/\((cJ X.K H p ys/\∀ l,H l=none->Q (.ref l) (upd H l (.tup ys)))\/(cD X.K H p ys/\Q (.ref p) H))):=by
 intro pins s σ H xs us Q I r h;obtain⟨p,ys,rfl,h⟩:=h;obtain⟨u,rfl,rx⟩:=vals1 r;cases rx;rcases h with ⟨hq,q⟩|⟨hq,q⟩
 ·obtain⟨its,r',pl,hz⟩:=I.list hq;have hlen:=r'.length;refine call_tuple_list pl.isList (fun h' kp=>?_) (by simp only[Jv]<;>lia)
  have I1:Inv X pins σ H {s with heap:=h'}:=I.kept (t':=s.toks) kp
  have I2:Inv X pins σ (upd H h'.objs.size (.tup ys)) {s with heap:=h'.push {cls:=.type "tuple",data:=.seq its.toArray}}:=
   I1.laid (t':=s.toks) (fun b o e=>Jr _ e) (J6 _) (show bO X.prog X.w _ _ _ (.tup ys) from⟨hz,its,r',dB.new _ _⟩)
  exact⟨.ref h'.objs.size,_,I2,rfl,q _ (I1.aU.fresh (J6 _))⟩
 ·obtain⟨its,r',pl,hz⟩:=I.tuple hq;exact call_tuple_same pl ⟨.ref p,H,I,rfl,q⟩
noncomputable def HF(K:Oi)(T:String)(x:V)(H:Hp):Prop:=match x with
 |.str _=>T="str"
 |.int _=>T="int"
 |.ref p=>(T="list"/\∃ xs,cJ K H p xs)\/(T="tuple"/\∃ o,K.lookup p=some o/\o.cls=.type "tuple"/\o.dict=none) \/
   (T="dict"/\((∃ kvs,H p=some (.dK kvs))\/∃ kvs,H p=some (.dT kvs)))\/(T="set"/\∃ S n,H p=some (.set S n))
 |_=>False
theorem vf{T:String}{v:Value}(I:Inv X pins σ H s)(r:RelV x v)(ty:HF X.K T x H):
  s.TypeIs v T/\∀ a,v=.ref a->∃ ob,s.heap.get? a=some ob/\ob.dict=none:=by
 cases x with
 |str z =>
  obtain⟨t,rfl⟩:=r
  cases (show T="str" from ty)
  exact⟨typeIs_str s z t,fun _ e=>nomatch e⟩
 |int i =>
  obtain⟨t,rfl⟩:=r
  cases (show T="int" from ty)
  exact⟨LA s i t,fun _ e=>nomatch e⟩
 |ref p =>
  cases r;rcases ty with ⟨rfl,xs,hq⟩|⟨rfl,o,hk,hc,hd⟩|⟨rfl,hk⟩|⟨rfl,S,n,hk⟩
  ·obtain⟨its,_,pl,_⟩:=I.list hq;refine⟨pl.isList.typeIs,fun a e=>?_⟩;cases e;obtain⟨o,n,e,c,hd,_⟩:=pl;exact⟨o,e,hd⟩
  ·refine⟨⟨o,I.gJ p o hk,hc⟩,fun a e=>?_⟩;cases e;exact⟨o,I.gJ _ o hk,hd⟩
  ·have z:∃ o,s.heap.get? p=some o/\o.ExactDict:=by
    rcases hk with ⟨kvs,hk⟩|⟨kvs,hk⟩
    ·obtain⟨_,_,_,_,o,_,_,e,ex,_⟩:=I.aU p _ hk;exact⟨o,e,ex⟩
    ·obtain⟨_,_,_,_,o,_,_,e,ex,_⟩:=I.aU p _ hk;exact⟨o,e,ex⟩
   obtain⟨o,e,ex⟩:=z;refine⟨⟨o,e,ex.1⟩,fun a e2=>?_⟩;cases e2;exact⟨o,e,ex.2.1⟩
  ·obtain⟨o,_,_,_,e,ex,_⟩:=I.aU p _ hk;refine⟨⟨o,e,ex.1⟩,fun a e2=>?_⟩;cases e2;exact⟨o,e,ex.2.1⟩
 |_=>exact False.elim ty
noncomputable def HN(K:Oi)(T:String)(r:V->List V->Hp->VK->Prop)(to:TE):TE:=fun σ H Q=>to σ H fun x H1=>HF K T x H1/\r x [] H1 Q
noncomputable def HS(K:Oi)(T:String)(r:V->List V->Hp->VK->Prop)(to:TE)(t:TA):TE:=fun σ H Q=>to σ H fun x H1=>HF K T x H1/\t σ H1 fun xs H2=>r x xs H2 Q
variable {o e:Expr} {es:List Expr} {to:TE} {t:TA} {name:Str} {apos cpos:Pos} {T id:String} {r:V->List V->Hp->VK->Prop}
theorem DD(pa:PlainAttrs T)(slot:Slot T name id)(hty:typeOf (.builtin id)=pure (.type "method_descriptor"))(hm:qX X id r)(ho:PE X o to)
  (hbase:autoParam (attributeBase o name X.env (eval o X.env)=eval o X.env) ℜ0) (hline:autoParam ((apos.endLine == cpos.line)=true) ℜ0):PE X (.Call (.Attribute o name apos) [] [] cpos) (HN X.K T r to):=by
 intro pins s σ H Q I h;refine wpAny_Call_method0_late hbase hline (cB (ho pins s σ H _ I h) fun v s1 ⟨x,H1,I1,r1,ty,q1⟩=>?_);obtain⟨h1,h2⟩:=vf I1 r1 ty;exact⟨T,id,pa,slot,hty,h1,h2,N7 rfl (PySem.evalArgs_none (hm pins s1 σ H1 x [] v [] Q I1 r1 .nil q1))⟩
theorem Fh(pa:PlainAttrs T)(slot:Slot T name id)(hty:typeOf (.builtin id)=pure (.type "method_descriptor"))(hm:qX X id r)(ho:PE X o to)(ha:PA X (e::es) t)
  (hbase:autoParam (attributeBase o name X.env (eval o X.env)=eval o X.env) ℜ0)
  (hfew:autoParam (((backTo cpos (starEach (e::es) X.env)).all (fun x=>!x.1) && (backToKw cpos (keywordEach [] X.env)).all (fun x=>x.1.isSome)
   && decide ((e::es).length+([]:List Keyword).length+(if ([]:List Keyword).isEmpty then 0 else 1)<30))=true) ℜ0)
  (hline:autoParam ((apos.endLine == cpos.line)=true) ℜ0) (hs:autoParam (starEach (e::es) X.env=(false,eval e X.env)::starEach es X.env) ℜ0) (hplain:autoParam ((backTo cpos (starEach es X.env)).any (·.1)=false) ℜ0) :
  PE X (.Call (.Attribute o name apos) (e::es) [] cpos) (HS X.K T r to t):=by
 intro pins s σ H Q I h;refine wpAny_Call_method_late hbase hfew hline rfl (cB (ho pins s σ H _ I h) fun v s1 ⟨x,H1,I1,r1,ty,q1⟩=>?_);obtain⟨h1,h2⟩:=vf I1 r1 ty;refine⟨T,id,pa,slot,hty,h1,h2,?_⟩;have hA:=ha cpos pins s1 σ H1 _ I1 q1;rw[hs] at hA ⊢;refine N7 (by show (false || (backTo cpos (starEach es X.env)).any (·.1))=false;rw[hplain]<;>rfl) (Calls.evalArgs_plain ?_)
 exact cB hA fun us s2 ⟨vs,H2,I2,r2,q2⟩=>hm pins s2 σ H2 x vs v us Q I2 r1 r2 q2
/- xs.append(e),list.index on a module's tuple .. are qX facts of 06m -/
end
noncomputable def GH(X:Cx)(id:String)(r:V->List V->Hp->VK->Prop):Prop:=
 ∀(pins:List (Addr×Obj)) (s:Shared) (σ:St) (H:Hp) (x:V) (xs:List V) (v:Value) (us:List Value) (Q:VK),Inv X pins σ H s->RelV x v->Vals xs us->r x xs H Q ->
  wpAny (model X.prog X.w) X.A (call (.builtin id) (v::us)) (EP X pins σ Q) X.xe s
theorem Vals.one:∀{x:V} {us:List Value},Vals [x] us->∃ u,us=[u]/\RelV x u
 |_,_,.cons r .nil=>⟨_,rfl,r⟩
theorem Vals.eraseIdx:∀{xs:List V} {us:List Value} (i:Nat),Vals xs us->Vals (xs.eraseIdx i) (us.eraseIdx i)
 |_,_,_,.nil=>.nil
 |_,_,0,.cons _ t=>t
 |_,_,i+1,.cons r t=>.cons r (Vals.eraseIdx i t)
theorem Vals.rep(h:Vals xs us):∀ k:Nat,Vals (List.replicate k xs).flatten (List.replicate k us).flatten
 |0=>.nil
 |k+1=>by
  rw[Ka,Ka,K1,K1];exact Vals.append h (Vals.rep h k)
theorem kR:∀(l:List α) (i:Nat),(l.eraseIdx i).length<=l.length
 |[],_=>J6 _
 |_::_,0=>Lv _
 |_::r,i+1=>Nat.succ_le_succ (kR r i)
theorem foldl_rep(its:List Value):∀(k:Nat) (acc:List Value),
  List.foldl (fun x1 x2=>x1++x2) acc.toArray (List.replicate k its.toArray)=(acc++(List.replicate k its).flatten).toArray
 |0,acc=>by simp
 |k+1,acc=>by
  have e:acc.toArray++its.toArray=(acc++its).toArray:=by simp
  have e2:(acc++its)++(List.replicate k its).flatten=acc++(List.replicate (k+1) its).flatten:=by
   rw[Ka,K1,JU]
  rw[<- e2,<- foldl_rep its k (acc++its),<- e,Ka,List.foldl_cons]
section
variable {X:Cx} {pins:List (Addr×Obj)} {σ:St} {H:Hp} {s:Shared} {l b:Addr} {xs ys zs:List V}
theorem Inv.C3{f:Array Value->Array Value}{t':Nat}(I:Inv X pins σ H s)(hH:H l=some (.lst xs))
  (e:s.heap.get? l=some {cls:=.type "list",data:=.seq its.toArray n}) (hf:f its.toArray=its'.toArray) (hv:Vals ys its') (hz:ys.length<=sizeLine) :
  Inv X pins σ (upd H l (.lst ys)) {s with heap:=s.heap.update l (Obj.mapSeq f),toks:=t'}:=by
 have q:=PySem.IsL.update e f;rw[hf] at q;refine I.write (x:=l) (e:=l) (by rw[hH];exact trivial) (.inl rfl) (fun b' u hb hu=>(LF s.heap (Obj.mapSeq f) (Ne.symm hb)).trans hu) ⟨_,q⟩ ?_
 exact⟨hz,its',_,hv,q⟩
theorem Inv.D4{t':Nat}(I:Inv X pins σ H s)(hv:Vals ys its)(hz:ys.length<=sizeLine):
  Inv X pins σ (upd H s.heap.objs.size (.lst ys)) {s with heap:=s.heap.push {cls:=.type "list",data:=.seq its.toArray},toks:=t'}:=
 I.laid (fun _ _ q=>Jr _ q) (J6 _) ⟨hz,its,0,hv,JC _ rfl⟩
theorem Inv.fresh(I:Inv X pins σ H s):H s.heap.objs.size=none:=I.aU.fresh (J6 _)
theorem Inv.o_(I:Inv X pins σ H s)(hH:H l=some (.lst xs)):xs.length<=sizeLine/\∃(its:List Value) (n:Nat),Vals xs its/\xs.length=its.length/\s.heap.get? l=some {cls:=.type "list",data:=.seq its.toArray n}:=by
 obtain⟨z,its,n,r,e⟩:=I.aU l _ hH;exact⟨z,its,n,r,r.length,e⟩
theorem wz(h:n<=sizeLine):Builtin.List.listTooLong n=false:=by
 unfold Builtin.List.listTooLong;exact JL (by lia)
end
section
variable {X:Cx}
noncomputable def qP:V->List V->Hp->VK->Prop:=fun x vs H Q=>∃ l xs y,x=.ref l/\vs=[y]/\H l=some (.lst xs)/\xs.length<sizeLine/\Q .aJ (upd H l (.lst (xs++[y])))
theorem cE:GH X "list.append" qP:=by
 intro pins s σ H x vs v us Q I rx rv h;obtain⟨l,xs,y,rfl,rfl,hH,hz,q⟩:=h;cases rx;obtain⟨u,rfl,ru⟩:=rv.one;obtain⟨z,its,n,r,hl,e⟩:=I.o_ hH;refine KI F.slot_list_append ⟨_,e,rfl⟩ F.entry_list_append (F.args_list_append_2 _ _) (PySem.list_append l its.toArray n u (by rw[Jv];lia)) ⟨e,?_⟩
 refine⟨.aJ,_,I.C3 (its':=its++[u]) hH e (by simp) (r.append (.cons ru .nil)) ?_,rfl,q⟩
 rw[Jt,J_];lia
noncomputable def xh:V->List V->Hp->VK->Prop:=fun x vs H Q=>∃ l xs i k y,x=.ref l/\vs=[.int i]/\H l=some (.lst xs)/\-(2^63)<=i/\i<2^63/\seqIndex? i xs.length=some k/\xs[k]?=some y/\Q y (upd H l (.lst (xs.eraseIdx k)))
theorem vZ:GH X "list.pop" xh:=by
 intro pins s σ H x vs v us Q I rx rv h;obtain⟨l,xs,i,k,y,rfl,rfl,hH,h1,h2,hk,hy,q⟩:=h;cases rx;obtain⟨u,rfl,ru⟩:=rv.one;obtain⟨t,rfl⟩:=ru;obtain⟨z,its,n,r,hl,e⟩:=I.o_ hH;obtain⟨w,hw,rw'⟩:=r.get hy;refine KI F.slot_list_pop ⟨_,e,rfl⟩ F.entry_list_pop (F.args_list_pop_2 _ _)
  (MeetsSeq.list_pop_at l its.toArray n i t k w (NM h1 h2) (by rw[Jv,<- hl];exact hk) (by rw[<- JT];exact hw) (by rw[Jv];lia)) ⟨e,?_⟩
 refine⟨y,_,I.C3 (its':=its.eraseIdx k) hH e ?_ (r.eraseIdx k) ?_,rw',q⟩
 ·show its.toArray.eraseIdxIfInBounds k=(its.eraseIdx k).toArray;rw[List.eraseIdxIfInBounds_toArray]
 ·have:=kR xs k;lia
noncomputable def FX:R2:=fun x y H Q=>∃ l b xs zs,x=.ref l/\y=.ref b/\H l=some (.lst xs)/\H b=some (.lst zs)/\xs.length+zs.length<=sizeLine/\∀ p,H p=none->Q (.ref p) (upd H p (.lst (xs++zs)))
theorem DA:dm X (binaryOp .Add) FX:=by
 intro pins s σ H x y v u Q I rx ry h;obtain⟨l,b,xs,zs,rfl,rfl,hH,hB,hz,q⟩:=h;cases rx;cases ry;obtain⟨z,its,n,r,hl,e⟩:=I.o_ hH;obtain⟨z2,its2,n2,r2,hl2,e2⟩:=I.o_ hB;refine PySem.P.add_list e e2 ?_ (by rw[Jv,Jv];lia)
 have ea:its.toArray++its2.toArray=(its++its2).toArray:=by simp
 rw[ea];exact⟨.ref _,_,I.D4 (t':=s.toks) (r.append r2) (by rw[Jt];lia),rfl,q _ I.fresh⟩
noncomputable def Fv:R2:=fun x y H Q=>∃ l k xs,x=.ref l/\y=.int k/\H l=some (.lst xs)/\-(2^63)<=k/\k<2^63/\xs.length*k.toNat<=sizeLine /\
 ∀ p,H p=none->Q (.ref p) (upd H p (.lst (List.replicate k.toNat xs).flatten))
theorem len_rep(xs:List α)(k:Nat):(List.replicate k xs).flatten.length=k*xs.length:=by
 induction k with
 |zero=>simp
 |succ k ih=>rw[Ka,K1,Jt,ih,LV,Nat.add_comm]
theorem CM:dm X (binaryOp .Mult) Fv:=by
 intro pins s σ H x y v u Q I rx ry h;obtain⟨l,k,xs,rfl,rfl,hH,h1,h2,hz,q⟩:=h;cases rx;obtain⟨t,rfl⟩:=ry;obtain⟨z,its,n,r,hl,e⟩:=I.o_ hH;have hlen:its.toArray.size*k.toNat<=sizeLine:=by rw[Jv,<- hl];exact hz
 have hcap:¬ its.toArray.size*k.toNat >(2^63-1) / 8:=by
  have:(sizeLine:Nat)<=(2^63-1) / 8:=by decide
  lia
 have hfit:¬ (!Builtin.List.listFitsIndex k)=true:=by
  rw[NM h1 h2];exact Jw
 have hlong:¬ Builtin.List.listTooLong (its.toArray.size*k.toNat)=true:=by
  rw[wz hlen];exact Jw
 have hnew:List.foldl (fun x1 x2=>x1++x2) #[] (List.replicate (if its.toArray.isEmpty=true then 0 else k.toNat) its.toArray)=(List.replicate k.toNat its).flatten.toArray:=by
  have f0:∀ m:Nat,List.foldl (fun x1 x2=>x1++x2) #[] (List.replicate m its.toArray)=(List.replicate m its).flatten.toArray:=fun m=>by
   have:=foldl_rep its m [];rw[Li] at this;exact this
  rw[f0]
  cases its with
  |nil=>simp
  |cons a r'=>rw[Ju (by simp)]
 refine Lq (T:="list") (U:="int") (by decide) ⟨_,e,rfl⟩ (fun s'=>LA s' k t) noFill_list_mul F.fills_int_mul F.slot_int_rmul repeat_list F.slot_int_index.lookup
  (KI F.slot_int_rmul (LA s k t) F.entry_int_rmul (F.args_int_rmul_2 _ _) (int___rmul___int_list k t l its.toArray n)
   ⟨e,rfl,⟨_,e,rfl⟩,KI F.slot_list_mul ⟨_,e,rfl⟩ F.entry_list_mul (F.args_list_mul_2 _ _) (AutoListH.list___mul___list_int_3 l its.toArray n k t hfit hcap hlong) ⟨e,?_⟩⟩)
 rw[hnew];exact⟨.ref _,_,I.D4 (t':=s.toks) (r.rep k.toNat) (by rw[len_rep,Nat.mul_comm];exact hz),rfl,q _ I.fresh⟩
end
section
variable {prog:Program} {w:World} {A:Around} {E:Value->Shared->Prop} {s:Shared}
end
section
variable {X:Cx}
end
section
variable {κ:Type} [DecidableEq κ]
end
section
variable {P:Program} {w:World} {H:Hp} {h:Heap} {a:Addr}
end
section
variable {X:Cx} {pins:List (Addr×Obj)} {σ:St} {H:Hp} {s:Shared} {a:Addr} {y v:V} {u r:Value} {o:Option V} {A:Around} {E:Value->Shared->Prop}
end
section
variable {X:Cx} {pins:List (Addr×Obj)} {σ:St} {H:Hp} {s:Shared} {a:Addr} {kvs:List (Key×V)} {k:Key} {u:Value} {A:Around} {E:Value->Shared->Prop}
end
noncomputable def BZ(i:Expr):Prop:=∀ ov iv,subscripted i false ov iv=operate [ov,iv] (getItem ov iv)
theorem yp{prog:Program}{w:World}{E:Value->Shared->Prop}{env:Env}{value slice:Expr}{pos:Pos}{T id:String}{Q:Value->Shared->Prop}
  (hl:typeLookup (.type T) "__getitem__"=pure (some (.builtin id))) (hs:BZ slice)
  (h:wpAny (model prog w) A (eval value env) (fun o s₁=>wpAny (model prog w) A (eval slice env) (fun i s₂=>s₂.TypeIs o T/\wpAny (model prog w) A (getItem o i) Q E s₂) E s₁) E s) :
  wpAny (model prog w) A (eval (.Subscript value slice pos) env) Q E s:=by
 refine Subscript_ (Kw h (fun o s₁ h₁=>Kw h₁ (fun i s₂ h₂=>?_) fun _ _ x=>x) fun _ _ x=>x);obtain⟨hT,h₂⟩:=h₂;unfold subscriptTail;refine Jp ?_;rw[getitemInPython_of_ne hT.not_modules];refine Jp (wpAny_specialOf hT hl ?_);have fin:wpAny (model prog w) A (subscripted slice false o i) (fun r s₃=>wpAny (model prog w) A (letTemporaryGo value o r >>= fun _=>pure r) Q E s₃) E s₂:=by
  rw[hs o i];exact wpAny_operating (Kw h₂ (fun r s₃ h₃=>Jp (wpAny_letTemporaryGo (Jx h₃))) fun _ _ x=>x)
 first
  |exact Jx (Jp fin)
  |exact Jp (Jx (Jp fin))
  |exact Jp fin
section
variable {X:Cx} {o i e value:Expr} {pos pos' tpos:Pos} {td ty tv:TE}
end
section
variable {X:Cx} {pos:Pos}
end
section
variable {X:Cx} {pins:List (Addr×Obj)} {σ:St} {H:Hp} {s:Shared} {a:Addr} {y d:V} {u r:Value} {o:Option V} {A:Around} {E:Value->Shared->Prop}
end
section
variable {X:Cx} {o e f:Expr} {apos cpos:Pos} {td ty tx:TE}
end
section
variable {X:Cx} {pins:List (Addr×Obj)} {σ:St} {H:Hp} {s:Shared} {a:Addr} {kvs:List (Key×V)} {A:Around} {E:Value->Shared->Prop}
end
section
variable {X:Cx} {pins:List (Addr×Obj)} {σ:St} {H:Hp} {s:Shared} {a:Addr} {y:V} {u:Value} {A:Around} {E:Value->Shared->Prop}
end
end L2
namespace Att
open PySem PySem.W PySem.Calls PyProof.Rows
variable{l:OpenLaw}
theorem iK{P:Params}{h:Heap}:∀(ns:List Int) (vs:List Value),WellAll P h vs (ns.map WData.int)->IntsAre vs ns:=by
 intro ns
 induction ns with
 |nil =>
  intro vs w;rw[List.map_nil] at w;cases w;exact .nil
 |cons n ns ih =>
  intro vs w;rw[List.map_cons] at w
  cases w with
  |cons a b =>
   cases a;exact .cons _ _ (ih _ b)
theorem sg{n:Nat}(hn:l.most=some n){P:Params}{h:Heap}{args:List WData}{vals:List Value}
  (hpre:l.row.toRowW.claim.pre args=true) (hwl:WellAll P h vals args) :
  ∃ a vs ns,vals=[Value.ref a]/\args=[WData.list (ns.map WData.int)]/\h.get? a=some {cls:=.type "list",data:=.seq vs.toArray}/\IntsAre vs ns/\ns.length<=n:=by
 have hsh:WShape.hasAll [] args [.list .int]=true:=(pre_splitW hpre).1;have hc:l.pre.holds [] {args:=args}=true:=(pre_splitW hpre).2;obtain⟨d,r,rfl,h1,h2⟩:=hasAllW_cons hsh;obtain rfl:=hasAllW_nil h2;obtain⟨xs,rfl,h3⟩:=hasW_list h1;obtain⟨ns,rfl⟩:=items_int h3;have hlen:ns.length<=n:=by
  unfold OpenLaw.pre at hc;have h4:(WTm.not (.lt (.lit (.int (n:Int))) (.len (.arg 0)))).holds [] {args:=[.list (ns.map .int)]}=true:=by
   have h4:=(holds_andW hc).1;rw[hn] at h4;exact h4
  have h5:=condW_of h4 (w_not (w_lt w_lit (w_len_list (w_arg rfl))));rw[List.length_map] at h5;refine Nat.le_of_not_lt fun q=>?_;have q':(n:Int)<((ns.length:Nat):Int):=by lia
  first
   | (rw[decide_eq_true q'] at h5;exact absurd h5 (by decide))
   | (simp at h5;lia)
 cases hwl with
 |cons w1 w2 =>
  cases w2
  cases w1 with
  |list ho hall=>exact⟨_,_,ns,rfl,rfl,ho,iK ns _ hall,hlen⟩
theorem sV(l:OpenLaw)(args:List WData):l.row.toRowW.claim.post args (.bool true) args=true:=
 postW_of (r:=l.row.toRowW) (X:=(true == true))
  (show WShape.has [] (.bool true) .bool=true by first|rfl|decide|simp[WShape.has,WShape.arms,WShape.armsAll])
  (show (WTm.eq .res (.lit (.bool true))).value [] {args:=args,res:=some (.bool true),after:=args}=some (.bool (true == true)) from w_eq_bool (w_res rfl) w_lit) rfl
theorem mV{n:Nat}{q:Program}{loose:List Str}{XP:(Str->Option Value)->Heap->Prop}{YP:World->Heap->Prop}{d:DefRec}
  (hn:l.most=some n) (hdf:d.params.defaults=[])
  (call:∀(w:World) (s₀ s₁:Shared) (mg mb:Str->Option Value) (fa:Addr) (o:Obj) (pm cd doc:Value) (a:Addr) (vs:List Value) (ns:List Int),
   Ground q loose [] XP w s₀ mg mb s₁.heap->YP w s₁.heap ->
   s₁.heap.get? fa=some o->o.data=.func (docDef d.name d.params d.body d.scope pm cd doc)->s₁.heap.CodeRec cd d.name->mg d.name=some (.ref fa) ->
   s₁.heap.get? a=some {cls:=.type "list",data:=.seq vs.toArray}->IntsAre vs ns->ns.length<=n->s₁.gens=#[] ->
   codeAny (model l.prog w) callerA (.call (.ref fa) ⟨[.ref a],[]⟩) (fun r s'=>r=.ok (.ret (.bool true))/\OldK s₁.heap s'.heap/\s'.os=s₁.os/\AllBare s'.gens) s₁) :
  WalkO q loose XP YP l.row.toRowW d [] (fun f vs=>PySem.call f vs):=by
 intro w s₀ s₁ mg mb G Y fa o pm cd doc dV kV ho hd hcd hD hmg hg args vals as hpre hlay hrd hwl hlo;obtain rfl:dV=.none:=Dflts.none hD hdf;obtain rfl:kV=.none:=Dflts.noKw hD;obtain⟨a,vs,ns,rfl,rfl,hobj,hints,hlen⟩:=sg hn hpre hwl;refine enter_call (codeAny_mono (call w s₀ s₁ mg mb fa o pm cd doc a vs ns G Y ho (fd_plain hd) hcd hmg hobj hints hlen hg) fun r s' hq=>?_);obtain⟨rfl,h2,h3,h4⟩:=hq;exact⟨.inl ⟨.bool true,.bool true,[],rfl,fun _=>rfl,.bool true,sV l _,fun _=>⟨List.Pairwise.nil,fun _ hm=>(nomatch hm)⟩⟩,h2,h3,h4⟩
section
variable {prog:Program} {w:World} {A:Around} {E:Value->Shared->Prop} {s:Shared} {K:Frag}
end
end Att
namespace L2
open PySem PySem.Spec PyProof.Rows
variable{P prog q:Program}{K:Oi}{N ON loose:List Str}{mb mg:Str->Option Value}{base h h':Heap}{a b f fa i1 i2 it l l1 l2 p z:Addr}{o:HO}{w:World}{CX:kF}{i j k n:Nat}{fd:FuncData}{name qual x:Str}{sp:Sp}{vs ws xs ys:List V}{ns:List Int}{X:Cx}{st:Stmt}{A:Around}{osc scope:Scope}{env:Env}{cells:List (Str×Addr)}{s:Shared}{e elt iter tg:Expr}{es ifs:List Expr}{tc:TT}{te:TE}{pins:List (Addr×Obj)}{σ:St}{H H' H1:Hp}{E Q:Value->Shared->Prop}{apos cpos tp:Pos}{r:List V->Hp->VK->Prop}{ta:TA}{items:Array Value}{fp:List Addr}{α:Type}{r':R2}{hi lo:Option Expr}{ad:Nat->Addr}{md:List Bool}{P1 P2:Nat->Value->Prop}{S1 S2:Nat->Heap->Prop}{cls:Value}{To:Option Addr}{its its2:List Value}
theorem ku:∀{vs:List Value} {ns:List Int},IntsAre vs ns->Vals (ns.map V.int) vs
 |_,_,.nil=>.nil
 |_,_,.cons n t h=>.cons ⟨t,rfl⟩ (ku h)
structure hJ (q:Program) (K:Oi):Prop where
 nt:PySem.W.noTabs K=true
 nd:((cw K).map (·.2.1)).Nodup
 fd:∀ x∈dS,PySem.W.tabIn K x=none\/((recsOf q).find? (fun e=>e.name == x)).isSome=true
theorem hJ.at{mean:ExcName->Option Value}(L:hJ q K)(T:Top q loose mean mg mb h)(X:K.In h):∀ t∈cw K,PySem.W.CodeHd h t.1 t.2.1/\h.get? t.2.1=some (PySem.W.tabObj #[]):=fun t ht=>by
 unfold cw at ht;obtain⟨x,hx,e⟩:=LU.mp ht;obtain⟨p,e1,e2⟩:=Option.map_eq_some_iff.mp e;obtain⟨c,Pt⟩:=p;subst e2;rcases L.fd x hx with z|z
 ·rw[z] at e1;cases e1
 ·obtain⟨d,hd⟩:=Ng.mp z;exact PySem.W.tab_of T X hd e1
noncomputable def mH:List (Addr×Addr×Str)->Addr->Option HO
 |[],_=>none
 |t::r,b=>if b=t.2.1 then some (.uq #[.str t.2.2 0]) else mH r b
theorem fW:∀{l:List (Addr×Addr×Str)},mH l b=some o->∃ t∈l,b=t.2.1/\o=.uq #[.str t.2.2 0]
 |t::r,e=>by
  unfold mH at e;by_cases z:b=t.2.1
  ·rw[Jy z] at e;cases e;exact⟨t,.head _,z,rfl⟩
  ·rw[Ju z] at e;obtain⟨u,hu,q⟩:=fW e;exact⟨u,.tail _ hu,q⟩
theorem ni{t:Addr×Addr×Str}:∀{l:List (Addr×Addr×Str)},(l.map (·.2.1)).Nodup->t∈l->mH l t.2.1=some (.uq #[.str t.2.2 0])
 |u::r,nd,m=>by
  obtain⟨n1,n2⟩:=Ki.mp nd;unfold mH;rcases J5.mp m with rfl|m
  ·rw[Jy rfl]
  ·rw[Ju fun z=>n1 (JX.mpr ⟨t,m,z⟩)];exact ni n2 m
theorem vx{s₁:Shared}{vs:List Value}
  (KX:K.In s₁.heap) (hns:s₁.heap.Ns mainGlobals mg) (hb:s₁.heap.Ns builtinsNs mb) (hbb:∀ x:Str,x≠"__name__"->mb x=bootBuiltins x) (hlim:s₁.heap.NoLimit) (hbm:CN mg s₁.heap)
  (hT:∀ t∈cw K,PySem.W.CodeHd s₁.heap t.1 t.2.1/\s₁.heap.get? t.2.1=some (PySem.W.tabObj #[])) (L:hJ q K) (hg:s₁.gens=#[])
  (ha:s₁.heap.get? a=some {cls:=.type "list",data:=.seq vs.toArray}) (hi:IntsAre vs ns) (hl:ns.length<=sizeLine) (hr:bM k callerA)
  (F:∀ base:Heap,K.In base->base.Ns mainGlobals mg->ee P w K mg base CX k fa fd [x] sp) (hbind:∀(s:Shared) (u:Value),BindsTo s fd ⟨[u],[]⟩ [(x,u)])
  (hsp:∀ H:Hp,True->cJ K H a (ns.map V.int)->sp [.ref a] H (fun v _=>v=.bl true) fun _ _ _=>False)
  (hCX:∀ H e s',CX [] H s₁ (fun _ _ _=>False) e s'->False) :
  codeAny (model P w) callerA (.call (.ref fa) ⟨[.ref a],[]⟩) (fun r s'=>r=.ok (.ret (.bool true))/\OldK s₁.heap s'.heap/\s'.os=s₁.os/\AllBare s'.gens) s₁:=by
 have rv:=ku hi;have lenV:=hi.length;have naT:∀ t∈cw K,t.2.1≠a:=fun t ht z=>by
  have e:=(hT t ht).2;rw[z,ha] at e;cases e
 let oS:Obj:={cls:=.type "list",data:=.seq vs.toArray}
 have core:∀ S:Option HO,(S=none\/S=some (.hV oS (.lst (ns.map V.int))))->(S≠none->K.lookup a=none)->cJ K (fun b=>if b=a then S else mH (cw K) b) a (ns.map V.int) ->
   codeAny (model P w) callerA (.call (.ref fa) ⟨[.ref a],[]⟩) (fun r s'=>r=.ok (.ret (.bool true))/\OldK s₁.heap s'.heap/\s'.os=s₁.os/\AllBare s'.gens) s₁:=by
  intro S hS hK hSq;generalize hH:(fun b=>if b=a then S else mH (cw K) b)=H at hSq
  have hA:H a=S:=by rw[<- hH];exact Jy rfl
  have hB:∀ b,b≠a->H b=mH (cw K) b:=fun b z=>by rw[<- hH];exact Ju z
  have free:∀{b:Addr} {o:Obj},s₁.heap.get? b=some o->o≠PySem.W.tabObj #[]->(b=a->S=none)->H b=none:=fun {b o} e hn hz=>by
   by_cases z:b=a
   ·rw[z,hA];exact hz z
   ·rw[hB b z]
    cases q:mH (cw K) b with
    |none=>rfl
    |some u =>
     obtain⟨t,ht,e1,_⟩:=fW q;have e2:=(hT t ht).2;rw[<- e1,e] at e2;exact absurd (Option.some.inj e2) hn
  have nsK:∀{b:Addr} {m:Str->Option Value},s₁.heap.Ns b m->(kf s₁.heap H).Ns b m:=fun {b m} ⟨o,es,ep,e,d,r⟩=>⟨o,es,ep,hG e (free e (fun z=>by rw[z] at d;cases d) fun z=>by rw[z,ha] at e;cases e;cases d),d,r⟩
  have hKb:K.In (kf s₁.heap H):=fun b o e=>hG (KX b o e) (free (KX b o e) (fun z=>by
    have h2:=Kx.mp L.nt (b,o) (PySem.W.mem_of_lookupK e);subst z;exact absurd (show false=true from h2) Jw) fun z=>by
    cases q:S with
    |none=>rfl
    |some u=>rw[z,hK (by rw[q];simp)] at e;cases e)
  have hcd:∀ t∈cw K,PySem.W.CodeHd (kf s₁.heap H) t.1 t.2.1:=fun t ht=>by
   obtain⟨o,us,fl,tf,fg,tg,fF,tx,tt,e1,e2,r⟩:=(hT t ht).1;exact⟨o,us,fl,tf,fg,tg,fF,tx,tt,hG e1 (free e1 (fun z=>by rw[z] at e2;cases e2) fun z=>by rw[z,ha] at e1;cases e1;exact absurd (Value.type.inj e2) (by decide)),e2,r⟩
  have hbm':CN mg (kf s₁.heap H):=by
   obtain⟨bm,ob,b1,b2,b3,b4,b5⟩:=hbm;exact⟨bm,ob,b1,b2,hG b3 (free b3 (fun z=>by rw[z] at b4;cases b4) fun z=>by rw[z,ha] at b3;cases b3;exact absurd (Value.type.inj b4) (by decide)),b4,b5⟩
  have aU:fU P w H s₁.heap:=fun b u e=>by
   by_cases z:b=a
   ·rw[z,hA] at e;rcases hS with h0|h0
    ·rw[h0] at e;cases e
    ·rw[h0] at e;cases e;subst z;exact⟨ha,by rw[Js];exact hl,vs,_,rv,ha⟩
   ·rw[hB b z] at e;obtain⟨t,ht,e1,e2⟩:=fW e;subst e2;exact⟨#[],by rw[e1];exact (hT t ht).2,trivial,fun pos cv c=>by cases (show (none:Option Value)=some cv from c)⟩
  have hM:Mod K mg (kf s₁.heap H):=⟨hKb,nsK hns,⟨mb,nsK hb,hbb⟩,let ⟨mc,h1,h2⟩:=hlim;⟨mc,nsK h1,h2⟩,hcd,hbm'⟩
  have e0:yx P w K mg (kf s₁.heap H) callerA [] s₁ H:=⟨rfl,hM,fun b o e=>y1 e,NZ (tE _ _),trivial,fun b hb=>absurd (show b∈([]:List Addr) from hb) (by simp),aU,.of_eq hg,fun t ht=>⟨#[],by
   rw[hB _ (naT t ht),ni L.nd ht,MF]⟩⟩
  refine Nf ((F _ hKb (nsK hns)).run callerA [] s₁ H ⟨[.ref a],[]⟩ [.ref a] [.ref a] _ _ hr e0 (hbind s₁ (.ref a)) (.cons rfl .nil) (hsp H trivial hSq)) fun r s' h=>?_
  cases r with
  |error e=>exact (hCX H e s' h).elim
  |ok fl =>
   cases fl with
   |next=>exact False.elim h
   |brk=>exact False.elim h
   |cont=>exact False.elim h
   |ret u =>
    obtain⟨v,H',os,bare,un,hok',r',qv⟩:=h;have q':v=.bl true:=qv;subst q';obtain rfl:u=Value.bool true:=r';have each:∀ b o,s₁.heap.get? b=some o->s'.heap.get? b=some o\/∃ c,PySem.W.CodeHd s₁.heap c b/\o=PySem.W.tabObj #[]/\∃ ps,s'.heap.get? b=some (PySem.W.tabObj ps):=fun b o e=>by
     cases qb:H b with
     |none=>exact .inl (un.keep b o e qb (by intro z;exact absurd (show b∈([]:List Addr) from z) (by simp)) (by simp))
     |some u =>
      by_cases z:b=a
      ·rw[z,hA] at qb;rcases hS with h0|h0
       ·rw[h0] at qb;cases qb
       ·have z2:=un.jj a oS _ (by rw[hA,h0])
        obtain⟨e2,_⟩:=hok' a _ z2;rw[z,ha] at e;cases e;exact .inl (by rw[z];exact e2)
      ·have qt:=qb;rw[hB b z] at qt;obtain⟨t,ht,e1,e2⟩:=fW qt;obtain⟨h1,h2⟩:=hT t ht;rw[<- e1] at h1 h2;rw[e] at h2;cases h2;subst e2;obtain⟨more,e3⟩:=un.iP b _ qb;obtain⟨qs,e4,_⟩:=hok' b _ e3;exact .inr ⟨_,h1,rfl,qs,e4⟩
    refine⟨rfl,⟨fun b o e=>?_,fun b o e=>?_⟩,os,bare⟩
    ·rcases each b o e with z|⟨c,hc,z,ps,hp⟩
     ·exact .inl z
     ·subst z;exact .inr (.inl ⟨(hc.tab e).isCodeTable,rfl,#[],ps,rfl,by rw[Array.empty_append];exact hp⟩)
    ·rcases each b o e with z|⟨c,hc,z,ps,hp⟩
     ·exact⟨o,z⟩
     ·exact⟨_,hp⟩
 cases hk:K.lookup a with
 |some o =>
  have e:=KX a o hk;rw[ha] at e;cases e;exact core none (.inl rfl) (fun z=>absurd rfl z) (.inr ⟨_,vs.toArray,_,hk,rfl,rfl,rfl,by rw[Jv,lenV];exact hl,by simpa using rv⟩)
 |none=>exact core (some (.hV oS (.lst (ns.map V.int)))) (.inr rfl) (fun _=>hk) (.inl (.inr ⟨oS,Jy rfl⟩))
theorem zY{l:PySem.W.OpenLaw}{XP:(Str->Option Value)->Heap->Prop}{YP:World->Heap->Prop}{d:DefRec}{K:Params->Oi}{CX:World->kF}{sp:World->Sp}
  (hn:l.most=some n) (hn2:n<=sizeLine) (hdf:d.params.defaults=[]) (hr:bM k callerA)
  (hY:∀(w:World) (h:Heap),YP w h->(K w.params).In h)
  (F:∀(w:World) (mg:Str->Option Value) (fa:Addr) (h:Heap),(K w.params).In h->h.Ns mainGlobals mg->mg d.name=some (.ref fa) ->
   ∃ fd:FuncData,(∀(s:Shared) (u:Value),BindsTo s fd ⟨[u],[]⟩ [(x,u)]) /\
    ∀ base:Heap,(K w.params).In base->base.Ns mainGlobals mg->ee l.prog w (K w.params) mg base (CX w) k fa fd [x] (sp w))
  (hsp:∀(w:World) (H:Hp) (a:Addr) (ns:List Int),ns.length<=n->True->cJ (K w.params) H a (ns.map V.int)->sp w [.ref a] H (fun v _=>v=.bl true) fun _ _ _=>False)
  (hCX:∀(w:World) (H:Hp) (s:Shared) (e:Value) (s':Shared),CX w [] H s (fun _ _ _=>False) e s'->False) (hL:∀(w:World) (h:Heap),(K w.params).In h->hJ q (K w.params)) :
  PySem.W.WalkO q loose XP YP l.row.toRowW d [] (fun f vs=>PySem.call f vs):=by
 refine Att.mV hn hdf fun w s₀ s₁ mg mb fa o pm cd doc a vs ns G Y ho hd hcd hmg hobj hints hlen hg=>?_;have KX:=hY w _ Y;obtain⟨fd,hb,hF⟩:=F w mg fa _ KX G.T.g hmg;have L:=hL w _ KX;exact vx KX G.T.g G.T.b G.T.builtins G.T.nolimit G.T.bmain (L.at G.T KX) L hg hobj hints (JD hlen hn2) hr hF hb (fun H hO hS=>hsp w H a ns hlen hO hS) fun H e s'=>hCX w H s₁ e s'
noncomputable def ar(s:Stmt):Arguments:=match s with
 |.FunctionDef _ a _ _ _ _ _ _ _ _=>a
 |_=>{posonlyargs:=[],args:=[],vararg:=none,kwonlyargs:=[],kw_defaults:=[],kwarg:=none,defaults:=[]}
noncomputable def aj(s:Stmt):List Stmt:=match s with
 |.FunctionDef _ _ b _ _ _ _ _ _ _=>b
 |_=>[]
noncomputable def aa(s:Stmt):Scope:=match s with
 |.FunctionDef _ _ _ _ _ _ sc _ _ _=>sc
 |_=>{kind:=.function,names:=[],isGenerator:=false,isCoroutine:=false}
abbrev bA:kF:=fun _ _ _ _ _ _=>False
abbrev E0:XK:=fun _ _ _=>False
theorem ay:Passes bA X E0:=fun _ _ _ _ _ _ _ h=>h.elim
structure yh (K:Oi) (x qual:Str) (st:Stmt) (f:Addr) (fd:FuncData):Prop where
 ex:∃(oc:Value) (od:Option Addr) (kV doc pm:Value) (an:Option Addr) (cdv ct:Value) (osl:Array (Option Value)),
  fd=PySem.W.fnOf x qual (ar st) (aj st) (aa st) .none kV doc pm an cdv ct/\K.lookup f=some ⟨oc,od,.func fd,osl⟩/\PySem.W.codeIn K cdv qual=true
 kp:PySem.W.keepIn K (.ref f)=true
section
variable {P:Program} {w:World} {K:Oi} {mg:Str->Option Value} {base:Heap}
theorem yh.ok{ps:List Str}(F:yh K x qual st f fd)(S:aq N ps (aa st))(len:∀ vs H Q E,sp vs H Q E->vs.length=ps.length)
  (hbody:∀(cdv:Value) (A:Around) (outer:List Env) (s:Shared) (H:Hp) (vs:List V) (Q:VK) (E:XK),bM k (A.deeper (envOfC qual (aa st) s.heap.objs.size f cdv))->sp vs H Q E ->
   ∃ t,pq (gY bA P w K mg base N qual (aa st) f cdv A outer s H E).zX (aj st) t/\t {nx:=fun _ H'=>Q .aJ H',rt:=Q} (start N vs) H):ee P w K mg base bA (k+1) f fd ps sp:=by
 obtain⟨oc,od,kV,doc,pm,an,cdv,ct,osl,rfl,lk,hcd⟩:=F.ex;refine A4 lk hcd S len fun A outer s H vs Q E hr hsp=>?_;obtain⟨t,h,q⟩:=hbody cdv A outer s H vs Q E hr hsp;exact⟨t,h.zX,q⟩
theorem yh.binds{ps:List Str}(F:yh K x qual st f fd)
  (h:∀(kV doc pm:Value) (an:Option Addr) (cdv ct:Value) (us:List Value),us.length=ps.length->bindArgs (PySem.W.fnOf x qual (ar st) (aj st) (aa st) .none kV doc pm an cdv ct) ⟨us,[]⟩=pure (ps.zip us)):Binds K fd ps []:=by
 obtain⟨oc,od,kV,doc,pm,an,cdv,ct,osl,rfl,lk,hcd⟩:=F.ex;exact .all (h kV doc pm an cdv ct)
theorem ah{oc:Value}{od an:Option Addr}{osl:Array (Option Value)}{kV doc pm cdv ct:Value}(l:K.lookup f=some ⟨oc,od,.func (PySem.W.fnOf x qual (ar st) (aj st) (aa st) .none kV doc pm an cdv ct),osl⟩)
  (c:PySem.W.codeIn K cdv qual=true) (k:PySem.W.keepIn K (.ref f)=true):yh K x qual st f (PySem.W.fnOf x qual (ar st) (aj st) (aa st) .none kV doc pm an cdv ct):=⟨⟨oc,od,kV,doc,pm,an,cdv,ct,osl,rfl,l,c⟩,k⟩
end
theorem bf(hr:bM k A):A.units+1<cLine:=JJ (Nat.add_le_add_left (by decide:1<=64) _) hr.units
section
variable {X:Cx}
theorem pv(i:Nat){pos:Pos}(hN:autoParam (X.N[i]?=some x) ℜ0)(hv:autoParam (B5 X.env.scope x) ℜ4)(hd:autoParam ((x ==("__debug__":Str))=false) ℜ1)
  (hcd:autoParam ((x ==("__classdict__":Str))=false) ℜ1):PE X (.Name x pos) (Ck i):=BD hN hv hd hcd
end
noncomputable def cu(H H':Hp):Prop:=∀ b o,H b=some o->H' b=some o
theorem cu.refl(H:Hp):cu H H:=fun _ _ h=>h
section
variable {κ:Type} [DecidableEq κ]
end
noncomputable def ef(cells:List (Str×Addr)):List (Str×NameKind)->List (Str×Addr)->List (Str×Addr)
 |[],acc=>acc
 | (n,k)::r,acc=>if k=.free then ef cells r ((n,(cells.lookup n).getD 0)::acc) else ef cells r acc
theorem fZ(h:∀ x∈scope.names,x.2=.free->∃ c,env.cells.lookup x.1=some c):closureFor scope env=pure (ef env.cells scope.names []):=by
 have all:∀(l:List (Str×NameKind)) (acc:List (Str×Addr)),(∀ x∈l,x.2=.free->∃ c,env.cells.lookup x.1=some c) ->
   (forIn l acc fun (x:Str×NameKind) (cs:List (Str×Addr))=>(match x with | (name,kind)=>if (kind == NameKind.free)=true then (do let c <- cellOf env name;pure (ForInStep.yield ((name,c)::cs))) else pure (ForInStep.yield cs):Sem (ForInStep (List (Str×Addr)))))=(pure (ef env.cells l acc):Sem (List (Str×Addr))):=by
  intro l
  induction l with
  |nil=>intro acc _;rfl
  |cons x r ih =>
   intro acc hl;obtain⟨n,k⟩:=x;rw[LP];by_cases hk:k=.free
   ·subst hk;obtain⟨c,hc⟩:=hl (n,.free) JG rfl;have e:cellOf env n=pure c:=by unfold cellOf;rw[hc]
    simp only[Kq,Lh,e,ef,pure_bind];rw[ih _ fun y hy=>hl y (J8 _ hy),hc];rfl
   ·have hb:(k == NameKind.free)=false:=by simpa using hk
    simp only[hb,K8,KY,ef,hk,pure_bind];exact ih _ fun y hy=>hl y (J8 _ hy)
 unfold closureFor;simp only[bind_pure];exact all scope.names [] h
theorem ia:∀{l:List (Str×NameKind)} {acc:List (Str×Addr)},(∀ x∈l,x.2=.free->∃ c,cells.lookup x.1=some c)->(∀ x c,acc.lookup x=some c->cells.lookup x=some c) ->
  ∀ x c,(ef cells l acc).lookup x=some c->cells.lookup x=some c
 |[],_,_,h,x,c,e=>h x c e
 | (n,k)::r,acc,hl,h,x,c,e=>by
  unfold ef at e;have hr:∀ y∈r,y.2=.free->∃ c,cells.lookup y.1=some c:=fun y hy=>hl y (J8 _ hy)
  split at e
  ·rename_i hk;refine ia hr (fun y d q=>?_) x c e;rw[K9] at q
   split at q
   ·rename_i hy;obtain⟨c',hc'⟩:=hl (n,k) JG hk;have hy':y=n:=by simpa using hy
    subst hy';simp only[] at hc';rw[hc'] at q ⊢;exact q
   ·exact h y d q
  ·exact ia hr h x c e
theorem i4:∀{l:List (Str×NameKind)} {acc:List (Str×Addr)},(∃ c,acc.lookup x=some c)->∃ c,(ef cells l acc).lookup x=some c
 |[],_,h=>h
 | (n,k)::r,acc,h=>by
  unfold ef;split
  ·refine i4 ?_;rw[K9];split
   ·exact⟨_,rfl⟩
   ·exact h
  ·exact i4 h
theorem fS:∀{l:List (Str×NameKind)} {acc:List (Str×Addr)},(x,NameKind.free)∈l->∃ c,(ef cells l acc).lookup x=some c
 |[],_,h=>by simp at h
 | (n,k)::r,acc,h=>by
  unfold ef;rcases J5.mp h with e|h
  ·cases e;rw[Jy rfl];exact i4 ⟨(cells.lookup x).getD 0,by rw[K9];simp⟩
  ·split
   ·exact fS h
   ·exact fS h
noncomputable def aM(X:Cx)(scope:Scope)(N:List Str)(C:Addr)(s:Shared)(H:Hp)(fp:List Addr):Cx where
 prog:=X.prog
 w:=X.w
 K:=X.K
 mg:=X.mg
 base:=X.base
 A:=X.A
 N:=N
 s₀:=s
 H₀:=H
 env:=compEnvC scope (ef X.env.cells scope.names []) C X.env
 outer:=X.stack
 stack:=X.stack
 ex:=fp
 calm:=X.calm
 fn:=fun _=>false
 pn:=[]
 xe:=fun _ _=>False
structure cR (osc:Scope) (ON:List Str) (scope:Scope) (own N:List Str):Prop where
 kind:scope.kind=.function
 nd:N.Nodup
 len:N.length=own.length+ON.length
 jN:∀ y∈scope.names,y.2≠.cell
 loc:∀ y∈scope.names,y.2=.local->scope.names.lookup y.1=some .local
 free:∀ y∈scope.names,y.2=.free->osc.names.lookup y.1=some .cell\/osc.names.lookup y.1=some .free
 out:∀ p∈ON.zip (N.drop own.length),p.1=p.2\/scope.names.lookup p.2=none
 own:∀ x∈N.drop own.length,scope.names.lookup x≠some .local
theorem dn(x:Str)(hn:∀ y∈scope.names,y.2≠.cell):((relabel scope env).names.lookup x=some .local->scope.names.lookup x=some .local) /\
  ((relabel scope env).names.lookup x=some .cell\/(relabel scope env).names.lookup x=some .free->scope.names.lookup x=some .free):=by
 unfold relabel;simp only;revert hn;generalize scope.names=l;intro hn
 induction l with
 |nil=>simp
 |cons y r ih =>
  obtain⟨n,k⟩:=y;have ih:=ih fun y hy=>hn y (J8 _ hy);have hk:k≠.cell:=hn (n,k) JG;rw[Kc];simp only;by_cases hc:(k == NameKind.free && env.scope.kind == ScopeKind.function && env.kindOf n == some NameKind.cell)=true
  ·rw[Jy hc,K9,K9];have hf:k=.free:=by
    simp only[Kl] at hc
    simpa using hc.1.1
   split
   ·subst hf;simp
   ·exact ih
  ·rw[Ju hc,K9,K9];split
   ·constructor
    ·exact fun h=>h
    ·rintro (h|h)
     ·exact absurd (Option.some.inj h) hk
     ·exact h
   ·exact ih
noncomputable def DN(X:Cx)(ifs:List Expr)(t:TT):Prop:=
 ∀(pins:List (Addr×Obj)) (s:Shared) (σ:St) (H:Hp) (Q:Bool->Hp->Prop),Inv X pins σ H s->t σ H Q ->
  wpAny (model X.prog X.w) X.A (forIn ifs true fun c r=>if r=true then do let ok <- isTrue c X.env (eval c X.env);pure (ForInStep.yield ok) else pure (ForInStep.yield r)) (TP X pins σ Q) X.xe s
def AN:TT:=fun _ H Q=>Q true H
theorem zA:DN X [] AN:=fun _ _ _ H _ I h=>wpAny_tests_nil ⟨H,I,h⟩
theorem yv{c:Expr}{t:TT}(h:PT X c t):DN X [c] t:=fun pins s σ H Q I hw=>wpAny_tests_one (h pins s σ H Q I hw)
theorem mB{R:Result->Shared->Prop}{target:Expr}{pos:Pos}{it acc:Value}(I:Nat->Shared->Prop)
  (turn:∀ n s,I n s->wpAny (model prog w) A (pyNext it) (fun r s₁=>match r with
   |none=>R (.ok .next) s₁
   |some v=>wpAny (model prog w) A (letOwnedTupleGo target it v) (fun _ s₁'=>wpAny (model prog w) A (assign target env v) (fun _ s₂ =>
     wpAny (model prog w) A (forIn ifs true fun c r=>if r=true then do let ok <- isTrue c env (eval c env);pure (ForInStep.yield ok) else pure (ForInStep.yield r)) (fun ok s₃ =>
      if ok=true then wpAny (model prog w) A (eval elt env) (fun x s₄ =>
       wpAny (model prog w) A (call (.builtin "list.append") [acc,x]) (fun _ s₅=>∃ m,m<n/\I m s₅) (fun _ _=>False) s₄) (fun _ _=>False) s₃
      else ∃ m,m<n/\I m s₃) (fun _ _=>False) s₂) (fun _ _=>False) s₁') (fun _ _=>False) s₁) (fun _ _=>False) s)
  (n:Nat) (h:I n s):codeAny (model prog w) A (.compLoop (.ListComp elt [⟨target,iter,ifs,0⟩] scope pos) 0 it acc env) R s:=by
 refine codeAny_loop rfl I (fun n s hI=>?_) n h;show wpAny _ A ((compTurn (.ListComp elt [⟨target,iter,ifs,0⟩] scope pos) 0 it acc env).onRaise (fun x=>do noteFrame x env;theTreesLotGoes x)) _ _ s
 refine wpAny_noted ?_;rw[compTurn_list];refine Jp (Mf (Jp (Kw (turn n s hI) (fun r s₁ h₁=>?_) fun _ _ h'=>h'.elim)))
 cases r with
 |none=>exact Jx h₁
 |some v =>
  refine Jp (Kw h₁ (fun _ s₁' h₁'=>?_) fun _ _ h'=>h'.elim);refine Jp (Kw h₁' (fun _ s₂ h₂=>Jp (Kw h₂ (fun ok s₃ h₃=>?_) fun _ _ h'=>h'.elim)) fun _ _ h'=>h'.elim)
  cases ok with
  |false=>exact Jx ⟨rfl,h₃⟩
  |true =>
   exact Jp (Jp (Kw h₃ (fun x s₄ h₄=>Jp (Kw h₄ (fun _ s₅ h₅=>Jx (Jx ⟨rfl,h₅⟩)) fun _ _ h'=>h'.elim)) fun _ _ h'=>h'.elim))
noncomputable def kG(wi:TI)(k:Nat)(g:TG)(tc:TT)(te:TE):TE:=fun σ H Q=>wi σ H fun J H1=>∀ D,H1 D=none ->
 ∃ W:Nat->Nat->List V->St->Hp->Prop,(∃ m,W 0 m [] (List.replicate k none++σ) (upd H1 D (.lst [])))/\∀ i m ys σ' H',W i m ys σ' H'->H' D=some (.lst ys) /\
  ((J.stop i H'/\Q (.ref D) H')\/(J.go i H'/\ys.length<sizeLine/\∀ x H2,J.Gf i H' x H2->g x σ' H2 fun σ3 H3=>tc σ3 H3 fun b H4 =>
   if b=true then te σ3 H4 fun v H5=>H5 D=some (.lst ys)/\∃ m',m'<m/\W (i+1) m' (ys++[v]) σ3 (upd H5 D (.lst (ys++[v])))
   else ∃ m',m'<m/\W (i+1) m' ys σ3 H4))
theorem lC{own:List Str}{pos:Pos}{wi:TI}{g:TG}(S:cR osc ON scope own N)(hosc:X.env.scope=osc)(hON:X.N=ON)(hc:X.calm=true)(hi:PI X tg iter wi)
  (hg:∀ C s H fp,PG (aM X scope N C s H fp) tg g) (ht:∀ C s H fp,DN (aM X scope N C s H fp) ifs tc) (he:∀ C s H fp,PE (aM X scope N C s H fp) elt te)
      {Q:VK} (I:Inv X pins σ H s) (h:kG wi own.length g tc te σ H Q) {RR:Value->Addr->Result->Shared->Prop}
  (fin:∀(D C:Addr) (H':Hp) (s':Shared) (m:Str->Option Value),Inv X pins σ H' s'->Q (.ref D) H'->H' C=none->X.s₀.heap.objs.size<=C->C≠X.env.locals->(∀ x c,X.env.cells.lookup x=some c->c≠C)->(∀ p∈X.pn++pins,p.1≠C) ->
   s'.heap.Ns C m->RR (.ref D) C (.ok .next) s') :
  wpAny (model X.prog X.w) X.A (eval iter X.env) (fun x s₁=>wpAny (model X.prog X.w) X.A (pyIter x) (fun it s₂=>wpAny (model X.prog X.w) X.A (newList []) (fun acc s₃ =>
   wpAny (model X.prog X.w) X.A (newFunctionEnv scope X.env.globals (ef X.env.cells scope.names []) [] X.env.qual none .none (some X.env)) (fun cenv s₄ =>
    codeAny (model X.prog X.w) X.A (.compStart (.ListComp elt [⟨tg,iter,ifs,0⟩] scope pos) 0 it acc {cenv with scope:=relabel scope X.env}) (RR acc cenv.locals) s₄) X.xe s₃) X.xe s₂) X.xe s₁) X.xe s:=by
 refine cB (hi pins s σ H _ I h) fun v s1 h1=>cB h1 fun itv s2 h2=>?_;obtain⟨it,fp,tn,J,H2,e,I2,T,st2,f2,q⟩:=h2;subst e;refine K2 (wpAny_newFunctionEnv S.jN (by intro y hy;simp at hy) (fun h₁ hns₁ hsb₁=>?_) S.kind)
 dsimp only at hns₁ hsb₁ ⊢;have I3:Inv X pins σ (upd H2 s2.heap.objs.size (.lst [])) {s2 with heap:=s2.heap.push {cls:=.type "list",data:=.seq ([]:List Value).toArray},toks:=s2.toks}:=I2.D4 (t':=s2.toks) .nil (Nat.zero_le _)
 have hD2:H2 s2.heap.objs.size=none:=I2.fresh;obtain⟨W,⟨m0,w0⟩,turn⟩:=q _ hD2;generalize hs3:({s2 with heap:=s2.heap.push {cls:=.type "list",data:=.seq ([]:List Value).toArray},toks:=s2.toks}:Shared)=s3 at I3
 have eh3:s3.heap=s2.heap.push {cls:=.type "list",data:=.seq ([]:List Value).toArray}:=by rw[<- hs3]
 generalize hD:s2.heap.objs.size=D at I3 turn w0 hD2 ⊢;generalize hH3:upd H2 D (.lst [])=H3 at I3 w0;rw[<- eh3] at hns₁ hsb₁ ⊢;have hC3:H3 s3.heap.objs.size=none:=I3.fresh;have hsz3:s3.heap.objs.size=D+1:=by rw[eh3,Lw,hD]
 have fp2:∀ b∈fp,b<s2.heap.objs.size:=fun b hb=>by
  obtain⟨o,e,_⟩:=T.obj _ _ st2 b hb;exact JA e
 have f3:∀ b∈fp,kn X pins H3 b:=fun b hb=>by
  obtain⟨g0,g1⟩:=f2 b hb;refine⟨?_,g1⟩;rw[<- hH3,ao (by rw[<- hD];exact JP (fp2 b hb))]
  exact g0
 have neC:∀ b o,s3.heap.get? b=some o->b≠s3.heap.objs.size:=fun b o e=>JP (JA e);have old:∀ b o,s3.heap.get? b=some o->h₁.get? b=some o:=fun b o e=>hsb₁.extBut b o (neC b o e) (Jr _ e);have hk:=S.kind;have hfr:∀ y∈scope.names,y.2=.free->∃ c,X.env.cells.lookup y.1=some c:=fun y hy hf=>I3.ok.has _ (by subst hosc;exact S.free y hy hf)
 have sub:=ia (acc:=[]) hfr (by intro x c e;simp at e)
 have JB:∀ tk,Inv (aM X scope N s3.heap.objs.size s3 H3 fp) [] (List.replicate own.length none++σ) H3 {s3 with heap:=h₁,toks:=tk}:=fun tk=>by
  refine⟨⟨I3.ok.mod,S.kind,I3.ok.glob,I3.ok.blt,J6 _,fun x y c e1 e2=>I3.ok.inj x y c (sub x c e1) (sub y c e2),fun x hx=>?_,fun x c hf _=>(by cases hf),I3.ok.hd,I3.ok.frames,.inl rfl,fun b hb=>?_,I3.bs,JD I3.ok.yN I3.sz,fun b o e hb=>?_,fun b hb hf=>?_,I3.stack,I3.iR,I3.ok.tabs.un I3.base⟩,
   rfl,I3.bare,Un.kept old,⟨_,hns₁,fun i x v e1 e2 e3=>?_⟩,fun x c e=>?_,hC3,fun x c e=>I3.dR x c (sub x c e),fun p hp=>absurd (show p∈([]:List (Addr×Obj)) from hp) (by simp),I3.aU.kept old,?_⟩
  ·have q:=(dn (env:=X.env) x S.jN).2 hx;exact fS (PySem.mem_of_lookup q)
  ·have hb:b∈fp:=hb;obtain⟨_,g1,g2,g3,g4,g5⟩:=f3 b hb;refine⟨?_,fun x c e=>g4 x c (sub x c e)⟩;have:=fp2 b hb;show b≠s3.heap.objs.size;rw[hsz3,<- hD];exact JP (LG this)
  ·have hb:b∈fp:=hb;obtain⟨_,g1,g2,g3,g4,g5⟩:=f3 b hb;rcases g3 with g3|g3
   ·exact I3.ok.x3 b o e g3
   ·exact absurd (JO (JA e) (JD I3.ok.yN g3)) (KU _)
  ·have hb:b∈fp:=hb;obtain⟨_,g1,g2,g3,g4,g5⟩:=f3 b hb;rcases J5.mp (I3.j7 b hf) with z|z
   ·exact g1 z
   ·exact g2 z
  ·have hi:own.length<=i:=by
    rcases Ks i own.length with hlt|hge
    ·rw[Lp (by simpa using hlt),L8] at e2
     split at e2<;>cases e2
    ·exact hge
   rw[KH (by simpa using hi),JF] at e2
   have e1:N[own.length+(i-own.length)]?=some x:=by rw[Nat.add_sub_cancel' hi];exact e1
   have e1d:(N.drop own.length)[i-own.length]?=some x:=by rw[KJ];exact e1
   have nl:scope.names.lookup x≠some .local:=S.own x (Km e1d);have vis:scope.names.lookup x=some .free:=by
    rcases e3 with z|z
    ·exact absurd ((dn (env:=X.env) x S.jN).1 z) nl
    ·exact (dn (env:=X.env) x S.jN).2 z
   have hlen:=I3.len;have hlt:i-own.length<X.N.length:=by
    rw[<- hlen];exact (Jz.mp e2).1
   have hxN:X.N[i-own.length]?=some x:=by
    rw[Jq hlt];have mz:(X.N[i-own.length],x)∈ON.zip (N.drop own.length):=by
     rw[<- hON];refine Km (i:=i-own.length) ?_;rw[List.getElem?_zip_eq_some];exact⟨Jq hlt,e1d⟩
    rcases S.out _ mz with z|z
    ·exact JS some z
    ·exact absurd z (by rw[vis];simp)
   have hko:X.env.scope.names.lookup x=some .cell\/X.env.scope.names.lookup x=some .free:=by subst hosc;exact S.free _ (PySem.mem_of_lookup vis) rfl
   obtain⟨m,hn,hl⟩:=I3.loc;have hv:B5 X.env.scope x:=by
    rcases hko with z|z
    ·exact .inr (.inl z)
    ·exact .inr (.inr z)
   obtain⟨u,ru,lk⟩:=hl _ x v hxN e2 hv;refine⟨u,ru,.inr ⟨?_,?_⟩⟩
   ·rcases e3 with z|z
    ·exact absurd ((dn (env:=X.env) x S.jN).1 z) nl
    ·exact z
   ·rcases lk with ⟨k,_⟩|⟨_,c,ec,hcell⟩
    ·exfalso
     have k':X.env.scope.names.lookup x=some .local:=k;rcases hko with z|z
     ·rw[k'] at z;cases z
     ·rw[k'] at z;cases z
    ·obtain⟨c',ec'⟩:=fS (cells:=X.env.cells) (acc:=[]) (PySem.mem_of_lookup vis);have:=sub x c' ec';rw[ec] at this;cases this;obtain⟨o,ho,hd⟩:=hcell;exact⟨c,ec',o,old c o ho,hd⟩
  ·obtain⟨v,o,ho,hd⟩:=I3.cell x c (sub x c e);exact⟨v,o,old c o ho,hd⟩
  ·show (List.replicate own.length none++σ).length=N.length;rw[S.len,Jt,JF,I3.len,hON]
 have stat:∀{H':Hp},(∀ b∈fp,H' b=none)->∀ b∈fp,kn (aM X scope N s3.heap.objs.size s3 H3 fp) [] H' b:=fun {H'} hn b hb=>by
  obtain⟨_,g1,g2,g3,g4,g5⟩:=f3 b hb;refine⟨hn b hb,?_,fun hf=>?_,.inl hb,fun x c e=>g4 x c (sub x c e),fun p hp=>absurd (show p∈([]:List (Addr×Obj)) from hp) (by simp)⟩
  ·have:=fp2 b hb;show b≠s3.heap.objs.size;rw[hsz3,<- hD];exact JP (LG this)
  ·rcases J5.mp (I3.j7 b hf) with z|z
   ·exact g1 z
   ·exact g2 z
 have st4:tn 0 h₁:=T.keep _ _ _ st2 fun b hb o e=>old b o (by rw[eh3];exact Jr _ e)
 have loop:∀ s4:Shared,s4={s3 with heap:=h₁,toks:=s2.toks+([]:List (Str×Value)).length} ->
   codeAny (model X.prog X.w) X.A (.compLoop (.ListComp elt [⟨tg,iter,ifs,0⟩] scope pos) 0 (.ref it) (.ref D) (aM X scope N s3.heap.objs.size s3 H3 fp).env) (RR (.ref D) s3.heap.objs.size) s4:=by
  rintro s4 rfl;refine mB (fun n s'=>∃ i ys σ' H',Inv (aM X scope N s3.heap.objs.size s3 H3 fp) [] σ' H' s'/\tn i s'.heap/\(∀ b∈fp,H' b=none)/\W i n ys σ' H') ?_ m0 ⟨0,[],_,H3,JB _,st4,fun b hb=>(f3 b hb).1,w0⟩;rintro n s5 ⟨i,ys,σ5,H5,I5,st5,fr5,w5⟩;obtain⟨hD5,ways⟩:=turn i n ys σ5 H5 w5;rcases ways with ⟨stop,qn⟩|⟨go,hys,step⟩
  ·refine cB (T.done (aM X scope N s3.heap.objs.size s3 H3 fp) rfl rfl rfl hc i [] s5 σ5 H5 _ I5 (stat fr5) st5 stop) fun r s6 ⟨hr,I6⟩=>?_;subst hr;obtain⟨m,hn,_⟩:=I6.loc;refine fin D _ H5 s6 m ?_ qn I6.free (JD I3.sz (J6 _)) ?_ (fun x c e z=>?_) (fun p hp z=>?_) hn
   ·refine I3.Bf (ch:=fp) I6.os I6.base I6.aU I6.bare fun b hb=>?_;obtain⟨_,g1,g2,g3,g4,g5⟩:=f3 b hb;exact⟨g3,g1,g4,g5⟩
   ·exact Lx I3.lt
   ·obtain⟨v,o,ho,_⟩:=I3.cell x c e;exact absurd (JA ho) (by rw[z];exact KU _)
   ·exact absurd (JA (I3.pin p hp).1) (by rw[z];exact KU _)
  ·refine cB (T.item (aM X scope N s3.heap.objs.size s3 H3 fp) rfl rfl rfl hc i [] s5 σ5 H5 _ I5 (stat fr5) st5 go) fun r s6 ⟨u,hr,h6⟩=>?_;subst hr;refine cB h6 fun _ s7 ⟨x,H7,I7,r7,y7,st7,fr7⟩=>?_;have I7':=I7.pinned (stat fr7) (T.obj _ _ st7);have back:∀{σ8:St} {H8:Hp} {s8:Shared},Inv (aM X scope N s3.heap.objs.size s3 H3 fp) ([]++j6 fp s7.heap) σ8 H8 s8->tn (i+1) s8.heap/\∀ b∈fp,H8 b=none:=fun {σ8 H8 s8} I8=>by
    refine⟨T.keep _ _ _ st7 fun b hb o e=>(I8.pin (b,o) (JQ _ (JQ _ (eW hb e)))).1,fun b hb=>?_⟩;obtain⟨o,e,d⟩:=T.obj _ _ st7 b hb;exact (I8.pin (b,o) (JQ _ (JQ _ (eW hb e)))).2.1
   refine cB (hg _ _ _ _ _ s7 σ5 H7 x u _ I7' r7 (step x H7 y7)) fun _ s8 ⟨σ8,H8,I8,q8⟩=>?_;refine cB (ht _ _ _ _ _ s8 σ8 H8 _ I8 q8) fun ok s9 ⟨H9,I9,q9⟩=>?_
   cases ok with
   |false =>
    rw[Ju (by simp)] at q9 ⊢
    obtain⟨m',hm,w9⟩:=q9;exact⟨m',hm,i+1,ys,σ8,H9,I9.fA,(back I9).1,(back I9).2,w9⟩
   |true =>
    rw[Jy rfl] at q9 ⊢;refine cB (he _ _ _ _ _ s9 σ8 H9 _ I9 q9) fun y s10 ⟨v10,H10,I10,r10,hD10,m',hm,w10⟩=>?_;refine cB (cE _ s10 σ8 H10 (.ref D) [v10] (.ref D) [y] (fun r H11=>r=.aJ/\H11=upd H10 D (.lst (ys++[v10]))) I10 rfl (.cons r10 .nil) ⟨D,ys,v10,rfl,rfl,hD10,hys,rfl,rfl⟩) fun _ s11 ⟨_,H11,I11,_,_,e11⟩=>?_;subst e11;exact⟨m',hm,i+1,_,σ8,_,I11.fA,(back I11).1,(back I11).2,w10⟩
 have start:=codeAny_compStart_list (R:=RR (.ref D) s3.heap.objs.size) (loop _ rfl) (T.self X.A 0 _ _ _ st4 (loop _ rfl));subst hs3;exact start
theorem yJ{own:List Str}{pos:Pos}{wi:TI}{g:TG}(S:cR osc ON scope own N)(hosc:X.env.scope=osc)(hON:X.N=ON)(hc:X.calm=true)(hi:PI X tg iter wi)
  (hg:∀ C s H fp,PG (aM X scope N C s H fp) tg g) (ht:∀ C s H fp,DN (aM X scope N C s H fp) ifs tc) (he:∀ C s H fp,PE (aM X scope N C s H fp) elt te)
  (hs:autoParam (∀ x,foldedSetIterable iter X.env x=pure x) ℜ3) :
  PE X (.ListComp elt [⟨tg,iter,ifs,0⟩] scope pos) (kG wi own.length g tc te):=by
 intro pins s σ H Q I h;have hfr:∀ y∈scope.names,y.2=.free->∃ c,X.env.cells.lookup y.1=some c:=fun y hy hf=>I.ok.has _ (by subst hosc;exact S.free y hy hf)
 rw[eval_ListComp];refine Nh (use:=none) rfl hs (fZ hfr) S.kind S.loc ?_;refine lC S hosc hON hc hi hg ht he I h (RR:=fun acc C=>compPost (model X.prog X.w) X.A X.xe none (EP X pins σ Q) acc C) ?_;intro D C H' s' m I' q h1 h2 h3 h4 h5 hn;exact⟨m,hn,fun h'' hs''=>⟨.ref D,H',I'.turned (t':=s'.toks) (fun b o hb e=>(hs''.2 b hb).trans e) h1 h3 (.inr h2) h4 h5,rfl,q⟩⟩
theorem oJ{own:List Str}{pos spos py:Pos}{wi:TI}{g:TG}{y:Str}(hN:X.N.Nodup)(hj:X.N[j]?=some y)(hx:Loc X.env.scope y)(S:cR osc ON scope own N)(hosc:X.env.scope=osc)(hON:X.N=ON)(hc:X.calm=true)(hi:PI X tg iter wi)
  (hg:∀ C s H fp,PG (aM X scope N C s H fp) tg g) (ht:∀ C s H fp,DN (aM X scope N C s H fp) ifs tc) (he:∀ C s H fp,PE (aM X scope N C s H fp) elt te)
  (hsw:autoParam (swapsWith (.ListComp elt [⟨tg,iter,ifs,0⟩] scope pos) (some (.Name y py)) spos.line X.env=pure true) ℜ0)
  (hf:autoParam (X.fn y=true\/X.env.scope.names.lookup y=some .local) ℜ2)
  (hs:autoParam (∀ x,foldedSetIterable iter X.env x=pure x) ℜ3) :
  PS X (.Assign [.Name y py] (.ListComp elt [⟨tg,iter,ifs,0⟩] scope pos) spos) (pw (kG wi own.length g tc te) (dE j)):=by
 intro pins s σ H Dn I h;have hfr:∀ y∈scope.names,y.2=.free->∃ c,X.env.cells.lookup y.1=some c:=fun y hy hf=>I.ok.has _ (by subst hosc;exact S.free y hy hf)
 rw[exec_Assign_Name_used _ _ _ _ hsw];refine Jp (Mf (Jp ?_));show wpAny _ X.A (do let _ <- comprehension (.ListComp elt [⟨tg,iter,ifs,0⟩] scope pos) scope X.env _ (newList []) false (eval iter X.env) (some (assign (.Name y py) X.env))) _ _ s
 refine Jp (Kw (Nh (use:=some (assign (.Name y py) X.env)) (Q:=fun _ s'=>SP X pins Dn .next s') rfl hs (fZ hfr) S.kind S.loc ?_) (fun _ s' hq=>Jx (Jx hq)) fun _ _ e=>e);refine lC S hosc hON hc hi hg ht he I h (RR:=fun acc C=>compPost (model X.prog X.w) X.A X.xe (some (assign (.Name y py) X.env)) (fun _ s'=>SP X pins Dn .next s') acc C) ?_;intro D C H' s' m I' q h1 h2 h3 h4 h5 hn;show wpAny _ X.A (assign (.Name y py) X.env (.ref D)) _ _ _;refine wpAny_assign_Name (kM I' hN hj hx (v:=.ref D) rfl (fun s'' I'' hsb=>?_) hf);obtain⟨a,sb,ha⟩:=hsb;have nC:C≠a:=by
  rcases ha with ha|ha
  ·rw[ha];exact h3
  ·exact (h4 y a ha).symm
 exact⟨m,hn.sameBut sb nC,fun h'' hs''=>⟨_,H',I''.turned (t':=s''.toks) (fun b o hb e=>(hs''.2 b hb).trans e) h1 h3 (.inr h2) h4 h5,q⟩⟩
noncomputable def dq(e:Expr):Bool:=match e with
 |.Starred ..=>false
 |_=>true
theorem d6(h:dq e=true):starEach (e::es) env=(false,eval e env)::starEach es env:=by
 cases e<;>first|rfl|cases h
theorem plain_any{pos:Pos}:∀{es:List Expr},es.all dq=true->(backTo pos (starEach es env)).any (·.1)=false
 |[],_=>rfl
 |e::es,h=>by
  rw[Kv,Kl] at h;rw[d6 h.1];show (false || (backTo pos (starEach es env)).any (·.1))=false;rw[plain_any h.2];rfl
theorem plain_all{pos:Pos}:∀{es:List Expr},es.all dq=true->(backTo pos (starEach es env)).all (fun x=>!x.1)=true
 |[],_=>rfl
 |e::es,h=>by
  rw[Kv,Kl] at h;rw[d6 h.1];show (true && (backTo pos (starEach es env)).all (fun x=>!x.1))=true;rw[plain_all h.2];rfl
theorem C6(h:(e::es).all dq=true)(hl:(e::es).length<30):
  ((backTo cpos (starEach (e::es) env)).all (fun x=>!x.1) && (backToKw cpos (keywordEach [] env)).all (fun x=>x.1.isSome) && decide ((e::es).length+([]:List Keyword).length+(if ([]:List Keyword).isEmpty then 0 else 1)<30))=true:=by
 rw[plain_all h];have e2:(backToKw cpos (keywordEach [] env)).all (fun x=>x.1.isSome)=true:=rfl;rw[e2];have e3:(e::es).length+([]:List Keyword).length+(if ([]:List Keyword).isEmpty then 0 else 1)<30:=hl
 rw[Kj e3];rfl
section
variable {X:Cx} {e:Expr} {es:List Expr} {te:TE} {t:TA}
theorem HH(ha:PE X e te)(hr:PA X es t)(h:autoParam (dq e=true) ℜ0):PA X (e::es) (kI te t):=qR ha hr (d6 h)
theorem Fo{id:String}{p pos:Pos}(hc:bI X (.builtin id) r)(hg:Gl X x)(hm:X.mg x=none)(hv:bootBuiltins x=some (.builtin id))(ha:PA X (e::es) t)(h1:autoParam (dq e=true) ℜ0)(h2:autoParam (es.all dq=true) ℜ0)(hn:autoParam (x≠"__name__") ℜ1)(hdb:autoParam ((x ==("__debug__":Str))=false) ℜ1):
  PE X (.Call (.Name x p) (e::es) [] pos) (Bi r t):=vt hc hg hm hv ha hn hdb (d6 h1) (plain_any h2)
theorem Ey{T:String}{p pos:Pos}(hc:bI X (.type T) r)(hg:Gl X x)(hm:X.mg x=none)(hv:bootBuiltins x=some (.type T))(ha:PA X (e::es) t)(h1:autoParam (dq e=true) ℜ0)(h2:autoParam (es.all dq=true) ℜ0)(hn:autoParam (x≠"__name__") ℜ1)(hdb:autoParam ((x ==("__debug__":Str))=false) ℜ1):
  PE X (.Call (.Name x p) (e::es) [] pos) (Bi r t):=sx hc hg hm hv ha hn hdb (d6 h1) (plain_any h2)
theorem B4{o:Expr}{to:TE}{T id:String}{r:V->List V->Hp->VK->Prop}(pa:PlainAttrs T)(slot:Slot T name id)(hty:typeOf (.builtin id)=pure (.type "method_descriptor"))(hm:qX X id r)(ho:PE X o to)(ha:PA X (e::es) t)
  (hbase:attributeBase o name X.env (eval o X.env)=eval o X.env) (hline:(apos.endLine == cpos.line)=true) (h:(e::es).all dq=true) (hl:(e::es).length<30):PE X (.Call (.Attribute o name apos) (e::es) [] cpos) (HS X.K T r to t):=by
 have h':=h;rw[Kv,Kl] at h';exact Fh pa slot hty hm ho ha hbase (C6 h hl) hline (d6 h'.1) (plain_any h'.2)
theorem oD{a:Expr}{p pos:Pos}(hg:Gl X "range")(hm:X.mg "range"=none)(ha:PA X [a] ta)(h:autoParam (dq a=true) ℜ0):PI X tg (.Call (.Name "range" p) [a] [] pos) (vM ta):=tM hg hm ha (d6 h)
end
structure HasFn (K:Oi) (mg:Str->Option Value) (x:Str) (st:Stmt) (ps:List Str):Prop where
 ex:∃(f:Addr) (fd:FuncData),yh K x x st f fd/\Binds K fd ps []/\mg x=some (.ref f)
structure ae (P:Program) (w:World) (K:Oi) (mg:Str->Option Value) (base:Heap) (CX:kF) (k:Nat) (x:Str) (ps:List Str) (sp:Sp):Prop where
 ex:∃(f:Addr) (fd:FuncData),mg x=some (.ref f)/\PySem.W.keepIn K (.ref f)=true/\Binds K fd ps []/\ee P w K mg base CX k f fd ps sp
section
variable {P:Program} {w:World} {K:Oi} {mg:Str->Option Value} {base:Heap}
theorem HasFn.ok{ps:List Str}(F:HasFn K mg x st ps)(S:aq N ps (aa st))(len:∀ vs H Q E,sp vs H Q E->vs.length=ps.length)
  (hbody:∀(f:Addr) (cdv:Value) (A:Around) (outer:List Env) (s:Shared) (H:Hp) (vs:List V) (Q:VK) (E:XK),bM k (A.deeper (envOfC x (aa st) s.heap.objs.size f cdv))->sp vs H Q E ->
   ∃ t,pq (gY bA P w K mg base N x (aa st) f cdv A outer s H E).zX (aj st) t/\t {nx:=fun _ H'=>Q .aJ H',rt:=Q} (start N vs) H):ae P w K mg base bA (k+1) x ps sp:=by
 obtain⟨f,fd,F1,b,m⟩:=F.ex;exact⟨f,fd,m,F1.kp,b,F1.ok S len fun cdv A outer s H vs Q E hr h=>hbody f cdv A outer s H vs Q E hr h⟩
theorem ae.mono{ps:List Str}(F:ae P w K mg base CX j x ps sp)(h:j<=k):ae P w K mg base CX k x ps sp:=by
 obtain⟨f,fd,m,kp,b,G⟩:=F.ex;exact⟨f,fd,m,kp,b,G.mono h⟩
end
section
variable {X:Cx} {CX:kF} {k:Nat} {ps:List Str} {sp:Sp} {E:XK} {x:Str} {p pos:Pos} {e:Expr} {es:List Expr} {t:TA}
theorem Ei(F:ae X.prog X.w X.K X.mg X.base CX k x ps sp)(hr:bM k X.A)(hg:Gl X x)(hx:Passes CX X E)(ha:PA X (e::es) t)(h1:autoParam (dq e=true) ℜ0)(h2:autoParam (es.all dq=true) ℜ0)(hdb:autoParam ((x ==("__debug__":Str))=false) ℜ1):
  PE X (.Call (.Name x p) (e::es) [] pos) (ju sp [] E t):=by
 obtain⟨f,fd,m,kp,b,G⟩:=F.ex;exact y6 G hr hg m kp b .nil hx ha hdb (d6 h1) (plain_any h2)
theorem DE(F:ae X.prog X.w X.K X.mg X.base CX k x ps sp)(hr:bM k X.A)(hg:Gl X x)(hx:Passes CX X E)(hdb:autoParam ((x ==("__debug__":Str))=false) ℜ1):
  PE X (.Call (.Name x p) [] [] pos) (ju sp [] E nW):=by
 obtain⟨f,fd,m,kp,b,G⟩:=F.ex;exact uL G hr hg m kp b .nil hx hdb
end
noncomputable def Dr:Expr->Option V
 |.Constant (.int i) _ _=>some (.int i)
 |.Constant (.str x) _ _=>some (.str x)
 |.Constant (.bool b) _ _=>some (.bl b)
 |.Constant .none _ _=>some .aJ
 |_=>none
noncomputable def lj:List Expr->Option (List V)
 |[]=>some []
 |e::es=>match Dr e,lj es with
  |some v,some vs=>some (v::vs)
  |_,_=>none
def tK(vs:List V):TA:=fun _ H Q=>Q vs H
theorem D0{v:V}(h:Dr e=some v):PE X e (tC v)/\∀ es,starEach (e::es) X.env=(false,eval e X.env)::starEach es X.env:=by
 unfold Dr at h
 split at h
 ·cases h;exact⟨xH,fun _=>rfl⟩
 ·cases h;exact⟨yc,fun _=>rfl⟩
 ·cases h;exact⟨AM,fun _=>rfl⟩
 ·cases h;exact⟨vp,fun _=>rfl⟩
 ·cases h
theorem kQ{X:Cx}:∀{es:List Expr} {vs:List V},lj es=some vs->PA X es (tK vs)
 |[],vs,h=>by cases h;exact xO
 |e::es,vs,h=>by
  unfold lj at h
  split at h
  ·rename_i v ws e1 e2;cases h;have p:=D0 (X:=X) e1;exact qR (te:=tC v) (t:=tK ws) p.1 (kQ e2) (p.2 es)
  ·cases h
noncomputable def sq(H:Hp)(p:Addr):Option (Bool×List V):=match H p with
 |some (.lst xs)=>some (true,xs)
 |some (.tup xs)=>some (false,xs)
 |some (.hV _ (.lst xs))=>some (true,xs)
 |some (.hV _ (.tup xs))=>some (false,xs)
 |_=>none
section
variable {X:Cx}
noncomputable def kb(K:Oi):R2:=fun x y H Q=>match x,y with
 |.int i,.int j=>Q (.int (i+j)) H
 |.str i,.str j=>i.length+j.length<=sizeLine/\Q (.str (i++j)) H
 |.ref a,.ref b=>match H a,H b with
  |some (.lst xs),some (.lst ys)=>xs.length+ys.length<=sizeLine/\∀ p,H p=none->Q (.ref p) (upd H p (.lst (xs++ys)))
  |some (.tup xs),some (.tup ys)=>xs≠[]/\ys≠[]/\xs.length+ys.length<=sizeLine/\∀ p,H p=none->Q (.ref p) (upd H p (.tup (xs++ys)))
  |_,_=>False
 |_,_=>False
noncomputable def DK:R2:=fun x y H Q=>match x,y with
 |.int i,.int j=>om i j/\Q (.int (i*j)) H
 |.ref a,.int j=>Fv (.ref a) (.int j) H Q
 |_,_=>False
theorem zp:dm X (binaryOp .Mult) DK:=by
 intro pins s σ H x y v u Q I rx ry h
 cases x with
 |int i=>cases y with
  |int j=>exact Dp pins s σ H _ _ v u Q I rx ry ⟨i,j,rfl,rfl,h.1,h.2⟩
  |_=>exact (show False from h).elim
 |ref a=>cases y with
  |int j=>exact CM pins s σ H _ _ v u Q I rx ry h
  |_=>exact (show False from h).elim
 |_=>exact (show False from h).elim
noncomputable def II(K:Oi):R2:=fun x y H Q=>match x,y with
 |.str z,.int i=>z.length<=sizeLine/\(match bR z.cps.toList i with|some c=>Q (.str ⟨#[c]⟩) H|none=>False)
 |.ref p,.int i=>match sq H p with
  |some (_,xs)=>(match bR xs i with|some v=>Q v H|none=>False)
  |none=>∃ xs v,cD K H p xs/\bR xs i=some v/\Q v H
 |_,_=>False
noncomputable def Hy(K:Oi):V->Option Int->Option Int->Hp->VK->Prop:=fun x lo hi H Q=>match x with
 |.ref p=>match sq H p with
  |some (true,xs)=>∀ q,H q=none->Q (.ref q) (upd H q (.lst (me xs lo hi)))
  |some (false,xs)=>y2 K (.ref p) lo hi H Q
  |none=>y2 K (.ref p) lo hi H Q
 |_=>False
noncomputable def uU:V->V->V->Hp->(Hp->Prop)->Prop:=fun o i v H Q=>match o,i with
 |.ref p,.int k=>match H p with
  |some (.lst xs)=>(match hZ xs.length k with|some j=>Q (upd H p (.lst (xs.set j v)))|none=>False)
  |_=>False
 |_,_=>False
theorem uset:B7 X uU:=by
 intro pins s σ H o i v ov iv u Q I ro ri rv h
 cases o with
 |ref p=>cases i with
  |int k =>
   unfold uU at h;simp only at h
   split at h
   ·rename_i xs e
    split at h
    ·rename_i j e';exact set_list pins s σ H _ _ v ov iv u Q I ro ri rv ⟨p,xs,k,j,rfl,rfl,e,e',h⟩
    ·exact h.elim
   ·exact h.elim
  |_=>exact (show False from h).elim
 |_=>exact (show False from h).elim
noncomputable def DZ:List V->Hp->VK->Prop:=fun xs H Q=>match xs with
 |[.int i,.int j]=>Q (.int (if j<i then j else i)) H
 |_=>False
theorem sf(hc:X.calm=true):bI X (.builtin "min") DZ:=by
 intro pins s σ H xs us Q I r h;rcases xs with _|⟨x,_|⟨y,_|⟨z,xs⟩⟩⟩
 ·exact (show False from h).elim
 ·cases x<;>exact (show False from h).elim
 ·cases x with
  |int i=>cases y with
   |int j=>exact sk hc pins s σ H _ us Q I r ⟨i,j,rfl,h⟩
   |_=>exact (show False from h).elim
  |_=>exact (show False from h).elim
 ·cases x with
  |int i=>cases y<;>exact (show False from h).elim
  |_=>exact (show False from h).elim
noncomputable def Gm:List V->Hp->VK->Prop:=fun xs H Q=>match xs with
 |[.int i,.int j]=>Q (.int (if j > i then j else i)) H
 |_=>False
theorem sG(hc:X.calm=true):bI X (.builtin "max") Gm:=by
 intro pins s σ H xs us Q I r h;rcases xs with _|⟨x,_|⟨y,_|⟨z,zs⟩⟩⟩
 ·exact (show False from h).elim
 ·cases x<;>exact (show False from h).elim
 ·cases x with
  |int i=>cases y with
   |int j=>exact tL hc pins s σ H _ us Q I r ⟨i,j,rfl,h⟩
   |_=>exact (show False from h).elim
  |_=>exact (show False from h).elim
 ·cases x<;>first|exact (show False from h).elim | (cases y<;>exact (show False from h).elim)
noncomputable def ib(K:Oi):List V->Hp->VK->Prop:=fun xs H Q=>match xs with
 |[.ref p]=>match sq H p with
  |some (true,ys)=>∀ l,H l=none->Q (.ref l) (upd H l (.tup ys))
  |some (false,_)=>Q (.ref p) H
  |none=>∃ ys,cD K H p ys/\Q (.ref p) H
 |_=>False
noncomputable def Em:List V->Hp->VK->Prop:=fun xs H Q=>match xs with
 |[.int i]=>Q (.int i) H
 |[.bl k]=>Q (.int (if k=true then 1 else 0)) H
 |_=>False
theorem sM:bI X (.type "int") Em:=by
 intro pins s σ H xs us Q I r h;rcases xs with _|⟨x,_|⟨y,ys⟩⟩
 ·exact (show False from h).elim
 ·cases x with
  |int i=>exact kW pins s σ H _ us Q I r (.inl ⟨i,rfl,h⟩)
  |bl k=>exact kW pins s σ H _ us Q I r (.inr ⟨k,rfl,h⟩)
  |_=>exact (show False from h).elim
 ·cases x<;>exact (show False from h).elim
noncomputable def EX:List V->Hp->VK->Prop:=fun xs H Q=>match xs with
 |[.int i]=>i.natAbs.log2<1920/\Q (.str (toString i)) H
 |[.str z]=>Q (.str z) H
 |_=>False
theorem sX:bI X (.type "str") EX:=by
 intro pins s σ H xs us Q I r h
 match xs,h with
 |[.int i],h=>exact m3 pins s σ H _ us Q I r ⟨i,rfl,h.1,h.2⟩
 |[.str z],h =>
  obtain⟨u,rfl,t,rfl⟩:=vals1 r;exact PySem.P.str_of_str ⟨.str z,H,I,⟨_,rfl⟩,h⟩
noncomputable def Bl(H:Hp):V->Option String
 |.aJ=>some "NoneType"
 |.bl _=>some "bool"
 |.int _=>some "int"
 |.str _=>some "str"
 |.ref a=>match H a with
  |some (.lst _)=>some "list"
  |some (.tup _)=>some "tuple"
  |some (.dK _)=>some "dict"
  |_=>none
 |_=>none
theorem Cs{x:V}{t:String}(h:Bl H x=some t):h9 K H x (.type t):=by
 unfold Bl at h
 split at h
 ·cases h;exact .aJ
 ·cases h;exact .bl _
 ·cases h;exact .int _
 ·cases h;exact .str _
 ·split at h
  ·rename_i e;cases h;exact .lst e
  ·rename_i e;cases h;exact .tup e
  ·rename_i e;cases h;exact .dK e
  ·cases h
 ·cases h
noncomputable def gp(t c:String):Bool:=decide (t=c) || (t == "bool" && c == "int")
theorem wH{t c:String}(ht:t∈["NoneType","bool","int","str","list","tuple","dict"])(hc:c∈["bool","int","str","list","tuple","dict"]):PySem.W.kitOne K (.type t) (.type c)=some (gp t c):=by
 simp only[J5,Kt,Ly] at ht hc;rcases ht with rfl|rfl|rfl|rfl|rfl|rfl|rfl<;>rcases hc with rfl|rfl|rfl|rfl|rfl|rfl<;>rfl
theorem C9{x:V}{t:String}(h:Bl H x=some t):t∈["NoneType","bool","int","str","list","tuple","dict"]:=by
 unfold Bl at h
 split at h
 ·cases h;decide
 ·cases h;decide
 ·cases h;decide
 ·cases h;decide
 ·split at h
  ·cases h;decide
  ·cases h;decide
  ·cases h;decide
  ·cases h
 ·cases h
noncomputable def nE(K:Oi):List V->Hp->VK->Prop:=fun xs H Q=>match xs with
 |[x,.ty T]=>T∈["bool","int","str","list","tuple","dict"]/\match Bl H x with
  |some t=>Q (.bl (gp t T)) H
  |none=>∃ t b,h9 K H x t/\PySem.W.kitOne K t (.type T)=some b/\Q (.bl b) H
 |_=>False
theorem tR:bI X (.builtin "isinstance") (nE X.K):=by
 intro pins s σ H xs us Q I r h;rcases xs with _|⟨x,_|⟨y,_|⟨z,xs⟩⟩⟩
 ·exact (show False from h).elim
 ·exact (show False from h).elim
 rotate_left
 ·cases y<;>exact (show False from h).elim
 cases y with
 |ty T =>
  obtain⟨u,w',rfl,r1,r2⟩:=vals2 r;cases r2;obtain⟨hT,h⟩:=h
  split at h
  ·rename_i t e;exact kU I r1 (Cs e) (wH (C9 e) hT) fun tk=>⟨.bl _,H,I.tok _,rfl,h⟩
  ·obtain⟨t,b,ty,k,q⟩:=h;exact kU I r1 ty k fun tk=>⟨.bl b,H,I.tok _,rfl,q⟩
 |_=>exact (show False from h).elim
theorem Bw{T:String}{pos:Pos}(hg:Gl X x)(hm:X.mg x=none)(hv:bootBuiltins x=some (.type T))(hn:autoParam (x≠"__name__") ℜ1)(hd:autoParam ((x ==("__debug__":Str))=false) ℜ1):PE X (.Name x pos) (tC (.ty T)):=zC hg hm hv rfl hn hd
noncomputable def rJoin(K:Oi):V->List V->Hp->VK->Prop:=fun x vs H Q=>∃ z l ys,x=.str z/\vs=[.ref l]/\cJ K H l (ys.map V.str)/\(ys.map (·.length)).sum+ys.length*z.length<=16777216/\Q (.str (Str.join z ys)) H
theorem jq:∀{ys:List Str} {us:List Value},Vals (ys.map V.str) us->StrsAre us ys
 |[],_,.nil=>.nil
 |y::ys,_,.cons r t=>by
  obtain⟨k,rfl⟩:=r;exact .cons y k (jq t)
theorem Ad:qX X "str.join" (rJoin X.K):=by
 intro pins s σ H x xs v us Q I rx rs h;obtain⟨z,l,ys,rfl,rfl,hq,hz,q⟩:=h;obtain⟨t,rfl⟩:=rx;obtain⟨u,rfl,ru⟩:=vals1 rs;cases ru;obtain⟨its,rv,pl,_⟩:=I.list hq;refine join_list pl.isList (by simpa using jq rv) hz fun t' k=>?_
 have e:Txt.join z ys=Str.join z ys:=StrLaws.glued_eq_join z ys;rw[e];exact⟨.str _,H,I.tok _,⟨_,rfl⟩,q⟩
end
section
variable {X:Cx} {o e:Expr} {es:List Expr} {to:TE} {t:TA} {apos cpos:Pos}
end
section
variable {X:Cx} {e:Expr} {te:TE}
theorem qu(p:Nat->Bool):∀(l:List Nat),l.drop (l.takeWhile p).length=l.dropWhile p
 |[]=>rfl
 |x::l=>by
  by_cases h:p x
  ·simp[List.takeWhile_cons,M9,h,qu p l]
  ·simp[List.takeWhile_cons,M9,h]
end
open AutoSeq1 (wpAny_loadPart')
section
variable {prog:Program} {w:World} {A:Around} {E:Value->Shared->Prop} {s:Shared}
theorem iL{x:Value}(hit:s.heap.IsTupleIter it l i)(hl:s.heap.IsTuple l items)(hx:items[i]?=some x)
  (hQ:∀ h',h'.IsTupleIter it l (i+1)->Heap.SameBut it s.heap h'->Q x {s with heap:=h'}):wpAny (model prog w) A (Builtin.SmallTypes.nextOf (.ref it)) Q E s:=by
 obtain⟨o,ho,hc,hd⟩:=id hit;obtain⟨ol,hol,_,nl,hdl⟩:=hl;unfold Builtin.SmallTypes.nextOf;refine Jp (Ku (name:=Str.ofString "__next__") hit.typeIs Ll (Ky Ll hit.typeIs MG ?_ (MC _)));show wpAny _ _ (field (.ref it) 0 >>= _) _ _ s;refine Jp (Kz ho hd (x:=.ref l) rfl ?_);show wpAny _ _ (if (Value.ref l == Value.none)=true then _ else _) _ _ s
 rw[Ju (show ¬ ((Value.ref l == Value.none)=true) from Jw)];show wpAny _ _ (field (.ref it) 1 >>= _) _ _ s;refine Jp (Kz ho hd (x:=.int i 0) rfl ?_);show wpAny _ _ (seqItems? (.ref l) >>= _) _ _ s;refine Jp (KZ hol hdl ?_);simp only[JV,hx];refine Jp (LY ho hd (by simp) (Jx ⟨x,rfl,Jx (hQ _ ?_ (KD ..))⟩))
 exact⟨_,LI _ ho (Mo (LC hd _)),(Obj.cls_mapFields ..).trans hc,by rw[LC hd];simp[rawInt]⟩
theorem jL(hh:A.handled=none)(hit:s.heap.IsTupleIter it l i)(hl:s.heap.IsTuple l items)(hx:items[i]?=none)
  (hE:∀ h' e,Heap.ExtBut it s.heap h'->(∃ o,h'.get? e=some o/\o.cls=.type "StopIteration")->E (.ref e) {s with heap:=h'}):wpAny (model prog w) A (Builtin.SmallTypes.nextOf (.ref it)) Q E s:=by
 obtain⟨o,ho,hc,hd⟩:=id hit;obtain⟨ol,hol,_,nl,hdl⟩:=hl;unfold Builtin.SmallTypes.nextOf;refine Jp (Ku (name:=Str.ofString "__next__") hit.typeIs Ll (Ky Ll hit.typeIs MG ?_ (MC _)));show wpAny _ _ (field (.ref it) 0 >>= _) _ _ s;refine Jp (Kz ho hd (x:=.ref l) rfl ?_);show wpAny _ _ (if (Value.ref l == Value.none)=true then _ else _) _ _ s
 rw[Ju (show ¬ ((Value.ref l == Value.none)=true) from Jw)];show wpAny _ _ (field (.ref it) 1 >>= _) _ _ s;refine Jp (Kz ho hd (x:=.int i 0) rfl ?_);show wpAny _ _ (seqItems? (.ref l) >>= _) _ _ s;refine Jp (KZ hol hdl ?_);simp only[JV,hx];refine Jp (MW (Jp (LY ho hd (by simp) ?_)))
 show wpAny _ _ (newExc (.type "StopIteration") [] >>= _) _ _ _;refine Jp ?_;simp only[newExc,newTuple];refine Jp (K2 ?_ (by size_fits))
 refine Jp (m:=firstArgMember _ _) (wpAny_of_eq (a:=Value.none) (by first|rfl | (simp only[firstArgMember];rfl)) ?_)
 refine K2 ?_ (by size_fits)
 simp only[raiseNew];refine Jp (wpAny_handled ?_)
 first|rw[show A.in1.handled=none from hh]|rw[hh]
 refine Jp (Jx (wpAny_throw ?_));exact hE _ _ (((KD ..).extBut.push _).push _) ⟨_,JC _ rfl,rfl⟩
theorem iq(hh:A.handled=none)(it l:Addr)(hne:l≠it)(items:Array Value):
  Draws prog w A it [it,l] items.size (fun i v=>items[i]?=some v) (fun i h=>h.IsTupleIter it l i/\h.IsTuple l items) where
 live:=fun _ _ st=>let ⟨o,ho,_⟩:=st.1;⟨o,ho⟩
 frame:=fun _ _ _ st hk=>⟨let ⟨o,e,r⟩:=st.1;⟨o,hk it (by simp) o e,r⟩,let ⟨o,e,r⟩:=st.2;⟨o,hk l (by simp) o e,r⟩⟩
 item:=fun i s Q E hi st hQ=>by
  refine iL st.1 st.2 (x:=items[i]) (by simp[hi]) fun h' hit' hs'=>?_
  exact hQ _ h' s.toks (by simp[hi]) ⟨hit',st.2.extBut hs'.extBut hne⟩ hs'
 done:=fun s Q E st hE=>jL hh st.1 st.2 (by simp) hE
theorem j0(l:Addr)(items:Array Value)(n:Nat)(dct:Option Addr)(sl:Array (Option Value)):
  Meets (Builtin.«enumerate.__new__» ⟨[.type "enumerate",.ref l],[]⟩) (fun _ R s=>s.heap.get? l=some {cls:=.type "tuple",dict:=dct,data:=.seq items n,slots:=sl} /\
   R (.ok (.ret (.ref (s.heap.push {cls:=.type "tuple_iterator",data:=.fields #[.ref l,.int 0 0]}).objs.size)))
    {s with heap:=(s.heap.push {cls:=.type "tuple_iterator",data:=.fields #[.ref l,.int 0 0]}).push {cls:=.type "enumerate",data:=.fields #[.none,.bool false,.ref s.heap.objs.size,rawInt 0,.none,.none]}}):=
 .of_wp fun prog w A R s h=>by
  obtain⟨hp,g,d,tk,os⟩:=s;obtain⟨hl,h⟩:=h;have hsub:=sub_enumerate;have hL:Heap.IsTuple (Shared.heap ⟨hp,g,d,tk,os⟩) l items:=⟨_,hl,rfl,n,rfl⟩;wp_walk using Mx hl;refine wpAny_stack_any fun st=>Jx ?_;split
  ·rename_i c _ _ _ _ _
   cases (c == Value.type "enumerate")<;>(wp_walk using Mx hl,KL hL;exact⟨_,rfl,h⟩)
  ·wp_walk using Mx hl,KL hL;exact⟨_,rfl,h⟩
theorem kc(hL:s.heap.IsTuple l items)
  (h:∀ h',IsEnum h' (s.heap.objs.size+1) s.heap.objs.size 0 .none->h'.IsTupleIter s.heap.objs.size l 0->h'.objs.size=s.heap.objs.size+2 ->
   (∀ b o,s.heap.get? b=some o->h'.get? b=some o)->Q (.ref (s.heap.objs.size+1)) {s with heap:=h'}) :
  wpAny (model prog w) A (call (.type "enumerate") [.ref l]) Q E s:=by
 obtain⟨⟨c,dct,dt,sl⟩,hl,hc,n,hd⟩:=hL
 replace hc:c=.type "tuple":=hc
 replace hd:dt=.seq items n:=hd
 subst hc hd;refine callType_new F.called_enumerate (by decide) (F.typeCall_enumerate_1 _) (F.newCall_enumerate_1 _) (fun obj=>F.args_object_init_2 obj _) F.entry_enumerate_new (j0 l items n dct sl) ⟨hl,?_⟩
 have hz:(s.heap.push {cls:=.type "tuple_iterator",data:=.fields #[.ref l,.int 0 0]}).objs.size=s.heap.objs.size+1:=Lw ..;show _/\_;rw[hz];have he:IsEnum ((s.heap.push {cls:=.type "tuple_iterator",data:=.fields #[.ref l,.int 0 0]}).push {cls:=.type "enumerate",data:=.fields #[.none,.bool false,.ref s.heap.objs.size,rawInt 0,.none,.none]}) (s.heap.objs.size+1) s.heap.objs.size 0 .none:=by
  have:=JC (s.heap.push {cls:=.type "tuple_iterator",data:=.fields #[.ref l,.int 0 0]}) (o:={cls:=.type "enumerate",data:=.fields #[.none,.bool false,.ref s.heap.objs.size,rawInt 0,.none,.none]}) rfl;rw[hz] at this;exact this
 refine⟨⟨_,he,rfl⟩,h _ he ⟨_,Jr _ (JC _ rfl),rfl,rfl⟩ (by rw[Lw,hz]) fun b o x=>Jr _ (Jr _ x)⟩
end
section
variable {X:Cx} {pins:List (Addr×Obj)} {σ:St} {H:Hp} {s:Shared} {h':Heap}
theorem Inv.turns{t':Nat}(I:Inv X pins σ H s)(hf:∀ b∈fp,kn X pins H b)(k:∀ b o,b∉fp->s.heap.get? b=some o->h'.get? b=some o):Inv X pins σ H {s with heap:=h',toks:=t'}:=by
 have nf:∀ b u,H b=some u->b∉fp:=fun b u e z=>by rw[(hf b z).1] at e;cases e
 refine I.step (g':=s.gens) (d':=s.drawn) (ch:=fp) (fun b hb=>?_) (fun b o _ _ hc e _=>k b o hc e) (fun b o _ _ hc e _=>⟨o.slots,k b o hc e⟩) (fun _ _ _ _ n=>n)
  (fun b o hc e=>⟨o,k b o hc e⟩) (fun _ _ e=>e) (fun _ _ _ e=>e) (fun b ps e=>⟨#[],by rw[e];simp⟩) (fun m hm=>?_) (fun b u e=>?_) I.bare
 ·obtain⟨_,g1,g2,g3,g4,g5⟩:=hf b hb;exact⟨g3,g1,g4,g5⟩
 ·obtain⟨o,es,ep,ho,r⟩:=hm;exact⟨o,es,ep,k _ o (fun z=>(hf _ z).2.1 rfl) ho,r⟩
 ·refine (I.aU b u e).jv (fun c v hc q=>k c v ?_ q) (fun _ q=>q) (fun _ _ q=>q) fun _ _ _ q=>q;rcases hc with z|z
  ·rw[z];exact nf b u e
  ·exact nf c _ z
theorem Inv.lF{t':Nat}(I:Inv X pins σ H s)(hf:∀ b∈fp,kn X pins H b)(hp:s.heap.objs.size<=p)(k:∀ b o,b∉fp->s.heap.get? b=some o->h'.get? b=some o)
  (new:bO X.prog X.w (upd H p o) h' p o):Inv X pins σ (upd H p o) {s with heap:=h',toks:=t'}:=by
 have nf:∀ b u,H b=some u->b∉fp:=fun b u e z=>by rw[(hf b z).1] at e;cases e
 have fr:H p=none:=I.aU.fresh hp;have np:∀ b u,H b=some u->b≠p:=fun b u e=>aF e fr;have ne:∀ b o,s.heap.get? b=some o->b≠p:=fun b o e z=>by rw[z] at e;exact absurd (JO (JA e) hp) (KU _)
 refine I.step (g':=s.gens) (d':=s.drawn) (ch:=fp) (fun b hb=>?_) (fun b o _ _ hc e _=>k b o hc e) (fun b o _ _ hc e _=>⟨o.slots,k b o hc e⟩) (fun b o _ e n=>by rw[ao (ne b o e)];exact n)
  (fun b o hc e=>⟨o,k b o hc e⟩) (fun b xs e=>by rw[ao (np b _ e)];exact e) (fun b o u e=>by rw[ao (np b _ e)];exact e) (fun b ps e=>⟨#[],by rw[ao (np b _ e),e];simp⟩) (fun m hm=>?_) (fun b u e=>?_) I.bare
 ·obtain⟨_,g1,g2,g3,g4,g5⟩:=hf b hb;exact⟨g3,g1,g4,g5⟩
 ·obtain⟨o,es,ep,ho,r⟩:=hm;exact⟨o,es,ep,k _ o (fun z=>(hf _ z).2.1 rfl) ho,r⟩
 ·by_cases hb:b=p
  ·subst hb;rw[ax] at e;cases e;exact new
  ·rw[ao hb] at e;refine (I.aU b u e).jv (fun c v hc q=>k c v ?_ q) (fun c q=>by rw[ao (np c _ q)];exact q) (fun c xs q=>by rw[ao (np c _ q)];exact q) fun c _ _ q=>by rw[ao (np c _ q)];exact q
   rcases hc with z|z
   ·rw[z];exact nf b u e
   ·exact nf c _ z
end
noncomputable def getL(K:Oi)(a:Addr):Nat->Hp->V->Prop:=fun i H x=>∃ xs,cJ K H a xs/\xs[i]?=some x
noncomputable def HU(K:Oi)(a:Addr):Nat->Hp->V->Prop:=fun i H x=>∃ xs,cD K H a xs/\xs[i]?=some x
noncomputable def Iq(K:Oi)(a:Addr):Nat->Hp->Prop:=fun i H=>∃ xs,cJ K H a xs/\xs.length=i
noncomputable def GQ(K:Oi)(a:Addr):Nat->Hp->Prop:=fun i H=>∃ xs,cD K H a xs/\xs.length=i
noncomputable def zt(K:Oi)(a:Addr):It:=
 ⟨fun i H=>∃ x,HU K a i H x,fun i H x H'=>∃ p y,(∀ xs,cD K H a xs->xs[i]?=some y)/\H p=none/\x=.ref p/\H'=upd H p (.tup [.int i,y]),GQ K a⟩
theorem pB{tk:Nat}(a it e:Addr)(hne:e≠it):Turn P w K (.Tuple es tk tp) (zt K a) [e,it] e (fun i h=>(∃ old,IsEnum h e it i old)/\h.IsTupleIter it a i) where
 mem:=by simp
 obj:=fun i h st b hb=>by
  obtain⟨⟨old,he⟩,o,eo,c,d⟩:=st;rcases J5.mp hb with z|z
  ·subst z;exact⟨_,he,fun v z=>by cases z⟩
  ·have z:b=it:=by simpa using z
   subst z;exact⟨o,eo,fun v z=>by rw[d] at z;cases z⟩
 keep:=fun i h h' st k=>by
  obtain⟨⟨old,he⟩,o,eo,r⟩:=st;exact⟨⟨old,k e (by simp) _ he⟩,o,k it (by simp) o eo,r⟩
 item:=by
  intro X hP hw hK hc i pins s σ H E I hf st hg;subst hP hw hK;obtain⟨x,xs,hq,hx⟩:=hg;obtain⟨⟨old,he⟩,hit⟩:=st;obtain⟨its,rv,p,hz⟩:=I.tuple hq;obtain⟨u,hu,ru⟩:=rv.get hx;obtain⟨g0,g1,g2,g3,g4,g5⟩:=hf e (by simp)
  obtain⟨f0,f1,f2,f3,f4,f5⟩:=hf it (by simp)
  have ht:s.heap.IsTuple a its.toArray:=p;have ha:a≠it:=by
   rintro rfl;obtain⟨o,e1,c1,_⟩:=hit;obtain⟨o',e2,c2,_⟩:=ht;rw[e1] at e2;cases e2;rw[c1] at c2;exact absurd (Value.type.inj c2) (by decide)
  have hea:e≠a:=by
   rintro rfl;obtain⟨o',e2,c2,_⟩:=ht;have e1:s.heap.get? e=some _:=he;rw[e1] at e2;cases e2;exact absurd (Value.type.inj c2) (by decide)
  have hi:i<its.toArray.size:=by
   have:=(Jz.mp hu).1
   simpa using this
  refine Nt (iq (A:=X.A.in1) (I.ok.hd hc) it a ha its.toArray) he ⟨hit,ht⟩ hi hne (by simp[hne,hea]) fun x' h' tk' hP ho hs' hT hsz hk=>?_
  have ex:x'=u:=by
   have hP':its.toArray[i]?=some x':=hP;rw[K3,hu] at hP';exact (Option.some.inj hP').symm
  subst ex;refine⟨.ref s.heap.objs.size,rfl,MN ho fun h2 he2 hs2=>?_⟩;have fr:H s.heap.objs.size=none:=I.aU.fresh (J6 _);have hle:e≠s.heap.objs.size:=JP (JA he);have hT2:h2.get? s.heap.objs.size=some {cls:=.type "tuple",data:=.seq #[.int i tk',x']}:=(hs2.2 _ (Ne.symm hle)).trans hT;have I2:Inv X pins σ (upd H s.heap.objs.size (.tup [.int i,x])) {s with heap:=h2,toks:=tk'+1}:=by
   refine I.lF (fp:=[e,it]) hf (J6 _) (fun b o hb eb=>?_) ⟨by show 2<=sizeLine;decide,[.int i tk',x'],.cons ⟨_,rfl⟩ (.cons ru .nil),⟨_,hT2,rfl,_,rfl,rfl⟩⟩
   have n1:b≠e:=fun z=>hb (by simp[z])
   have n2:b≠it:=fun z=>hb (by simp[z])
   exact (hs2.2 b n1).trans (hk b o n1 n2 eb)
  refine⟨.ref s.heap.objs.size,_,I2,rfl,⟨s.heap.objs.size,x,fun ys hy=>by rw[I.ip hy hq];exact hx,fr,rfl,rfl⟩,⟨⟨x',?_⟩,?_⟩,fun b hb=>?_⟩
  ·have e:(((i+1:Nat)):Int)=(i:Int)+1:=by lia
   rw[e];exact he2
  ·obtain⟨o,e1,r⟩:=hs'.1;exact⟨o,(hs2.2 it (Ne.symm hne)).trans e1,r⟩
  ·have n:b≠s.heap.objs.size:=by
    rcases J5.mp hb with z|z
    ·subst z;exact hle
    ·have z:b=it:=by simpa using z
     subst z;obtain⟨o,e1,_⟩:=hit;exact JP (JA e1)
   rw[ao n];exact (hf b hb).1
 done:=by
  intro X hP hw hK hc i pins s σ H E I hf st hg;subst hP hw hK;obtain⟨xs,hq,hx⟩:=hg;obtain⟨⟨old,he⟩,hit⟩:=st;obtain⟨its,rv,p,hz⟩:=I.tuple hq;have ht:s.heap.IsTuple a its.toArray:=p;have ha:a≠it:=by
   rintro rfl;obtain⟨o,e1,c1,_⟩:=hit;obtain⟨o',e2,c2,_⟩:=ht;rw[e1] at e2;cases e2;rw[c1] at c2;exact absurd (Value.type.inj c2) (by decide)
  have hl:=rv.length;have hsz:its.toArray.size=i:=by simp;lia
  refine N8 (iq (A:=X.A.in1) (I.ok.hd hc) it a ha its.toArray) he (by rw[hsz];exact⟨hit,ht⟩) fun h' eb=>⟨rfl,?_⟩
  exact I.turns (t':=s.toks) hf fun b o hb e1=>eb b o (fun z=>hb (by simp[z])) e1
 self:=fun A i s Q E st h=>by
  obtain⟨⟨old,he⟩,_⟩:=st;exact Ma he h
section
variable {X:Cx} {es:List Expr} {tk:Nat} {tp:Pos}
noncomputable def A_(K:Oi)(ta:TA):TI:=fun σ H R=>ta σ H fun vs H1=>∃ a,vs=[.ref a]/\(∃ xs,cD K H1 a xs)/\R (zt K a) H1
theorem yY{p pos:Pos}(hg:Gl X "enumerate")(hm:X.mg "enumerate"=none)(ha:PA X [e] ta)(h1:autoParam (dq e=true) ℜ0)(hv:autoParam (bootBuiltins "enumerate"=some (.type "enumerate")) ℜ6):
  PI X (.Tuple es tk tp) (.Call (.Name "enumerate" p) [e] [] pos) (A_ X.K ta):=by
 intro pins s σ H R I h;refine Call_ (ft I hg hm hv (KC (cB (ha pos pins s σ H _ I h) fun us s1 ⟨vs,H1,I1,r1,q1⟩=>?_) (d6 h1) rfl));obtain⟨a,e,⟨xs,hq⟩,q⟩:=q1;subst e;obtain⟨u,rfl,ru⟩:=vals1 r1;cases ru;obtain⟨its,rv,pt,hz⟩:=I1.tuple hq;refine kc (show s1.heap.IsTuple a its.toArray from pt) fun h' he hit hsz hk=>?_;refine Ma he ?_;have I2:Inv X pins σ H1 {s1 with heap:=h'}:=I1.kept (t':=s1.toks) hk
 refine⟨s1.heap.objs.size+1,[s1.heap.objs.size+1,s1.heap.objs.size],_,_,H1,rfl,I2,pB a s1.heap.objs.size (s1.heap.objs.size+1) (Lx (Ni _)),⟨⟨_,he⟩,hit⟩,fun b hb=>?_,q⟩;have hb':s1.heap.objs.size<=b:=by
  rcases J5.mp hb with z|z
  ·rw[z];exact Lv _
  ·have z:b=s1.heap.objs.size:=by simpa using z
   rw[z];exact J6 _
 exact I1.sL hb' (I1.aU.fresh hb')
end
section
variable {K:Oi} {g:TG} {tb:TS} {D:Ends} {σ:St} {H:Hp} {te:TE} {Q:VK}
end
namespace Ap
theorem He(K:Oi)(b:Bool)(H:Hp)(k:Bool):xf K (.bl b) H k=(k=b):=rfl
theorem Ig(K:Oi)(i:Int)(H:Hp)(k:Bool):xf K (.int i) H k=(k=(i != 0)):=rfl
end Ap
theorem HV(x:α)(r:List α):bR (x::r) 0=some x:=bG (j:=0) rfl
theorem HZ(a x:α)(r:List α):bR (a::x::r) 1=some x:=bG (j:=1) rfl
theorem HW(a b x:α)(r:List α):bR (a::b::x::r) 2=some x:=bG (j:=2) rfl
theorem IC(a b c x:α)(r:List α):bR (a::b::c::x::r) 3=some x:=bG (j:=3) rfl
theorem Ci{i:Int}(h0:0<=i)(h:i<n):hZ n i=some i.toNat:=by unfold hZ;rw[Jy h0,Jy h]
namespace Ap
theorem setRef(p:Addr)(k:Int)(v:V)(H:Hp)(Q:Hp->Prop):uU (.ref p) (.int k) v H Q=(match H p with
  |some (.lst xs)=>(match hZ xs.length k with|some j=>Q (upd H p (.lst (xs.set j v)))|none=>False)
  |_=>False):=rfl
end Ap
structure QE (X:Cx) (e:Expr) (t:TE):Prop where h:PE X e t
structure QT (X:Cx) (e:Expr) (t:TT):Prop where h:PT X e t
structure QW (X:Cx) (e:Expr) (t:TT):Prop where h:PW X e t
structure QA (X:Cx) (es:List Expr) (t:TA):Prop where h:PA X es t
structure QS (X:Cx) (st:Stmt) (t:TS):Prop where h:PS X st t
structure QB (X:Cx) (sts:List Stmt) (t:TS):Prop where h:pq X sts t
structure QI (X:Cx) (tg it:Expr) (t:TI):Prop where h:PI X tg it t
structure QG (X:Cx) (e:Expr) (t:TG):Prop where h:PG X e t
structure FF (X:Cx) (es:List Expr) (t:sY):Prop where h:DO X es t
structure QO (X:Cx) (e:Option Expr) (t:TO):Prop where h:PO X e t
structure DS (X:Cx) (es:List Expr) (t:TT):Prop where h:DN X es t
namespace Z
noncomputable def sim(b:Expr):Bool:=match b with
 |.Name .. |.Constant .. |.Call .. |.BinOp .. |.Subscript .. |.Attribute .. |.UnaryOp .. |.Compare .. |.IfExp ..=>true
 |_=>false
theorem ID{b:Expr}(h:sim b=true):pW b:=by
 cases b<;>first | (intro _ _;rfl)|cases h
noncomputable def G6(b:Expr):Bool:=match b with
 |.Name .. |.Call .. |.Subscript .. |.Attribute ..=>true
 |_=>false
theorem ptr{b:Expr}(h:G6 b=true):∀ whole,isTrue b env whole=(do let v <- whole;standAt b.pos;holding [v] (truthy v)):=by
 cases b<;>first | (intro _;rfl)|cases h
noncomputable def DP(b:Expr):Bool:=match b with
 |.ListComp .. |.SetComp .. |.DictComp ..=>false
 |_=>true
theorem IP{b:Expr}{tg:Option Expr}{l:Nat}(h:DP b=true):swapsWith b tg l env=pure false:=by
 cases b<;>first|rfl|cases h
section
variable {X:Cx}
theorem FJ(K:Oi)(hK:X.K=K):bI X (.builtin "isinstance") (nE K):=by subst hK;exact tR
end
section
variable {X:Cx} {a b c e o:Expr} {es:List Expr} {ta tb tc te to:TE} {t:TA} {pos p p2:Pos} {tA tB':TT} {rest:List Expr} {x:Str}
theorem int{i:Int}:QE X (.Constant (.int i) j pos) (tC (.int i)):=⟨xH⟩
theorem bl{i:Bool}:QE X (.Constant (.bool i) j pos) (tC (.bl i)):=⟨AM⟩
theorem aJ:QE X (.Constant .none j pos) (tC .aJ):=⟨vp⟩
theorem str{i:Str}:QE X (.Constant (.str i) j pos) (tC (.str i)):=⟨yc⟩
theorem v(i:Nat)(hN:autoParam (X.N[i]?=some x) ℜ0)(hv:autoParam (B5 X.env.scope x) ℜ4)(hd:autoParam ((x ==("__debug__":Str))=false) ℜ1)
  (hcd:autoParam ((x ==("__classdict__":Str))=false) ℜ1):QE X (.Name x pos) (Ck i):=⟨pv i hN hv hd hcd⟩
theorem glob{w:V}{u:Value}(hg:Gl X x)(hm:X.mg x=some u)(r:RelV w u)(hd:autoParam ((x ==("__debug__":Str))=false) ℜ1):QE X (.Name x pos) (tC w):=⟨mC hg hm r hd⟩
theorem op{o:Operator}{r:R2}(ho:dm X (binaryOp o) r)(ha:QE X a ta)(hb:QE X b tb):QE X (.BinOp a o b pos) (zJ r ta tb):=⟨FP ho ha.h hb.h⟩
theorem un{o:UnaryOp}{r:V->Hp->VK->Prop}(ho:G8 X (unaryOp o) r)(ha:QE X a ta):QE X (.UnaryOp o a pos) (IL r ta):=⟨EN ho ha.h⟩
theorem cmp{o:CmpOp}{r:R2}(ho:dm X (compareOp o) r)(ha:QE X a ta)(hb:QE X b tb)(hm:autoParam (behindInMarks o b=false) ℜ0):QE X (.Compare a [o] [b] pos) (zJ r ta tb):=⟨yw ho ha.h hb.h hm⟩
theorem chain{o o':CmpOp}{r:R2}(ho:dm X (compareOp o) r)(ho':dm X (compareOp o') r')(ha:QE X a ta)(hb:QE X b tb)(hc:QE X c tc)(hm:autoParam (lastMarks [o,o'] [b,c]=false) ℜ5):QE X (.Compare a [o,o'] [b,c] pos) (pj r r' ta tb tc):=⟨vh ho ho' ha.h hb.h hc.h hm⟩
theorem and(ha:QE X a ta)(hb:QE X (.BoolOp .And (b::rest) pos) tb):QE X (.BoolOp .And (a::b::rest) pos) (A2 ta tb):=⟨BB ha.h hb.h⟩
theorem one{o:BoolOp}(ha:QE X a ta):QE X (.BoolOp o [a] pos) ta:=⟨CU ha.h⟩
theorem AL(hc:QT X c tA)(ha:QE X a ta)(hb:QE X b tb):QE X (.IfExp c a b pos) (IW tA ta tb):=⟨vG hc.h ha.h hb.h⟩
theorem slice{r:V->Option Int->Option Int->Hp->VK->Prop}{tl th:TO}(hr:uv X r)(he:QE X e te)(hl:QO X lo tl)(hu:QO X hi th):QE X (.Subscript e (.Slice lo hi none p2) pos) (IF r te tl th):=⟨vq hr he.h hl.h hu.h⟩
theorem yL:QO X none qy:=⟨zE⟩
theorem zu(he:QE X e te):QO X (some e) (AZ te):=⟨zh he.h⟩
theorem ix{r:R2}(hr:tO X r)(ha:QE X a ta)(hb:QE X b tb)(hs:autoParam (sim b=true) ℜ0):QE X (.Subscript a b pos) (zJ r ta tb):=⟨Bq hr ha.h hb.h (ID hs)⟩
theorem tup(h:QA X es t):QE X (.Tuple es k pos) (EE t):=⟨Bs h.h⟩
theorem lst(h:QA X es t):QE X (.List es pos) (Ft t):=⟨BN h.h⟩
theorem nil:QA X [] nW:=⟨xO⟩
theorem cons(ha:QE X e te)(hr:QA X es t)(h:autoParam (dq e=true) ℜ0):QA X (e::es) (kI te t):=⟨HH ha.h hr.h h⟩
theorem consts(h:lj es=some vs):QA X es (tK vs):=⟨kQ h⟩
theorem cb{id:String}(hc:bI X (.builtin id) r)(hg:Gl X x)(hm:X.mg x=none)(hv:bootBuiltins x=some (.builtin id))(ha:QA X (e::es) t)(h1:autoParam (dq e=true) ℜ0)(h2:autoParam (es.all dq=true) ℜ0)(hn:autoParam (x≠"__name__") ℜ1)(hdb:autoParam ((x ==("__debug__":Str))=false) ℜ1):
  QE X (.Call (.Name x p) (e::es) [] pos) (Bi r t):=⟨Fo hc hg hm hv ha.h h1 h2 hn hdb⟩
theorem ct{T:String}(hc:bI X (.type T) r)(hg:Gl X x)(hm:X.mg x=none)(hv:bootBuiltins x=some (.type T))(ha:QA X (e::es) t)(h1:autoParam (dq e=true) ℜ0)(h2:autoParam (es.all dq=true) ℜ0)(hn:autoParam (x≠"__name__") ℜ1)(hdb:autoParam ((x ==("__debug__":Str))=false) ℜ1):
  QE X (.Call (.Name x p) (e::es) [] pos) (Bi r t):=⟨Ey hc hg hm hv ha.h h1 h2 hn hdb⟩
theorem Jh{T:String}(hg:Gl X x)(hm:X.mg x=none)(hv:bootBuiltins x=some (.type T))(hn:autoParam (x≠"__name__") ℜ1)(hd:autoParam ((x ==("__debug__":Str))=false) ℜ1):QE X (.Name x pos) (tC (.ty T)):=⟨Bw hg hm hv hn hd⟩
theorem fn{ps:List Str}{E:XK}(F:ae X.prog X.w X.K X.mg X.base CX k x ps sp)(hr:bM k X.A)(hg:Gl X x)(hx:Passes CX X E)(ha:QA X (e::es) t)(h1:autoParam (dq e=true) ℜ0)(h2:autoParam (es.all dq=true) ℜ0)(hdb:autoParam ((x ==("__debug__":Str))=false) ℜ1):
  QE X (.Call (.Name x p) (e::es) [] pos) (ju sp [] E t):=⟨Ei F hr hg hx ha.h h1 h2 hdb⟩
theorem Gx{ps:List Str}{E:XK}(F:ae X.prog X.w X.K X.mg X.base CX k x ps sp)(hr:bM k X.A)(hg:Gl X x)(hx:Passes CX X E)(hdb:autoParam ((x ==("__debug__":Str))=false) ℜ1):
  QE X (.Call (.Name x p) [] [] pos) (ju sp [] E nW):=⟨DE F hr hg hx hdb⟩
theorem bm(K:Oi)(hK:X.K=K){T id:String}{r:V->List V->Hp->VK->Prop}(pa:PlainAttrs T)(slot:Slot T name id)(hty:typeOf (.builtin id)=pure (.type "method_descriptor"))(hm:qX X id r)(ho:QE X o to)(ha:QA X (e::es) t)
  (hbase:autoParam (attributeBase o name X.env (eval o X.env)=eval o X.env) ℜ0) (hline:autoParam ((apos.endLine == pos.line)=true) ℜ0) (h:autoParam ((e::es).all dq=true) ℜ0) (hl:autoParam ((e::es).length<30) ℜ1):QE X (.Call (.Attribute o name apos) (e::es) [] pos) (HS K T r to t):=by
 subst hK;exact⟨B4 pa slot hty hm ho.h ha.h hbase hline h hl⟩
theorem comp{own:List Str}{wi:TI}{g:TG}{tc:TT}(S:cR osc ON scope own N)(hosc:X.env.scope=osc)(hON:X.N=ON)(hc:X.calm=true)(hi:QI X tg iter wi)
  (hg:∀ C s H fp,QG (aM X scope N C s H fp) tg g) (ht:∀ C s H fp,DS (aM X scope N C s H fp) ifs tc) (he:∀ C s H fp,QE (aM X scope N C s H fp) elt te) (hs:autoParam (∀ x,foldedSetIterable iter X.env x=pure x) ℜ3) :
  QE X (.ListComp elt [⟨tg,iter,ifs,0⟩] scope pos) (kG wi own.length g tc te):=⟨yJ S hosc hON hc hi.h (fun C s H fp=>(hg C s H fp).h) (fun C s H fp=>(ht C s H fp).h) (fun C s H fp=>(he C s H fp).h) hs⟩
theorem cg{o:CmpOp}{r:R2}(ho:dm X (compareOp o) r)(ha:QE X a ta)(hb:QE X b tb)(hm:autoParam (behindInMarks o b=false) ℜ0):QT X (.Compare a [o] [b] pos) (uH (zJ r ta tb)):=⟨Ag ho ha.h hb.h hm⟩
theorem tw(h:QW X e tA):QT X e tA:=⟨h.h.pt⟩
theorem mx(ha:QT X a tA):QT X (.UnaryOp .Not a pos) (EM tA):=⟨BG ha.h⟩
noncomputable def Ht(K:Oi)(ta:TE):TT:=fun σ H Q=>ta σ H fun x H'=>∃ k,xf K x H' k/\Q k H'
theorem Cv(K:Oi)(hK:X.K=K)(ha:QE X a ta)(he:autoParam (G6 a=true) ℜ0):QT X a (Ht K ta):=by subst hK;exact⟨wI ha.h (ptr he)⟩
theorem oy(ha:QT X a tA):QW X (.BoolOp .And [a] pos) tA:=⟨yT ha.h⟩
theorem yz(ha:QT X a tA):QW X (.BoolOp .Or [a] pos) tA:=⟨Dq ha.h⟩
theorem vg(ha:QT X a tA)(hb:QW X (.BoolOp .And (b::rest) pos) tB'):QW X (.BoolOp .And (a::b::rest) pos) (Ce tA tB'):=⟨B9 ha.h hb.h⟩
theorem Eb(ha:QT X a tA)(hb:QW X (.BoolOp .Or (b::rest) pos) tB'):QW X (.BoolOp .Or (a::b::rest) pos) (Hr tA tB'):=⟨ER ha.h hb.h⟩
theorem aI(hN:X.N.Nodup)(hi:X.N[i]?=some x)(hx:Loc X.env.scope x)(hf:autoParam (X.fn x=true\/X.env.scope.names.lookup x=some .local) ℜ2):QG X (.Name x pos) (dE i):=⟨yq hN hi hx hf⟩
theorem DB(K:Oi)(hK:X.K=K){tg:sY}(hc:X.calm=true)(h:FF X es tg)(hn:autoParam ((assignEach es X.env).length=n) ℜ0)(hst:autoParam ((assignEach es X.env).findIdx? (·.1)=none) ℜ0):QG X (.Tuple es k pos) (As K n tg):=by subst hK;exact⟨uF hc h.h hn hst⟩
theorem fq:FF X [] yr:=⟨zF⟩
theorem cc{g:TG}{u:sY}(h1:QG X e g)(h2:FF X es u)(hs:autoParam ((assignEach (e::es) X.env).map (·.2)=assign e X.env::(assignEach es X.env).map (·.2)) ℜ0):FF X (e::es) (ko g u):=⟨u6 h1.h h2.h hs⟩
theorem ot{i:Expr}{ti:TE}(ho:QE X o to)(hi:QE X i ti)
  (ha:autoParam (∀ v,assign (.Subscript o i pos) X.env v=(do
   let ov <- holding [v] (eval o X.env)
   let iv <- holding [v,ov] (eval i X.env)
   standAt pos
   holding [v,ov,iv] (setItem ov iv v)
   release [v,ov,iv] [])) ℜ3):QG X (.Subscript o i pos) (Es to ti uU):=⟨Cz ho.h hi.h uset ha⟩
theorem jY{ta:TA}(hg:Gl X "range")(hm:X.mg "range"=none)(ha:QA X [a] ta)(h:autoParam (dq a=true) ℜ0):QI X tg (.Call (.Name "range" p) [a] [] pos) (vM ta):=⟨oD hg hm ha.h h⟩
theorem enum(K:Oi)(hK:X.K=K){ta:TA}(hg:Gl X "enumerate")(hm:X.mg "enumerate"=none)(ha:QA X [e] ta)(h1:autoParam (dq e=true) ℜ0):QI X (.Tuple es k tp) (.Call (.Name "enumerate" p) [e] [] pos) (A_ K ta):=by subst hK;exact⟨yY hg hm ha.h h1⟩
theorem oz:DS X [] AN:=⟨zA⟩
theorem GB(h:QT X c tA):DS X [c] tA:=⟨yv h.h⟩
end
section
variable {X:Cx} {e o tg:Expr} {te to:TE} {st:Stmt} {sts xs ys:List Stmt} {t u:TS} {pos pos':Pos} {x:Str}
theorem c_:QB X [] AQ:=⟨yF⟩
theorem aD(h:QS X st t):QB X [st] t:=⟨yR h.h⟩
theorem af(h:QS X st t)(h2:QB X sts u):QB X (st::sts) (Ec t u):=⟨vF h.h h2.h⟩
theorem set(hN:X.N.Nodup)(hi:X.N[i]?=some x)(hx:Loc X.env.scope x)(he:QE X e te)(hs:autoParam (DP e=true) ℜ0)(hf:autoParam (X.fn x=true\/X.env.scope.names.lookup x=some .local) ℜ2):
  QS X (.Assign [.Name x pos'] e pos) (pw te (dE i)):=⟨CT hN hi hx he.h (IP hs) hf⟩
theorem setC{own:List Str}{p2:Pos}{wi:TI}{g:TG}(hN:X.N.Nodup)(hj:X.N[j]?=some x)(hx:Loc X.env.scope x)(S:cR osc ON scope own N)(hosc:X.env.scope=osc)(hON:X.N=ON)(hc:X.calm=true)(hi:QI X tg iter wi)
  (hg:∀ C s H fp,QG (aM X scope N C s H fp) tg g) (ht:∀ C s H fp,DS (aM X scope N C s H fp) ifs tc) (he:∀ C s H fp,QE (aM X scope N C s H fp) elt te)
  (hsw:autoParam (swapsWith (.ListComp elt [⟨tg,iter,ifs,0⟩] scope p2) (some (.Name x pos')) pos.line X.env=pure true) ℜ0)
  (hf:autoParam (X.fn x=true\/X.env.scope.names.lookup x=some .local) ℜ2) (hs:autoParam (∀ x,foldedSetIterable iter X.env x=pure x) ℜ3) :
  QS X (.Assign [.Name x pos'] (.ListComp elt [⟨tg,iter,ifs,0⟩] scope p2) pos) (pw (kG wi own.length g tc te) (dE j)):=⟨oJ hN hj hx S hosc hON hc hi.h (fun C s H fp=>(hg C s H fp).h) (fun C s H fp=>(ht C s H fp).h) (fun C s H fp=>(he C s H fp).h) hsw hf hs⟩
theorem asg{g:TG}(he:QE X e te)(hg:QG X tg g)(hs:autoParam (swapsWithSole [tg] e pos.line X.env=pure false) ℜ0)(hw:autoParam (swappedStores [tg] e X.env=pure none) ℜ0)
  (h1:autoParam ((assignEach [tg] X.env).map (·.2)=[assign tg X.env]) ℜ0):QS X (.Assign [tg] e pos) (pw te g):=⟨BK he.h hg.h hs hw h1⟩
theorem ret(he:QE X e te):QS X (.Return (some e) pos) (EO te):=⟨BA he.h⟩
theorem expr(he:QE X e te)(hs:autoParam (DP e=true) ℜ0):QS X (.Expr e pos) (AJ te):=⟨zP he.h (IP hs)⟩
theorem gm{c:Expr}(hc:QT X c tc)(ha:QB X xs t)(hb:QB X ys u):QS X (.If c xs ys pos) (Ff tc t u):=⟨Ek hc.h ha.h hb.h⟩
theorem eB{wi:TI}{g:TG}(hp:PassesOwn (model X.prog X.w) X.A X.env X.xe)(hc:X.calm=true)(hi:QI X tg iter wi)(hg:QG X tg g)(hb:QB X xs t)(hs:autoParam (∀ x,foldedSetIterable iter X.env x=pure x) ℜ3):QS X (.For tg iter xs [] pos) (FE wi g t):=⟨CF hp hc hi.h hg.h hb.h hs⟩
theorem gC{c:Expr}(hp:PassesOwn (model X.prog X.w) X.A X.env X.xe)(hc:QT X c tc)(hb:QB X xs t):QS X (.While c xs [] pos) (uE tc t):=⟨x6 hp hc.h hb.h⟩
end
end Z
namespace Ap
end Ap
theorem HasFn.Jm{ps:List Str}(F:HasFn K mg x st ps)(S:aq N ps (aa st))(len:∀ vs H Q E,sp vs H Q E->vs.length=ps.length)
  (hbody:∀(f:Addr) (cdv:Value) (A:Around) (outer:List Env) (s:Shared) (H:Hp) (vs:List V) (Q:VK) (E:XK),bM k (A.deeper (envOfC x (aa st) s.heap.objs.size f cdv))->sp vs H Q E ->
   ∃ t,QB (gY bA P w K mg base N x (aa st) f cdv A outer s H E).zX (aj st) t/\t {nx:=fun _ H'=>Q .aJ H',rt:=Q} (start N vs) H):ae P w K mg base bA (k+1) x ps sp:=
 F.ok S len fun f cdv A outer s H vs Q E hr h=>let ⟨t,q,r⟩:=hbody f cdv A outer s H vs Q E hr h;⟨t,q.h,r⟩
theorem yH{ps:List Str}(F:yh K x x st f fd)(S:aq N ps (aa st))(len:∀ vs H Q E,sp vs H Q E->vs.length=ps.length)
  (hbody:∀(cdv:Value) (A:Around) (outer:List Env) (s:Shared) (H:Hp) (vs:List V) (Q:VK) (E:XK),bM k (A.deeper (envOfC x (aa st) s.heap.objs.size f cdv))->sp vs H Q E ->
   ∃ t,QB (gY bA P w K mg base N x (aa st) f cdv A outer s H E).zX (aj st) t/\t {nx:=fun _ H'=>Q .aJ H',rt:=Q} (start N vs) H):ee P w K mg base bA (k+1) f fd ps sp:=
 F.ok S len fun cdv A outer s H vs Q E hr h=>let ⟨t,q,r⟩:=hbody cdv A outer s H vs Q E hr h;⟨t,q.h,r⟩
noncomputable def jV(e:Addr)(cls:Value)(d:Option Addr)(h:Heap):Prop:=∃ o vs,h.get? e=some o/\o.cls=cls/\o.dict=d/\o.data=.fields vs
inductive T where
 |aJ|bl (b:Bool)|int (i:Int)|str (x:Str)|tup (ts:List T)|lst (ts:List T)|eU (ts:List T)|fh (lo hi:Int)|d_ (ts:List T)|mU (ks:List Key) (ts:List T)|exc (c:Value) (f:Option (Str×Int))
variable{c:T}{args ts:List T}
abbrev bo:=Addr->Prop
variable{B B' B1:bo}{Src:Hp->bo->Prop}
noncomputable def Gu(K:Oi)(a:Addr)(xs:List V):Prop:=∃(o:Obj) (its:Array Value) (n:Nat),K.lookup a=some o/\o.cls=.type "tuple"/\o.data=.seq its n/\its.size<=sizeLine/\Vals xs its.toList
noncomputable def I_(K:Oi)(a:Addr)(xs:List V):Prop:=∃(o:Obj) (its:Array Value) (n:Nat),K.lookup a=some o/\o.cls=.type "list"/\o.dict=none/\o.data=.seq its n/\its.size<=sizeLine/\Vals xs its.toList
noncomputable def LB(K:Oi)(H:Hp)(B:bo)(a:Addr)(xs:List V):Prop:=(¬ B a/\Rd H a (.lst xs))\/I_ K a xs
mutual
inductive Rep (K:Oi) (H:Hp) (B:bo):V->T->Prop
 |aJ:Rep K H B .aJ .aJ
 |bl (b:Bool):Rep K H B (.bl b) (.bl b)
 |int (i:Int):Rep K H B (.int i) (.int i)
 |str (x:Str):Rep K H B (.str x) (.str x)
 |tup {a:Addr} {vs:List V} {ts:List T} (n:¬ B a) (h:H a=some (.tup vs)) (r:au K H B vs ts):Rep K H B (.ref a) (.tup ts)
 |d_ {a:Addr} {vs:List V} {ts:List T} (h:Gu K a vs) (r:au K H B vs ts):Rep K H B (.ref a) (.d_ ts)
 |lst {a:Addr} {vs:List V} {ts:List T} (n:¬ B a) (h:H a=some (.lst vs)) (r:au K H B vs ts):Rep K H B (.ref a) (.lst ts)
 |eU {a:Addr} {vs:List V} {ts:List T} (h:LB K H B a vs) (r:au K H B vs ts):Rep K H B (.ref a) (.eU ts)
 |fh {a:Addr} {lo hi:Int} (n:¬ B a) (h:H a=some (.fh lo hi)):Rep K H B (.ref a) (.fh lo hi)
 |mU {a:Addr} {ks:List Key} {vs:List V} {ts:List T} (n:¬ B a) (h:Rd H a (.dK (ks.zip vs))) (l:ks.length=vs.length) (r:au K H B vs ts):Rep K H B (.ref a) (.mU ks ts)
 |exc {a:Addr} {c:Value} (n:¬ B a) (h:H a=some (.ext (jV a c none))):Rep K H B (.ref a) (.exc c none)
 |yy {a d:Addr} {c:Value} {x:Str} {i:Int} (n:¬ B a) (h:H a=some (.ext (jV a c (some d)))) (m:¬ B d) (g:H d=some (.xd [(x,.int i)])):Rep K H B (.ref a) (.exc c (some (x,i)))
inductive au (K:Oi) (H:Hp) (B:bo):List V->List T->Prop
 |nil:au K H B [] []
 |cons {v:V} {t:T} {vs:List V} {ts:List T} (h:Rep K H B v t) (r:au K H B vs ts):au K H B (v::vs) (t::ts)
end
noncomputable def Fr(B:bo)(H:Hp)(B':bo)(H':Hp):Prop:=∀ b o,H b=some o->¬ B b->H' b=some o/\¬ B' b
theorem Fr.refl:Fr B H B H:=fun _ _ h n=>⟨h,n⟩
theorem Fr.trans{B2:bo}{H2:Hp}(a:Fr B H B1 H1)(b:Fr B1 H1 B2 H2):Fr B H B2 H2:=fun c o h n=>let ⟨h1,n1⟩:=a c o h n;b c o h1 n1
theorem Fr.same(s:cu H H'):Fr B H B H':=fun b o h n=>⟨s b o h,n⟩
theorem Fr.less(s:∀ b,B' b->B b):Fr B H B' H:=fun b o h n=>⟨h,fun z=>n (s b z)⟩
theorem Fr.set(h:B a):Fr B H B (upd H a o):=fun b u e n=>⟨by rw[ao (by rintro rfl;exact n h)];exact e,n⟩
theorem cu.new(h:H p=none):cu H (upd H p o):=fun b u e=>by rw[ao (aF e h)];exact e
theorem Fr.more(h:H p=none):Fr B H (fun b=>b=p\/B b) (upd H p o):=fun b u e n=>⟨cu.new h b u e,fun z=>z.elim (aF e h) n⟩
theorem Rd.fr{u:HO}(f:Fr B H B' H')(n:¬ B a)(h:Rd H a u):¬ B' a/\Rd H' a u:=by
 rcases h with h|⟨o,h⟩
 ·exact⟨(f a _ h n).2,.inl (f a _ h n).1⟩
 ·exact⟨(f a _ h n).2,.inr ⟨o,(f a _ h n).1⟩⟩
section
variable {K:Oi} {H H':Hp} {B B':bo}
theorem LB.fr(f:Fr B H B' H')(h:LB K H B a xs):LB K H' B' a xs:=h.elim (fun z=>.inl (z.2.fr f z.1)) .inr
theorem LB.sq(h:LB K H B a xs):cJ K H a xs:=h.elim (fun z=>.inl z.2) .inr
mutual
theorem Rep.fr(f:Fr B H B' H'):∀{v:V} {t:T},Rep K H B v t->Rep K H' B' v t
 |_,_,.aJ=>.aJ
 |_,_,.bl b=>.bl b
 |_,_,.int i=>.int i
 |_,_,.str x=>.str x
 |_,_,.tup n h r=>.tup (f _ _ h n).2 (f _ _ h n).1 (au.fr f r)
 |_,_,.d_ h r=>.d_ h (au.fr f r)
 |_,_,.lst n h r=>.lst (f _ _ h n).2 (f _ _ h n).1 (au.fr f r)
 |_,_,.eU h r=>.eU (h.fr f) (au.fr f r)
 |_,_,.fh n h=>.fh (f _ _ h n).2 (f _ _ h n).1
 |_,_,.mU n h l r=>.mU (Rd.fr f n h).1 (Rd.fr f n h).2 l (au.fr f r)
 |_,_,.exc n h=>.exc (f _ _ h n).2 (f _ _ h n).1
 |_,_,.yy n h m g=>.yy (f _ _ h n).2 (f _ _ h n).1 (f _ _ g m).2 (f _ _ g m).1
theorem au.fr(f:Fr B H B' H'):∀{vs:List V} {ts:List T},au K H B vs ts->au K H' B' vs ts
 |_,_,.nil=>.nil
 |_,_,.cons h r=>.cons (Rep.fr f h) (au.fr f r)
end
theorem au.length:∀{vs:List V} {ts:List T},au K H B vs ts->vs.length=ts.length
 |_,_,.nil=>rfl
 |_,_,.cons _ r=>JS (·+1) (au.length r)
theorem au.get:∀{vs:List V} {ts:List T} {i:Nat} {t:T},au K H B vs ts->ts[i]?=some t->∃ v,vs[i]?=some v/\Rep K H B v t
 |_,_,_,_,.nil,e=>by simp at e
 |_,_,0,_,.cons h _,e=>by simp at e;subst e;exact⟨_,rfl,h⟩
 |_,_,i+1,_,.cons _ r,e=>by
  obtain⟨v,e1,h⟩:=au.get r (by simpa using e)
  exact⟨v,by simpa using e1,h⟩
theorem au.append:∀{vs ws:List V} {ts us:List T},au K H B vs ts->au K H B ws us->au K H B (vs++ws) (ts++us)
 |_,_,_,_,.nil,s=>s
 |_,_,_,_,.cons h r,s=>.cons h (au.append r s)
theorem au.take:∀{vs:List V} {ts:List T} (n:Nat),au K H B vs ts->au K H B (vs.take n) (ts.take n)
 |_,_,0,_=>.nil
 |_,_,_+1,.nil=>.nil
 |_,_,n+1,.cons h r=>.cons h (au.take n r)
theorem au.drop:∀{vs:List V} {ts:List T} (n:Nat),au K H B vs ts->au K H B (vs.drop n) (ts.drop n)
 |_,_,0,r=>r
 |_,_,_+1,.nil=>.nil
 |_,_,n+1,.cons _ r=>au.drop n r
theorem au.set:∀{vs:List V} {ts:List T} {v:V} {t:T} (i:Nat),Rep K H B v t->au K H B vs ts->au K H B (vs.set i v) (ts.set i t)
 |_,_,_,_,_,_,.nil=>.nil
 |_,_,_,_,0,h,.cons _ r=>.cons h r
 |_,_,_,_,i+1,h,.cons q r=>.cons q (au.set i h r)
theorem au.rep(r:au K H B vs ts):∀ n:Nat,au K H B (List.replicate n vs).flatten (List.replicate n ts).flatten
 |0=>.nil
 |n+1=>by rw[Ka,Ka,K1,K1];exact r.append (au.rep r n)
theorem au.erase:∀{vs:List V} {ts:List T} (i:Nat),au K H B vs ts->au K H B (vs.eraseIdx i) (ts.eraseIdx i)
 |_,_,_,.nil=>.nil
 |_,_,0,.cons _ r=>r
 |_,_,i+1,.cons h r=>.cons h (au.erase i r)
theorem au.bR{i:Int}{t:T}(r:au K H B vs ts)(e:L2.bR ts i=some t):∃ v,L2.bR vs i=some v/\Rep K H B v t:=by
 unfold L2.bR at e ⊢;rw[r.length]
 cases q:hZ ts.length i with
 |none=>rw[q] at e;cases e
 |some j=>rw[q] at e;exact r.get e
end
noncomputable def aR:T->Bool
 |.aJ|.bl _|.int _|.str _=>true
 |_=>false
theorem Rep.flat{v:V}{t:T}(h:Rep K H B v t)(f:aR t=true):Rep K H' B' v t:=by
 cases h with
 |aJ=>exact .aJ
 |bl b=>exact .bl b
 |int i=>exact .int i
 |str x=>exact .str x
 |tup=>cases f
 |d_=>cases f
 |lst=>cases f
 |eU=>cases f
 |fh=>cases f
 |mU=>cases f
 |exc=>cases f
 |yy=>cases f
theorem au.flat:∀{vs:List V} {ts:List T},au K H B vs ts->ts.all aR=true->au K H' B' vs ts
 |_,_,.nil,_=>.nil
 |_,_,.cons h r,f=>by
  rw[Kv,Kl] at f;exact .cons (h.flat f.1) (au.flat r f.2)
noncomputable def Bx(K:Oi)(H:Hp)(B:bo)(a:Addr)(c:T):Prop:=match c with
 |.lst ts=>∃ vs,H a=some (.lst vs)/\au K H B vs ts
 |.mU ks ts=>∃ vs,H a=some (.dK (ks.zip vs))/\ks.length=vs.length/\au K H B vs ts
 |_=>False
theorem Bx.fY(h:Bx K H B a c):∃ o,H a=some o:=by
 unfold Bx at h
 split at h
 ·obtain⟨vs,e,_⟩:=h;exact⟨_,e⟩
 ·obtain⟨vs,e,_⟩:=h;exact⟨_,e⟩
 ·exact h.elim
theorem Bx.of(h:Bx K H B a c)(e:H' a=H a)(f:Fr B H B' H'):Bx K H' B' a c:=by
 unfold Bx at h ⊢
 split at h
 ·obtain⟨vs,q,r⟩:=h;exact⟨vs,e.trans q,r.fr f⟩
 ·obtain⟨vs,q,l,r⟩:=h;exact⟨vs,e.trans q,l,r.fr f⟩
 ·exact h.elim
theorem Bx.is(h:Bx K H B a c):(∃ ts vs,c=.lst ts/\H a=some (.lst vs)/\au K H B vs ts)\/∃ ks ts vs,c=.mU ks ts/\H a=some (.dK (ks.zip vs))/\ks.length=vs.length/\au K H B vs ts:=by
 unfold Bx at h
 split at h
 ·obtain⟨vs,q,r⟩:=h;exact .inl ⟨_,vs,rfl,q,r⟩
 ·obtain⟨vs,q,l,r⟩:=h;exact .inr ⟨_,_,vs,rfl,q,l,r⟩
 ·exact h.elim
theorem Bx.rep(h:Bx K H B a c)(n:¬ B a):Rep K H B (.ref a) c:=by
 rcases h.is with ⟨ts,vs,rfl,e,r⟩|⟨ks,ts,vs,rfl,e,l,r⟩
 ·exact .lst n e r
 ·exact .mU n (.inl e) l r
inductive Sl where
 |un|tr (t:T)|bx (c:T)|pb (c:T)
abbrev Mu:=List Sl
variable{μ μ' μ1:Mu}{dr:Mu->Mu}
inductive R where
 |tr (t:T)|br (i:Nat)|fr (c:T)
structure Fx where
 K:Oi
 H0:Hp
 P:Nat->Option Addr
 Bc:bo
 bh:∀ b,Bc b->∃ o,H0 b=some o
 G:Addr->Option (List V)
variable{F:Fx}
noncomputable def iO(F:Fx)(ad:Nat->Addr)(B:bo)(H:Hp)(i:Nat)(s:Sl)(x:Option (Option V)):Prop:=match s with
 |.un=>True
 |.tr t=>∃ v,x=some (some v)/\Rep F.K H B v t
 |.bx c=>x=some (some (.ref (ad i)))/\B (ad i)/\F.H0 (ad i)=none/\F.P i=none/\Bx F.K H B (ad i) c
 |.pb c=>x=some (some (.ref (ad i)))/\B (ad i)/\F.P i=some (ad i)/\Bx F.K H B (ad i) c
noncomputable def Sl.box:Sl->Option T
 |.bx c=>some c
 |.pb c=>some c
 |_=>none
structure Rl (F:Fx) (ad:Nat->Addr) (B:bo) (σ:St) (H:Hp) (μ:Mu):Prop where
 len:μ.length=σ.length
 slot:∀ i s,μ[i]?=some s->iO F ad B H i s σ[i]?
 inj:∀ i j s u c d,μ[i]?=some s->μ[j]?=some u->s.box=some c->u.box=some d->ad i=ad j->i=j
 par:∀ i a,F.P i=some a->(∃ c,μ[i]?=some (.pb c))/\ad i=a
 bc:∀ b,F.Bc b->B b
 fY:∀ b,B b->∃ o,H b=some o
 old:∀ b o,F.H0 b=some o->(∀ i,F.P i≠some b)->H b=some o
 gh:∀ a vs,F.G a=some vs->H a=some (.lst vs)/\B a/\∀(i:Nat) (s:Sl) (c:T),μ[i]?=some s->s.box=some c->ad i≠a
theorem iO.boxed{s:Sl}{x:Option (Option V)}(h:iO F ad B H i s x)(e:s.box=some c):x=some (some (.ref (ad i)))/\B (ad i)/\Bx F.K H B (ad i) c/\(F.P i=some (ad i)\/F.H0 (ad i)=none):=by
 unfold iO at h
 split at h
 ·cases e
 ·cases e
 ·cases e;exact⟨h.1,h.2.1,h.2.2.2.2,.inr h.2.2.1⟩
 ·cases e;exact⟨h.1,h.2.1,h.2.2.2,.inl h.2.2.1⟩
noncomputable def Hv(F:Fx)(ad:Nat->Addr)(B:bo)(H:Hp)(μ:Mu)(v:V)(r:R):Prop:=match r with
 |.tr t=>Rep F.K H B v t
 |.br i=>v=.ref (ad i)/\∃ s c,μ[i]?=some s/\s.box=some c
 |.fr _=>False
def more(B:bo)(a:Addr):bo:=fun b=>b=a\/B b
noncomputable def Vr(F:Fx)(ad:Nat->Addr)(B:bo)(σ:St)(H:Hp)(μ:Mu)(v:V)(r:R):Prop:=match r with
 |.fr c=>Rl F ad B σ H μ/\∃ a,v=.ref a/\¬ B a/\F.H0 a=none/\Rl F ad (more B a) σ H μ/\Bx F.K H (more B a) a c
 |r=>Rl F ad B σ H μ/\Hv F ad B H μ v r
def R.d:R->R
 |.fr c=>.tr c
 |r=>r
section
variable {F:Fx} {ad:Nat->Addr} {B B':bo} {σ:St} {H H':Hp} {μ:Mu} {v:V} {r:R}
theorem Rl.yK(h:Rl F ad B σ H μ)(e:H p=none):F.H0 p=none:=by
 cases q:F.H0 p with
 |none=>rfl
 |some o =>
  by_cases z:∃ i,F.P i=some p
  ·obtain⟨i,z⟩:=z;obtain⟨⟨c,hc⟩,ha⟩:=h.par i p z;have:=(h.slot i _ hc).boxed (c:=c) rfl;obtain⟨o',e'⟩:=h.fY _ this.2.1;rw[ha,e] at e';cases e'
  ·have:=h.old p o q fun i zi=>z ⟨i,zi⟩;rw[e] at this;cases this
theorem Rl.kh(h:Rl F ad B σ H μ)(e:H p=none):¬ B p:=fun z=>by
 obtain⟨o,q⟩:=h.fY p z;rw[e] at q;cases q
theorem Rl.fr(h:Rl F ad B σ H μ)(s:cu H H')(hB:∀ b,B b->B' b)(hT:∀ b,B' b->∃ o,H' b=some o)(f:Fr B H B' H'):Rl F ad B' σ H' μ:=by
 refine⟨h.len,fun i s' e=>?_,h.inj,h.par,fun b z=>hB b (h.bc b z),hT,fun b o e n=>s b o (h.old b o e n),fun a vs e=>let ⟨g1,g2,g3⟩:=h.gh a vs e;⟨s a _ g1,hB a g2,g3⟩⟩
 have k:=h.slot i s' e;unfold iO at k ⊢
 split at k
 ·trivial
 ·obtain⟨v,e1,r⟩:=k;exact⟨v,e1,r.fr f⟩
 ·obtain⟨e1,b,z,p,x⟩:=k;obtain⟨o,q⟩:=x.fY;exact⟨e1,hB _ b,z,p,x.of ((s _ _ q).trans q.symm) f⟩
 ·obtain⟨e1,b,p,x⟩:=k;obtain⟨o,q⟩:=x.fY;exact⟨e1,hB _ b,p,x.of ((s _ _ q).trans q.symm) f⟩
theorem Rl.same(h:Rl F ad B σ H μ)(s:cu H H'):Rl F ad B σ H' μ:=h.fr s (fun _ z=>z) (fun b z=>let ⟨o,e⟩:=h.fY b z;⟨o,s b o e⟩) (Fr.same s)
theorem Rl.new(h:Rl F ad B σ H μ)(e:H p=none):Rl F ad (more B p) σ (upd H p o) μ:=
 h.fr (cu.new e) (fun _ z=>.inr z) (fun b z=>z.elim (fun q=>by subst q;exact⟨o,ax⟩) fun q=>let ⟨u,w⟩:=h.fY b q;⟨u,cu.new e b u w⟩) (Fr.more e)
theorem Rl.less(h:Rl F ad B σ H μ)(s:∀ b,B' b->B b)(hb:∀ b,F.Bc b->B' b)(own:∀ i s' c,μ[i]?=some s'->s'.box=some c->B' (ad i))(hg:∀ a vs,F.G a=some vs->B' a):Rl F ad B' σ H μ:=by
 refine⟨h.len,fun i s' e=>?_,h.inj,h.par,hb,fun b z=>h.fY b (s b z),h.old,fun a vs e=>let ⟨g1,g2,g3⟩:=h.gh a vs e;⟨g1,hg a vs e,g3⟩⟩
 have k:=h.slot i s' e;unfold iO at k ⊢
 split at k
 ·trivial
 ·obtain⟨v,e1,r⟩:=k;exact⟨v,e1,r.fr (Fr.less s)⟩
 ·obtain⟨e1,b,z,p,x⟩:=k;exact⟨e1,own i _ _ e rfl,z,p,x.of rfl (Fr.less s)⟩
 ·obtain⟨e1,b,p,x⟩:=k;exact⟨e1,own i _ _ e rfl,p,x.of rfl (Fr.less s)⟩
theorem Vr.rl(h:Vr F ad B σ H μ v r):Rl F ad B σ H μ:=by
 cases r with
 |tr t=>exact h.1
 |br i=>exact h.1
 |fr c=>exact h.1
theorem Vr.hv(h:Vr F ad B σ H μ v r):Hv F ad B H μ v r.d:=by
 cases r with
 |tr t=>exact h.2
 |br i=>exact h.2
 |fr c =>
  obtain⟨_,a,rfl,n,_,_,x⟩:=h;exact (x.of rfl (Fr.less fun _ z=>.inr z)).rep n
noncomputable def Kp(μ μ':Mu):Prop:=∀ i:Nat,((μ[i]?).bind Sl.box).isSome=((μ'[i]?).bind Sl.box).isSome
theorem Kp.refl(μ:Mu):Kp μ μ:=fun i=>rfl
theorem Kp.trans{μ2:Mu}(a:Kp μ μ1)(b:Kp μ1 μ2):Kp μ μ2:=fun i=>(a i).trans (b i)
theorem Kp.symm(a:Kp μ μ1):Kp μ1 μ:=fun i=>(a i).symm
theorem Kp.fwd(k:Kp μ μ'):∀(i:Nat) (s:Sl) (c:T),μ[i]?=some s->s.box=some c->∃(s':Sl) (c':T),μ'[i]?=some s'/\s'.box=some c':=fun i s c e b=>by
 have h:=k i;rw[e] at h;have h1:(s.box).isSome=((μ'[i]?).bind Sl.box).isSome:=h;rw[b] at h1
 cases q:μ'[i]? with
 |none=>rw[q] at h1;cases h1
 |some s' =>
  rw[q] at h1;have h2:true=(s'.box).isSome:=h1
  cases q2:s'.box with
  |none=>rw[q2] at h2;cases h2
  |some c'=>exact⟨s',c',rfl,q2⟩
theorem Kp.set{s s':Sl}{d:T}(e:μ[i]?=some s)(b:s.box=some c)(b':s'.box=some d):Kp μ (μ.set i s'):=fun j=>by
 have hi:i<μ.length:=(Jz.mp e).1;by_cases z:i=j
 ·subst z;rw[Kb hi,e];show (s.box).isSome=(s'.box).isSome;rw[b,b'];rfl
 ·rw[Kg z]
theorem Hv.fr(h:Hv F ad B H μ v r)(f:Fr B H B' H')(k:Kp μ μ'):Hv F ad B' H' μ' v r:=by
 cases r with
 |tr t=>exact Rep.fr f h
 |br i=>obtain⟨e,s,c,h1,h2⟩:=h;exact⟨e,k.fwd i s c h1 h2⟩
 |fr c=>exact h.elim
noncomputable def cont(μ:Mu):R->Option T
 |.tr t=>some t
 |.br i=>(μ[i]?).bind Sl.box
 |.fr c=>some c
inductive Vw (K:Oi) (H:Hp) (B:bo):V->T->Prop
 |aJ:Vw K H B .aJ .aJ
 |bl (b:Bool):Vw K H B (.bl b) (.bl b)
 |int (i:Int):Vw K H B (.int i) (.int i)
 |str (x:Str):Vw K H B (.str x) (.str x)
 |tup {a:Addr} {vs:List V} {ts:List T} (h:H a=some (.tup vs)) (r:au K H B vs ts):Vw K H B (.ref a) (.tup ts)
 |d_ {a:Addr} {vs:List V} {ts:List T} (h:Gu K a vs) (r:au K H B vs ts):Vw K H B (.ref a) (.d_ ts)
 |lst {a:Addr} {vs:List V} {ts:List T} (h:H a=some (.lst vs)) (r:au K H B vs ts):Vw K H B (.ref a) (.lst ts)
 |eU {a:Addr} {vs:List V} {ts:List T} (h:cJ K H a vs) (r:au K H B vs ts):Vw K H B (.ref a) (.eU ts)
 |fh {a:Addr} {lo hi:Int} (h:H a=some (.fh lo hi)):Vw K H B (.ref a) (.fh lo hi)
 |mU {a:Addr} {ks:List Key} {vs:List V} {ts:List T} (h:Rd H a (.dK (ks.zip vs))) (l:ks.length=vs.length) (r:au K H B vs ts):Vw K H B (.ref a) (.mU ks ts)
 |exc {a:Addr} {c:Value} (h:H a=some (.ext (jV a c none))):Vw K H B (.ref a) (.exc c none)
 |yy {a d:Addr} {c:Value} {x:Str} {i:Int} (h:H a=some (.ext (jV a c (some d)))) (g:H d=some (.xd [(x,.int i)])):Vw K H B (.ref a) (.exc c (some (x,i)))
theorem Rep.vw{t:T}(h:Rep K H B v t):Vw K H B v t:=by
 cases h with
 |aJ=>exact .aJ
 |bl b=>exact .bl b
 |int i=>exact .int i
 |str x=>exact .str x
 |tup n h r=>exact .tup h r
 |d_ h r=>exact .d_ h r
 |lst n h r=>exact .lst h r
 |eU h r=>exact .eU h.sq r
 |fh n h=>exact .fh h
 |mU n h l r=>exact .mU h l r
 |exc n h=>exact .exc h
 |yy n h m g=>exact .yy h g
theorem Hv.vw{t:T}(l:Rl F ad B σ H μ)(h:Hv F ad B H μ v r)(e:cont μ r=some t):Vw F.K H B v t:=by
 cases r with
 |tr u=>cases e;exact Rep.vw h
 |br i =>
  obtain⟨rfl,s,c,h1,h2⟩:=h;have e2:(μ[i]?).bind Sl.box=some t:=e;rw[h1] at e2;have e':s.box=some t:=e2;rcases ((l.slot i s h1).boxed e').2.2.1.is with ⟨ts,vs,rfl,q,rr⟩|⟨ks,ts,vs,rfl,q,ll,rr⟩
  ·exact .lst q rr
  ·exact .mU (.inl q) ll rr
 |fr c=>exact h.elim
noncomputable def Sl.put:Sl->T->Sl
 |.bx _,c=>.bx c
 |.pb _,c=>.pb c
 |s,_=>s
theorem Sl.iY{s:Sl}{d:T}(e:s.box=some c):(s.put d).box=some d:=by
 cases s<;>first|rfl|cases e
theorem Rl.put{s:Sl}(l:Rl F ad B σ H μ)(e:μ[i]?=some s)(hb:s.box=some c)(r:au F.K H B vs ts):Rl F ad B σ (upd H (ad i) (.lst vs)) (μ.set i (s.put (.lst ts))):=by
 have k0:=(l.slot i s e).boxed hb;have hi:i<μ.length:=(Jz.mp e).1;have f:Fr B H B (upd H (ad i) (.lst vs)):=Fr.set k0.2.1;have get:∀ j,(μ.set i (s.put (.lst ts)))[j]?=if j=i then some (s.put (.lst ts)) else μ[j]?:=fun j=>by
  rw[Mb];by_cases z:i=j
  ·subst z;simp[hi]
  ·rw[Ju z,Ju (fun q=>z q.symm)]
 refine⟨by rw[Ko];exact l.len,fun j s' e'=>?_,fun j k s1 s2 c1 c2 e1 e2 b1 b2 q=>?_,fun j a p=>?_,l.bc,fun b z=>?_,fun b o e' n=>?_,fun a ws ga=>?_⟩
 ·rw[get] at e';by_cases z:j=i
  ·subst z;rw[Jy rfl] at e';cases e';have k:=l.slot j s e
   cases s with
   |un=>cases hb
   |tr t=>cases hb
   |bx d=>exact⟨k.1,k.2.1,k.2.2.1,k.2.2.2.1,vs,ax,r.fr f⟩
   |pb d=>exact⟨k.1,k.2.1,k.2.2.1,vs,ax,r.fr f⟩
  ·rw[Ju z] at e';have k:=l.slot j s' e';have ne:∀ d,s'.box=some d->ad j≠ad i:=fun d hd q=>z (l.inj j i s' s d c e' e hd hb q);unfold iO at k ⊢
   split at k
   ·trivial
   ·obtain⟨v,e1,r1⟩:=k;exact⟨v,e1,r1.fr f⟩
   ·obtain⟨e1,b,z0,p,x⟩:=k;exact⟨e1,b,z0,p,x.of (ao (ne _ rfl)) f⟩
   ·obtain⟨e1,b,p,x⟩:=k;exact⟨e1,b,p,x.of (ao (ne _ rfl)) f⟩
 ·rw[get] at e1 e2;have h1:∃ u d,μ[j]?=some u/\u.box=some d:=by
   by_cases z:j=i
   ·subst z;exact⟨s,c,e,hb⟩
   ·rw[Ju z] at e1;exact⟨_,_,e1,b1⟩
  have h2:∃ u d,μ[k]?=some u/\u.box=some d:=by
   by_cases z:k=i
   ·subst z;exact⟨s,c,e,hb⟩
   ·rw[Ju z] at e2;exact⟨_,_,e2,b2⟩
  obtain⟨u1,d1,g1,g2⟩:=h1;obtain⟨u2,d2,g3,g4⟩:=h2;exact l.inj j k u1 u2 d1 d2 g1 g3 g2 g4 q
 ·obtain⟨⟨d,hd⟩,ha⟩:=l.par j a p;refine⟨?_,ha⟩;rw[get];by_cases z:j=i
  ·subst z;rw[e] at hd;cases hd;rw[Jy rfl];exact⟨_,rfl⟩
  ·rw[Ju z];exact⟨d,hd⟩
 ·by_cases z':b=ad i
  ·subst z';exact⟨_,ax⟩
  ·rw[ao z'];exact l.fY b z
 ·have ne:b≠ad i:=by
   rintro rfl;rcases k0.2.2.2 with z|z
   ·exact n i z
   ·rw[z] at e';cases e'
  rw[ao ne];exact l.old b o e' n
 ·obtain⟨g1,g2,g3⟩:=l.gh a ws ga;refine⟨by rw[ao (fun z=>g3 i s c e hb z.symm)];exact g1,g2,fun j s' d e' b'=>?_⟩
  rw[get] at e';by_cases z:j=i
  ·subst z;exact g3 j s c e hb
  ·rw[Ju z] at e';exact g3 j s' d e' b'
theorem Rl.Bz{t:T}(l:Rl F ad B σ H μ)(hp:∀ c,μ[i]?≠some (.pb c))(h:Rep F.K H B v t):Rl F ad B (σ.set i (some v)) H (μ.set i (.tr t)):=by
 have get:∀ j,i<μ.length->(μ.set i (.tr t))[j]?=if j=i then some (.tr t) else μ[j]?:=fun j hi=>by
  rw[Mb];by_cases z:i=j
  ·subst z;simp[hi]
  ·rw[Ju z,Ju (fun q=>z q.symm)]
 by_cases hi:i<μ.length
 ·refine⟨by rw[Ko,Ko];exact l.len,fun j s' e'=>?_,fun j k s1 s2 c1 c2 e1 e2 b1 b2 q=>?_,fun j a p=>?_,l.bc,l.fY,l.old,fun a ws ga=>?_⟩
  ·rw[get j hi] at e';by_cases z:j=i
   ·subst z;rw[Jy rfl] at e';cases e';exact⟨v,by rw[Kb (by rw[<- l.len];exact hi)],h⟩
   ·rw[Ju z] at e';rw[Kg (Ne.symm z)];exact l.slot j s' e'
  ·rw[get j hi] at e1;rw[get k hi] at e2;by_cases z:j=i
   ·rw[Jy z] at e1;cases e1;cases b1
   ·by_cases z2:k=i
    ·rw[Jy z2] at e2;cases e2;cases b2
    ·rw[Ju z] at e1;rw[Ju z2] at e2;exact l.inj j k _ _ _ _ e1 e2 b1 b2 q
  ·obtain⟨⟨d,hd⟩,ha⟩:=l.par j a p;refine⟨⟨d,?_⟩,ha⟩;rw[get j hi];by_cases z:j=i
   ·subst z;exact absurd hd (hp d)
   ·rw[Ju z];exact hd
  ·obtain⟨g1,g2,g3⟩:=l.gh a ws ga;refine⟨g1,g2,fun j s' d e' b'=>?_⟩;rw[get j hi] at e';by_cases z:j=i
   ·rw[Jy z] at e';cases e';cases b'
   ·rw[Ju z] at e';exact g3 j s' d e' b'
 ·have hs:σ.length<=i:=by rw[<- l.len];lia
  rw[Lz (show μ.length<=i by lia),Lz hs]
  exact l
theorem Rl.setB(l:Rl F ad (more B a) σ H μ)(hp:∀ c,μ[i]?≠some (.pb c))(h0:F.H0 a=none)(n:¬ B a)(own:∀ j s c,μ[j]?=some s->s.box=some c->B (ad j))(gB:∀ b vs,F.G b=some vs->B b)(x:Bx F.K H (more B a) a c):
  Rl F (fun j=>if j=i then a else ad j) (more B a) (σ.set i (some (.ref a))) H (μ.set i (.bx c)):=by
 have get:∀ j,i<μ.length->(μ.set i (.bx c))[j]?=if j=i then some (.bx c) else μ[j]?:=fun j hi=>by
  rw[Mb];by_cases z:i=j
  ·subst z;simp[hi]
  ·rw[Ju z,Ju (fun q=>z q.symm)]
 have pi:F.P i=none:=by
  cases q:F.P i with
  |none=>rfl
  |some b =>
   obtain⟨⟨d,hd⟩,_⟩:=l.par i b q;exact absurd hd (hp d)
 by_cases hi:i<μ.length
 ·refine⟨by rw[Ko,Ko];exact l.len,fun j s' e'=>?_,fun j k s1 s2 c1 c2 e1 e2 b1 b2 q=>?_,fun j a' p=>?_,l.bc,l.fY,l.old,fun b ws ga=>?_⟩
  ·rw[get j hi] at e';by_cases z:j=i
   ·subst z;rw[Jy rfl] at e';cases e';show _/\_;simp only[Jy];exact⟨by rw[Kb (by rw[<- l.len];exact hi)],.inl rfl,h0,pi,x⟩
   ·rw[Ju z] at e';rw[Kg (Ne.symm z)];have k:=l.slot j s' e';unfold iO at k ⊢;simp only[Ju z];exact k
  ·rw[get j hi] at e1;rw[get k hi] at e2;by_cases z:j=i
   ·by_cases z2:k=i
    ·rw[z,z2]
    ·rw[Jy z,Ju z2] at q;rw[Ju z2] at e2;exact absurd (own k _ _ e2 b2) (by rw[<- q];exact n)
   ·by_cases z2:k=i
    ·rw[Jy z2,Ju z] at q;rw[Ju z] at e1;exact absurd (own j _ _ e1 b1) (by rw[q];exact n)
    ·rw[Ju z] at e1;rw[Ju z2] at e2;rw[Ju z,Ju z2] at q;exact l.inj j k _ _ _ _ e1 e2 b1 b2 q
  ·obtain⟨⟨d,hd⟩,ha⟩:=l.par j a' p;have z:j≠i:=by rintro rfl;exact hp d hd
   rw[get j hi,Ju z];exact⟨⟨d,hd⟩,by simp only[Ju z];exact ha⟩
  ·obtain⟨g1,g2,g3⟩:=l.gh b ws ga;refine⟨g1,g2,fun j s' d e' b'=>?_⟩;rw[get j hi] at e';by_cases z:j=i
   ·simp only[Jy z];rintro rfl;exact n (gB _ ws ga)
   ·rw[Ju z] at e';simp only[Ju z];exact g3 j s' d e' b'
 ·have hs:σ.length<=i:=by rw[<- l.len];lia
  rw[Lz (show μ.length<=i by lia),Lz hs]
  have ne:∀ j s,μ[j]?=some s->j≠i:=fun j s e q=>by
   have:=(Jz.mp e).1;lia
  refine⟨l.len,fun j s' e'=>?_,fun j k s1 s2 c1 c2 e1 e2 b1 b2 q=>?_,fun j a' p=>?_,l.bc,l.fY,l.old,fun b ws ga=>?_⟩
  ·have k:=l.slot j s' e';unfold iO at k ⊢;simp only[Ju (ne j s' e')];exact k
  ·simp only[Ju (ne j _ e1),Ju (ne k _ e2)] at q;exact l.inj j k _ _ _ _ e1 e2 b1 b2 q
  ·obtain⟨⟨d,hd⟩,ha⟩:=l.par j a' p;exact⟨⟨d,hd⟩,by simp only[Ju (ne j _ hd)];exact ha⟩
  ·obtain⟨g1,g2,g3⟩:=l.gh b ws ga;refine⟨g1,g2,fun j s' d e' b'=>?_⟩;simp only[Ju (ne j _ e')];exact g3 j s' d e' b'
theorem Rl.gB(l:Rl F ad B σ H μ):∀ b vs,F.G b=some vs->B b:=fun b vs e=>(l.gh b vs e).2.1
theorem Rl.own(l:Rl F ad B σ H μ):∀ j s c,μ[j]?=some s->s.box=some c->B (ad j):=fun j s c e b=>((l.slot j s e).boxed b).2.1
theorem Rl.freeze(l:Rl F ad B σ H μ)(e:μ[i]?=some (.bx c))(hc:¬ F.Bc (ad i)):Rl F ad (fun b=>B b/\b≠ad i) σ H (μ.set i (.tr c))/\Rep F.K H (fun b=>B b/\b≠ad i) (.ref (ad i)) c:=by
 have k0:=l.slot i _ e;have hi:i<μ.length:=(Jz.mp e).1;have rp:Rep F.K H (fun b=>B b/\b≠ad i) (.ref (ad i)) c:=((k0.2.2.2.2).of rfl (Fr.less fun _ z=>z.1)).rep (fun z=>z.2 rfl);have get:∀ j,(μ.set i (.tr c))[j]?=if j=i then some (.tr c) else μ[j]?:=fun j=>by
  rw[Mb];by_cases z:i=j
  ·subst z;simp[hi]
  ·rw[Ju z,Ju (fun q=>z q.symm)]
 have pi:F.P i=none:=k0.2.2.2.1;refine⟨⟨by rw[Ko];exact l.len,fun j s' e'=>?_,fun j k s1 s2 c1 c2 e1 e2 b1 b2 q=>?_,fun j a p=>?_,fun b z=>⟨l.bc b z,by rintro rfl;exact hc z⟩,fun b z=>l.fY b z.1,l.old,fun a ws ga=>?_⟩,rp⟩
 ·rw[get] at e';by_cases z:j=i
  ·subst z;rw[Jy rfl] at e';cases e';exact⟨_,k0.1,rp⟩
  ·rw[Ju z] at e';have k:=l.slot j s' e';have ne:∀ d,s'.box=some d->ad j≠ad i:=fun d hd q=>z (l.inj j i s' _ d c e' e hd rfl q);unfold iO at k ⊢
   split at k
   ·trivial
   ·obtain⟨v,e1,r1⟩:=k;exact⟨v,e1,r1.fr (Fr.less fun _ z=>z.1)⟩
   ·obtain⟨e1,b,z0,p,x⟩:=k;exact⟨e1,⟨b,ne _ rfl⟩,z0,p,x.of rfl (Fr.less fun _ z=>z.1)⟩
   ·obtain⟨e1,b,p,x⟩:=k;exact⟨e1,⟨b,ne _ rfl⟩,p,x.of rfl (Fr.less fun _ z=>z.1)⟩
 ·rw[get] at e1 e2;by_cases z:j=i
  ·rw[Jy z] at e1;cases e1;cases b1
  ·by_cases z2:k=i
   ·rw[Jy z2] at e2;cases e2;cases b2
   ·rw[Ju z] at e1;rw[Ju z2] at e2;exact l.inj j k _ _ _ _ e1 e2 b1 b2 q
 ·obtain⟨⟨d,hd⟩,ha⟩:=l.par j a p;refine⟨⟨d,?_⟩,ha⟩;rw[get];by_cases z:j=i
  ·subst z;rw[pi] at p;cases p
  ·rw[Ju z];exact hd
 ·obtain⟨g1,g2,g3⟩:=l.gh a ws ga;refine⟨g1,⟨g2,(g3 i _ c e rfl).symm⟩,fun j s' d e' b'=>?_⟩;rw[get] at e';by_cases z:j=i
  ·rw[Jy z] at e';cases e';cases b'
  ·rw[Ju z] at e';exact g3 j s' d e' b'
end
abbrev UE:=Mu->(R->Mu->Prop)->Prop
variable{ue:UE}
abbrev UT:=Mu->(Bool->Mu->Prop)->Prop
abbrev UA:=Mu->(List R->Mu->Prop)->Prop
variable{us:UA}
abbrev UO:=Mu->(Option Int->Mu->Prop)->Prop
abbrev U2:=R->R->Mu->(R->Mu->Prop)->Prop
variable{u:U2}
abbrev UC:=List R->Mu->(R->Mu->Prop)->Prop
structure Ed where
 nx:Mu->Prop
 rt:R->Mu->Prop
 bk:Mu->Prop:=fun _=>False
 ct:Mu->Prop:=fun _=>False
abbrev US:=Ed->Mu->Prop
noncomputable def Bv(B:bo)(v:V):R->bo
 |.fr _=>(match v with|.ref a=>more B a|_=>B)
 |_=>B
theorem Fr.d{v:V}{r:R}(f:Fr B H (Bv B v r) H'):Fr B H B H':=fun b o h n=>⟨(f b o h n).1,n⟩
noncomputable def RE(K:Oi)(te:TE)(ue:UE):Prop:=∀(F:Fx) (ad:Nat->Addr) (B:bo) (σ:St) (H:Hp) (μ:Mu) (Q:VK) (Qt:R->Mu->Prop),F.K=K->Rl F ad B σ H μ->ue μ Qt ->
 (∀ v H' r μ',Vr F ad B σ H' μ' v r->Fr B H (Bv B v r) H'->Kp μ μ'->Qt r μ'->Q v H')->te σ H Q
noncomputable def RT(K:Oi)(tt:TT)(ut:UT):Prop:=∀(F:Fx) (ad:Nat->Addr) (B:bo) (σ:St) (H:Hp) (μ:Mu) (Q:Bool->Hp->Prop) (Qt:Bool->Mu->Prop),F.K=K->Rl F ad B σ H μ->ut μ Qt ->
 (∀ b H' μ',Rl F ad B σ H' μ'->Fr B H B H'->Kp μ μ'->Qt b μ'->Q b H')->tt σ H Q
noncomputable def RA(K:Oi)(ta:TA)(ua:UA):Prop:=∀(F:Fx) (ad:Nat->Addr) (B:bo) (σ:St) (H:Hp) (μ:Mu) (Q:List V->Hp->Prop) (Qt:List R->Mu->Prop),F.K=K->Rl F ad B σ H μ->ua μ Qt ->
 (∀ vs H' rs μ',Rl F ad B σ H' μ'->Paired (Hv F ad B H' μ') vs rs->Fr B H B H'->Kp μ μ'->Qt rs μ'->Q vs H')->ta σ H Q
noncomputable def RO(K:Oi)(tt:TO)(ut:UO):Prop:=∀(F:Fx) (ad:Nat->Addr) (B:bo) (σ:St) (H:Hp) (μ:Mu) (Q:Option Int->Hp->Prop) (Qt:Option Int->Mu->Prop),F.K=K->Rl F ad B σ H μ->ut μ Qt ->
 (∀ b H' μ',Rl F ad B σ H' μ'->Fr B H B H'->Kp μ μ'->Qt b μ'->Q b H')->tt σ H Q
noncomputable def gL(K:Oi)(r:R2)(u:U2):Prop:=∀(F:Fx) (ad:Nat->Addr) (B:bo) (σ:St) (H:Hp) (μ:Mu) (Q:VK) (Qt:R->Mu->Prop) (x y:V) (r1 r2:R),F.K=K->Rl F ad B σ H μ->Hv F ad B H μ x r1->Hv F ad B H μ y r2->u r1 r2 μ Qt ->
 (∀ v H' r μ',Vr F ad B σ H' μ' v r->Fr B H (Bv B v r) H'->Kp μ μ'->Qt r μ'->Q v H')->r x y H Q
noncomputable def RC(K:Oi)(r:List V->Hp->VK->Prop)(u:UC):Prop:=∀(F:Fx) (ad:Nat->Addr) (B:bo) (σ:St) (H:Hp) (μ:Mu) (Q:VK) (Qt:R->Mu->Prop) (xs:List V) (rs:List R),F.K=K->Rl F ad B σ H μ->Paired (Hv F ad B H μ) xs rs->u rs μ Qt ->
 (∀ v H' r μ',Vr F ad B σ H' μ' v r->Fr B H (Bv B v r) H'->Kp μ μ'->Qt r μ'->Q v H')->r xs H Q
section
variable {F:Fx} {ad:Nat->Addr} {B:bo} {σ:St} {H:Hp} {μ:Mu} {Q:VK} {Qt:R->Mu->Prop}
theorem Vr.flat{v:V}{t:T}(l:Rl F ad B σ H μ)(r:Rep F.K H B v t):Vr F ad B σ H μ v (.tr t):=⟨l,r⟩
theorem Vr.m9(l:Rl F ad B σ H μ)(r:au F.K H B vs ts)(e:H p=none):Vr F ad B σ (upd H p (.lst vs)) μ (.ref p) (.fr (.lst ts)):=
 ⟨l.same (cu.new e),p,rfl,l.kh e,l.yK e,l.new e,vs,ax,r.fr (Fr.more e)⟩
theorem Vr.si(l:Rl F ad B σ H μ)(r:au F.K H B vs ts)(e:H p=none):Vr F ad B σ (upd H p (.tup vs)) μ (.ref p) (.tr (.tup ts)):=
 ⟨l.same (cu.new e),.tup (l.kh e) ax (r.fr (Fr.same (cu.new e)))⟩
end
structure YE (X:Cx) (e:Expr) (u:UE):Prop where
 ex:∃ t,QE X e t/\RE X.K t u
structure YT (X:Cx) (e:Expr) (u:UT):Prop where
 ex:∃ t,QT X e t/\RT X.K t u
structure YW (X:Cx) (e:Expr) (u:UT):Prop where
 ex:∃ t,QW X e t/\RT X.K t u
structure YA (X:Cx) (es:List Expr) (u:UA):Prop where
 ex:∃ t,QA X es t/\RA X.K t u
structure YO (X:Cx) (e:Option Expr) (u:UO):Prop where
 ex:∃ t,QO X e t/\RO X.K t u
structure Bd (X:Cx) (es:List Expr) (u:UT):Prop where
 ex:∃ t,DS X es t/\RT X.K t u
namespace Y
def uC(t:T):UE:=fun μ Q=>Q (.tr t) μ
noncomputable def lP(i:Nat):UE:=fun μ Q=>match μ[i]? with
 |some (.tr t)=>Q (.tr t) μ
 |some (.bx _)=>Q (.br i) μ
 |some (.pb _)=>Q (.br i) μ
 |_=>False
noncomputable def ur(u:U2)(ua ub:UE):UE:=fun μ Q=>ua μ fun r1 μ1=>ub μ1 fun r2 μ2=>u r1.d r2.d μ2 Q
section
variable {X:Cx} {a b c e o:Expr} {es rest:List Expr} {ua ub uc ue uo:UE} {uA uB:UT} {us:UA} {pos p p2:Pos} {x:Str}
theorem xD{v:V}{t:T}(h:∀ H B,Rep K H B v t):RE K (tC v) (uC t):=fun F ad B σ H μ Q Qt hK l q k=>k v H (.tr t) μ ⟨l,show Rep F.K H B v t from hK ▸ h H B⟩ Fr.refl (Kp.refl μ) q
theorem int{i:Int}:YE X (.Constant (.int i) j pos) (uC (.int i)):=⟨_,Z.int,xD fun _ _=>.int i⟩
theorem bl{i:Bool}:YE X (.Constant (.bool i) j pos) (uC (.bl i)):=⟨_,Z.bl,xD fun _ _=>.bl i⟩
theorem aJ:YE X (.Constant .none j pos) (uC .aJ):=⟨_,Z.aJ,xD fun _ _=>.aJ⟩
theorem str{i:Str}:YE X (.Constant (.str i) j pos) (uC (.str i)):=⟨_,Z.str,xD fun _ _=>.str i⟩
theorem v(i:Nat)(hN:autoParam (X.N[i]?=some x) ℜ0)(hv:autoParam (B5 X.env.scope x) ℜ4)(hd:autoParam ((x ==("__debug__":Str))=false) ℜ1)
  (hcd:autoParam ((x ==("__classdict__":Str))=false) ℜ1):YE X (.Name x pos) (lP i):=by
 refine⟨_,Z.v i hN hv hd hcd,fun F ad B σ H μ Q Qt hK l q k=>?_⟩;unfold lP at q
 split at q
 ·rename_i t e;obtain⟨v,e1,r⟩:=l.slot i _ e;exact⟨v,e1,k v H (.tr t) μ ⟨l,r⟩ Fr.refl (Kp.refl μ) q⟩
 ·rename_i t e;have r:=l.slot i _ e;exact⟨_,r.1,k _ H (.br i) μ ⟨l,rfl,_,_,e,rfl⟩ Fr.refl (Kp.refl μ) q⟩
 ·rename_i t e;have r:=l.slot i _ e;exact⟨_,r.1,k _ H (.br i) μ ⟨l,rfl,_,_,e,rfl⟩ Fr.refl (Kp.refl μ) q⟩
 ·exact q.elim
theorem glob{w:V}{u:Value}{t:T}(hg:Gl X x)(hm:X.mg x=some u)(r:RelV w u)(h:∀ H B,Rep X.K H B w t)(hd:autoParam ((x ==("__debug__":Str))=false) ℜ1):YE X (.Name x pos) (uC t):=⟨_,Z.glob hg hm r hd,xD h⟩
theorem rR{r:R2}{ta tb:TE}(h:gL K r u)(ha:RE K ta ua)(hb:RE K tb ub):RE K (zJ r ta tb) (ur u ua ub):=fun F ad B σ H μ Q Qt hK l q k =>
 ha F ad B σ H μ _ _ hK l q fun x H1 r1 μ1 v1 f1 k1 q1=>hb F ad B σ H1 μ1 _ _ hK v1.rl q1 fun y H2 r2 μ2 v2 f2 k2 q2 =>
  h F ad B σ H2 μ2 _ _ x y r1.d r2.d hK v2.rl (v1.hv.fr f2.d k2) v2.hv q2 fun v H' r μ' v3 f3 k3 q3=>k v H' r μ' v3 ((f1.d.trans f2.d).trans f3) ((k1.trans k2).trans k3) q3
theorem op{o:Operator}{r:R2}(ho:dm X (binaryOp o) r)(h:gL X.K r u)(ha:YE X a ua)(hb:YE X b ub):YE X (.BinOp a o b pos) (ur u ua ub):=by
 obtain⟨ta,qa,ra⟩:=ha;obtain⟨tb,qb,rb⟩:=hb;exact⟨_,Z.op ho qa qb,rR h ra rb⟩
theorem cmp{o:CmpOp}{r:R2}(ho:dm X (compareOp o) r)(h:gL X.K r u)(ha:YE X a ua)(hb:YE X b ub)(hm:autoParam (behindInMarks o b=false) ℜ0):YE X (.Compare a [o] [b] pos) (ur u ua ub):=by
 obtain⟨ta,qa,ra⟩:=ha;obtain⟨tb,qb,rb⟩:=hb;exact⟨_,Z.cmp ho qa qb hm,rR h ra rb⟩
theorem ix{r:R2}(hr:tO X r)(h:gL X.K r u)(ha:YE X a ua)(hb:YE X b ub)(hs:autoParam (Z.sim b=true) ℜ0):YE X (.Subscript a b pos) (ur u ua ub):=by
 obtain⟨ta,qa,ra⟩:=ha;obtain⟨tb,qb,rb⟩:=hb;exact⟨_,Z.ix hr qa qb hs,rR h ra rb⟩
noncomputable def kq(ue:UE):UT:=fun μ Q=>ue μ fun r μ'=>match r with
 |.tr (.bl b)=>Q b μ'
 |_=>False
theorem ym{t:TE}(h:RE K t ue):RT K (uH t) (kq ue):=fun F ad B σ H μ Q Qt hK l q k =>
 h F ad B σ H μ _ _ hK l q fun v H' r μ' v1 f k1 q1=>by
  split at q1
  ·rename_i b;have rp:=v1.2;cases rp;exact⟨b,rfl,k b H' μ' v1.rl f.d k1 q1⟩
  ·exact q1.elim
theorem cg{o:CmpOp}{r:R2}(ho:dm X (compareOp o) r)(h:gL X.K r u)(ha:YE X a ua)(hb:YE X b ub)(hm:autoParam (behindInMarks o b=false) ℜ0):YT X (.Compare a [o] [b] pos) (kq (ur u ua ub)):=by
 obtain⟨ta,qa,ra⟩:=ha;obtain⟨tb,qb,rb⟩:=hb;exact⟨_,Z.cg ho qa qb hm,ym (rR h ra rb)⟩
noncomputable def jw(u u':U2)(ua ub uc:UE):UE:=fun μ Q=>ua μ fun r1 μ1=>ub μ1 fun r2 μ2=>u r1.d r2.d μ2 fun z μ3=>match z with
 |.tr (.bl true)=>uc μ3 fun r3 μ4=>u' r2.d r3.d μ4 Q
 |.tr (.bl false)=>Q (.tr (.bl false)) μ3
 |_=>False
theorem wL{r:R2}{u':U2}{ta tb tc:TE}(h:gL K r u)(h':gL K r' u')(ha:RE K ta ua)(hb:RE K tb ub)(hc:RE K tc uc):RE K (pj r r' ta tb tc) (jw u u' ua ub uc):=fun F ad B σ H μ Q Qt hK l q k =>
 ha F ad B σ H μ _ _ hK l q fun x H1 r1 μ1 v1 f1 k1 q1=>hb F ad B σ H1 μ1 _ _ hK v1.rl q1 fun y H2 r2 μ2 v2 f2 k2 q2 =>
  h F ad B σ H2 μ2 _ _ x y r1.d r2.d hK v2.rl (v1.hv.fr f2.d k2) v2.hv q2 fun v H3 r3 μ3 v3 f3 k3 q3=>by
   split at q3
   ·have rp:=v3.2;cases rp;refine⟨true,rfl,?_⟩;rw[Jy rfl];exact hc F ad B σ H3 μ3 _ _ hK v3.rl q3 fun w' H4 r4 μ4 v4 f4 k4 q4=>h' F ad B σ H4 μ4 _ _ y w' r2.d r4.d hK v4.rl (v2.hv.fr (f3.d.trans f4.d) (k3.trans k4)) v4.hv q4 fun v5 H5 r5 μ5 v6 f5 k5 q5 =>
     k v5 H5 r5 μ5 v6 ((((f1.d.trans f2.d).trans f3.d).trans f4.d).trans f5) ((((k1.trans k2).trans k3).trans k4).trans k5) q5
   ·have rp:=v3.2;cases rp;refine⟨false,rfl,?_⟩;rw[Ju Jw];exact k _ H3 _ μ3 (Vr.flat v3.rl (.bl false)) ((f1.d.trans f2.d).trans f3.d) ((k1.trans k2).trans k3) q3
   ·exact q3.elim
theorem chain{o o':CmpOp}{r:R2}{u':U2}(ho:dm X (compareOp o) r)(h:gL X.K r u)(ho':dm X (compareOp o') r')(h':gL X.K r' u')(ha:YE X a ua)(hb:YE X b ub)(hc:YE X c uc)(hm:autoParam (lastMarks [o,o'] [b,c]=false) ℜ5):YE X (.Compare a [o,o'] [b,c] pos) (jw u u' ua ub uc):=by
 obtain⟨ta,qa,ra⟩:=ha;obtain⟨tb,qb,rb⟩:=hb;obtain⟨tc,qc,rc⟩:=hc;exact⟨_,Z.chain ho ho' qa qb qc hm,wL h h' ra rb rc⟩
noncomputable def yB(ut:UT):UT:=fun μ Q=>ut μ fun b μ'=>Q (!b) μ'
theorem mx(ha:YT X a uA):YT X (.UnaryOp .Not a pos) (yB uA):=by
 obtain⟨ta,qa,ra⟩:=ha;exact⟨_,Z.mx qa,fun F ad B σ H μ Q Qt hK l q k=>ra F ad B σ H μ _ _ hK l q fun b H' μ' l' f k1 q1=>k _ H' μ' l' f k1 q1⟩
theorem tw(h:YW X e uA):YT X e uA:=by
 obtain⟨t,q,r⟩:=h;exact⟨t,Z.tw q,r⟩
theorem oy(ha:YT X a uA):YW X (.BoolOp .And [a] pos) uA:=by obtain⟨t,q,r⟩:=ha;exact⟨t,Z.oy q,r⟩
theorem yz(ha:YT X a uA):YW X (.BoolOp .Or [a] pos) uA:=by obtain⟨t,q,r⟩:=ha;exact⟨t,Z.yz q,r⟩
noncomputable def v_(u w:UT):UT:=fun μ Q=>u μ fun b μ'=>if b=true then w μ' Q else Q false μ'
noncomputable def EK(u w:UT):UT:=fun μ Q=>u μ fun b μ'=>if b=true then Q true μ' else w μ' Q
theorem Dl{t u:TT}(ha:RT K t uA)(hb:RT K u uB):RT K (Ce t u) (v_ uA uB):=fun F ad B σ H μ Q Qt hK l q k=>ha F ad B σ H μ _ _ hK l q fun b H' μ' l' f k1 q1=>by
 cases b with
 |true=>rw[Jy rfl] at q1 ⊢;exact hb F ad B σ H' μ' _ _ hK l' q1 fun b2 H2 μ2 l2 f2 k2 q2=>k b2 H2 μ2 l2 (f.trans f2) (k1.trans k2) q2
 |false=>rw[Ju Jw] at q1 ⊢;exact k _ H' μ' l' f k1 q1
theorem FT{t u:TT}(ha:RT K t uA)(hb:RT K u uB):RT K (Hr t u) (EK uA uB):=fun F ad B σ H μ Q Qt hK l q k=>ha F ad B σ H μ _ _ hK l q fun b H' μ' l' f k1 q1=>by
 cases b with
 |false=>rw[Ju Jw] at q1 ⊢;exact hb F ad B σ H' μ' _ _ hK l' q1 fun b2 H2 μ2 l2 f2 k2 q2=>k b2 H2 μ2 l2 (f.trans f2) (k1.trans k2) q2
 |true=>rw[Jy rfl] at q1 ⊢;exact k _ H' μ' l' f k1 q1
theorem vg(ha:YT X a uA)(hb:YW X (.BoolOp .And (b::rest) pos) uB):YW X (.BoolOp .And (a::b::rest) pos) (v_ uA uB):=by
 obtain⟨t,q,r⟩:=ha;obtain⟨t',q',r'⟩:=hb;exact⟨_,Z.vg q q',Dl r r'⟩
theorem Eb(ha:YT X a uA)(hb:YW X (.BoolOp .Or (b::rest) pos) uB):YW X (.BoolOp .Or (a::b::rest) pos) (EK uA uB):=by
 obtain⟨t,q,r⟩:=ha;obtain⟨t',q',r'⟩:=hb;exact⟨_,Z.Eb q q',FT r r'⟩
noncomputable def n8(ue:UE):UT:=fun μ Q=>ue μ fun r μ'=>match r with
 |.tr (.bl b)=>Q b μ'
 |.tr (.int i)=>Q (i != 0) μ'
 |_=>False
theorem Cv(K:Oi)(hK:X.K=K)(ha:YE X a ua)(he:autoParam (Z.G6 a=true) ℜ0):YT X a (n8 ua):=by
 obtain⟨t,q,r⟩:=ha;refine⟨_,Z.Cv K hK q he,fun F ad B σ H μ Q Qt hK l q k=>r F ad B σ H μ _ _ hK l q fun v H' r1 μ' v1 f k1 q1=>?_⟩
 split at q1
 ·have rp:=v1.2;cases rp;exact⟨_,(Ap.He ..).symm ▸ rfl,k _ H' μ' v1.rl f.d k1 q1⟩
 ·have rp:=v1.2;cases rp;exact⟨_,(Ap.Ig ..).symm ▸ rfl,k _ H' μ' v1.rl f.d k1 q1⟩
 ·exact q1.elim
noncomputable def qV(ua ub:UE):UE:=fun μ Q=>ua μ fun r μ'=>match r with
 |.tr (.bl true)=>ub μ' Q
 |.tr (.bl false)=>Q (.tr (.bl false)) μ'
 |_=>False
theorem and(ha:YE X a ua)(hb:YE X (.BoolOp .And (b::rest) pos) ub):YE X (.BoolOp .And (a::b::rest) pos) (qV ua ub):=by
 obtain⟨t,q,r⟩:=ha;obtain⟨t',q',r'⟩:=hb;refine⟨_,Z.and q q',fun F ad B σ H μ Q Qt hK l q k=>r F ad B σ H μ _ _ hK l q fun v H' r1 μ' v1 f k1 q1=>?_⟩
 split at q1
 ·have rp:=v1.2;cases rp;refine⟨_,rfl,?_⟩;rw[Jy rfl];exact r' F ad B σ H' μ' _ _ hK v1.rl q1 fun v2 H2 r2 μ2 v3 f2 k2 q2=>k v2 H2 r2 μ2 v3 (f.d.trans f2) (k1.trans k2) q2
 ·have rp:=v1.2;cases rp;refine⟨_,rfl,?_⟩;rw[Ju Jw];exact k _ H' _ μ' (Vr.flat v1.rl (.bl _)) f.d k1 q1
 ·exact q1.elim
theorem one{o:BoolOp}(ha:YE X a ua):YE X (.BoolOp o [a] pos) ua:=by obtain⟨t,q,r⟩:=ha;exact⟨t,Z.one q,r⟩
noncomputable def EY(uc:UT)(ua ub:UE):UE:=fun μ Q=>uc μ fun b μ'=>if b=true then ua μ' Q else ub μ' Q
theorem AL(hc:YT X c uA)(ha:YE X a ua)(hb:YE X b ub):YE X (.IfExp c a b pos) (EY uA ua ub):=by
 obtain⟨tc,qc,rc⟩:=hc;obtain⟨t,q,r⟩:=ha;obtain⟨t',q',r'⟩:=hb;refine⟨_,Z.AL qc q q',fun F ad B σ H μ Q Qt hK l q k=>rc F ad B σ H μ _ _ hK l q fun b H' μ' l1 f k1 q1=>?_⟩
 cases b with
 |true=>rw[Jy rfl] at q1 ⊢;exact r F ad B σ H' μ' _ _ hK l1 q1 fun v2 H2 r2 μ2 v3 f2 k2 q2=>k v2 H2 r2 μ2 v3 (f.trans f2) (k1.trans k2) q2
 |false=>rw[Ju Jw] at q1 ⊢;exact r' F ad B σ H' μ' _ _ hK l1 q1 fun v2 H2 r2 μ2 v3 f2 k2 q2=>k v2 H2 r2 μ2 v3 (f.trans f2) (k1.trans k2) q2
noncomputable def wF(ue:UE):UE:=fun μ Q=>ue μ fun r μ'=>match r with
 |.tr (.int i)=>Q (.tr (.int (-i))) μ'
 |_=>False
theorem neg(ha:YE X a ua):YE X (.UnaryOp .USub a pos) (wF ua):=by
 obtain⟨t,q,r⟩:=ha;refine⟨_,Z.un DF q,fun F ad B σ H μ Q Qt hK l q k=>r F ad B σ H μ _ _ hK l q fun v H' r1 μ' v1 f k1 q1=>?_⟩
 split at q1
 ·have rp:=v1.2;cases rp;exact⟨_,rfl,k _ H' _ μ' (Vr.flat v1.rl (.int _)) f.d k1 q1⟩
 ·exact q1.elim
def tU:UA:=fun μ Q=>Q [] μ
noncomputable def nL(ue:UE)(us:UA):UA:=fun μ Q=>ue μ fun r μ1=>us μ1 fun rs μ2=>Q (r.d::rs) μ2
noncomputable def uK(ts:List T):UA:=fun μ Q=>Q (ts.map R.tr) μ
theorem nil:YA X [] tU:=⟨_,Z.nil,fun F ad B σ H μ Q Qt hK l q k=>k [] H [] μ l .nil Fr.refl (Kp.refl μ) q⟩
theorem cons(ha:YE X e ue)(hr:YA X es us)(h:autoParam (dq e=true) ℜ0):YA X (e::es) (nL ue us):=by
 obtain⟨t,q,r⟩:=ha;obtain⟨t',q',r'⟩:=hr;exact⟨_,Z.cons q q' h,fun F ad B σ H μ Q Qt hK l q k=>r F ad B σ H μ _ _ hK l q fun v H' r1 μ' v1 f k1 q1=>r' F ad B σ H' μ' _ _ hK v1.rl q1 fun vs H2 rs μ2 l2 ps f2 k2 q2 =>
  k (v::vs) H2 (r1.d::rs) μ2 l2 (.cons (v1.hv.fr f2 k2) ps) (f.d.trans f2) (k1.trans k2) q2⟩
noncomputable def xI:V->Option T
 |.aJ=>some .aJ
 |.bl b=>some (.bl b)
 |.int i=>some (.int i)
 |.str x=>some (.str x)
 |_=>none
theorem xU{v:V}{t:T}(h:xI v=some t):Rep K H B v t:=by
 unfold xI at h
 split at h
 ·cases h;exact .aJ
 ·cases h;exact .bl _
 ·cases h;exact .int _
 ·cases h;exact .str _
 ·cases h
theorem consts(h:lj es=some vs)(h2:vs.map xI=ts.map some):YA X es (uK ts):=by
 refine⟨_,Z.consts h,fun F ad B σ H μ Q Qt hK l q k=>k vs H _ μ l ?_ Fr.refl (Kp.refl μ) q⟩;clear h q k
 induction vs generalizing ts with
 |nil=>cases ts with
  |nil=>exact .nil
  |cons t ts=>cases h2
 |cons v vs ih=>cases ts with
  |nil=>cases h2
  |cons t ts =>
   rw[Kc,Kc] at h2
   injection h2 with e1 e2
   exact .cons (xU e1) (ih e2)
noncomputable def trees:List R->Option (List T)
 |[]=>some []
 |.tr t::rs=>(trees rs).map (t::·)
 |_=>none
theorem m8:∀{vs:List V} {rs:List R} {ts:List T},Paired (Hv F ad B H μ) vs rs->trees rs=some ts->au F.K H B vs ts
 |_,_,_,.nil,e=>by cases e;exact .nil
 |_,r::rs,ts,.cons h p,e=>by
  cases r with
  |tr t =>
   unfold trees at e
   cases q:trees rs with
   |none=>rw[q] at e;cases e
   |some us=>rw[q] at e;cases e;exact .cons h (m8 p q)
  |br i=>cases e
  |fr c=>cases e
noncomputable def y3(us:UA):UE:=fun μ Q=>us μ fun rs μ'=>match trees rs with
 |some ts=>ts.length<=sizeLine/\Q (.tr (.tup ts)) μ'
 |none=>False
noncomputable def zD(us:UA):UE:=fun μ Q=>us μ fun rs μ'=>match trees rs with
 |some ts=>ts.length<=sizeLine/\Q (.fr (.lst ts)) μ'
 |none=>False
theorem tup(h:YA X es us):YE X (.Tuple es k pos) (y3 us):=by
 obtain⟨t,q,r⟩:=h;refine⟨_,Z.tup q,fun F ad B σ H μ Q Qt hK l q k=>r F ad B σ H μ _ _ hK l q fun vs H' rs μ' l1 ps f k1 q1=>?_⟩
 split at q1
 ·rename_i ts e;have rp:=m8 ps e;exact⟨by rw[rp.length];exact q1.1,fun p hp=>k _ _ _ μ' (Vr.si l1 rp hp) (f.trans (Fr.same (cu.new hp))) k1 q1.2⟩
 ·exact q1.elim
theorem lst(h:YA X es us):YE X (.List es pos) (zD us):=by
 obtain⟨t,q,r⟩:=h;refine⟨_,Z.lst q,fun F ad B σ H μ Q Qt hK l q k=>r F ad B σ H μ _ _ hK l q fun vs H' rs μ' l1 ps f k1 q1=>?_⟩
 split at q1
 ·rename_i ts e;have rp:=m8 ps e;exact⟨by rw[rp.length];exact q1.1,fun p hp=>k _ _ _ μ' (Vr.m9 l1 rp hp) (f.trans (Fr.more hp)) k1 q1.2⟩
 ·exact q1.elim
noncomputable def DU(u:UC)(us:UA):UE:=fun μ Q=>us μ fun rs μ'=>u rs μ' Q
theorem A9{u:UC}{t:TA}(h:RC K r u)(ha:RA K t us):RE K (Bi r t) (DU u us):=fun F ad B σ H μ Q Qt hK l q k =>
 ha F ad B σ H μ _ _ hK l q fun vs H' rs μ' l1 ps f k1 q1=>h F ad B σ H' μ' _ _ vs rs hK l1 ps q1 fun v H2 r2 μ2 v2 f2 k2 q2=>k v H2 r2 μ2 v2 (f.trans f2) (k1.trans k2) q2
theorem cb{id:String}{u:UC}(hc:bI X (.builtin id) r)(h:RC X.K r u)(hg:Gl X x)(hm:X.mg x=none)(hv:bootBuiltins x=some (.builtin id))(ha:YA X (e::es) us)(h1:autoParam (dq e=true) ℜ0)(h2:autoParam (es.all dq=true) ℜ0)(hn:autoParam (x≠"__name__") ℜ1)(hdb:autoParam ((x ==("__debug__":Str))=false) ℜ1):
  YE X (.Call (.Name x p) (e::es) [] pos) (DU u us):=by
 obtain⟨t,q,rr⟩:=ha;exact⟨_,Z.cb hc hg hm hv q h1 h2 hn hdb,A9 h rr⟩
theorem ct{T:String}{u:UC}(hc:bI X (.type T) r)(h:RC X.K r u)(hg:Gl X x)(hm:X.mg x=none)(hv:bootBuiltins x=some (.type T))(ha:YA X (e::es) us)(h1:autoParam (dq e=true) ℜ0)(h2:autoParam (es.all dq=true) ℜ0)(hn:autoParam (x≠"__name__") ℜ1)(hdb:autoParam ((x ==("__debug__":Str))=false) ℜ1):
  YE X (.Call (.Name x p) (e::es) [] pos) (DU u us):=by
 obtain⟨t,q,rr⟩:=ha;exact⟨_,Z.ct hc hg hm hv q h1 h2 hn hdb,A9 h rr⟩
def iS:UO:=fun μ Q=>Q none μ
noncomputable def pX(ue:UE):UO:=fun μ Q=>ue μ fun r μ'=>match r with
 |.tr (.int i)=>Q (some i) μ'
 |_=>False
theorem yL:YO X none iS:=⟨_,Z.yL,fun F ad B σ H μ Q Qt hK l q k=>k none H μ l Fr.refl (Kp.refl μ) q⟩
theorem zu(he:YE X e ue):YO X (some e) (pX ue):=by
 obtain⟨t,q,r⟩:=he;refine⟨_,Z.zu q,fun F ad B σ H μ Q Qt hK l q k=>r F ad B σ H μ _ _ hK l q fun v H' r1 μ' v1 f k1 q1=>?_⟩
 split at q1
 ·have rp:=v1.2;cases rp;exact⟨_,rfl,k _ H' μ' v1.rl f.d k1 q1⟩
 ·exact q1.elim
end
end Y
namespace Y
noncomputable def oA(f:T->T->Mu->(R->Mu->Prop)->Prop):U2:=fun r1 r2 μ Q=>match cont μ r1,cont μ r2 with
 |some t,some u=>f t u μ Q
 |_,_=>False
theorem e9{r:R2}{f:T->T->Mu->(R->Mu->Prop)->Prop}
  (h:∀(F:Fx) (ad:Nat->Addr) (B:bo) (σ:St) (H:Hp) (μ:Mu) (Q:VK) (Qt:R->Mu->Prop) (x y:V) (t u:T),F.K=K->Rl F ad B σ H μ->Vw F.K H B x t->Vw F.K H B y u->f t u μ Qt ->
   (∀ v H' r,Vr F ad B σ H' μ v r->Fr B H (Bv B v r) H'->Qt r μ->Q v H')->r x y H Q):gL K r (oA f):=by
 intro F ad B σ H μ Q Qt x y r1 r2 hK l h1 h2 q k;unfold oA at q
 split at q
 ·rename_i t u e1 e2;exact h F ad B σ H μ Q Qt x y t u hK l (h1.vw l e1) (h2.vw l e2) q fun v H' r v1 s q1=>k v H' r μ v1 s (Kp.refl μ) q1
 ·exact q.elim
noncomputable def xy(C:Int->Int->Prop)(g:Int->Int->Int):T->T->Mu->(R->Mu->Prop)->Prop:=fun t u μ Q=>match t,u with
 |.int i,.int j=>C i j/\Q (.tr (.int (g i j))) μ
 |_,_=>False
theorem cG{C:Int->Int->Prop}{g:Int->Int->Int}:gL K (rI C fun i j=>.int (g i j)) (oA (xy C g)):=e9 fun F ad B σ H μ Q Qt x y t u hK l v1 v2 q k=>by
 unfold xy at q
 split at q
 ·cases v1;cases v2
  exact⟨_,_,rfl,rfl,q.1,k _ H _ (Vr.flat l (.int _)) Fr.refl q.2⟩
 ·exact q.elim
theorem cX{g:Int->Int->Int}:gL K (yi fun i j=>.int (g i j)) (oA (xy (fun _ _=>True) g)):=e9 fun F ad B σ H μ Q Qt x y t u hK l v1 v2 q k=>by
 unfold xy at q
 split at q
 ·cases v1;cases v2
  exact⟨_,_,rfl,rfl,k _ H _ (Vr.flat l (.int _)) Fr.refl q.2⟩
 ·exact q.elim
noncomputable def HB(g:Int->Int->Bool):T->T->Mu->(R->Mu->Prop)->Prop:=fun t u μ Q=>match t,u with
 |.int i,.int j=>Q (.tr (.bl (g i j))) μ
 |_,_=>False
theorem fe{g:Int->Int->Bool}:gL K (yi fun i j=>.bl (g i j)) (oA (HB g)):=e9 fun F ad B σ H μ Q Qt x y t u hK l v1 v2 q k=>by
 unfold HB at q
 split at q
 ·cases v1;cases v2
  exact⟨_,_,rfl,rfl,k _ H _ (Vr.flat l (.bl _)) Fr.refl q⟩
 ·exact q.elim
noncomputable def Bh(K:Oi):R2:=fun x y H Q=>∃ a b xs ys,x=.ref a/\y=.ref b/\cD K H a xs/\cD K H b ys/\xs.length+ys.length<=sizeLine /\
 (xs=[]->Q (.ref b) H)/\(xs≠[]->ys=[]->Q (.ref a) H)/\(xs≠[]->ys≠[]->∀ p,H p=none->Q (.ref p) (upd H p (.tup (xs++ys))))
theorem wg{t:Addr}{ws:List Value}(ht:IsTup s.heap t ([]:List Value).toArray)(hb:IsTup s.heap b ws.toArray)(h0:Q (.ref b) s):wpAny (model prog w) A (binaryOp .Add (.ref t) (.ref b)) Q E s:=by
 obtain⟨⟨cls,dd,data,sl⟩,ho,hc,n,hd⟩:=id ht;obtain⟨⟨cls2,dd2,data2,sl2⟩,ho2,hc2,n2,hd2⟩:=id hb;simp only at hc hd hc2 hd2;subst hc hd hc2 hd2;exact concat_meets ⟨_,ho,rfl⟩ ⟨_,ho2,rfl⟩ noFill_tuple_add seq_tuple_add PySem.F.slot_tuple_add PySem.F.entry_tuple_add (PySem.F.args_tuple_add_2 _ _)
   (tuple_addW0 t b _ ws.toArray n n2 dd dd2 sl sl2 (by simp)) ⟨ho,ho2,h0⟩
theorem zl:dm X (binaryOp .Add) (Bh X.K):=by
 intro pins s σ H x y v u Q I rx ry h;obtain⟨a,b,xs,ys,rfl,rfl,ha,hb,hz,q0,q1,q2⟩:=h;by_cases hx:xs=[]
 ·subst hx
  cases rx;cases ry
  obtain⟨its,r1,p1,_⟩:=I.tuple ha;obtain⟨its2,r2,p2,_⟩:=I.tuple hb;cases r1;exact wg p1 p2 ⟨.ref b,H,I,rfl,q0 rfl⟩
 ·exact yE pins s σ H _ _ v u Q I rx ry ⟨a,b,xs,ys,rfl,rfl,ha,hb,hx,hz,q1 hx,q2 hx⟩
noncomputable def xP(K:Oi):R2:=fun x y H Q=>(∃ i j,x=.int i/\y=.int j/\Q (.int (i+j)) H)\/(∃ i j,x=.str i/\y=.str j/\i.length+j.length<=sizeLine/\Q (.str (i++j)) H)\/FX x y H Q\/Bh K x y H Q
theorem aC(K:Oi)(hK:X.K=K):dm X (binaryOp .Add) (xP K):=by subst hK;exact CO.or (p6.or (DA.or zl))
noncomputable def bP{v:V}{t:T}(h:Hv F ad B H μ v (.tr t)):Rep F.K H B v t:=h
noncomputable def kb:U2:=fun r1 r2 μ Q=>match cont μ r1,cont μ r2 with
 |some (.int i),some (.int j)=>Q (.tr (.int (i+j))) μ
 |some (.str i),some (.str j)=>i.length+j.length<=sizeLine/\Q (.tr (.str (i++j))) μ
 |some (.lst xs),some (.lst ys)=>xs.length+ys.length<=sizeLine/\Q (.fr (.lst (xs++ys))) μ
 |some (.tup xs),some (.tup ys)=>xs.length+ys.length<=sizeLine/\Q (.tr (.tup (xs++ys))) μ
 |_,_=>False
theorem Hv.vI{v:V}{r:R}{xs:List T}(l:Rl F ad B σ H μ)(h:Hv F ad B H μ v r)(e:cont μ r=some (.tup xs)):Rep F.K H B v (.tup xs):=by
 cases r with
 |tr t=>cases e;exact h
 |br i =>
  obtain⟨rfl,s,c,h1,h2⟩:=h;have e2:(μ[i]?).bind Sl.box=some (.tup xs):=e;rw[h1] at e2;have e':s.box=some (.tup xs):=e2;rcases ((l.slot i s h1).boxed e').2.2.1.is with ⟨ts,vs,z,_⟩|⟨ks,ts,vs,z,_⟩<;>cases z
 |fr c=>exact h.elim
theorem Dw:gL K (xP K) kb:=by
 intro F ad B σ H μ Q Qt x y r1 r2 hK l h1 h2 q k;subst hK;unfold kb at q
 split at q
 ·rename_i i j e1 e2;have a:=h1.vw l e1;have b:=h2.vw l e2
  cases a;cases b
  exact .inl ⟨_,_,rfl,rfl,k _ H _ μ (Vr.flat l (.int _)) Fr.refl (Kp.refl μ) q⟩
 ·rename_i i j e1 e2;have a:=h1.vw l e1;have b:=h2.vw l e2
  cases a;cases b
  exact .inr (.inl ⟨_,_,rfl,rfl,q.1,k _ H _ μ (Vr.flat l (.str _)) Fr.refl (Kp.refl μ) q.2⟩)
 ·rename_i xs ys e1 e2;have a:=h1.vw l e1;have b:=h2.vw l e2
  cases a with
  |lst ha ra=>cases b with
   |lst hb rb=>exact .inr (.inr (.inl ⟨_,_,_,_,rfl,rfl,ha,hb,by rw[ra.length,rb.length];exact q.1,fun p hp=>k _ _ _ μ (Vr.m9 l (ra.append rb) hp) (Fr.more hp) (Kp.refl μ) q.2⟩))
 ·rename_i xs ys e1 e2;have a:=Hv.vI l h1 e1;have b:=Hv.vI l h2 e2;have a':=a;have b':=b
  cases a with
  |tup na ha ra=>cases b with
   |tup nb hb rb =>
    refine .inr (.inr (.inr ⟨_,_,_,_,rfl,rfl,cD.of ha,cD.of hb,by rw[ra.length,rb.length];exact q.1,fun z=>?_,fun z1 z2=>?_,fun z1 z2 p hp=>k _ _ _ μ (Vr.si l (ra.append rb) hp) (Fr.same (cu.new hp)) (Kp.refl μ) q.2⟩))
    ·subst z;cases ra;exact k _ H _ μ (Vr.flat l b') Fr.refl (Kp.refl μ) q.2
    ·subst z2;cases rb;have q2:=q.2;rw[JK] at q2;exact k _ H _ μ (Vr.flat l a') Fr.refl (Kp.refl μ) q2
 ·exact q.elim
noncomputable def rQ:U2:=fun r1 r2 μ Q=>match cont μ r1,cont μ r2 with
 |some (.int i),some (.int j)=>om i j/\Q (.tr (.int (i*j))) μ
 |some (.lst xs),some (.int k)=>-(2^63)<=k/\k<2^63/\xs.length*k.toNat<=sizeLine/\Q (.fr (.lst (List.replicate k.toNat xs).flatten)) μ
 |_,_=>False
theorem uD:gL K DK rQ:=by
 intro F ad B σ H μ Q Qt x y r1 r2 hK l h1 h2 q k;unfold rQ at q
 split at q
 ·rename_i i j e1 e2;have a:=h1.vw l e1;have b:=h2.vw l e2
  cases a;cases b
  exact⟨q.1,k _ H _ μ (Vr.flat l (.int _)) Fr.refl (Kp.refl μ) q.2⟩
 ·rename_i xs j e1 e2;have a:=h1.vw l e1;have b:=h2.vw l e2;cases b
  cases a with
  |lst ha ra=>exact⟨_,_,_,rfl,rfl,ha,q.1,q.2.1,by rw[ra.length];exact q.2.2.1,fun p hp=>k _ _ _ μ (Vr.m9 l (ra.rep _) hp) (Fr.more hp) (Kp.refl μ) q.2.2.2⟩
 ·exact q.elim
noncomputable def oR:U2:=fun r1 r2 μ Q=>match cont μ r1,cont μ r2 with
 |some (.lst xs),some (.int i)=>(match bR xs i with|some t=>Q (.tr t) μ|none=>False)
 |some (.tup xs),some (.int i)=>(match bR xs i with|some t=>Q (.tr t) μ|none=>False)
 |some (.d_ xs),some (.int i)=>(match bR xs i with|some t=>Q (.tr t) μ|none=>False)
 |some (.str z),some (.int i)=>z.length<=sizeLine/\(match bR z.cps.toList i with|some c=>Q (.tr (.str ⟨#[c]⟩)) μ|none=>False)
 |_,_=>False
theorem aO(K:Oi)(hK:X.K=K):tO X (GF K):=by subst hK;exact D5
theorem En:gL K (GF K) oR:=by
 intro F ad B σ H μ Q Qt x y r1 r2 hK l h1 h2 q k;subst hK;unfold oR at q
 split at q
 ·rename_i xs j e1 e2;have a:=h1.vw l e1;have b:=h2.vw l e2;cases b
  split at q
  ·rename_i t e3
   cases a with
   |lst ha ra =>
    obtain⟨v,e4,rv⟩:=ra.bR e3;exact .inl ⟨_,_,_,v,rfl,rfl,cJ.of ha,e4,k _ H _ μ (Vr.flat l rv) Fr.refl (Kp.refl μ) q⟩
  ·exact q.elim
 ·rename_i xs j e1 e2;have a:=h1.vw l e1;have b:=h2.vw l e2;cases b
  split at q
  ·rename_i t e3
   cases a with
   |tup ha ra =>
    obtain⟨v,e4,rv⟩:=ra.bR e3;exact .inr (.inl ⟨_,_,_,v,rfl,rfl,cD.of ha,e4,k _ H _ μ (Vr.flat l rv) Fr.refl (Kp.refl μ) q⟩)
  ·exact q.elim
 ·rename_i xs j e1 e2;have a:=h1.vw l e1;have b:=h2.vw l e2;cases b
  split at q
  ·rename_i t e3
   cases a with
   |d_ ha ra =>
    obtain⟨v,e4,rv⟩:=ra.bR e3;exact .inr (.inl ⟨_,_,_,v,rfl,rfl,.inr ha,e4,k _ H _ μ (Vr.flat l rv) Fr.refl (Kp.refl μ) q⟩)
  ·exact q.elim
 ·rename_i xs j e1 e2;have a:=h1.vw l e1;have b:=h2.vw l e2;cases b;cases a;obtain⟨q0,q⟩:=q
  split at q
  ·rename_i t e3;exact .inr (.inr ⟨_,_,_,rfl,rfl,q0,e3,k _ H _ μ (Vr.flat l (.str _)) Fr.refl (Kp.refl μ) q⟩)
  ·exact q.elim
 ·exact q.elim
noncomputable def oj(neg:Bool):T->T->Mu->(R->Mu->Prop)->Prop:=fun t u μ Q=>match u with
 |.aJ=>Q (.tr (.bl (match t with|.aJ=>!neg|_=>neg))) μ
 |_=>False
theorem lW:gL K (fun x y H Q=>y=.aJ/\Q (.bl (decide (x=.aJ))) H) (oA (oj false)):=e9 fun F ad B σ H μ Q Qt x y t u hK l v1 v2 q k=>by
 unfold oj at q
 split at q
 ·cases v2;refine⟨rfl,?_⟩
  cases v1<;>exact k _ H _ (Vr.flat l (.bl _)) Fr.refl q
 ·exact q.elim
theorem fP:gL K (fun x y H Q=>y=.aJ/\Q (.bl (!decide (x=.aJ))) H) (oA (oj true)):=e9 fun F ad B σ H μ Q Qt x y t u hK l v1 v2 q k=>by
 unfold oj at q
 split at q
 ·cases v2;refine⟨rfl,?_⟩
  cases v1<;>exact k _ H _ (Vr.flat l (.bl _)) Fr.refl q
 ·exact q.elim
noncomputable def Bp:T->T->Bool
 |.aJ,.aJ=>true
 |.bl a,.bl b=>a == b
 |.bl a,.int b=>(if a then 1 else 0) == b
 |.int a,.bl b=>a ==(if b then 1 else 0)
 |.int a,.int b=>a == b
 |.str a,.str b=>a == b
 |_,_=>false
noncomputable def pL(xs ys:List T):Bool:=xs.length == ys.length && (List.range (min xs.length ys.length)).all fun j=>match xs[j]?,ys[j]? with
 |some x,some y=>Bp x y
 |_,_=>true
theorem u3{x y:V}{t u:T}(h1:Rep K H B x t)(h2:Rep K H B y u)(f1:aR t=true)(f2:aR u=true):dP x=true/\dP y=true/\tW x y=Bp t u:=by
 cases h1<;>first | (cases f1;done) | (cases h2<;>first | (cases f2;done)|exact⟨rfl,rfl,rfl⟩)
noncomputable def Ao(K:Oi)(neg:Bool):R2:=fun x y H Q=>∃ a b xs ys,x=.ref a/\y=.ref b/\((cJ K H a xs/\cJ K H b ys)\/(cD K H a xs/\cD K H b ys))/\xs.all dP=true/\ys.all dP=true /\
 ∀ c,c=(xs.length == ys.length && (List.range (min xs.length ys.length)).all fun j=>match xs[j]?,ys[j]? with|some x,some y=>tW x y|_,_=>true)->Q (.bl (if neg then !c else c)) H
theorem Cq(hu:X.A.units<cLine):dm X (compareOp .Eq) (Ao X.K false):=by
 intro pins s σ H x y v u Q I rx ry h;obtain⟨a,b,xs,ys,rfl,rfl,hq,fx,fy,q⟩:=h
 cases rx;cases ry
 have item:∀(its its2:List Value),Vals xs its->Vals ys its2->∀ j (h1:j<its.toArray.size) (h2:j<its2.toArray.size),SeqAt.EqAt X.A.in1 s its.toArray[j] its2.toArray[j] (match xs[j]?,ys[j]? with|some x,some y=>tW x y|_,_=>true):=fun its its2 r1 r2 j h1 h2=>by
  have l1:=r1.length;have l2:=r2.length;rw[Jv] at h1 h2;obtain⟨u1,e1,g1⟩:=r1.get (i:=j) (x:=xs[j]) (Jq (by lia))
  obtain⟨u2,e2,g2⟩:=r2.get (i:=j) (x:=ys[j]) (Jq (by lia))
  rw[Jq (show j<xs.length by lia),Jq (show j<ys.length by lia)]
  have z1:its.toArray[j]=u1:=by
   rw[Jq h1] at e1;simpa using e1
  have z2:its2.toArray[j]=u2:=by
   rw[Jq h2] at e2;simpa using e2
  rw[z1,z2];exact lK g1 g2 (Kx.mp fx _ (JY _)) (Kx.mp fy _ (JY _))
 rcases hq with ⟨ha,hb⟩|⟨ha,hb⟩
 ·obtain⟨its,r1,p1,_⟩:=I.list ha;obtain⟨its2,r2,p2,_⟩:=I.list hb;have l1:=r1.length;have l2:=r2.length;by_cases e:xs.length=ys.length
  ·refine SeqAt.eq_listAt p1.isList p2.isList (by rw[Jv,Jv];lia) hu (item its its2 r1 r2) ⟨.bl _,H,I,rfl,q _ ?_⟩
   rw[Jv,<- l1,<- e,KQ,Kq,Bool.true_and]
  ·refine Nu p1.isList p2.isList (by rw[Jv,Jv,MX];lia) hu ⟨.bl _,H,I,rfl,q _ ?_⟩
   rw[Kk.mpr e,NK]
 ·obtain⟨its,r1,p1,_⟩:=I.tuple ha;obtain⟨its2,r2,p2,_⟩:=I.tuple hb;have l1:=r1.length;have l2:=r2.length;refine SeqAt.eq_tupleAt p1 p2 hu (item its its2 r1 r2) ⟨.bl _,H,I,rfl,q _ ?_⟩;rw[Jv,Jv,<- l1,<- l2,Bool.and_comm];rfl
theorem cN:∀{xs:List V} {ts:List T},au K H B xs ts->ts.all aR=true->xs.all dP=true
 |_,_,.nil,_=>rfl
 |_,_,.cons h r,f=>by
  rw[Kv,Kl] at f ⊢;refine⟨?_,cN r f.2⟩;have f1:=f.1
  cases h<;>first|rfl|cases f1
theorem lG{us:List T}(h1:au K H B xs ts)(h2:au K H B ys us)(f1:ts.all aR=true)(f2:us.all aR=true):
  pL ts us=(xs.length == ys.length && (List.range (min xs.length ys.length)).all fun j=>match xs[j]?,ys[j]? with|some x,some y=>tW x y|_,_=>true):=by
 unfold pL;have l1:=h1.length;have l2:=h2.length;rw[l1,l2];congr 1;refine List.all_congr rfl ?_ |>.symm;intro j
 cases a1:ts[j]? with
 |none =>
  have:xs[j]?=none:=JM.mpr (by have:=JM.mp a1;lia)
  rw[this]
 |some t =>
  obtain⟨v1,e1,r1⟩:=h1.get a1;rw[e1]
  cases a2:us[j]? with
  |none =>
   have:ys[j]?=none:=JM.mpr (by have:=JM.mp a2;lia)
   rw[this]
  |some u =>
   obtain⟨v2,e2,r2⟩:=h2.get a2;rw[e2];exact (u3 r1 r2 (Kx.mp f1 _ (Km a1)) (Kx.mp f2 _ (Km a2))).2.2
noncomputable def Co(K:Oi):R2:=fun x y H Q=>IX x y H Q\/Ao K false x y H Q
theorem cK(K:Oi)(hK:X.K=K)(hu:X.A.units<cLine):dm X (compareOp .Eq) (Co K):=by subst hK;exact Ee.or (Cq hu)
noncomputable def DJ(neg:Bool):T->T->Mu->(R->Mu->Prop)->Prop:=fun t u μ Q=>match t,u with
 |.int i,.int j=>Q (.tr (.bl (if neg then !decide (i=j) else decide (i=j)))) μ
 |.str i,.str j=>Q (.tr (.bl (if neg then !decide (i=j) else decide (i=j)))) μ
 |.bl i,.bl j=>Q (.tr (.bl (if neg then !decide (i=j) else decide (i=j)))) μ
 |.lst xs,.lst ys=>neg=false/\xs.all aR=true/\ys.all aR=true/\Q (.tr (.bl (pL xs ys))) μ
 |.tup xs,.tup ys=>neg=false/\xs.all aR=true/\ys.all aR=true/\Q (.tr (.bl (pL xs ys))) μ
 |_,_=>False
theorem dV[DecidableEq α]{f:α->V}(hf:∀ a b,f a=f b->a=b)(a b:α):decide (f a=f b)=decide (a=b):=by
 rw[Mj];exact⟨hf a b,fun h=>by rw[h]⟩
theorem dF:gL K (Co K) (oA (DJ false)):=e9 fun F ad B σ H μ Q Qt x y t u hK l v1 v2 q k=>by
 subst hK;unfold DJ at q
 split at q
 ·cases v1;cases v2
  refine .inl ⟨rfl,?_⟩;rw[dV (f:=V.int) (fun a b h=>by injection h)]
  exact k _ H _ (Vr.flat l (.bl _)) Fr.refl q
 ·cases v1;cases v2
  refine .inl ⟨rfl,?_⟩;rw[dV (f:=V.str) (fun a b h=>by injection h)]
  exact k _ H _ (Vr.flat l (.bl _)) Fr.refl q
 ·cases v1;cases v2
  refine .inl ⟨rfl,?_⟩;rw[dV (f:=V.bl) (fun a b h=>by injection h)]
  exact k _ H _ (Vr.flat l (.bl _)) Fr.refl q
 ·cases v1 with
  |lst ha ra=>cases v2 with
   |lst hb rb=>exact .inr ⟨_,_,_,_,rfl,rfl,.inl ⟨cJ.of ha,cJ.of hb⟩,cN ra q.2.1,cN rb q.2.2.1,fun c hc=>by
     rw[<- lG ra rb q.2.1 q.2.2.1] at hc;subst hc;exact k _ H _ (Vr.flat l (.bl _)) Fr.refl q.2.2.2⟩
 ·cases v1 with
  |tup ha ra=>cases v2 with
   |tup hb rb=>exact .inr ⟨_,_,_,_,rfl,rfl,.inr ⟨cD.of ha,cD.of hb⟩,cN ra q.2.1,cN rb q.2.2.1,fun c hc=>by
     rw[<- lG ra rb q.2.1 q.2.2.1] at hc;subst hc;exact k _ H _ (Vr.flat l (.bl _)) Fr.refl q.2.2.2⟩
 ·exact q.elim
noncomputable def zv(f:T->Mu->(R->Mu->Prop)->Prop):UC:=fun rs μ Q=>match rs with
 |[r]=>(match cont μ r with|some t=>f t μ Q|none=>False)
 |_=>False
theorem pF{f:T->Mu->(R->Mu->Prop)->Prop}
  (h:∀(F:Fx) (ad:Nat->Addr) (B:bo) (σ:St) (H:Hp) (μ:Mu) (Q:VK) (Qt:R->Mu->Prop) (x:V) (t:T),F.K=K->Rl F ad B σ H μ->Vw F.K H B x t->f t μ Qt ->
   (∀ v H' r,Vr F ad B σ H' μ v r->Fr B H (Bv B v r) H'->Qt r μ->Q v H')->r [x] H Q):RC K r (zv f):=by
 intro F ad B σ H μ Q Qt xs rs hK l p q k;unfold zv at q
 split at q
 ·split at q
  ·rename_i r0 _ t e
   cases p with
   |cons h1 p=>cases p;exact h F ad B σ H μ Q Qt _ t hK l (h1.vw l e) q fun v H' r v1 s q1=>k v H' r μ v1 s (Kp.refl μ) q1
  ·exact q.elim
 ·exact q.elim
noncomputable def ou:T->Mu->(R->Mu->Prop)->Prop:=fun t μ Q=>match t with
 |.lst xs=>Q (.tr (.int xs.length)) μ
 |.tup xs=>Q (.tr (.int xs.length)) μ
 |.eU xs=>Q (.tr (.int xs.length)) μ
 |.d_ xs=>Q (.tr (.int xs.length)) μ
 |.str z=>z.length<=sizeLine/\Q (.tr (.int z.length)) μ
 |_=>False
noncomputable def xj(K:Oi):List V->Hp->VK->Prop:=fun xs H Q=>(∃ p ys,xs=[.ref p]/\(cJ K H p ys\/cD K H p ys)/\Q (.int ys.length) H)\/(∃ z,xs=[.str z]/\z.length<=sizeLine/\Q (.int z.length) H)
theorem bj(K:Oi)(hK:X.K=K):bI X (.builtin "len") (xj K):=by subst hK;exact mq.or mO
theorem Dm:RC K (xj K) (zv ou):=pF fun F ad B σ H μ Q Qt x t hK l v1 q k=>by
 subst hK;unfold ou at q
 split at q
 ·cases v1 with
  |lst ha ra=>exact .inl ⟨_,_,rfl,.inl (cJ.of ha),by rw[ra.length];exact k _ H _ (Vr.flat l (.int _)) Fr.refl q⟩
 ·cases v1 with
  |tup ha ra=>exact .inl ⟨_,_,rfl,.inr (cD.of ha),by rw[ra.length];exact k _ H _ (Vr.flat l (.int _)) Fr.refl q⟩
 ·cases v1 with
  |eU ha ra=>exact .inl ⟨_,_,rfl,.inl ha,by rw[ra.length];exact k _ H _ (Vr.flat l (.int _)) Fr.refl q⟩
 ·cases v1 with
  |d_ ha ra=>exact .inl ⟨_,_,rfl,.inr (.inr ha),by rw[ra.length];exact k _ H _ (Vr.flat l (.int _)) Fr.refl q⟩
 ·cases v1;exact .inr ⟨_,rfl,q.1,k _ H _ (Vr.flat l (.int _)) Fr.refl q.2⟩
 ·exact q.elim
noncomputable def ib:UC:=fun rs μ Q=>match rs with
 |[r]=>(match cont μ r with
  |some (.lst xs)=>Q (.tr (.tup xs)) μ
  |some (.tup xs)=>Q (.tr (.tup xs)) μ
  |_=>False)
 |_=>False
noncomputable def A5(K:Oi):List V->Hp->VK->Prop:=fun xs H Q=>∃ p ys,xs=[.ref p]/\((cJ K H p ys/\∀ l,H l=none->Q (.ref l) (upd H l (.tup ys)))\/(cD K H p ys/\Q (.ref p) H))
theorem cZ(K:Oi)(hK:X.K=K):bI X (.type "tuple") (A5 K):=by subst hK;exact kg
theorem d7:RC K (A5 K) ib:=by
 intro F ad B σ H μ Q Qt xs rs hK l p q k;subst hK;unfold ib at q
 split at q
 ·cases p with
  |cons h1 p =>
   cases p
   split at q
   ·rename_i e;have v1:=h1.vw l e
    cases v1 with
    |lst ha ra=>exact⟨_,_,rfl,.inl ⟨cJ.of ha,fun p hp=>k _ _ _ μ (Vr.si l ra hp) (Fr.same (cu.new hp)) (Kp.refl μ) q⟩⟩
   ·rename_i e;have rp:=Hv.vI l h1 e;have rp':=rp
    cases rp with
    |tup na ha ra=>exact⟨_,_,rfl,.inr ⟨cD.of ha,k _ H _ μ (Vr.flat l rp') Fr.refl (Kp.refl μ) q⟩⟩
   ·exact q.elim
 ·exact q.elim
theorem gc{lo:Int}:∀(n:Nat) (acc:List Value) (k:Nat),acc.length=n->(∀ j v,acc[j]?=some v->∃ t,v=Value.int (lo+((k+j:Nat):Int)) t)->Vals ((List.range' k n).map fun k=>V.int (lo+(k:Nat))) acc
 |0,acc,k,h,_=>by cases acc with|nil=>exact .nil|cons a b=>cases h
 |n+1,[],k,h,_=>by cases h
 |n+1,a::acc,k,h,g=>by
  rw[K6,Kc];refine .cons ?_ (gc n acc (k+1) (by simpa using h) fun j v e=>?_)
  ·obtain⟨t,e⟩:=g 0 a rfl;exact⟨t,by simpa using e⟩
  ·obtain⟨t,e2⟩:=g (j+1) v (by simpa using e)
   exact⟨t,by rw[e2];congr 2;lia⟩
noncomputable def p9:UC:=fun rs μ Q=>match rs with
 |[.tr (.int j)]=>Q (.tr (.fh 0 j)) μ
 |[.tr (.int i),.tr (.int j)]=>Q (.tr (.fh i j)) μ
 |_=>False
noncomputable def qW:List V->Hp->VK->Prop:=fun xs H Q=>(∃ j,xs=[.int j]/\∀ p,H p=none->Q (.ref p) (upd H p (.fh 0 j)))\/(∃ i j,xs=[.int i,.int j]/\∀ p,H p=none->Q (.ref p) (upd H p (.fh i j)))
theorem nr:bI X (.type "range") qW:=by
 intro pins s σ H xs us Q I r h;rcases h with ⟨j,rfl,q⟩|⟨i,j,rfl,q⟩
 ·obtain⟨u,rfl,t,rfl⟩:=vals1 r;refine call_range_1 ?_;exact⟨.ref s.heap.objs.size,_,I.laid (o:=.fh 0 j) (fun b ob q=>Jr _ q) (J6 _) (show bO X.prog X.w _ _ _ (.fh 0 j) from⟨_,_,_,JC _ rfl⟩),rfl,q _ (I.aU.fresh (J6 _))⟩
 ·obtain⟨u,w',rfl,⟨t,rfl⟩,⟨t',rfl⟩⟩:=vals2 r;refine call_range_2 ?_;exact⟨.ref s.heap.objs.size,_,I.laid (o:=.fh i j) (fun b ob q=>Jr _ q) (J6 _) (show bO X.prog X.w _ _ _ (.fh i j) from⟨_,_,_,JC _ rfl⟩),rfl,q _ (I.aU.fresh (J6 _))⟩
theorem xM:RC K qW p9:=by
 intro F ad B σ H μ Q Qt xs rs hK l p q k;have fin:∀ lo hi p,H p=none->Vr F ad B σ (upd H p (.fh lo hi)) μ (.ref p) (.tr (.fh lo hi)):=fun lo hi p hp=>⟨l.same (cu.new hp),.fh (l.kh hp) ax⟩;unfold p9 at q
 split at q
 ·cases p with
  |cons h1 p=>cases p;cases bP h1;exact .inl ⟨_,rfl,fun p hp=>k _ _ _ μ (fin _ _ p hp) (Fr.same (cu.new hp)) (Kp.refl μ) q⟩
 ·cases p with
  |cons h1 p=>cases p with
   |cons h2 p=>cases p;cases bP h1;cases bP h2;exact .inr ⟨_,_,rfl,fun p hp=>k _ _ _ μ (fin _ _ p hp) (Fr.same (cu.new hp)) (Kp.refl μ) q⟩
 ·exact q.elim
noncomputable def Dv(g:Int->Int->Int):UC:=fun rs μ Q=>match rs with
 |[.tr (.int i),.tr (.int j)]=>Q (.tr (.int (g i j))) μ
 |_=>False
theorem Av{g:Int->Int->Int}(h:∀ i j H Q,Q (.int (g i j)) H->r [.int i,.int j] H Q):RC K r (Dv g):=by
 intro F ad B σ H μ Q Qt xs rs hK l p q k;unfold Dv at q
 split at q
 ·cases p with
  |cons h1 p=>cases p with
   |cons h2 p=>cases p;cases bP h1;cases bP h2;exact h _ _ _ _ (k _ H _ μ (Vr.flat l (.int _)) Fr.refl (Kp.refl μ) q)
 ·exact q.elim
theorem CP:RC K Gm (Dv fun i j=>if j > i then j else i):=Av fun i j H Q q=>q
theorem BO:RC K DZ (Dv fun i j=>if j<i then j else i):=Av fun i j H Q q=>q
noncomputable def uY:UC:=fun rs μ Q=>match rs with
 |[.tr (.int i)]=>Q (.tr (.int i)) μ
 |[.tr (.bl k)]=>Q (.tr (.int (if k=true then 1 else 0))) μ
 |_=>False
theorem CJ:RC K Em uY:=by
 intro F ad B σ H μ Q Qt xs rs hK l p q k;unfold uY at q
 split at q
 ·cases p with
  |cons h1 p=>cases p;cases bP h1;exact k _ H _ μ (Vr.flat l (.int _)) Fr.refl (Kp.refl μ) q
 ·cases p with
  |cons h1 p=>cases p;cases bP h1;exact k _ H _ μ (Vr.flat l (.int _)) Fr.refl (Kp.refl μ) q
 ·exact q.elim
end Y
namespace Y
noncomputable def Am:T->String->Option Bool
 |.aJ,c=>some (gp "NoneType" c)
 |.bl _,c=>some (gp "bool" c)
 |.int _,c=>some (gp "int" c)
 |.str _,c=>some (gp "str" c)
 |.lst _,c=>some (gp "list" c)
 |.tup _,c=>some (gp "tuple" c)
 |_,_=>none
noncomputable def nE(ue:UE)(c:String):UE:=fun μ Q=>ue μ fun r μ'=>match cont μ' r with
 |some t=>(match Am t c with|some b=>Q (.tr (.bl b)) μ'|none=>False)
 |none=>False
theorem Vw.ty{v:V}{t:T}{c:String}{b:Bool}(h:Vw K H B v t)(e:Am t c=some b):∃ s,Bl H v=some s/\gp s c=b:=by
 cases h with
 |aJ=>cases e;exact⟨_,rfl,rfl⟩
 |bl=>cases e;exact⟨_,rfl,rfl⟩
 |int=>cases e;exact⟨_,rfl,rfl⟩
 |str=>cases e;exact⟨_,rfl,rfl⟩
 |tup h r=>cases e;exact⟨_,by unfold Bl;simp only[h],rfl⟩
 |lst h r=>cases e;exact⟨_,by unfold Bl;simp only[h],rfl⟩
 |eU=>cases e
 |fh=>cases e
 |mU=>cases e
 |exc=>cases e
 |yy=>cases e
 |d_=>cases e
theorem Vr.vw{v:V}{r:R}{t:T}(h:Vr F ad B σ H μ v r)(e:cont μ r=some t):Vw F.K H B v t:=by
 have e':cont μ r.d=some t:=by cases r<;>exact e
 exact h.hv.vw h.rl e'
section
variable {X:Cx} {a b c e o:Expr} {es rest:List Expr} {ua ub uc ue uo:UE} {uA uB:UT} {us:UA} {pos p p2 p3:Pos} {x:Str}
theorem F_{C:String}(K:Oi)(hK:X.K=K)(hg:Gl X "isinstance")(hm:X.mg "isinstance"=none)(ha:YE X a ua)(hgc:Gl X x)(hmc:X.mg x=none)(hvc:bootBuiltins x=some (.type C))(hc:autoParam (C∈["bool","int","str","list","tuple","dict"]) ℜ1)(h1:autoParam (dq a=true) ℜ0)
  (hnx:autoParam (x≠"__name__") ℜ1) (hdx:autoParam ((x ==("__debug__":Str))=false) ℜ1):YE X (.Call (.Name "isinstance" p) [a,.Name x p3] [] pos) (nE ua C):=by
 obtain⟨t,q,r⟩:=ha;refine⟨_,Z.cb (Z.FJ K hK) hg hm PyProof.Rows.boot_isinstance (Z.cons q (Z.cons (Z.Jh hgc hmc hvc hnx hdx) Z.nil) h1) h1,fun F ad B σ H μ Q Qt hK l q k=>r F ad B σ H μ _ _ hK l q fun v H' r1 μ' v1 f k1 q1=>?_⟩;show L2.nE K [v,.ty C] H' Q;refine⟨hc,?_⟩
 split at q1
 ·rename_i t e
  split at q1
  ·rename_i b e2;obtain⟨s,e3,e4⟩:=Vw.ty (Vr.vw v1 e) e2;rw[e3];subst e4;exact k _ H' (.tr (.bl _)) μ' (Vr.flat v1.rl (.bl _)) f.d k1 q1
  ·exact q1.elim
 ·exact q1.elim
noncomputable def cI(xs:List α)(lo hi:Option Int):List α:=(xs.drop (HT.cf xs.length 0 lo)).take (HT.cf xs.length xs.length hi-HT.cf xs.length 0 lo)
theorem au.cut(r:au K H B vs ts)(lo hi:Option Int):au K H B (me vs lo hi) (cI ts lo hi):=by
 unfold me cI;rw[r.length];exact (r.drop _).take _
noncomputable def E7(K:Oi):V->Option Int->Option Int->Hp->VK->Prop:=fun x lo hi H Q=>∃ a xs,x=.ref a/\cD K H a xs/\HT.cf xs.length 0 lo=0/\HT.cf xs.length xs.length hi=xs.length/\Q (.ref a) H
theorem gK{t sl:Addr}{vl vu:Value}{lo hi:Option Int}(ht:IsTup s.heap t items)(hs:s.heap.IsSliceOf sl vl vu .none)(pl:IsPart vl lo)(pu:IsPart vu hi)
  (h1:HT.cf items.size 0 lo=0) (h2:HT.cf items.size items.size hi=items.size) (h:Q (.ref t) s):wpAny (model prog w) A (getItem (.ref t) (.ref sl)) Q E s:=by
 obtain⟨os,hos,hcs,hds⟩:=id hs;have hTs:s.TypeIs (.ref sl) "slice":=⟨os,hos,hcs⟩;unfold getItem
 try with_reducible refine Kf ?_
 first|refine Jp (Jx ?_)|skip
 refine Jp (wpAny_sequenceKey ht.typeIs (by decide) ?_)
 refine Jp (Ku (name:=Str.ofString "__getitem__") ht.typeIs KO
  (Ky KO ht.typeIs entry_tuple_getitem ?_ (args_tuple_getitem _ _)))
 show wpAny _ _ (Builtin.Tuple.tupleItemsOf (.ref t) >>= _) _ _ s;refine Jp (tupleItemsOf_ ht ?_);refine Jp (N_ hTs ?_);rw[Jy (by decide)]
 refine Jp (HT.eE hs pl pu ?_);show wpAny _ _ (if (((HT.cf items.size 0 lo:Nat):Int) == 0 && (1:Int) == 1 && (HT.cf items.size items.size hi-HT.cf items.size 0 lo) == items.size)=true then _ else _) _ _ s
 rw[Jy (by rw[h1,h2];simp)]
 unfold Builtin.Tuple.tupleIsExact;refine Jp ?_;refine Jp (N_ ht.typeIs (Jx ?_));rw[Jy (by decide)]
 exact Jp (MW (Jx ⟨_,rfl,Jx h⟩))
theorem BV:uv X (E7 X.K):=by
 intro pins s σ H x v vl vu lo hi sl Q I rx hs pl pu h;obtain⟨a,xs,rfl,hx,h1,h2,q⟩:=h;cases rx;obtain⟨its,r,ht,hz⟩:=I.tuple hx;have hlen:its.toArray.size=xs.length:=by rw[Jv];exact r.length.symm
 exact⟨"tuple",_,KO.lookup,ht.typeIs,gK ht hs pl pu (by rw[hlen];exact h1) (by rw[hlen];exact h2) ⟨.ref a,H,I,rfl,q⟩⟩
noncomputable def FW(K:Oi):V->Option Int->Option Int->Hp->VK->Prop:=fun x lo hi H Q=>Ew K x lo hi H Q\/y2 K x lo hi H Q\/E7 K x lo hi H Q
theorem Hs(K:Oi)(hK:X.K=K):uv X (FW K):=by subst hK;exact zq.or (C_.or BV)
noncomputable def Hy(ue:UE)(ul uh:UO):UE:=fun μ Q=>ue μ fun r μ1=>ul μ1 fun lo μ2=>uh μ2 fun hi μ3=>match cont μ3 r.d with
 |some (.lst xs)=>Q (.fr (.lst (cI xs lo hi))) μ3
 |some (.eU xs)=>Q (.fr (.lst (cI xs lo hi))) μ3
 |some (.tup xs)=>Q (.tr (.tup (cI xs lo hi))) μ3
 |_=>False
end
end Y
structure tD (F:Fx) (B:bo) (H:Hp) (D:Ends) (E:Ed):Prop where
 nx:∀ ad' B' σ' H' μ',Rl F ad' B' σ' H' μ'->Fr B H B' H'->E.nx μ'->D.nx σ' H'
 rt:∀ ad' B' σ' H' μ' v r,Vr F ad' B' σ' H' μ' v r->E.rt r μ'->D.rt v H'
 bk:∀ ad' B' σ' H' μ',Rl F ad' B' σ' H' μ'->Fr B H B' H'->E.bk μ'->D.bk σ' H'
 ct:∀ ad' B' σ' H' μ',Rl F ad' B' σ' H' μ'->Fr B H B' H'->E.ct μ'->D.ct σ' H'
theorem tD.step{D:Ends}{E:Ed}(h:tD F B H D E)(f:Fr B H B1 H1):tD F B1 H1 D E:=
 ⟨fun ad' B' σ' H' μ' l g q=>h.nx ad' B' σ' H' μ' l (f.trans g) q,h.rt,fun ad' B' σ' H' μ' l g q=>h.bk ad' B' σ' H' μ' l (f.trans g) q,fun ad' B' σ' H' μ' l g q=>h.ct ad' B' σ' H' μ' l (f.trans g) q⟩
noncomputable def RS(K:Oi)(ts:TS)(us:US):Prop:=∀(F:Fx) (D:Ends) (E:Ed) (ad:Nat->Addr) (B:bo) (σ:St) (H:Hp) (μ:Mu),F.K=K->Rl F ad B σ H μ->us E μ->tD F B H D E->ts D σ H
abbrev UG:=R->Mu->(Mu->Prop)->Prop
abbrev rB:=List T->Mu->(Mu->Prop)->Prop
noncomputable def RG(K:Oi)(g:TG)(ug:UG):Prop:=∀(F:Fx) (ad:Nat->Addr) (B:bo) (σ:St) (H:Hp) (μ:Mu) (v:V) (r:R) (B0:bo) (H0:Hp) (Q:St->Hp->Prop) (Qt:Mu->Prop),F.K=K->Vr F ad B σ H μ v r->Fr B0 H0 (Bv B v r) H->ug r μ Qt ->
 (∀ ad' B' σ' H' μ',Rl F ad' B' σ' H' μ'->Fr B0 H0 B' H'->Qt μ'->Q σ' H')->g v σ H Q
noncomputable def Ja(K:Oi)(g:sY)(ug:rB):Prop:=∀(F:Fx) (ad:Nat->Addr) (B:bo) (σ:St) (H:Hp) (μ:Mu) (vs:List V) (ts:List T) (B0:bo) (H0:Hp) (Q:St->Hp->Prop) (Qt:Mu->Prop),F.K=K->Rl F ad B σ H μ->au F.K H B vs ts->Fr B0 H0 B H->ug ts μ Qt ->
 (∀ ad' B' σ' H' μ',Rl F ad' B' σ' H' μ'->Fr B0 H0 B' H'->Qt μ'->Q σ' H')->g vs σ H Q
structure YG (X:Cx) (e:Expr) (u:UG):Prop where
 ex:∃ t,QG X e t/\RG X.K t u
structure Fe (X:Cx) (es:List Expr) (u:rB):Prop where
 ex:∃ t,FF X es t/\Ja X.K t u
structure YS (X:Cx) (st:Stmt) (u:US):Prop where
 ex:∃ t,QS X st t/\RS X.K t u
structure YB (X:Cx) (sts:List Stmt) (u:US):Prop where
 ex:∃ t,QB X sts t/\RS X.K t u
namespace Y
noncomputable def uj(μ:Mu)(i:Nat):Prop:=match μ[i]? with
 |some (.pb _)=>False
 |_=>True
theorem ma(h:uj μ i):∀ c,μ[i]?≠some (.pb c):=fun c e=>by unfold uj at h;rw[e] at h;exact h
noncomputable def gN(i:Nat):UG:=fun r μ Q=>match r with
 |.tr t=>uj μ i/\Q (μ.set i (.tr t))
 |.fr c=>uj μ i/\Q (μ.set i (.bx c))
 |.br _=>False
section
variable {X:Cx} {a b c e o tg:Expr} {es rest:List Expr} {ua ub uc ue uo:UE} {uA uB:UT} {us:UA} {pos pos' p p2 p3:Pos} {x:Str} {st:Stmt} {sts xs ys:List Stmt} {u w:US}
theorem my:RG K (dE i) (gN i):=fun F ad B σ H μ v r B0 H0 Q Qt hK h f q k=>by
 cases r with
 |tr t=>exact k ad B _ H _ (h.1.Bz (ma q.1) h.2) f q.2
 |br i=>exact q.elim
 |fr c =>
  obtain⟨l,a,rfl,n,h0,l2,x⟩:=h;exact k _ _ _ H _ (l2.setB (ma q.1) h0 n l.own l.gB x) f q.2
theorem aI(hN:X.N.Nodup)(hi:X.N[i]?=some x)(hx:Loc X.env.scope x)(hf:autoParam (X.fn x=true\/X.env.scope.names.lookup x=some .local) ℜ2):YG X (.Name x pos) (gN i):=⟨_,Z.aI hN hi hx hf,my⟩
noncomputable def Gy:rB:=fun ts μ Q=>match ts with
 |[]=>Q μ
 |_=>False
noncomputable def Gs(g:UG)(gs:rB):rB:=fun ts μ Q=>match ts with
 |[]=>False
 |t::ts=>g (.tr t) μ fun μ'=>gs ts μ' Q
theorem fq:Fe X [] Gy:=⟨_,Z.fq,fun F ad B σ H μ vs ts B0 H0 Q Qt hK l r f q k=>by
 cases r with
 |nil=>exact⟨rfl,k ad B σ H μ l f q⟩
 |cons=>exact q.elim⟩
theorem cc{g:UG}{gs:rB}(h1:YG X e g)(h2:Fe X es gs)(hs:autoParam ((assignEach (e::es) X.env).map (·.2)=assign e X.env::(assignEach es X.env).map (·.2)) ℜ0):Fe X (e::es) (Gs g gs):=by
 obtain⟨t,q,r⟩:=h1;obtain⟨t',q',r'⟩:=h2;refine⟨_,Z.cc q q' hs,fun F ad B σ H μ vs ts B0 H0 Q Qt hK l rs f q k=>?_⟩
 cases rs with
 |nil=>exact q.elim
 |cons h hr=>exact⟨_,_,rfl,r F ad B σ H μ _ (.tr _) B H _ _ hK ⟨l,h⟩ Fr.refl q fun ad' B' σ' H' μ' l' f' q'=>r' F ad' B' σ' H' μ' _ _ B0 H0 _ _ hK l' (hr.fr f') (f.trans f') q' k⟩
noncomputable def gT(n:Nat)(gs:rB):UG:=fun r μ Q=>match cont μ r.d with
 |some (.tup ts)=>ts.length=n/\gs ts μ Q
 |some (.lst ts)=>ts.length=n/\gs ts μ Q
 |_=>False
noncomputable def FH(K:Oi)(n:Nat)(t:sY):TG:=fun v σ H Q=>∃ a xs,v=.ref a/\(cD K H a xs\/cJ K H a xs)/\xs.length=n/\t xs σ H Q
theorem kN{prog:Program}{w:World}{A:Around}{E:Value->Shared->Prop}{t:Addr}(hne:t≠it):∀(n i:Nat) (s:Shared) (Q:List Value->Shared->Prop),s.heap.IsListIter it t i->s.heap.IsList t items->i+n<=items.size ->
  (∀ h',h'.IsListIter it t (i+n)->Heap.SameBut it s.heap h'->Q ((items.toList.drop i).take n) {s with heap:=h'})->wpAny (model prog w) A (draw (.ref it) n) Q E s
 |0,i,s,Q,hit,_,_,hQ=>by
  show wpAny _ _ (pure []) Q E s;exact Jx (by simpa using hQ s.heap hit (Heap.SameBut.refl ..))
 |n+1,i,s,Q,hit,ht,hle,hQ=>by
  have hlt:i<items.size:=by lia
  show wpAny _ _ (pyNext (.ref it) >>= _) Q E s;refine Jp (N5 hit ht (x:=items[i]) (by simp[hlt]) fun h₁ hit₁ hs₁=>?_)
  refine Jp (Kf (kN hne n (i+1) _ _ hit₁ (ht.extBut hs₁.extBut hne) (by lia) fun h₂ hit₂ hs₂=>Jx ?_))
  have hd:items.toList.drop i=items[i]::items.toList.drop (i+1):=by simp[Lr,hlt]
  have:=hQ h₂ (by rw[show i+(n+1)=i+1+n by lia];exact hit₂) (hs₁.trans hs₂)
  rw[hd,List.take_succ_cons] at this;exact this
theorem h_{w:World}{t:Addr}{Q:List Value->Shared->Prop}(hh:A.handled=none)(ht:s.heap.IsList t items)
  (hQ:∀ h',Heap.ExtBut s.heap.objs.size s.heap h'->Q items.toList {s with heap:=h'}):wpAny (model prog w) A (unpackItems (.ref t) items.size none) Q E s:=by
 have hlt:t≠s.heap.objs.size:=by obtain⟨o,ho,_⟩:=ht;exact JP (JA ho)
 unfold unpackItems;refine Jp ?_
 ·unfold notIterableAtAll;refine Jp (wpAny_specialOf ht.typeIs F.slot_list_iter.lookup ?_);refine Jx ?_;simp only[K8,KY];refine Jp (Kf (Lm ht ?_));refine Jp (Kf (kN hlt items.size 0 _ _ ⟨_,JC _ rfl,rfl,rfl⟩ (ht.push _) (by lia) fun h₁ hit₁ hs₁=>?_))
  have hall:List.take items.size (List.drop 0 items.toList)=items.toList:=by
   rw[LJ];exact Me (by simp)
  rw[hall];rw[Ju (by simp)]
  have ht₁:h₁.IsList t items:=(ht.push _).extBut hs₁.extBut hlt;refine Jp (Kf (wpAny_pyNext_list_end hh hit₁ ht₁ (by simp) fun h₂ he₂=>?_))
  simp only[Option.isSome_none,K8,KY];refine Jx (hQ h₂ fun b o hb e=>he₂ b o hb (hs₁.extBut b o hb (Jr _ e)))
theorem Ab{t:sY}(hc:X.calm=true)(h:DO X es t)
  (hn:autoParam ((assignEach es X.env).length=n) ℜ0) (hst:autoParam ((assignEach es X.env).findIdx? (·.1)=none) ℜ0):PG X (.Tuple es k pos) (FH X.K n t):=by
 intro pins s σ H v u Q I r hw;obtain⟨a,xs,e1,hq,hl,hw⟩:=hw;rcases hq with hq|hq
 ·exact uF hc h hn hst pins s σ H v u Q I r ⟨a,xs,e1,hq,hl,hw⟩
 ·subst e1;cases r;obtain⟨its,rv,ht,hz⟩:=I.list hq;rw[assign_Tuple];refine Jp (Mf ?_);unfold unpack;have hsz:(assignEach es X.env).length=its.toArray.size:=by rw[hn,<- hl,rv.length];simp
  rw[hsz,hst];refine Jp (Kf (h_ (I.ok.hd hc) ht.isList fun h' hx=>?_));have I1:Inv X pins σ H {s with heap:=h'}:=I.kept (t':=s.toks) fun b o e=>hx b o (JP (JA e)) e
  exact h pins _ σ H xs _ Q I1 (by simpa using rv) hw
theorem DB(K:Oi)(hK:X.K=K){gs:rB}(hc:X.calm=true)(h:Fe X es gs)(hn:autoParam ((assignEach es X.env).length=n) ℜ0)(hst:autoParam ((assignEach es X.env).findIdx? (·.1)=none) ℜ0):YG X (.Tuple es k pos) (gT n gs):=by
 obtain⟨t,q,r⟩:=h;subst hK;refine⟨_,⟨Ab hc q.h hn hst⟩,fun F ad B σ H μ v rr B0 H0 Q Qt hF h f q k=>?_⟩;have l:=h.rl;have f':Fr B0 H0 B H:=fun b o h n=>⟨(f b o h n).1,fun z=>(f b o h n).2 (by cases rr<;>first|exact z | (cases v<;>first|exact z|exact .inr z))⟩
 unfold gT at q
 split at q
 ·rename_i ts e;have w:=h.hv.vw l e;rw[hF] at w
  cases w with
  |tup ha ra=>exact⟨_,_,rfl,.inl (cD.of ha),by rw[ra.length];exact q.1,r F ad B σ H μ _ ts B0 H0 Q Qt hF l (by rw[hF];exact ra) f' q.2 k⟩
 ·rename_i ts e;have w:=h.hv.vw l e;rw[hF] at w
  cases w with
  |lst ha ra=>exact⟨_,_,rfl,.inr (cJ.of ha),by rw[ra.length];exact q.1,r F ad B σ H μ _ ts B0 H0 Q Qt hF l (by rw[hF];exact ra) f' q.2 k⟩
 ·exact q.elim
theorem c_:YB X [] (fun E μ=>E.nx μ):=⟨_,Z.c_,fun F D E ad B σ H μ hK l q h=>h.nx ad B σ H μ l Fr.refl q⟩
theorem aD(h:YS X st u):YB X [st] u:=by obtain⟨t,q,r⟩:=h;exact⟨t,Z.aD q,r⟩
noncomputable def y4(u w:US):US:=fun E μ=>u {E with nx:=w E} μ
theorem af(h:YS X st u)(h2:YB X sts w):YB X (st::sts) (y4 u w):=by
 obtain⟨t,q,r⟩:=h;obtain⟨t',q',r'⟩:=h2;exact⟨_,Z.af q q',fun F D E ad B σ H μ hK l q h=>r F {D with nx:=t' D} {E with nx:=w E} ad B σ H μ hK l q
  ⟨fun ad1 B1 σ1 H1 μ1 l1 f1 q1=>r' F D E ad1 B1 σ1 H1 μ1 hK l1 q1 (h.step f1),h.rt,h.bk,h.ct⟩⟩
noncomputable def j_(ue:UE)(g:UG):US:=fun E μ=>ue μ fun r μ'=>g r μ' E.nx
theorem j4{tg:TG}{g:UG}(he:RE K te ue)(hg:RG K tg g):RS K (pw te tg) (j_ ue g):=fun F D E ad B σ H μ hK l q h =>
 he F ad B σ H μ _ _ hK l q fun v H' r μ' v1 f k1 q1=>hg F ad B σ H' μ' v r B H _ _ hK v1 f q1 fun ad' B' σ' H2 μ2 l2 f2 q2=>h.nx ad' B' σ' H2 μ2 l2 f2 q2
theorem set(hN:X.N.Nodup)(hi:X.N[i]?=some x)(hx:Loc X.env.scope x)(he:YE X e ue)(hs:autoParam (Z.DP e=true) ℜ0)(hf:autoParam (X.fn x=true\/X.env.scope.names.lookup x=some .local) ℜ2):
  YS X (.Assign [.Name x pos'] e pos) (j_ ue (gN i)):=by
 obtain⟨t,q,r⟩:=he;exact⟨_,Z.set hN hi hx q hs hf,j4 r my⟩
theorem asg{g:UG}(he:YE X e ue)(hg:YG X tg g)(hs:autoParam (swapsWithSole [tg] e pos.line X.env=pure false) ℜ0)(hw:autoParam (swappedStores [tg] e X.env=pure none) ℜ0)
  (h1:autoParam ((assignEach [tg] X.env).map (·.2)=[assign tg X.env]) ℜ0):YS X (.Assign [tg] e pos) (j_ ue g):=by
 obtain⟨t,q,r⟩:=he;obtain⟨t',q',r'⟩:=hg;exact⟨_,Z.asg q q' hs hw h1,j4 r r'⟩
def t9(ue:UE):US:=fun E μ=>ue μ E.rt
theorem ret(he:YE X e ue):YS X (.Return (some e) pos) (t9 ue):=by
 obtain⟨t,q,r⟩:=he;exact⟨_,Z.ret q,fun F D E ad B σ H μ hK l q h=>r F ad B σ H μ _ _ hK l q fun v H' r1 μ' v1 f k1 q1=>h.rt ad B σ H' μ' v r1 v1 q1⟩
noncomputable def rj(ue:UE):US:=fun E μ=>ue μ fun _ μ'=>E.nx μ'
theorem expr(he:YE X e ue)(hs:autoParam (Z.DP e=true) ℜ0):YS X (.Expr e pos) (rj ue):=by
 obtain⟨t,q,r⟩:=he;exact⟨_,Z.expr q hs,fun F D E ad B σ H μ hK l q h=>r F ad B σ H μ _ _ hK l q fun v H' r1 μ' v1 f k1 q1=>h.nx ad B σ H' μ' v1.rl f.d q1⟩
noncomputable def zj(c:UT)(u w:US):US:=fun E μ=>c μ fun b μ'=>if b=true then u E μ' else w E μ'
theorem gm(hc:YT X c uA)(ha:YB X xs u)(hb:YB X ys w):YS X (.If c xs ys pos) (zj uA u w):=by
 obtain⟨tc,qc,rc⟩:=hc;obtain⟨t,q,r⟩:=ha;obtain⟨t',q',r'⟩:=hb;refine⟨_,Z.gm qc q q',fun F D E ad B σ H μ hK l q h=>rc F ad B σ H μ _ _ hK l q fun b H' μ' l1 f k1 q1=>?_⟩
 cases b with
 |true=>rw[Jy rfl] at q1 ⊢;exact r F D E ad B σ H' μ' hK l1 q1 (h.step f)
 |false=>rw[Ju Jw] at q1 ⊢;exact r' F D E ad B σ H' μ' hK l1 q1 (h.step f)
end
end Y
structure jG (K:Oi) (J:It) (Src:Hp->bo->Prop) (items:List T):Prop where
 step:∀ H B i t,(∀ b,B b->∃ o,H b=some o)->Src H B->items[i]?=some t->J.go i H/\∀ x H2,J.Gf i H x H2->cu H H2/\Rep K H2 B x t
 stop:∀ H B,Src H B->J.stop items.length H
theorem jG.imp{J:It}{Src':Hp->bo->Prop}{items:List T}(h:jG K J Src items)(f:∀ H B,Src' H B->Src H B):jG K J Src' items:=⟨fun H B i t hb s e=>h.step H B i t hb (f H B s) e,fun H B s=>h.stop H B (f H B s)⟩
noncomputable def EW(F:Fx)(ad:Nat->Addr)(Src:Hp->bo->Prop):Option (Nat×List T)->Prop
 |none=>∀ B1 H1 B2 H2,Fr B1 H1 B2 H2->Src H1 B1->Src H2 B2
 |some (j,ls)=>(∀ B' σ' H' μ',Rl F ad B' σ' H' μ'->cont μ' (.br j)=some (.lst ls)->Src H' B')/\∀ B' H',Rep F.K H' B' (.ref (ad j)) (.lst ls)->Src H' B'
abbrev UI:=Mu->(List T->Option (Nat×List T)->Mu->Prop)->Prop
noncomputable def RI(K:Oi)(wi:TI)(ui:UI):Prop:=∀(F:Fx) (ad:Nat->Addr) (B:bo) (σ:St) (H:Hp) (μ:Mu) (R:It->Hp->Prop) (Rt:List T->Option (Nat×List T)->Mu->Prop),F.K=K->Rl F ad B σ H μ->ui μ Rt ->
 (∀ J H' μ' items gd Src,Rl F ad B σ H' μ'->Fr B H B H'->Kp μ μ'->jG K J Src items->Src H' B->EW F ad Src gd->(∀ j ls,gd=some (j,ls)->cont μ' (.br j)=some (.lst ls))->Rt items gd μ'->R J H')->wi σ H R
structure YI (X:Cx) (tg it:Expr) (u:UI):Prop where
 ex:∃ t,QI X tg it t/\RI X.K t u
theorem xK:jG K (Fy K a) (fun H B=>∃ vs,cJ K H a vs/\au K H B vs ts) ts:=
 ⟨fun H B i t hb ⟨vs,h,r⟩ e=>by
  obtain⟨v,e1,rv⟩:=r.get e;refine⟨⟨vs,v,h,e1⟩,fun x H2 y=>?_⟩;obtain⟨rfl,y⟩:=y;have:=y vs h;rw[e1] at this;cases this;exact⟨cu.refl _,rv⟩,fun H B ⟨vs,h,r⟩=>⟨vs,h,by rw[r.length];exact J6 _⟩⟩
theorem Cc:jG K (Fp K a) (fun H B=>∃ vs,cD K H a vs/\au K H B vs ts) ts:=
 ⟨fun H B i t hb ⟨vs,h,r⟩ e=>by
  obtain⟨v,e1,rv⟩:=r.get e;refine⟨⟨vs,v,h,e1⟩,fun x H2 y=>?_⟩;obtain⟨rfl,y⟩:=y;have:=y vs h;rw[e1] at this;cases this;exact⟨cu.refl _,rv⟩,fun H B ⟨vs,h,r⟩=>⟨vs,h,by rw[r.length];exact J6 _⟩⟩
noncomputable def pairs(ts:List T):List T:=(List.range ts.length).map fun i=>.tup [.int (i:Nat),(ts[i]?).getD .aJ]
theorem BE:jG K (zt K a) (fun H B=>∃ vs,cD K H a vs/\au K H B vs ts) (pairs ts):=by
 refine⟨fun H B i t hb ⟨vs,h,r⟩ e=>?_,fun H B ⟨vs,h,r⟩=>⟨vs,h,by rw[r.length];simp[pairs]⟩⟩
 unfold pairs at e;rw[J9] at e;have hi:i<ts.length:=by
  rcases Ks i ts.length with z|z
  ·exact z
  ·rw[JM.mpr (by simpa using z)] at e;cases e
 rw[KG hi] at e;have e':T.tup [.int (i:Nat),(ts[i]?).getD .aJ]=t:=Option.some.inj e;have et:ts[i]?=some ts[i]:=Jq hi;obtain⟨v,e1,rv⟩:=r.get et;refine⟨⟨v,vs,h,e1⟩,fun x H2 y=>?_⟩;obtain⟨p,y,hy,hp,rfl,rfl⟩:=y;have:=hy vs h;rw[e1] at this;cases this;subst e';rw[et];refine⟨cu.new hp,.tup (fun z=>?_) ax (.cons (.int _) (.cons (rv.fr (Fr.same (cu.new hp))) .nil))⟩;obtain⟨o,q⟩:=hb p z;rw[hp] at q;cases q
theorem BW{lo:Int}:jG K (Fq lo n) (fun _ _=>True) ((List.range n).map fun k=>T.int (lo+(k:Nat))):=
 ⟨fun H B i t hb _ e=>by
  rw[J9] at e;have hi:i<n:=by
   rcases Ks i n with z|z
   ·exact z
   ·rw[JM.mpr (by simpa using z)] at e;cases e
  rw[KG hi] at e;refine⟨hi,fun x H2 y=>?_⟩;obtain⟨rfl,rfl⟩:=y;cases e;exact⟨cu.refl _,.int _⟩,fun H B _=>by simp[Fq]⟩
noncomputable def Hd(K:Oi)(tl:TE):TI:=fun σ H R=>tl σ H fun x H1=>∃ a,x=V.ref a/\(((∃ xs,cJ K H1 a xs)/\R (Fy K a) H1)\/((∃ xs,cD K H1 a xs)/\R (Fp K a) H1))
theorem B6{l:Expr}{tl:TE}(hl:PE X l tl):PI X tg l (Hd X.K tl):=by
 intro pins s σ H R I h;refine cB (hl pins s σ H _ I h) fun v s1 ⟨x,H1,I1,r1,q1⟩=>?_;obtain⟨a,rfl,q⟩:=q1;cases r1;rcases q with ⟨⟨xs,hq⟩,q⟩|⟨⟨xs,hq⟩,q⟩
 ·obtain⟨its,rv,p,hz⟩:=I1.list hq;refine Lm p.isList ?_;refine⟨s1.heap.objs.size,[s1.heap.objs.size],_,_,H1,rfl,I1.kept (t':=s1.toks) fun b o e=>Jr _ e,t7 a _,⟨_,JC _ rfl,rfl,rfl⟩,fun b hb=>?_,q⟩;have e:b=s1.heap.objs.size:=by simpa using hb
  subst e;exact I1.sL (J6 _) (I1.aU.fresh (J6 _))
 ·obtain⟨its,rv,p,hz⟩:=I1.tuple hq;refine KL (show s1.heap.IsTuple a its.toArray from p) ?_;refine⟨s1.heap.objs.size,[s1.heap.objs.size],_,_,H1,rfl,I1.kept (t':=s1.toks) fun b o e=>Jr _ e,oK a _,⟨_,JC _ rfl,rfl,rfl⟩,fun b hb=>?_,q⟩;have e:b=s1.heap.objs.size:=by simpa using hb
  subst e;exact I1.sL (J6 _) (I1.aU.fresh (J6 _))
namespace Y
section
variable {X:Cx} {a b c e o tg it:Expr} {es rest:List Expr} {ua ub uc ue uo:UE} {uA uB:UT} {us:UA} {pos pos' p p2 p3:Pos} {x:Str} {st:Stmt} {sts xs ys:List Stmt} {u w:US}
noncomputable def AO(ue:UE):UI:=fun μ Rt=>ue μ fun r μ'=>match r with
 |.br j=>(match cont μ' (.br j) with|some (.lst ts)=>Rt ts (some (j,ts)) μ'|_=>False)
 |.tr (.lst ts)=>Rt ts none μ'
 |.fr (.lst ts)=>Rt ts none μ'
 |.tr (.tup ts)=>Rt ts none μ'
 |.tr (.eU ts)=>Rt ts none μ'
 |.tr (.d_ ts)=>Rt ts none μ'
 |_=>False
theorem any(K:Oi)(hK:X.K=K)(he:YE X e ue):YI X tg e (AO ue):=by
 obtain⟨t,q,r⟩:=he;subst hK;refine⟨_,⟨B6 q.h⟩,fun F ad B σ H μ R Rt hF l q k=>r F ad B σ H μ _ _ hF l q fun v H' r1 μ' v1 f k1 q1=>?_⟩;have hv:=v1.hv;have l1:=v1.rl;have go:∀(ts:List T) (a:Addr) (t:T),v=.ref a->Rep F.K H' B (.ref a) t->(t=.lst ts\/t=.eU ts)->Rt ts none μ'->∃ a,v=V.ref a/\(((∃ xs,cJ X.K H' a xs)/\R (Fy X.K a) H')\/((∃ xs,cD X.K H' a xs)/\R (Fp X.K a) H')):=fun ts a t ev rp et q=>by
  have sr:∀ H B,Rep F.K H B (.ref a) t->∃ vs,cJ X.K H a vs/\au X.K H B vs ts:=fun H B h=>by
   rw[hF] at h;rcases et with rfl|rfl
   ·cases h with|lst n h r=>exact⟨_,cJ.of h,r⟩
   ·cases h with|eU h r=>exact⟨_,h.sq,r⟩
  obtain⟨vs,h1,_⟩:=sr _ _ rp;exact⟨a,ev,.inl ⟨⟨vs,h1⟩,k _ H' μ' ts none (fun H B=>Rep F.K H B (.ref a) t) l1 f.d k1 (xK.imp sr) rp (fun B1 H1 B2 H2 f h=>h.fr f) (fun j ls z=>by cases z) q⟩⟩
 have goT:∀(ts:List T) (a:Addr) (t:T),v=.ref a->Rep F.K H' B (.ref a) t->(t=.tup ts\/t=.d_ ts)->Rt ts none μ'->∃ a,v=V.ref a/\(((∃ xs,cJ X.K H' a xs)/\R (Fy X.K a) H')\/((∃ xs,cD X.K H' a xs)/\R (Fp X.K a) H')):=fun ts a t ev rp et q=>by
  have sr:∀ H B,Rep F.K H B (.ref a) t->∃ vs,cD X.K H a vs/\au X.K H B vs ts:=fun H B h=>by
   rw[hF] at h;rcases et with rfl|rfl
   ·cases h with|tup n h r=>exact⟨_,cD.of h,r⟩
   ·cases h with|d_ h r=>exact⟨_,.inr h,r⟩
  obtain⟨vs,h1,_⟩:=sr _ _ rp;exact⟨a,ev,.inr ⟨⟨vs,h1⟩,k _ H' μ' ts none (fun H B=>Rep F.K H B (.ref a) t) l1 f.d k1 (Cc.imp sr) rp (fun B1 H1 B2 H2 f h=>h.fr f) (fun j ls z=>by cases z) q⟩⟩
 split at q1
 ·rename_i j
  split at q1
  ·rename_i ts e;obtain⟨ev,s,c,e1,e2⟩:=hv;have src:∀ B' σ' H' μ',Rl F ad B' σ' H' μ'->cont μ' (.br j)=some (.lst ts)->∃ vs,cJ X.K H' (ad j) vs/\au X.K H' B' vs ts:=fun B' σ' H' μ' l e=>by
    have e3:(μ'[j]?).bind Sl.box=some (.lst ts):=e
    cases q:μ'[j]? with
    |none=>rw[q] at e3;cases e3
    |some s' =>
     rw[q] at e3;have bx:=((l.slot j s' q).boxed (c:=.lst ts) e3).2.2.1;rw[hF] at bx;obtain⟨vs,h1,h2⟩:=bx;exact⟨vs,cJ.of h1,h2⟩
   obtain⟨vs,h1,h2⟩:=src _ _ _ _ l1 e;refine⟨ad j,ev,.inl ⟨⟨vs,h1⟩,k _ H' μ' ts (some (j,ts)) _ l1 f.d k1 xK ⟨vs,h1,h2⟩ ⟨src,fun B' H' h=>?_⟩ (fun j' ls z=>by cases z;exact e) q1⟩⟩
   rw[hF] at h
   cases h with|lst n h r=>exact⟨_,cJ.of h,r⟩
  ·exact q1.elim
 ·have rp:Rep F.K H' B v _:=hv
  cases rp with|lst n h r=>exact go _ _ _ rfl (.lst n h r) (.inl rfl) q1
 ·have rp:Rep F.K H' B v _:=hv
  cases rp with|lst n h r=>exact go _ _ _ rfl (.lst n h r) (.inl rfl) q1
 ·have rp:Rep F.K H' B v _:=hv
  cases rp with|tup n h r=>exact goT _ _ _ rfl (.tup n h r) (.inl rfl) q1
 ·have rp:Rep F.K H' B v _:=hv
  cases rp with|eU h r=>exact go _ _ _ rfl (.eU h r) (.inr rfl) q1
 ·have rp:Rep F.K H' B v _:=hv
  cases rp with|d_ h r=>exact goT _ _ _ rfl (.d_ h r) (.inr rfl) q1
 ·exact q1.elim
noncomputable def G3(us:UA):UI:=fun μ Rt=>us μ fun rs μ'=>match rs with
 |[.tr (.int j)]=>-(2^62)<=j/\j<2^62/\Rt ((List.range j.toNat).map fun k=>T.int (0+(k:Nat))) none μ'
 |_=>False
theorem jY(hg:Gl X "range")(hm:X.mg "range"=none)(ha:YA X [a] us)(h:autoParam (dq a=true) ℜ0):YI X tg (.Call (.Name "range" p) [a] [] pos) (G3 us):=by
 obtain⟨t,q,r⟩:=ha;refine⟨_,Z.jY hg hm q h,fun F ad B σ H μ R Rt hF l q k=>r F ad B σ H μ _ _ hF l q fun vs H' rs μ' l1 ps f k1 q1=>?_⟩
 split at q1
 ·cases ps with
  |cons h1 ps=>cases ps;cases bP h1;exact⟨_,rfl,q1.1,q1.2.1,k _ H' μ' _ none _ l1 f k1 BW trivial (fun _ _ _ _ _ _=>trivial) (fun j ls z=>by cases z) q1.2.2⟩
 ·exact q1.elim
noncomputable def GO(us:UA):UI:=fun μ Rt=>us μ fun rs μ'=>match rs with
 |[.tr (.tup ts)]=>Rt (pairs ts) none μ'
 |_=>False
theorem enum(K:Oi)(hK:X.K=K)(hg:Gl X "enumerate")(hm:X.mg "enumerate"=none)(ha:YA X [e] us)(h1:autoParam (dq e=true) ℜ0):YI X (.Tuple es k tp) (.Call (.Name "enumerate" p) [e] [] pos) (GO us):=by
 obtain⟨t,q,r⟩:=ha;refine⟨_,Z.enum K hK hg hm q h1,fun F ad B σ H μ R Rt hF l q k=>r F ad B σ H μ _ _ hF l q fun vs H' rs μ' l1 ps f k1 q1=>?_⟩;have hF':F.K=K:=hF.trans hK
 split at q1
 ·rename_i ts
  cases ps with
  |cons h1 ps =>
   cases ps;have rp:=bP h1
   cases rp with
   |@tup a vs _ n h rr =>
    have sr:∀ H B,Rep F.K H B (.ref a) (.tup ts)->∃ vs,cD X.K H a vs/\au X.K H B vs ts:=fun H B h=>by
     rw[hF] at h
     cases h with|tup n h r=>exact⟨_,cD.of h,r⟩
    refine⟨a,rfl,⟨vs,cD.of h⟩,?_⟩;have:=k (zt X.K a) H' μ' (pairs ts) none (fun H B=>Rep F.K H B (.ref a) (.tup ts)) l1 f k1 (BE.imp sr) (.tup n h rr) (fun B1 H1 B2 H2 f h=>h.fr f) (fun j ls z=>by cases z) q1
    rw[hK] at this;exact this
 ·exact q1.elim
noncomputable def fD(g:UG)(body:US)(E:Ed):List T->Mu->Prop
 |[],μ=>E.nx μ
 |t::ts,μ=>g (.tr t) μ fun μ1=>body {E with nx:=fD g body E ts,ct:=fD g body E ts,bk:=E.nx} μ1
noncomputable def uR(ui:UI)(g:UG)(body:US):US:=fun E μ=>ui μ fun items gd μ'=>match gd with
 |none=>fD g body E items μ'
 |some (j,_)=>(match μ'[j]? with
  |some (.bx c)=>fD g body E items (μ'.set j (.tr c))
  |_=>False)
theorem nX{g:TG}{ug:UG}{tb:TS}{body:US}{D:Ends}{E:Ed}{J:It}{items:List T}{B0:bo}{H0:Hp}(hF:F.K=K)(hg:RG K g ug)(hb:RS K tb body)(it:jG K J Src items)
  (pe:∀ B1 H1 B2 H2,Fr B1 H1 B2 H2->Src H1 B1->Src H2 B2) (hE:tD F B0 H0 D E)      (l:Rl F ad B σ H μ) (f:Fr B0 H0 B H) (sr:Src H B) (q:fD ug body E items μ) :
  ∃ W:Nat->Nat->St->Hp->Prop,(∃ m,W 0 m σ H)/\∀ i m σ H,W i m σ H ->
   (J.stop i H/\D.nx σ H)\/(J.go i H/\∃ N:St->Hp->Prop,(∀ σ' H',N σ' H'->∃ m',m'<m/\W (i+1) m' σ' H')/\∀ x H',J.Gf i H x H'->g x σ H' fun σ2 H2=>tb {D with nx:=N,ct:=N,bk:=D.nx} σ2 H2):=by
 refine⟨fun i m σ H=>m=items.length-i/\i<=items.length/\∃ ad B μ,Rl F ad B σ H μ/\Fr B0 H0 B H/\Src H B/\fD ug body E (items.drop i) μ,⟨items.length,by simp,Kh _,ad,B,μ,l,f,sr,q⟩,?_⟩
 rintro i m σ H ⟨rfl,hi,ad,B,μ,l,f,sr,q⟩;by_cases hlt:i<items.length
 ·have ei:items[i]?=some items[i]:=Jq hlt;rw[Lr hlt] at q;obtain⟨go,yl⟩:=it.step H B i _ l.fY sr ei;refine .inr ⟨go,fun σ' H'=>∃ ad' B' μ',Rl F ad' B' σ' H' μ'/\Fr B0 H0 B' H'/\Src H' B'/\fD ug body E (items.drop (i+1)) μ',fun σ' H' h=>⟨items.length-(i+1),by lia,rfl,hlt,h⟩,fun x H2 y=>?_⟩
  obtain⟨sm,rp⟩:=yl x H2 y;refine hg F ad B σ H2 μ x (.tr _) B H2 _ _ hF ⟨l.same sm,by show Rep F.K H2 B x _;rw[hF];exact rp⟩ Fr.refl q fun ad3 B3 σ3 H3 μ3 l3 f3 q3=>?_
  have f03:Fr B0 H0 B3 H3:=(f.trans (Fr.same sm)).trans f3;have s3:Src H3 B3:=pe _ _ _ _ ((Fr.same sm).trans f3) sr;exact hb F _ _ ad3 B3 σ3 H3 μ3 hF l3 q3 ⟨fun ad' B' σ' H' μ' l' f' q'=>⟨ad',B',μ',l',f03.trans f',pe _ _ _ _ f' s3,q'⟩,hE.rt,fun ad' B' σ' H' μ' l' f' q'=>hE.nx ad' B' σ' H' μ' l' (f03.trans f') q',fun ad' B' σ' H' μ' l' f' q'=>⟨ad',B',μ',l',f03.trans f',pe _ _ _ _ f' s3,q'⟩⟩
 ·have e:i=items.length:=by lia
  subst e;rw[List.drop_length] at q;exact .inl ⟨it.stop H B sr,hE.nx ad B σ H μ l f q⟩
theorem eB{ui:UI}{g:UG}(hp:PassesOwn (model X.prog X.w) X.A X.env X.xe)(hc:X.calm=true)(hi:YI X tg it ui)(hg:YG X tg g)(hb:YB X xs u)(hs:autoParam (∀ x,foldedSetIterable it X.env x=pure x) ℜ3):YS X (.For tg it xs [] pos) (uR ui g u):=by
 obtain⟨ti,qi,ri⟩:=hi;obtain⟨tg',qg,rg⟩:=hg;obtain⟨t,q,r⟩:=hb;refine⟨_,Z.eB hp hc qi qg q hs,fun F D E ad B σ H μ hF l q h=>ri F ad B σ H μ _ _ hF l q fun J H' μ' items gd Src l1 f1 k1 it sr so gok q1=>?_⟩
 split at q1
 ·exact nX hF rg r it so h l1 f1 sr q1
 ·rename_i j ls
  split at q1
  ·rename_i c ej;have bx:=l1.slot j _ ej;have hc:¬ F.Bc (ad j):=fun z=>by
    obtain⟨o,e⟩:=F.bh _ z;rw[bx.2.2.1] at e;cases e
   obtain⟨l2,rp⟩:=l1.freeze ej hc;have ec:c=.lst ls:=by
    have:=gok j ls rfl;have e2:(μ'[j]?).bind Sl.box=some (.lst ls):=this;rw[ej] at e2;exact Option.some.inj e2
   subst ec;exact nX (Src:=fun H B=>Rep F.K H B (.ref (ad j)) (.lst ls)) hF rg r (it.imp fun H B h=>so.2 B H h) (fun B1 H1 B2 H2 f h=>h.fr f) h l2 (f1.trans (Fr.less fun b z=>z.1)) rp q1
  ·exact q1.elim
noncomputable def D7(c:UT)(body:US):US:=fun E μ=>∃ I:Nat->Mu->Prop,(∃ m,I m μ)/\∀ m μ,I m μ->c μ fun b μ'=>if b=true then body {E with nx:=fun μ2=>∃ m',m'<m/\I m' μ2,ct:=fun μ2=>∃ m',m'<m/\I m' μ2,bk:=E.nx} μ' else E.nx μ'
theorem gC(hp:PassesOwn (model X.prog X.w) X.A X.env X.xe)(hc:YT X c uA)(hb:YB X xs u):YS X (.While c xs [] pos) (D7 uA u):=by
 obtain⟨tc,qc,rc⟩:=hc;obtain⟨t,q,r⟩:=hb;refine⟨_,Z.gC hp qc q,fun F D E ad B σ H μ hF l q h=>?_⟩;obtain⟨I,⟨m0,i0⟩,turn⟩:=q;refine⟨fun m σ' H'=>∃ ad' B' μ',Rl F ad' B' σ' H' μ'/\Fr B H B' H'/\I m μ',⟨m0,ad,B,μ,l,Fr.refl,i0⟩,?_⟩;rintro m σ1 H1 ⟨ad1,B1,μ1,l1,f1,i1⟩;refine rc F ad1 B1 σ1 H1 μ1 _ _ hF l1 (turn m μ1 i1) fun b H2 μ2 l2 f2 k2 q2=>?_
 cases b with
 |true =>
  rw[Jy rfl] at q2 ⊢;refine⟨fun σ' H'=>∃ m',m'<m/\∃ ad' B' μ',Rl F ad' B' σ' H' μ'/\Fr B H B' H'/\I m' μ',fun σ' H' h=>h,?_⟩;have hn:∀ ad' B' σ' H' μ',Rl F ad' B' σ' H' μ'->Fr B1 H2 B' H'->(∃ m',m'<m/\I m' μ')->∃ m',m'<m/\∃ ad' B' μ',Rl F ad' B' σ' H' μ'/\Fr B H B' H'/\I m' μ':=fun ad' B' σ' H' μ' l' f' ⟨m',hm,i'⟩=>⟨m',hm,ad',B',μ',l',(f1.trans f2).trans f',i'⟩;exact r F _ _ ad1 B1 σ1 H2 μ2 hF l2 q2 ⟨hn,h.rt,fun ad' B' σ' H' μ' l' f' q'=>h.nx ad' B' σ' H' μ' l' ((f1.trans f2).trans f') q',hn⟩
 |false =>
  rw[Ju Jw] at q2 ⊢;exact h.nx ad1 B1 σ1 H2 μ2 l2 (f1.trans f2) q2
end
end Y
noncomputable def sR(K:Oi)(u:UE):TE:=fun σ H Q=>∃(F:Fx) (ad:Nat->Addr) (B:bo) (μ:Mu) (Qt:R->Mu->Prop),F.K=K/\Rl F ad B σ H μ/\u μ Qt/\∀ v H' r μ',Vr F ad B σ H' μ' v r->Fr B H (Bv B v r) H'->Kp μ μ'->Qt r μ'->Q v H'
noncomputable def sJ(K:Oi)(u:UT):TT:=fun σ H Q=>∃(F:Fx) (ad:Nat->Addr) (B:bo) (μ:Mu) (Qt:Bool->Mu->Prop),F.K=K/\Rl F ad B σ H μ/\u μ Qt/\∀ b H' μ',Rl F ad B σ H' μ'->Fr B H B H'->Kp μ μ'->Qt b μ'->Q b H'
theorem YE.Aq{u:UE}(h:YE X e u):QE X e (sR X.K u):=⟨fun pins s σ H Q I hh=>by
 obtain⟨F,ad,B,μ,Qt,hF,l,q,k⟩:=hh;obtain⟨t,qe,r⟩:=h;exact qe.h pins s σ H Q I (r F ad B σ H μ Q Qt hF l q k)⟩
theorem Bd.Aq{e:List Expr}{u:UT}(h:Bd X e u):DS X e (sJ X.K u):=⟨fun pins s σ H Q I hh=>by
 obtain⟨F,ad,B,μ,Qt,hF,l,q,k⟩:=hh;obtain⟨t,qe,r⟩:=h;exact qe.h pins s σ H Q I (r F ad B σ H μ Q Qt hF l q k)⟩
theorem qd{u:UE}:RE K (sR K u) u:=fun F ad B σ H μ Q Qt hF l q k=>⟨F,ad,B,μ,Qt,hF,l,q,k⟩
theorem qT{u:UT}:RT K (sJ K u) u:=fun F ad B σ H μ Q Qt hF l q k=>⟨F,ad,B,μ,Qt,hF,l,q,k⟩
noncomputable def Fx.sh(F:Fx):Fx:={F with P:=fun i=>match i with|0=>none|i+1=>F.P i}
noncomputable def EJ(ad:Nat->Addr):Nat->Addr:=fun i=>match i with|0=>0|i+1=>ad i
theorem Rl.push{x:V}{t:T}(l:Rl F ad B σ H μ)(h:Rep F.K H B x t):Rl F.sh (EJ ad) B (some x::σ) H (.tr t::μ):=by
 refine⟨JS (·+1) l.len,fun i s e=>?_,fun i j s u c d e1 e2 b1 b2 q=>?_,fun i a p=>?_,l.bc,l.fY,fun b o e n=>l.old b o e fun i z=>n (i+1) z,fun a ws ga=>?_⟩
 ·cases i with
  |zero =>
   have e':Sl.tr t=s:=by simpa using e
   subst e';exact⟨x,rfl,h⟩
  |succ i=>exact l.slot i s (by simpa using e)
 ·cases i with
  |zero =>
   have e':Sl.tr t=s:=by simpa using e1
   subst e';cases b1
  |succ i=>cases j with
   |zero =>
    have e':Sl.tr t=u:=by simpa using e2
    subst e';cases b2
   |succ j=>exact JS (·+1) (l.inj i j s u c d (by simpa using e1) (by simpa using e2) b1 b2 q)
 ·cases i with
  |zero=>cases p
  |succ i=>obtain⟨⟨c,e⟩,z⟩:=l.par i a p;exact⟨⟨c,by simpa using e⟩,z⟩
 ·obtain⟨g1,g2,g3⟩:=l.gh a ws ga;refine⟨g1,g2,fun i s c e b=>?_⟩
  cases i with
  |zero =>
   have e':Sl.tr t=s:=by simpa using e
   subst e';cases b
  |succ i=>exact g3 i s c (by simpa using e) b
theorem Rl.B8{y:Option V}(l:Rl F.sh (EJ ad) B (y::σ) H μ):Rl F ad B σ H μ.tail:=by
 have get:∀ i,μ.tail[i]?=μ[i+1]?:=fun i=>by cases μ<;>simp
 refine⟨?_,fun i s e=>?_,fun i j s u c d e1 e2 b1 b2 q=>?_,fun i a p=>?_,l.bc,l.fY,fun b o e n=>l.old b o e fun i z=>?_,fun a ws ga=>let ⟨g1,g2,g3⟩:=l.gh a ws ga;⟨g1,g2,fun i s c e b=>g3 (i+1) s c (by rw[<- get];exact e) b⟩⟩
 ·have:=l.len;rw[List.length_tail,this];rfl
 ·rw[get] at e;exact l.slot (i+1) s e
 ·rw[get] at e1 e2;exact Nat.succ.inj (l.inj (i+1) (j+1) s u c d e1 e2 b1 b2 q)
 ·obtain⟨⟨c,e⟩,z⟩:=l.par (i+1) a p;exact⟨⟨c,by rw[get];exact e⟩,z⟩
 ·cases i with
  |zero=>cases z
  |succ i=>exact n i z
theorem Kp.tail{s:Sl}(k:Kp (s::μ) μ'):Kp μ μ'.tail:=fun i=>by
 have:=k (i+1);rw[Nv] at this;rw[this]
 cases μ'<;>simp
noncomputable def Fx.g(F:Fx)(D:Addr)(ys:List V):Fx:={F with G:=fun b=>if b=D then some ys else F.G b}
section
variable {F:Fx} {ad:Nat->Addr} {B:bo} {σ:St} {H:Hp} {μ:Mu} {D:Addr} {ys zs:List V}
theorem Rl.Ia(l:Rl F ad B σ H μ)(h:H D=some (.lst ys))(hb:B D)(n:∀(i:Nat) (s:Sl) (c:T),μ[i]?=some s->s.box=some c->ad i≠D):Rl (F.g D ys) ad B σ H μ:=by
 refine⟨l.len,l.slot,l.inj,l.par,l.bc,l.fY,l.old,fun a vs e=>?_⟩;have e':(if a=D then some ys else F.G a)=some vs:=e
 by_cases z:a=D
 ·rw[Jy z] at e';cases e';subst z;exact⟨h,hb,n⟩
 ·rw[Ju z] at e';exact l.gh a vs e'
theorem Rl.Ic(l:Rl (F.g D ys) ad B σ H μ):H D=some (.lst ys)/\B D/\∀(i:Nat) (s:Sl) (c:T),μ[i]?=some s->s.box=some c->ad i≠D:=l.gh D ys (show (if D=D then some ys else F.G D)=some ys from Jy rfl)
theorem Rl.AB(l:Rl (F.g D ys) ad B σ H μ)(hg:F.G D=none):Rl F ad B σ H μ:=by
 refine⟨l.len,l.slot,l.inj,l.par,l.bc,l.fY,l.old,fun a vs e=>l.gh a vs ?_⟩;show (if a=D then some ys else F.G a)=some vs
 rw[Ju (by rintro rfl;rw[hg] at e;cases e)]
 exact e
theorem Rl.setG(l:Rl (F.g D ys) ad B σ H μ)(h0:F.H0 D=none):Rl (F.g D zs) ad B σ (upd H D (.lst zs)) μ:=by
 obtain⟨g1,g2,g3⟩:=l.Ic;have f:Fr B H B (upd H D (.lst zs)):=Fr.set g2;refine⟨l.len,fun i s e=>?_,l.inj,l.par,l.bc,fun b z=>?_,fun b o e n=>?_,fun a vs e=>?_⟩
 ·have k:=l.slot i s e;unfold iO at k ⊢
  split at k
  ·trivial
  ·obtain⟨v,e1,r1⟩:=k;exact⟨v,e1,r1.fr f⟩
  ·obtain⟨e1,b,z0,p,x⟩:=k;exact⟨e1,b,z0,p,x.of (ao (g3 i _ _ e rfl)) f⟩
  ·obtain⟨e1,b,p,x⟩:=k;exact⟨e1,b,p,x.of (ao (g3 i _ _ e rfl)) f⟩
 ·by_cases z':b=D
  ·subst z';exact⟨_,ax⟩
  ·rw[ao z'];exact l.fY b z
 ·rw[ao (by rintro rfl;have e':F.H0 _=some o:=e;rw[h0] at e';cases e')]
  exact l.old b o e n
 ·have e':(if a=D then some zs else F.G a)=some vs:=e
  by_cases z:a=D
  ·rw[Jy z] at e';cases e';subst z;exact⟨ax,g2,g3⟩
  ·rw[Ju z] at e';obtain⟨a1,a2,a3⟩:=l.gh a vs (show (if a=D then some ys else F.G a)=some vs by rw[Ju z];exact e')
   exact⟨by rw[ao z];exact a1,a2,a3⟩
end
namespace Y
noncomputable def Gd:Option (Nat×List T)->Mu->Prop
 |none,_=>True
 |some (j,ls),μ=>cont μ (.br j)=some (.lst ls)
noncomputable def oM(gd:Option (Nat×List T))(own:T->Mu->Option Mu)(dr:Mu->Mu)(ut:UT)(ue:UE)(Q:R->Mu->Prop):List T->List T->Mu->Prop
 |[],acc,μ=>Gd gd μ/\Q (.fr (.lst acc)) μ
 |t::r,acc,μ=>Gd gd μ/\acc.length<sizeLine/\(match own t μ with
  |none=>False
  |some μ1=>ut μ1 fun b μ2=>if b=true then ue μ2 fun rr μ3=>(match rr.d with
    |.tr t'=>oM gd own dr ut ue Q r (acc++[t']) (dr μ3)
    |_=>False) else oM gd own dr ut ue Q r acc (dr μ2))
noncomputable def vO(t:T)(μ:Mu):Option Mu:=some (.tr t::μ)
noncomputable def va(t:T)(μ:Mu):Option Mu:=match t with
 |.tup [a,b]=>some (.tr a::.tr b::μ)
 |_=>none
def FV(μ:Mu):Mu:=μ.tail
def Hn(μ:Mu):Mu:=μ.tail.tail
noncomputable def iF(own:T->Mu->Option Mu)(dr:Mu->Mu)(ui:UI)(ut:UT)(ue:UE):UE:=fun μ Q=>ui μ fun items gd μ'=>oM gd own dr ut ue Q items [] μ'
structure wK (K:Oi) (k:Nat) (g:TG) (own:T->Mu->Option Mu) (dr:Mu->Mu) (shF:Fx->Fx) (shA:(Nat->Addr)->Nat->Addr):Prop where
 fK:∀ F,(shF F).K=F.K
 step:∀(F:Fx) (ad:Nat->Addr) (B:bo) (σ:St) (H:Hp) (μ μ1:Mu) (x:V) (t:T) (σ':St) (Q:St->Hp->Prop),F.K=K->Rl F ad B σ H μ->Rep F.K H B x t->own t μ=some μ1->σ'.length=k->(∀ σ1,σ1.length=k->Rl (shF F) (shA ad) B (σ1++σ) H μ1->Q (σ1++σ) H)->g x (σ'++σ) H Q
 back:∀(F:Fx) (ad:Nat->Addr) (B:bo) (σ σ1:St) (H:Hp) (μ:Mu),σ1.length=k->Rl (shF F) (shA ad) B (σ1++σ) H μ->Rl F ad B σ H (dr μ)
 kp:∀(μ μ1 μ2:Mu) (t:T),own t μ=some μ1->Kp μ1 μ2->Kp μ (dr μ2)
theorem fm{α:Type _}{l:List α}(h:l.length=1):∃ y,l=[y]:=by
 rcases l with _|⟨a,_|⟨b,t⟩⟩
 ·cases h
 ·exact⟨a,rfl⟩
 ·cases h
theorem e_{α:Type _}{l:List α}(h:l.length=2):∃ y z,l=[y,z]:=by
 rcases l with _|⟨a,t⟩
 ·cases h
 ·obtain⟨b,rfl⟩:=fm (Nat.succ.inj h);exact⟨a,b,rfl⟩
theorem oG{α:Type _}{l:List α}(h:l.length=3):∃ x y z,l=[x,y,z]:=by
 rcases l with _|⟨a,t⟩
 ·cases h
 ·obtain⟨b,c,rfl⟩:=e_ (Nat.succ.inj h);exact⟨a,b,c,rfl⟩
theorem Ih{α:Type _}{l:List α}(h:l.length=4):∃ w x y z,l=[w,x,y,z]:=by
 rcases l with _|⟨a,t⟩
 ·cases h
 ·obtain⟨b,c,d,rfl⟩:=oG (Nat.succ.inj h);exact⟨a,b,c,d,rfl⟩
theorem m5:wK K 1 (dE 0) vO FV Fx.sh EJ where
 fK:=fun F=>rfl
 step:=fun F ad B σ H μ μ1 x t σ' Q hF l r e hk h=>by
  cases e;obtain⟨y,rfl⟩:∃ y,σ'=[y]:=by
   exact fm hk
  exact h [some x] rfl (l.push r)
 back:=fun F ad B σ σ1 H μ hk l=>by
  obtain⟨y,rfl⟩:∃ y,σ1=[y]:=by
   exact fm hk
  exact l.B8
 kp:=fun μ μ1 μ2 t e k=>by cases e;exact k.tail
theorem y_:wK K 2 (As K 2 (ko (dE 0) (ko (dE 1) yr))) va Hn (fun F=>F.sh.sh) (fun ad=>EJ (EJ ad)) where
 fK:=fun F=>rfl
 step:=fun F ad B σ H μ μ1 x t σ' Q hF l r e hk h=>by
  unfold va at e
  split at e
  ·rename_i a b;cases e;obtain⟨y,z,rfl⟩:∃ y z,σ'=[y,z]:=by
    exact e_ hk
   cases r with
   |tup n hh rr =>
    cases rr with
    |cons r1 rr=>cases rr with
     |cons r2 rr =>
      cases rr;exact⟨_,_,rfl,cD.of hh,rfl,_,_,rfl,_,_,rfl,rfl,h [some _,some _] rfl ((l.push r2).push (F:=F.sh) r1)⟩
  ·cases e
 back:=fun F ad B σ σ1 H μ hk l=>by
  obtain⟨y,z,rfl⟩:∃ y z,σ1=[y,z]:=by
   exact e_ hk
  exact (Rl.B8 (F:=F.sh) l).B8
 kp:=fun μ μ1 μ2 t e k=>by
  unfold va at e
  split at e
  ·cases e;exact k.tail.tail
  ·cases e
theorem iU{g:TG}{own:T->Mu->Option Mu}{shF:Fx->Fx}{shA:(Nat->Addr)->Nat->Addr}{wi:TI}{ui:UI}{ut:UT}(O:wK K k g own dr shF shA)(hi:RI K wi ui)(ht:RT K tc ut)(he:RE K te ue):RE K (kG wi k g tc te) (iF own dr ui ut ue):=by
 intro F ad B σ H μ Q Qt hF l q kk;refine hi F ad B σ H μ _ _ hF l q fun J H1 μ1 items gd Src l1 f1 k1 it sr so gk q1=>?_;intro D hD;have hnB:=l1.kh hD;have h0D:=l1.yK hD;have hGD:F.G D=none:=by
  cases q:F.G D with
  |none=>rfl
  |some vs=>have:=(l1.gh D vs q).1;rw[hD] at this;cases this
 have nbx:∀(μ':Mu),Kp μ μ'->∀(i:Nat) (s:Sl) (c:T),μ'[i]?=some s->s.box=some c->B (ad i):=fun μ' k i s c e b=>by
  obtain⟨s',c',e',b'⟩:=k.symm.fwd i s c e b;exact l.own i s' c' e' b'
 refine⟨fun i m ys σ' H'=>m=items.length-i/\i<=items.length/\∃ σ1 μ' acc,σ'=σ1++σ/\σ1.length=k/\Rl (F.g D ys) ad (more B D) σ H' μ'/\au F.K H' (more B D) ys acc/\Fr B H (more B D) H'/\Kp μ μ'/\(gd=none->Src H' (more B D))/\oM gd own dr ut ue Qt (items.drop i) acc μ',
  ⟨items.length,by simp,Kh _,_,μ1,[],rfl,JF,(l1.new hD).Ia ax (.inl rfl) (fun i s c e b z=>hnB (z ▸ nbx μ1 k1 i s c e b)),.nil,f1.trans (Fr.more hD),k1,fun z=>?_,q1⟩,?_⟩
 ·subst z;exact so _ _ _ _ (Fr.more hD) sr
 rintro i m ys σ' H' ⟨rfl,hi',σ1,μ',acc,rfl,hk,l2,ra,f2,k2,s2,q2⟩;have hD2:=l2.Ic.1;refine⟨hD2,?_⟩;have src:Gd gd μ'->Src H' (more B D):=fun hg=>by
  cases gd with
  |none=>exact s2 rfl
  |some jl=>obtain⟨j,ls⟩:=jl;exact so.1 _ _ _ _ (l2.AB hGD) hg
 by_cases hlt:i<items.length
 ·have ei:items[i]?=some items[i]:=Jq hlt;rw[Lr hlt] at q2;obtain⟨hg,hz,q2⟩:=q2;have sr2:=src hg;obtain⟨go,yl⟩:=it.step H' (more B D) i _ l2.fY sr2 ei;refine .inr ⟨go,by rw[ra.length];exact hz,fun x H3 y=>?_⟩
  obtain⟨sm,rp⟩:=yl x H3 y
  split at q2
  ·exact q2.elim
  ·rename_i μ3 eo;have f3:Fr (more B D) H' (more B D) H3:=Fr.same sm;have hF2:(F.g D ys).K=K:=hF;refine O.step (F.g D ys) ad (more B D) σ H3 μ' μ3 x _ σ1 _ hF2 (l2.same sm) (by rw[hF2];exact rp) eo hk fun σ4 hk4 l4=>?_
   refine ht (shF (F.g D ys)) (shA ad) (more B D) _ H3 μ3 _ _ ((O.fK _).trans hF2) l4 q2 fun b H5 μ5 l5 f5 k5 q5=>?_
   cases b with
   |true =>
    rw[Jy rfl] at q5 ⊢;refine he (shF (F.g D ys)) (shA ad) (more B D) _ H5 μ5 _ _ ((O.fK _).trans hF2) l5 q5 fun v H6 r6 μ6 v6 f6 k6 q6=>?_;have l6:=O.back (F.g D ys) ad (more B D) σ σ4 H6 μ6 hk4 v6.rl;refine⟨l6.Ic.1,?_⟩;have hv:=v6.hv
    split at q6
    ·rename_i t' e6;rw[e6] at hv;have rv:Rep F.K H6 (more B D) v t':=by have:=hv;unfold Hv at this;rw[O.fK] at this;exact this
     have fa:=(f3.trans f5).trans f6.d;have fs:Fr (more B D) H6 (more B D) (upd H6 D (.lst (ys++[v]))):=Fr.set (.inl rfl);refine⟨items.length-(i+1),by lia,rfl,hlt,σ4,dr μ6,acc++[t'],rfl,hk4,l6.setG h0D,((ra.fr fa).append (.cons rv .nil)).fr fs,(f2.trans fa).trans fs,k2.trans (O.kp μ' μ3 μ6 _ eo (k5.trans k6)),fun z=>?_,q6⟩
     subst z;exact so _ _ _ _ (fa.trans fs) (s2 rfl)
    ·exact q6.elim
   |false =>
    rw[Ju Jw] at q5 ⊢;have l6:=O.back (F.g D ys) ad (more B D) σ σ4 H5 μ5 hk4 l5;have fa:=f3.trans f5;refine⟨items.length-(i+1),by lia,rfl,hlt,σ4,dr μ5,acc,rfl,hk4,l6,ra.fr fa,f2.trans fa,k2.trans (O.kp μ' μ3 μ5 _ eo k5),fun z=>?_,q5⟩
    subst z;exact so _ _ _ _ fa (s2 rfl)
 ·have e:i=items.length:=by lia
  subst e;rw[List.drop_length] at q2;obtain⟨hg,q2⟩:=q2;have l3:=l2.AB hGD;refine .inl ⟨it.stop H' (more B D) (src hg),kk (.ref D) H' (.fr (.lst acc)) μ' ⟨l3.less (fun b z=>.inr z) l.bc (nbx μ' k2) (fun a vs ga=>?_),D,rfl,hnB,h0D,l3,ys,hD2,ra⟩ f2 k2 q2⟩;exact l.gB a vs ga
section
variable {X:Cx} {elt tg iter:Expr} {ifs:List Expr} {ue:UE} {ut:UT} {ui:UI} {pos pos' p2:Pos} {x:Str} {osc scope:Scope} {ON own N:List Str}
theorem i5(S:cR osc ON scope own N)(hosc:X.env.scope=osc)(hON:X.N=ON)(hc:X.calm=true)(ho:own.length=1)(hi:YI X tg iter ui)
  (hg:∀ C s H fp,QG (aM X scope N C s H fp) tg (dE 0)) (ht:∀ C s H fp,Bd (aM X scope N C s H fp) ifs ut) (he:∀ C s H fp,YE (aM X scope N C s H fp) elt ue) (hs:autoParam (∀ x,foldedSetIterable iter X.env x=pure x) ℜ3) :
  YE X (.ListComp elt [⟨tg,iter,ifs,0⟩] scope pos) (iF vO FV ui ut ue):=by
 obtain⟨t,q,r⟩:=hi;have h:=Z.comp (pos:=pos) (tc:=sJ X.K ut) (te:=sR X.K ue) S hosc hON hc q hg (fun C s H fp=>(ht C s H fp).Aq) (fun C s H fp=>(he C s H fp).Aq) hs;rw[ho] at h;exact⟨_,h,iU m5 r qT qd⟩
theorem Gg(K:Oi)(hK:X.K=K)(S:cR osc ON scope own N)(hosc:X.env.scope=osc)(hON:X.N=ON)(hc:X.calm=true)(ho:own.length=2)(hi:YI X tg iter ui)
  (hg:∀ C s H fp,QG (aM X scope N C s H fp) tg (As K 2 (ko (dE 0) (ko (dE 1) yr)))) (ht:∀ C s H fp,Bd (aM X scope N C s H fp) ifs ut) (he:∀ C s H fp,YE (aM X scope N C s H fp) elt ue) (hs:autoParam (∀ x,foldedSetIterable iter X.env x=pure x) ℜ3) :
  YE X (.ListComp elt [⟨tg,iter,ifs,0⟩] scope pos) (iF va Hn ui ut ue):=by
 obtain⟨t,q,r⟩:=hi;subst hK;have h:=Z.comp (pos:=pos) (tc:=sJ X.K ut) (te:=sR X.K ue) S hosc hON hc q hg (fun C s H fp=>(ht C s H fp).Aq) (fun C s H fp=>(he C s H fp).Aq) hs;rw[ho] at h;exact⟨_,h,iU y_ r qT qd⟩
theorem xl(hN:X.N.Nodup)(hj:X.N[j]?=some x)(hx:Loc X.env.scope x)(S:cR osc ON scope own N)(hosc:X.env.scope=osc)(hON:X.N=ON)(hc:X.calm=true)(ho:own.length=1)(hi:YI X tg iter ui)
  (hg:∀ C s H fp,QG (aM X scope N C s H fp) tg (dE 0)) (ht:∀ C s H fp,Bd (aM X scope N C s H fp) ifs ut) (he:∀ C s H fp,YE (aM X scope N C s H fp) elt ue)
  (hsw:autoParam (swapsWith (.ListComp elt [⟨tg,iter,ifs,0⟩] scope p2) (some (.Name x pos')) pos.line X.env=pure true) ℜ0)
  (hf:autoParam (X.fn x=true\/X.env.scope.names.lookup x=some .local) ℜ2) (hs:autoParam (∀ x,foldedSetIterable iter X.env x=pure x) ℜ3) :
  YS X (.Assign [.Name x pos'] (.ListComp elt [⟨tg,iter,ifs,0⟩] scope p2) pos) (j_ (iF vO FV ui ut ue) (gN j)):=by
 obtain⟨t,q,r⟩:=hi;have h:=Z.setC (tc:=sJ X.K ut) (te:=sR X.K ue) hN hj hx S hosc hON hc q hg (fun C s H fp=>(ht C s H fp).Aq) (fun C s H fp=>(he C s H fp).Aq) hsw hf hs;rw[ho] at h;exact⟨_,h,j4 (iU m5 r qT qd) my⟩
theorem oz:Bd X [] (fun μ Q=>Q true μ):=⟨_,Z.oz,fun F ad B σ H μ Q Qt hK l q k=>k true H μ l Fr.refl (Kp.refl μ) q⟩
theorem GB{c:Expr}(h:YT X c ut):Bd X [c] ut:=by obtain⟨t,q,r⟩:=h;exact⟨t,Z.GB q,r⟩
end
end Y
noncomputable def dH(μ:Mu)(j:Nat)(c:T):Mu:=match μ[j]? with
 |some s=>μ.set j (s.put c)
 |none=>μ
namespace Y
section
variable {X:Cx} {a b c e o tg it i:Expr} {es rest:List Expr} {ua ub uc ue uo ui:UE} {uA uB:UT} {us:UA} {pos pos' p p2 p3 apos:Pos} {x:Str} {st:Stmt} {sts xs ys:List Stmt} {u w:US}
noncomputable def gS(uo ui:UE):UG:=fun r μ Q=>match r.d with
 |.tr t=>uo μ fun ro μ1=>ui μ1 fun ri μ2=>(match ro,ri with
  |.br j,.tr (.int k)=>(match (μ2[j]?).bind Sl.box with
   |some (.lst ts)=>(match hZ ts.length k with
    |some n=>Q (dH μ2 j (.lst (ts.set n t)))
    |none=>False)
   |_=>False)
  |_,_=>False)
 |_=>False
theorem ot(ho:YE X o uo)(hi:YE X i ui)
  (ha:autoParam (∀ v,assign (.Subscript o i pos) X.env v=(do
   let ov <- holding [v] (eval o X.env)
   let iv <- holding [v,ov] (eval i X.env)
   standAt pos
   holding [v,ov,iv] (setItem ov iv v)
   release [v,ov,iv] [])) ℜ3):YG X (.Subscript o i pos) (gS uo ui):=by
 obtain⟨t,q,r⟩:=ho;obtain⟨t',q',r'⟩:=hi;refine⟨_,Z.ot q q' ha,fun F ad B σ H μ v rr B0 H0 Q Qt hF h f q k=>?_⟩;unfold gS at q;have f0:Fr B0 H0 B H:=fun b o h n=>⟨(f b o h n).1,fun z=>(f b o h n).2 (by cases rr<;>first|exact z | (cases v<;>first|exact z|exact .inr z))⟩
 have hv:=h.hv
 split at q
 ·rename_i t0 e0;rw[e0] at hv;refine r F ad B σ H μ _ _ hF h.rl q fun ov H1 r1 μ1 v1 f1 k1 q1=>r' F ad B σ H1 μ1 _ _ hF v1.rl q1 fun iv H2 r2 μ2 v2 f2 k2 q2=>?_
  split at q2
  ·rename_i j kk;have rp:=v2.2;cases rp;obtain⟨rfl,_⟩:=(v1.hv.fr f2.d k2)
   split at q2
   ·rename_i ts e
    split at q2
    ·rename_i n en
     cases ej:μ2[j]? with
     |none=>rw[ej] at e;cases e
     |some s =>
      rw[ej] at e;have e':s.box=some (.lst ts):=e;have l2:=v2.rl;obtain⟨vs,hl,rs⟩:=((l2.slot j s ej).boxed e').2.2.1;have rv:Rep F.K H2 B v t0:=(show Rep F.K H B v t0 from hv).fr (f1.d.trans f2.d);have l3:=l2.put ej e' (rs.set n rv);show uU (.ref (ad j)) (.int kk) v H2 _;rw[Ap.setRef,hl];simp only;rw[rs.length,en];simp only;unfold dH at q2;rw[ej] at q2;exact k ad B σ _ _ l3 ((f0.trans (f1.d.trans f2.d)).trans (Fr.set ((l2.slot j s ej).boxed e').2.1)) q2
    ·exact q2.elim
   ·exact q2.elim
  ·exact q2.elim
 ·exact q.elim
abbrev UM:=Nat->List R->Mu->(R->Mu->Prop)->Prop
noncomputable def Gr:Option T->Prop->Prop
 |some (.lst _),p=>p
 |_,_=>False
noncomputable def GI(um:UM)(uo:UE)(us:UA):UE:=fun μ Q=>uo μ fun ro μ1=>match ro with
 |.br j=>Gr ((μ1[j]?).bind Sl.box) (us μ1 fun rs μ2=>um j rs μ2 Q)
 |_=>False
noncomputable def RM(K:Oi)(r:V->List V->Hp->VK->Prop)(um:UM):Prop:=∀(F:Fx) (ad:Nat->Addr) (B:bo) (σ:St) (H:Hp) (μ:Mu) (Q:VK) (Qt:R->Mu->Prop) (j:Nat) (s:Sl) (c:T) (xs:List V) (rs:List R),F.K=K->Rl F ad B σ H μ->μ[j]?=some s->s.box=some c->Paired (Hv F ad B H μ) xs rs->um j rs μ Qt ->
 (∀ v H' r μ',Vr F ad B σ H' μ' v r->Fr B H (Bv B v r) H'->Kp μ μ'->Qt r μ'->Q v H')->r (.ref (ad j)) xs H Q
theorem bm(K:Oi)(hK:X.K=K){id:String}{r:V->List V->Hp->VK->Prop}{um:UM}(slot:Slot "list" name id)(hty:typeOf (.builtin id)=pure (.type "method_descriptor"))(hm:qX X id r)(hr:RM X.K r um)(ho:YE X o uo)(ha:YA X (e::es) us)
  (hbase:autoParam (attributeBase o name X.env (eval o X.env)=eval o X.env) ℜ0) (hline:autoParam ((apos.endLine == pos.line)=true) ℜ0) (h:autoParam ((e::es).all dq=true) ℜ0) (hl:autoParam ((e::es).length<30) ℜ1):YE X (.Call (.Attribute o name apos) (e::es) [] pos) (GI um uo us):=by
 obtain⟨t,q,rr⟩:=ho;obtain⟨t',q',r'⟩:=ha;refine⟨_,Z.bm K hK PySem.F.plainAttrs_list slot hty hm q q' hbase hline h hl,fun F ad B σ H μ Q Qt hF l q k=>rr F ad B σ H μ _ _ hF l q fun v H1 r1 μ1 v1 f1 k1 q1=>?_⟩
 split at q1
 ·rename_i j;obtain⟨l1,rfl,s,c,e1,e2⟩:=v1;rw[e1] at q1;have q1':Gr s.box _:=q1;rw[e2] at q1';rcases ((l1.slot j s e1).boxed e2).2.2.1.is with ⟨ts,vs,rfl,hl,_⟩|⟨_,_,_,rfl,_⟩
  case inr=>exact q1'.elim
  have q1:=(show us μ1 _ from q1');refine⟨.inl ⟨rfl,vs,cJ.of hl⟩,?_⟩;refine r' F ad B σ H1 μ1 _ _ hF l1 q1 fun xs H2 rs μ2 l2 ps f2 k2 q2=>?_;obtain⟨s',c',e3,e4⟩:=k2.fwd j s _ e1 e2;exact hr F ad B σ H2 μ2 _ _ j s' c' xs rs hF l2 e3 e4 ps q2 fun v H3 r3 μ3 v3 f3 k3 q3=>k v H3 r3 μ3 v3 ((f1.d.trans f2).trans f3) ((k1.trans k2).trans k3) q3
 ·exact q1.elim
noncomputable def gH:UM:=fun j rs μ Q=>match rs with
 |[.tr t]=>(match (μ[j]?).bind Sl.box with
  |some (.lst ts)=>ts.length<sizeLine/\Q (.tr .aJ) (dH μ j (.lst (ts++[t])))
  |_=>False)
 |_=>False
theorem cS:RM K qP gH:=by
 intro F ad B σ H μ Q Qt j s c xs rs hF l e b ps q k;unfold gH at q
 split at q
 ·cases ps with
  |cons h ps =>
   cases ps;rw[e] at q;have q':(match s.box with|some (.lst ts)=>ts.length<sizeLine/\Qt (.tr .aJ) (dH μ j (.lst (ts++[_])))|_=>False):=q
   rw[b] at q';rcases ((l.slot j s e).boxed b).2.2.1.is with ⟨ts,vs,rfl,hl,rv⟩|⟨_,_,_,rfl,_⟩
   case inr=>exact q'.elim
   simp only at q';refine⟨_,_,_,rfl,rfl,hl,by rw[rv.length];exact q'.1,?_⟩
   have l3:=l.put e b (rv.append (.cons (bP h) .nil));have q2:=q'.2;unfold dH at q2;rw[e] at q2;exact k _ _ (.tr .aJ) _ (Vr.flat l3 .aJ) (Fr.set ((l.slot j s e).boxed b).2.1) (Kp.set e b (Sl.iY b)) q2
 ·exact q.elim
end
end Y
noncomputable def jX:List Bool->List V->List Addr
 |true::md,.ref a::vs=>a::jX md vs
 |_::md,_::vs=>jX md vs
 |_,_=>[]
noncomputable def gi(K:Oi)(H:Hp)(B:bo):List Bool->List V->List T->Prop
 |[],[],[]=>True
 |false::md,v::vs,t::ts=>Rep K H B v t/\gi K H B md vs ts
 |true::md,v::vs,t::ts=>(∃ a,v=.ref a/\B a/\Bx K H B a t)/\gi K H B md vs ts
 |_,_,_=>False
abbrev dW:=List T->(R->List T->Prop)->Prop
variable{tsp:dW}
noncomputable def D_(K:Oi)(H H':Hp)(B:bo)(as:List Addr)(v:V)(outs:List T):R->Prop
 |.tr t=>Rep K H' B v t/\Paired (Bx K H' B) as outs
 |.fr c=>∃ a,v=.ref a/\H a=none/\¬ B a/\Bx K H' (more B a) a c/\Paired (Bx K H' (more B a)) as outs
 |.br _=>False
noncomputable def spT(K:Oi)(md:List Bool)(tsp:dW):Sp:=fun vs H Q _=>∃(B:bo) (args:List T) (Qt:R->List T->Prop),gi K H B md vs args/\(∀ b,B b->∃ o,H b=some o)/\(jX md vs).Nodup/\tsp args Qt /\
 ∀ v H' r outs,Qt r outs->(∀ b o,H b=some o->b∉jX md vs->H' b=some o)->D_ K H H' B (jX md vs) v outs r->Q v H'
theorem gi.len:∀{md:List Bool} {vs:List V} {ts:List T},gi K H B md vs ts->vs.length=md.length/\ts.length=md.length
 |[],[],[],_=>⟨rfl,rfl⟩
 |false::md,v::vs,t::ts,h=>⟨JS (·+1) (gi.len h.2).1,JS (·+1) (gi.len h.2).2⟩
 |true::md,v::vs,t::ts,h=>⟨JS (·+1) (gi.len h.2).1,JS (·+1) (gi.len h.2).2⟩
theorem gi.get:∀{md:List Bool} {vs:List V} {ts:List T} {i:Nat} {b:Bool},gi K H B md vs ts->md[i]?=some b->∃ v t,vs[i]?=some v/\ts[i]?=some t/\(if b=true then ∃ a,v=.ref a/\B a/\Bx K H B a t else Rep K H B v t)
 |[],[],[],i,b,_,e=>by simp at e
 |c::md,[],_,_,_,h,_=>by cases c<;>exact h.elim
 |c::md,v::vs,[],_,_,h,_=>by cases c<;>exact h.elim
 |c::md,v::vs,t::ts,0,b,h,e=>by
  have e':c=b:=by simpa using e
  subst e'
  cases c with
  |false=>exact⟨v,t,rfl,rfl,by rw[Ju Jw];exact h.1⟩
  |true=>exact⟨v,t,rfl,rfl,by rw[Jy rfl];exact h.1⟩
 |c::md,v::vs,t::ts,i+1,b,h,e=>by
  have h2:gi K H B md vs ts:=by cases c<;>exact h.2
  obtain⟨v',t',e1,e2,q⟩:=gi.get h2 (show md[i]?=some b by simpa using e)
  exact⟨v',t',by simpa using e1,by simpa using e2,q⟩
theorem fR:∀{md:List Bool} {vs:List V} {i:Nat} {a:Addr},md[i]?=some true->vs[i]?=some (.ref a)->a∈jX md vs
 |[],_,_,_,e,_=>by simp at e
 |c::md,[],_,_,_,e=>by simp at e
 |c::md,v::vs,0,a,e1,e2=>by
  have e1':c=true:=by simpa using e1
  have e2':v=.ref a:=by simpa using e2
  subst e1' e2';exact JG
 |c::md,v::vs,i+1,a,e1,e2=>by
  have:=fR (md:=md) (vs:=vs) (i:=i) (a:=a) (by simpa using e1) (by simpa using e2)
  cases c with
  |false=>exact this
  |true=>cases v<;>first|exact J8 _ this|exact this
theorem qp:∀{md:List Bool} {vs:List V} {i j:Nat} {a:Addr},(jX md vs).Nodup->md[i]?=some true->md[j]?=some true->vs[i]?=some (.ref a)->vs[j]?=some (.ref a)->i=j
 |[],_,_,_,_,_,e,_,_,_=>by simp at e
 |c::md,[],_,_,_,_,_,_,e,_=>by simp at e
 |c::md,v::vs,i,j,a,nd,e1,e2,e3,e4=>by
  have tl:(jX md vs).Nodup:=by
   cases c with
   |false=>exact nd
   |true=>cases v<;>first|exact (Ki.mp nd).2|exact nd
  cases i with
  |zero =>
   have e1':c=true:=by simpa using e1
   have e3':v=.ref a:=by simpa using e3
   subst e1' e3'
   cases j with
   |zero=>rfl
   |succ j=>exact absurd (fR (md:=md) (vs:=vs) (i:=j) (a:=a) (by simpa using e2) (by simpa using e4)) (Ki.mp nd).1
  |succ i=>cases j with
   |zero =>
    have e1':c=true:=by simpa using e2
    have e3':v=.ref a:=by simpa using e4
    subst e1' e3';exact absurd (fR (md:=md) (vs:=vs) (i:=i) (a:=a) (by simpa using e1) (by simpa using e3)) (Ki.mp nd).1
   |succ j=>exact JS (·+1) (qp tl (by simpa using e1) (by simpa using e2) (by simpa using e3) (by simpa using e4))
noncomputable def cL:List Bool->Nat->Mu->List T
 |[],_,_=>[]
 |true::md,i,μ=>(match μ[i]? with
  |some (.pb c)=>c::cL md (i+1) μ
  |_=>cL md (i+1) μ)
 |false::md,i,μ=>cL md (i+1) μ
theorem lH{P:Addr->T->Prop}:∀{md:List Bool} {vs:List V} {i:Nat},vs.length=md.length->(∀ n,md[n]?=some true->∃ a c,vs[n]?=some (.ref a)/\μ[i+n]?=some (.pb c)/\P a c)->Paired P (jX md vs) (cL md i μ)
 :=by
  intro md
  induction md with
  |nil =>
    intro vs i hl h
    cases vs with
    |nil=>exact .nil
    |cons v vs=>cases hl
  |cons b md ih =>
    intro vs i hl h
    cases vs with
    |nil=>cases hl
    |cons v vs =>
      have rest:=ih (vs:=vs) (i:=i+1) (Nat.succ.inj hl) fun n e=>by
        obtain⟨a,c,e1,e2,p⟩:=h (n+1) e;exact⟨a,c,e1,by rw[NW,Nat.add_comm 1 n];exact e2,p⟩
      cases b with
      |false=>exact rest
      |true =>
        obtain⟨a,c,e1,e2,p⟩:=h 0 rfl;have e1':v=.ref a:=Option.some.inj e1;subst e1';rw[Oa] at e2;show Paired P (a::jX md vs) (match μ[i]? with|some (.pb c)=>c::cL md (i+1) μ|_=>cL md (i+1) μ)
        rw[e2];exact .cons p rest
noncomputable def startM:List Bool->List T->Nat->Mu
 |b::md,t::ts,n=>(if b=true then .pb t else .tr t)::startM md ts (n-1)
 |_,_,n=>List.replicate n .un
noncomputable def tV(md:List Bool)(Qt:R->List T->Prop):Ed where
 nx:=fun μ=>Qt (.tr .aJ) (cL md 0 μ)
 rt:=fun r μ=>match r with
  |.tr t=>Qt (.tr t) (cL md 0 μ)
  |.fr c=>Qt (.fr c) (cL md 0 μ)
  |.br i=>(match μ[i]? with
   |some (.bx c)=>Qt (.fr c) (cL md 0 μ)
   |_=>False)
theorem jQ:∀{md:List Bool} {ts:List T} {n:Nat},ts.length=md.length->md.length<=n->(startM md ts n).length=n
 |[],[],n,_,_=>JF
 |b::md,t::ts,n,h,hn=>by
  cases n with
  |zero=>simp at hn
  |succ n=>exact JS (·+1) (jQ (by simpa using h) (by simpa using hn))
theorem gr:∀{md:List Bool} {ts:List T} {n i:Nat} {s:Sl},(startM md ts n)[i]?=some s->s=.un\/∃ b t,md[i]?=some b/\ts[i]?=some t/\s=(if b=true then .pb t else .tr t)
 |[],ts,n,i,s,e=>by
  have e':(List.replicate n Sl.un)[i]?=some s:=by cases ts<;>exact e
  rw[L8] at e'
  split at e'
  ·exact .inl (Option.some.inj e').symm
  ·cases e'
 |b::md,[],n,i,s,e=>by
  have e':(List.replicate n Sl.un)[i]?=some s:=e;rw[L8] at e'
  split at e'
  ·exact .inl (Option.some.inj e').symm
  ·cases e'
 |b::md,t::ts,n,0,s,e=>.inr ⟨b,t,rfl,rfl,by have e':some (if b=true then Sl.pb t else .tr t)=some s:=e;exact (Option.some.inj e').symm⟩
 |b::md,t::ts,n,i+1,s,e=>by
  rcases gr (md:=md) (ts:=ts) (n:=n-1) (i:=i) (s:=s) (by simpa[startM] using e) with h|⟨b',t',h1,h2,h3⟩
  ·exact .inl h
  ·exact .inr ⟨b',t',by simpa using h1,by simpa using h2,h3⟩
theorem lh:∀{md:List Bool} {ts:List T} {n i:Nat} {b:Bool} {t:T},md[i]?=some b->ts[i]?=some t->(startM md ts n)[i]?=some (if b=true then .pb t else .tr t)
 |[],_,_,_,_,_,e,_=>by simp at e
 |b::md,[],_,_,_,_,_,e=>by simp at e
 |b::md,t::ts,n,0,b',t',e1,e2=>by
  have e1':b=b':=by simpa using e1
  have e2':t=t':=by simpa using e2
  subst e1' e2';rfl
 |b::md,t::ts,n,i+1,b',t',e1,e2=>by
  have:=lh (md:=md) (ts:=ts) (n:=n-1) (i:=i) (b:=b') (t:=t') (by simpa using e1) (by simpa using e2)
  simpa[startM] using this
noncomputable def mF(vs:List V)(i:Nat):Addr:=match vs[i]? with
 |some (.ref a)=>a
 |_=>0
noncomputable def Gi(md:List Bool)(vs:List V)(i:Nat):Option Addr:=match md[i]?,vs[i]? with
 |some true,some (.ref a)=>some a
 |_,_=>none
theorem gy(h:Gi md vs i=some a):md[i]?=some true/\vs[i]?=some (.ref a):=by
 unfold Gi at h
 split at h
 ·rename_i e1 e2;cases h;exact⟨e1,e2⟩
 ·cases h
theorem lR(h1:md[i]?=some true)(h2:vs[i]?=some (.ref a)):Gi md vs i=some a:=by
 unfold Gi;rw[h1,h2]
noncomputable def jT(K:Oi)(H:Hp)(md:List Bool)(vs:List V)(B:bo)(bh:∀ b,B b->∃ o,H b=some o):Fx:=⟨K,H,Gi md vs,B,bh,fun _=>none⟩
theorem jf(ag:gi K H B md vs args)(bh:∀ b,B b->∃ o,H b=some o)(nd:(jX md vs).Nodup)(hN:md.length<=N.length):
  Rl (jT K H md vs B bh) (mF vs) B (start N vs) H (startM md args N.length):=by
 obtain⟨l1,l2⟩:=ag.len;have sget:∀ i v,vs[i]?=some v->(start N vs)[i]?=some (some v):=fun i v e=>by
  have hi:=(Jz.mp e).1;unfold start;rw[Lp (by simpa using hi),J9,e];rfl
 refine⟨?_,fun i s e=>?_,fun i j s u c d e1 e2 b1 b2 q=>?_,fun i a p=>?_,fun b z=>z,bh,fun b o e n=>e,fun a ws ga=>by cases ga⟩
 ·rw[jQ l2 hN];unfold start;rw[Jt,Js,JF];lia
 ·rcases gr e with rfl|⟨b,t,h1,h2,rfl⟩
  ·trivial
  ·obtain⟨v,t',e1,e2,q⟩:=ag.get h1;rw[h2] at e2;cases e2
   cases b with
   |false =>
    rw[Ju Jw] at q;rw[Ju Jw];exact⟨v,sget i v e1,q⟩
   |true =>
    rw[Jy rfl] at q;rw[Jy rfl];obtain⟨a,rfl,hb,x⟩:=q;have ea:mF vs i=a:=by unfold mF;rw[e1]
    show _/\_/\_/\_;rw[ea];exact⟨sget i _ e1,hb,lR h1 e1,x⟩
 ·have one:∀{i:Nat} {s:Sl} {c:T},(startM md args N.length)[i]?=some s->s.box=some c->md[i]?=some true/\∃ a,vs[i]?=some (.ref a)/\mF vs i=a:=fun {i s c} e b=>by
   rcases gr e with rfl|⟨b',t,h1,h2,rfl⟩
   ·cases b
   ·cases b' with
    |false=>rw[Ju Jw] at b;cases b
    |true =>
     obtain⟨v,t',e1,e2,q⟩:=ag.get h1;rw[Jy rfl] at q;obtain⟨a,rfl,_⟩:=q;exact⟨h1,a,e1,by unfold mF;rw[e1]⟩
  obtain⟨m1,a1,v1,z1⟩:=one e1 b1;obtain⟨m2,a2,v2,z2⟩:=one e2 b2;rw[z1,z2] at q;subst q;exact qp nd m1 m2 v1 v2
 ·obtain⟨h1,h2⟩:=gy p;obtain⟨v,t',e1,e2,q⟩:=ag.get h1;refine⟨⟨t',?_⟩,by unfold mF;rw[h2]⟩
  have:=lh (n:=N.length) h1 e2;rw[Jy rfl] at this;exact this
theorem HasFn.fG{N ps:List Str}(F:HasFn K mg x st ps)(S:aq N ps (aa st))(md:List Bool)(hm:md.length=ps.length)(hN:md.length<=N.length)
  (hbody:∀(args:List T) (Qt:R->List T->Prop),args.length=ps.length->tsp args Qt->∀(f:Addr) (cdv:Value) (A:Around) (outer:List Env) (s:Shared) (H:Hp) (E:XK),bM k (A.deeper (envOfC x (aa st) s.heap.objs.size f cdv)) ->
   ∃ us,YB (gY bA P w K mg base N x (aa st) f cdv A outer s H E).zX (aj st) us/\us (tV md Qt) (startM md args N.length)):ae P w K mg base bA (k+1) x ps (spT K md tsp):=by
 refine F.Jm S (fun vs H Q E h=>?_) (fun f cdv A outer s H vs Q E hr h=>?_)
 ·obtain⟨B,args,Qt,ag,_⟩:=h;rw[ag.len.1,hm]
 ·obtain⟨B,args,Qt,ag,bh,nd,ht,fin⟩:=h;obtain⟨us,⟨t,q,r⟩,hu⟩:=hbody args Qt (by rw[ag.len.2,hm]) ht f cdv A outer s H E hr
  refine⟨t,q,?_⟩;have l0:=jf (N:=N) ag bh nd hN;have outs:∀ ad' B' σ' H' μ' (B2:bo),Rl (jT K H md vs B bh) ad' B' σ' H' μ'->(∀ b,B2 b->B' b)->Paired (Bx K H' B2) (jX md vs) (cL md 0 μ'):=fun ad' B' σ' H' μ' B2 l hB=>by
   refine lH (ag.len.1) fun n e=>?_;obtain⟨v,t',e1,e2,q⟩:=ag.get e;rw[Jy rfl] at q;obtain⟨a,rfl,_⟩:=q;obtain⟨⟨c,hc⟩,ha⟩:=l.par n a (lR e e1);have sl:=l.slot n _ hc;refine⟨a,c,e1,by rw[L0];exact hc,?_⟩
   rw[<- ha];exact (sl.2.2.2).of rfl (Fr.less hB)
  have keep:∀ ad' B' σ' H' μ',Rl (jT K H md vs B bh) ad' B' σ' H' μ'->∀ b o,H b=some o->b∉jX md vs->H' b=some o:=fun ad' B' σ' H' μ' l b o e n=>l.old b o e fun i z=>n (fR (gy z).1 (gy z).2);refine r (jT K H md vs B bh) _ _ (mF vs) B (start N vs) H _ rfl l0 hu ⟨fun ad' B' σ' H' μ' l _ q=>?_,fun ad' B' σ' H' μ' v rr h q=>?_,fun _ _ _ _ _ _ _ z=>z.elim,fun _ _ _ _ _ _ _ z=>z.elim⟩
  ·exact fin .aJ H' (.tr .aJ) _ q (keep _ _ _ _ _ l) ⟨.aJ,outs _ _ _ _ _ _ l l.bc⟩
  ·cases rr with
   |tr t=>exact fin v H' (.tr t) _ q (keep _ _ _ _ _ h.1) ⟨(show Rep K H' B' v t from h.2).fr (Fr.less h.1.bc),outs _ _ _ _ _ _ h.1 h.1.bc⟩
   |fr c =>
    obtain⟨l,a,rfl,n,h0,l2,x⟩:=h;have sub:∀ b,more B a b->more B' a b:=fun b z=>z.imp id (l.bc b);exact fin _ H' (.fr c) _ q (keep _ _ _ _ _ l) ⟨a,rfl,h0,fun z=>n (l.bc a z),x.of rfl (Fr.less sub),outs _ _ _ _ _ _ l2 sub⟩
   |br i =>
    have q':(match μ'[i]? with|some (.bx c)=>Qt (.fr c) (cL md 0 μ')|_=>False):=q
    obtain⟨l,rfl,s',c',e1,e2⟩:=h
    split at q'
    ·rename_i c ec;have sl:=l.slot i _ ec;have sub:∀ b,more B (ad' i) b->B' b:=fun b z=>z.elim (fun z=>by rw[z];exact sl.2.1) (l.bc b)
     refine fin _ H' (.fr c) _ q' (keep _ _ _ _ _ l) ⟨ad' i,rfl,sl.2.2.1,fun z=>?_,(sl.2.2.2.2).of rfl (Fr.less sub),outs _ _ _ _ _ _ l sub⟩;obtain⟨o,e⟩:=bh _ z;have:H (ad' i)=none:=sl.2.2.1;rw[this] at e;cases e
    ·exact q'.elim
noncomputable def v9(μ:Mu):List Bool->List R->Option (List T)
 |[],[]=>some []
 |false::md,r::rs=>(match cont μ r,v9 μ md rs with
  |some t,some ts=>some (t::ts)
  |_,_=>none)
 |true::md,.br j::rs=>(match cont μ (.br j),v9 μ md rs with
  |some t,some ts=>some (t::ts)
  |_,_=>none)
 |_,_=>none
noncomputable def h8:List Bool->List R->List Nat
 |true::md,.br j::rs=>j::h8 md rs
 |_::md,_::rs=>h8 md rs
 |_,_=>[]
noncomputable def iA:List Bool->List R->List Nat
 |false::md,.br j::rs=>j::iA md rs
 |_::md,_::rs=>iA md rs
 |_,_=>[]
noncomputable def gX:T->Bool
 |.lst ts=>ts.all aR
 |.mU _ ts=>ts.all aR
 |t=>aR t
noncomputable def fc:R->Bool
 |.tr t=>aR t
 |.fr c=>gX c
 |.br _=>false
noncomputable def putAll:List Nat->List T->Mu->Mu
 |j::js,c::cs,μ=>putAll js cs (dH μ j c)
 |_,_,μ=>μ
theorem rq(h:i≠j):(dH μ j c)[i]?=μ[i]?:=by
 unfold dH;split
 ·rw[Kg (Ne.symm h)]
 ·rfl
theorem yQ{s:Sl}(e:μ[j]?=some s):(dH μ j c)[j]?=some (s.put c):=by
 unfold dH;rw[e];exact Kb (Jz.mp e).1
theorem x9:(dH μ j c).length=μ.length:=by
 unfold dH;split
 ·exact Ko
 ·rfl
theorem jE:∀{js:List Nat} {cs:List T} {μ:Mu},(putAll js cs μ).length=μ.length
 |[],_,_=>rfl
 |_::_,[],_=>rfl
 |j::js,c::cs,μ=>(jE (js:=js)).trans x9
theorem eN:∀{js:List Nat} {cs:List T} {μ:Mu} {i:Nat},i∉js->(putAll js cs μ)[i]?=μ[i]?
 |[],_,_,_,_=>rfl
 |_::_,[],_,_,_=>rfl
 |j::js,c::cs,μ,i,h=>(eN (js:=js) (fun z=>h (J8 _ z))).trans (rq fun z=>h (z ▸ JG))
theorem dY{P:Addr->T->Prop}:∀{js:List Nat} {cs:List T} {μ:Mu} {i:Nat} {s:Sl},js.Nodup->Paired P (js.map ad) cs->i∈js->μ[i]?=some s->∃ c,(putAll js cs μ)[i]?=some (s.put c)/\P (ad i) c
 |[],_,_,_,_,_,_,h,_=>by cases h
 |j::js,c::cs,μ,i,s,nd,.cons p ps,h,e=>by
  rw[Ki] at nd;by_cases z:i=j
  ·subst z;refine⟨c,?_,p⟩;show (putAll js cs (dH μ i c))[i]?=_;rw[eN nd.1];exact yQ e
  ·rcases J5.mp h with z'|z'
   ·exact absurd z' z
   ·exact dY (js:=js) nd.2 ps z' (by rw[rq z];exact e)
theorem Rl.call{B2:bo}{js:List Nat}{outs:List T}(l:Rl F ad B σ H μ)(hb:∀ j∈js,∃(s:Sl) (c:T),μ[j]?=some s/\s.box=some c)(nd:js.Nodup)
  (keep:∀ b o,H b=some o->b∉js.map ad->H' b=some o) (sB:∀ b,B b->B2 b) (nB:∀ b o,H b=some o->¬ B b->¬ B2 b) (tB:∀ b,B2 b->¬ B b->∃ o,H' b=some o) (ps:Paired (Bx F.K H' B2) (js.map ad) outs) :
  Rl F ad B2 σ H' (putAll js outs μ)/\Kp μ (putAll js outs μ)/\Fr B H B2 H':=by
 have inB:∀ b∈js.map ad,B b:=fun b hb'=>by
  obtain⟨j,hj,rfl⟩:=JX.mp hb';obtain⟨s,c,e,q⟩:=hb j hj;exact l.own j s c e q
 have f:Fr B H B2 H':=fun b o e n=>⟨keep b o e fun z=>n (inB b z),nB b o e n⟩;have cases':∀ i s,(putAll js outs μ)[i]?=some s->(i∉js/\μ[i]?=some s)\/(i∈js/\∃ s0 c0 c,μ[i]?=some s0/\s0.box=some c0/\s=s0.put c/\Bx F.K H' B2 (ad i) c):=fun i s e=>by
  by_cases z:i∈js
  ·obtain⟨s0,c0,e0,q0⟩:=hb i z;obtain⟨c,e1,p⟩:=dY nd ps z e0;rw[e1] at e;exact .inr ⟨z,s0,c0,c,e0,q0,(Option.some.inj e).symm,p⟩
  ·rw[eN z] at e;exact .inl ⟨z,e⟩
 have boxOld:∀(i:Nat) (s:Sl) (c:T),(putAll js outs μ)[i]?=some s->s.box=some c->∃(s0:Sl) (c0:T),μ[i]?=some s0/\s0.box=some c0:=fun i s c e b=>by
  rcases cases' i s e with ⟨_,e'⟩|⟨_,s0,c0,_,e0,q0,_⟩
  ·exact⟨s,c,e',b⟩
  ·exact⟨s0,c0,e0,q0⟩
 have ne:∀(i:Nat) (s:Sl) (c:T),i∉js->μ[i]?=some s->s.box=some c->ad i∉js.map ad:=fun i s c z e b hm=>by
  obtain⟨j,hj,q⟩:=JX.mp hm;obtain⟨s0,c0,e0,q0⟩:=hb j hj;exact z (l.inj i j s s0 c c0 e e0 b q0 q.symm ▸ hj)
 refine⟨⟨by rw[jE];exact l.len,fun i s e=>?_,fun i j s u c d e1 e2 b1 b2 q=>?_,fun i a p=>?_,fun b z=>sB b (l.bc b z),fun b z=>?_,fun b o e n=>?_,fun a ws ga=>?_⟩,fun i=>?_,f⟩
 ·rcases cases' i s e with ⟨z,e'⟩|⟨z,s0,c0,c,e0,q0,rfl,x⟩
  ·have k:=l.slot i s e';unfold iO at k ⊢
   split at k
   ·trivial
   ·obtain⟨v,e1,r1⟩:=k;exact⟨v,e1,r1.fr f⟩
   ·obtain⟨e1,b,z0,p,x⟩:=k;obtain⟨o,eo⟩:=x.fY;exact⟨e1,sB _ b,z0,p,x.of ((keep _ o eo (ne i _ _ z e' rfl)).trans eo.symm) f⟩
   ·obtain⟨e1,b,p,x⟩:=k;obtain⟨o,eo⟩:=x.fY;exact⟨e1,sB _ b,p,x.of ((keep _ o eo (ne i _ _ z e' rfl)).trans eo.symm) f⟩
  ·have k:=l.slot i s0 e0
   cases s0 with
   |un=>cases q0
   |tr t=>cases q0
   |bx d=>exact⟨k.1,sB _ k.2.1,k.2.2.1,k.2.2.2.1,x⟩
   |pb d=>exact⟨k.1,sB _ k.2.1,k.2.2.1,x⟩
 ·obtain⟨s1,c1,g1,g2⟩:=boxOld i s c e1 b1;obtain⟨s2,c2,g3,g4⟩:=boxOld j u d e2 b2;exact l.inj i j s1 s2 c1 c2 g1 g3 g2 g4 q
 ·obtain⟨⟨c,e⟩,ha⟩:=l.par i a p;refine⟨?_,ha⟩;by_cases z:i∈js
  ·obtain⟨c',e1,_⟩:=dY nd ps z e;exact⟨c',e1⟩
  ·exact⟨c,by rw[eN z];exact e⟩
 ·by_cases zb:B b
  ·obtain⟨o,e⟩:=l.fY b zb;by_cases z2:b∈js.map ad
   ·obtain⟨j,hj,rfl⟩:=JX.mp z2;obtain⟨s0,c0,e0,q0⟩:=hb j hj;obtain⟨c,_,x⟩:=dY nd ps hj e0;exact x.fY
   ·exact⟨o,keep b o e z2⟩
  ·exact tB b z zb
 ·have e2:=l.old b o e n;refine keep b o e2 fun hm=>?_;obtain⟨j,hj,rfl⟩:=JX.mp hm;obtain⟨s0,c0,e0,q0⟩:=hb j hj;rcases ((l.slot j s0 e0).boxed q0).2.2.2 with z|z
  ·exact n j z
  ·rw[z] at e;cases e
 ·obtain⟨g1,g2,g3⟩:=l.gh a ws ga;refine⟨keep a _ g1 fun hm=>?_,sB a g2,fun i s c e b=>?_⟩
  ·obtain⟨j,hj,q⟩:=JX.mp hm;obtain⟨s0,c0,e0,q0⟩:=hb j hj;exact g3 j s0 c0 e0 q0 q
  ·obtain⟨s0,c0,e0,q0⟩:=boxOld i s c e b;exact g3 i s0 c0 e0 q0
 ·by_cases z:i∈js
  ·obtain⟨s0,c0,e0,q0⟩:=hb i z;obtain⟨c,e1,_⟩:=dY nd ps z e0;rw[e0,e1];show (s0.box).isSome=((s0.put c).box).isSome;rw[q0,Sl.iY q0];rfl
  ·rw[eN z]
theorem Ba(l:Rl F ad B σ H μ)(ro:List Nat):∀{md:List Bool} {xs:List V} {rs:List R} {args:List T},Paired (Hv F ad B H μ) xs rs->v9 μ md rs=some args->(∀ j∈iA md rs,j∈ro)->(∀ j∈h8 md rs,j∉ro) ->
  (∀ j∈ro,∃(s:Sl) (c:T),μ[j]?=some s/\s.box=some c) ->
  gi F.K H (fun b=>B b/\∀ j∈ro,b≠ad j) md xs args/\jX md xs=(h8 md rs).map ad/\∀ j∈h8 md rs,∃(s:Sl) (c:T),μ[j]?=some s/\s.box=some c:=by
 intro md
 induction md with
 |nil =>
  intro xs rs args p e _ _ _
  cases p with
  |nil=>cases e;exact⟨trivial,rfl,fun j h=>by cases h⟩
  |cons h p=>cases e
 |cons bb md ih =>
  intro xs rs args pp e h1 h2 h3
  cases pp with
  |nil=>cases bb<;>cases e
  |cons h p =>
   rename_i x r xs2 rs
   cases bb with
   |false =>
    unfold v9 at e
    split at e
    ·rename_i t ts e1 e2;cases e;have sub:∀ j∈iA md rs,j∈ro:=fun j hj=>h1 j (by cases r<;>first|exact hj|exact J8 _ hj)
     obtain⟨g1,g2,g3⟩:=ih p e2 sub h2 h3;refine⟨⟨?_,g1⟩,?_,g3⟩
     ·cases r with
      |tr t' =>
       have e1':t'=t:=Option.some.inj e1;subst e1';exact (show Rep F.K H B x t' from h).fr (Fr.less fun _ z=>z.1)
      |br j =>
       obtain⟨rfl,s,c,q1,q2⟩:=h;have e1':(μ[j]?).bind Sl.box=some t:=e1;rw[q1] at e1';have bx:=((l.slot j s q1).boxed (c:=t) e1').2.2.1;exact (bx.of rfl (Fr.less fun _ z=>z.1)).rep fun z=>z.2 j (h1 j JG) rfl
      |fr c=>exact h.elim
     ·show jX (false::md) (_::_)=_;rw[show h8 (false::md) (r::rs)=h8 md rs by cases r<;>rfl]
      exact g2
    ·cases e
   |true =>
    cases r with
    |tr t=>cases e
    |fr c=>cases e
    |br j =>
     unfold v9 at e
     split at e
     ·rename_i t ts e1 e2;cases e;obtain⟨g1,g2,g3⟩:=ih p e2 h1 (fun i hi=>h2 i (J8 _ hi)) h3;obtain⟨rfl,s,c,q1,q2⟩:=h;have e1':(μ[j]?).bind Sl.box=some t:=e1;rw[q1] at e1';have bx:=(l.slot j s q1).boxed (c:=t) e1';refine⟨⟨⟨ad j,rfl,⟨bx.2.1,fun i hi z=>?_⟩,bx.2.2.1.of rfl (Fr.less fun _ z=>z.1)⟩,g1⟩,JS (ad j::·) g2,fun i hi=>?_⟩
      ·obtain⟨s',c',q3,q4⟩:=h3 i hi;have:=l.inj j i s s' t c' q1 q3 e1' q4 z;subst this;exact h2 j JG hi
      ·rcases J5.mp hi with z|z
       ·subst z;exact⟨s,t,q1,e1'⟩
       ·exact g3 i z
     ·cases e
theorem jn:∀{md:List Bool} {xs:List V} {rs:List R},Paired (Hv F ad B H μ) xs rs->∀ j∈iA md rs,∃(s:Sl) (c:T),μ[j]?=some s/\s.box=some c
 |[],_,_,_,j,h=>by cases h
 |b::md,_,_,.nil,j,h=>by cases b<;>cases h
 |b::md,_,r::rs,.cons h p,j,hj=>by
  cases b with
  |true=>exact jn (md:=md) p j (by cases r<;>exact hj)
  |false =>
   cases r with
   |tr t=>exact jn (md:=md) p j hj
   |fr c=>exact h.elim
   |br i =>
    rcases J5.mp hj with z|z
    ·subst z;exact h.2
    ·exact jn (md:=md) p j z
theorem Bx.flat(h:Bx K H B a c)(f:gX c=true):Bx K H B' a c:=by
 rcases h.is with ⟨ts,vs,rfl,e,r⟩|⟨ks,ts,vs,rfl,e,l,r⟩
 ·exact⟨vs,e,r.flat f⟩
 ·exact⟨vs,e,l,r.flat f⟩
theorem Paired.ng:∀{as:List Addr} {outs:List T},Paired (Bx K H B) as outs->outs.all gX=true->Paired (Bx K H B') as outs
 |_,_,.nil,_=>.nil
 |_,_,.cons h p,f=>by
  rw[Kv,Kl] at f;exact .cons (h.flat f.1) (Paired.ng p f.2)
namespace Y
noncomputable def Bt(md:List Bool)(tsp:dW)(us:UA):UE:=fun μ Q=>us μ fun rs μ1=>match v9 μ1 md rs with
 |some args=>(h8 md rs).Nodup/\(∀ j∈h8 md rs,j∉iA md rs)/\tsp args fun r outs=>(iA md rs=[]\/(fc r=true/\outs.all gX=true))/\Q r (putAll (h8 md rs) outs μ1)
 |none=>False
theorem AF{md:List Bool}{E:XK}{t:TA}(ha:RA K t us):RE K (ju (spT K md tsp) [] E t) (Bt md tsp us):=by
 intro F ad B σ H μ Q Qt hF l q k;refine ha F ad B σ H μ _ _ hF l q fun vs H1 rs μ1 l1 ps f1 k1 q1=>?_
 split at q1
 ·rename_i args ea;obtain⟨nd,dj,q1⟩:=q1;have hro:=jn (md:=md) ps;obtain⟨ag,eb,hb⟩:=Ba l1 (iA md rs) ps ea (fun j h=>h) dj hro;rw[hF] at ag;show spT K md tsp (vs++[]) H1 Q E;rw[JK];have inj:∀{js:List Nat},js.Nodup->(∀ j∈js,∃(s:Sl) (c:T),μ1[j]?=some s/\s.box=some c)->(js.map ad).Nodup:=fun {js}=>by
   induction js with
   |nil=>exact fun _ _=>NN
   |cons j js ih =>
    intro nd hb;rw[Ki] at nd;rw[Kc,Ki];refine⟨fun hm=>?_,ih nd.2 fun i hi=>hb i (J8 _ hi)⟩;obtain⟨i,hi,z⟩:=JX.mp hm;obtain⟨s1,c1,e1,b1⟩:=hb j JG;obtain⟨s2,c2,e2,b2⟩:=hb i (J8 _ hi);exact nd.1 (l1.inj i j s2 s1 c2 c1 e2 e1 b2 b1 z ▸ hi)
  refine⟨_,args,_,ag,fun b z=>l1.fY b z.1,by rw[eb];exact inj nd hb,q1,fun v H2 r outs hq keep res=>?_⟩
  rw[eb] at keep res;obtain⟨hfl,hq⟩:=hq;have nro:∀{b:Addr},iA md rs=[]->B b->B b/\∀ j∈iA md rs,b≠ad j:=fun {b} z h=>⟨h,fun j hj=>by rw[z] at hj;cases hj⟩
  cases r with
  |br i=>exact res.elim
  |tr t =>
   obtain⟨rv,po⟩:=res;have rv':Rep F.K H2 B v t:=by
    rw[hF];rcases hfl with z|z
    ·exact rv.fr (Fr.less fun b h=>nro z h)
    ·exact rv.flat z.1
   have po':Paired (Bx F.K H2 B) ((h8 md rs).map ad) outs:=by
    rw[hF];rcases hfl with z|z
    ·exact Paired.mD po fun a c h=>h.of rfl (Fr.less fun b h=>nro z h)
    ·exact Paired.ng po z.2
   obtain⟨l2,k2,f2⟩:=l1.call hb nd keep (fun _ z=>z) (fun _ _ _ z=>z) (fun b z n=>absurd z n) po';exact k v H2 (.tr t) _ ⟨l2,rv'⟩ (f1.trans f2) (k1.trans k2) hq
  |fr c =>
   obtain⟨a,rfl,ha0,nBa,x,po⟩:=res;have nBa':¬ B a:=l1.kh ha0;have sub:iA md rs=[]->∀ b,more B a b->more (fun b=>B b/\∀ j∈iA md rs,b≠ad j) a b:=fun z b h=>h.imp id fun h=>nro z h;have x':Bx F.K H2 (more B a) a c:=by
    rw[hF];rcases hfl with z|z
    ·exact x.of rfl (Fr.less (sub z))
    ·exact x.flat z.1
   have po':Paired (Bx F.K H2 (more B a)) ((h8 md rs).map ad) outs:=by
    rw[hF];rcases hfl with z|z
    ·exact Paired.mD po fun a' c h=>h.of rfl (Fr.less (sub z))
    ·exact Paired.ng po z.2
   have po2:Paired (Bx F.K H2 B) ((h8 md rs).map ad) outs:=Paired.mD po' fun a' c h=>h.of rfl (Fr.less fun _ z=>.inr z);obtain⟨l2,k2,f2⟩:=l1.call hb nd keep (fun _ z=>z) (fun _ _ _ z=>z) (fun b z n=>absurd z n) po2;obtain⟨l3,_,f3⟩:=l1.call (B2:=more B a) hb nd keep (fun _ z=>.inr z) (fun b o e n z=>z.elim (fun z=>by rw[z,ha0] at e;cases e) n) (fun b z n=>z.elim (fun z=>by rw[z];exact x'.fY) fun z=>absurd z n) po'
   exact k _ H2 (.fr c) _ ⟨l2,a,rfl,nBa',l1.yK ha0,l3,x'⟩ (f1.trans f3) (k1.trans k2) hq
 ·exact q1.elim
section
variable {X:Cx} {e:Expr} {es:List Expr} {us:UA} {pos p:Pos} {x:Str} {k:Nat} {ps:List Str} {md:List Bool} {tsp:dW} {E:XK}
theorem fn(K:Oi)(hK:X.K=K)(F:ae X.prog X.w X.K X.mg X.base bA k x ps (spT K md tsp))(hr:bM k X.A)(hg:Gl X x)(hx:Passes bA X E)(ha:YA X (e::es) us)(h1:autoParam (dq e=true) ℜ0)(h2:autoParam (es.all dq=true) ℜ0)(hdb:autoParam ((x ==("__debug__":Str))=false) ℜ1):
  YE X (.Call (.Name x p) (e::es) [] pos) (Bt md tsp us):=by
 obtain⟨t,q,r⟩:=ha;subst hK;exact⟨_,Z.fn F hr hg hx q h1 h2 hdb,AF r⟩
end
end Y
noncomputable def Cy:dW:=fun args Q=>∃ ns:List Int,args=[.eU (ns.map T.int)]/\ns.length<=63/\Q (.tr (.bl true)) []
section
variable {prog:Program} {w:World} {A:Around} {E:Value->Shared->Prop} {s:Shared}
structure ZA (z TI TO i1 i2 l1 l2:Addr):Prop where
 a1:TI≠z
 a2:TO≠z
 a3:i1≠z
 a4:i2≠z
 a5:TO≠i1
 a6:TO≠i2
 a7:i1≠i2
 a8:l1≠z/\l1≠TO/\l1≠i1/\l1≠i2
 a9:l2≠z/\l2≠TO/\l2≠i1/\l2≠i2
 b1:TI≠TO/\TI≠i1/\TI≠i2
theorem ZA.f1{TI TO:Addr}(D:ZA z TI TO i1 i2 l1 l2){e:Addr}(he:e=z\/e=TO\/e=i2):∀ b∈[i1,l1],b≠e:=fun b hb=>by
 rcases J5.mp hb with rfl|hb
 ·rcases he with rfl|rfl|rfl
  ·exact D.a3
  ·exact D.a5.symm
  ·exact D.a7
 ·have hb:b=l1:=by simpa using hb
  subst hb;rcases he with rfl|rfl|rfl
  ·exact D.a8.1
  ·exact D.a8.2.1
  ·exact D.a8.2.2.2
theorem ZA.f2{TI TO:Addr}(D:ZA z TI TO i1 i2 l1 l2){e:Addr}(he:e=z\/e=TO\/e=i1):∀ b∈[i2,l2],b≠e:=fun b hb=>by
 rcases J5.mp hb with rfl|hb
 ·rcases he with rfl|rfl|rfl
  ·exact D.a4
  ·exact D.a6.symm
  ·exact D.a7.symm
 ·have hb:b=l2:=by simpa using hb
  subst hb;rcases he with rfl|rfl|rfl
  ·exact D.a9.1
  ·exact D.a9.2.1
  ·exact D.a9.2.2.1
theorem eH{P:Nat->Value->Prop}{S:Nat->Heap->Prop}{A':Around}(D:Draws prog w A' it [it,l] n P S){e:Addr}(st:S i h)(hs:Heap.ExtBut e h h')(ne:∀ b∈[it,l],b≠e):S i h':=D.frame i h h' st fun b hb o q=>hs b o (ne b hb) q
theorem su{TI TO:Addr}{n1 n2:Nat}{a b:Value}(D:ZA z TI TO i1 i2 l1 l2)(D1:Draws prog w A i1 [i1,l1] n1 P1 S1)(D2:Draws prog w A i2 [i2,l2] n2 P2 S2)
  (hz:IsZip s.heap z TI TO .none) (hTI:IsPair s.heap TI (.ref i1) (.ref i2)) (hTO:IsPair s.heap TO a b) (st1:S1 k s.heap) (st2:S2 k s.heap) (hk1:k<n1) (hk2:k<n2)
  (hQ:∀ x y h' tk,P1 k x->P2 k y->IsZip h' z TI TO (rawInt s.heap.objs.size)->IsPair h' TO x y->S1 (k+1) h'->S2 (k+1) h'->IsPair h' s.heap.objs.size x y ->
   (∀ c o,c≠z->c≠TO->c≠i1->c≠i2->s.heap.get? c=some o->h'.get? c=some o)->Q (.ref s.heap.objs.size) {s with heap:=h',toks:=tk}) :
  wpAny (model prog w) A (Builtin.«zip.__next__» ⟨[.ref z],[]⟩) (fun fin s'=>∃ v,fin=.done (.ret v)/\Q v s') E s:=by
 have zrec:=hz;show wpAny _ _ (field (.ref z) 2 >>= _) _ _ _;refine Jp (Kz zrec rfl (x:=.bool false) rfl ?_);show wpAny _ _ (field (.ref z) 3 >>= _) _ _ _;refine Jp (Kz zrec rfl (x:=.ref TI) rfl ?_);have tirec:=hTI;refine Jp (KZ tirec rfl ?_);show wpAny _ _ (Builtin.SmallTypes.ownedTupleIsFree (.ref z) >>= _) _ _ _;refine Jp ?_;unfold Builtin.SmallTypes.ownedTupleIsFree;refine Jp (Kz zrec rfl (x:=.none) rfl (Jx ?_));simp only[Lh];refine Jp (MW ?_);refine Jp (Kz zrec rfl (x:=.ref TO) rfl ?_);refine Jp (Le zrec (by simp) fun g1 zr1 sb1=>?_)
 replace zr1:IsZip g1 z TI TO .ellipsis:=zr1
 refine Jp ?_;simp only[List.zipIdx_cons,List.zipIdx_nil,LP,List.forIn_nil];refine Jp (Jp (MO ?_));show wpAny _ _ (Builtin.SmallTypes.nextOf (.ref i1) >>= _) _ _ _;refine Jp (D1.item k _ _ _ hk1 (eH D1 st1 sb1.extBut (D.f1 (.inl rfl))) fun x g2 tk2 px st1b sb2=>Jx ?_);have to2:IsPair g2 TO a b:=sb2.extBut _ _ D.a5 (sb1.extBut _ _ D.a2 hTO);refine Jp (KZ to2 rfl ?_);refine Jp (My to2 fun g3 to3 sb3=>?_)
 replace to3:IsPair g3 TO x b:=to3
 refine Jp (wpAny_letGo (Jx ?_));refine Jp (Jp (MO ?_));show wpAny _ _ (Builtin.SmallTypes.nextOf (.ref i2) >>= _) _ _ _;have st2c:S2 k g3:=eH D2 (eH D2 (eH D2 st2 sb1.extBut (D.f2 (.inl rfl))) sb2.extBut (D.f2 (.inr (.inr rfl)))) sb3.extBut (D.f2 (.inr (.inl rfl)));refine Jp (D2.item k _ _ _ hk2 st2c fun y g4 tk4 py st2d sb4=>Jx ?_);have to4:IsPair g4 TO x b:=sb4.extBut _ _ D.a6 to3;refine Jp (KZ to4 rfl ?_);refine Jp (My to4 fun g5 to5 sb5=>?_)
 replace to5:IsPair g5 TO x y:=to5
 refine Jp (wpAny_letGo (Jx (Jx ?_)));refine Jp (KZ to5 rfl ?_);refine Jp (NO ?_);have size5:g5.objs.size=s.heap.objs.size:=by rw[sb5.1,sb4.1,sb3.1,sb2.1,sb1.1]
 have zr5:IsZip g5 z TI TO .ellipsis:=sb5.extBut _ _ D.a2.symm (sb4.extBut _ _ D.a4.symm (sb3.extBut _ _ D.a2.symm (sb2.extBut _ _ D.a3.symm zr1)));have keep5:∀ c o,c≠z->c≠TO->c≠i1->c≠i2->s.heap.get? c=some o->g5.get? c=some o:=fun c o e1 e2 e3 e4 q =>
  sb5.extBut _ _ e2 (sb4.extBut _ _ e4 (sb3.extBut _ _ e2 (sb2.extBut _ _ e3 (sb1.extBut _ _ e1 q))))
 have s1e:S1 (k+1) g5:=eH D1 (eH D1 (eH D1 st1b sb3.extBut (D.f1 (.inr (.inl rfl)))) sb4.extBut (D.f1 (.inr (.inr rfl)))) sb5.extBut (D.f1 (.inr (.inl rfl)));have s2e:S2 (k+1) g5:=eH D2 st2d sb5.extBut (D.f2 (.inr (.inl rfl)));have zlt:z<g5.objs.size:=JA zr5;show wpAny _ _ (Builtin.SmallTypes.ownedTupleHandOut (.ref z) (.ref g5.objs.size) >>= _) _ _ _;refine Jp ?_;unfold Builtin.SmallTypes.ownedTupleHandOut;have zr6:IsZip (g5.push {cls:=.type "tuple",data:=.seq #[x,y]}) z TI TO .ellipsis:=Jr _ zr5;refine Jp (Le zr6 (by simp) fun g7 zr7 sb7=>?_)
 replace zr7:IsZip g7 z TI TO (rawInt g5.objs.size):=zr7
 refine Le zr7 (by simp) fun g8 zr8 sb8=>?_
 replace zr8:IsZip g8 z TI TO (rawInt g5.objs.size):=zr8
 have up:∀ c o,c≠z->g5.get? c=some o->g8.get? c=some o:=fun c o e1 q=>sb8.extBut _ _ e1 (sb7.extBut _ _ e1 (Jr _ q));have pr8:IsPair g8 g5.objs.size x y:=sb8.extBut _ _ (Lx zlt) (sb7.extBut _ _ (Lx zlt) (JC _ rfl));rw[size5] at zr8 pr8;refine Jx ⟨_,rfl,?_⟩;show Q (.ref g5.objs.size) _;rw[size5];exact hQ x y g8 _ px py zr8 (up _ _ D.a2 to5) (D1.frame _ _ _ s1e fun b hb o q=>up b o (D.f1 (.inl rfl) b hb) q) (D2.frame _ _ _ s2e fun b hb o q=>up b o (D.f2 (.inl rfl) b hb) q) pr8 fun c o e1 e2 e3 e4 q=>up c o e1 (keep5 c o e1 e2 e3 e4 q)
theorem vR{TI TO:Addr}{n1 n2:Nat}{a b:Value}{Q:Fin->Shared->Prop}(D:ZA z TI TO i1 i2 l1 l2)(D1:Draws prog w A i1 [i1,l1] n1 P1 S1)(D2:Draws prog w A i2 [i2,l2] n2 P2 S2)
  (hz:IsZip s.heap z TI TO .none) (hTI:IsPair s.heap TI (.ref i1) (.ref i2)) (hTO:IsPair s.heap TO a b) (st1:S1 k s.heap) (st2:S2 k s.heap) (hk:k=n1\/(k<n1/\k=n2))
  (hE:∀ h' e tk,(∀ c o,c≠z->c≠TO->c≠i1->c≠i2->s.heap.get? c=some o->h'.get? c=some o)->(∃ o,h'.get? e=some o/\o.cls=.type "StopIteration")->E (.ref e) {s with heap:=h',toks:=tk}) :
  wpAny (model prog w) A (Builtin.«zip.__next__» ⟨[.ref z],[]⟩) Q E s:=by
 have zrec:=hz;show wpAny _ _ (field (.ref z) 2 >>= _) _ _ _;refine Jp (Kz zrec rfl (x:=.bool false) rfl ?_);show wpAny _ _ (field (.ref z) 3 >>= _) _ _ _;refine Jp (Kz zrec rfl (x:=.ref TI) rfl ?_);have tirec:=hTI;refine Jp (KZ tirec rfl ?_);show wpAny _ _ (Builtin.SmallTypes.ownedTupleIsFree (.ref z) >>= _) _ _ _;refine Jp ?_;unfold Builtin.SmallTypes.ownedTupleIsFree;refine Jp (Kz zrec rfl (x:=.none) rfl (Jx ?_));simp only[Lh];refine Jp (MW ?_);refine Jp (Kz zrec rfl (x:=.ref TO) rfl ?_);refine Jp (Le zrec (by simp) fun g1 zr1 sb1=>?_)
 replace zr1:IsZip g1 z TI TO .ellipsis:=zr1
 refine Jp ?_;simp only[List.zipIdx_cons,List.zipIdx_nil,LP,List.forIn_nil];refine Jp (Jp (MO ?_));show wpAny _ _ (Builtin.SmallTypes.nextOf (.ref i1) >>= _) _ _ _;rcases hk with hk|⟨hk1,hk2⟩
 ·subst hk;refine Jp (D1.done _ _ _ (eH D1 st1 sb1.extBut (D.f1 (.inl rfl))) fun g2 e sb2 he=>?_);obtain⟨oe,hoe,hce⟩:=he;have zr2:IsZip g2 z TI TO .ellipsis:=sb2 _ _ D.a3.symm zr1;have nez:e≠z:=fun q=>by subst q;rw[zr2] at hoe;cases hoe;simp at hce
  refine Le zr2 (by simp) fun g3 _ sb3=>hE g3 e _ (fun c o e1 _ e3 _ q=>sb3.extBut _ _ e1 (sb2 _ _ e3 (sb1.extBut _ _ e1 q))) ⟨oe,sb3.extBut _ _ nez hoe,hce⟩
 ·subst hk2;refine Jp (D1.item k _ _ _ hk1 (eH D1 st1 sb1.extBut (D.f1 (.inl rfl))) fun x g2 tk2 px st1b sb2=>Jx ?_);have to2:IsPair g2 TO a b:=sb2.extBut _ _ D.a5 (sb1.extBut _ _ D.a2 hTO);refine Jp (KZ to2 rfl ?_);refine Jp (My to2 fun g3 to3 sb3=>?_);refine Jp (wpAny_letGo (Jx ?_));refine Jp (Jp (MO ?_));show wpAny _ _ (Builtin.SmallTypes.nextOf (.ref i2) >>= _) _ _ _;have st2c:S2 k g3:=eH D2 (eH D2 (eH D2 st2 sb1.extBut (D.f2 (.inl rfl))) sb2.extBut (D.f2 (.inr (.inr rfl)))) sb3.extBut (D.f2 (.inr (.inl rfl)));refine Jp (D2.done _ _ _ st2c fun g4 e sb4 he=>?_);obtain⟨oe,hoe,hce⟩:=he;have zr4:IsZip g4 z TI TO .ellipsis:=sb4 _ _ D.a4.symm (sb3.extBut _ _ D.a2.symm (sb2.extBut _ _ D.a3.symm zr1));have nez:e≠z:=fun q=>by subst q;rw[zr4] at hoe;cases hoe;simp at hce
  refine Le zr4 (by simp) fun g5 _ sb5=>hE g5 e _ (fun c o e1 e2 e3 e4 q=>sb5.extBut _ _ e1 (sb4 _ _ e4 (sb3.extBut _ _ e2 (sb2.extBut _ _ e3 (sb1.extBut _ _ e1 q))))) ⟨oe,sb5.extBut _ _ nez hoe,hce⟩
end
noncomputable def qo(K:Oi)(k:Bool)(H:Hp)(a:Addr)(xs:List V):Prop:=if k=true then cJ K H a xs else cD K H a xs
noncomputable def i9(k:Bool)(h:Heap)(it a:Addr)(i:Nat):Prop:=if k=true then h.IsListIter it a i else h.IsTupleIter it a i
noncomputable def iC(k:Bool)(h:Heap)(a:Addr)(items:Array Value):Prop:=if k=true then h.IsList a items else h.IsTuple a items
theorem iV(k:Bool)(hh:A.handled=none)(it l:Addr)(hne:l≠it)(items:Array Value):Draws prog w A it [it,l] items.size (fun i v=>items[i]?=some v) (fun i h=>i9 k h it l i/\iC k h l items):=by
 cases k with
 |true=>exact Draws.list hh it l hne items
 |false=>exact iq hh it l hne items
theorem Inv.sH{k:Bool}(I:Inv X pins σ H s)(h:qo X.K k H a xs):∃ its:List Value,Vals xs its/\iC k s.heap a its.toArray:=by
 cases k with
 |true=>obtain⟨its,r,p,_⟩:=I.list h;exact⟨its,r,p.isList⟩
 |false=>obtain⟨its,r,p,_⟩:=I.tuple h;exact⟨its,r,p⟩
theorem Inv.oo{k:Bool}(I:Inv X pins σ H s)(h:qo X.K k H a xs)(h':qo X.K k H a ys):xs=ys:=by
 cases k with
 |true=>exact I.jI h h'
 |false=>exact I.ip h h'
noncomputable def Dt(K:Oi)(k1 k2:Bool)(a b:Addr):It:=
  ⟨fun i H=>∃ xs ys x y,qo K k1 H a xs/\qo K k2 H b ys/\xs[i]?=some x/\ys[i]?=some y,
   fun i H v H'=>∃ p x y,(∀ xs,qo K k1 H a xs->xs[i]?=some x)/\(∀ ys,qo K k2 H b ys->ys[i]?=some y)/\H p=none/\v=.ref p/\H'=upd H p (.tup [x,y]),
   fun i H=>∃ xs ys,qo K k1 H a xs/\qo K k2 H b ys/\i=min xs.length ys.length⟩
theorem iC.ty{k:Bool}(x:iC k h a items):∃ o,h.get? a=some o/\(o.cls=.type "list"\/o.cls=.type "tuple")/\∃ n,o.data=.seq items n:=by
 cases k with
 |true=>obtain⟨o,e,c,n,d⟩:=(show h.IsList a items from x);exact⟨o,e,.inl c,n,d⟩
 |false=>obtain⟨o,e,c,n,d⟩:=(show h.IsTuple a items from x);exact⟨o,e,.inr c,n,d⟩
theorem i9.ty{k:Bool}(x:i9 k h it a i):∃ o,h.get? it=some o/\(o.cls=.type "list_iterator"\/o.cls=.type "tuple_iterator")/\o.data=.fields #[.ref a,.int i 0]:=by
 cases k with
 |true=>obtain⟨o,e,c,d⟩:=(show h.IsListIter it a i from x);exact⟨o,e,.inl c,d⟩
 |false=>obtain⟨o,e,c,d⟩:=(show h.IsTupleIter it a i from x);exact⟨o,e,.inr c,d⟩
noncomputable def HA(k:Bool):String:=if k=true then "list_iterator" else "tuple_iterator"
abbrev G9(h:Heap)(k1:Bool)(a:Addr):Heap:=h.push {cls:=.type (HA k1),data:=.fields #[.ref a,.int 0 0]}
abbrev GA(h:Heap)(k1 k2:Bool)(a b:Addr):Heap:=(G9 h k1 a).push {cls:=.type (HA k2),data:=.fields #[.ref b,.int 0 0]}
abbrev G0(h:Heap)(k1 k2:Bool)(a b:Addr):Heap:=(GA h k1 k2 a b).push {cls:=.type "tuple",data:=.seq #[.ref h.objs.size,.ref (G9 h k1 a).objs.size]}
abbrev G7(h:Heap)(k1 k2:Bool)(a b:Addr):Heap:=(G0 h k1 k2 a b).push {cls:=.type "tuple",data:=.seq #[.none,.none]}
abbrev DR(h:Heap)(k1 k2:Bool)(a b:Addr):Heap:=(G7 h k1 k2 a b).push {cls:=.type "zip",data:=.fields #[.none,.bool false,.bool false,.ref (GA h k1 k2 a b).objs.size,.ref (G0 h k1 k2 a b).objs.size]}
theorem nv(x:h.IsTuple a items)(o:Obj):(h.push o).IsTuple a items:=by
 obtain⟨ob,e,r⟩:=x;exact⟨ob,Jr _ e,r⟩
theorem p7(k1 k2:Bool)(a b:Addr)(xs ys:Array Value):
  Meets (Builtin.«zip.__new__» ⟨[.type "zip",.ref a,.ref b],[]⟩) (fun _ R s=>iC k1 s.heap a xs/\iC k2 s.heap b ys /\
   R (.ok (.ret (.ref (G7 s.heap k1 k2 a b).objs.size))) {s with heap:=DR s.heap k1 k2 a b}):=
 .of_wp fun prog w A R s h=>by
  obtain⟨hp,g,d,tk,os⟩:=s;obtain⟨q1,q2,h⟩:=h;have hsub:=sub_zip
  cases k1 with
  |true =>
   have w1:Heap.IsList (Shared.heap ⟨hp,g,d,tk,os⟩) a xs:=q1
   cases k2 with
   |true =>
    have w2:Heap.IsList (Shared.heap ⟨hp.push {cls:=.type "list_iterator",data:=.fields #[.ref a,.int 0 0]},g,d,tk,os⟩) b ys:=Heap.IsList.push q2 _;wp_walk using Lm w1,Lm w2;exact⟨_,rfl,h⟩
   |false =>
    have w2:Heap.IsTuple (Shared.heap ⟨hp.push {cls:=.type "list_iterator",data:=.fields #[.ref a,.int 0 0]},g,d,tk,os⟩) b ys:=nv q2 _;wp_walk using Lm w1,KL w2;exact⟨_,rfl,h⟩
  |false =>
   have w1:Heap.IsTuple (Shared.heap ⟨hp,g,d,tk,os⟩) a xs:=q1
   cases k2 with
   |true =>
    have w2:Heap.IsList (Shared.heap ⟨hp.push {cls:=.type "tuple_iterator",data:=.fields #[.ref a,.int 0 0]},g,d,tk,os⟩) b ys:=Heap.IsList.push q2 _;wp_walk using KL w1,Lm w2;exact⟨_,rfl,h⟩
   |false =>
    have w2:Heap.IsTuple (Shared.heap ⟨hp.push {cls:=.type "tuple_iterator",data:=.fields #[.ref a,.int 0 0]},g,d,tk,os⟩) b ys:=nv q2 _;wp_walk using KL w1,KL w2;exact⟨_,rfl,h⟩
theorem AU{k:Bool}(e:h.get? it=some {cls:=.type (HA k),data:=.fields #[.ref a,.int 0 0]}):i9 k h it a 0:=by
 cases k with
 |true=>exact⟨_,e,rfl,rfl⟩
 |false=>exact⟨_,e,rfl,rfl⟩
section
variable {prog:Program} {w:World} {A:Around} {E:Value->Shared->Prop} {s:Shared}
theorem tG{k1 k2:Bool}{xs ys:Array Value}(h1:iC k1 s.heap a xs)(h2:iC k2 s.heap b ys)
  (h:∀ h',IsZip h' (s.heap.objs.size+4) (s.heap.objs.size+2) (s.heap.objs.size+3) .none->IsPair h' (s.heap.objs.size+2) (.ref s.heap.objs.size) (.ref (s.heap.objs.size+1))->IsPair h' (s.heap.objs.size+3) .none .none ->
   i9 k1 h' s.heap.objs.size a 0->i9 k2 h' (s.heap.objs.size+1) b 0->(∀ c o,s.heap.get? c=some o->h'.get? c=some o)->Q (.ref (s.heap.objs.size+4)) {s with heap:=h'}) :
  wpAny (model prog w) A (call (.type "zip") [.ref a,.ref b]) Q E s:=by
 refine callType_new F.called_zip (by decide) (F.typeCall_zip_2 _ _) (F.newCall_zip_2 _ _) (fun obj=>F.args_object_init_3 obj _ _) F.entry_zip_new (p7 k1 k2 a b xs ys) ⟨h1,h2,?_⟩
 have e1:(G9 s.heap k1 a).objs.size=s.heap.objs.size+1:=Lw ..;have e2:(GA s.heap k1 k2 a b).objs.size=s.heap.objs.size+2:=by rw[Lw,e1]
 have e3:(G0 s.heap k1 k2 a b).objs.size=s.heap.objs.size+3:=by rw[Lw,e2]
 have e4:(G7 s.heap k1 k2 a b).objs.size=s.heap.objs.size+4:=by rw[Lw,e3]
 have p5:(DR s.heap k1 k2 a b).get? (G7 s.heap k1 k2 a b).objs.size=some _:=JC _ rfl;have p4:(DR s.heap k1 k2 a b).get? (G0 s.heap k1 k2 a b).objs.size=some _:=Jr _ (JC _ rfl);have p3:(DR s.heap k1 k2 a b).get? (GA s.heap k1 k2 a b).objs.size=some _:=Jr _ (Jr _ (JC _ rfl));have p2:(DR s.heap k1 k2 a b).get? (G9 s.heap k1 a).objs.size=some _:=Jr _ (Jr _ (Jr _ (JC _ rfl)));have p1:(DR s.heap k1 k2 a b).get? s.heap.objs.size=some _:=Jr _ (Jr _ (Jr _ (Jr _ (JC _ rfl))));show _/\_;rw[e2,e3,e4] at p5;rw[e1,e2] at p3;rw[e3] at p4;rw[e1] at p2;rw[e4];exact⟨⟨_,p5,rfl⟩,h _ p5 p3 p4 (AU p1) (AU p2) fun c o x=>Jr _ (Jr _ (Jr _ (Jr _ (Jr _ x))))⟩
end
theorem tq{w:World}{tk:Nat}(k1 k2:Bool)(a b z TI TO i1 i2:Addr)(D:ZA z TI TO i1 i2 a b):
  Turn P w K (.Tuple es tk tp) (Dt K k1 k2 a b) [z,TI,TO,i1,i2] z (fun i h=>IsZip h z TI TO .none/\IsPair h TI (.ref i1) (.ref i2)/\(∃ x y,IsPair h TO x y)/\i9 k1 h i1 a i/\i9 k2 h i2 b i) where
 mem:=by simp
 obj:=fun i h st c hc=>by
  obtain⟨s1,s2,⟨x,y,s3⟩,s4,s5⟩:=st;simp only[J5,Kt,Ly] at hc;rcases hc with rfl|rfl|rfl|rfl|rfl
  ·exact⟨_,s1,fun v q=>by cases q⟩
  ·exact⟨_,s2,fun v q=>by cases q⟩
  ·exact⟨_,s3,fun v q=>by cases q⟩
  ·obtain⟨o,e,_,d⟩:=s4.ty;exact⟨o,e,fun v q=>by rw[d] at q;cases q⟩
  ·obtain⟨o,e,_,d⟩:=s5.ty;exact⟨o,e,fun v q=>by rw[d] at q;cases q⟩
 keep:=fun i h h' st k=>by
  obtain⟨s1,s2,⟨x,y,s3⟩,s4,s5⟩:=st;refine⟨k z (by simp) _ s1,k TI (by simp) _ s2,⟨x,y,k TO (by simp) _ s3⟩,?_,?_⟩
  ·cases k1 with
   |true=>obtain⟨o,e,r⟩:=(show h.IsListIter i1 a i from s4);exact⟨o,k i1 (by simp) o e,r⟩
   |false=>obtain⟨o,e,r⟩:=(show h.IsTupleIter i1 a i from s4);exact⟨o,k i1 (by simp) o e,r⟩
  ·cases k2 with
   |true=>obtain⟨o,e,r⟩:=(show h.IsListIter i2 b i from s5);exact⟨o,k i2 (by simp) o e,r⟩
   |false=>obtain⟨o,e,r⟩:=(show h.IsTupleIter i2 b i from s5);exact⟨o,k i2 (by simp) o e,r⟩
 item:=by
  intro X hP hw hK hc i pins s σ H E I hf st hg;subst hP hw hK;obtain⟨xs,ys,x,y,q1,q2,ex,ey⟩:=hg;obtain⟨s1,s2,⟨x0,y0,s3⟩,s4,s5⟩:=st;obtain⟨its1,rv1,p1⟩:=I.sH q1;obtain⟨its2,rv2,p2⟩:=I.sH q2;obtain⟨u1,hu1,ru1⟩:=rv1.get ex;obtain⟨u2,hu2,ru2⟩:=rv2.get ey;have lt1:i<its1.toArray.size:=by have:=(Jz.mp hu1).1;simpa using this
  have lt2:i<its2.toArray.size:=by have:=(Jz.mp hu2).1;simpa using this
  have hT:s.TypeIs (.ref z) "zip":=⟨_,s1,rfl⟩;have D1:=iV (prog:=X.prog) (w:=X.w) (A:=X.A.in1) k1 (I.ok.hd hc) i1 a D.a8.2.2.1 its1.toArray;have D2:=iV (prog:=X.prog) (w:=X.w) (A:=X.A.in1) k2 (I.ok.hd hc) i2 b D.a9.2.2.2 its2.toArray;unfold pyNext;refine Jp (MP (Ku (name:=Str.ofString "__next__") hT PySem.F.slot_zip_next (Ky PySem.F.slot_zip_next hT PySem.F.entry_zip_next
   (su D D1 D2 s1 s2 s3 ⟨s4,p1⟩ ⟨s5,p2⟩ lt1 lt2 fun v1 v2 h' tk' px py z1 t1 w1 w2 pr kp=>Jx ?_) (PySem.F.args_zip_next_1 _))))
  have fr:H s.heap.objs.size=none:=I.aU.fresh (J6 _);have ev1:v1=u1:=by rw[K3,hu1] at px;exact (Option.some.inj px).symm
  have ev2:v2=u2:=by rw[K3,hu2] at py;exact (Option.some.inj py).symm
  subst ev1 ev2;have lt:∀{c o},s.heap.get? c=some o->s.heap.objs.size≠c:=fun e=>Lx (JA e);refine⟨.ref s.heap.objs.size,rfl,wpAny_letOwnedTupleGo_zip z1 fun h2 z2 sb2=>?_⟩;have pr2:IsPair h2 s.heap.objs.size v1 v2:=sb2.extBut _ _ (lt s1) pr;have I2:Inv X pins σ (upd H s.heap.objs.size (.tup [x,y])) {s with heap:=h2,toks:=tk'}:=by
   refine I.lF (fp:=[z,TI,TO,i1,i2]) hf (J6 _) (fun c o hcm ec=>?_) ⟨by show 2<=sizeLine;decide,[v1,v2],.cons ru1 (.cons ru2 .nil),⟨_,pr2,rfl,_,rfl,rfl⟩⟩
   simp only[J5,Kt,Ly,not_or] at hcm;exact sb2.extBut _ _ hcm.1 (kp c o hcm.1 hcm.2.2.1 hcm.2.2.2.1 hcm.2.2.2.2 ec)
  refine⟨.ref s.heap.objs.size,_,I2,rfl,⟨s.heap.objs.size,x,y,fun zs hz=>by rw[I.oo hz q1];exact ex,fun zs hz=>by rw[I.oo hz q2];exact ey,fr,rfl,rfl⟩,⟨z2,?_,⟨v1,v2,?_⟩,?_,?_⟩,fun c hcm=>?_⟩
  ·exact sb2.extBut _ _ D.a1 (kp _ _ D.a1 D.b1.1 D.b1.2.1 D.b1.2.2 s2)
  ·exact sb2.extBut _ _ D.a2 t1
  ·have:=D1.frame (i+1) h' h2 w1 fun c hcm o q=>sb2.extBut _ _ (D.f1 (.inl rfl) c hcm) q;exact this.1
  ·have:=D2.frame (i+1) h' h2 w2 fun c hcm o q=>sb2.extBut _ _ (D.f2 (.inl rfl) c hcm) q;exact this.1
  ·have hn:=(hf c hcm).1;rw[ao]
   ·exact hn
   ·simp only[J5,Kt,Ly] at hcm;rcases hcm with rfl|rfl|rfl|rfl|rfl
    ·exact (lt s1).symm
    ·exact (lt s2).symm
    ·exact (lt s3).symm
    ·obtain⟨o,e,_⟩:=s4.ty;exact (lt e).symm
    ·obtain⟨o,e,_⟩:=s5.ty;exact (lt e).symm
 done:=by
  intro X hP hw hK hc i pins s σ H E I hf st hg;subst hP hw hK;obtain⟨xs,ys,q1,q2,hi⟩:=hg;obtain⟨s1,s2,⟨x0,y0,s3⟩,s4,s5⟩:=st;obtain⟨its1,rv1,p1⟩:=I.sH q1;obtain⟨its2,rv2,p2⟩:=I.sH q2;have n1:its1.toArray.size=xs.length:=by rw[Jv];exact rv1.length.symm
  have n2:its2.toArray.size=ys.length:=by rw[Jv];exact rv2.length.symm
  have hT:s.TypeIs (.ref z) "zip":=⟨_,s1,rfl⟩;have D1:=iV (prog:=X.prog) (w:=X.w) (A:=X.A.in1) k1 (I.ok.hd hc) i1 a D.a8.2.2.1 its1.toArray;have D2:=iV (prog:=X.prog) (w:=X.w) (A:=X.A.in1) k2 (I.ok.hd hc) i2 b D.a9.2.2.2 its2.toArray;unfold pyNext;refine Jp (MP (Ku (name:=Str.ofString "__next__") hT PySem.F.slot_zip_next (Ky PySem.F.slot_zip_next hT PySem.F.entry_zip_next
   (vR D D1 D2 s1 s2 s3 ⟨s4,p1⟩ ⟨s5,p2⟩ (by rw[n1,n2];lia) fun h' e tk' kp he=>?_) (PySem.F.args_zip_next_1 _))))
  obtain⟨o,ho,hcl⟩:=he;refine Jp (wpAny_isInstance (T:="StopIteration") (b:=true) ⟨o,ho,hcl⟩ isSubtype_stop (Jx ⟨rfl,?_⟩));refine I.turns (t':=tk') hf fun c o hcm ec=>?_;simp only[J5,Kt,Ly,not_or] at hcm;exact kp c o hcm.1 hcm.2.2.1 hcm.2.2.2.1 hcm.2.2.2.2 ec
 self:=fun A i s Q E st h=>wpAny_pyIter_zip st.1 h
section
variable {X:Cx} {es:List Expr} {tk:Nat} {tp:Pos}
noncomputable def Ga(K:Oi)(ta:TA):TI:=fun σ H R=>ta σ H fun vs H1=>∃ a b k1 k2,vs=[.ref a,.ref b]/\(∃ xs,qo K k1 H1 a xs)/\(∃ ys,qo K k2 H1 b ys)/\R (Dt K k1 k2 a b) H1
theorem zM{e1 e2:Expr}{p pos:Pos}(hg:Gl X "zip")(hm:X.mg "zip"=none)(ha:PA X [e1,e2] ta)(h1:autoParam (dq e1=true) ℜ0)(h2:autoParam (dq e2=true) ℜ0)(hv:autoParam (bootBuiltins "zip"=some (.type "zip")) ℜ6):
  PI X (.Tuple es tk tp) (.Call (.Name "zip" p) [e1,e2] [] pos) (Ga X.K ta):=by
 intro pins s σ H R I h;refine Call_ (ft I hg hm hv (KC (cB (ha pos pins s σ H _ I h) fun us s1 ⟨vs,H1,I1,r1,q1⟩=>?_) (by rw[d6 h1,d6 h2]) (by rw[d6 h2];rfl)))
 obtain⟨a,b,k1,k2,e,⟨xs,hx⟩,⟨ys,hy⟩,q⟩:=q1;subst e;obtain⟨u,w',rfl,ru,rw'⟩:=vals2 r1
 cases ru;cases rw'
 obtain⟨its1,rv1,p1⟩:=I1.sH hx;obtain⟨its2,rv2,p2⟩:=I1.sH hy;obtain⟨o1,eo1,_⟩:=p1.ty;obtain⟨o2,eo2,_⟩:=p2.ty;have l1:a<s1.heap.objs.size:=JA eo1;have l2:b<s1.heap.objs.size:=JA eo2;refine tG p1 p2 fun h' z1 z2 z3 z4 z5 kp=>wpAny_pyIter_zip z1 ?_;have I2:Inv X pins σ H1 {s1 with heap:=h'}:=I1.kept (t':=s1.toks) kp
 have ne:∀(m n c:Nat),m≠n->c+m≠c+n:=fun m n c h=>by lia
 have nl:∀(x c m:Nat),x<c->x≠c+m:=fun x c m h=>by lia
 have D:ZA (s1.heap.objs.size+4) (s1.heap.objs.size+2) (s1.heap.objs.size+3) s1.heap.objs.size (s1.heap.objs.size+1) a b:=
  ⟨ne 2 4 _ (by decide),ne 3 4 _ (by decide),ne 0 4 _ (by decide),ne 1 4 _ (by decide),ne 3 0 _ (by decide),ne 3 1 _ (by decide),ne 0 1 _ (by decide),⟨nl _ _ 4 l1,nl _ _ 3 l1,nl _ _ 0 l1,nl _ _ 1 l1⟩,⟨nl _ _ 4 l2,nl _ _ 3 l2,nl _ _ 0 l2,nl _ _ 1 l2⟩,ne 2 3 _ (by decide),ne 2 0 _ (by decide),ne 2 1 _ (by decide)⟩
 refine⟨s1.heap.objs.size+4,[s1.heap.objs.size+4,s1.heap.objs.size+2,s1.heap.objs.size+3,s1.heap.objs.size,s1.heap.objs.size+1],_,_,H1,rfl,I2,tq k1 k2 a b _ _ _ _ _ D,⟨z1,z2,⟨_,_,z3⟩,z4,z5⟩,fun c hc=>?_,q⟩;have hc':s1.heap.objs.size<=c:=by
  simp only[J5,Kt,Ly] at hc;rcases hc with rfl|rfl|rfl|rfl|rfl
  ·exact Mk _ _
  ·exact Mk _ _
  ·exact Mk _ _
  ·exact J6 _
  ·exact Mk _ _
 exact I1.sL hc' (I1.aU.fresh hc')
end
noncomputable def m4(ts us:List T):List T:=List.zipWith (fun t u=>.tup [t,u]) ts us
noncomputable def ki:T->Option (List T)
 |.lst ts=>some ts
 |.tup ts=>some ts
 |.eU ts=>some ts
 |.d_ ts=>some ts
 |_=>none
noncomputable def kdOf:T->Bool
 |.lst _=>true
 |.eU _=>true
 |_=>false
theorem Vw.sq{v:V}{t:T}(h:Vw K H B v t)(e:ki t=some ts):∃ a vs,v=.ref a/\qo K (kdOf t) H a vs/\au K H B vs ts:=by
 cases h with
 |aJ=>cases e
 |bl=>cases e
 |int=>cases e
 |str=>cases e
 |fh=>cases e
 |mU=>cases e
 |exc=>cases e
 |yy=>cases e
 |tup h r=>cases e;exact⟨_,_,rfl,cD.of h,r⟩
 |d_ h r=>cases e;exact⟨_,_,rfl,.inr h,r⟩
 |lst h r=>cases e;exact⟨_,_,rfl,cJ.of h,r⟩
 |eU h r=>cases e;exact⟨_,_,rfl,h,r⟩
theorem C0{k1 k2:Bool}{us:List T}:jG K (Dt K k1 k2 a b) (fun H B=>(∃ vs,qo K k1 H a vs/\au K H B vs ts)/\∃ ws,qo K k2 H b ws/\au K H B ws us) (m4 ts us):=by
 refine⟨fun H B i t hb ⟨⟨vs,h1,r1⟩,ws,h2,r2⟩ e=>?_,fun H B ⟨⟨vs,h1,r1⟩,ws,h2,r2⟩=>⟨vs,ws,h1,h2,by rw[r1.length,r2.length];simp[m4]⟩⟩
 unfold m4 at e;rw[List.getElem?_zipWith] at e
 cases e1:ts[i]? with
 |none=>rw[e1] at e;cases e
 |some t1=>cases e2:us[i]? with
  |none=>rw[e1,e2] at e;cases e
  |some t2 =>
   rw[e1,e2] at e;have e':T.tup [t1,t2]=t:=Option.some.inj e;subst e';obtain⟨v1,g1,rv1⟩:=r1.get e1;obtain⟨v2,g2,rv2⟩:=r2.get e2;refine⟨⟨vs,ws,v1,v2,h1,h2,g1,g2⟩,fun x H2 y=>?_⟩;obtain⟨p,x',y',hx,hy,hp,rfl,rfl⟩:=y;have z1:=hx vs h1;have z2:=hy ws h2;rw[g1] at z1;rw[g2] at z2
   cases z1;cases z2
   have fs:Fr B H B (upd H p (.tup [v1,v2])):=Fr.same (cu.new hp);refine⟨cu.new hp,.tup (fun z=>?_) ax (.cons (rv1.fr fs) (.cons (rv2.fr fs) .nil))⟩;obtain⟨o,q⟩:=hb p z;rw[hp] at q;cases q
namespace Y
section
variable {X:Cx} {e1 e2:Expr} {es:List Expr} {us:UA} {pos p tp:Pos} {k:Nat}
noncomputable def iZ(us:UA):UI:=fun μ Rt=>us μ fun rs μ'=>match rs with
 |[.tr t1,.tr t2]=>(match ki t1,ki t2 with
  |some ts,some vs=>Rt (m4 ts vs) none μ'
  |_,_=>False)
 |_=>False
theorem zip(K:Oi)(hK:X.K=K)(hg:Gl X "zip")(hm:X.mg "zip"=none)(ha:YA X [e1,e2] us)(h1:autoParam (dq e1=true) ℜ0)(h2:autoParam (dq e2=true) ℜ0):YI X (.Tuple es k tp) (.Call (.Name "zip" p) [e1,e2] [] pos) (iZ us):=by
 obtain⟨t,q,r⟩:=ha;subst hK;refine⟨_,⟨zM hg hm q.h h1 h2⟩,fun F ad B σ H μ R Rt hF l q k=>r F ad B σ H μ _ _ hF l q fun vs H' rs μ' l1 ps f k1 q1=>?_⟩
 split at q1
 ·rename_i t1 t2
  cases ps with
  |cons h1 ps=>cases ps with
   |cons h2 ps =>
    cases ps;have r1:=bP h1;have r2:=bP h2
    split at q1
    ·rename_i ts us e1 e2;obtain⟨a,vs,rfl,s1,_⟩:=Vw.sq r1.vw e1;obtain⟨b,ws,rfl,s2,_⟩:=Vw.sq r2.vw e2;rw[hF] at s1 s2;refine⟨a,b,kdOf t1,kdOf t2,rfl,⟨vs,s1⟩,⟨ws,s2⟩,k _ H' μ' _ none (fun H B=>Rep F.K H B (.ref a) t1/\Rep F.K H B (.ref b) t2) l1 f k1 (C0.imp fun H B h=>?_) ⟨r1,r2⟩ (fun B1 H1 B2 H2 f h=>⟨h.1.fr f,h.2.fr f⟩) (fun j ls z=>by cases z) q1⟩
     obtain⟨g1,g2⟩:=h;obtain⟨a',vs',ea,sa,ra⟩:=Vw.sq g1.vw e1;obtain⟨b',ws',eb,sb,rb⟩:=Vw.sq g2.vw e2
     cases ea;cases eb
     rw[hF] at sa sb ra rb;exact⟨⟨vs',sa,ra⟩,ws',sb,rb⟩
    ·exact q1.elim
 ·exact q1.elim
end
end Y
theorem ze{N ps:List Str}(F:yh K x x st fa fd)(S:aq N ps (aa st))(md:List Bool)(hm:md.length=ps.length)(hN:md.length<=N.length)
  (hbody:∀(args:List T) (Qt:R->List T->Prop),args.length=ps.length->tsp args Qt->∀(cdv:Value) (A:Around) (outer:List Env) (s:Shared) (H:Hp) (E:XK),bM k (A.deeper (envOfC x (aa st) s.heap.objs.size fa cdv)) ->
   ∃ us,YB (gY bA P w K mg base N x (aa st) fa cdv A outer s H E).zX (aj st) us/\us (tV md Qt) (startM md args N.length)):ee P w K mg base bA (k+1) fa fd ps (spT K md tsp):=by
 refine yH F S (fun vs H Q E h=>?_) (fun cdv A outer s H vs Q E hr h=>?_)
 ·obtain⟨B,args,Qt,ag,_⟩:=h;rw[ag.len.1,hm]
 ·obtain⟨B,args,Qt,ag,bh,nd,ht,fin⟩:=h;obtain⟨us,⟨t,q,r⟩,hu⟩:=hbody args Qt (by rw[ag.len.2,hm]) ht cdv A outer s H E hr
  refine⟨t,q,?_⟩;have l0:=jf (N:=N) ag bh nd hN;have outs:∀ ad' B' σ' H' μ' (B2:bo),Rl (jT K H md vs B bh) ad' B' σ' H' μ'->(∀ b,B2 b->B' b)->Paired (Bx K H' B2) (jX md vs) (cL md 0 μ'):=fun ad' B' σ' H' μ' B2 l hB=>by
   refine lH (ag.len.1) fun n e=>?_;obtain⟨v,t',e1,e2,q⟩:=ag.get e;rw[Jy rfl] at q;obtain⟨a,rfl,_⟩:=q;obtain⟨⟨c,hc⟩,ha⟩:=l.par n a (lR e e1);have sl:=l.slot n _ hc;refine⟨a,c,e1,by rw[L0];exact hc,?_⟩
   rw[<- ha];exact (sl.2.2.2).of rfl (Fr.less hB)
  have keep:∀ ad' B' σ' H' μ',Rl (jT K H md vs B bh) ad' B' σ' H' μ'->∀ b o,H b=some o->b∉jX md vs->H' b=some o:=fun ad' B' σ' H' μ' l b o e n=>l.old b o e fun i z=>n (fR (gy z).1 (gy z).2);refine r (jT K H md vs B bh) _ _ (mF vs) B (start N vs) H _ rfl l0 hu ⟨fun ad' B' σ' H' μ' l _ q=>?_,fun ad' B' σ' H' μ' v rr h q=>?_,fun _ _ _ _ _ _ _ z=>z.elim,fun _ _ _ _ _ _ _ z=>z.elim⟩
  ·exact fin .aJ H' (.tr .aJ) _ q (keep _ _ _ _ _ l) ⟨.aJ,outs _ _ _ _ _ _ l l.bc⟩
  ·cases rr with
   |tr t=>exact fin v H' (.tr t) _ q (keep _ _ _ _ _ h.1) ⟨(show Rep K H' B' v t from h.2).fr (Fr.less h.1.bc),outs _ _ _ _ _ _ h.1 h.1.bc⟩
   |fr c =>
    obtain⟨l,a,rfl,n,h0,l2,x⟩:=h;have sub:∀ b,more B a b->more B' a b:=fun b z=>z.imp id (l.bc b);exact fin _ H' (.fr c) _ q (keep _ _ _ _ _ l) ⟨a,rfl,h0,fun z=>n (l.bc a z),x.of rfl (Fr.less sub),outs _ _ _ _ _ _ l2 sub⟩
   |br i =>
    have q':(match μ'[i]? with|some (.bx c)=>Qt (.fr c) (cL md 0 μ')|_=>False):=q
    obtain⟨l,rfl,s',c',e1,e2⟩:=h
    split at q'
    ·rename_i c ec;have sl:=l.slot i _ ec;have sub:∀ b,more B (ad' i) b->B' b:=fun b z=>z.elim (fun z=>by rw[z];exact sl.2.1) (l.bc b)
     refine fin _ H' (.fr c) _ q' (keep _ _ _ _ _ l) ⟨ad' i,rfl,sl.2.2.1,fun z=>?_,(sl.2.2.2.2).of rfl (Fr.less sub),outs _ _ _ _ _ _ l sub⟩;obtain⟨o,e⟩:=bh _ z;have:H (ad' i)=none:=sl.2.2.1;rw[this] at e;cases e
    ·exact q'.elim
namespace Y
section
variable {X:Cx} {es:List Expr} {pos:Pos} {x:Str}
theorem gP{t:T}(hg:Gl X x)(h:∃ w u,X.mg x=some u/\RelV w u/\∀ H B,Rep X.K H B w t)(hd:autoParam ((x ==("__debug__":Str))=false) ℜ1):YE X (.Name x pos) (uC t):=by
 obtain⟨w,u,hm,r,h⟩:=h;exact glob hg hm r h hd
noncomputable def rW:List V->Option (List T)
 |[]=>some []
 |v::vs=>match xI v,rW vs with
  |some t,some ts=>some (t::ts)
  |_,_=>none
theorem kK:∀{vs:List V} {ts:List T},rW vs=some ts->vs.map xI=ts.map some
 |[],ts,h=>by cases h;rfl
 |v::vs,ts,h=>by
  unfold rW at h
  split at h
  ·rename_i t us e1 e2;cases h;rw[Kc,Kc,e1,kK e2]
  ·cases h
theorem e7(h:lj es=some vs)(h2:rW vs=some ts):YA X es (uK ts):=consts h (kK h2)
end
end Y
theorem fb{u w:US}{E:Ed}(h:∀ N,N=w E->u {E with nx:=N} μ):Y.y4 u w E μ:=h _ rfl
noncomputable def nY(o:Option (Prop×R))(Q:R->Prop):Prop:=match o with
 |some (C,r)=>C/\Q r
 |none=>False
theorem vP(C:Prop)(r:R)(Q:R->Prop):nY (some (C,r)) Q=(C/\Q r):=rfl
noncomputable def FG(o:Option (List T×Option (Nat×List T)))(Q:List T->Option (Nat×List T)->Prop):Prop:=match o with
 |some (ts,g)=>Q ts g
 |none=>False
noncomputable def nb:Option Sl->Prop
 |some (.pb _)=>False
 |_=>True
noncomputable def sl:Option T->Sl
 |none=>.un
 |some t=>.tr t
noncomputable def Cb(o:Option Sl)(i:Nat):Option (Prop×R):=match o with
 |some (.tr t)=>some (True,.tr t)
 |some (.bx _)=>some (True,.br i)
 |some (.pb _)=>some (True,.br i)
 |_=>none
noncomputable def vN:R->Option Bool
 |.tr (.bl b)=>some b
 |.tr (.int i)=>some (i != 0)
 |_=>none
noncomputable def CC(a b:Option T):Option (Prop×R):=match a,b with
 |some (.int i),some (.int j)=>some (True,.tr (.int (i+j)))
 |some (.str i),some (.str j)=>some (i.length+j.length<=sizeLine,.tr (.str (i++j)))
 |some (.lst xs),some (.lst ys)=>some (xs.length+ys.length<=sizeLine,.fr (.lst (xs++ys)))
 |some (.tup xs),some (.tup ys)=>some (xs.length+ys.length<=sizeLine,.tr (.tup (xs++ys)))
 |_,_=>none
noncomputable def oT(o:Option T):Option (Prop×R):=match o with
 |some t=>some (True,.tr t)
 |none=>none
noncomputable def HL(a b:Option T):Option (Prop×R):=match a,b with
 |some (.lst xs),some (.int i)=>oT (bR xs i)
 |some (.tup xs),some (.int i)=>oT (bR xs i)
 |some (.d_ xs),some (.int i)=>oT (bR xs i)
 |some (.str z),some (.int i)=>(match bR z.cps.toList i with|some c=>some (z.length<=sizeLine,.tr (.str ⟨#[c]⟩))|none=>none)
 |_,_=>none
noncomputable def Fn(a:T):Option (Prop×R):=match a with
 |.lst xs=>some (True,.tr (.int xs.length))
 |.tup xs=>some (True,.tr (.int xs.length))
 |.eU xs=>some (True,.tr (.int xs.length))
 |.d_ xs=>some (True,.tr (.int xs.length))
 |.str z=>some (z.length<=sizeLine,.tr (.int z.length))
 |_=>none
noncomputable def oW(a:Option T):Option (Prop×R):=match a with
 |some (.lst xs)=>some (True,.tr (.tup xs))
 |some (.tup xs)=>some (True,.tr (.tup xs))
 |_=>none
noncomputable def tT(a:Option T):Option (List T):=match a with
 |some (.tup ts)=>some ts
 |some (.lst ts)=>some ts
 |_=>none
noncomputable def zm(r:R)(μ:Mu):Option (List T×Option (Nat×List T)):=match r with
 |.br j=>(match cont μ (.br j) with|some (.lst ts)=>some (ts,some (j,ts))|_=>none)
 |.tr (.lst ts)=>some (ts,none)
 |.fr (.lst ts)=>some (ts,none)
 |.tr (.tup ts)=>some (ts,none)
 |.tr (.eU ts)=>some (ts,none)
 |.tr (.d_ ts)=>some (ts,none)
 |_=>none
namespace A
open Y
theorem uC(t:T)(μ:Mu)(Q:R->Mu->Prop):Y.uC t μ Q=Q (.tr t) μ:=rfl
theorem lP(i:Nat)(μ:Mu)(Q:R->Mu->Prop):Y.lP i μ Q=nY (Cb μ[i]? i) fun r=>Q r μ:=by
 unfold Y.lP Cb
 cases μ[i]? with
 |none=>rfl
 |some s=>cases s<;>exact propext ⟨fun h=>by first|exact h|exact⟨trivial,h⟩,fun h=>by first|exact h|exact h.2⟩
theorem ur(u:U2)(ua ub:UE)(μ:Mu)(Q:R->Mu->Prop):Y.ur u ua ub μ Q=ua μ fun r1 μ1=>ub μ1 fun r2 μ2=>u r1.d r2.d μ2 Q:=rfl
theorem kq(ue:UE)(μ:Mu)(Q:Bool->Mu->Prop):Y.kq ue μ Q=ue μ fun r μ'=>match r with|.tr (.bl b)=>Q b μ'|_=>False:=rfl
theorem jw(u u':U2)(ua ub uc:UE)(μ:Mu)(Q:R->Mu->Prop):Y.jw u u' ua ub uc μ Q=ua μ fun r1 μ1=>ub μ1 fun r2 μ2=>u r1.d r2.d μ2 fun z μ3=>match z with
 |.tr (.bl true)=>uc μ3 fun r3 μ4=>u' r2.d r3.d μ4 Q
 |.tr (.bl false)=>Q (.tr (.bl false)) μ3
 |_=>False:=rfl
theorem yB(ut:UT)(μ:Mu)(Q:Bool->Mu->Prop):Y.yB ut μ Q=ut μ fun b μ'=>Q (!b) μ':=rfl
theorem v_(u w:UT)(μ:Mu)(Q:Bool->Mu->Prop):Y.v_ u w μ Q=u μ fun b μ'=>if b=true then w μ' Q else Q false μ':=rfl
theorem EK(u w:UT)(μ:Mu)(Q:Bool->Mu->Prop):Y.EK u w μ Q=u μ fun b μ'=>if b=true then Q true μ' else w μ' Q:=rfl
theorem n8(ue:UE)(μ:Mu)(Q:Bool->Mu->Prop):Y.n8 ue μ Q=ue μ fun r μ'=>match vN r with|some b=>Q b μ'|none=>False:=by
 unfold Y.n8 vN;congr 1
 funext r μ'
 cases r with
 |tr t=>cases t<;>rfl
 |br i=>rfl
 |fr c=>rfl
theorem qV(ua ub:UE)(μ:Mu)(Q:R->Mu->Prop):Y.qV ua ub μ Q=ua μ fun r μ'=>match r with|.tr (.bl true)=>ub μ' Q|.tr (.bl false)=>Q (.tr (.bl false)) μ'|_=>False:=rfl
theorem EY(uc:UT)(ua ub:UE)(μ:Mu)(Q:R->Mu->Prop):Y.EY uc ua ub μ Q=uc μ fun b μ'=>if b=true then ua μ' Q else ub μ' Q:=rfl
theorem wF(ue:UE)(μ:Mu)(Q:R->Mu->Prop):Y.wF ue μ Q=ue μ fun r μ'=>match r with|.tr (.int i)=>Q (.tr (.int (-i))) μ'|_=>False:=rfl
theorem tU(μ:Mu)(Q:List R->Mu->Prop):Y.tU μ Q=Q [] μ:=rfl
theorem nL(ue:UE)(us:UA)(μ:Mu)(Q:List R->Mu->Prop):Y.nL ue us μ Q=ue μ fun r μ1=>us μ1 fun rs μ2=>Q (r.d::rs) μ2:=rfl
theorem uK(ts:List T)(μ:Mu)(Q:List R->Mu->Prop):Y.uK ts μ Q=Q (ts.map R.tr) μ:=rfl
theorem y3(us:UA)(μ:Mu)(Q:R->Mu->Prop):Y.y3 us μ Q=us μ fun rs μ'=>match trees rs with|some ts=>ts.length<=sizeLine/\Q (.tr (.tup ts)) μ'|none=>False:=rfl
theorem zD(us:UA)(μ:Mu)(Q:R->Mu->Prop):Y.zD us μ Q=us μ fun rs μ'=>match trees rs with|some ts=>ts.length<=sizeLine/\Q (.fr (.lst ts)) μ'|none=>False:=rfl
theorem DU(u:UC)(us:UA)(μ:Mu)(Q:R->Mu->Prop):Y.DU u us μ Q=us μ fun rs μ'=>u rs μ' Q:=rfl
theorem iS(μ:Mu)(Q:Option Int->Mu->Prop):Y.iS μ Q=Q none μ:=rfl
theorem pX(ue:UE)(μ:Mu)(Q:Option Int->Mu->Prop):Y.pX ue μ Q=ue μ fun r μ'=>match r with|.tr (.int i)=>Q (some i) μ'|_=>False:=rfl
theorem oA(f:T->T->Mu->(R->Mu->Prop)->Prop)(r1 r2:R)(μ:Mu)(Q:R->Mu->Prop):Y.oA f r1 r2 μ Q=(match cont μ r1,cont μ r2 with|some t,some u=>f t u μ Q|_,_=>False):=rfl
theorem Gh(C:Int->Int->Prop)(g:Int->Int->Int)(i j:Int)(μ:Mu)(Q:R->Mu->Prop):xy C g (.int i) (.int j) μ Q=(C i j/\Q (.tr (.int (g i j))) μ):=rfl
theorem Hc(g:Int->Int->Bool)(i j:Int)(μ:Mu)(Q:R->Mu->Prop):HB g (.int i) (.int j) μ Q=Q (.tr (.bl (g i j))) μ:=rfl
theorem kb(r1 r2:R)(μ:Mu)(Q:R->Mu->Prop):Y.kb r1 r2 μ Q=nY (CC (cont μ r1) (cont μ r2)) fun r=>Q r μ:=by
 unfold Y.kb CC
 cases cont μ r1 with
 |none=>rfl
 |some t=>cases cont μ r2 with
  |none=>cases t<;>rfl
  |some u=>cases t<;>cases u<;>first|rfl|exact propext ⟨fun h=>⟨trivial,h⟩,fun h=>h.2⟩
theorem oR(r1 r2:R)(μ:Mu)(Q:R->Mu->Prop):Y.oR r1 r2 μ Q=nY (HL (cont μ r1) (cont μ r2)) fun r=>Q r μ:=by
 unfold Y.oR HL;have e:∀(xs:List T) (i:Int),(match bR xs i with|some t=>Q (.tr t) μ|none=>False)=nY (oT (bR xs i)) fun r=>Q r μ:=fun xs i=>by
  cases bR xs i with
  |none=>rfl
  |some t=>exact propext ⟨fun h=>⟨trivial,h⟩,fun h=>h.2⟩
 cases cont μ r1 with
 |none=>rfl
 |some t=>cases cont μ r2 with
  |none=>cases t<;>rfl
  |some u =>
   cases t<;>cases u<;>first|rfl|exact e _ _|skip
   rename_i z i;show (z.length<=sizeLine/\(match bR z.cps.toList i with|some c=>Q (.tr (.str ⟨#[c]⟩)) μ|none=>False))=nY (match bR z.cps.toList i with|some c=>some (z.length<=sizeLine,.tr (.str ⟨#[c]⟩))|none=>none) fun r=>Q r μ
   cases bR z.cps.toList i with
   |none=>exact propext ⟨fun h=>h.2,fun h=>h.elim⟩
   |some c=>rfl
theorem oj(neg:Bool)(t:T)(μ:Mu)(Q:R->Mu->Prop):Y.oj neg t .aJ μ Q=Q (.tr (.bl (match t with|.aJ=>!neg|_=>neg))) μ:=rfl
theorem EH(neg:Bool)(i j:Int)(μ:Mu)(Q:R->Mu->Prop):Y.DJ neg (.int i) (.int j) μ Q=Q (.tr (.bl (if neg then !decide (i=j) else decide (i=j)))) μ:=rfl
theorem Ik(neg:Bool)(i j:Str)(μ:Mu)(Q:R->Mu->Prop):Y.DJ neg (.str i) (.str j) μ Q=Q (.tr (.bl (if neg then !decide (i=j) else decide (i=j)))) μ:=rfl
theorem zv(f:T->Mu->(R->Mu->Prop)->Prop)(r:R)(μ:Mu)(Q:R->Mu->Prop):Y.zv f [r] μ Q=(match cont μ r with|some t=>f t μ Q|none=>False):=rfl
theorem ou(t:T)(μ:Mu)(Q:R->Mu->Prop):Y.ou t μ Q=nY (Fn t) fun r=>Q r μ:=by
 cases t<;>first|rfl|exact propext ⟨fun h=>⟨trivial,h⟩,fun h=>h.2⟩
theorem ib(r:R)(μ:Mu)(Q:R->Mu->Prop):Y.ib [r] μ Q=nY (oW (cont μ r)) fun r=>Q r μ:=by
 show (match cont μ r with|some (.lst xs)=>Q (.tr (.tup xs)) μ|some (.tup xs)=>Q (.tr (.tup xs)) μ|_=>False)=_
 unfold oW
 cases cont μ r with
 |none=>rfl
 |some t=>cases t<;>first|rfl|exact propext ⟨fun h=>⟨trivial,h⟩,fun h=>h.2⟩
theorem Aj(j:Int)(μ:Mu)(Q:R->Mu->Prop):Y.p9 [.tr (.int j)] μ Q=Q (.tr (.fh 0 j)) μ:=rfl
theorem Dv(g:Int->Int->Int)(i j:Int)(μ:Mu)(Q:R->Mu->Prop):Y.Dv g [.tr (.int i),.tr (.int j)] μ Q=Q (.tr (.int (g i j))) μ:=rfl
theorem E1(k:Bool)(μ:Mu)(Q:R->Mu->Prop):Y.uY [.tr (.bl k)] μ Q=Q (.tr (.int (if k=true then 1 else 0))) μ:=rfl
theorem nE(ue:UE)(c:String)(μ:Mu)(Q:R->Mu->Prop):Y.nE ue c μ Q=ue μ fun r μ'=>match cont μ' r with|some t=>(match Am t c with|some b=>Q (.tr (.bl b)) μ'|none=>False)|none=>False:=rfl
theorem j_(ue:UE)(g:UG)(E:Ed)(μ:Mu):Y.j_ ue g E μ=ue μ fun r μ'=>g r μ' E.nx:=rfl
theorem Jd(i:Nat)(t:T)(μ:Mu)(Q:Mu->Prop):Y.gN i (.tr t) μ Q=(uj μ i/\Q (μ.set i (.tr t))):=rfl
theorem Jn(i:Nat)(t:T)(μ:Mu)(Q:Mu->Prop):Y.gN i (.fr t) μ Q=(uj μ i/\Q (μ.set i (.bx t))):=rfl
theorem uj(μ:Mu)(i:Nat):Y.uj μ i=nb μ[i]?:=rfl
theorem FY(t:T):nb (some (.tr t))=True:=rfl
theorem FN(t:T):nb (some (.bx t))=True:=rfl
theorem E_:nb (some .un)=True:=rfl
theorem E4(o:Option T):nb (some (sl o))=True:=by cases o<;>rfl
theorem gT(n:Nat)(gs:rB)(r:R)(μ:Mu)(Q:Mu->Prop):Y.gT n gs r μ Q=(match tT (cont μ r.d) with|some ts=>ts.length=n/\gs ts μ Q|none=>False):=by
 unfold Y.gT tT
 cases cont μ r.d with
 |none=>rfl
 |some t=>cases t<;>rfl
theorem Gs(g:UG)(gs:rB)(t:T)(ts:List T)(μ:Mu)(Q:Mu->Prop):Y.Gs g gs (t::ts) μ Q=g (.tr t) μ fun μ'=>gs ts μ' Q:=rfl
theorem Gy(μ:Mu)(Q:Mu->Prop):Y.Gy [] μ Q=Q μ:=rfl
theorem gS(uo ui:UE)(t:T)(μ:Mu)(Q:Mu->Prop):Y.gS uo ui (.tr t) μ Q=uo μ fun ro μ1=>ui μ1 fun ri μ2=>(match ro,ri with
  |.br j,.tr (.int k)=>(match (μ2[j]?).bind Sl.box with
   |some (.lst ts)=>(match hZ ts.length k with
    |some n=>Q (dH μ2 j (.lst (ts.set n t)))
    |none=>False)
   |_=>False)
  |_,_=>False):=rfl
theorem t9(ue:UE)(E:Ed)(μ:Mu):Y.t9 ue E μ=ue μ E.rt:=rfl
theorem rj(ue:UE)(E:Ed)(μ:Mu):Y.rj ue E μ=ue μ fun _ μ'=>E.nx μ':=rfl
theorem zj(c:UT)(u w:US)(E:Ed)(μ:Mu):Y.zj c u w E μ=c μ fun b μ'=>if b=true then u E μ' else w E μ':=rfl
theorem AO(ue:UE)(μ:Mu)(Rt:List T->Option (Nat×List T)->Mu->Prop):Y.AO ue μ Rt=ue μ fun r μ'=>FG (zm r μ') fun ts g=>Rt ts g μ':=by
 unfold Y.AO zm;congr 1
 funext r μ'
 cases r with
 |tr t=>cases t<;>rfl
 |br j =>
  show (match cont μ' (.br j) with|some (.lst ts)=>Rt ts (some (j,ts)) μ'|_=>False)=FG (match cont μ' (.br j) with|some (.lst ts)=>some (ts,some (j,ts))|_=>none) fun ts g=>Rt ts g μ'
  cases cont μ' (.br j) with
  |none=>rfl
  |some t=>cases t<;>rfl
 |fr c=>cases c<;>rfl
theorem G3(us:UA)(μ:Mu)(Rt:List T->Option (Nat×List T)->Mu->Prop):Y.G3 us μ Rt=us μ fun rs μ'=>match rs with
 |[.tr (.int j)]=>-(2^62)<=j/\j<2^62/\Rt ((List.range j.toNat).map fun k=>T.int (0+(k:Nat))) none μ'
 |_=>False:=rfl
theorem GO(us:UA)(μ:Mu)(Rt:List T->Option (Nat×List T)->Mu->Prop):Y.GO us μ Rt=us μ fun rs μ'=>match rs with |[.tr (.tup ts)]=>Rt (pairs ts) none μ'|_=>False:=rfl
theorem iZ(us:UA)(μ:Mu)(Rt:List T->Option (Nat×List T)->Mu->Prop):Y.iZ us μ Rt=us μ fun rs μ'=>match rs with
 |[.tr t1,.tr t2]=>(match ki t1,ki t2 with|some ts,some vs=>Rt (m4 ts vs) none μ'|_,_=>False)
 |_=>False:=rfl
theorem uR(ui:UI)(g:UG)(body:US)(E:Ed)(μ:Mu):Y.uR ui g body E μ=ui μ fun items gd μ'=>match gd with
 |none=>fD g body E items μ'
 |some (j,_)=>(match μ'[j]? with
  |some (.bx c)=>fD g body E items (μ'.set j (.tr c))
  |_=>False):=rfl
theorem iF(own:T->Mu->Option Mu)(dr:Mu->Mu)(ui:UI)(ut:UT)(ue:UE)(μ:Mu)(Q:R->Mu->Prop):Y.iF own dr ui ut ue μ Q=ui μ fun items gd μ'=>oM gd own dr ut ue Q items [] μ':=rfl
theorem GI(um:UM)(uo:UE)(us:UA)(μ:Mu)(Q:R->Mu->Prop):Y.GI um uo us μ Q=uo μ fun ro μ1=>match ro with|.br j=>Y.Gr ((μ1[j]?).bind Sl.box) (us μ1 fun rs μ2=>um j rs μ2 Q)|_=>False:=rfl
theorem EF(ts:List T)(p:Prop):Y.Gr (some (.lst ts)) p=p:=rfl
theorem gH(j:Nat)(t:T)(μ:Mu)(Q:R->Mu->Prop):Y.gH j [.tr t] μ Q=(match (μ[j]?).bind Sl.box with|some (.lst ts)=>ts.length<sizeLine/\Q (.tr .aJ) (dH μ j (.lst (ts++[t])))|_=>False):=rfl
theorem Bt(md:List Bool)(tsp:dW)(us:UA)(μ:Mu)(Q:R->Mu->Prop):Y.Bt md tsp us μ Q=us μ fun rs μ1=>match v9 μ1 md rs with
 |some args=>(h8 md rs).Nodup/\(∀ j∈h8 md rs,j∉iA md rs)/\tsp args fun r outs=>(iA md rs=[]\/(fc r=true/\outs.all gX=true))/\Q r (putAll (h8 md rs) outs μ1)
 |none=>False:=rfl
theorem Jb(ts:List T):ki (.tup ts)=some ts:=rfl
noncomputable def Iw:Option T->Nat->Option (List T×Option (Nat×List T))
 |some (.lst ts),j=>some (ts,some (j,ts))
 |_,_=>none
theorem Ir(xs:List T):oW (some (.lst xs))=some (True,.tr (.tup xs)):=rfl
theorem Im(xs:List T):tT (some (.tup xs))=some xs:=rfl
theorem Ij(xs:List T):tT (some (.lst xs))=some xs:=rfl
theorem Ea(ts:List T)(μ:Mu):zm (.tr (.lst ts)) μ=some (ts,none):=rfl
theorem Gb(ts:List T)(μ:Mu):zm (.fr (.lst ts)) μ=some (ts,none):=rfl
theorem EA(ts:List T)(μ:Mu):zm (.tr (.tup ts)) μ=some (ts,none):=rfl
theorem FA(ts:List T)(μ:Mu):zm (.tr (.eU ts)) μ=some (ts,none):=rfl
theorem Fu(j:Nat)(μ:Mu):zm (.br j) μ=Iw (cont μ (.br j)) j:=by
 show (match cont μ (.br j) with|some (.lst ts)=>some (ts,some (j,ts))|_=>none)=_
 unfold Iw
 cases cont μ (.br j) with
 |none=>rfl
 |some t=>cases t<;>rfl
theorem Fi(ts:List T)(j:Nat):Iw (some (.lst ts)) j=some (ts,some (j,ts)):=rfl
theorem GX(μ:Mu)(t:T):cont μ (.tr t)=some t:=rfl
theorem HC(μ:Mu)(i:Nat):cont μ (.br i)=(μ[i]?).bind Sl.box:=rfl
theorem H_(t:T):R.d (.tr t)=.tr t:=rfl
theorem HD(t:T):R.d (.fr t)=.tr t:=rfl
theorem Hb(i:Nat):R.d (.br i)=.br i:=rfl
theorem Hw(b:Bool):vN (.tr (.bl b))=some b:=rfl
end A
theorem bD{g:UG}{body:US}{E:Ed}(I:List T->Mu->Prop){items:List T}(h0:I items μ)(hn:∀ μ,I [] μ->E.nx μ)
  (hs:∀ t ts μ (N:Mu->Prop),I (t::ts) μ->(∀ μ',I ts μ'->N μ')->g (.tr t) μ fun μ1=>body {E with nx:=N,ct:=N,bk:=E.nx} μ1):Y.fD g body E items μ:=by
 induction items generalizing μ with
 |nil=>exact hn μ h0
 |cons t ts ih=>exact hs t ts μ _ h0 fun μ' h=>ih h
theorem bU{gd:Option (Nat×List T)}{own:T->Mu->Option Mu}{ut:UT}{Q:R->Mu->Prop}(I:List T->List T->Mu->Prop){items acc:List T}(h0:I items acc μ)(hn:∀ acc μ,I [] acc μ->Y.Gd gd μ/\Q (.fr (.lst acc)) μ)
  (hs:∀ t r acc μ (N:List T->Mu->Prop),I (t::r) acc μ->(∀ acc' μ',I r acc' μ'->N acc' μ')->Y.Gd gd μ/\acc.length<sizeLine/\(match own t μ with
   |none=>False
   |some μ1=>ut μ1 fun b μ2=>if b=true then ue μ2 fun rr μ3=>(match rr.d with
     |.tr t'=>N (acc++[t']) (dr μ3)
     |_=>False) else N acc (dr μ2))):Y.oM gd own dr ut ue Q items acc μ:=by
 induction items generalizing μ acc with
 |nil=>exact hn acc μ h0
 |cons t ts ih=>exact hs t ts acc μ (fun a m=>Y.oM gd own dr ut ue Q ts a m) h0 fun a' μ' h=>ih h
noncomputable def lu(K:Oi):Sp:=fun vs H Q _=>∃(a:Addr) (ns:List Int),vs=[.ref a]/\cJ K H a (ns.map V.int)/\ns.length<=63/\∀ H',Q (.bl true) H'
theorem dN:∀ ns:List Int,au K H B (ns.map V.int) (ns.map T.int)
 |[]=>.nil
 |n::ns=>.cons (.int n) (dN ns)
theorem By{ps:List Str}(h:ee P w K mg base bA k fa fd ps (spT K [false] Cy)):ee P w K mg base bA k fa fd ps (lu K):=by
 refine h.imp fun vs H Q E ⟨a,ns,e,hs,hl,q⟩=>?_;subst e;refine⟨fun _=>False,[.eU (ns.map T.int)],fun r outs=>r=.tr (.bl true),⟨.eU ?_ (dN ns),trivial⟩,fun b z=>z.elim,NN,⟨ns,rfl,hl,rfl⟩,fun v H' r outs hr _ res=>?_⟩
 ·rcases hs with hs|hs
  ·exact .inl ⟨fun z=>z,hs⟩
  ·exact .inr hs
 ·subst hr;have rv:=res.1;cases rv;exact q H'
namespace Y
theorem Br(hu:X.A.units<cLine):dm X (compareOp .NotEq) (Ao X.K true):=by
 intro pins s σ H x y v u Q I rx ry h;obtain⟨a,b,xs,ys,rfl,rfl,hq,fx,fy,q⟩:=h
 cases rx;cases ry
 have item:∀(its its2:List Value),Vals xs its->Vals ys its2->∀ j (h1:j<its.toArray.size) (h2:j<its2.toArray.size),SeqAt.EqAt X.A.in1 s its.toArray[j] its2.toArray[j] (match xs[j]?,ys[j]? with|some x,some y=>tW x y|_,_=>true):=fun its its2 r1 r2 j h1 h2=>by
  have l1:=r1.length;have l2:=r2.length;rw[Jv] at h1 h2;obtain⟨u1,e1,g1⟩:=r1.get (i:=j) (x:=xs[j]) (Jq (by lia))
  obtain⟨u2,e2,g2⟩:=r2.get (i:=j) (x:=ys[j]) (Jq (by lia))
  rw[Jq (show j<xs.length by lia),Jq (show j<ys.length by lia)]
  have z1:its.toArray[j]=u1:=by
   rw[Jq h1] at e1;simpa using e1
  have z2:its2.toArray[j]=u2:=by
   rw[Jq h2] at e2;simpa using e2
  rw[z1,z2];exact lK g1 g2 (Kx.mp fx _ (JY _)) (Kx.mp fy _ (JY _))
 rcases hq with ⟨ha,hb⟩|⟨ha,hb⟩
 ·obtain⟨its,r1,p1,_⟩:=I.list ha;obtain⟨its2,r2,p2,_⟩:=I.list hb;have l1:=r1.length;have l2:=r2.length;by_cases e:xs.length=ys.length
  ·refine SeqAt.RcNeAt.lists p1.isList p2.isList (by rw[Jv,Jv];lia) hu (item its its2 r1 r2) X.prog X.w X.xe _ ⟨.bl _,H,I,rfl,q _ ?_⟩
   rw[Jv,<- l1,<- e,KQ,Kq,Bool.true_and]
   try rfl
  ·refine MQ p1.isList p2.isList (by rw[Jv,Jv,MX];lia) hu X.prog X.w X.xe _ ⟨.bl true,H,I,rfl,?_⟩
   exact q false (by rw[Kk.mpr e,NK])
 ·obtain⟨its,r1,p1,_⟩:=I.tuple ha;obtain⟨its2,r2,p2,_⟩:=I.tuple hb;have l1:=r1.length;have l2:=r2.length;refine SeqAt.RcNeAt.tuples p1 p2 hu (item its its2 r1 r2) X.prog X.w X.xe _ ⟨.bl _,H,I,rfl,q _ ?_⟩;rw[Jv,Jv,<- l1,<- l2,Bool.and_comm]
  try rfl
noncomputable def Dj(K:Oi):R2:=fun x y H Q=>IT x y H Q\/Ao K true x y H Q
theorem wO(K:Oi)(hK:X.K=K)(hu:X.A.units<cLine):dm X (compareOp .NotEq) (Dj K):=by subst hK;exact Fs.or (Br hu)
noncomputable def EG:T->T->Mu->(R->Mu->Prop)->Prop:=fun t u μ Q=>match t,u with
 |.int i,.int j=>Q (.tr (.bl (!decide (i=j)))) μ
 |.str i,.str j=>Q (.tr (.bl (!decide (i=j)))) μ
 |.bl i,.bl j=>Q (.tr (.bl (!decide (i=j)))) μ
 |.lst xs,.lst ys=>xs.all aR=true/\ys.all aR=true/\Q (.tr (.bl (!pL xs ys))) μ
 |.tup xs,.tup ys=>xs.all aR=true/\ys.all aR=true/\Q (.tr (.bl (!pL xs ys))) μ
 |_,_=>False
theorem DC:gL K (Dj K) (oA EG):=e9 fun F ad B σ H μ Q Qt x y t u hK l v1 v2 q k=>by
 subst hK;unfold EG at q
 split at q
 ·cases v1;cases v2
  refine .inl ⟨rfl,?_⟩;rw[dV (f:=V.int) (fun a b h=>by injection h)]
  exact k _ H _ (Vr.flat l (.bl _)) Fr.refl q
 ·cases v1;cases v2
  refine .inl ⟨rfl,?_⟩;rw[dV (f:=V.str) (fun a b h=>by injection h)]
  exact k _ H _ (Vr.flat l (.bl _)) Fr.refl q
 ·cases v1;cases v2
  refine .inl ⟨rfl,?_⟩;rw[dV (f:=V.bl) (fun a b h=>by injection h)]
  exact k _ H _ (Vr.flat l (.bl _)) Fr.refl q
 ·cases v1 with
  |lst ha ra=>cases v2 with
   |lst hb rb=>exact .inr ⟨_,_,_,_,rfl,rfl,.inl ⟨cJ.of ha,cJ.of hb⟩,cN ra q.1,cN rb q.2.1,fun c hc=>by
     rw[<- lG ra rb q.1 q.2.1] at hc;subst hc;exact k _ H _ (Vr.flat l (.bl _)) Fr.refl q.2.2⟩
 ·cases v1 with
  |tup ha ra=>cases v2 with
   |tup hb rb=>exact .inr ⟨_,_,_,_,rfl,rfl,.inr ⟨cD.of ha,cD.of hb⟩,cN ra q.1,cN rb q.2.1,fun c hc=>by
     rw[<- lG ra rb q.1 q.2.1] at hc;subst hc;exact k _ H _ (Vr.flat l (.bl _)) Fr.refl q.2.2⟩
 ·exact q.elim
theorem dQ:fillsNumberSlot (.type "tuple") "mul"=pure false:=
 PySem.fillsNumberSlot_seq (id:="tuple.__mul__") (r:=some (.builtin "tuple.__rmul__")) PySem.F.slot_tuple_mul.lookup (by decide +kernel) PySem.F.slot_tuple_rmul.lookup (by decide +kernel)
theorem gj:seqRepeat? (.type "tuple")=pure (some (.builtin "tuple.__mul__")):=by
 unfold seqRepeat?;rw[PySem.seqSlot_of (T:="tuple") (name:="__mul__") (id:="tuple.__mul__") PySem.F.slot_tuple_mul.lookup (by decide +kernel),PySem.seqSlot_of (T:="tuple") (name:="__rmul__") (id:="tuple.__rmul__") PySem.F.slot_tuple_rmul.lookup (by decide +kernel)];rfl
theorem jz(a:Int)(t:Tok)(l:Addr)(ob:Obj)(items:Array Value)(n:Nat)(hc:ob.cls=.type "tuple")(hd:ob.data=.seq items n):
  Meets (Builtin.«int.__rmul__» ⟨[.int a t,.ref l],[]⟩) (fun _ R s=>s.heap.get? l=some ob/\R (.ok (.ret Value.notImplemented)) s):=
 .of_wp fun prog w A R s h=>by
  obtain⟨hp,g,d,tk,os⟩:=s;obtain⟨hl,h⟩:=h;obtain⟨c,dd,da,sl⟩:=ob;simp only at hc hd;subst hc hd
  wp_walk
  exact⟨_,rfl,h⟩
theorem za(l:Addr)(items:Array Value)(ob:Obj)(n:Nat)(k:Int)(t:Tok)(hc:ob.cls=.type "tuple")(hd:ob.data=.seq items n)(hne:items.isEmpty=false)(h1:1<k)(h2:k<=1000)(hsz:items.size<=1000):
  Meets (Builtin.«tuple.__mul__» ⟨[.ref l,.int k t],[]⟩) (fun _ R s=>s.heap.get? l=some ob/\R (.ok (.ret (.ref s.heap.objs.size))) {s with heap:=s.heap.push {cls:=.type "tuple",data:=.seq ((List.replicate k.toNat items).foldl (·++·) #[])}}):=
 .of_wp fun prog w A R s h=>by
  obtain⟨hp,g,d,tk,os⟩:=s;obtain⟨hl,h⟩:=h;obtain⟨c,dd,da,sl⟩:=ob;simp only at hc hd;subst hc hd;have e1:(decide (k < -(2^63)) || decide (k >= 2^63))=false:=by rw[JL (by lia),JL (by lia)];rfl
  have e2:(items.isEmpty || k == 1)=false:=by rw[hne,Kk.mpr (by lia)];rfl
  have e3:(decide (k<=0) || items.isEmpty)=false:=by rw[hne,JL (by lia)];rfl
  wp_walk using LW hl;rw[Ju (by rw[e1];exact Jw)]
  have ht:IsTup (Shared.heap ⟨hp,g,d,tk,os⟩) l items:=⟨_,hl,rfl,n,rfl⟩;show wpAny _ _ (Builtin.Tuple.tupleItemsOf (.ref l) >>= _) _ _ _;refine Jp (tupleItemsOf_ ht ?_);rw[Ju (by rw[e2];exact Jw)]
  show wpAny _ _ (if (decide (k<=0) || items.isEmpty)=true then _ else _) _ _ _
  rw[Ju (by rw[e3];exact Jw)]
  have hm:(items.size:Int)*k<=1000*1000:=Int.mul_le_mul (by lia) h2 (by lia) (by lia)
  show wpAny _ _ (if (items.size:Int)*k >(2^63-1) / 8 then _ else _) _ _ _
  rw[Ju (by lia)]
  show wpAny _ _ (if Builtin.Tuple.tupleTooMany ((items.size:Int)*k)=true then _ else _) _ _ _
  have e4:Builtin.Tuple.tupleTooMany ((items.size:Int)*k)=false:=JL (by
   have:((sizeLine:Nat):Int) >= 1000000:=by decide
   lia)
  rw[Ju (by rw[e4];exact Jw)]
  have hl2:((List.replicate k.toNat items).foldl (·++·) #[]).size<=sizeLine:=by
   have fs:∀(m:Nat) (acc:Array Value),((List.replicate m items).foldl (·++·) acc).size=acc.size+m*items.size:=fun m=>by
    induction m with
    |zero=>intro acc;simp
    |succ m ih=>intro acc;rw[Ka,List.foldl_cons,ih,MU,LV];lia
   rw[fs];have h3:k.toNat*items.size<=1000*1000:=Nat.mul_le_mul (by lia) hsz
   have h4:(1000000:Nat)<=sizeLine:=by decide
   simp;lia
  exact Jp (m:=Builtin.Tuple.tupleExact _) (K2 (Jx ⟨_,rfl,h⟩) hl2)
theorem sI(its:List Value):∀(m:Nat) (acc:List Value),(List.replicate m its.toArray).foldl (·++·) acc.toArray=(acc++(List.replicate m its).flatten).toArray:=fun m acc=>foldl_rep its m acc
noncomputable def A1(K:Oi):R2:=fun x y H Q=>∃ a k xs,x=.ref a/\y=.int k/\cD K H a xs/\xs≠[]/\xs.length<=1000/\1<k/\k<=1000/\∀ p,H p=none->Q (.ref p) (upd H p (.tup (List.replicate k.toNat xs).flatten))
theorem zB:dm X (binaryOp .Mult) (A1 X.K):=by
 intro pins s σ H x y v u Q I rx ry h;obtain⟨a,k,xs,rfl,rfl,hx,hne,hsz,h1,h2,q⟩:=h;cases rx;obtain⟨t,rfl⟩:=ry;obtain⟨its,r,p,hz⟩:=I.tuple hx;obtain⟨ob,ho,hc,n,hd⟩:=id p;have hlen:=r.length;have hemp:its.toArray.isEmpty=false:=by
  cases its with
  |nil=>cases r;exact absurd rfl hne
  |cons a b=>rfl
 refine Lq (T:="tuple") (U:="int") (by decide) ⟨_,ho,hc⟩ (fun s'=>LA s' k t) dQ PySem.F.fills_int_mul PySem.F.slot_int_rmul gj PySem.F.slot_int_index.lookup
  (KI PySem.F.slot_int_rmul (LA s k t) PySem.F.entry_int_rmul (PySem.F.args_int_rmul_2 _ _) (jz k t a ob its.toArray n hc hd)
   ⟨ho,rfl,⟨_,ho,hc⟩,KI PySem.F.slot_tuple_mul ⟨_,ho,hc⟩ PySem.F.entry_tuple_mul (PySem.F.args_tuple_mul_2 _ _) (za a its.toArray ob n k t hc hd hemp h1 h2 (by rw[Jv];lia)) ⟨ho,?_⟩⟩)
 have e0:=sI its k.toNat [];rw[Li] at e0;have e0':(List.replicate k.toNat its.toArray).foldl (·++·) #[]=(List.replicate k.toNat its).flatten.toArray:=e0;rw[e0'];refine⟨.ref s.heap.objs.size,_,I.laid (t':=s.toks) (o:=.tup (List.replicate k.toNat xs).flatten) (fun b ob q=>Jr _ q) (J6 _) ?_,rfl,q _ (I.aU.fresh (J6 _))⟩;refine⟨?_,_,r.rep k.toNat,dB.new _ _⟩;rw[len_rep];have h3:k.toNat*xs.length<=1000*1000:=Nat.mul_le_mul (by lia) hsz
 exact JD h3 (by decide)
noncomputable def u5(K:Oi):R2:=fun x y H Q=>DK x y H Q\/A1 K x y H Q
theorem e8(K:Oi)(hK:X.K=K):dm X (binaryOp .Mult) (u5 K):=by subst hK;exact zp.or zB
noncomputable def j5:U2:=fun r1 r2 μ Q=>match cont μ r1,cont μ r2 with
 |some (.int i),some (.int j)=>om i j/\Q (.tr (.int (i*j))) μ
 |some (.lst xs),some (.int k)=>-(2^63)<=k/\k<2^63/\xs.length*k.toNat<=sizeLine/\Q (.fr (.lst (List.replicate k.toNat xs).flatten)) μ
 |some (.tup xs),some (.int k)=>(xs≠[]/\xs.length<=1000/\1<k/\k<=1000)/\Q (.tr (.tup (List.replicate k.toNat xs).flatten)) μ
 |_,_=>False
theorem d3:gL K (u5 K) j5:=by
 intro F ad B σ H μ Q Qt x y r1 r2 hK l h1 h2 q k;unfold j5 at q
 split at q
 ·rename_i i j e1 e2;exact .inl (uD F ad B σ H μ Q Qt x y r1 r2 hK l h1 h2 (by unfold rQ;rw[e1,e2];exact q) k)
 ·rename_i xs j e1 e2;exact .inl (uD F ad B σ H μ Q Qt x y r1 r2 hK l h1 h2 (by unfold rQ;rw[e1,e2];exact q) k)
 ·rename_i xs j e1 e2;have a:=h1.vw l e1;have b:=h2.vw l e2;subst hK;cases b
  cases a with
  |tup ha ra =>
   refine .inr ⟨_,_,_,rfl,rfl,cD.of ha,?_,by rw[ra.length];exact q.1.2.1,q.1.2.2.1,q.1.2.2.2,fun p hp=>k _ _ _ μ (Vr.si l (ra.rep _) hp) (Fr.same (cu.new hp)) (Kp.refl μ) q.2⟩
   rintro rfl;cases ra;exact q.1.1 rfl
 ·exact q.elim
end Y
namespace A
theorem D8(i j:Int)(μ:Mu)(Q:R->Mu->Prop):Y.j5 (.tr (.int i)) (.tr (.int j)) μ Q=(om i j/\Q (.tr (.int (i*j))) μ):=rfl
theorem DH(xs:List T)(k:Int)(μ:Mu)(Q:R->Mu->Prop):Y.j5 (.tr (.lst xs)) (.tr (.int k)) μ Q=(-(2^63)<=k/\k<2^63/\xs.length*k.toNat<=sizeLine/\Q (.fr (.lst (List.replicate k.toNat xs).flatten)) μ):=rfl
theorem HX(xs ys:List T)(μ:Mu)(Q:R->Mu->Prop):Y.EG (.lst xs) (.lst ys) μ Q=(xs.all aR=true/\ys.all aR=true/\Q (.tr (.bl (!Y.pL xs ys))) μ):=rfl
end A
section
variable {prog:Program} {w:World} {A:Around} {E:Value->Shared->Prop} {s:Shared}
end
section
variable {X:Cx} {e:Expr} {te:TE}
end
namespace Y
end Y
namespace A
end A
open PySem PySem.Spec PyProof PyProof.Rows
namespace Y
theorem eZ:∀{us:List Value} {ns:List Int},IntsAre us ns->Vals (ns.map V.int) us
 |_,_,.nil=>.nil
 |_,_,.cons n t h=>.cons ⟨t,rfl⟩ (eZ h)
theorem jy:∀{us:List Value} {ns:List Int},IntsAre us ns->us.length=ns.length
 |_,_,.nil=>rfl
 |_,_,.cons n t h=>by simp[jy h]
section
variable {prog:Program} {w:World} {A:Around} {E:Value->Shared->Prop} {s:Shared}
theorem og{vs:List Value}{Q:List Value->Shared->Prop}(hl:IsTup s.heap l vs.toArray)(hsz:vs.length<=sizeLine)
  (h:Q vs {s with heap:=(s.heap.push (seqObj "list" #[] 0)).update s.heap.objs.size (Obj.mapSeq (·++vs.toArray))}):wpAny (model prog w) A (collect (.ref l)) Q E s:=by
 obtain⟨o,ho,hc,n,hd⟩:=id hl;unfold collect;refine Jp (wpAny_runValue (Mz entry_proto_collect' ?_));show wpAny _ _ (do again (.builtin "list.__iadd__" ⟨[<- newList [],.ref l],[]⟩)) _ _ s
 refine Jp (LN (Jx ⟨Code.quiet_builtin _ (by decide +kernel),Mz entry_list_iadd' ?_⟩))
 show wpAny _ _ (Builtin.List.listExtendWith (.ref s.heap.objs.size) (.ref l) (.ref s.heap.objs.size)) _ _ {s with heap:=s.heap.push (seqObj "list" #[] 0)}
 unfold Builtin.List.listExtendWith;have ho':(s.heap.push (seqObj "list" #[] 0)).get? l=some o:=Jr _ ho;refine Jp (N_ (T:="tuple") ⟨o,ho',hc⟩ ?_);have ht:(Value.type "tuple" == Value.type "tuple")=true:=by rfl
 rw[Jy (by rw[ht];simp)]
 refine Jp (M0 ho' hd ?_);refine Jp (M0 (xs:=#[]) (n:=0) (JC _ rfl) rfl ?_);rw[Ju (by simp)]
 refine Jp (Mg (xs:=#[]) (n:=0) (JC _ rfl) rfl ?_ (Kh _) (by show (#[]++vs.toArray).size<=sizeLine+1;simp only[MU,Jv,Ke];lia))
 refine Jx ?_;show wpAny (model prog w) A (load s.heap.objs.size >>= _) Q E {s with heap:=(s.heap.push (seqObj "list" #[] 0)).update s.heap.objs.size (Obj.mapSeq (·++vs.toArray))}
 refine Jp (wpAny_load (LQ (JC _ rfl) _) ?_);show wpAny _ _ (pure ((#[]:Array Value)++vs.toArray).toList) Q E _;rw[show ((#[]:Array Value)++vs.toArray).toList=vs by simp]
 exact Jx h
theorem pM{vs:List Value}(hl:IsTup s.heap l vs.toArray)(hI:IntsAre vs ns)(h64:vs.length<64)
  (h:∀(out:Array Value) (ns':List Int),IntsAre out.toList ns'->ns'.Perm ns->ns'.Pairwise (·<=·)->Q (.ref (s.heap.objs.size+1)) {s with heap:=sortedAll s.heap vs out}) :
  wpAny (model prog w) A (call (.builtin "sorted") [.ref l]) Q E s:=by
 have hz:vs.length<=sizeLine:=JD (K_ h64) (by decide)
 refine MY kind_sorted plain_sorted entry_sorted (args_sorted1 _) ?_;unfold Builtin.«sorted»;refine Jp (m:=checkCount "sorted" 1 1 _) (Jx ?_);refine Jp (og hl hz ?_);refine Jp (LN ?_ hz);have hs:((s.heap.push (seqObj "list" #[] 0)).update s.heap.objs.size (Obj.mapSeq (·++vs.toArray))).objs.size=s.heap.objs.size+1:=by rw[Nj,size_push']
 have ho:(((s.heap.push (seqObj "list" #[] 0)).update s.heap.objs.size (Obj.mapSeq (·++vs.toArray))).push (seqObj "list" vs.toArray 0)).get? (s.heap.objs.size+1)=some (seqObj "list" vs.toArray 0):=by
  rw[<- hs];exact JC _ rfl
 show wpAny _ _ _ _ _ {s with heap:=((s.heap.push (seqObj "list" #[] 0)).update s.heap.objs.size (Obj.mapSeq (·++vs.toArray))).push (seqObj "list" vs.toArray 0)}
 rw[hs];refine Jp (Kf (Ky slot_list_sort ⟨_,ho,rfl⟩ entry_list_sort (list_sort_tree ho hI h64 fun out ns' a1 a2 a3=>⟨_,rfl,?_⟩) (args_list_sort _)));exact Jx ⟨_,rfl,h out ns' a1 a2 a3⟩
end
noncomputable def AX(K:Oi):List V->Hp->VK->Prop:=fun xs H Q=>∃ p ns,xs=[.ref p]/\cD K H p (ns.map V.int)/\ns.length<64/\∀ ns':List Int,ns'.Perm ns->ns'.Pairwise (·<=·)->∀ l,H l=none->Q (.ref l) (upd H l (.lst (ns'.map V.int)))
theorem tQ(K:Oi)(hK:X.K=K):bI X (.builtin "sorted") (AX K):=by
 subst hK;intro pins s σ H xs us Q I r h;obtain⟨p,ns,rfl,hq,h64,q⟩:=h;obtain⟨u,rfl,ru⟩:=vals1 r;cases ru;obtain⟨its,rv,pl,hz⟩:=I.tuple hq;have hi:=intsAre_of rv;refine pM pl hi (by rw[jy hi];exact h64) fun out ns' a1 a2 a3=>?_
 obtain⟨e,he⟩:=sortedAll_at s.heap its out;refine⟨.ref (s.heap.objs.size+1),_,I.laid (t':=s.toks) (fun b ob q=>sortedAll_old q) (Lv _) (show bO X.prog X.w _ _ _ (.lst (ns'.map V.int)) from⟨?_,out.toList,e,eZ a1,by simpa using he⟩),rfl,q ns' a2 a3 _ (I.aU.fresh (Lv _))⟩
 rw[Js,a2.length_eq];exact JD (K_ h64) (by decide)
theorem dN:∀ ns:List Int,au K H B (ns.map V.int) (ns.map T.int)
 |[]=>.nil
 |n::ns=>.cons (.int _) (dN ns)
theorem eO:∀{ns:List Int} {vs:List V},au K H B vs (ns.map T.int)->vs=ns.map V.int
 |[],_,.nil=>rfl
 |n::ns,_,.cons h r=>by cases h;rw[eO r];rfl
noncomputable def EC(i j:Int):Prop:=0<j/\j<4611686018427387904
theorem eS:dm X (binaryOp .FloorDiv) (rI EC fun i j=>.int (i / j)):=Gw fun i j _ _ _ _ _ hc q=>by
 have h1:(0:Int)<j:=hc.1;have h2:j<4611686018427387904:=hc.2;exact floordiv_int (by lia) (by rw[Int.fdiv_eq_ediv_of_nonneg i (by lia)];exact q) (.inl (PyProof.noPylong_of_log2 (Oe ((N9 (k:=62) (by lia)).mpr (by lia)) (by decide))))
end Y
namespace A
end A
namespace Y
section
variable {prog:Program} {w:World} {A:Around} {E:Value->Shared->Prop} {s:Shared}
end
theorem kX:∀ ns:List Str,au K H B (ns.map V.str) (ns.map T.str)
 |[]=>.nil
 |n::ns=>.cons (.str _) (kX ns)
theorem fV:∀{ns:List Str} {vs:List V},au K H B vs (ns.map T.str)->vs=ns.map V.str
 |[],_,.nil=>rfl
 |n::ns,_,.cons h r=>by cases h;rw[fV r];rfl
abbrev Bn:=Str->List R->Mu->(R->Mu->Prop)->Prop
noncomputable def G4(um:Bn)(uo:UE)(us:UA):UE:=fun μ Q=>uo μ fun ro μ1=>match ro with
 |.tr (.str z)=>us μ1 fun rs μ2=>um z rs μ2 Q
 |_=>False
noncomputable def ET(K:Oi)(r:V->List V->Hp->VK->Prop)(um:Bn):Prop:=∀(F:Fx) (ad:Nat->Addr) (B:bo) (σ:St) (H:Hp) (μ:Mu) (Q:VK) (Qt:R->Mu->Prop) (z:Str) (xs:List V) (rs:List R),F.K=K->Rl F ad B σ H μ->Paired (Hv F ad B H μ) xs rs->um z rs μ Qt ->
 (∀ v H' r μ',Vr F ad B σ H' μ' v r->Fr B H (Bv B v r) H'->Kp μ μ'->Qt r μ'->Q v H')->r (.str z) xs H Q
theorem sm{o:Expr}{uo:UE}{pos:Pos}(K:Oi)(hK:X.K=K){id:String}{r:V->List V->Hp->VK->Prop}{um:Bn}(slot:Slot "str" name id)(hty:typeOf (.builtin id)=pure (.type "method_descriptor"))(hm:qX X id r)(hr:ET X.K r um)(ho:YE X o uo)(ha:YA X (e::es) us)
  (hbase:autoParam (attributeBase o name X.env (eval o X.env)=eval o X.env) ℜ0) (hline:autoParam ((apos.endLine == pos.line)=true) ℜ0) (h:autoParam ((e::es).all dq=true) ℜ0) (hl:autoParam ((e::es).length<30) ℜ1):YE X (.Call (.Attribute o name apos) (e::es) [] pos) (G4 um uo us):=by
 obtain⟨t,q,rr⟩:=ho;obtain⟨t',q',r'⟩:=ha;refine⟨_,Z.bm K hK PySem.F.plainAttrs_str slot hty hm q q' hbase hline h hl,fun F ad B σ H μ Q Qt hF l q k=>rr F ad B σ H μ _ _ hF l q fun v H1 r1 μ1 v1 f1 k1 q1=>?_⟩
 split at q1
 ·rename_i z;obtain⟨l1,rp⟩:=v1;cases rp;refine⟨rfl,?_⟩;refine r' F ad B σ H1 μ1 _ _ hF l1 q1 fun xs H2 rs μ2 l2 ps f2 k2 q2=>?_;exact hr F ad B σ H2 μ2 _ _ z xs rs hF l2 ps q2 fun v H3 r3 μ3 v3 f3 k3 q3=>k v H3 r3 μ3 v3 ((f1.d.trans f2).trans f3) ((k1.trans k2).trans k3) q3
 ·exact q1.elim
end Y
namespace A
end A
namespace Y
theorem x8(l:List Nat):∀(n a:Nat),((List.range n).map (fun k=>a+k)).filterMap (l[·]?)=(l.drop a).take n
 |0,_=>by simp
 |n+1,a=>by
  rw[Lj,JH,List.filterMap_append,x8 l n a,List.take_add_one,KJ]
  cases h:l[a+n]?<;>simp[h]
theorem nk(lo hi:Option Int)(n:Nat):Builtin.Str.strSliceIndices lo hi 1 n=(List.range (HT.cf n n hi-HT.cf n 0 lo)).map (fun k=>HT.cf n 0 lo+k):=by
 have ea:∀(v:Int),max 0 (min (if v<0 then v+(n:Int) else v) (n:Int))=(((if v<0 then (v+(n:Int)).toNat else min v.toNat n):Nat):Int):=by
  intro v;split<;>lia
 have e:Builtin.Str.strSliceIndices lo hi 1 n=sliceRange (HT.cf n 0 lo) (HT.cf n n hi) 1:=by
  cases lo with
  |none=>cases hi with
   |none=>rfl
   |some j=>show sliceRange 0 (max 0 (min (if j<0 then j+(n:Int) else j) (n:Int))) 1=_;rw[ea];rfl
  |some i=>cases hi with
   |none=>show sliceRange (max 0 (min (if i<0 then i+(n:Int) else i) (n:Int))) n 1=_;rw[ea];rfl
   |some j=>show sliceRange (max 0 (min (if i<0 then i+(n:Int) else i) (n:Int))) (max 0 (min (if j<0 then j+(n:Int) else j) (n:Int))) 1=_;rw[ea,ea];rfl
 rw[e];generalize HT.cf n 0 lo=a;generalize HT.cf n n hi=b;unfold sliceRange;simp only[show ((1:Int) > 0)=True from by simp,Lh,Int.one_mul]
 have c:(if (a:Int)<(b:Int) then ((b:Int)-a+1-1) / 1 else 0).toNat=b-a:=by split<;>lia
 rw[c];refine L4 fun k _=>?_;lia
theorem oU(z:Str)(lo hi:Option Int):Txt.slice z lo hi=⟨((z.cps.toList.drop (HT.cf z.cps.toList.length 0 lo)).take (HT.cf z.cps.toList.length z.cps.toList.length hi-HT.cf z.cps.toList.length 0 lo)).toArray⟩:=by
 have hl:z.cps.toList.length=z.length:=JZ;rw[hl];have hp:(Builtin.Str.strSliceIndices lo hi 1 z.length).filterMap (z.cps[·]?)=(z.cps.toList.drop (HT.cf z.length 0 lo)).take (HT.cf z.length z.length hi-HT.cf z.length 0 lo):=by
  rw[nk];have:=x8 z.cps.toList (HT.cf z.length z.length hi-HT.cf z.length 0 lo) (HT.cf z.length 0 lo)
  simpa using this
 unfold Txt.slice;split
 ·rename_i h;rw[nk] at h;simp at h;have h2:=HT.oH z.length z.length (J6 _) hi;have h3:=HT.oH z.length 0 (Kh _) lo;have a0:HT.cf z.length 0 lo=0:=by lia
  have b0:HT.cf z.length z.length hi=z.length:=by lia
  rw[a0,b0,LJ,M1,<- hl,Nk]
 ·rw[hp]
noncomputable def gf(z:Str)(lo hi:Option Int):Str:=⟨(cI z.cps.toList lo hi).toArray⟩
theorem t4(z:Str)(lo hi:Option Int):Txt.slice z lo hi=gf z lo hi:=oU z lo hi
noncomputable def Fw:V->Option Int->Option Int->Hp->VK->Prop:=fun x lo hi H Q=>∃ z,x=.str z/\z.length<=sizeLine/\Q (.str (gf z lo hi)) H
theorem Dk:uv X Fw:=by
 intro pins s σ H x v vl vu lo hi sl Q I rx hs pl pu h;obtain⟨z,rfl,hz,q⟩:=h;rw[<- t4] at q;obtain⟨t,rfl⟩:=rx;refine⟨"str",_,PySem.F.slot_str_getitem.lookup,typeIs_str _ _ _,?_⟩
 cases pl<;>cases pu
 ·exact L9 (l:=none) (u:=none) (st:=none) hs rfl (M4 ⟨JD (Txt.slice_le z _ _) hz,fun t' k=>⟨.str _,H,I.tok _,⟨_,rfl⟩,q⟩⟩)
 ·exact L9 (l:=none) (u:=some (_,_)) (st:=none) hs rfl (M4 ⟨JD (Txt.slice_le z _ _) hz,fun t' k=>⟨.str _,H,I.tok _,⟨_,rfl⟩,q⟩⟩)
 ·exact L9 (l:=some (_,_)) (u:=none) (st:=none) hs rfl (M4 ⟨JD (Txt.slice_le z _ _) hz,fun t' k=>⟨.str _,H,I.tok _,⟨_,rfl⟩,q⟩⟩)
 ·exact L9 (l:=some (_,_)) (u:=some (_,_)) (st:=none) hs rfl (M4 ⟨JD (Txt.slice_le z _ _) hz,fun t' k=>⟨.str _,H,I.tok _,⟨_,rfl⟩,q⟩⟩)
noncomputable def Ie(K:Oi):V->Option Int->Option Int->Hp->VK->Prop:=fun x lo hi H Q=>FW K x lo hi H Q\/Fw x lo hi H Q
theorem HY(K:Oi)(hK:X.K=K):uv X (Ie K):=(Hs K hK).or Dk
noncomputable def BS(a:Option T)(lo hi:Option Int):Option (Prop×R):=match a with
 |some (.lst xs)=>some (True,.fr (.lst (cI xs lo hi)))
 |some (.eU xs)=>some (True,.fr (.lst (cI xs lo hi)))
 |some (.tup xs)=>some (True,.tr (.tup (cI xs lo hi)))
 |some (.str z)=>some (z.length<=sizeLine,.tr (.str (gf z lo hi)))
 |_=>none
noncomputable def C8(ue:UE)(ul uh:UO):UE:=fun μ Q=>ue μ fun r μ1=>ul μ1 fun lo μ2=>uh μ2 fun hi μ3=>nY (BS (cont μ3 r.d) lo hi) fun r=>Q r μ3
theorem BM{p2 pos:Pos}{ul uh:UO}(K:Oi)(hK:X.K=K)(he:YE X e ue)(hl:YO X lo ul)(hu:YO X hi uh):YE X (.Subscript e (.Slice lo hi none p2) pos) (C8 ue ul uh):=by
 obtain⟨t,q,r⟩:=he;obtain⟨tl,ql,rl⟩:=hl;obtain⟨th,qh,rh⟩:=hu;refine⟨_,Z.slice (HY K hK) q ql qh,fun F ad B σ H μ Q Qt hF l q k=>r F ad B σ H μ _ _ hF l q fun v H1 r1 μ1 v1 f1 k1 q1=>rl F ad B σ H1 μ1 _ _ hF v1.rl q1 fun i H2 μ2 l2 f2 k2 q2=>rh F ad B σ H2 μ2 _ _ hF l2 q2 fun j H3 μ3 l3 f3 k3 q3=>?_⟩;have hF':F.K=K:=hF.trans hK;clear hF;subst hF';have hv:=v1.hv.fr (f2.trans f3) (k2.trans k3);have ff:=(f1.d.trans f2).trans f3;have kk:=(k1.trans k2).trans k3;generalize eo:cont μ3 r1.d=o at q3;unfold BS nY at q3
 cases o with
 |none=>exact q3.elim
 |some o=>cases o with
  |lst xs =>
   have w:=hv.vw l3 eo
   cases w with
   |lst ha ra=>exact .inl (.inl ⟨_,_,rfl,cJ.of ha,fun p hp=>k _ _ _ μ3 (Vr.m9 l3 (au.cut ra i j) hp) (ff.trans (Fr.more hp)) kk q3.2⟩)
  |eU xs =>
   have w:=hv.vw l3 eo
   cases w with
   |eU ha ra=>exact .inl (.inl ⟨_,_,rfl,ha,fun p hp=>k _ _ _ μ3 (Vr.m9 l3 (au.cut ra i j) hp) (ff.trans (Fr.more hp)) kk q3.2⟩)
  |tup xs =>
   have w:=Hv.vI l3 hv eo;have w':=w
   cases w with
   |tup na ha ra =>
    by_cases z:HT.cf xs.length 0 i=0/\HT.cf xs.length xs.length j=xs.length
    ·have e0:cI xs i j=xs:=by unfold cI;rw[z.1,z.2,M1,LJ,Nk]
     have q4:=q3.2;rw[e0] at q4;exact .inl (.inr (.inr ⟨_,_,rfl,cD.of ha,by rw[ra.length];exact z.1,by rw[ra.length];exact z.2,k _ H3 _ μ3 (Vr.flat l3 w') ff kk q4⟩))
    ·exact .inl (.inr (.inl ⟨_,_,rfl,cD.of ha,by rw[ra.length];exact z,fun p hp=>k _ _ _ μ3 (Vr.si l3 (au.cut ra i j) hp) (ff.trans (Fr.same (cu.new hp))) kk q3.2⟩))
  |str z =>
   have w:=hv.vw l3 eo;cases w;exact .inr ⟨z,rfl,q3.1,k _ H3 _ μ3 (Vr.flat l3 (.str _)) ff kk q3.2⟩
  |aJ=>exact q3.elim
  |bl b=>exact q3.elim
  |int n=>exact q3.elim
  |fh a b=>exact q3.elim
  |mU a b=>exact q3.elim
  |exc a b=>exact q3.elim
  |d_ xs=>exact q3.elim
noncomputable def jd:UM:=fun j rs μ Q=>match rs with
 |[.tr (.int i)]=>(match (μ[j]?).bind Sl.box with
  |some (.lst ts)=>-(2^63)<=i/\i<2^63/\∃ k t,seqIndex? i ts.length=some k/\ts[k]?=some t/\Q (.tr t) (dH μ j (.lst (ts.eraseIdx k)))
  |_=>False)
 |_=>False
theorem wQ:RM K xh jd:=by
 intro F ad B σ H μ Q Qt j s c xs rs hF l e b ps q k;unfold jd at q
 split at q
 ·rename_i i
  cases ps with
  |cons h ps =>
   cases ps;rw[e] at q
   cases bP h
   have q':(match s.box with|some (.lst ts)=>-(2^63)<=i/\i<2^63/\∃ k t,seqIndex? i ts.length=some k/\ts[k]?=some t/\Qt (.tr t) (dH μ j (.lst (ts.eraseIdx k)))|_=>False):=q
   rw[b] at q';rcases ((l.slot j s e).boxed b).2.2.1.is with ⟨ts,vs,rfl,hl,rv⟩|⟨_,_,_,rfl,_⟩
   case inr=>exact q'.elim
   simp only at q';obtain⟨h1,h2,n,t,hk,ht,q2⟩:=q';obtain⟨y,hy,ry⟩:=rv.get ht;have fs:Fr B H B (upd H (ad j) (.lst (vs.eraseIdx n))):=Fr.set ((l.slot j s e).boxed b).2.1;refine⟨_,_,i,n,y,rfl,rfl,hl,h1,h2,by rw[rv.length];exact hk,hy,?_⟩
   have l3:=l.put e b (rv.erase n);unfold dH at q2;rw[e] at q2;exact k _ _ (.tr t) _ (Vr.flat l3 (ry.fr fs)) fs (Kp.set e b (Sl.iY b)) q2
 ·exact q.elim
noncomputable def nj:Bn:=fun z rs μ Q=>match rs with
 |[r]=>(match cont μ r with
  |some (.lst xs)=>∃ ys:List Str,xs=ys.map T.str/\(ys.map (·.length)).sum+ys.length*z.length<=16777216/\Q (.tr (.str (Str.join z ys))) μ
  |_=>False)
 |_=>False
theorem n4(K:Oi)(hK:X.K=K):qX X "str.join" (rJoin K):=by subst hK;exact Ad
theorem rY:ET K (rJoin K) nj:=by
 intro F ad B σ H μ Q Qt z xs rs hF l ps q k;subst hF;unfold nj at q
 split at q
 ·rename_i r
  cases ps with
  |cons h ps =>
   cases ps
   split at q
   ·rename_i ts e;obtain⟨ys,rfl,hz,q⟩:=q;have w:=h.vw l e
    cases w with
    |lst ha ra=>exact⟨z,_,ys,rfl,rfl,by rw[<- fV ra];exact cJ.of ha,hz,k _ H _ μ (Vr.flat l (.str _)) Fr.refl (Kp.refl μ) q⟩
   ·exact q.elim
 ·exact q.elim
noncomputable def FD(i:Nat):UG:=fun r μ Q=>match r with
 |.tr t=>uj μ i/\Q (μ.set i (.tr t))
 |.fr t=>uj μ i/\Q (μ.set i (.tr t))
 |.br _=>False
theorem ji:RG K (dE i) (FD i):=fun F ad B σ H μ v r B0 H0 Q Qt hK h f q k=>by
 cases r with
 |tr t=>exact k ad B _ H _ (h.1.Bz (ma q.1) h.2) f q.2
 |br i=>exact q.elim
 |fr c =>
  refine k ad B _ H _ (h.rl.Bz (ma q.1) h.hv) (f.trans (Fr.less fun b z=>?_)) q.2;obtain⟨_,a,rfl,_⟩:=h;exact Or.inr z
section
variable {X:Cx} {e elt tg iter:Expr} {ifs:List Expr} {ue:UE} {ut:UT} {ui:UI} {pos pos' p2:Pos} {x:Str} {osc scope:Scope} {ON own N:List Str}
theorem BC(hN:X.N.Nodup)(hi:X.N[i]?=some x)(hx:Loc X.env.scope x)(hf:autoParam (X.fn x=true\/X.env.scope.names.lookup x=some .local) ℜ2):YG X (.Name x pos) (FD i):=⟨_,Z.aI hN hi hx hf,ji⟩
theorem xF(hN:X.N.Nodup)(hi:X.N[i]?=some x)(hx:Loc X.env.scope x)(he:YE X e ue)(hs:autoParam (Z.DP e=true) ℜ0)(hf:autoParam (X.fn x=true\/X.env.scope.names.lookup x=some .local) ℜ2):
  YS X (.Assign [.Name x pos'] e pos) (j_ ue (FD i)):=by
 obtain⟨t,q,r⟩:=he;exact⟨_,Z.set hN hi hx q hs hf,j4 r ji⟩
theorem jg(hN:X.N.Nodup)(hj:X.N[j]?=some x)(hx:Loc X.env.scope x)(S:cR osc ON scope own N)(hosc:X.env.scope=osc)(hON:X.N=ON)(hc:X.calm=true)(ho:own.length=1)(hi:YI X tg iter ui)
  (hg:∀ C s H fp,QG (aM X scope N C s H fp) tg (dE 0)) (ht:∀ C s H fp,Bd (aM X scope N C s H fp) ifs ut) (he:∀ C s H fp,YE (aM X scope N C s H fp) elt ue)
  (hsw:autoParam (swapsWith (.ListComp elt [⟨tg,iter,ifs,0⟩] scope p2) (some (.Name x pos')) pos.line X.env=pure true) ℜ0)
  (hf:autoParam (X.fn x=true\/X.env.scope.names.lookup x=some .local) ℜ2) (hs:autoParam (∀ x,foldedSetIterable iter X.env x=pure x) ℜ3) :
  YS X (.Assign [.Name x pos'] (.ListComp elt [⟨tg,iter,ifs,0⟩] scope p2) pos) (j_ (iF vO FV ui ut ue) (FD j)):=by
 obtain⟨t,q,r⟩:=hi;have h:=Z.setC (tc:=sJ X.K ut) (te:=sR X.K ue) hN hj hx S hosc hON hc q hg (fun C s H fp=>(ht C s H fp).Aq) (fun C s H fp=>(he C s H fp).Aq) hsw hf hs;rw[ho] at h;exact⟨_,h,j4 (iU m5 r qT qd) ji⟩
end
end Y
namespace A
theorem G4(um:Y.Bn)(uo:UE)(us:UA)(μ:Mu)(Q:R->Mu->Prop):Y.G4 um uo us μ Q=uo μ fun ro μ1=>match ro with|.tr (.str z)=>us μ1 fun rs μ2=>um z rs μ2 Q|_=>False:=rfl
theorem nj(z:Str)(r:R)(μ:Mu)(Q:R->Mu->Prop):Y.nj z [r] μ Q=(match cont μ r with
  |some (.lst xs)=>∃ ys:List Str,xs=ys.map T.str/\(ys.map (·.length)).sum+ys.length*z.length<=16777216/\Q (.tr (.str (Str.join z ys))) μ
  |_=>False):=rfl
theorem jd(j:Nat)(i:Int)(μ:Mu)(Q:R->Mu->Prop):Y.jd j [.tr (.int i)] μ Q=(match (μ[j]?).bind Sl.box with
  |some (.lst ts)=>-(2^63)<=i/\i<2^63/\∃ k t,seqIndex? i ts.length=some k/\ts[k]?=some t/\Q (.tr t) (dH μ j (.lst (ts.eraseIdx k)))
  |_=>False):=rfl
theorem GZ(i:Nat)(t:T)(μ:Mu)(Q:Mu->Prop):Y.FD i (.fr t) μ Q=(Y.uj μ i/\Q (μ.set i (.tr t))):=rfl
end A
namespace Y
theorem wZ(l:Addr)(items:Array Value)(ob:Obj)(n:Nat)(k:Int)(t:Tok)(hc:ob.cls=.type "tuple")(hd:ob.data=.seq items n)(h1:k=1):
  Meets (Builtin.«tuple.__mul__» ⟨[.ref l,.int k t],[]⟩) (fun _ R s=>s.heap.get? l=some ob/\R (.ok (.ret (.ref l))) s):=
 .of_wp fun prog w A R s h=>by
  obtain⟨hp,g,d,tk,os⟩:=s;obtain⟨hl,h⟩:=h;obtain⟨c,dd,da,sl⟩:=ob;simp only at hc hd;subst hc hd;have e1:(decide (k < -(2^63)) || decide (k >= 2^63))=false:=by rw[JL (by lia),JL (by lia)];rfl
  have e2:(items.isEmpty || k == 1)=true:=by rw[beq_iff_eq.mpr h1,Bool.or_true]
  wp_walk using LW hl;exact⟨_,rfl,h⟩
theorem wb(l:Addr)(items:Array Value)(ob:Obj)(n:Nat)(k:Int)(t:Tok)(hc:ob.cls=.type "tuple")(hd:ob.data=.seq items n)(hne:items.isEmpty=false)(h1:k<=0)(h2:-(2^63)<=k):
  Meets (Builtin.«tuple.__mul__» ⟨[.ref l,.int k t],[]⟩) (fun _ R s=>s.heap.get? l=some ob/\R (.ok (.ret (.ref s.heap.objs.size))) {s with heap:=s.heap.push {cls:=.type "tuple",data:=.seq #[]}}):=
 .of_wp fun prog w A R s h=>by
  obtain⟨hp,g,d,tk,os⟩:=s;obtain⟨hl,h⟩:=h;obtain⟨c,dd,da,sl⟩:=ob;simp only at hc hd;subst hc hd;have e1:(decide (k < -(2^63)) || decide (k >= 2^63))=false:=by rw[JL (by lia),JL (by lia)];rfl
  have e2:(items.isEmpty || k == 1)=false:=by rw[hne,Kk.mpr (by lia)];rfl
  have e3:(decide (k<=0) || items.isEmpty)=true:=by rw[Kj h1];rfl
  wp_walk using LW hl;rw[Ju (by rw[e1];exact Jw)]
  have ht:IsTup (Shared.heap ⟨hp,g,d,tk,os⟩) l items:=⟨_,hl,rfl,n,rfl⟩;show wpAny _ _ (Builtin.Tuple.tupleItemsOf (.ref l) >>= _) _ _ _;refine Jp (tupleItemsOf_ ht ?_);rw[Ju (by rw[e2];exact Jw)]
  show wpAny _ _ (if (decide (k<=0) || items.isEmpty)=true then _ else _) _ _ _
  rw[Jy e3];exact Jp (m:=Builtin.Tuple.tupleExact _) (K2 (Jx ⟨_,rfl,h⟩) (show (#[]:Array Value).size<=sizeLine by decide))
noncomputable def A8(K:Oi):R2:=fun x y H Q=>∃ a k xs,x=.ref a/\y=.int k/\cD K H a xs/\xs≠[]/\k<=1/\-(2^63)<=k/\(k=1->Q (.ref a) H)/\(k<=0->∀ p,H p=none->Q (.ref p) (upd H p (.tup [])))
theorem yA:dm X (binaryOp .Mult) (A8 X.K):=by
 intro pins s σ H x y v u Q I rx ry h;obtain⟨a,k,xs,rfl,rfl,hx,hne,h1,h2,q1,q0⟩:=h;cases rx;obtain⟨t,rfl⟩:=ry;obtain⟨its,r,p,hz⟩:=I.tuple hx;obtain⟨ob,ho,hc,n,hd⟩:=id p;have hlen:=r.length;have hemp:its.toArray.isEmpty=false:=by
  cases its with
  |nil=>cases r;exact absurd rfl hne
  |cons a b=>rfl
 by_cases c:k=1
 ·exact Lq (T:="tuple") (U:="int") (by decide) ⟨_,ho,hc⟩ (fun s'=>LA s' k t) dQ PySem.F.fills_int_mul PySem.F.slot_int_rmul gj PySem.F.slot_int_index.lookup
   (KI PySem.F.slot_int_rmul (LA s k t) PySem.F.entry_int_rmul (PySem.F.args_int_rmul_2 _ _) (jz k t a ob its.toArray n hc hd)
    ⟨ho,rfl,⟨_,ho,hc⟩,KI PySem.F.slot_tuple_mul ⟨_,ho,hc⟩ PySem.F.entry_tuple_mul (PySem.F.args_tuple_mul_2 _ _) (wZ a its.toArray ob n k t hc hd c) ⟨ho,⟨.ref a,H,I,rfl,q1 c⟩⟩⟩)
 ·refine Lq (T:="tuple") (U:="int") (by decide) ⟨_,ho,hc⟩ (fun s'=>LA s' k t) dQ PySem.F.fills_int_mul PySem.F.slot_int_rmul gj PySem.F.slot_int_index.lookup
   (KI PySem.F.slot_int_rmul (LA s k t) PySem.F.entry_int_rmul (PySem.F.args_int_rmul_2 _ _) (jz k t a ob its.toArray n hc hd)
    ⟨ho,rfl,⟨_,ho,hc⟩,KI PySem.F.slot_tuple_mul ⟨_,ho,hc⟩ PySem.F.entry_tuple_mul (PySem.F.args_tuple_mul_2 _ _) (wb a its.toArray ob n k t hc hd hemp (by lia) h2) ⟨ho,?_⟩⟩)
  refine⟨.ref s.heap.objs.size,_,I.laid (t':=s.toks) (o:=.tup []) (fun b ob q=>Jr _ q) (J6 _) ?_,rfl,q0 (by lia) _ (I.aU.fresh (J6 _))⟩
  exact⟨Kh _,[],.nil,dB.new _ _⟩
noncomputable def AK(K:Oi):R2:=fun x y H Q=>u5 K x y H Q\/A8 K x y H Q
theorem mE(K:Oi)(hK:X.K=K):dm X (binaryOp .Mult) (AK K):=by subst hK;exact (e8 X.K rfl).or yA
noncomputable def uZ:U2:=fun r1 r2 μ Q=>match cont μ r1,cont μ r2 with
 |some (.int i),some (.int j)=>om i j/\Q (.tr (.int (i*j))) μ
 |some (.lst xs),some (.int k)=>-(2^63)<=k/\k<2^63/\xs.length*k.toNat<=sizeLine/\Q (.fr (.lst (List.replicate k.toNat xs).flatten)) μ
 |some (.tup xs),some (.int k)=>(xs≠[]/\xs.length<=1000/\-(2^63)<=k/\k<=1000)/\Q (.tr (.tup (List.replicate k.toNat xs).flatten)) μ
 |_,_=>False
theorem ml:gL K (AK K) uZ:=by
 intro F ad B σ H μ Q Qt x y r1 r2 hK l h1 h2 q k;unfold uZ at q
 split at q
 ·rename_i i j e1 e2;exact .inl (d3 F ad B σ H μ Q Qt x y r1 r2 hK l h1 h2 (by unfold j5;rw[e1,e2];exact q) k)
 ·rename_i xs j e1 e2;exact .inl (d3 F ad B σ H μ Q Qt x y r1 r2 hK l h1 h2 (by unfold j5;rw[e1,e2];exact q) k)
 ·rename_i xs j e1 e2;by_cases c:1<j
  ·exact .inl (d3 F ad B σ H μ Q Qt x y r1 r2 hK l h1 h2 (by unfold j5;rw[e1,e2];exact⟨⟨q.1.1,q.1.2.1,c,q.1.2.2.2⟩,q.2⟩) k)
  ·have a:=Hv.vI l h1 e1;have b:=h2.vw l e2;subst hK;cases b;have a':=a
   cases a with
   |tup na ha ra =>
    refine .inr ⟨_,_,_,rfl,rfl,cD.of ha,?_,by lia,q.1.2.2.1,fun e=>?_,fun e p hp=>?_⟩
    ·rintro rfl;cases ra;exact q.1.1 rfl
    ·subst e;have q2:=q.2;rw[show (1:Int).toNat=1 from rfl] at q2;simp only[List.replicate,K1,Nl,JK] at q2;exact k _ H _ μ (Vr.flat l a') Fr.refl (Kp.refl μ) q2
    ·have q2:=q.2;rw[show j.toNat=0 by lia] at q2
     exact k _ _ _ μ (Vr.si l .nil hp) (Fr.same (cu.new hp)) (Kp.refl μ) q2
 ·exact q.elim
end Y
namespace A
theorem DG(xs:List T)(k:Int)(μ:Mu)(Q:R->Mu->Prop):Y.uZ (.tr (.tup xs)) (.tr (.int k)) μ Q=((xs≠[]/\xs.length<=1000/\-(2^63)<=k/\k<=1000)/\Q (.tr (.tup (List.replicate k.toNat xs).flatten)) μ):=rfl
end A
noncomputable def Fl(h:Heap)(e:Addr)(cls:Value)(d:Option Addr):Option Addr->Prop
 |none=>∃ oe vs,h.get? e=some oe/\oe.cls=cls/\oe.dict=d/\oe.data=.fields vs/\vs[1]?=some Value.none
 |some T=>∃ oe vs oT ts,h.get? e=some oe/\oe.cls=cls/\oe.dict=d/\oe.data=.fields vs/\vs[1]?=some (.ref T)/\T≠e/\h.get? T=some oT/\oT.data=.fields ts/\ts[3]?=some Value.none
theorem Fl.is{e:Addr}{d:Option Addr}(f:Fl h e cls d To):jV e cls d h:=by
 cases To with
 |none=>obtain⟨oe,vs,h1,h2,h3,h4,_⟩:=f;exact⟨oe,vs,h1,h2,h3,h4⟩
 |some T=>obtain⟨oe,vs,_,_,h1,h2,h3,h4,_⟩:=f;exact⟨oe,vs,h1,h2,h3,h4⟩
theorem jV.ok{e:Addr}{d:Option Addr}(x:jV e cls d h):bO P w H h e (.ext (jV e cls d)):=
 ⟨x,let ⟨o,_,h1,_⟩:=x;⟨o,h1⟩,fun h1 h2 ⟨o,vs,a,b,c,d⟩ k=>⟨o,vs,k o a,b,c,d⟩⟩
theorem jV.one{e:Addr}{cls':Value}{d d':Option Addr}(x:jV e cls d h)(y:jV e cls' d' h):cls=cls'/\d=d':=by
 obtain⟨o,_,h1,h2,h3,_⟩:=x;obtain⟨o',_,g1,g2,g3,_⟩:=y;rw[h1] at g1;cases g1;exact⟨h2.symm.trans g2,h3.symm.trans g3⟩
structure Mv (h h':Heap) (e:Addr) (To:Option Addr) (fs:List Addr) (T':Addr):Prop where
 keep:∀ b o,b≠e->(∀ T,To=some T->b≠T)->b∉fs->h.get? b=some o->h'.get? b=some o
 slot:∀ b o,b∈fs->h.get? b=some o->∃ sl,h'.get? b=some {o with slots:=sl}
 new:(h.get? T'=none\/To=some T')/\T'∉fs
section
variable {h:Heap} {e:Addr} {cls:Value} {d:Option Addr} {base:Heap} {l:List Env}
theorem Fl.Bb{T:Addr}(f:Fl h e cls d (some T))(hl:h.FunFrames base l):T∉iQ l:=fun m=>by
 obtain⟨_,o,ho,hd⟩:=hl.mem m;obtain⟨_,_,oT,ts,_,_,_,_,_,_,hT,hdT,_⟩:=f;rw[hT] at ho;cases ho;exact hd ts hdT
theorem wc{o:Obj}{vs:Array Value}(q:o.data=.fields vs)(g:Array Value->Array Value):o.mapFields g={o with data:=.fields (g vs)}:=by
 obtain⟨c,dd,dt,sl⟩:=o;cases q;rfl
end
section
variable {M:Model} {A:Around} {E:Value->Shared->Prop} {s:Shared} {env:Env} {outer:List Env} {L e:Addr} {cls:Value} {d:Option Addr} {base:Heap}
theorem mL{o:Obj}{vs:Array Value}{x:Value}{Q:Unit->Shared->Prop}(ho:s.heap.get? a=some o)(hd:o.data=.fields vs)(hi:i<vs.size)
  (hq:∀ h':Heap,(∀ b,b≠a->h'.get? b=s.heap.get? b)->h'.get? a=some {o with data:=.fields (vs.setIfInBounds i x)}->Q () {s with heap:=h'}):wpAny M A (setField (.ref a) i x) Q E s:=by
 have hm:=wc hd (·.setIfInBounds i x);refine LY ho hd hi (hq _ (fun b n=>LF _ _ (Ne.symm n)) ?_);have:=LI (Obj.mapFields (·.setIfInBounds i x)) ho (Mo (LC hd _));rw[hm] at this;exact this
theorem kv{T:Addr}{fl:Value}{oe oT:Obj}{vs ts:Array Value}{Q:Unit->Shared->Prop}(he:s.heap.get? e=some oe)(hd:oe.data=.fields vs)(h1:vs[1]?=some (.ref T))(hne:T≠e)(hT:s.heap.get? T=some oT)(hdT:oT.data=.fields ts)(h3:ts[3]?=some fl)
  (hq:∀ h':Heap,(∀ b,b≠T->h'.get? b=s.heap.get? b)->h'.get? T=some {oT with data:=.fields (ts.setIfInBounds 3 .none)}->Q () {s with heap:=h'}):wpAny M A (setFlight (.ref e) none) Q E s:=by
 unfold setFlight;refine Jp (Kz he hd h1 ?_);rw[Jy (by simp)]
 exact mL hT hdT (Kd.mp h3).1 hq
theorem rO{oe:Obj}{vs:Array Value}{head:Value}{hn:Bool}{Q:Unit->Shared->Prop}(hfr:A.frames=some (env::outer))(hf:env.frame=some L)(hl:s.heap.FunFrames base (env::outer))(he:s.heap.get? e=some oe)(hd:oe.data=.fields vs)(hsz:1<vs.size)
  (hq:∀(h':Heap) (T':Addr) (oT:Obj) (ts:Array Value),(∀ b o,b≠e->b∉iQ (env::outer)->s.heap.get? b=some o->h'.get? b=some o)->(∀ b o,b∈iQ (env::outer)->s.heap.get? b=some o->∃ sl,h'.get? b=some {o with slots:=sl}) ->
   s.heap.get? T'=none->h'.get? e=some {oe with data:=.fields (vs.setIfInBounds 1 (.ref T'))}->h'.get? T'=some oT->oT.data=.fields ts->ts[3]?=some (rawInt L)->T'≠e->T'∉iQ (env::outer)->Q () {s with heap:=h'}) :
  wpAny M A (frameOf env >>= fun a=>entryPlaceOf L hn >>= fun pl=>EntryCells.newEntry head a .none (rawInt L) .none pl >>= fun b=>setField (.ref e) 1 b) Q E s:=by
 have nfe:e∉iQ (env::outer):=fun m=>by
  obtain⟨_,o,ho,hnf⟩:=hl.mem m;rw[he] at ho;cases ho;exact hnf vs hd
 refine Jp (wpAny_frameOf_fun hfr hl hf fun h1 hs=>?_);obtain⟨hs1,hs2,hs3⟩:=hs;refine Jp (wpAny_entryPlaceOf fun pl hpl=>?_);unfold EntryCells.newEntry newFields;refine Jp (K2 ?_ (hpl.sizeOk5 _ _ _ _ _));have e1:h1.get? e=some oe:=(hs2 e nfe).trans he;have hsize:∀ b o,h1.get? b=some o->b≠h1.objs.size:=fun b o q=>JP (JA q);refine mL (Jr _ e1) hd hsz fun h2 k1 k2=>?_;have nfT:h1.objs.size∉iQ (env::outer):=fun m=>by
  obtain⟨_,o,ho,_⟩:=hl.mem m;obtain⟨sl,q⟩:=hs3 _ o ho;exact hsize _ _ q rfl
 refine hq h2 h1.objs.size _ _ (fun b o n1 n2 q=>?_) (fun b o m q=>?_) ?_ k2 ((k1 _ (Ne.symm (hsize _ _ e1))).trans (JC h1 rfl)) rfl ?_ (Ne.symm (hsize _ _ e1)) nfT
 ·rw[k1 b n1];exact Jr _ ((hs2 b n2).trans q)
 ·obtain⟨sl,q1⟩:=hs3 b o q;exact⟨sl,(k1 b fun z=>nfe (by rw[<- z];exact m)).trans (Jr _ q1)⟩
 ·cases q:s.heap.get? h1.objs.size with
  |none=>rfl
  |some o =>
   obtain⟨sl,q1⟩:=hs3 _ o q;exact absurd rfl (hsize _ _ q1)
 ·rcases hpl with rfl|⟨_,_,_,_,_,_,_,rfl⟩<;>simp
theorem vC{Q:Unit->Shared->Prop}(hfr:A.frames=some (env::outer))(hf:env.frame=some L)(hl:s.heap.FunFrames base (env::outer))(f:Fl s.heap e cls d To)
  (hq:∀ h' T',Mv s.heap h' e To (iQ (env::outer)) T'->Fl h' e cls d (some T')->Q () {s with heap:=h'}):wpAny M A (noteFrame (.ref e) env) (fun _ s2=>wpAny M A (setFlight (.ref e) none) Q E s2) E s:=by
 unfold noteFrame;simp only[hf]
 cases To with
 |none =>
  obtain⟨oe,vs,g1,g2,g3,g4,g5⟩:=id f;have hsz:=(Kd.mp g5).1;refine Jp (Kz g1 g4 g5 ?_);rw[Ju (by decide)]
  refine rO hfr hf hl g1 g4 hsz fun h1 T' oT ts k1 k2 k3 k4 k5 k6 k7 k8 k9=>?_;refine kv (s:={s with heap:=h1}) k4 rfl (by simp[hsz]) k8 k5 k6 k7 fun h2 j1 j2=>?_
  have nT:∀ b o,s.heap.get? b=some o->b≠T':=fun b o q z=>by rw[z,k3] at q;cases q
  refine hq h2 T' ⟨fun b o n1 _ n3 q=>?_,fun b o m q=>?_,.inl k3,k9⟩ ⟨_,_,_,_,(j1 e (Ne.symm k8)).trans k4,g2,g3,rfl,by simp[hsz],k8,j2,rfl,?_⟩
  ·exact (j1 b (nT b o q)).trans (k1 b o n1 n3 q)
  ·obtain⟨sl,q1⟩:=k2 b o m q;exact⟨sl,(j1 b (nT b o q)).trans q1⟩
  ·have:=(Kd.mp k7).1;simp[this]
 |some T =>
  obtain⟨oe,vs,oT,ts,g1,g2,g3,g4,g5,g6,g7,g8,g9⟩:=id f;have hsz:=(Kd.mp g5).1;have nfT:=f.Bb hl;refine Jp (Kz g1 g4 g5 ?_);rw[Jy (by simp)]
  refine Jp (Kz g7 g8 g9 ?_);rw[Ju (by simp[rawInt])]
  refine Jp (mL g7 g8 (Kd.mp g9).1 fun h0 i1 i2=>?_);have hl0:h0.FunFrames base (env::outer):=hl.of_keeps fun b o q hn=>⟨o,(i1 b fun z=>by rw[z,g7] at q;cases q;exact hn ts g8).trans q,rfl⟩
  refine rO (s:={s with heap:=h0}) hfr hf hl0 ((i1 e (Ne.symm g6)).trans g1) g4 hsz fun h1 T' oT' ts' k1 k2 k3 k4 k5 k6 k7 k8 k9=>?_
  refine kv (s:={s with heap:=h1}) k4 rfl (by simp[hsz]) k8 k5 k6 k7 fun h2 j1 j2=>?_
  have nTT:T'≠T:=fun z=>by
   have k3':h0.get? T'=none:=k3;rw[z,i2] at k3';cases k3'
  have nT:∀ b o,s.heap.get? b=some o->b≠T':=fun b o q z=>by
   have k3':h0.get? T'=none:=k3;rw[<- z] at k3';by_cases z2:b=T
   ·exact nTT (z.symm.trans z2)
   ·rw[i1 b z2,q] at k3';cases k3'
  refine hq h2 T' ⟨fun b o n1 n2 n3 q=>?_,fun b o m q=>?_,.inl ?_,k9⟩ ⟨_,_,_,_,(j1 e (Ne.symm k8)).trans k4,g2,g3,rfl,by simp[hsz],k8,j2,rfl,?_⟩
  ·exact (j1 b (nT b o q)).trans (k1 b o n1 n3 ((i1 b (n2 T rfl)).trans q))
  ·have nbT:b≠T:=fun z=>nfT (by rw[<- z];exact m)
   obtain⟨sl,q1⟩:=k2 b o m ((i1 b nbT).trans q);exact⟨sl,(j1 b (nT b o q)).trans q1⟩
  ·exact (i1 T' nTT).symm.trans k3
  ·have:=(Kd.mp k7).1;simp[this]
theorem ud{Q:Unit->Shared->Prop}(hfr:A.frames=some (env::outer))(hf:env.frame=some L)(hl:s.heap.FunFrames base (env::outer))(f:Fl s.heap e cls d To)
  (hq:∀ h' T',Mv s.heap h' e To (iQ (env::outer)) T'->Fl h' e cls d (some T')->Q () {s with heap:=h'}):wpAny M A (leaving env (.ref e)) Q E s:=by
 unfold leaving;exact Jp (vC hfr hf hl f hq)
end
theorem fU.wN(x:fU P w H h)(k:∀ b u,h.get? b=some u->h'.get? b=some u)(hn:H a=none)(new:bO P w (upd H a o) h' a o):fU P w (upd H a o) h':=fun b u e=>by
 by_cases z:b=a
 ·subst z;rw[ax] at e;cases e;exact new
 ·rw[ao z] at e;exact (x b u e).jv (fun c v _ q=>k c v q) (fun c q=>by rw[ao (aF q hn)];exact q) (fun c xs q=>by rw[ao (aF q hn)];exact q) fun c _ _ q=>by rw[ao (aF q hn)];exact q
theorem Un.wN{fs ex:List Addr}(k:∀ b u,h.get? b=some u->h'.get? b=some u)(h0:h.get? a=none)(hn:H a=none):Un fs ex H (upd H a o) h h' where
 keep:=fun b u q _ _ _=>k b u q
 slot:=fun b u q _ _ _=>⟨u.slots,k b u q⟩
 free:=fun b u q n _=>by rw[ao (fun z=>by rw[z,h0] at q;cases q)];exact n
 there:=fun b u q _=>⟨u,k b u q⟩
 jZ:=fun b xs q=>by rw[ao (aF q hn)];exact q
 jj:=fun b u xs q=>by rw[ao (aF q hn)];exact q
 iP:=fun b ps q=>⟨#[],by rw[ao (aF q hn),q];simp⟩
theorem fU.none_of(x:fU P w H h)(e:h.get? a=none):H a=none:=by
 cases q:H a with
 |none=>rfl
 |some u =>
  have:=x a u q;obtain⟨o,ho⟩:∃ o,h.get? a=some o:=by
   clear q
   induction u with
   |lst xs=>obtain⟨_,_,_,_,z⟩:=this;exact⟨_,z⟩
   |tup xs=>obtain⟨_,_,_,o,z,_⟩:=this;exact⟨_,z⟩
   |dK kvs=>obtain⟨_,_,_,_,o,_,_,z,_⟩:=this;exact⟨_,z⟩
   |dT kvs=>obtain⟨_,_,_,_,o,_,_,z,_⟩:=this;exact⟨_,z⟩
   |set S n=>obtain⟨o,_,_,_,z,_⟩:=this;exact⟨_,z⟩
   |ins C dx fs=>obtain⟨_,_,_,z,_⟩:=this;exact⟨_,z⟩
   |own x=>exact this
   |xd fs=>obtain⟨_,⟨o,_,_,z,_⟩,_⟩:=this;exact⟨_,z⟩
   |met f x=>exact⟨_,this⟩
   |fh lo hi=>obtain⟨_,_,_,z⟩:=this;exact⟨_,z⟩
   |hV o u ih=>exact⟨_,this.1⟩
   |uq ps=>obtain⟨_,z,_⟩:=this;exact⟨_,z⟩
   |ext φ=>exact this.2.1
  rw[e] at ho;cases ho
theorem fU.moved{e T':Addr}{d:Option Addr}{fs:List Addr}(x:fU P w H h)(mv:Mv h h' e To fs T')(f':jV e cls d h')(he:H e=some (.ext (jV e cls d)))(hT:∀ T,To=some T->H T=none)(hf:∀ b∈fs,H b=none):fU P w H h':=fun b u q=>by
 by_cases z:b=e
 ·subst z;rw[he] at q;cases q;exact f'.ok
 ·refine (x b u q).jv (fun c v hc r=>?_) (fun _ q=>q) (fun _ _ q=>q) fun _ _ _ q=>q;have tr:∃ o,H c=some o:=by
   rcases hc with rfl|hc
   ·exact⟨u,q⟩
   ·exact⟨_,hc⟩
  obtain⟨o,tr⟩:=tr;refine mv.keep c v (fun z2=>?_) (fun T hT' z2=>?_) (fun m=>?_) r
  ·rcases hc with rfl|hc
   ·exact z z2
   ·rw[z2,he] at hc;cases hc
  ·rw[z2,hT T hT'] at tr;cases tr
  ·rw[hf c m] at tr;cases tr
section
variable {X:Cx} {pins:List (Addr×Obj)} {σ:St} {H H':Hp} {s:Shared} {h':Heap}
theorem Inv.Fz{ch:List Addr}(I:Inv X pins σ H s)
  (hch:∀ b∈ch,X.s₀.heap.get? b=none/\b≠X.env.locals/\(∀ x c,X.env.cells.lookup x=some c->c≠b)/\∀ p∈X.pn++pins,p.1≠b)
  (keep:∀ b o,b≠X.env.locals->b∉X.fs->b∉ch->s.heap.get? b=some o->H b=none->h'.get? b=some o)
  (slot:∀ b o,b≠X.env.locals->b∈X.fs->b∉ch->s.heap.get? b=some o->H b=none->∃ sl,h'.get? b=some {o with slots:=sl})
  (there:∀ b o,b∉ch->s.heap.get? b=some o->∃ o',h'.get? b=some o')
  (ns:∀ m,s.heap.Ns X.env.locals m->h'.Ns X.env.locals m) (aU:fU X.prog X.w H h') :
  Inv X pins σ H {s with heap:=h'}:=by
 have neL:∀ b o,X.s₀.heap.get? b=some o->b≠X.env.locals:=fun b o e=>JP (JO (JA e) I.ok.above);have neC:∀ b o,X.s₀.heap.get? b=some o->b∉ch:=fun b o e hb=>by rw[(hch b hb).1] at e;cases e
 have cellK:∀ x c,X.env.cells.lookup x=some c->∀ v,s.heap.IsCell c v->h'.IsCell c v:=fun x c e v ⟨o,ho,hd⟩=>by
  have nch:c∉ch:=fun z=>(hch c z).2.2.1 x c e rfl;by_cases hc:c∈X.fs
  ·obtain⟨sl,q⟩:=slot c o (I.yt x c e) hc nch ho (I.dR x c e);exact⟨_,q,hd⟩
  ·exact⟨o,keep c o (I.yt x c e) hc nch ho (I.dR x c e),hd⟩
 refine⟨I.ok,I.os,I.bare,⟨fun b o e n hb hx=>?_,fun b o e n hb hx=>?_,I.base.free,fun b o e hx=>?_,I.base.jZ,I.base.jj,I.base.iP⟩,?_,fun x c e=>?_,I.free,I.dR,fun p hp=>?_,aU,I.len⟩
 ·exact keep b o (neL b o e) hb (neC b o e) (I.base.keep b o e n hb hx) (I.base.free b o e n hx)
 ·obtain⟨sl,e1⟩:=I.base.slot b o e n hb hx;obtain⟨sl',e2⟩:=slot b _ (neL b o e) hb (neC b o e) e1 (I.base.free b o e n hx);exact⟨sl',e2⟩
 ·obtain⟨o',e1⟩:=I.base.there b o e hx;exact there b o' (neC b o e) e1
 ·obtain⟨m,hn,hl⟩:=I.loc;refine⟨m,ns m hn,fun i x v e1 e2 e3=>?_⟩;obtain⟨u,r,l⟩:=hl i x v e1 e2 e3;refine⟨u,r,?_⟩;rcases l with l|⟨k,c,e,z⟩
  ·exact .inl l
  ·exact .inr ⟨k,c,e,cellK x c e _ z⟩
 ·obtain⟨v,z⟩:=I.cell x c e;exact⟨v,cellK x c e v z⟩
 ·obtain⟨e,n,ne,nf,d⟩:=I.pin p hp;have nch:p.1∉ch:=fun z=>(hch p.1 z).2.2.2 p hp rfl;exact⟨keep p.1 p.2 ne nf nch e n,n,ne,nf,d⟩
structure Nw (X:Cx) (pins:List (Addr×Obj)) (H:Hp) (e:Addr) (cls:Value) (d To:Option Addr):Prop where
 tr:H e=some (.ext (jV e cls d))
 e0:X.s₀.heap.get? e=none
 d0:∀ a,d=some a->X.s₀.heap.get? a=none
 t0:∀ T,To=some T->H T=none/\X.s₀.heap.get? T=none/\∀ p∈X.pn++pins,p.1≠T
theorem Inv.moved{e T':Addr}{d:Option Addr}(I:Inv X pins σ H s)(hex:X.ex=[])(f:Fl s.heap e cls d To)(nw:Nw X pins H e cls d To)(mv:Mv s.heap h' e To (iQ X.stack) T')(f':Fl h' e cls d (some T')):
  Inv X pins σ H {s with heap:=h'}/\Nw X pins H e cls d (some T'):=by
 have hfr:=I.iR;have teT:∀ T o,To=some T->s.heap.get? T=some o->T∉iQ X.stack:=fun T o hT _=>by subst hT;exact f.Bb I.stack
 have hne:∀ b o,s.heap.get? b=some o->H b=none->b≠e:=fun b o _ n z=>by rw[z,nw.tr] at n;cases n
 refine⟨I.Fz (ch:=To.toList) (fun b hb=>?_) (fun b o hL hb hc q n=>?_) (fun b o _ hb hc q n=>?_) (fun b o hc q=>?_) (fun m hm=>?_) (I.aU.moved mv f'.is nw.tr (fun T hT=>(nw.t0 T hT).1) hfr),nw.tr,nw.e0,nw.d0,fun T hT=>?_⟩
 ·cases To with
  |none=>cases hb
  |some T =>
   have:b=T:=by simpa using hb
   subst this;obtain⟨h1,h2,h3⟩:=nw.t0 b rfl;obtain⟨_,_,oT,ts,_,_,_,_,_,_,hT,hdT,_⟩:=f;refine⟨h2,fun z=>?_,fun x c hc z=>?_,h3⟩
   ·obtain⟨m,⟨o,es,ep,ho,hd,_⟩,_⟩:=I.loc;rw[<- z,hT] at ho;cases ho;rw[hdT] at hd;cases hd
   ·obtain⟨v,o,ho,hd⟩:=I.cell x c hc;rw[z,hT] at ho;cases ho;rw[hdT] at hd;cases hd
 ·refine mv.keep b o (hne b o q n) (fun T hT z=>hc (by rw[hT,z];simp)) (fun m=>?_) q
  exact (J5.mp (I.j7 b m)).elim hL hb
 ·by_cases m:b∈iQ X.stack
  ·exact mv.slot b o m q
  ·exact⟨o.slots,mv.keep b o (hne b o q n) (fun T hT z=>hc (by rw[hT,z];simp)) m q⟩
 ·by_cases z:b=e
  ·obtain⟨o',_,q',_⟩:=f'.is;exact⟨o',by rw[z];exact q'⟩
  ·by_cases m:b∈iQ X.stack
   ·obtain⟨sl,q2⟩:=mv.slot b o m q;exact⟨_,q2⟩
   ·exact⟨o,mv.keep b o z (fun T hT z=>hc (by rw[hT,z];simp)) m q⟩
 ·obtain⟨o,es,ep,ho,r⟩:=hm;have n:=I.free;by_cases mm:X.env.locals∈iQ X.stack
  ·obtain⟨sl,q2⟩:=mv.slot _ o mm ho;exact⟨_,es,ep,q2,r⟩
  ·refine⟨o,es,ep,mv.keep _ o (hne _ o ho n) (fun T hT z=>?_) mm ho,r⟩;subst hT;obtain⟨_,_,oT,ts,_,_,_,_,_,_,hT,hdT,_⟩:=f;rw[z,hT] at ho;cases ho;obtain⟨hd,_⟩:=r;rw[hdT] at hd;cases hd
 ·cases hT;rcases mv.new.1 with q|q
  ·refine⟨I.aU.none_of q,?_,fun p hp z=>?_⟩
   ·cases q2:X.s₀.heap.get? T' with
    |none=>rfl
    |some o =>
     obtain⟨o',q3⟩:=I.base.there T' o q2 (by rw[hex];simp)
     rw[q] at q3;cases q3
   ·rw[<- z,(I.pin p hp).1] at q;cases q
  ·exact nw.t0 T' q
noncomputable def sW(X:Cx)(cls:Value)(d:Option Addr)(e:Addr)(σ:St)(H:Hp):Prop:=∀(pins:List (Addr×Obj)) (s:Shared) (To:Option Addr),Inv X pins σ H s->Fl s.heap e cls d To->Nw X pins H e cls d To->X.xe (.ref e) s
noncomputable def sv(P:Program)(w:World):kF:=fun outer H s E x s'=>∃(e T:Addr) (cls:Value) (d:Option Addr) (H':Hp),x=.ref e/\s'.os=s.os/\AllBare s'.gens/\Un (iQ outer) [] H H' s.heap s'.heap/\fU P w H' s'.heap/\Fl s'.heap e cls d (some T)/\s.heap.get? e=none/\(∀ a,d=some a->s.heap.get? a=none)/\s.heap.get? T=none/\H' e=some (.ext (jV e cls d))/\H' T=none/\E cls (some e) H'
end
theorem xQ{base:Heap}{cd:Value}{outer:List Env}{s0:Shared}{H0:Hp}{E:XK}{d:Option Addr}{e:Addr}(hE:E cls (some e) H):
  sW (gY (sv P w) P w K mg base N qual scope f cd A outer s0 H0 E) cls d e σ H:=by
 intro pins s To I fl nw;refine ud (base:=base) I.ok.frames rfl I.stack fl fun h' T' mv f'=>?_;obtain⟨I2,nw2⟩:=I.moved rfl fl nw mv f';exact⟨e,T',cls,d,H,rfl,I.os,I.bare,I2.base,I2.aU,f',nw.e0,nw.d0,(nw2.t0 T' rfl).2.1,nw.tr,(nw2.t0 T' rfl).1,hE⟩
section
variable {X:Cx}
noncomputable def Ez(X:Cx)(σ:St)(H:Hp):XK:=fun cls de H'=>∃(e:Addr) (d:Option Addr),de=some e/\H' e=some (.ext (jV e cls d))/\(H e=none->(∀ a,d=some a->H a=none)->sW X cls d e σ H')
noncomputable def CH(X:Cx)(sp:Sp)(t:TA):TE:=fun σ H Q=>t σ H fun vs H1=>sp vs H1 Q (Ez X σ H1)
theorem BL{ps:List Str}{p pos:Pos}{t:TA}(F:ae X.prog X.w X.K X.mg X.base (sv X.prog X.w) k x ps sp)(hr:bM k X.A)(hg:Gl X x)(hex:X.ex=[])(ha:PA X (e::es) t)(h1:autoParam (dq e=true) ℜ0)(h2:autoParam (es.all dq=true) ℜ0)(hdb:autoParam ((x ==("__debug__":Str))=false) ℜ1):
  PE X (.Call (.Name x p) (e::es) [] pos) (CH X sp t):=by
 intro pins s σ H Q I h;obtain⟨f,fd,hm,hk,hb,G⟩:=F.ex;refine Ld (gD I hg hm ?_ hdb);refine PySem.W.callWith_K (h₀:=X.base) I.ok.mod.Ak hk (cB (ha pos pins s σ H _ I h) fun us s1 ⟨vs,H1,I1,r,q⟩=>⟨I1.gJ,?_⟩) (d6 h1) (plain_any h2);have hl:us.length=ps.length:=by rw[<- r.length];exact G.len _ _ _ _ q
 have hb2:=hb s1 us I1.gJ (by rw[JK];exact hl)
 rw[JK] at hb2;refine wpAny_call (Nf (G.run X.A X.stack s1 H1 ⟨us,[]⟩ us vs Q (Ez X σ H1) hr I1.Ex hb2 r q) fun r s' hq=>?_)
 cases r with
 |error e =>
  obtain⟨ea,T,cls,d,H',rfl,ho,hbare,un,aU,fl,n1,n3,n2,tr,nT,ea',d',hea,tr',hd⟩:=hq;cases hea;obtain⟨_,rfl⟩:=fl.is.one (show jV ea cls d' s'.heap from (aU _ _ tr').1);have I2:=I1.Bf (ch:=[]) ho un aU hbare (fun b z=>absurd z (by simp))
  have n0:∀ b,s1.heap.get? b=none->X.s₀.heap.get? b=none:=fun b z=>by
   cases q2:X.s₀.heap.get? b with
   |none=>rfl
   |some o =>
    obtain⟨o',q3⟩:=I1.base.there b o q2 (by rw[hex];simp)
    rw[z] at q3;cases q3
  exact hd (I1.aU.none_of n1) (fun a z=>I1.aU.none_of (n3 a z)) pins s' (some T) I2 fl ⟨tr,n0 _ n1,fun a z=>n0 _ (n3 a z),fun T' hT=>by
   cases hT;exact⟨nT,n0 _ n2,fun p hp z=>by rw[<- z,(I1.pin p hp).1] at n2;cases n2⟩⟩
 |ok fl =>
  cases fl with
  |ret u=>exact I1.after hq
  |next=>exact False.elim hq
  |brk=>exact False.elim hq
  |cont=>exact False.elim hq
structure oZ (K:Oi) (C:Addr):Prop where
 q:PySem.W.excIn K C [.type "ValueError",.type "Exception",.type "BaseException",.type "object"] "ValueError.__new__"=true
theorem oZ.obj{C:Addr}(c:oZ K C):∃ bm N nm qn bs hd sn sub ab col dd k0 k1 k2 k3 k5,K.lookup C=some (excClassObj nm qn C N bs bm hd sn sub ab col dd k0 k1 k2 k3 k5 "ValueError.__new__") /\
  (∀ h:Heap,K.In h->OwnTail h [.type "ValueError",.type "Exception",.type "BaseException",.type "object"] bm)/\(∃ oN,K.lookup N=some oN)/\∀ h:Heap,K.In h->∃ mN,h.Ns N mN/\mN "__init__"=none:=by
 have q:=c.q;unfold PySem.W.excIn at q
 split at q
 ·rename_i dd cd sl ho
  split at q
  ·rename_i C2 bm k0 k1 k2 k3 nw k5 hm hs;simp only[beq_iff_eq,Bool.not_eq_true',Bool.and_eq_true] at q;obtain⟨⟨⟨⟨⟨z1,z2⟩,z3⟩,z4⟩,z5⟩,z6⟩:=q;subst z1;subst z2;obtain⟨nm,bs,mr,ns,qn,hd,sn,sub,ab,col,dl⟩:=cd;dsimp only at hm z3 z5 z6 ho;subst hm;subst z3;obtain⟨l⟩:=sl;have hs':l=[k0,k1,k2,k3,some (.builtin "ValueError.__new__"),k5]:=hs;subst hs';refine⟨bm,ns,nm,qn,bs,hd,sn,sub,ab,col,dd,k0,k1,k2,k3,k5,ho,fun h Ak=>PySem.W.tail_of_in Ak z4,?_,fun h Ak=>⟨_,.of_isNs (PySem.W.isNs_of_in Ak z5),PySem.W.nsMap_none_of_in Ak z5 z6⟩⟩;unfold PySem.W.nsOkIn at z5
   split at z5
   ·rename_i hN;exact⟨_,hN⟩
   ·cases z5
  ·cases q
 ·cases q
noncomputable def BJ(X:Cx)(C:Addr)(t:TA):TS:=fun D σ H=>t σ H fun vs H1=>vs.length<=sizeLine/\∀ e,H1 e=none->sW X (.ref C) none e σ (upd H1 e (.ext (jV e (.ref C) none)))
theorem vm{C:Addr}{np pos:Pos}{t:TA}(hg:Gl X x)(hm:X.mg x=some (.ref C))(hk:oZ X.K C)(hc:X.calm=true)(hex:X.ex=[])(ha:PA X (e::es) t)(h1:autoParam (dq e=true) ℜ0)(h2:autoParam (es.all dq=true) ℜ0)(hdb:autoParam ((x ==("__debug__":Str))=false) ℜ1):
  PS X (.Raise (some (.Call (.Name x np) (e::es) [] cpos)) none pos) (BJ X C t):=by
 intro pins s σ H D I h;obtain⟨bm,N,nm,qn,bs,hd,sn,sub,ab,col,dd,k0,k1,k2,k3,k5,lk,tl,⟨oN,lN⟩,hns⟩:=hk.obj;obtain⟨mN,hN,hni⟩:=hns s.heap I.gJ;have FB:=PySem.F.excBase_ValueError;have hstar:starEach (e::es) X.env=(false,eval e X.env)::starEach es X.env:=d6 h1;refine wpAny_Raise_call_subU (C:=C) (nm:=nm) (q:=qn) (N:=N) (bs:=bs) (bm:=bm) (hdct:=hd) (sn:=sn) (sub:=sub) (ab:=ab) (col:=col) (dd:=dd) (k0:=k0) (k1:=k1) (k2:=k2) (k3:=k3) (k5:=k5) FB FB.hasB FB (mN:=mN) ((tl s.heap I.gJ).hasType FB.hasBase) (I.ok.hd hc) ?_ hni (gD I hg hm ⟨rfl,?_⟩ hdb)
 ·rw[hstar];show (false || (backTo cpos (starEach es X.env)).any (·.1))=false;rw[plain_any h2];rfl
 ·have hp:=ha cpos pins s σ H _ I h;rw[hstar] at hp ⊢;refine Calls.evalArgs_plain (Kw hp (fun us s2 ⟨vs,H1,I1,r,hl,q⟩=>?_) fun _ _ y=>y);refine⟨rfl,by rw[<- r.length];exact hl,I1.gJ _ _ lk,?_,tl _ I1.gJ,fun h' ea hm2=>?_⟩
  ·obtain⟨o,es',ep,ho,rr⟩:=hN;have z1:=I.gJ _ _ lN;rw[ho] at z1;cases z1;exact⟨_,es',ep,I1.gJ _ _ lN,rr⟩
  ·have hne:=I1.aU.none_of hm2.new;obtain⟨tt,g1,g2,g3⟩:=hm2.there;have fl:Fl h' ea (.ref C) none none:=⟨_,_,g1,rfl,rfl,rfl,rfl⟩;have I2:Inv X pins σ (upd H1 ea (.ext (jV ea (.ref C) none))) {s2 with heap:=h'}:=I1.un (t':=s2.toks) (Un.wN hm2.keeps hm2.new hne) (I1.aU.wN hm2.keeps hne fl.is.ok)
   refine q ea hne pins _ none I2 fl ⟨ax,?_,(fun a z=>by cases z),fun T z=>by cases z⟩
   cases q2:X.s₀.heap.get? ea with
   |none=>rfl
   |some o =>
    obtain⟨o',q3⟩:=I1.base.there ea o q2 (by rw[hex];simp)
    rw[hm2.new] at q3;cases q3
end
noncomputable def XH(H:Hp)(e:Addr)(x:T)(cls:Value)(d:Option Addr):Prop:=H e=some (.ext (jV e cls d))/\match x with
 |.exc c none=>c=cls/\d=none
 |.exc c (some (n,i))=>c=cls/\∃ a,d=some a/\H a=some (.xd [(n,.int i)])
 |_=>False
abbrev Xw:=T->Mu->Prop
abbrev GJ:=Value->Option Addr->Addr->St->Hp->Prop
abbrev UX:=Mu->(R->Mu->Prop)->Xw->Prop
abbrev pG:=Ed->Xw->Mu->Prop
noncomputable def xG(F:Fx)(B:bo)(H:Hp)(Dx:GJ)(Xt:Xw):Prop:=∀(ad:Nat->Addr) (B':bo) (σ':St) (H':Hp) (μ':Mu) (x:T) (cls:Value) (d:Option Addr) (e:Addr),Rl F ad B' σ' H' μ'->Fr B H B' H'->XH H' e x cls d->¬ B' e->(∀ a,d=some a->¬ B' a)->Xt x μ'->Dx cls d e σ' H'
theorem xG.step{Dx:GJ}{Xt:Xw}(h:xG F B H Dx Xt)(f:Fr B H B1 H1):xG F B1 H1 Dx Xt:=fun ad B' σ' H' μ' x cls d e l f' tr n1 n2 q=>h ad B' σ' H' μ' x cls d e l (f.trans f') tr n1 n2 q
noncomputable def RX(K:Oi)(Dx:GJ)(te:TE)(ux:UX):Prop:=∀(F:Fx) (ad:Nat->Addr) (B:bo) (σ:St) (H:Hp) (μ:Mu) (Q:VK) (Qt:R->Mu->Prop) (Xt:Xw),F.K=K->Rl F ad B σ H μ->ux μ Qt Xt ->
 (∀ v H' r μ',Vr F ad B σ H' μ' v r->Fr B H (Bv B v r) H'->Kp μ μ'->Qt r μ'->Q v H')->xG F B H Dx Xt->te σ H Q
noncomputable def IQ(K:Oi)(Dx:GJ)(ts:TS)(us:pG):Prop:=∀(F:Fx) (D:Ends) (E:Ed) (Xt:Xw) (ad:Nat->Addr) (B:bo) (σ:St) (H:Hp) (μ:Mu),F.K=K->Rl F ad B σ H μ->us E Xt μ->tD F B H D E->xG F B H Dx Xt->ts D σ H
structure YX (X:Cx) (e:Expr) (u:UX):Prop where
 ex:∃ t,QE X e t/\RX X.K (sW X) t u
structure CW (X:Cx) (st:Stmt) (u:pG):Prop where
 ex:∃ t,QS X st t/\IQ X.K (sW X) t u
structure yS (X:Cx) (sts:List Stmt) (u:pG):Prop where
 ex:∃ t,QB X sts t/\IQ X.K (sW X) t u
namespace Y
section
variable {X:Cx} {a b c e o tg:Expr} {es rest:List Expr} {ua ub uc ue uo:UE} {uA uB:UT} {us:UA} {pos pos' p p2 p3:Pos} {x:Str} {st:Stmt} {sts xs ys:List Stmt} {u w:US} {ux:UX} {uxs wxs:pG}
theorem xg(h:YS X st u):CW X st (fun E _ μ=>u E μ):=by
 obtain⟨t,q,r⟩:=h;exact⟨t,q,fun F D E Xt ad B σ H μ hF l q h _=>r F D E ad B σ H μ hF l q h⟩
noncomputable def FL(u w:pG):pG:=fun E Xt μ=>u {E with nx:=w E Xt} Xt μ
theorem kL(h:CW X st uxs):yS X [st] uxs:=by obtain⟨t,q,r⟩:=h;exact⟨t,Z.aD q,r⟩
theorem AD:yS X [] (fun E _ μ=>E.nx μ):=⟨_,Z.c_,fun F D E Xt ad B σ H μ hK l q h _=>h.nx ad B σ H μ l Fr.refl q⟩
theorem dO(h:CW X st uxs)(h2:yS X sts wxs):yS X (st::sts) (FL uxs wxs):=by
 obtain⟨t,q,r⟩:=h;obtain⟨t',q',r'⟩:=h2;exact⟨_,Z.af q q',fun F D E Xt ad B σ H μ hK l q h hX=>r F {D with nx:=t' D} {E with nx:=wxs E Xt} Xt ad B σ H μ hK l q
  ⟨fun ad1 B1 σ1 H1 μ1 l1 f1 q1=>r' F D E Xt ad1 B1 σ1 H1 μ1 hK l1 q1 (h.step f1) (hX.step f1),h.rt,h.bk,h.ct⟩ hX⟩
def Ae(ux:UX):pG:=fun E Xt μ=>ux μ E.rt Xt
theorem HR(he:YX X e ux):CW X (.Return (some e) pos) (Ae ux):=by
 obtain⟨t,q,r⟩:=he;exact⟨_,Z.ret q,fun F D E Xt ad B σ H μ hK l q h hX=>r F ad B σ H μ _ _ Xt hK l q (fun v H' rr μ' v1 _ _ q1=>h.rt ad B σ H' μ' v rr v1 q1) hX⟩
noncomputable def GG(c:UT)(u w:pG):pG:=fun E Xt μ=>c μ fun b μ'=>if b=true then u E Xt μ' else w E Xt μ'
theorem FO(hc:YT X c uA)(ha:yS X xs uxs)(hb:yS X ys wxs):CW X (.If c xs ys pos) (GG uA uxs wxs):=by
 obtain⟨t,q,r⟩:=hc;obtain⟨t1,q1,r1⟩:=ha;obtain⟨t2,q2,r2⟩:=hb;refine⟨_,Z.gm q q1 q2,fun F D E Xt ad B σ H μ hK l q h hX=>r F ad B σ H μ _ _ hK l q fun b H' μ' l' f k1 qq=>?_⟩
 cases b with
 |true=>exact r1 F D E Xt ad B σ H' μ' hK l' (by simpa using qq) (h.step f) (hX.step f)
 |false=>exact r2 F D E Xt ad B σ H' μ' hK l' (by simpa using qq) (h.step f) (hX.step f)
noncomputable def Gz(u:U2)(ux:UX)(ub:UE):UX:=fun μ Q Xt=>ux μ (fun r1 μ1=>ub μ1 fun r2 μ2=>u r1.d r2.d μ2 Q) Xt
theorem Jg{r:R2}{u:U2}(hr:tO X r)(h:gL X.K r u)(ha:YX X a ux)(hb:YE X b ub)(hs:autoParam (Z.sim b=true) ℜ0):YX X (.Subscript a b pos) (Gz u ux ub):=by
 obtain⟨t,q,ra⟩:=ha;obtain⟨t',q',rb⟩:=hb;refine⟨_,Z.ix hr q q' hs,fun F ad B σ H μ Q Qt Xt hK l q k hX=>ra F ad B σ H μ _ _ Xt hK l q (fun v1 H1 r1 μ1 w1 f1 k1 q1=>?_) hX⟩;refine rb F ad B σ H1 μ1 _ _ hK w1.rl q1 fun v2 H2 r2 μ2 w2 f2 k2 q2=>?_;refine h F ad B σ H2 μ2 _ _ v1 v2 r1.d r2.d hK w2.rl (w1.hv.fr f2.d k2) w2.hv q2 fun v H3 r3 μ3 w3 f3 k3 q3=>?_;exact k v H3 r3 μ3 w3 ((f1.d.trans f2.d).trans f3) ((k1.trans k2).trans k3) q3
end
end Y
abbrev yg:=List T->(R->List T->Prop)->(T->Prop)->Prop
noncomputable def yZ(K:Oi)(md:List Bool)(tsp:yg):Sp:=fun vs H Q E=>∃ Et:T->Prop,spT K md (fun args Qt=>tsp args Qt Et) vs H Q E/\∀ x cls d e H',Et x->(∀ b o,H b=some o->b∉jX md vs->H' b=some o)->XH H' e x cls d->E cls (some e) H'
theorem n_:∀{md:List Bool} {vs:List V},md.all (fun b=>!b)=true->jX md vs=[]
 |[],_,_=>rfl
 |true::_,_,h=>by simp at h
 |false::md,[],_=>rfl
 |false::md,v::vs,h=>n_ (md:=md) (vs:=vs) (by simpa using h)
namespace Y
theorem zc{md:List Bool}{E:XK}{Q:VK}{Qt:R->Mu->Prop}{rs:List R}(hF:F.K=K)(l1:Rl F ad B σ H1 μ1)(ps:Paired (Hv F ad B H1 μ1) vs rs)(ea:v9 μ1 md rs=some args)
  (nd:(h8 md rs).Nodup) (dj:∀ j∈h8 md rs,j∉iA md rs) (q1:tsp args fun r outs=>(iA md rs=[]\/(fc r=true/\outs.all gX=true))/\Qt r (putAll (h8 md rs) outs μ1))
  (k:∀ v H' r μ',Vr F ad B σ H' μ' v r->Fr B H1 (Bv B v r) H'->Kp μ1 μ'->Qt r μ'->Q v H'):spT K md tsp vs H1 Q E:=by
 have hro:=jn (md:=md) ps;obtain⟨ag,eb,hb⟩:=Ba l1 (iA md rs) ps ea (fun j h=>h) dj hro;rw[hF] at ag;have inj:∀{js:List Nat},js.Nodup->(∀ j∈js,∃(s:Sl) (c:T),μ1[j]?=some s/\s.box=some c)->(js.map ad).Nodup:=fun {js}=>by
  induction js with
  |nil=>exact fun _ _=>NN
  |cons j js ih =>
   intro nd hb;rw[Ki] at nd;rw[Kc,Ki];refine⟨fun hm=>?_,ih nd.2 fun i hi=>hb i (J8 _ hi)⟩;obtain⟨i,hi,z⟩:=JX.mp hm;obtain⟨s1,c1,e1,b1⟩:=hb j JG;obtain⟨s2,c2,e2,b2⟩:=hb i (J8 _ hi);exact nd.1 (l1.inj i j s2 s1 c2 c1 e2 e1 b2 b1 z ▸ hi)
 refine⟨_,args,_,ag,fun b z=>l1.fY b z.1,by rw[eb];exact inj nd hb,q1,fun v H2 r outs hq keep res=>?_⟩
 rw[eb] at keep res;obtain⟨hfl,hq⟩:=hq;have nro:∀{b:Addr},iA md rs=[]->B b->B b/\∀ j∈iA md rs,b≠ad j:=fun {b} z h=>⟨h,fun j hj=>by rw[z] at hj;cases hj⟩
 cases r with
 |br i=>exact res.elim
 |tr t =>
  obtain⟨rv,po⟩:=res;have rv':Rep F.K H2 B v t:=by
   rw[hF];rcases hfl with z|z
   ·exact rv.fr (Fr.less fun b h=>nro z h)
   ·exact rv.flat z.1
  have po':Paired (Bx F.K H2 B) ((h8 md rs).map ad) outs:=by
   rw[hF];rcases hfl with z|z
   ·exact Paired.mD po fun a c h=>h.of rfl (Fr.less fun b h=>nro z h)
   ·exact Paired.ng po z.2
  obtain⟨l2,k2,f2⟩:=l1.call hb nd keep (fun _ z=>z) (fun _ _ _ z=>z) (fun b z n=>absurd z n) po';exact k v H2 (.tr t) _ ⟨l2,rv'⟩ f2 k2 hq
 |fr c =>
  obtain⟨a,rfl,ha0,nBa,x,po⟩:=res;have nBa':¬ B a:=l1.kh ha0;have sub:iA md rs=[]->∀ b,more B a b->more (fun b=>B b/\∀ j∈iA md rs,b≠ad j) a b:=fun z b h=>h.imp id fun h=>nro z h;have x':Bx F.K H2 (more B a) a c:=by
   rw[hF];rcases hfl with z|z
   ·exact x.of rfl (Fr.less (sub z))
   ·exact x.flat z.1
  have po':Paired (Bx F.K H2 (more B a)) ((h8 md rs).map ad) outs:=by
   rw[hF];rcases hfl with z|z
   ·exact Paired.mD po fun a' c h=>h.of rfl (Fr.less (sub z))
   ·exact Paired.ng po z.2
  have po2:Paired (Bx F.K H2 B) ((h8 md rs).map ad) outs:=Paired.mD po' fun a' c h=>h.of rfl (Fr.less fun _ z=>.inr z);obtain⟨l2,k2,f2⟩:=l1.call hb nd keep (fun _ z=>z) (fun _ _ _ z=>z) (fun b z n=>absurd z n) po2;obtain⟨l3,_,f3⟩:=l1.call (B2:=more B a) hb nd keep (fun _ z=>.inr z) (fun b o e n z=>z.elim (fun z=>by rw[z,ha0] at e;cases e) n) (fun b z n=>z.elim (fun z=>by rw[z];exact x'.fY) fun z=>absurd z n) po'
  exact k _ H2 (.fr c) _ ⟨l2,a,rfl,nBa',l1.yK ha0,l3,x'⟩ f3 k2 hq
noncomputable def GP(md:List Bool)(tsp:yg)(us:UA):UX:=fun μ Q Xt=>us μ fun rs μ1=>match v9 μ1 md rs with
 |some args=>(h8 md rs).Nodup/\(∀ j∈h8 md rs,j∉iA md rs)/\tsp args (fun r outs=>(iA md rs=[]\/(fc r=true/\outs.all gX=true))/\Q r (putAll (h8 md rs) outs μ1)) (fun x=>Xt x μ1)
 |none=>False
theorem IZ{pos p:Pos}{ps:List Str}{tsp:yg}(K:Oi)(hK:X.K=K)(F:ae X.prog X.w X.K X.mg X.base (sv X.prog X.w) k x ps (yZ K md tsp))(hr:bM k X.A)(hg:Gl X x)(hex:X.ex=[])(ha:YA X (e::es) us)(h1:autoParam (dq e=true) ℜ0)(h2:autoParam (es.all dq=true) ℜ0)(hdb:autoParam ((x ==("__debug__":Str))=false) ℜ1)(hmd:autoParam (md.all (fun b=>!b)=true) ℜ0):
  YX X (.Call (.Name x p) (e::es) [] pos) (GP md tsp us):=by
 obtain⟨t,q,r⟩:=ha;subst hK;refine⟨_,⟨BL F hr hg hex q.h h1 h2 hdb⟩,fun F ad B σ H μ Q Qt Xt hF l q k hX=>?_⟩;refine r F ad B σ H μ _ _ hF l q fun vs H1 rs μ1 l1 ps f1 k1 q1=>?_
 split at q1
 ·rename_i args ea;obtain⟨nd,dj,q1⟩:=q1;refine⟨fun x=>Xt x μ1,zc (tsp:=fun args Qt=>tsp args Qt fun x=>Xt x μ1) hF l1 ps ea nd dj q1 fun v H' r μ' w f k2 q2=>k v H' r μ' w (f1.trans f) (k1.trans k2) q2,fun x cls d e H' he keep tr=>⟨e,d,rfl,tr.1,fun ne nd=>?_⟩⟩;have sm:cu H1 H':=fun b o z=>keep b o z (by rw[n_ hmd];simp)
  exact hX ad B σ H' μ1 x cls d e (l1.same sm) (f1.trans (Fr.same sm)) tr (l1.kh ne) (fun a z=>l1.kh (nd a z)) he
 ·exact q1.elim
noncomputable def mw(C:Addr)(us:UA):pG:=fun _ Xt μ=>us μ fun rs μ'=>rs.length<=10/\Xt (.exc (.ref C) none) μ'
theorem ve{C:Addr}{np pos:Pos}(hg:Gl X x)(hm:X.mg x=some (.ref C))(hk:oZ X.K C)(hc:X.calm=true)(hex:X.ex=[])(ha:YA X (e::es) us)(h1:autoParam (dq e=true) ℜ0)(h2:autoParam (es.all dq=true) ℜ0)(hdb:autoParam ((x ==("__debug__":Str))=false) ℜ1):
  CW X (.Raise (some (.Call (.Name x np) (e::es) [] cpos)) none pos) (mw C us):=by
 obtain⟨t,q,r⟩:=ha;refine⟨_,⟨vm hg hm hk hc hex q.h h1 h2 hdb⟩,fun F D E Xt ad B σ H μ hF l q h hX=>?_⟩;refine r F ad B σ H μ _ _ hF l q fun vs H1 rs μ1 l1 ps f1 k1 q1=>⟨by rw[ps.length];exact JD q1.1 (by decide),fun ea hn=>?_⟩
 have sm:cu H1 (upd H1 ea (.ext (jV ea (.ref C) none))):=cu.new hn;exact hX ad B σ _ μ1 (.exc (.ref C) none) (.ref C) none ea (l1.same sm) (f1.trans (Fr.same sm)) ⟨ax,rfl,rfl⟩ (l1.kh hn) (fun a z=>by cases z) q1.2
noncomputable def Cj(c:UT)(body:pG):pG:=fun E Xt μ=>∃ I:Nat->Mu->Prop,(∃ m,I m μ)/\∀ m μ,I m μ->c μ fun b μ'=>if b=true then body {E with nx:=fun μ2=>∃ m',m'<m/\I m' μ2,ct:=fun μ2=>∃ m',m'<m/\I m' μ2,bk:=E.nx} Xt μ' else E.nx μ'
theorem zz{c:Expr}{xs:List Stmt}{uA:UT}{u:pG}{pos:Pos}(hp:PassesOwn (model X.prog X.w) X.A X.env X.xe)(hc:YT X c uA)(hb:yS X xs u):CW X (.While c xs [] pos) (Cj uA u):=by
 obtain⟨tc,qc,rc⟩:=hc;obtain⟨t,q,r⟩:=hb;refine⟨_,Z.gC hp qc q,fun F D E Xt ad B σ H μ hF l q h hX=>?_⟩;obtain⟨I,⟨m0,i0⟩,turn⟩:=q;refine⟨fun m σ' H'=>∃ ad' B' μ',Rl F ad' B' σ' H' μ'/\Fr B H B' H'/\I m μ',⟨m0,ad,B,μ,l,Fr.refl,i0⟩,?_⟩;rintro m σ1 H1 ⟨ad1,B1,μ1,l1,f1,i1⟩;refine rc F ad1 B1 σ1 H1 μ1 _ _ hF l1 (turn m μ1 i1) fun b H2 μ2 l2 f2 k2 q2=>?_
 cases b with
 |true =>
  rw[Jy rfl] at q2 ⊢;refine⟨fun σ' H'=>∃ m',m'<m/\∃ ad' B' μ',Rl F ad' B' σ' H' μ'/\Fr B H B' H'/\I m' μ',fun σ' H' h=>h,?_⟩;have hn:∀ ad' B' σ' H' μ',Rl F ad' B' σ' H' μ'->Fr B1 H2 B' H'->(∃ m',m'<m/\I m' μ')->∃ m',m'<m/\∃ ad' B' μ',Rl F ad' B' σ' H' μ'/\Fr B H B' H'/\I m' μ':=fun ad' B' σ' H' μ' l' f' ⟨m',hm,i'⟩=>⟨m',hm,ad',B',μ',l',(f1.trans f2).trans f',i'⟩;exact r F _ _ Xt ad1 B1 σ1 H2 μ2 hF l2 q2 ⟨hn,h.rt,fun ad' B' σ' H' μ' l' f' q'=>h.nx ad' B' σ' H' μ' l' ((f1.trans f2).trans f') q',hn⟩ (hX.step (f1.trans f2))
 |false =>
  rw[Ju Jw] at q2 ⊢;exact h.nx ad1 B1 σ1 H2 μ2 l2 (f1.trans f2) q2
end Y
noncomputable def xx(K:Oi)(mg:Str->Option Value)(x:Str)(f:Addr)(cdv:Value):Prop:=mg x=some (.ref f)/\∃(o:Obj) (fd:FuncData),K.lookup f=some o/\o.data=.func fd/\fd.code=cdv
theorem HasFn.FQ{N ps:List Str}{tsp:yg}(F:HasFn K mg x st ps)(S:aq N ps (aa st))(md:List Bool)(hmd:md.all (fun b=>!b)=true)(hm:md.length=ps.length)(hN:md.length<=N.length)
  (hbody:∀(args:List T) (Qt:R->List T->Prop) (Et:T->Prop),args.length=ps.length->tsp args Qt Et->∀(f:Addr) (cdv:Value) (A:Around) (outer:List Env) (s:Shared) (H:Hp) (E:XK),bM k (A.deeper (envOfC x (aa st) s.heap.objs.size f cdv))->xx K mg x f cdv ->
   ∃ us,yS (gY (sv P w) P w K mg base N x (aa st) f cdv A outer s H E) (aj st) us/\us (tV md Qt) (fun x _=>Et x) (startM md args N.length)):ae P w K mg base (sv P w) (k+1) x ps (yZ K md tsp):=by
 obtain⟨f,fd,F1,bnd,m⟩:=F.ex;obtain⟨oc,od,kV,doc,pm,an,cdv,ct,osl,rfl,lk,hcd⟩:=F1.ex;refine⟨f,_,m,F1.kp,bnd,A4 (CX:=sv P w) lk hcd S (fun vs H Q E h=>?_) (fun A outer s H vs Q E hr h=>?_)⟩
 ·obtain⟨Et,⟨B,args,Qt,ag,_⟩,_⟩:=h;rw[ag.len.1,hm]
 ·obtain⟨Et,⟨B,args,Qt,ag,bh,nd,ht,fin⟩,hE⟩:=h;obtain⟨us,⟨t,q,r⟩,hu⟩:=hbody args Qt Et (by rw[ag.len.2,hm]) ht f cdv A outer s H E hr ⟨m,_,_,lk,rfl,rfl⟩
  refine⟨t,q.h,?_⟩;have l0:=jf (N:=N) ag bh nd hN;have outs:∀ ad' B' σ' H' μ' (B2:bo),Rl (jT K H md vs B bh) ad' B' σ' H' μ'->(∀ b,B2 b->B' b)->Paired (Bx K H' B2) (jX md vs) (cL md 0 μ'):=fun ad' B' σ' H' μ' B2 l hB=>by
   refine lH (ag.len.1) fun n e=>?_;obtain⟨v,t',e1,e2,q⟩:=ag.get e;rw[Jy rfl] at q;obtain⟨a,rfl,_⟩:=q;obtain⟨⟨c,hc⟩,ha⟩:=l.par n a (lR e e1);have sl:=l.slot n _ hc;refine⟨a,c,e1,by rw[L0];exact hc,?_⟩
   rw[<- ha];exact (sl.2.2.2).of rfl (Fr.less hB)
  have keep:∀ ad' B' σ' H' μ',Rl (jT K H md vs B bh) ad' B' σ' H' μ'->∀ b o,H b=some o->b∉jX md vs->H' b=some o:=fun ad' B' σ' H' μ' l b o e n=>l.old b o e fun i z=>n (fR (gy z).1 (gy z).2);refine r (jT K H md vs B bh) _ _ (fun x _=>Et x) (mF vs) B (start N vs) H _ rfl l0 hu ⟨fun ad' B' σ' H' μ' l _ q=>?_,fun ad' B' σ' H' μ' v rr h q=>?_,fun _ _ _ _ _ _ _ z=>z.elim,fun _ _ _ _ _ _ _ z=>z.elim⟩ (fun ad' B' σ' H' μ' x cls d e l _ tr _ _ z=>xQ (hE x cls d e H' z (keep _ _ _ _ _ l) tr))
  ·exact fin .aJ H' (.tr .aJ) _ q (keep _ _ _ _ _ l) ⟨.aJ,outs _ _ _ _ _ _ l l.bc⟩
  ·cases rr with
   |tr t=>exact fin v H' (.tr t) _ q (keep _ _ _ _ _ h.1) ⟨(show Rep K H' B' v t from h.2).fr (Fr.less h.1.bc),outs _ _ _ _ _ _ h.1 h.1.bc⟩
   |fr c =>
    obtain⟨l,a,rfl,n,h0,l2,x⟩:=h;have sub:∀ b,more B a b->more B' a b:=fun b z=>z.imp id (l.bc b);exact fin _ H' (.fr c) _ q (keep _ _ _ _ _ l) ⟨a,rfl,h0,fun z=>n (l.bc a z),x.of rfl (Fr.less sub),outs _ _ _ _ _ _ l2 sub⟩
   |br i =>
    have q':(match μ'[i]? with|some (.bx c)=>Qt (.fr c) (cL md 0 μ')|_=>False):=q
    obtain⟨l,rfl,s',c',e1,e2⟩:=h
    split at q'
    ·rename_i c ec;have sl:=l.slot i _ ec;have sub:∀ b,more B (ad' i) b->B' b:=fun b z=>z.elim (fun z=>by rw[z];exact sl.2.1) (l.bc b)
     refine fin _ H' (.fr c) _ q' (keep _ _ _ _ _ l) ⟨ad' i,rfl,sl.2.2.1,fun z=>?_,(sl.2.2.2.2).of rfl (Fr.less sub),outs _ _ _ _ _ _ l sub⟩;obtain⟨o,e⟩:=bh _ z;have:H (ad' i)=none:=sl.2.2.1;rw[this] at e;cases e
    ·exact q'.elim
theorem HasFn.IS{ps:List Str}{tsp:yg}(F:HasFn K mg x st ps)(S:aq N ps (aa st))(md:List Bool)(hmd:md.all (fun b=>!b)=true)(hm:md.length=ps.length)(hN:md.length<=N.length)
  (hbody:∀(args:List T) (Qt:R->List T->Prop) (Et:T->Prop),args.length=ps.length->tsp args Qt Et->∀(f:Addr) (cdv:Value) (A:Around) (outer:List Env) (s:Shared) (H:Hp) (E:XK),bM k (A.deeper (envOfC x (aa st) s.heap.objs.size f cdv)) ->
   ∃ us,yS (gY (sv P w) P w K mg base N x (aa st) f cdv A outer s H E) (aj st) us/\us (tV md Qt) (fun x _=>Et x) (startM md args N.length)):ae P w K mg base (sv P w) (k+1) x ps (yZ K md tsp):=
 F.FQ S md hmd hm hN fun args Qt Et hl h f cdv A outer s H E hr _=>hbody args Qt Et hl h f cdv A outer s H E hr
section
variable {X:Cx} {pins pins':List (Addr×Obj)} {σ:St} {H:Hp} {s:Shared} {E:Value->Shared->Prop} {e:Addr}
end
namespace Y
end Y
abbrev UJ:=Mu->(Mu->Prop)->Prop
structure YJ (X:Cx) (vs:List Expr) (u:UJ):Prop where
 run:∀(F:Fx) (ad:Nat->Addr) (B:bo) (σ:St) (H:Hp) (μ:Mu) (Qt:Mu->Prop) (pins:List (Addr×Obj)) (s:Shared) (acc:Str) (k:Nat) (R:Str->Shared->Prop),F.K=X.K->Rl F ad B σ H μ->u μ Qt->Inv X pins σ H s->acc.length<=2000*k->k+vs.length<=20 ->
  (∀ H' μ' s' (out:Str),Rl F ad B σ H' μ'->Fr B H B H'->Kp μ μ'->Qt μ'->Inv X pins σ H' s'->out.length<=40000->R out s')->Joins (model X.prog X.w) X.A X.xe (evalEach vs X.env) acc R s
theorem fN(a b:Str):(a++b).length=a.length+b.length:=MU
theorem eV(h:n<=40000):n<=sizeLine:=JD h (by decide)
namespace Y
section
variable {X:Cx} {e:Expr} {vs:List Expr} {ue:UE} {u:UJ} {pos p:Pos}
theorem FU:YJ X [] (fun μ Q=>Q μ):=⟨fun F ad B σ H μ Qt pins s acc k R hF l q I ha hk h=>h H μ s acc l Fr.refl (Kp.refl μ) q I (by simp at hk;lia)⟩
theorem Cm{c:Str}{j:Nat}(h:YJ X vs u)(hc:autoParam (c.length<=2000) ℜ1)(he:autoParam (evalEach (.Constant (.str c) j p::vs) X.env=eval (.Constant (.str c) j p) X.env::evalEach vs X.env) ℜ0):YJ X (.Constant (.str c) j p::vs) u:=by
 refine⟨fun F ad B σ H μ Qt pins s acc k R hF l q I ha hk hR=>?_⟩;rw[he];refine cB ((Z.str (X:=X) (i:=c) (j:=j) (pos:=p)).h pins s σ H (fun v H1=>v=.str c/\H1=H) I ⟨rfl,rfl⟩) fun v s1 ⟨v',H1,I1,r1,e1,e2⟩=>?_;subst e1;subst e2;obtain⟨t,rfl⟩:=r1;have hl:(acc++c).length<=2000*(k+1):=by rw[fN];lia
 rw[J7] at hk;exact⟨c,t,rfl,eV (by lia),h.run F ad B σ H1 μ Qt pins s1 (acc++c) (k+1) R hF l q I1 hl (by lia) hR⟩
noncomputable def GD(ue:UE)(u:UJ):UJ:=fun μ Q=>ue μ fun r μ'=>match r with
 |.tr (.int i)=>i.natAbs<2^1900/\u μ' Q
 |_=>False
theorem GR(he:YE X e ue)(h:YJ X vs u)(hev:autoParam (evalEach (.FormattedValue e (-1) none p::vs) X.env=eval (.FormattedValue e (-1) none p) X.env::evalEach vs X.env) ℜ0):YJ X (.FormattedValue e (-1) none p::vs) (GD ue u):=by
 obtain⟨t,qe,r⟩:=he;refine⟨fun F ad B σ H μ Qt pins s acc k R hF l q I ha hk hR=>?_⟩;rw[hev];refine wpAny_FormattedValue_plain ?_;refine cB (qe.h pins s σ H (fun v H1=>∃ r1 μ1,Vr F ad B σ H1 μ1 v r1/\Fr B H (Bv B v r1) H1/\Kp μ μ1/\(match r1 with
  |.tr (.int i)=>i.natAbs<2^1900/\u μ1 Qt
  |_=>False)) I (r F ad B σ H μ _ _ hF l q fun v H1 r1 μ1 w f k1 q1=>⟨r1,μ1,w,f,k1,q1⟩)) fun v s1 ⟨v',H1,I1,rv,r1,μ1,w,f,k1,q1⟩=>?_
 split at q1
 ·rename_i i;obtain⟨l1,rp⟩:=w;cases rp;obtain⟨t',rfl⟩:=rv;obtain⟨hi,q1⟩:=q1;have hlog:i.natAbs.log2<1920:=by
   by_cases z:i.natAbs=0
   ·rw[z];decide
   ·exact (N9 z).mpr (JO hi (Ls (by decide) (by decide)))
  have hlen:(Str.ofString (toString i)).length<=1921:=by
   have:=int_text_length_le (k:=1920) (by decide) hlog
   rw[PySem.ofString_length];exact this
  refine wpAny_formatField_int hlog ⟨_,_,rfl,?_,?_⟩
  ·rw[fN];exact eV (by rw[J7] at hk;lia)
  ·rw[J7] at hk;exact h.run F ad B σ H1 μ1 Qt pins _ (acc++Str.ofString (toString i)) (k+1) R hF l1 q1 (I1.tok _) (by rw[fN];lia) (by lia) fun H' μ' s' out l' f' k'=>hR H' μ' s' out l' (f.trans f') (k1.trans k')
 ·exact q1.elim
noncomputable def Gv(u:UJ):UE:=fun μ Q=>u μ fun μ'=>∀ z:Str,z.length<=40000->Q (.tr (.str z)) μ'
theorem FK{v1 v2:Expr}{rest:List Expr}(h:YJ X (v1::v2::rest) u)(hn:autoParam ((v1::v2::rest).length<=20) ℜ1):YE X (.JoinedStr (v1::v2::rest) pos) (Gv u):=by
 refine⟨fun σ H Q=>∀ pins s,Inv X pins σ H s->wpAny (model X.prog X.w) X.A (eval (.JoinedStr (v1::v2::rest) pos) X.env) (EP X pins σ Q) X.xe s,⟨fun pins s σ H Q I h=>h pins s I⟩,?_⟩;intro F ad B σ H μ Q Qt hF l q k pins s I;refine wpAny_JoinedStr (h.run F ad B σ H μ _ pins s Str.empty 0 _ hF l q I (by decide) (by rw[L0];exact hn) fun H' μ' s' out l' f' k' q' I' ho=>⟨eV ho,?_⟩)
 exact⟨.str out,H',I'.tok _,⟨_,rfl⟩,k _ H' (.tr (.str out)) μ' ⟨l',.str out⟩ f' k' (q' out ho)⟩
end
end Y
namespace A
theorem GD(ue:UE)(u:UJ)(μ:Mu)(Q:Mu->Prop):Y.GD ue u μ Q=ue μ fun r μ'=>match r with
 |.tr (.int i)=>i.natAbs<2^1900/\u μ' Q
 |_=>False:=rfl
theorem Gv(u:UJ)(μ:Mu)(Q:R->Mu->Prop):Y.Gv u μ Q=u μ fun μ'=>∀ z:Str,z.length<=40000->Q (.tr (.str z)) μ':=rfl
theorem Ae(ux:UX)(E:Ed)(Xt:Xw)(μ:Mu):Y.Ae ux E Xt μ=ux μ E.rt Xt:=rfl
theorem GG(c:UT)(u w:pG)(E:Ed)(Xt:Xw)(μ:Mu):Y.GG c u w E Xt μ=c μ fun b μ'=>if b=true then u E Xt μ' else w E Xt μ':=rfl
theorem Gz(u:U2)(ux:UX)(ub:UE)(μ:Mu)(Q:R->Mu->Prop)(Xt:Xw):Y.Gz u ux ub μ Q Xt=ux μ (fun r1 μ1=>ub μ1 fun r2 μ2=>u r1.d r2.d μ2 Q) Xt:=rfl
theorem GP(md:List Bool)(tsp:yg)(us:UA)(μ:Mu)(Q:R->Mu->Prop)(Xt:Xw):Y.GP md tsp us μ Q Xt=us μ fun rs μ1=>match v9 μ1 md rs with
 |some args=>(h8 md rs).Nodup/\(∀ j∈h8 md rs,j∉iA md rs)/\tsp args (fun r outs=>(iA md rs=[]\/(fc r=true/\outs.all gX=true))/\Q r (putAll (h8 md rs) outs μ1)) (fun cls=>Xt cls μ1)
 |none=>False:=rfl
theorem mw(C:Addr)(us:UA)(E:Ed)(Xt:Xw)(μ:Mu):Y.mw C us E Xt μ=us μ fun rs μ'=>rs.length<=10/\Xt (.exc (.ref C) none) μ':=rfl
end A
theorem jA{u w:pG}{E:Ed}{Xt:Xw}(h:∀ N,N=w E Xt->u {E with nx:=N} Xt μ):Y.FL u w E Xt μ:=h _ rfl
namespace Y
noncomputable def fF(t:T)(xs:List T):Bool:=xs.any fun y=>Bp y t
theorem qY{x:V}{t:T}(h:Rep K H B x t)(f:aR t=true):∀{ys:List V} {us:List T},au K H B ys us->us.all aR=true->dP x=true/\ys.all dP=true/\G5 x ys=fF t us
 |_,_,.nil,_=>by
  refine⟨?_,rfl,rfl⟩
  cases h<;>first|rfl|cases f
 |_,_,.cons h2 r,f2=>by
  rw[Kv,Kl] at f2;obtain⟨a1,a2,a3⟩:=qY h f r f2.2;obtain⟨b1,b2,b3⟩:=u3 h2 h f2.1 f;refine⟨a1,by rw[Kv,b1,a2];rfl,?_⟩
  unfold G5 fF at a3 ⊢;rw[MM,MM,b3,a3]
noncomputable def Fg(K:Oi)(neg:Bool):R2:=fun x y H Q=>IJ K neg x y H Q\/∃ i j,x=.str i/\y=.str j/\Q (.bl (if neg then !(!(Builtin.Str.occurrences j i 0 j.length 1).isEmpty) else !(Builtin.Str.occurrences j i 0 j.length 1).isEmpty)) H
theorem mQ(K:Oi)(hK:X.K=K):dm X (compareOp .In) (Fg K false):=by subst hK;exact sO.or sE
noncomputable def IM(i j:Str):Bool:=!(Builtin.Str.occurrences j i 0 j.length 1).isEmpty
noncomputable def GK(neg:Bool):T->T->Mu->(R->Mu->Prop)->Prop:=fun t u μ Q=>match u with
 |.tup xs=>aR t=true/\xs.all aR=true/\Q (.tr (.bl (if neg then !fF t xs else fF t xs))) μ
 |.lst xs=>aR t=true/\xs.all aR=true/\Q (.tr (.bl (if neg then !fF t xs else fF t xs))) μ
 |.d_ xs=>aR t=true/\xs.all aR=true/\Q (.tr (.bl (if neg then !fF t xs else fF t xs))) μ
 |.str j=>(match t with|.str i=>Q (.tr (.bl (if neg then !IM i j else IM i j))) μ|_=>False)
 |_=>False
theorem Vw.fc{v:V}{t:T}(h:Vw K H B v t)(f:aR t=true):Rep K H B v t:=by
 cases h with
 |aJ=>exact .aJ
 |bl b=>exact .bl b
 |int i=>exact .int i
 |str x=>exact .str x
 |tup=>cases f
 |d_=>cases f
 |lst=>cases f
 |eU=>cases f
 |fh=>cases f
 |mU=>cases f
 |exc=>cases f
 |yy=>cases f
theorem rA{neg:Bool}:gL K (Fg K neg) (oA (GK neg)):=e9 fun F ad B σ H μ Q Qt x y t u hK l v1 v2 q k=>by
 subst hK;unfold GK at q
 split at q
 ·obtain⟨f1,f2,q⟩:=q
  cases v2 with
  |tup ha ra =>
   obtain⟨a1,a2,a3⟩:=qY (Vw.fc v1 f1) f1 ra f2;exact .inl ⟨_,_,rfl,.inr (cD.of ha),a1,a2,by rw[a3];exact k _ H _ (Vr.flat l (.bl _)) Fr.refl q⟩
 ·obtain⟨f1,f2,q⟩:=q
  cases v2 with
  |lst ha ra =>
   obtain⟨a1,a2,a3⟩:=qY (Vw.fc v1 f1) f1 ra f2;exact .inl ⟨_,_,rfl,.inl (cJ.of ha),a1,a2,by rw[a3];exact k _ H _ (Vr.flat l (.bl _)) Fr.refl q⟩
 ·obtain⟨f1,f2,q⟩:=q
  cases v2 with
  |d_ ha ra =>
   obtain⟨a1,a2,a3⟩:=qY (Vw.fc v1 f1) f1 ra f2;exact .inl ⟨_,_,rfl,.inr (.inr ha),a1,a2,by rw[a3];exact k _ H _ (Vr.flat l (.bl _)) Fr.refl q⟩
 ·split at q
  ·cases v1;cases v2
   exact .inr ⟨_,_,rfl,rfl,k _ H _ (Vr.flat l (.bl _)) Fr.refl q⟩
  ·exact q.elim
 ·exact q.elim
end Y
namespace A
theorem HJ(neg:Bool)(t:T)(xs:List T)(μ:Mu)(Q:R->Mu->Prop):Y.GK neg t (.tup xs) μ Q=(aR t=true/\xs.all aR=true/\Q (.tr (.bl (if neg then !Y.fF t xs else Y.fF t xs))) μ):=rfl
theorem Hx(neg:Bool)(t:T)(xs:List T)(μ:Mu)(Q:R->Mu->Prop):Y.GK neg t (.d_ xs) μ Q=(aR t=true/\xs.all aR=true/\Q (.tr (.bl (if neg then !Y.fF t xs else Y.fF t xs))) μ):=rfl
end A
noncomputable def iM(n m:Nat)(e:Nat->Bool):Bool:=(List.range (min n m)).all e && n == m
inductive k_:Nat->T->T->Bool->Prop
 |flat {n:Nat} {t u:T} (f1:aR t=true) (f2:aR u=true):k_ n t u (Y.Bp t u)
 |tup {n:Nat} {xs ys:List T} (e:Nat->Bool) (h:∀(j:Nat) (x y:T),xs[j]?=some x->ys[j]?=some y->k_ n x y (e j)):k_ (n+1) (.tup xs) (.tup ys) (iM xs.length ys.length e)
 |lst {n:Nat} {xs ys:List T} (e:Nat->Bool) (h:∀(j:Nat) (x y:T),xs[j]?=some x->ys[j]?=some y->k_ n x y (e j)):k_ (n+1) (.lst xs) (.lst ys) (iM xs.length ys.length e)
theorem uz{t u:T}{v:V}(h1:Rep K H B v t)(h2:Rep K H B v u)(f1:aR t=true)(f2:aR u=true):Y.Bp t u=true:=by
 cases h1<;>first | (cases f1;done) | (cases h2<;>first | (cases f2;done)|simp[Y.Bp])
theorem fQ{m:Nat}{e:Nat->Bool}(h:n=m)(h2:∀ j,j<n->e j=true):iM n m e=true:=by
 subst h;unfold iM;rw[KQ,Kq,Mh,Kx];intro j hj;exact h2 j (by simpa using hj)
theorem k_.same{t u:T}{b:Bool}(d:k_ n t u b):∀{K:Oi} {H:Hp} {B:bo} {v:V},Rep K H B v t->Rep K H B v u->b=true:=by
 induction d with
 |flat f1 f2=>exact fun h1 h2=>uz h1 h2 f1 f2
 |tup e h ih =>
  rename_i nn xs ys;intro K H B v h1 h2
  cases h1 with
  |tup n1 a1 r1=>cases h2 with
   |tup n2 a2 r2 =>
    rw[a1] at a2;cases a2;refine fQ (r1.length.symm.trans r2.length) fun j hj=>?_;have hx:=Jq hj;have hj2:j<ys.length:=by rw[<- r2.length,r1.length];exact hj
    have hy:=Jq hj2;obtain⟨v1,g1,p1⟩:=r1.get hx;obtain⟨v2,g2,p2⟩:=r2.get hy;rw[g1] at g2;cases g2;exact ih j _ _ hx hy p1 p2
 |lst e h ih =>
  rename_i nn xs ys;intro K H B v h1 h2
  cases h1 with
  |lst n1 a1 r1=>cases h2 with
   |lst n2 a2 r2 =>
    rw[a1] at a2;cases a2;refine fQ (r1.length.symm.trans r2.length) fun j hj=>?_;have hx:=Jq hj;have hj2:j<ys.length:=by rw[<- r2.length,r1.length];exact hj
    have hy:=Jq hj2;obtain⟨v1,g1,p1⟩:=r1.get hx;obtain⟨v2,g2,p2⟩:=r2.get hy;rw[g1] at g2;cases g2;exact ih j _ _ hx hy p1 p2
section
variable {X:Cx} {pins:List (Addr×Obj)} {σ:St} {H:Hp} {s:Shared} {B:bo}
theorem eG{n:Nat}{xs ys:List T}{e:Nat->Bool}(r1:au X.K H B vs xs)(r2:au X.K H B ws ys)(g1:Vals vs its)(g2:Vals ws its2)
  (ih:∀(j:Nat) (x y:T),xs[j]?=some x->ys[j]?=some y->∀(v w:V) (a b:Value),Rep X.K H B v x->Rep X.K H B w y->RelV v a->RelV w b->SeqAt.EqAt A s a b (e j)) :
  ∀ j (h1:j<its.toArray.size) (h2:j<its2.toArray.size),SeqAt.EqAt A s its.toArray[j] its2.toArray[j] (e j):=by
 intro j h1 h2;have l1:=g1.length;have l2:=g2.length;have l3:=r1.length;have l4:=r2.length;rw[Jv] at h1 h2;have hx:=Jq (show j<xs.length by lia)
 have hy:=Jq (show j<ys.length by lia)
 obtain⟨v1,q1,p1⟩:=r1.get hx;obtain⟨v2,q2,p2⟩:=r2.get hy;obtain⟨u1,e1,f1⟩:=g1.get q1;obtain⟨u2,e2,f2⟩:=g2.get q2;have z1:its.toArray[j]=u1:=by
  rw[Jq h1] at e1;simpa using e1
 have z2:its2.toArray[j]=u2:=by
  rw[Jq h2] at e2;simpa using e2
 rw[z1,z2];exact ih j _ _ hx hy v1 v2 u1 u2 p1 p2 f1 f2
theorem eF{xs ys:List T}(e:Nat->Bool)(r1:au X.K H B vs xs)(r2:au X.K H B ws ys)(g1:Vals vs its)(g2:Vals ws its2):((List.range (min its.toArray.size its2.toArray.size)).all e && its.toArray.size == its2.toArray.size)=iM xs.length ys.length e:=by
 have l1:=g1.length;have l2:=g2.length;have l3:=r1.length;have l4:=r2.length;unfold iM;rw[Jv,Jv,<- l1,<- l2,l3,l4]
theorem xm{n:Nat}{t u:T}{b:Bool}(d:k_ n t u b):∀(I:Inv X pins σ H s) {A:Around} (hu:A.units+n<cLine) (v w:V) (a c:Value),Rep X.K H B v t->Rep X.K H B w u->RelV v a->RelV w c->SeqAt.EqAt A s a c b:=by
 induction d with
 |flat f1 f2 =>
  intro I A hu v w a c h1 h2 r1 r2;obtain⟨z1,z2,z3⟩:=Y.u3 h1 h2 f1 f2;rw[<- z3];exact lK r1 r2 z1 z2
 |tup e h ih =>
  intro I A hu v w a c h1 h2 r1 r2;rename_i n xs ys;have h1':=h1;have h2':=h2
  cases h1 with
  |tup n1 a1 q1=>cases h2 with
   |tup n2 a2 q2 =>
    rename_i p1 vs p2 ws
    cases r1;cases r2
    by_cases z:p1=p2
    ·subst z;rw[(k_.tup (n:=n) e h).same h1' h2'];exact SeqAt.EqAt.same _
    ·obtain⟨its,g1,pl1,_⟩:=I.tuple (cD.of a1);obtain⟨its2,g2,pl2,_⟩:=I.tuple (cD.of a2);rw[<- eF (X:=X) e q1 q2 g1 g2];exact MH z (SeqAt.RcAt.tuples pl1 pl2 (by lia) (eG (n:=n) q1 q2 g1 g2 fun j x y hx hy v w a c=>ih j x y hx hy I (A:=A.in1) (by show A.units+1+n<cLine;lia) v w a c))
 |lst e h ih =>
  intro I A hu v w a c h1 h2 r1 r2;rename_i n xs ys;have h1':=h1;have h2':=h2
  cases h1 with
  |lst n1 a1 q1=>cases h2 with
   |lst n2 a2 q2 =>
    rename_i p1 vs p2 ws
    cases r1;cases r2
    by_cases z:p1=p2
    ·subst z;rw[(k_.lst (n:=n) e h).same h1' h2'];exact SeqAt.EqAt.same _
    ·obtain⟨its,g1,pl1,_⟩:=I.list (cJ.of a1);obtain⟨its2,g2,pl2,_⟩:=I.list (cJ.of a2);have sz:=eF (X:=X) e q1 q2 g1 g2;rw[<- sz];by_cases hs:its.toArray.size=its2.toArray.size
     ·rw[hs,KQ,Kq,Mh,<- hs];exact MH z (SeqAt.RcAt.lists pl1.isList pl2.isList hs (by lia) (eG (n:=n) q1 q2 g1 g2 fun j x y hx hy v w a c=>ih j x y hx hy I (A:=A.in1) (by show A.units+1+n<cLine;lia) v w a c))
     ·rw[Kk.mpr hs,NQ];exact MH z (SeqAt.RcAt.lists_lengths pl1.isList pl2.isList (MX.mpr hs) (by lia))
end
namespace Y
noncomputable def yG(K:Oi)(n:Nat)(neg:Bool):R2:=fun x y H Q=>∃(B:bo) (a b:Addr) (vs ws:List V) (xs ys:List T) (e:Nat->Bool),x=.ref a/\y=.ref b/\((cD K H a vs/\cD K H b ws)\/(cJ K H a vs/\cJ K H b ws))/\au K H B vs xs/\au K H B ws ys /\
 (∀(j:Nat) (x y:T),xs[j]?=some x->ys[j]?=some y->k_ n x y (e j))/\Q (.bl (if neg then !iM xs.length ys.length e else iM xs.length ys.length e)) H
theorem yP{X:Cx}{n:Nat}(hu:X.A.units+n+1<cLine):dm X (compareOp .Eq) (yG X.K n false):=by
 intro pins s σ H x y v u Q I rx ry h;obtain⟨B,a,b,vs,ws,xs,ys,e,rfl,rfl,hq,r1,r2,ih,q⟩:=h
 cases rx;cases ry
 have it:∀(j:Nat) (x y:T),xs[j]?=some x->ys[j]?=some y->∀(v w:V) (a b:Value),Rep X.K H B v x->Rep X.K H B w y->RelV v a->RelV w b->SeqAt.EqAt X.A.in1 s a b (e j):=fun j x y hx hy v w a c=>xm (ih j x y hx hy) I (A:=X.A.in1) (by show X.A.units+1+n<cLine;lia) v w a c
 rcases hq with ⟨ha,hb⟩|⟨ha,hb⟩
 ·obtain⟨its,g1,p1,_⟩:=I.tuple ha;obtain⟨its2,g2,p2,_⟩:=I.tuple hb;refine SeqAt.eq_tupleAt p1 p2 (by lia) (eG (n:=n) r1 r2 g1 g2 it) ⟨.bl _,H,I,rfl,?_⟩
  rw[eF (X:=X) e r1 r2 g1 g2];exact q
 ·obtain⟨its,g1,p1,_⟩:=I.list ha;obtain⟨its2,g2,p2,_⟩:=I.list hb;have sz:=eF (X:=X) e r1 r2 g1 g2;by_cases hs:its.toArray.size=its2.toArray.size
  ·rw[hs,KQ,Kq,Mh,<- hs] at sz;refine SeqAt.eq_listAt p1.isList p2.isList hs (by lia) (eG (n:=n) r1 r2 g1 g2 it) ⟨.bl _,H,I,rfl,?_⟩
   rw[sz];exact q
  ·rw[Kk.mpr hs,NQ] at sz;refine Nu p1.isList p2.isList (MX.mpr hs) (by lia) ⟨.bl _,H,I,rfl,?_⟩
   rw[sz];exact q
theorem zT{X:Cx}{n:Nat}(hu:X.A.units+n+1<cLine):dm X (compareOp .NotEq) (yG X.K n true):=by
 intro pins s σ H x y v u Q I rx ry h;obtain⟨B,a,b,vs,ws,xs,ys,e,rfl,rfl,hq,r1,r2,ih,q⟩:=h
 cases rx;cases ry
 have it:∀(j:Nat) (x y:T),xs[j]?=some x->ys[j]?=some y->∀(v w:V) (a b:Value),Rep X.K H B v x->Rep X.K H B w y->RelV v a->RelV w b->SeqAt.EqAt X.A.in1 s a b (e j):=fun j x y hx hy v w a c=>xm (ih j x y hx hy) I (A:=X.A.in1) (by show X.A.units+1+n<cLine;lia) v w a c
 rcases hq with ⟨ha,hb⟩|⟨ha,hb⟩
 ·obtain⟨its,g1,p1,_⟩:=I.tuple ha;obtain⟨its2,g2,p2,_⟩:=I.tuple hb;refine SeqAt.RcNeAt.tuples p1 p2 (by lia) (eG (n:=n) r1 r2 g1 g2 it) X.prog X.w X.xe _ ⟨.bl _,H,I,rfl,?_⟩
  rw[eF (X:=X) e r1 r2 g1 g2];exact q
 ·obtain⟨its,g1,p1,_⟩:=I.list ha;obtain⟨its2,g2,p2,_⟩:=I.list hb;have sz:=eF (X:=X) e r1 r2 g1 g2;by_cases hs:its.toArray.size=its2.toArray.size
  ·rw[hs,KQ,Kq,Mh,<- hs] at sz;refine SeqAt.RcNeAt.lists p1.isList p2.isList hs (by lia) (eG (n:=n) r1 r2 g1 g2 it) X.prog X.w X.xe _ ⟨.bl _,H,I,rfl,?_⟩
   rw[sz];exact q
  ·rw[Kk.mpr hs,NQ] at sz;refine MQ p1.isList p2.isList (MX.mpr hs) (by lia) X.prog X.w X.xe _ ⟨.bl true,H,I,rfl,?_⟩
   have q2:=q;rw[<- sz] at q2;exact q2
end Y
namespace Y
end Y
theorem pT(hr:bM k A):A.units+4+1<cLine:=JJ (Nat.add_le_add_left (by decide:4+1<=64) _) hr.units
namespace Y
noncomputable def Fb(K:Oi):R2:=fun x y H Q=>Co K x y H Q\/yG K 4 false x y H Q
theorem Cn(K:Oi)(hK:X.K=K)(hu:X.A.units+4+1<cLine):dm X (compareOp .Eq) (Fb K):=by subst hK;exact (cK X.K rfl (by lia)).or (yP hu)
noncomputable def Gp(K:Oi):R2:=fun x y H Q=>Dj K x y H Q\/yG K 4 true x y H Q
theorem x5(K:Oi)(hK:X.K=K)(hu:X.A.units+4+1<cLine):dm X (compareOp .NotEq) (Gp K):=by subst hK;exact (wO X.K rfl (by lia)).or (zT hu)
noncomputable def ja(xs ys:List T)(neg:Bool)(μ:Mu)(Q:R->Mu->Prop):Prop:=∃ e:Nat->Bool,(∀(j:Nat) (x y:T),xs[j]?=some x->ys[j]?=some y->k_ 4 x y (e j))/\Q (.tr (.bl (if neg then !iM xs.length ys.length e else iM xs.length ys.length e))) μ
noncomputable def CB:T->T->Mu->(R->Mu->Prop)->Prop:=fun t u μ Q=>match t,u with
 |.tup xs,.tup ys=>ja xs ys false μ Q
 |.lst xs,.lst ys=>ja xs ys false μ Q
 |t,u=>DJ false t u μ Q
noncomputable def zI:T->T->Mu->(R->Mu->Prop)->Prop:=fun t u μ Q=>match t,u with
 |.tup xs,.tup ys=>ja xs ys true μ Q
 |.lst xs,.lst ys=>ja xs ys true μ Q
 |t,u=>EG t u μ Q
theorem Cf:gL K (Fb K) (oA CB):=e9 fun F ad B σ H μ Q Qt x y t u hK l v1 v2 q k=>by
 unfold CB at q
 split at q
 ·obtain⟨e,h,q⟩:=q;subst hK
  cases v1 with
  |tup ha ra=>cases v2 with
   |tup hb rb=>exact .inr ⟨B,_,_,_,_,_,_,e,rfl,rfl,.inl ⟨cD.of ha,cD.of hb⟩,ra,rb,h,k _ H _ (Vr.flat l (.bl _)) Fr.refl q⟩
 ·obtain⟨e,h,q⟩:=q;subst hK
  cases v1 with
  |lst ha ra=>cases v2 with
   |lst hb rb=>exact .inr ⟨B,_,_,_,_,_,_,e,rfl,rfl,.inr ⟨cJ.of ha,cJ.of hb⟩,ra,rb,h,k _ H _ (Vr.flat l (.bl _)) Fr.refl q⟩
 ·subst hK;unfold DJ at q
  split at q
  ·cases v1;cases v2
   refine .inl (.inl ⟨rfl,?_⟩);rw[dV (f:=V.int) (fun a b h=>by injection h)]
   exact k _ H _ (Vr.flat l (.bl _)) Fr.refl q
  ·cases v1;cases v2
   refine .inl (.inl ⟨rfl,?_⟩);rw[dV (f:=V.str) (fun a b h=>by injection h)]
   exact k _ H _ (Vr.flat l (.bl _)) Fr.refl q
  ·cases v1;cases v2
   refine .inl (.inl ⟨rfl,?_⟩);rw[dV (f:=V.bl) (fun a b h=>by injection h)]
   exact k _ H _ (Vr.flat l (.bl _)) Fr.refl q
  ·exfalso;simp_all
  ·exfalso;simp_all
  ·exact q.elim
theorem wB:gL K (Gp K) (oA zI):=e9 fun F ad B σ H μ Q Qt x y t u hK l v1 v2 q k=>by
 unfold zI at q
 split at q
 ·obtain⟨e,h,q⟩:=q;subst hK
  cases v1 with
  |tup ha ra=>cases v2 with
   |tup hb rb=>exact .inr ⟨B,_,_,_,_,_,_,e,rfl,rfl,.inl ⟨cD.of ha,cD.of hb⟩,ra,rb,h,k _ H _ (Vr.flat l (.bl _)) Fr.refl q⟩
 ·obtain⟨e,h,q⟩:=q;subst hK
  cases v1 with
  |lst ha ra=>cases v2 with
   |lst hb rb=>exact .inr ⟨B,_,_,_,_,_,_,e,rfl,rfl,.inr ⟨cJ.of ha,cJ.of hb⟩,ra,rb,h,k _ H _ (Vr.flat l (.bl _)) Fr.refl q⟩
 ·subst hK;unfold EG at q
  split at q
  ·cases v1;cases v2
   refine .inl (.inl ⟨rfl,?_⟩);rw[dV (f:=V.int) (fun a b h=>by injection h)]
   exact k _ H _ (Vr.flat l (.bl _)) Fr.refl q
  ·cases v1;cases v2
   refine .inl (.inl ⟨rfl,?_⟩);rw[dV (f:=V.str) (fun a b h=>by injection h)]
   exact k _ H _ (Vr.flat l (.bl _)) Fr.refl q
  ·cases v1;cases v2
   refine .inl (.inl ⟨rfl,?_⟩);rw[dV (f:=V.bl) (fun a b h=>by injection h)]
   exact k _ H _ (Vr.flat l (.bl _)) Fr.refl q
  ·exfalso;simp_all
  ·exfalso;simp_all
  ·exact q.elim
end Y
namespace A
theorem FI(xs ys:List T)(μ:Mu)(Q:R->Mu->Prop):Y.CB (.tup xs) (.tup ys) μ Q=Y.ja xs ys false μ Q:=rfl
theorem EV(xs ys:List T)(μ:Mu)(Q:R->Mu->Prop):Y.zI (.lst xs) (.lst ys) μ Q=Y.ja xs ys true μ Q:=rfl
theorem Gq(i j:Int)(μ:Mu)(Q:R->Mu->Prop):Y.zI (.int i) (.int j) μ Q=Q (.tr (.bl (!decide (i=j)))) μ:=rfl
end A
namespace Y
end Y
namespace A
end A
section
variable {prog:Program} {w:World} {A:Around} {E:Value->Shared->Prop} {s:Shared} {K:Oi} {x C:Addr} {ox:Obj}
end
section
variable {X:Cx}
end
namespace Y
section
variable {X:Cx} {a:Expr} {es:List Expr} {ua:UE} {pos p p3:Pos} {x:Str}
end
end Y
section
variable {X:Cx} {pins:List (Addr×Obj)} {σ:St} {H:Hp} {s:Shared}
end
namespace Y
end Y
namespace A
end A
section
variable {prog:Program} {w:World} {A:Around} {E:Value->Shared->Prop} {s:Shared} {K:Oi} {x C:Addr} {ox:Obj} {od:Option Obj}
end
section
variable {prog:Program} {w:World} {A:Around} {E:Value->Shared->Prop} {s:Shared} {K:Oi} {C S f:Addr} {name:Str}
end
section
variable {fs ex:List Addr} {H:Hp} {h h':Heap} {e d:Addr} {φ ψ:Heap->Prop}
end
section
variable {X:Cx} {C S f:Addr} {name:Str}
end
section
variable {X:Cx} {pins:List (Addr×Obj)} {σ:St} {H:Hp} {s:Shared} {C S f:Addr} {name:Str}
end
section
variable {X:Cx} {C S f:Addr} {name:Str}
end
namespace Y
section
variable {X:Cx} {C S f:Addr} {name x:Str} {e:Expr} {ue:UE} {p pos cpos:Pos}
end
end Y
section
variable {X:Cx}
end
namespace Y
section
variable {X:Cx} {a:Expr} {es:List Expr} {ua:UE} {pos p p3:Pos} {x:Str}
end
end Y
namespace A
end A
theorem je{k:Str}{t t':Tok}{prog:Program}{w:World}{A:Around}{E:Value->Shared->Prop}{Q:Option Fin×Unit->Shared->Prop}(hit:items[j]?=some (.str k t'))(hno:∀ m,m<j->∃ y ty,items[m]?=some (.str y ty)/\y≠k):∀(m i c:Nat) (s:Shared),i+m=j->m<c->Q (some (.done (.ret (.int (j:Nat) s.toks))),()) {s with toks:=s.toks+1} ->
  wpAny (model prog w) A (forIn (List.range' i c) ((none,()):Option Fin×Unit) fun i __s=>match items[i]? with
      |some y=>do
       let __do_lift <- eqBool y (Value.str k t)
       if __do_lift=true then do
         let __do_lift <- retInt (i:Nat)
         pure (ForInStep.done (some __do_lift,()))
        else pure (ForInStep.yield (none,()))
      |x=>pure (ForInStep.yield (none,()))) Q E s:=by
 intro m
 induction m with
 |zero =>
  intro i c s e hc h
  cases c with
  |zero=>exact absurd hc (N1 _)
  |succ c =>
   obtain rfl:i=j:=e;rw[K6,LP];simp only[hit];refine Jp (Jp (Nd ?_));rw[Kj rfl]
   wp_walk
   exact h
 |succ m ih =>
  intro i c s e hc h
  cases c with
  |zero=>exact absurd hc (N1 _)
  |succ c =>
   obtain⟨y,ty,hy,ne⟩:=hno i (by lia)
   rw[K6,LP];simp only[hy];refine Jp (Jp (Nd ?_));rw[JL ne];exact Jx (ih (i+1) c s (by lia) (by lia) h)
theorem t8{n:Nat}{dd:Option Addr}{sl:Array (Option Value)}{k:Str}{t t':Tok}(hit:items[j]?=some (.str k t'))(hno:∀ m,m<j->∃ y ty,items[m]?=some (.str y ty)/\y≠k):
  Meets (Builtin.«tuple.index» ⟨[.ref p,.str k t],[]⟩) (fun A R s=>s.heap.get? p=some {cls:=.type "tuple",dict:=dd,data:=.seq items n,slots:=sl}/\R (.ok (.ret (.int (j:Nat) s.toks))) {s with toks:=s.toks+1}):=by
 intro prog w A R s h;obtain⟨hp,g,d,tk,os⟩:=s;obtain⟨ho,h⟩:=h;unfold Builtin.«tuple.index»;simp only[Std.Legacy.Range.forIn_eq_forIn_range'];wp_walk using Mx ho;have hj:j<items.size:=by
  rcases Ks j items.size with z|z
  ·exact z
  ·rw[MR.mpr z] at hit;cases hit
 refine je hit hno j 0 _ _ (L0 _) ?_ ?_
 ·simp[Std.Legacy.Range.size];exact hj
 ·exact Jx h
noncomputable def HM(K:Oi):V->List V->Hp->VK->Prop:=fun x vs H Q=>∃(a:Addr) (ws:List Str) (k:Str) (j:Nat),x=.ref a/\cD K H a (ws.map V.str)/\vs=[.str k]/\ws[j]?=some k/\(∀ m,m<j->ws[m]?≠some k)/\Q (.int (j:Nat)) H
theorem gG:∀{ws:List Str} {its:List Value},Vals (ws.map V.str) its->∀(m:Nat) (y:Str),ws[m]?=some y->∃ t,its[m]?=some (.str y t):=fun r m y e=>by
 obtain⟨u,h1,h2⟩:=r.get (i:=m) (x:=V.str y) (by rw[J9,e];rfl)
 obtain⟨t,rfl⟩:=(show RelV (.str y) u from h2);exact⟨t,h1⟩
theorem Di:qX X "tuple.index" (HM X.K):=by
 intro pins s σ H x xs v us Q I rx rs h;obtain⟨a,ws,k,j,rfl,hq,rfl,hj,hno,q⟩:=h;obtain rfl:v=Value.ref a:=rx;obtain⟨u,rfl,t,rfl⟩:=vals1 rs;obtain⟨its,r,pl,hz⟩:=I.tuple hq;obtain⟨⟨oc,od,oda,osl⟩,ho,hc,n,hd⟩:=id pl;obtain rfl:oc=.type "tuple":=hc;obtain rfl:oda=.seq its.toArray n:=hd;obtain⟨t',hit⟩:=gG r j k hj;refine KI PySem.F.slot_tuple_index ⟨_,ho,rfl⟩ PySem.F.entry_tuple_index (PySem.F.args_tuple_index_2 _ _) (t8 (j:=j) (t':=t') (by rw[K3];exact hit) fun m hm=>?_) ⟨ho,⟨.int (j:Nat),H,I.tok _,⟨_,rfl⟩,q⟩⟩
 have hl:m<ws.length:=Oe hm (Jz.mp hj).1;have e:=Jq hl;obtain⟨ty,hy⟩:=gG r m _ e;exact⟨_,ty,by rw[K3];exact hy,fun z=>hno m hm (by rw[e,z])⟩
namespace Y
end Y
namespace A
end A
open Builtin Builtin.Str
namespace Y
noncomputable def wD:UC:=fun rs μ Q=>match rs with
 |[.tr (.int i)]=>i.natAbs.log2<1920/\Q (.tr (.str (toString i))) μ
 |[.tr (.str z)]=>Q (.tr (.str z)) μ
 |_=>False
theorem C7:RC K EX wD:=by
 intro F ad B σ H μ Q Qt xs rs hK l p q k;unfold wD at q
 split at q
 ·cases p with
  |cons h1 p=>cases p;cases bP h1;exact⟨q.1,k _ H _ μ (Vr.flat l (.str _)) Fr.refl (Kp.refl μ) q.2⟩
 ·cases p with
  |cons h1 p=>cases p;cases bP h1;exact k _ H _ μ (Vr.flat l (.str _)) Fr.refl (Kp.refl μ) q
 ·exact q.elim
end Y
namespace Y
end Y
namespace A
theorem Fm(i:Int)(μ:Mu)(Q:R->Mu->Prop):Y.wD [.tr (.int i)] μ Q=(i.natAbs.log2<1920/\Q (.tr (.str (toString i))) μ):=rfl
end A
end L2
namespace L2
open PySem PySem.Spec PyProof PyProof.Rows
variable{K:Oi}{es:List Expr}{p:Pos}{X:Cx}
noncomputable def zH(K:Oi)(a:Addr):It:=
 ⟨fun i H=>∃ x,getL K a i H x,fun i H x H'=>∃ p y,(∀ xs,cJ K H a xs->xs[i]?=some y)/\H p=none/\x=.ref p/\H'=upd H p (.tup [.int i,y]),Iq K a⟩
theorem pN{P:Program}{w:World}{tk:Nat}{tp:Pos}(a it e:Addr)(hne:e≠it):Turn P w K (.Tuple es tk tp) (zH K a) [e,it] e (fun i h=>(∃ old,IsEnum h e it i old)/\h.IsListIter it a i) where
 mem:=by simp
 obj:=fun i h st b hb=>by
  obtain⟨⟨old,he⟩,o,eo,c,d⟩:=st;rcases J5.mp hb with z|z
  ·subst z;exact⟨_,he,fun v z=>by cases z⟩
  ·have z:b=it:=by simpa using z
   subst z;exact⟨o,eo,fun v z=>by rw[d] at z;cases z⟩
 keep:=fun i h h' st k=>by
  obtain⟨⟨old,he⟩,o,eo,r⟩:=st;exact⟨⟨old,k e (by simp) _ he⟩,o,k it (by simp) o eo,r⟩
 item:=by
  intro X hP hw hK hc i pins s σ H E I hf st hg;subst hP hw hK;obtain⟨x,xs,hq,hx⟩:=hg;obtain⟨⟨old,he⟩,hit⟩:=st;obtain⟨its,rv,p,hz⟩:=I.list hq;obtain⟨u,hu,ru⟩:=rv.get hx;obtain⟨g0,g1,g2,g3,g4,g5⟩:=hf e (by simp)
  obtain⟨f0,f1,f2,f3,f4,f5⟩:=hf it (by simp)
  have ht:s.heap.IsList a its.toArray:=p.isList;have ha:a≠it:=by
   rintro rfl;obtain⟨o,e1,c1,_⟩:=hit;obtain⟨o',e2,c2,_⟩:=ht;rw[e1] at e2;cases e2;rw[c1] at c2;exact absurd (Value.type.inj c2) (by decide)
  have hea:e≠a:=by
   rintro rfl;obtain⟨o',e2,c2,_⟩:=ht;have e1:s.heap.get? e=some _:=he;rw[e1] at e2;cases e2;exact absurd (Value.type.inj c2) (by decide)
  have hi:i<its.toArray.size:=by
   have:=(Jz.mp hu).1
   simpa using this
  refine Nt (Draws.list (A:=X.A.in1) (I.ok.hd hc) it a ha its.toArray) he ⟨hit,ht⟩ hi hne (by simp[hne,hea]) fun x' h' tk' hP ho hs' hT hsz hk=>?_
  have ex:x'=u:=by
   have hP':its.toArray[i]?=some x':=hP;rw[K3,hu] at hP';exact (Option.some.inj hP').symm
  subst ex;refine⟨.ref s.heap.objs.size,rfl,MN ho fun h2 he2 hs2=>?_⟩;have fr:H s.heap.objs.size=none:=I.aU.fresh (J6 _);have hle:e≠s.heap.objs.size:=JP (JA he);have hT2:h2.get? s.heap.objs.size=some {cls:=.type "tuple",data:=.seq #[.int i tk',x']}:=(hs2.2 _ (Ne.symm hle)).trans hT;have I2:Inv X pins σ (upd H s.heap.objs.size (.tup [.int i,x])) {s with heap:=h2,toks:=tk'+1}:=by
   refine I.lF (fp:=[e,it]) hf (J6 _) (fun b o hb eb=>?_) ⟨by show 2<=sizeLine;decide,[.int i tk',x'],.cons ⟨_,rfl⟩ (.cons ru .nil),⟨_,hT2,rfl,_,rfl,rfl⟩⟩
   have n1:b≠e:=fun z=>hb (by simp[z])
   have n2:b≠it:=fun z=>hb (by simp[z])
   exact (hs2.2 b n1).trans (hk b o n1 n2 eb)
  refine⟨.ref s.heap.objs.size,_,I2,rfl,⟨s.heap.objs.size,x,fun ys hy=>by rw[I.jI hy hq];exact hx,fr,rfl,rfl⟩,⟨⟨x',?_⟩,?_⟩,fun b hb=>?_⟩
  ·have e:(((i+1:Nat)):Int)=(i:Int)+1:=by lia
   rw[e];exact he2
  ·obtain⟨o,e1,r⟩:=hs'.1;exact⟨o,(hs2.2 it (Ne.symm hne)).trans e1,r⟩
  ·have n:b≠s.heap.objs.size:=by
    rcases J5.mp hb with z|z
    ·subst z;exact hle
    ·have z:b=it:=by simpa using z
     subst z;obtain⟨o,e1,_⟩:=hit;exact JP (JA e1)
   rw[ao n];exact (hf b hb).1
 done:=by
  intro X hP hw hK hc i pins s σ H E I hf st hg;subst hP hw hK;obtain⟨xs,hq,hx⟩:=hg;obtain⟨⟨old,he⟩,hit⟩:=st;obtain⟨its,rv,p,hz⟩:=I.list hq;have ht:s.heap.IsList a its.toArray:=p.isList;have ha:a≠it:=by
   rintro rfl;obtain⟨o,e1,c1,_⟩:=hit;obtain⟨o',e2,c2,_⟩:=ht;rw[e1] at e2;cases e2;rw[c1] at c2;exact absurd (Value.type.inj c2) (by decide)
  have hl:=rv.length;have hsz:its.toArray.size=i:=by simp;lia
  refine N8 (Draws.list (A:=X.A.in1) (I.ok.hd hc) it a ha its.toArray) he (by rw[hsz];exact⟨hit,ht⟩) fun h' eb=>⟨rfl,?_⟩
  exact I.turns (t':=s.toks) hf fun b o hb e1=>eb b o (fun z=>hb (by simp[z])) e1
 self:=fun A i s Q E st h=>by
  obtain⟨⟨old,he⟩,_⟩:=st;exact Ma he h
section
variable {X:Cx} {es:List Expr} {tk:Nat} {tp:Pos}
noncomputable def Dc(K:Oi)(ta:TA):TI:=fun σ H R=>ta σ H fun vs H1=>∃ a,vs=[.ref a]/\(∃ xs,cJ K H1 a xs)/\R (zH K a) H1
theorem xu{e:Expr}{ta:TA}{pos:Pos}(hg:Gl X "enumerate")(hm:X.mg "enumerate"=none)(ha:PA X [e] ta)(h1:autoParam (dq e=true) ℜ0)(hv:autoParam (bootBuiltins "enumerate"=some (.type "enumerate")) ℜ6):
  PI X (.Tuple es tk tp) (.Call (.Name "enumerate" p) [e] [] pos) (Dc X.K ta):=by
 intro pins s σ H R I h;refine Call_ (ft I hg hm hv (KC (cB (ha pos pins s σ H _ I h) fun us s1 ⟨vs,H1,I1,r1,q1⟩=>?_) (d6 h1) rfl));obtain⟨a,e,⟨xs,hq⟩,q⟩:=q1;subst e;obtain⟨u,rfl,ru⟩:=vals1 r1;cases ru;obtain⟨its,rv,pt,hz⟩:=I1.list hq;refine call_enumerate_list pt.isList fun h' he hit hsz hk=>?_;refine Ma he ?_;have I2:Inv X pins σ H1 {s1 with heap:=h'}:=I1.kept (t':=s1.toks) hk
 refine⟨s1.heap.objs.size+1,[s1.heap.objs.size+1,s1.heap.objs.size],_,_,H1,rfl,I2,pN a s1.heap.objs.size (s1.heap.objs.size+1) (Lx (Ni _)),⟨⟨_,he⟩,hit⟩,fun b hb=>?_,q⟩;have hb':s1.heap.objs.size<=b:=by
  rcases J5.mp hb with z|z
  ·rw[z];exact Lv _
  ·have z:b=s1.heap.objs.size:=by simpa using z
   rw[z];exact J6 _
 exact I1.sL hb' (I1.aU.fresh hb')
end
theorem yO{a:Addr}{ts:List T}:jG K (zH K a) (fun H B=>∃ vs,cJ K H a vs/\au K H B vs ts) (pairs ts):=by
 refine⟨fun H B i t hb ⟨vs,h,r⟩ e=>?_,fun H B ⟨vs,h,r⟩=>⟨vs,h,by rw[r.length];simp[pairs]⟩⟩
 unfold pairs at e;rw[J9] at e;have hi:i<ts.length:=by
  rcases Ks i ts.length with z|z
  ·exact z
  ·rw[JM.mpr (by simpa using z)] at e;cases e
 rw[KG hi] at e;have e':T.tup [.int (i:Nat),(ts[i]?).getD .aJ]=t:=Option.some.inj e;have et:ts[i]?=some ts[i]:=Jq hi;obtain⟨v,e1,rv⟩:=r.get et;refine⟨⟨v,vs,h,e1⟩,fun x H2 y=>?_⟩;obtain⟨p,y,hy,hp,rfl,rfl⟩:=y;have:=hy vs h;rw[e1] at this;cases this;subst e';rw[et];refine⟨cu.new hp,.tup (fun z=>?_) ax (.cons (.int _) (.cons (rv.fr (Fr.same (cu.new hp))) .nil))⟩;obtain⟨o,q⟩:=hb p z;rw[hp] at q;cases q
namespace Y
noncomputable def Ar(us:UA):UI:=fun μ Rt=>us μ fun rs μ'=>match rs with
 |[.tr (.lst ts)]=>Rt (pairs ts) none μ'
 |_=>False
theorem Bm{e:Expr}{us:UA}{pos:Pos}(K:Oi)(hK:X.K=K){k:Nat}{tp:Pos}(hg:Gl X "enumerate")(hm:X.mg "enumerate"=none)(ha:YA X [e] us)(h1:autoParam (dq e=true) ℜ0):YI X (.Tuple es k tp) (.Call (.Name "enumerate" p) [e] [] pos) (Ar us):=by
 obtain⟨t,q,r⟩:=ha;subst hK;refine⟨_,⟨xu hg hm q.h h1⟩,fun F ad B σ H μ R Rt hF l q k=>r F ad B σ H μ _ _ hF l q fun vs H' rs μ' l1 ps f k1 q1=>?_⟩
 split at q1
 ·rename_i ts
  cases ps with
  |cons h1 ps =>
   cases ps;have rp:=bP h1
   cases rp with
   |@lst a vs _ n h rr =>
    have sr:∀ H B,Rep F.K H B (.ref a) (.lst ts)->∃ vs,cJ X.K H a vs/\au X.K H B vs ts:=fun H B h=>by
     rw[hF] at h
     cases h with|lst n h r=>exact⟨_,cJ.of h,r⟩
    exact⟨a,rfl,⟨vs,cJ.of h⟩,k (zH X.K a) H' μ' (pairs ts) none (fun H B=>Rep F.K H B (.ref a) (.lst ts)) l1 f k1 (yO.imp sr) (.lst n h rr) (fun B1 H1 B2 H2 f h=>h.fr f) (fun j ls z=>by cases z) q1⟩
 ·exact q1.elim
end Y
namespace A
theorem Ar(us:UA)(μ:Mu)(Rt:List T->Option (Nat×List T)->Mu->Prop):Y.Ar us μ Rt=us μ fun rs μ'=>match rs with
 |[.tr (.lst ts)]=>Rt (pairs ts) none μ'
 |_=>False:=rfl
end A
noncomputable def xb(K:Oi)(ws:List Str)(v:Value):Prop:=∃ p,v=.ref p/\Gu K p (ws.map V.str)
structure mP (K:Oi) (a:Addr) (D:List (Str×List Str)):Prop where
 low:(a == sysModules)=false
 ex:∃ o es ep,K.lookup a=some o/\o.ExactDict/\o.data=.dict es ep/\KTD.Rows (xb K) es.toList D
section
variable {prog:Program} {w:World} {A:Around} {E:Value->Shared->Prop} {s:Shared} {K:Oi} {a:Addr} {D:List (Str×List Str)} {k:Str} {tk:Tok}
theorem mP.typeIs(T:mP K a D)(X:K.In s.heap):s.TypeIs (.ref a) "dict":=let ⟨o,_,_,ho,hc,_⟩:=T.ex;⟨o,X _ _ ho,hc.1⟩
theorem vd{Q:Option Value->Shared->Prop}(T:mP K a D)(X:K.In s.heap)(h1:∀ d v,KTD.datumAt k D=some d->xb K d v->Q (some v) {s with toks:=s.toks+1})(h2:KTD.datumAt k D=none->Q none {s with toks:=s.toks+1}):
  wpAny (model prog w) A (dictGet a (.str k tk)) Q E s:=by
 obtain⟨o,es,ep,ho,hc,hd,hr⟩:=T.ex;have ho:=X _ _ ho;unfold dictGet
 try with_reducible refine Kf ?_
 refine Jp (wpAny_pyHash_str (Jp (KTD.kt_dictFind_strs (s:={s with toks:=s.toks+1}) ho hd (by obtain⟨l⟩:=es;simpa using hr.exact) ?_)))
 have hq:Q (findBy (fun k v=>v.isStr k) es k) {s with toks:=s.toks+1}:=by
  have hf:findBy (fun k v=>v.isStr k) es k=(es.toList.find? fun e=>e.key.isStr k).map (·.val):=by
   obtain⟨l⟩:=es;simp[findBy]
  rw[hf]
  cases hat:KTD.datumAt k D with
  |some d=>obtain⟨v,hv,hfl⟩:=hr.find_some hat;rw[hv];exact h1 d v hat hfl
  |none=>rw[hr.find_none hat];exact h2 hat
 rw[findBy_of_findIdx?] at hq
 cases hi:es.findIdx? fun e=>e.key.isStr k with
 |none=>rw[hi] at hq;exact Jx hq
 |some i=>rw[hi] at hq;exact Jp (Mc (s:={s with toks:=s.toks+1}) ho hd (Jx hq))
end
namespace Y
theorem Gx{pos:Pos}{x:Str}{k:Nat}{ps:List Str}{md:List Bool}{tsp:dW}{E:XK}(K:Oi)(hK:X.K=K)(F:ae X.prog X.w X.K X.mg X.base bA k x ps (spT K md tsp))(hr:bM k X.A)(hg:Gl X x)(hx:Passes bA X E)(hdb:autoParam ((x ==("__debug__":Str))=false) ℜ1):
  YE X (.Call (.Name x p) [] [] pos) (Bt md tsp tU):=by
 subst hK;exact⟨_,Z.Gx F hr hg hx hdb,AF (fun F ad B σ H μ Q Qt hK l q k=>k [] H [] μ l .nil Fr.refl (Kp.refl μ) q)⟩
end Y
namespace A
end A
namespace Y
section
variable {prog:Program} {w:World} {A:Around} {E:Value->Shared->Prop} {s:Shared}
end
end Y
namespace A
end A
namespace Y
end Y
namespace A
end A
namespace Y
end Y
namespace A
end A
section
variable {prog:Program} {w:World} {A:Around} {E:Value->Shared->Prop} {s:Shared}
end
section
variable {X:Cx} {es:List Expr} {tk:Nat} {tp:Pos}
end
namespace Y
end Y
noncomputable def gq{α:Type}(xs:List α)(i:Nat)(y:α):List α:=xs.take i++y::xs.drop i
noncomputable def qO:V->List V->Hp->VK->Prop:=fun x vs H Q=>∃ l xs i y,x=.ref l/\vs=[.int i,y]/\H l=some (.lst xs)/\0<=i/\i<2^63/\xs.length<sizeLine/\Q .aJ (upd H l (.lst (gq xs (min i.toNat xs.length) y)))
theorem tI:GH X "list.insert" qO:=by
 intro pins s σ H x vs v us Q I rx rv h;obtain⟨l,xs,i,y,rfl,rfl,hH,h0,h1,hz,q⟩:=h;cases rx;obtain⟨u,w',rfl,⟨t,rfl⟩,rw'⟩:=vals2 rv;obtain⟨z,its,n,r,hl,e⟩:=I.o_ hH;have hfit:¬ (!Builtin.List.listFitsIndex i)=true:=by
  have:=NM (k:=i) (by lia) h1
  rw[this];exact Jw
 refine KI F.slot_list_insert ⟨_,e,rfl⟩ F.entry_list_insert (F.args_list_insert_3 _ _ _) (AutoSeq1.list_insert_list_int_val_1 l its.toArray n i t w' hfit (by rw[Jv];lia)) ⟨e,?_⟩
 have el:its.length=xs.length:=hl.symm;refine⟨.aJ,_,I.C3 (its':=gq its (min i.toNat its.length) w') hH e ?_ ?_ ?_,rfl,q⟩
 ·show (have k:=if i<0 then _ else min i.toNat its.toArray.size;(its.toArray.extract 0 k).push w'++its.toArray.extract k)=_
  rw[Ju (by lia)]
  apply Array.toList_inj.mp;unfold gq;simp[List.extract_eq_take_drop,Me]
 ·rw[el];unfold gq;exact (r.take _).append (.cons rw' (r.drop _))
 ·unfold gq;rw[Jt,J7,K5,LK];lia
namespace Y
noncomputable def gQ:UM:=fun j rs μ Q=>match rs with
 |[.tr (.int i),.tr t]=>(match (μ[j]?).bind Sl.box with
  |some (.lst ts)=>0<=i/\i<2^63/\ts.length<sizeLine/\Q (.tr .aJ) (dH μ j (.lst (gq ts (min i.toNat ts.length) t)))
  |_=>False)
 |_=>False
theorem tJ:RM K qO gQ:=by
 intro F ad B σ H μ Q Qt j s c xs rs hF l e b ps q k;unfold gQ at q
 split at q
 ·rename_i i t
  cases ps with
  |cons h1 ps=>cases ps with
   |cons h2 ps =>
    cases ps
    cases bP h1
    have rt:=bP h2;rw[e] at q;have q':(match s.box with|some (.lst ts)=>0<=i/\i<2^63/\ts.length<sizeLine/\Qt (.tr .aJ) (dH μ j (.lst (gq ts (min i.toNat ts.length) t)))|_=>False):=q
    rw[b] at q';rcases ((l.slot j s e).boxed b).2.2.1.is with ⟨ts,vs,rfl,hl,rv⟩|⟨_,_,_,rfl,_⟩
    case inr=>exact q'.elim
    obtain⟨h0,h1,hz,q2⟩:=(show 0<=i/\i<2^63/\ts.length<sizeLine/\_ from q');refine⟨_,vs,i,_,rfl,rfl,hl,h0,h1,by rw[rv.length];exact hz,?_⟩
    have l3:=l.put e b (show au F.K H B (gq vs (min i.toNat vs.length) _) (gq ts (min i.toNat ts.length) t) from by rw[rv.length];exact (rv.take _).append (.cons rt (rv.drop _)))
    unfold dH at q2;rw[e] at q2;exact k _ _ (.tr .aJ) _ (Vr.flat l3 .aJ) (Fr.set ((l.slot j s e).boxed b).2.1) (Kp.set e b (Sl.iY b)) q2
 ·exact q.elim
end Y
namespace A
theorem gQ(j:Nat)(i:Int)(t:T)(μ:Mu)(Q:R->Mu->Prop):Y.gQ j [.tr (.int i),.tr t] μ Q=(match (μ[j]?).bind Sl.box with
  |some (.lst ts)=>0<=i/\i<2^63/\ts.length<sizeLine/\Q (.tr .aJ) (dH μ j (.lst (gq ts (min i.toNat ts.length) t)))
  |_=>False):=rfl
end A
open Builtin Builtin.Str
section
variable {prog:Program} {w:World} {A:Around} {E:Value->Shared->Prop} {s:Shared} {x y:Str} {t u:Tok}
end
section
variable {X:Cx}
end
namespace Y
end Y
namespace A
end A
end L2
namespace L2
open PySem PySem.Spec PyProof PyProof.Rows
variable{X:Cx}{K:Oi}
inductive Ou where
 |no
 |ok (r:R)
 |ck (c:Prop) (r:R)
noncomputable def mJ(o:Ou)(Q:R->Prop):Prop:=match o with
 |.no=>False
 |.ok r=>Q r
 |.ck c r=>c/\Q r
noncomputable def sN(o:Option Sl)(i:Nat):Ou:=match o with
 |some (.tr t)=>.ok (.tr t)
 |some (.bx _)=>.ok (.br i)
 |some (.pb _)=>.ok (.br i)
 |_=>.no
noncomputable def sS(a b:Option T):Ou:=match a,b with
 |some (.int i),some (.int j)=>.ok (.tr (.int (i+j)))
 |some (.str i),some (.str j)=>.ck (i.length+j.length<=sizeLine) (.tr (.str (i++j)))
 |some (.lst xs),some (.lst ys)=>.ck (xs.length+ys.length<=sizeLine) (.fr (.lst (xs++ys)))
 |some (.tup xs),some (.tup ys)=>.ck (xs.length+ys.length<=sizeLine) (.tr (.tup (xs++ys)))
 |_,_=>.no
noncomputable def oQ(o:Option T):Ou:=match o with
 |some t=>.ok (.tr t)
 |none=>.no
noncomputable def BY(a b:Option T):Ou:=match a,b with
 |some (.lst xs),some (.int i)=>oQ (bR xs i)
 |some (.tup xs),some (.int i)=>oQ (bR xs i)
 |some (.d_ xs),some (.int i)=>oQ (bR xs i)
 |some (.str z),some (.int i)=>(match bR z.cps.toList i with|some c=>.ck (z.length<=sizeLine) (.tr (.str ⟨#[c]⟩))|none=>.no)
 |_,_=>.no
noncomputable def m_(a:T):Ou:=match a with
 |.lst xs=>.ok (.tr (.int xs.length))
 |.tup xs=>.ok (.tr (.int xs.length))
 |.eU xs=>.ok (.tr (.int xs.length))
 |.d_ xs=>.ok (.tr (.int xs.length))
 |.str z=>.ck (z.length<=sizeLine) (.tr (.int z.length))
 |_=>.no
noncomputable def C5(a:Option T)(lo hi:Option Int):Ou:=match a with
 |some (.lst xs)=>.ok (.fr (.lst (Y.cI xs lo hi)))
 |some (.eU xs)=>.ok (.fr (.lst (Y.cI xs lo hi)))
 |some (.tup xs)=>.ok (.tr (.tup (Y.cI xs lo hi)))
 |some (.str z)=>.ck (z.length<=sizeLine) (.tr (.str (Y.gf z lo hi)))
 |_=>.no
theorem jH(p:Prop):(True/\p)=p:=propext ⟨fun h=>h.2,fun h=>⟨trivial,h⟩⟩
theorem HI(o:Option Sl)(i:Nat)(Q:R->Prop):nY (Cb o i) Q=mJ (sN o i) Q:=by
 cases o with
 |none=>rfl
 |some s=>cases s<;>first|rfl|exact jH _
theorem HG(a b:Option T)(Q:R->Prop):nY (CC a b) Q=mJ (sS a b) Q:=by
 cases a with
 |none=>rfl
 |some a=>cases b with
  |none=>cases a<;>rfl
  |some b=>cases a<;>cases b<;>first|rfl|exact jH _
theorem cf(a b:Option T)(Q:R->Prop):nY (HL a b) Q=mJ (BY a b) Q:=by
 cases a with
 |none=>rfl
 |some a=>cases b with
  |none=>cases a<;>rfl
  |some b =>
   cases a<;>cases b<;>first
    |rfl
    | (rename_i xs i;show nY (oT (bR xs i)) Q=mJ (oQ (bR xs i)) Q;cases bR xs i with|none=>rfl|some t=>exact jH _)
    | (rename_i z i;show nY (match bR z.cps.toList i with|some c=>some (z.length<=sizeLine,.tr (.str ⟨#[c]⟩))|none=>none) Q=mJ (match bR z.cps.toList i with|some c=>.ck (z.length<=sizeLine) (.tr (.str ⟨#[c]⟩))|none=>.no) Q;cases bR z.cps.toList i<;>rfl)
theorem IB(a:T)(Q:R->Prop):nY (Fn a) Q=mJ (m_ a) Q:=by cases a<;>first|rfl|exact jH _
theorem Je(a:Option T)(lo hi:Option Int)(Q:R->Prop):nY (Y.BS a lo hi) Q=mJ (C5 a lo hi) Q:=by
 cases a with
 |none=>rfl
 |some a=>cases a<;>first|rfl|exact jH _
namespace Y
noncomputable def jo(i:Nat):UE:=fun μ Q=>mJ (sN μ[i]? i) fun r=>Q r μ
noncomputable def rn:U2:=fun r1 r2 μ Q=>mJ (sS (cont μ r1) (cont μ r2)) fun r=>Q r μ
noncomputable def yd:U2:=fun r1 r2 μ Q=>mJ (BY (cont μ r1) (cont μ r2)) fun r=>Q r μ
noncomputable def vn(t:T)(μ:Mu)(Q:R->Mu->Prop):Prop:=mJ (m_ t) fun r=>Q r μ
noncomputable def yM(ue:UE)(ul uh:UO):UE:=fun μ Q=>ue μ fun r μ1=>ul μ1 fun lo μ2=>uh μ2 fun hi μ3=>mJ (C5 (cont μ3 r.d) lo hi) fun r=>Q r μ3
noncomputable def x4(ue:UE):UI:=fun μ Rt=>ue μ fun r μ'=>FG (zm r μ') fun ts g=>Rt ts g μ'
noncomputable def DM(n:Nat)(gs:rB):UG:=fun r μ Q=>match tT (cont μ r.d) with|some ts=>ts.length=n/\gs ts μ Q|none=>False
noncomputable def wY(ue:UE):UT:=fun μ Q=>ue μ fun r μ'=>match vN r with|some b=>Q b μ'|none=>False
theorem GV(i:Nat):lP i=jo i:=funext fun μ=>funext fun Q=>(A.lP i μ Q).trans (HI _ _ _)
theorem HE:kb=rn:=funext fun r1=>funext fun r2=>funext fun μ=>funext fun Q=>(A.kb r1 r2 μ Q).trans (HG _ _ _)
theorem Jj:oR=yd:=funext fun r1=>funext fun r2=>funext fun μ=>funext fun Q=>(A.oR r1 r2 μ Q).trans (cf _ _ _)
theorem Hz:ou=vn:=funext fun t=>funext fun μ=>funext fun Q=>(A.ou t μ Q).trans (IB _ _)
theorem Jf(ue:UE)(ul uh:UO):C8 ue ul uh=yM ue ul uh:=funext fun μ=>funext fun Q=>by
 unfold C8 yM;congr 1;funext r μ1;congr 1;funext lo μ2;congr 1;funext hi μ3;exact Je _ _ _ _
theorem Jc(ue:UE):AO ue=x4 ue:=funext fun μ=>funext fun Rt=>A.AO ue μ Rt
theorem eT(n:Nat)(gs:rB):gT n gs=DM n gs:=funext fun r=>funext fun μ=>funext fun Q=>A.gT n gs r μ Q
theorem Il(ue:UE):n8 ue=wY ue:=funext fun μ=>funext fun Q=>A.n8 ue μ Q
theorem vS{x:Str}{pos:Pos}(i:Nat)(hN:autoParam (X.N[i]?=some x) ℜ0)(hv:autoParam (B5 X.env.scope x) ℜ4)(hd:autoParam ((x ==("__debug__":Str))=false) ℜ1)
  (hcd:autoParam ((x ==("__classdict__":Str))=false) ℜ1):YE X (.Name x pos) (jo i):=GV i ▸ v i hN hv hd hcd
theorem aB:gL K (xP K) rn:=HE ▸ Dw
theorem ai:gL K (GF K) yd:=Jj ▸ En
theorem cz:RC K (xj K) (zv vn):=Hz ▸ Dm
theorem gv{e:Expr}{ue:UE}{p2 pos:Pos}{lo hi:Option Expr}{ul uh:UO}(K:Oi)(hK:X.K=K)(he:YE X e ue)(hl:YO X lo ul)(hu:YO X hi uh):YE X (.Subscript e (.Slice lo hi none p2) pos) (yM ue ul uh):=Jf ue ul uh ▸ BM K hK he hl hu
theorem anyS{tg e:Expr}{ue:UE}(K:Oi)(hK:X.K=K)(he:YE X e ue):YI X tg e (x4 ue):=Jc ue ▸ any K hK he
theorem iG{es:List Expr}{pos:Pos}(K:Oi)(hK:X.K=K){k n:Nat}{gs:rB}(hc:X.calm=true)(h:Fe X es gs)(hn:autoParam ((assignEach es X.env).length=n) ℜ0)(hst:autoParam ((assignEach es X.env).findIdx? (·.1)=none) ℜ0):YG X (.Tuple es k pos) (DM n gs):=eT n gs ▸ DB K hK hc h hn hst
theorem gW{a:Expr}{ua:UE}(K:Oi)(hK:X.K=K)(ha:YE X a ua)(he:autoParam (Z.G6 a=true) ℜ0):YT X a (wY ua):=Il ua ▸ Cv K hK ha he
end Y
namespace A3
theorem Cg(r:R)(Q:R->Prop):mJ (.ok r) Q=Q r:=rfl
theorem DL(c:Prop)(r:R)(Q:R->Prop):mJ (.ck c r) Q=(c/\Q r):=rfl
theorem Gn(ts:List T)(g:Option (Nat×List T))(Q:List T->Option (Nat×List T)->Prop):FG (some (ts,g)) Q=Q ts g:=rfl
theorem zW(t:T):oQ (some t)=.ok (.tr t):=rfl
theorem lP(i:Nat)(μ:Mu)(Q:R->Mu->Prop):Y.jo i μ Q=mJ (sN μ[i]? i) fun r=>Q r μ:=rfl
theorem kb(r1 r2:R)(μ:Mu)(Q:R->Mu->Prop):Y.rn r1 r2 μ Q=mJ (sS (cont μ r1) (cont μ r2)) fun r=>Q r μ:=rfl
theorem II(r1 r2:R)(μ:Mu)(Q:R->Mu->Prop):Y.yd r1 r2 μ Q=mJ (BY (cont μ r1) (cont μ r2)) fun r=>Q r μ:=rfl
theorem ou(t:T)(μ:Mu)(Q:R->Mu->Prop):Y.vn t μ Q=mJ (m_ t) fun r=>Q r μ:=rfl
theorem Hy(ue:UE)(ul uh:UO)(μ:Mu)(Q:R->Mu->Prop):Y.yM ue ul uh μ Q=ue μ fun r μ1=>ul μ1 fun lo μ2=>uh μ2 fun hi μ3=>mJ (C5 (cont μ3 r.d) lo hi) fun r=>Q r μ3:=rfl
theorem AO(ue:UE)(μ:Mu)(Rt:List T->Option (Nat×List T)->Mu->Prop):Y.x4 ue μ Rt=ue μ fun r μ'=>FG (zm r μ') fun ts g=>Rt ts g μ':=rfl
theorem gT(n:Nat)(gs:rB)(r:R)(μ:Mu)(Q:Mu->Prop):Y.DM n gs r μ Q=(match tT (cont μ r.d) with|some ts=>ts.length=n/\gs ts μ Q|none=>False):=rfl
theorem n8(ue:UE)(μ:Mu)(Q:Bool->Mu->Prop):Y.wY ue μ Q=ue μ fun r μ'=>match vN r with|some b=>Q b μ'|none=>False:=rfl
theorem Ho(t:T)(i:Nat):sN (some (.tr t)) i=.ok (.tr t):=rfl
theorem Hm(t:T)(i:Nat):sN (some (.bx t)) i=.ok (.br i):=rfl
theorem Hq(t:T)(i:Nat):sN (some (.pb t)) i=.ok (.br i):=rfl
theorem E5(i j:Int):sS (some (.int i)) (some (.int j))=.ok (.tr (.int (i+j))):=rfl
theorem El(i j:Str):sS (some (.str i)) (some (.str j))=.ck (i.length+j.length<=sizeLine) (.tr (.str (i++j))):=rfl
theorem add_l(xs ys:List T):sS (some (.lst xs)) (some (.lst ys))=.ck (xs.length+ys.length<=sizeLine) (.fr (.lst (xs++ys))):=rfl
theorem IA(xs:List T)(i:Int):BY (some (.lst xs)) (some (.int i))=oQ (bR xs i):=rfl
theorem Hl(xs:List T)(i:Int):BY (some (.tup xs)) (some (.int i))=oQ (bR xs i):=rfl
theorem Hg(xs:List T)(i:Int):BY (some (.d_ xs)) (some (.int i))=oQ (bR xs i):=rfl
theorem Hf(z:Str)(i:Int):BY (some (.str z)) (some (.int i))=(match bR z.cps.toList i with|some c=>.ck (z.length<=sizeLine) (.tr (.str ⟨#[c]⟩))|none=>.no):=rfl
theorem Ej(xs:List T):m_ (.lst xs)=.ok (.tr (.int xs.length)):=rfl
theorem EZ(xs:List T):m_ (.tup xs)=.ok (.tr (.int xs.length)):=rfl
theorem EL(xs:List T):m_ (.eU xs)=.ok (.tr (.int xs.length)):=rfl
theorem Eu(z:Str):m_ (.str z)=.ck (z.length<=sizeLine) (.tr (.int z.length)):=rfl
theorem GU(xs:List T)(lo hi:Option Int):C5 (some (.lst xs)) lo hi=.ok (.fr (.lst (Y.cI xs lo hi))):=rfl
theorem Hi(xs:List T)(lo hi:Option Int):C5 (some (.eU xs)) lo hi=.ok (.fr (.lst (Y.cI xs lo hi))):=rfl
theorem GY(xs:List T)(lo hi:Option Int):C5 (some (.tup xs)) lo hi=.ok (.tr (.tup (Y.cI xs lo hi))):=rfl
theorem HK(z:Str)(lo hi:Option Int):C5 (some (.str z)) lo hi=.ck (z.length<=sizeLine) (.tr (.str (Y.gf z lo hi))):=rfl
end A3
open Builtin Builtin.Str
section
variable {prog:Program} {w:World} {A:Around} {E:Value->Shared->Prop} {h:Heap} {g:Array GenState} {d:Drawn} {t:Nat} {os:OsState} {a:Addr} {items:Array Value} {cn:Nat}
end
section
variable {prog:Program} {w:World} {K:Type} [DecidableEq K] {knd:KeyKind prog w K} {A:Around} {R:Result->Shared->Prop}
end
end L2
namespace L2
open PySem PySem.Spec PyProof PyProof.Rows
variable{Q:Value->Shared->Prop}{X:Cx}{body e o:Expr}{D:List (Str×List Str)}{ue:UE}{q x:Str}{p:Array Nat}{K:Oi}{a b c:List Nat}{e1 ep i j k m n:Nat}{y:Int×Int}{α:Type}{l prs:List (Int×Int)}{G:Nat×Array Nat->Shared->Prop}{s:Shared}{A:Around}{N:List Str}{σf:List (Option V)}{scope:Scope}{c' f kS:Addr}{cl:List (Str×Addr)}{params:Arguments}{ctv pm:Value}{H H1:Hp}{h h':Heap}{P:PySem.Fin->Shared->Prop}{us vs:List Value}{kz:List Int}{xs:List V}{apos kpos lpos:Pos}{mg:Str->Option Value}{w:World}{es:Array DictEntry}{prog:Program}
noncomputable def tY(ks:List Str)(us:List T):List T:=List.zipWith (fun k u=>T.tup [.str k,u]) ks us
namespace Y
end Y
namespace A
end A
namespace Z
section
variable {X:Cx} {CX:kF} {k:Nat} {f C:Addr} {fd:FuncData} {ps:List Str} {sp:Sp} {E:XK} {x m nm:Str} {p pos pos' apos:Pos} {e o i value:Expr} {es:List Expr} {ta tv td ty:TE} {t:TA}
end
end Z
namespace Ap
end Ap
section
variable {prog:Program} {w:World} {A:Around} {E:Value->Shared->Prop} {s:Shared} {K:Oi} {a:Addr} {D:List (Str×List Str)} {k:Str} {tk:Tok}
theorem sD{ws:List Str}(T:mP K a D)(X:K.In s.heap)(hk:KTD.datumAt k D=some ws)(h:∀ v,xb K ws v->Q v {s with toks:=s.toks+1}):wpAny (model prog w) A (getItem (.ref a) (.str k tk)) Q E s:=by
 have hT:=T.typeIs X;unfold getItem
 try with_reducible refine Kf ?_
 refine Jp (wpAny_sequenceKey hT (by decide) ?_)
 refine Jp (Ku (name:=Str.ofString "__getitem__") hT PySem.F.slot_dict_getitem
  (Ky PySem.F.slot_dict_getitem hT PySem.F.entry_dict_getitem ?_ (args_dict_getitem _ _)))
 show wpAny _ _ (dictGet a (.str k tk) >>= _) _ _ s;refine Jp (vd T X (fun d v e r=>?_) fun e=>?_)
 ·rw[hk] at e;cases e;exact Jx ⟨v,rfl,Jx (h v r)⟩
 ·rw[hk] at e;cases e
end
noncomputable def HQ(K:Oi)(D:List (Str×List Str))(te:TE):TE:=fun σ H Q=>te σ H fun y H1=>∃ k ws,y=.str k/\KTD.datumAt k D=some ws/\∀ p,Gu K p (ws.map V.str)->Q (.ref p) H1
theorem D6{te:TE}{pos:Pos}{d:Addr}(ho:PE X o (tC (.ref d)))(hD:mP X.K d D)(he:PE X e te)(hs:BZ e):PE X (.Subscript o e pos) (HQ X.K D te):=by
 intro pins s σ H Q I h;refine yp PySem.F.slot_dict_getitem.lookup hs (cB (ho pins s σ H (fun v H'=>v=.ref d/\H'=H) I ⟨rfl,rfl⟩) fun u s1 ⟨x,H1,I1,rx,ex,eh⟩=>?_);subst ex eh;obtain rfl:u=Value.ref d:=rx;refine cB (he pins s1 σ H1 _ I1 h) fun iv s2 ⟨y,H2,I2,ry,k,ws,ek,e1,q⟩=>?_;subst ek;obtain⟨t,rfl⟩:=ry;refine⟨hD.typeIs I2.gJ,sD hD I2.gJ e1 fun v r=>?_⟩;obtain⟨p,rfl,r⟩:=r;exact⟨.ref p,H2,I2.tok _,rfl,q p r⟩
namespace Y
noncomputable def Au(D:List (Str×List Str))(ue:UE):UE:=fun μ Q=>ue μ fun r μ'=>match r with
 |.tr (.str k)=>(match KTD.datumAt k D with
  |some ws=>Q (.tr (.d_ (ws.map T.str))) μ'
  |none=>False)
 |_=>False
theorem IU{pos p:Pos}(K:Oi)(hK:X.K=K)(hg:Gl X x)(hd:∃ d,X.mg x=some (.ref d)/\mP K d D)(he:YE X e ue)(hs:BZ e:=by exact fun _ _=>rfl)(hdb:autoParam ((x ==("__debug__":Str))=false) ℜ1):
  YE X (.Subscript (.Name x p) e pos) (Au D ue):=by
 obtain⟨t,q,r⟩:=he;obtain⟨d,hm,hd⟩:=hd;subst hK;refine⟨_,⟨D6 (mC hg hm rfl hdb) hd q.h hs⟩,fun F ad B σ H μ Q Qt hF l q k=>r F ad B σ H μ _ _ hF l q fun v H' r1 μ' v1 f k1 q1=>?_⟩
 split at q1
 ·rename_i z;obtain⟨l1,rp⟩:=v1;cases rp
  cases e1:KTD.datumAt z D with
  |none=>rw[e1] at q1;exact q1.elim
  |some ws =>
   rw[e1] at q1;exact⟨z,ws,rfl,e1,fun p kt=>k _ H' (.tr (.d_ (ws.map T.str))) μ' ⟨l1,.d_ (by rw[hF];exact kt) (kX ws)⟩ f.d k1 q1⟩
 ·exact q1.elim
end Y
namespace A
theorem Au(D:List (Str×List Str))(ue:UE)(μ:Mu)(Q:R->Mu->Prop):Y.Au D ue μ Q=ue μ fun r μ'=>match r with
 |.tr (.str k)=>(match KTD.datumAt k D with
  |some ws=>Q (.tr (.d_ (ws.map T.str))) μ'
  |none=>False)
 |_=>False:=rfl
end A
namespace Y
end Y
namespace A
end A
namespace Y
noncomputable def xq:V->List V->Hp->VK->Prop:=fun x vs H Q=>∃(z y:Str) (i:Nat) (rest:List Nat),x=.str z/\vs=[.str y]/\Builtin.Str.occurrences z y 0 z.length 1=i::rest/\Q (.int (i:Nat)) H
theorem vy:qX X "str.index" xq:=by
 intro pins s σ H x xs v us Q I rx rs h;obtain⟨z,y,i,rest,rfl,rfl,ho,q⟩:=h;obtain⟨t,rfl⟩:=rx;obtain⟨u,rfl,k,rfl⟩:=vals1 rs;exact SC.index ho ⟨.int _,H,I.tok _,⟨_,rfl⟩,q⟩
noncomputable def jc:Bn:=fun z rs μ Q=>match rs with
 |[.tr (.str y)]=>∃(i:Nat) (rest:List Nat),Builtin.Str.occurrences z y 0 z.length 1=i::rest/\Q (.tr (.int (i:Nat))) μ
 |_=>False
theorem wk:ET K xq jc:=by
 intro F ad B σ H μ Q Qt z xs rs hF l ps q k;unfold jc at q
 split at q
 ·cases ps with
  |cons h ps =>
   cases ps
   cases bP h
   obtain⟨i,rest,ho,q⟩:=q;exact⟨z,_,i,rest,rfl,rfl,ho,k _ H _ μ (Vr.flat l (.int _)) Fr.refl (Kp.refl μ) q⟩
 ·exact q.elim
noncomputable def EB:V->List V->Hp->VK->Prop:=fun x vs H Q=>∃(a:Addr) (ws:List Str) (k:Str) (j:Nat),x=.ref a/\H a=some (.lst (ws.map V.str))/\vs=[.str k]/\ws[j]?=some k/\(∀ m,m<j->ws[m]?≠some k)/\Q (.int (j:Nat)) H
theorem rK:GH X "list.index" EB:=by
 intro pins s σ H x xs v us Q I rx rs h;obtain⟨a,ws,k,j,rfl,hH,rfl,hj,hno,q⟩:=h;cases rx;obtain⟨u,rfl,t,rfl⟩:=vals1 rs;obtain⟨z,its,n,r,hl,e⟩:=I.o_ hH;obtain⟨t',hit⟩:=gG r j k hj;have hjl:j<ws.length:=(Jz.mp hj).1;rw[Js] at z hl;have hji:j<its.toArray.size:=by rw[Jv];lia
 have sz:(sizeLine:Int)<2^63-1:=by decide
 have hje:its.toArray[j]=.str k t':=by
  have:its.toArray[j]?=some (.str k t'):=by rw[K3];exact hit
  exact (Kd.mp this).2
 have hall:∀(m:Nat) (hm:m<its.toArray.size),∃ y ty,its.toArray[m]=.str y ty/\ws[m]?=some y:=fun m hm=>by
  have hm':m<ws.length:=by rw[Jv] at hm;lia
  have e1:=Jq hm';obtain⟨ty,hy⟩:=gG r m _ e1;have:its.toArray[m]?=some (.str ws[m] ty):=by rw[K3];exact hy
  exact⟨_,ty,(Kd.mp this).2,e1⟩
 refine KI PySem.F.slot_list_index ⟨_,e,rfl⟩ PySem.F.entry_list_index (PySem.F.args_list_index_2 _ _) (SeqAt.list_indexAt a its.toArray n none _ (.str k t) (fun y=>match y with|.str y _=>y == k|_=>false) j hji (by lia) (by rw[hje];exact Kq k) fun m hm hmj=>?_) ⟨e,fun y hy=>?_,⟨.int (j:Nat),H,I.tok _,⟨_,rfl⟩,q⟩⟩
 ·obtain⟨y,ty,ey,ew⟩:=hall m hm;rw[ey];exact Kk.mpr fun z=>hno m hmj (by rw[ew,z])
 ·obtain⟨m,hm,rfl⟩:=Array.mem_iff_getElem.mp hy;obtain⟨y,ty,ey,ew⟩:=hall m hm;rw[ey];exact SeqAt.EqAt.str_str _ _ _ _
end Y
namespace A
theorem jc(z y:Str)(μ:Mu)(Q:R->Mu->Prop):Y.jc z [.tr (.str y)] μ Q=(∃(i:Nat) (rest:List Nat),Builtin.Str.occurrences z y 0 z.length 1=i::rest/\Q (.tr (.int (i:Nat))) μ):=rfl
end A
open PySem PySem.Spec PyProof PyProof.Rows PySem.W
namespace SP
section
variable (k:Nat->Int)
noncomputable def R(i j:Nat):Prop:=k i<k j\/(k i=k j/\i<j)
variable {k}
theorem R.le{a b:Nat}(h:R k a b):k a<=k b:=by unfold R at h;lia
end
structure PI (n m:Nat) (p:Array Nat) (a:List Nat):Prop where
 eq:p.toList=a++List.range' m (n-m)
 perm:a.Perm (List.range m)
 le:m<=n
section
variable {n m:Nat} {p:Array Nat} {a:List Nat}
theorem PI.len(h:PI n m p a):a.length=m:=by rw[h.perm.length_eq,JN]
theorem PI.lt(h:PI n m p a){x:Nat}(hx:x∈a):x<m:=LH.mp (h.perm.mem_iff.mp hx)
theorem PI.size(h:PI n m p a):p.size=n:=by
 have:=h.len;have:=h.le;rw[<- JZ,h.eq,Jt,KN,h.len];lia
theorem PI.at(h:PI n m p a){x:Nat}(hi:a[i]?=some x):p.getD i 0=x:=by
 have:p[i]?=some x:=by
  rw[<- JT,h.eq,Lp (Jz.mp hi).1];exact hi
 rw[MI,this];rfl
theorem PI.nx(h:PI n m p a)(hm:m<n):p.getD m 0=m:=by
 have:p[m]?=some m:=by
  rw[<- JT,h.eq,KH (by rw[h.len];exact J6 m),h.len,M5,List.getElem?_range' (by lia)];simp
 rw[MI,this];rfl
theorem PI.step(h:PI n m p a)(hm:m<n):PI n (m+1) p (a++[m]):=by
 refine⟨?_,?_,hm⟩
 ·rw[h.eq,JU,show n-m=(n-(m+1))+1 by lia,K6];rfl
 ·rw[Lj];exact h.perm.append_right [m]
theorem PI.last(h:PI n m p a){y:Nat}(e:a=b++[y]):p.getD (m-1) 0=y:=by
 refine h.at ?_;have:=h.len;rw[e,Jt] at this;simp only[J7,Ke] at this;rw[e,KH (by lia),show m-1-b.length=0 by lia];rfl
end
theorem vb{xs:Array α}{l:Nat}{y:α}(hy:xs[k]?=some y)(hl:l<=k):(bubble xs k (k-l)).toList=xs.toList.take l++y::(xs.toList.drop l).take (k-l)++xs.toList.drop (k+1):=by
 have hk:k<xs.size:=(Kd.mp hy).1;have hL:xs.toList.length=xs.size:=by simp
 apply KA;intro i;rw[JT,getElem?_bubble hk _ (by lia),show k-(k-l)=l by lia]
 rw[JU,LL];have ht:(xs.toList.take l).length=l:=by rw[K5];lia
 rw[ht];by_cases h1:i<l
 ·rw[Jy h1,Ju (by lia),Ju (by lia),LD,Jy h1,JT]
 ·rw[Ju h1];by_cases h2:i=l
  ·subst h2;rw[Jy rfl,M5,hy];rfl
  ·rw[Ju h2,show i-l=(i-l-1)+1 by lia,L1,Nv,LL]
   have hm:((xs.toList.drop l).take (k-l)).length=k-l:=by rw[K5,LK];lia
   rw[hm];by_cases h3:i-l-1<k-l
   ·rw[Jy h3,Jy (by lia),LD,Jy h3,KJ,JT]
    congr 1;lia
   ·rw[Ju h3,Ju (by lia),KJ,JT]
    congr 1;lia
theorem wW{xs:Array α}(hi:i<=j)(hj:j<=xs.size):(mirror xs i j ((j-i) / 2)).toList=xs.toList.take i++((xs.toList.drop i).take (j-i)).reverse++xs.toList.drop j:=by
 have hL:xs.toList.length=xs.size:=by simp
 apply KA;intro k;rw[JT,getElem?_mirror_all hj,JU,LL];have ht:(xs.toList.take i).length=i:=by rw[K5];lia
 have hm:((xs.toList.drop i).take (j-i)).length=j-i:=by rw[K5,LK];lia
 rw[ht];by_cases h1:k<i
 ·rw[Jy h1,Ju (by lia),LD,Jy h1,JT]
 ·rw[Ju h1,LL,L5,hm];by_cases h2:k<j
  ·rw[Jy (by lia),Jy (by lia),List.getElem?_reverse (by lia),hm,LD,Jy (by lia),KJ,JT]
   congr 1;lia
  ·rw[Ju (by lia),Ju (by lia),KJ,JT]
   congr 1;lia
theorem PI.rev(h:PI n m p (b++c)):PI n m (kas_rev p b.length m) (b++c.reverse):=by
 have hl:b.length+c.length=m:=by rw[<- h.len,Jt]
 refine⟨?_,((List.reverse_perm c).append_left b).trans h.perm,h.le⟩;unfold kas_rev;rw[wW (by lia) (by rw[h.size];exact h.le),h.eq,JU b c,List.take_left,List.drop_left,show m-b.length=c.length by lia,List.take_left,<- JU b c,List.drop_left' (by rw[Jt];exact hl)]
theorem lX(h:a.length=m)(hm:1<=m):∃ b y,a=b++[y]:=by
 rcases NR a with rfl|⟨b,y,rfl⟩
 ·cases h;exact absurd hm (by decide)
 ·exact⟨b,y,by simp⟩
section
variable {k:Nat->Int} {n:Nat} {cmp:Nat->Nat->(Bool->Shared->Prop)->Shared->Prop} {I:Shared->Prop}
noncomputable def oi(k:Nat->Int)(n:Nat)(cmp:Nat->Nat->(Bool->Shared->Prop)->Shared->Prop)(I:Shared->Prop):Prop:=∀ i j C s,i<n->j<n->I s->(∀ s',I s'->C (decide (k i<k j)) s')->cmp i j C s
theorem pA(hc:oi k n cmp I){G:Nat->Shared->Prop}:∀(f m:Nat) (a:List Nat) (s:Shared),PI n m p a->1<=m->f=n-m->a.Pairwise (R k)->I s ->
  (∀ m' a' s',PI n m' p a'->m<=m'->a'.Pairwise (R k)->I s'->(∀ b y,a'=b++[y]->m'<n->k m'<k y)->G m' s')->(kas_asc p f m).kasWp cmp G s
 |0,m,a,s,h,h1,hf,hp,hI,g=>g m a s h (J6 m) hp hI fun _ _ _ hl=>by have:=h.le;lia
 |f+1,m,a,s,h,h1,hf,hp,hI,g=>by
  have hm:m<n:=by lia
  obtain⟨b,y,e⟩:=lX h.len h1;show cmp (p.getD m 0) (p.getD (m-1) 0) _ s;rw[h.nx hm,h.last e];have hy:y<m:=h.lt (by rw[e];simp)
  refine hc m y _ s hm (by lia) hI fun s' hI'=>?_
  by_cases c:k m<k y
  ·rw[Kj c];exact g m a s' h (J6 m) hp hI' fun b' y' e' _=>by
    rw[e] at e';have:[y]=[y']:=(List.append_inj' e' rfl).2
    cases this;exact c
  ·rw[JL c];refine pA hc f (m+1) (a++[m]) s' (h.step hm) (by lia) (by lia) ?_ hI' fun m' a' s2 h' hm' hp' hI2 gl=>g m' a' s2 h' (by lia) hp' hI2 gl
   refine K7.mpr ⟨hp,by simp,fun x hx z hz=>?_⟩
   rw[JE.mp hz];have hxm:=h.lt hx;have:k x<=k y:=by
    rw[e] at hx hp;rcases K4.mp hx with hx|hx
    ·exact ((K7.mp hp).2.2 x hx y (by simp)).le
    ·rw[JE.mp hx];exact ME _
   unfold R;lia
structure DI (k:Nat->Int) (b c:List Nat):Prop where
 Du:b.Pairwise fun x y=>R k y x
 less:∀ y∈b,∀ x∈c,k x<k y
 one:∀ x∈c,∀ y∈c,k x=k y
 up:c.Pairwise (· < ·)
theorem DI.rise(h:DI k b c):(b++c.reverse).reverse.Pairwise (R k):=by
 rw[MA,M6];refine K7.mpr ⟨?_,Mp.mpr h.Du,fun x hx y hy=>.inl (h.less y (Ml.mp hy) x hx)⟩;exact Nm (fun {x y} hx hy hl=>.inr ⟨h.one x hx y hy,hl⟩) h.up
theorem DI.next{x:Nat}(h:DI k b c)(hc:c≠[])(hx:∀ y∈c,k x<k y):DI k (b++c.reverse) [x]:=by
 refine⟨K7.mpr ⟨h.Du,Mp.mpr (Nm (fun {x y} hx hy hl=>.inr ⟨h.one x hx y hy,hl⟩) h.up),fun y hy z hz=>.inl (h.less y hy z (Ml.mp hz))⟩,fun y hy z hz=>?_,fun y hy z hz=>?_,by simp⟩
 ·rw[JE.mp hz];rcases K4.mp hy with hy|hy
  ·obtain⟨w,hw⟩:=MZ c hc;exact Int.lt_trans (hx w hw) (h.less y hy w hw)
  ·exact hx y (Ml.mp hy)
 ·rw[JE.mp hy,JE.mp hz]
theorem DI.more{x:Nat}(h:DI k b c)(he:∀ y∈c,k x=k y)(hc:c≠[])(hl:∀ y∈c,y<x):DI k b (c++[x]):=by
 refine⟨h.Du,fun y hy z hz=>?_,fun y hy z hz=>?_,K7.mpr ⟨h.up,by simp,fun y hy z hz=>by rw[JE.mp hz];exact hl y hy⟩⟩
 ·rcases K4.mp hz with hz|hz
  ·exact h.less y hy z hz
  ·rw[JE.mp hz];obtain⟨w,hw⟩:=MZ c hc;rw[he w hw];exact h.less y hy w hw
 ·rcases K4.mp hy with hy|hy<;>rcases K4.mp hz with hz|hz
  ·exact h.one y hy z hz
  ·rw[JE.mp hz];exact (he y hy).symm
  ·rw[JE.mp hy];exact he z hz
  ·rw[JE.mp hy,JE.mp hz]
theorem i_(hc:oi k n cmp I){G:Array Nat×Nat×Nat->Shared->Prop}:∀(f:Nat) (p:Array Nat) (m q:Nat) (b c:List Nat) (s:Shared),PI n m p (b++c)->c.length=q+1->DI k b c->f=n-m->I s ->
  (∀ p' m' q' b' c' s',PI n m' p' (b'++c')->c'.length=q'+1->DI k b' c'->I s'->G (p',m',q') s')->(kas_desc f p m q).kasWp cmp G s
 |0,p,m,q,b,c,s,h,hl,hd,hf,hI,g=>g p m q b c s h hl hd hI
 |f+1,p,m,q,b,c,s,h,hl,hd,hf,hI,g=>by
  have hm:m<n:=by lia
  obtain⟨c0,y,e⟩:=lX hl (by lia)
  have hbl:b.length+(q+1)=m:=by rw[<- hl,<- Jt,h.len]
  have ne:c≠[]:=by rw[e];simp
  have hy:y∈c:=by rw[e];simp
  have hya:y<m:=h.lt (JQ _ hy);have e1:p.getD m 0=m:=h.nx hm;have e2:p.getD (m-1) 0=y:=h.last (b:=b++c0) (by rw[e,JU])
  show cmp (p.getD m 0) (p.getD (m-1) 0) _ s;rw[e1,e2];refine hc m y _ s hm (by lia) hI fun s' hI'=>?_
  by_cases c1:k m<k y
  ·rw[Kj c1];have hx:∀ z∈c,k m<k z:=fun z hz=>by rw[hd.one z hz y hy];exact c1
   show KasT.kasWp cmp (if q > 0 then _ else _) G s'
   by_cases hq:q > 0
   ·rw[Jy hq,show m-(q+1)=b.length by lia]
    exact i_ hc f _ (m+1) 0 (b++c.reverse) [m] s' (h.rev.step hm) rfl (hd.next ne hx) (by lia) hI' g
   ·rw[Ju hq];have e3:c.reverse=c:=by
     have:c.length=1:=by lia
     obtain⟨z,rfl⟩:=NA.mp this;rfl
    exact i_ hc f p (m+1) 0 (b++c.reverse) [m] s' (by rw[e3];exact h.step hm) rfl (hd.next ne hx) (by lia) hI' g
  ·rw[JL c1];show cmp y m _ s';refine hc y m _ s' (by lia) hm hI' fun s2 hI2=>?_
   by_cases c2:k y<k m
   ·rw[Kj c2];exact g p m q b c s2 h hl hd hI2
   ·rw[JL c2];refine i_ hc f p (m+1) (q+1) b (c++[m]) s2 (by rw[<- JU];exact h.step hm) (by rw[Jt,hl];rfl) (hd.more (fun z hz=>?_) ne fun z hz=>h.lt (JQ _ hz)) (by lia) hI2 g
    rw[hd.one z hz y hy];lia
theorem qU(hc:oi k n cmp I)(h:PI n m p a)(h1:1<=m)(hr:a.reverse.Pairwise (R k))(hI:I s)
  (g:∀ m' p' a' s',PI n m' p' a'->1<=m'->a'.Pairwise (R k)->I s'->G (m',p') s'):(kas_tail3 m n p).kasWp cmp G s:=by
 unfold kas_tail3;rw[LR];have hv:=PI.rev (b:=[]) (c:=a) h;exact pA hc (n-m) m a.reverse s hv h1 rfl hr hI fun m' a' s' h' hm' hp' hI' _=>g m' _ a' s' h' (by lia) hp' hI'
theorem qA(hc:oi k n cmp I)(h:PI n m p a)(hm:m<n)(hd:DI k a [m])(hI:I s)
  (g:∀ m' p' a' s',PI n m' p' a'->1<=m'->a'.Pairwise (R k)->I s'->G (m',p') s'):(kas_descPart m n p).kasWp cmp G s:=by
 unfold kas_descPart;rw[LR];refine i_ hc (n-(m+1)) p (m+1) 0 a [m] s (h.step hm) rfl hd rfl hI fun p' m' q' b' c' s' h' hl' hd' hI'=>?_;have hbl:b'.length+(q'+1)=m':=by rw[<- hl',<- Jt,h'.len]
 show KasT.kasWp cmp (if q' > 0 then _ else _) G s'
 by_cases hq:q' > 0
 ·rw[Jy hq];show (kas_tail3 m' n (kas_rev p' (m'-(q'+1)) m')).kasWp cmp G s';rw[show m'-(q'+1)=b'.length by lia]
  exact qU hc h'.rev (by lia) hd'.rise hI' g
 ·rw[Ju hq];have e3:c'.reverse=c':=by
   have:c'.length=1:=by lia
   obtain⟨z,rfl⟩:=NA.mp this;rfl
  exact qU hc h' (by lia) (by rw[<- e3];exact hd'.rise) hI' g
theorem uQ(hc:oi k n cmp I)(hn:1<=n)(hI:I s)
  (g:∀ m' p' a' s',PI n m' p' a'->1<=m'->a'.Pairwise (R k)->I s'->G (m',p') s'):(kas_count n (List.toArray (List.range n))).kasWp cmp G s:=by
 unfold kas_count;rw[LR];have h0:PI n 1 (List.toArray (List.range n)) [0]:=by
  refine⟨?_,List.Perm.refl _,hn⟩;show List.range n=[0]++List.range' 1 (n-1);rw[Lu,show n=(n-1)+1 by lia,K6];rfl
 refine pA hc (n-1) 1 [0] s h0 (J6 1) rfl (by simp) hI fun m a s' h hm hp hI' gl=>?_
 show KasT.kasWp cmp (if (m == n)=true then _ else _) G s'
 by_cases e:m=n
 ·subst e;rw[Jy (Kq m)];exact g m _ a s' h hm hp hI'
 ·rw[Ju (by simpa using e)]
  have hmn:m<n:=by have:=h.le;lia
  obtain⟨b,y,ea⟩:=lX h.len hm;have ky:=gl b y ea hmn;have hya:y<m:=h.lt (by rw[ea];simp)
  by_cases h2:m > 1
  ·rw[Jy h2];obtain⟨x,r,ex⟩:∃ x r,a=x::r:=by
    cases a with
    |nil=>have:=h.len;rw[Ke] at this;lia
    |cons x r=>exact⟨x,r,rfl⟩
   have hxa:x<m:=h.lt (by rw[ex];simp)
   show cmp ((List.toArray (List.range n)).getD 0 0) ((List.toArray (List.range n)).getD (m-1) 0) _ s';rw[h.at (i:=0) (x:=x) (by rw[ex];rfl),h.last ea]
   refine hc x y _ s' (by lia) (by lia) hI' fun s2 hI2=>?_
   by_cases c:k x<k y
   ·rw[Kj c];exact g m _ a s2 h hm hp hI2
   ·rw[JL c];have hv:=PI.rev (b:=[]) (c:=a) h;refine qA hc hv hmn ⟨Mp.mpr hp,fun z hz w hw=>?_,fun z hz w hw=>by rw[JE.mp hz,JE.mp hw],by simp⟩ hI2 g
    rw[JE.mp hw];have hz':=Ml.mp hz;have hxz:k x<=k z:=by
     rw[ex] at hz' hp;rcases J5.mp hz' with rfl|hz'
     ·exact ME _
     ·exact ((Kn.mp hp).1 z hz').le
    lia
  ·rw[Ju h2];have hm1:m=1:=by lia
   have hb:b=[]:=by
    have:=h.len;rw[ea,Jt,hm1] at this;simp only[J7,Ke] at this;exact Nx.mp (by lia)
   subst hb;refine qA hc h hmn ⟨by rw[ea];simp,fun z hz w hw=>?_,fun z hz w hw=>by rw[JE.mp hz,JE.mp hw],by simp⟩ hI' g
   rw[JE.mp hw];rw[ea] at hz;rw[JE.mp hz];exact ky
theorem jJ(hc:oi k n cmp I){G:Nat->Shared->Prop}{t:Nat}(h:PI n t p a)(ht:t<n)(hp:a.Pairwise (R k)):∀(f l r:Nat) (s:Shared),l<=r->r<=t->r-l<=f->(∀ i x,i<l->a[i]?=some x->k x<=k t)->(∀ i x,r<=i->a[i]?=some x->k t<k x)->I s ->
  (∀ l' s',l'<=t->(∀ i x,i<l'->a[i]?=some x->k x<=k t)->(∀ i x,l'<=i->a[i]?=some x->k t<k x)->I s'->G l' s')->(kas_place p t f l r).kasWp cmp G s
 |0,l,r,s,h1,h2,h3,hlo,hhi,hI,g=>g l s (by lia) hlo (fun i x hi e=>hhi i x (by lia) e) hI
 |f+1,l,r,s,h1,h2,h3,hlo,hhi,hI,g=>by
  show KasT.kasWp cmp (if l >= r then _ else _) G s
  by_cases hlr:l >= r
  ·rw[Jy hlr];exact g l s (by lia) hlo (fun i x hi e=>hhi i x (by lia) e) hI
  ·rw[Ju hlr];have hmid:(l+r) / 2<a.length:=by rw[h.len];lia
   have em:a[(l+r) / 2]?=some a[(l+r) / 2]:=Jq hmid;have hma:a[(l+r) / 2]<t:=h.lt (JY hmid);have mono:∀ i j x y,i<=j->a[i]?=some x->a[j]?=some y->k x<=k y:=fun i j x y hij ex ey=>by
    rcases Ks i j with c|c
    ·obtain⟨hi,rfl⟩:=Jz.mp ex;obtain⟨hj,rfl⟩:=Jz.mp ey;exact (List.pairwise_iff_getElem.mp hp i j hi hj c).le
    ·have:i=j:=Nat.le_antisymm hij c;subst this;rw[ex] at ey;cases ey;exact ME _
   show cmp (p.getD t 0) (p.getD ((l+r) / 2) 0) _ s;rw[h.nx ht,h.at em];refine hc t _ _ s ht (by lia) hI fun s' hI'=>?_
   by_cases c:k t<k a[(l+r) / 2]
   ·rw[Kj c];exact jJ hc h ht hp f l ((l+r) / 2) s' (by lia) (by lia) (by lia) hlo (fun i x hi e=>Int.lt_of_lt_of_le c (mono _ i _ x hi em e)) hI' g
   ·rw[JL c];exact jJ hc h ht hp f ((l+r) / 2+1) r s' (by lia) h2 (by lia) (fun i x hi e=>Int.le_trans (mono i _ x _ (by lia) e em) (by lia)) hhi hI' g
theorem wo(hc:oi k n cmp I){G:Array Nat->Shared->Prop}:∀(f:Nat) (p:Array Nat) (t:Nat) (a:List Nat) (s:Shared),PI n t p a->a.Pairwise (R k)->f=n-t->I s ->
  (∀ p' a' s',PI n n p' a'->a'.Pairwise (R k)->I s'->G p' s')->(kas_bin f p t).kasWp cmp G s
 |0,p,t,a,s,h,hp,hf,hI,g=>by
  have:t=n:=by have:=h.le;lia
  subst this;exact g p a s h hp hI
 |f+1,p,t,a,s,h,hp,hf,hI,g=>by
  have ht:t<n:=by lia
  show KasT.kasWp cmp ((kas_place p t t 0 t).bind _) G s;rw[LR];refine jJ hc h ht hp t 0 t s (Kh _) (J6 _) (by lia) (fun i x hi _=>absurd hi (N1 i)) (fun i x hi e=>?_) hI fun l s' hl hlo hhi hI'=>?_
  ·have:=(Jz.mp e).1;rw[h.len] at this;lia
  ·have et:p[t]?=some t:=by
    rw[<- JT,h.eq,KH (by rw[h.len];exact J6 t),h.len,M5,List.getElem?_range' (by lia)];simp
   have hla:l<=a.length:=by rw[h.len];exact hl
   have e1:(bubble p t (t-l)).toList=(a.take l++t::a.drop l)++List.range' (t+1) (n-(t+1)):=by
    rw[vb et hl,h.eq,List.take_append_of_le_length hla,List.drop_append_of_le_length hla,show n-t=(n-(t+1))+1 by lia,K6]
    have e2:(a.drop l).length=t-l:=by rw[LK,h.len]
    have e3:∀ r:List Nat,(a++t::r).drop (t+1)=r:=fun r=>by
     rw[show a++t::r=(a++[t])++r by simp]
     exact List.drop_left' (by rw[Jt,h.len];rfl)
    rw[List.take_left' e2,e3]
   have hP:PI n (t+1) (bubble p t (t-l)) (a.take l++t::a.drop l):=by
    refine⟨e1,?_,ht⟩;have:(a.take l++t::a.drop l).Perm (a++[t]):=by
     have h1:(a.take l++t::a.drop l).Perm (t::(a.take l++a.drop l)):=Mm;rw[Lk] at h1;exact h1.trans (List.perm_append_singleton t a).symm
    rw[Lj];exact this.trans (h.perm.append_right [t])
   refine wo hc f _ (t+1) _ s' hP ?_ (by lia) hI' g
   have hp1:=(Lk l a) ▸ hp;obtain⟨q1,q2,q3⟩:=K7.mp hp1;refine K7.mpr ⟨q1,Kn.mpr ⟨fun x hx=>?_,q2⟩,fun x hx y hy=>?_⟩
   ·obtain⟨i,hi⟩:=NS.mp hx;rw[KJ] at hi;exact .inl (hhi (l+i) x (by lia) hi)
   ·rcases J5.mp hy with rfl|hy
    ·obtain⟨i,hi⟩:=NS.mp hx;rw[LD] at hi
     split at hi
     ·rename_i hil;have:=hlo i x hil hi;have hxt:=h.lt (List.mem_of_mem_take hx);unfold R;lia
     ·cases hi
    ·exact q3 x hx y hy
theorem qN(hc:oi k n cmp I){G:Array Nat->Shared->Prop}(hn:1<=n)(hI:I s)(g:∀ p s',p.toList.Perm (List.range n)->p.toList.Pairwise (R k)->I s'->G p s'):(kas_sort n).kasWp cmp G s:=by
 unfold kas_sort;rw[LR];have fin:∀ p a s',PI n n p a->a.Pairwise (R k)->I s'->G p s':=fun p a s' h hp hI'=>by
  have e:p.toList=a:=by rw[h.eq,M5,List.range'_zero,JK]
  refine g p s' ?_ ?_ hI'<;>rw[e]
  ·exact h.perm
  ·exact hp
 refine uQ hc hn hI fun m p a s' h h1 hp hI'=>?_;show KasT.kasWp cmp (if m<n then _ else _) G s'
 by_cases hm:m<n
 ·rw[Jy hm];show (kas_bin (n-max m 1) p (max m 1)).kasWp cmp G s';rw[show max m 1=m by lia]
  exact wo hc (n-m) p m a s' h hp rfl hI' fin
 ·rw[Ju hm];have:m=n:=by have:=h.le;lia
  subst this;exact fin p a s' h hp hI'
end
end SP
abbrev BP(qual:Str)(scope:Scope)(L f:Addr)(cd:Value)(cl:List (Str×Addr)):Env:=PySem.W.envX qual scope L f cd cl
noncomputable def qD(X:Cx)(A:Around)(N:List Str)(qual:Str)(scope:Scope)(f:Addr)(cd:Value)(cl:List (Str×Addr))(s:Shared)(H:Hp):Cx where
 prog:=X.prog
 w:=X.w
 K:=X.K
 mg:=X.mg
 base:=X.base
 A:=A.deeper (BP qual scope s.heap.objs.size f cd cl)
 N:=N
 s₀:=s
 H₀:=H
 env:=BP qual scope s.heap.objs.size f cd cl
 outer:=X.stack
 stack:=BP qual scope s.heap.objs.size f cd cl::X.stack
 ex:=[]
 calm:=true
 fn:=fun _=>false
 pn:=[]
 xe:=fun _ _=>False
section
variable {X:Cx} {pins:List (Addr×Obj)} {σ:St} {H:Hp} {s:Shared}
theorem yD(I:Inv X pins σ H s)(hA:A.frames=some X.stack)(hd:A.handled=none){qual:Str}{v:V}{u:Value}{cd:Value}{h₁:Heap}{tk:Nat}
  (hk:scope.kind=.function) (rv:RelV v u) (hloc:scope.names.lookup x=some .local) (hns:h₁.Ns s.heap.objs.size (fun y=>[(x,u)].reverse.lookup y)) (old:∀ b o,s.heap.get? b=some o->h₁.get? b=some o)
  (hlen:σf.length=N.length) (hcl:∀ y c,cl.lookup y=some c->X.env.cells.lookup y=some c) (hhas:∀ y,(scope.names.lookup y=some .cell\/scope.names.lookup y=some .free)->∃ c,cl.lookup y=some c)
  (hf:∀(i:Nat) (y:Str) (v:V),N[i]?=some y->σf[i]?=some (some v)->scope.names.lookup y=some .free/\∃ c u,cl.lookup y=some c/\s.heap.IsCell c (some u)/\RelV v u) :
  Inv (qD X A (x::N) qual scope f cd cl s H) [] (some v::σf) H {s with heap:=h₁,toks:=tk}:=by
 have noA:∀ b:Addr,b∉(qD X A (x::N) qual scope f cd cl s H).ex:=fun b z=>absurd (show b∈([]:List Addr) from z) (by simp)
 refine⟨⟨I.ok.mod,hk,rfl,rfl,J6 _,fun y z c e1 e2=>I.ok.inj y z c (hcl y c e1) (hcl z c e2),hhas,fun y c z _=>(by cases z),fun _=>hd,Around.frames_deeper hA,.inr ⟨rfl,rfl⟩,fun b z=>absurd z (noA b),I.bs,JD I.ok.yN I.sz,fun b _ _=>noA b,fun b z=>absurd z (noA b),I.stack,I.iR,I.ok.tabs.un I.base⟩,
  rfl,I.bare,Un.kept old,⟨_,hns,fun i y w e1 e2 e3=>?_⟩,fun y c e=>?_,I.aU.fresh (J6 _),fun y c e=>I.dR y c (hcl y c e),fun p hp=>absurd (show p∈([]:List (Addr×Obj)) from hp) (by simp),I.aU.kept old,?_⟩
 ·cases i with
  |zero =>
   have e1':some x=some y:=e1;have e2':some (some v)=some (some w):=e2
   cases e1';cases e2'
   exact⟨u,rv,.inl ⟨hloc,by simp⟩⟩
  |succ i =>
   obtain⟨h1,c,u',h2,h3,h4⟩:=hf i y w e1 e2;obtain⟨o,ho,hd'⟩:=h3;exact⟨u',h4,.inr ⟨.inr h1,c,h2,o,old _ _ ho,hd'⟩⟩
 ·obtain⟨v',o,ho,hd'⟩:=I.cell y c (hcl y c e);exact⟨v',o,old _ _ ho,hd'⟩
 ·show (some v::σf).length=(x::N).length;rw[J7,J7,hlen]
theorem xw(I:Inv X pins σ H s)(hr:bM (k+1) A)(hA:A.frames=some X.stack){qual:Str}{v:V}{u:Value}{f:Addr}{t:TE}{Q:VK}
  (hk:scope.kind=.function) (hco:scope.isCoroutine=false) (hgen:scope.isGenerator=false) (hcell:∀ y∈scope.names,y.2≠.cell) (rv:RelV v u) (hloc:scope.names.lookup x=some .local)
  (ho:s.heap.get? f=some (PySem.W.kla_obj "<lambda>" qual params body scope cl pm c' ctv)) (hcd:s.heap.CodeRec (.ref c') qual)
  (hbind:∀ u,bindArgs (PySem.W.kla_fn "<lambda>" qual params body scope cl pm (.ref c') ctv) ⟨[u],[]⟩=pure [(x,u)])
  (hlen:σf.length=N.length) (hcl:∀ y c,cl.lookup y=some c->X.env.cells.lookup y=some c) (hhas:∀ y,(scope.names.lookup y=some .cell\/scope.names.lookup y=some .free)->∃ c,cl.lookup y=some c)
  (hf:∀(i:Nat) (y:Str) (v:V),N[i]?=some y->σf[i]?=some (some v)->scope.names.lookup y=some .free/\∃ c u,cl.lookup y=some c/\s.heap.IsCell c (some u)/\RelV v u)
  (hb:PE (qD X A (x::N) qual scope f (.ref c') cl s H) body t) (hq:t (some v::σf) H Q) :
  wpAny (model X.prog X.w) A (call (.ref f) [u]) (EP X pins σ Q) (fun _ _=>False) s:=by
 refine wpAny_call (PySem.W.kla_callFunE hr.depth ho rfl hco hgen rfl hcd ?_);rw[hbind];refine Jx (wpAny_newFunctionEnv hcell (fun y hy=>by rw[JE.mp hy];exact hloc) (fun h₁ hns hsb=>⟨I.nolimit.fresh _ hsb,?_⟩) hk)
 have old:∀ b o,s.heap.get? b=some o->h₁.get? b=some o:=fun b o e=>hsb.extBut b o (JP (JA e)) (Jr _ e);have J:=yD (tk:=s.toks+1) (qual:=qual) (f:=f) (cd:=.ref c') I hA hr.hd hk rv hloc hns old hlen hcl hhas hf;refine PySem.W.kla_codeExpr (Kw (hb [] _ _ H Q J hq) (fun w s' h=>?_) fun _ _ h=>h.elim);obtain⟨v',H',J',r',q'⟩:=h;exact I.after ⟨v',H',J'.os,J'.bare,J'.base,J'.aU,r',q'⟩
end
inductive eQ:Hp->Hp->Prop
 |refl {H:Hp}:eQ H H
 |more {H H1:Hp} {p:Addr} {o:HO}:eQ H H1->H1 p=none->eQ H (upd H1 p o)
theorem eQ.same(g:eQ H H1):cu H H1:=by
 induction g with
 |refl=>exact cu.refl _
 |more g n ih=>exact fun b o e=>by rw[ao (aF (ih b o e) n)];exact ih b o e
theorem eQ.trans{H2:Hp}(a:eQ H H1)(b:eQ H1 H2):eQ H H2:=by
 induction b with
 |refl=>exact a
 |more _ n ih=>exact .more ih n
theorem i6{i j:Int}{ti tj:Tok}{c:Value}:∀ l:List Value,TriplesOk l->TriplesOk (l++[.int i ti,.int j tj,c])
 |[],_=>trivial
 |.int _ _::.int _ _::_::r,h=>i6 r (show TriplesOk r from h)
theorem kB{p:Pos}{i j:Int}{ti tj:Tok}{c cv:Value}:∀ l:List Value,TriplesOk l->codeAmong p (l++[.int i ti,.int j tj,c])=some cv->codeAmong p l=some cv\/cv=c
 |[],_,e=>by
  have e':(if (i == p.line && j == p.col)=true then some c else codeAmong p [])=some cv:=e
  by_cases z:(i == p.line && j == p.col)=true
  ·rw[Jy z] at e';cases e';exact .inr rfl
  ·rw[Ju z] at e';cases e'
 |.int a ta::.int b tb::d::r,h,e=>by
  have e':(if (a == p.line && b == p.col)=true then some d else codeAmong p (r++[.int i ti,.int j tj,c]))=some cv:=e
  show (if (a == p.line && b == p.col)=true then some d else codeAmong p r)=some cv\/_
  by_cases z:(a == p.line && b == p.col)=true
  ·rw[Jy z] at e' ⊢;exact .inl e'
  ·rw[Ju z] at e' ⊢;exact kB r (show TriplesOk r from h) e'
theorem pY(q:Str)(more:Array Value):wC (#[.str q 0]++more)=q:=by
 unfold wC;rw[LO];rfl
structure iB (H:Hp) (f:Addr) (q:Str) (params:Arguments) (body:Expr) (scope:Scope) (cl:List (Str×Addr)) (c':Addr) (pm ctv:Value):Prop where
 fn:H f=some (.hV (PySem.W.kla_obj "<lambda>" q params body scope cl pm c' ctv) (.own f))
 cd:Ax H q (.ref c')
section
variable {X:Cx} {pins:List (Addr×Obj)} {σ:St} {H:Hp} {s:Shared} {E:Value->Shared->Prop}
theorem iB.up(x:iB H f q params body scope cl c' pm ctv)(g:∀ b o u,H b=some (.hV o u)->H1 b=some (.hV o u)):iB H1 f q params body scope cl c' pm ctv:=
 ⟨g _ _ _ x.fn,let ⟨c,oc,vs,t,e1,e2,e3⟩:=x.cd;⟨c,oc,vs,t,e1,g _ _ _ e2,e3⟩⟩
theorem iB.get(x:iB H f q params body scope cl c' pm ctv)(I:Inv X pins σ H s):
  s.heap.get? f=some (PySem.W.kla_obj "<lambda>" q params body scope cl pm c' ctv)/\s.heap.CodeRec (.ref c') q:=by
 obtain⟨c,oc,vs,t,e1,e2,e3,e4⟩:=x.cd;exact⟨(I.aU f _ x.fn).1,c,oc,vs,t,e1,(I.aU c _ e2).1,e3,e4⟩
theorem Inv.vU{o:Obj}{t':Nat}(I:Inv X pins σ H s)(k:∀ b u,s.heap.get? b=some u->h'.get? b=some u)(hp:s.heap.objs.size<=f)(e:h'.get? f=some o):Inv X pins σ (upd H f (.hV o (.own f))) {s with heap:=h',toks:=t'}:=
 I.laid k hp ⟨e,o,e⟩
theorem vi(I:Inv X pins σ H s){c P:Addr}(hx:x∈dS)(ht:PySem.W.tabIn X.K x=some (c,P))(hcode:X.env.code=.ref c)(hq:X.env.qual=x++".<locals>."){pos:Pos}
  (hdef:defaultsOf params X.env=([],[])) (hcl:closureFor scope X.env=pure cl)
  (h:∀ f c' pm ctv H1 s1,eQ H H1->Inv X pins σ H1 s1->iB H1 f ((x++".<locals>.")++"<lambda>") params body scope cl c' pm ctv->Q (.ref f) s1) :
  wpAny (model X.prog X.w) X.A (eval (.Lambda params body scope pos) X.env) Q E s:=by
 have hm:(c,P,(x++".<locals>.")++"<lambda>")∈cw X.K:=LU.mpr ⟨x,hx,by rw[ht];rfl⟩
 obtain⟨more,hP⟩:=(I.ok.tabs.un I.base) _ hm;have C:PySem.W.CodeHd s.heap c P:=(I.ok.mod.codes _ hm).keeps I.bk;obtain⟨qs,eP,tr,fa⟩:=I.aU P _ hP;have hns:=I.ok.mod.glob.keeps I.bk;have hgP:mainGlobals≠P:=fun z=>by
  obtain⟨o,es,ep,e,_⟩:=I.ok.mod.glob;have:=(I.bs _ _ e).2;rw[z,hP] at this;cases this
 have hb:s.heap.BuiltinsAt X.mg P:=by
  obtain⟨bm,ob,b1,b2,b3,b4,b5⟩:=I.ok.mod.bm;refine⟨bm,ob,b1,b2,fun z=>?_,fun z=>?_,I.bk _ _ b3,b4,b5⟩
  ·obtain⟨o,es,ep,e,hd,_⟩:=I.ok.mod.glob;rw[z,e] at b3;cases b3;rw[hd] at b5;cases b5.2
  ·have:=(I.bs _ _ b3).2;rw[z,hP] at this;cases this
 refine PySem.W.kla_eval hdef ?_;rw[hq]
 cases ca:codeAmong pos qs.toList with
 |some cv =>
  have il:=fa pos cv ca;rw[pY] at il;obtain⟨c',oc,vs,t,rfl,e2,e3⟩:=il;refine PySem.W.kla_makeFunctionHit hcl I.ok.glob hns hcode C eP tr ca hb fun ctv h' tk hk hsz=>?_;have n0:H h'.objs.size=none:=I.aU.fresh hsz;have J:=I.vU (f:=h'.objs.size) (t':=tk) (h':=h'.push {cls:=.type "function",data:=.func (PySem.W.kla_fn "<lambda>" ((x++".<locals>.")++"<lambda>") params body scope cl ((X.mg "__name__").getD .none) (.ref c') ctv)}) (fun b u e=>Jr _ (hk b u e)) hsz (JC _ rfl);exact h _ c' _ ctv _ _ (.more .refl n0) J ⟨ax,c',oc,vs,t,rfl,by rw[ao (aF e2 n0)];exact e2,e3⟩
 |none =>
  refine PySem.W.kla_makeFunction hcl I.ok.glob hns hcode C eP tr ca hgP hb fun c' ctv h' tk hx2 hge hlt hrec htb=>?_;obtain⟨c2,oc,vs,t,e2,hoc,hd,hv⟩:=hrec;cases e2;have nP:P≠c':=fun z=>absurd (JA eP) (by rw[z];exact M_.mpr hge)
  have n1:H c'=none:=I.aU.fresh hge;have keep:∀ b u,b≠P->s.heap.get? b=some u->h'.get? b=some u:=fun b u hb' e=>hx2 b u hb' e;have H1ne:∀ b u,H b=some u->upd H c' (.hV oc (.own c')) b=some u:=fun b u e=>by rw[ao (aF e n1)];exact e
  have hoP:∀ y,H P≠some (.own y):=fun y z=>by rw[hP] at z;cases z
  have J1:Inv X pins σ (upd H c' (.hV oc (.own c'))) {s with heap:=h',toks:=tk}:=by
   refine I.un ⟨fun b o e n _ _=>keep b o (fun z=>by rw[z,hP] at n;cases n) e,fun b o e n _ _=>⟨o.slots,keep b o (fun z=>by rw[z,hP] at n;cases n) e⟩,fun b o e n _=>?_,fun b o e _=>?_,fun b xs e=>H1ne b _ e,fun b o u e=>H1ne b _ e,fun b ps e=>⟨#[],by rw[H1ne b _ e,MF]⟩⟩ fun b u e=>?_
   ·rw[ao (fun z=>absurd (JA e) (by rw[z];exact M_.mpr hge))];exact n
   ·by_cases z:b=P
    ·rw[z];exact⟨_,htb⟩
    ·exact⟨o,keep b o z e⟩
   ·by_cases z:b=c'
    ·subst z;rw[ax] at e;cases e;exact⟨hoc,oc,hoc⟩
    ·rw[ao z] at e;by_cases z2:b=P
     ·subst z2;rw[hP] at e;cases e;refine⟨_,htb,by rw[LO];exact i6 _ tr,fun p cv hc=>?_⟩
      rw[LO] at hc;rcases kB _ tr hc with q|q
      ·obtain⟨c2,oc2,vs2,t2,g1,g2,g3⟩:=fa p cv q;exact⟨c2,oc2,vs2,t2,g1,H1ne _ _ g2,g3⟩
      ·rw[pY];exact⟨c',oc,vs,t,q,ax,hd,hv⟩
     ·refine (I.aU b u e).jv (fun c v hc q=>keep c v ?_ q) (fun c q=>H1ne c _ q) (fun c xs q=>H1ne c _ q) fun c _ _ q=>H1ne c _ q;rcases hc with rfl|hc
      ·exact z2
      ·exact fun z3=>hoP b (by rw[<- z3];exact hc)
  have n2:upd H c' (.hV oc (.own c')) h'.objs.size=none:=J1.aU.fresh (J6 _);have J:=J1.vU (f:=h'.objs.size) (t':=tk) (h':=h'.push (PySem.W.kla_obj "<lambda>" ((x++".<locals>.")++"<lambda>") params body scope cl ((X.mg "__name__").getD .none) c' ctv)) (fun b u e=>Jr _ e) (J6 _) (JC _ rfl);exact h _ c' _ ctv _ _ (.more (.more .refl n1) n2) J ⟨ax,c',oc,vs,t,rfl,by rw[ao (aF ax n2)];exact ax,hd,hv⟩
end
section
variable {α β:Type}
noncomputable def iI(p:Int×α):List (Int×α)->List (Int×α)
 |[]=>[p]
 |q::r=>if p.1<=q.1 then p::q::r else q::iI p r
noncomputable def fB:List (Int×α)->List (Int×α)
 |[]=>[]
 |p::r=>iI p (fB r)
abbrev DX(l:List (Int×α)):Prop:=l.Pairwise fun p q=>p.1<=q.1
noncomputable def atK(a:Int)(l:List (Int×α)):List (Int×α):=l.filter fun p=>decide (p.1=a)
theorem iw(p:Int×α):∀ l,(iI p l).Perm (p::l)
 |[]=>.refl _
 |q::r=>by
  unfold iI;split
  ·exact .refl _
  ·exact ((iw p r).cons q).trans (List.Perm.swap p q r)
theorem gx:∀ l:List (Int×α),(fB l).Perm l
 |[]=>.refl _
 |p::r=>(iw p _).trans ((gx r).cons p)
theorem qB{p:Int×α}:∀{l:List (Int×α)},DX l->DX (iI p l)
 |[],_=>List.pairwise_singleton _ _
 |q::r,h=>by
  obtain⟨h1,h2⟩:=Kn.mp h;unfold iI;split
  ·rename_i c;exact Kn.mpr ⟨fun z hz=>by
    rcases J5.mp hz with rfl|hz
    ·exact c
    ·exact Int.le_trans c (h1 z hz),h⟩
  ·rename_i c;refine Kn.mpr ⟨fun z hz=>?_,qB h2⟩;rcases J5.mp ((iw p r).mem_iff.mp hz) with rfl|hz
   ·lia
   ·exact h1 z hz
theorem o8:∀ l:List (Int×α),DX (fB l)
 |[]=>List.Pairwise.nil
 |_::r=>qB (o8 r)
theorem b9(a:Int)(p:Int×α)(l:List (Int×α)):atK a (p::l)=if p.1=a then p::atK a l else atK a l:=by
 unfold atK;rw[List.filter_cons];by_cases z:p.1=a
 ·rw[Jy z,Jy (Kj z)]
 ·rw[Ju z,Ju (by simp[z])]
theorem rD{a:Int}{p:Int×α}:∀{l:List (Int×α)},atK a (iI p l)=atK a (p::l)
 |[]=>rfl
 |q::r=>by
  unfold iI;split
  ·rfl
  ·rename_i c;rw[b9,rD,b9,b9,b9];by_cases z:p.1=a
   ·have z2:¬ q.1=a:=by lia
    simp only[z,z2,Lh,KY]
   ·simp only[z,KY]
theorem nR{a:Int}:∀ l:List (Int×α),atK a (fB l)=atK a l
 |[]=>rfl
 |p::r=>by
  show atK a (iI p (fB r))=_;rw[rD,b9,b9,nR r]
theorem jF{a:Int}:∀{l:List (Int×α)},(∀ p∈l,a<p.1)->atK a l=[]
 |[],_=>rfl
 |p::r,h=>by
  have:=h p (JG ..);rw[b9,Ju (by lia),jF fun q hq=>h q (J8 _ hq)]
theorem kA:∀{l m:List (Int×α)},DX l->DX m->(∀ a,atK a l=atK a m)->l=m
 |[],[],_,_,_=>rfl
 |[],q::m,_,_,h=>by
  have:=h q.1;rw[b9,Jy rfl] at this;cases this
 |p::l,[],_,_,h=>by
  have:=h p.1;rw[b9,Jy rfl] at this;cases this
 |p::l,q::m,hl,hm,h=>by
  obtain⟨l1,l2⟩:=Kn.mp hl;obtain⟨m1,m2⟩:=Kn.mp hm;have e:p.1=q.1:=by
   rcases Int.lt_trichotomy p.1 q.1 with z|z|z
   ·have q1:=h p.1;rw[b9,Jy rfl,b9,Ju (by lia),jF (l:=m) fun r hr=>by have:=m1 r hr;lia] at q1
    cases q1
   ·exact z
   ·have q1:=h q.1;rw[b9,Ju (by lia),b9,Jy rfl,jF (l:=l) fun r hr=>by have:=l1 r hr;lia] at q1
    cases q1
  have q1:=h p.1;rw[b9,Jy rfl,b9,Jy e.symm] at q1;obtain⟨q2,q3⟩:=List.cons.inj q1;subst q2;congr 1;refine kA l2 m2 fun a=>?_;have q4:=h a;rw[b9,b9] at q4;by_cases z:p.1=a
  ·rw[Jy z,Jy z] at q4;exact (List.cons.inj q4).2
  ·rw[Ju z,Ju z] at q4;exact q4
theorem o7{l m:List (Int×α)}(hm:DX m)(h:∀ a,atK a m=atK a l):m=fB l:=kA hm (o8 l) fun a=>by rw[h a,nR]
abbrev DY(R:α->β->Prop):List (Int×α)->List (Int×β)->Prop:=Paired fun p q=>p.1=q.1/\R p.2 q.2
theorem wX{R:α->β->Prop}{p:Int×α}{q:Int×β}(h:p.1=q.1/\R p.2 q.2){l:List (Int×α)}{m:List (Int×β)}(k:DY R l m):DY R (iI p l) (iI q m):=by
 induction k with
 |nil=>exact .cons h .nil
 |cons r t ih =>
  unfold iI;split
  ·rename_i z;rw[Jy (by rw[<- h.1,<- r.1];exact z)]
   exact .cons h (.cons r t)
  ·rename_i z;rw[Ju (by rw[<- h.1,<- r.1];exact z)]
   exact .cons r ih
theorem sF{R:α->β->Prop}{l:List (Int×α)}{m:List (Int×β)}(k:DY R l m):DY R (fB l) (fB m):=by
 induction k with
 |nil=>exact .nil
 |cons r t ih=>exact wX r ih
theorem u4{R:α->β->Prop}{ks:List Int}{l:List α}{m:List β}(k:Paired R l m):DY R (ks.zip l) (ks.zip m):=by
 induction k generalizing ks with
 |nil=>rw[List.zip_nil_right,List.zip_nil_right];exact .nil
 |cons r t ih =>
  cases ks with
  |nil=>exact .nil
  |cons k ks=>exact .cons ⟨rfl,r⟩ ih
theorem u9{R:α->β->Prop}{l:List (Int×α)}{m:List (Int×β)}(k:DY R l m):Paired R (l.map (·.2)) (m.map (·.2)):=by
 induction k with
 |nil=>exact .nil
 |cons r t ih=>exact .cons r.2 ih
noncomputable def i8(ks:List Int)(l:List α):List α:=(fB (ks.zip l)).map (·.2)
theorem r8{R:α->β->Prop}{ks:List Int}{l:List α}{m:List β}(h:Paired R l m):Paired R (i8 ks l) (i8 ks m):=u9 (sF (u4 h))
theorem qm{ks:List Int}{l:List α}(h:ks.length=l.length):(i8 ks l).length=l.length:=by
 unfold i8;rw[Js,(gx _).length_eq,N3,h,KQ]
theorem nJ{ks:List Int}{l:List α}(h:ks.length=l.length):(i8 ks l).Perm l:=by
 have h2:((ks.zip l).map (·.2))=l:=Nn (by lia)
 have h3:=(gx (ks.zip l)).map (·.2);rw[h2] at h3;exact h3
end
theorem iD:∀{xs:List V} {us:List Value},Vals xs us->Paired RelV xs us
 |_,_,.nil=>.nil
 |_,_,.cons r t=>.cons r (iD t)
theorem i7:∀{xs:List V} {us:List Value},Paired RelV xs us->Vals xs us
 |_,_,.nil=>.nil
 |_,_,.cons r t=>.cons r (i7 t)
theorem qI:∀{us:List Value} {ns:List Int},IntsAre us ns->∀{i:Nat},i<ns.length->∃ t,us.getD i Value.none=.int (ns.getD i 0) t
 |_,_,.cons n t h,0,_=>⟨t,rfl⟩
 |_,_,.cons n t h,i+1,hi=>qI h (i:=i) (by simpa using hi)
theorem uJ{p:List Nat}(hl:kz.length=us.length)(hp:p.Perm (List.range us.length))(hr:p.Pairwise (SP.R fun i=>kz.getD i 0)):p.map (fun i=>us.getD i Value.none)=i8 kz us:=by
 have ez:(List.range us.length).map (fun i=>(kz.getD i 0,us.getD i Value.none))=kz.zip us:=by
  apply Mn
  ·rw[Js,JN,N3,hl,KQ]
  ·intro i h1 h2;rw[Js,JN] at h1;rw[Np,MJ,List.getElem_zip];simp[h1,hl]
 have e1:p.map (fun i=>(kz.getD i 0,us.getD i Value.none))=fB (kz.zip us):=by
  refine o7 ?_ fun a=>?_
  ·exact Md.mpr (hr.imp fun h=>h.le)
  ·have fl:∀ l:List Nat,atK a (l.map fun i=>(kz.getD i 0,us.getD i Value.none))=(l.filter fun i=>decide (kz.getD i 0=a)).map fun i=>(kz.getD i 0,us.getD i Value.none):=fun l=>by
    unfold atK;rw[List.filter_map];rfl
   rw[<- ez,fl,fl];congr 1;refine Nq (le:=(· < ·)) (fun a b _ _ h g=>absurd h (Nat.lt_asymm g)) ?_ (NB.filter _) (hp.filter _);rw[List.pairwise_filter];refine hr.imp fun {i j} h hi hj=>?_;have hi:=Ln hi;have hj:=Ln hj;rcases h with h|h
   ·exfalso;have h':kz.getD i 0<kz.getD j 0:=h;lia
   ·exact h.2
 unfold i8;rw[<- e1,KR];rfl
section
variable {X:Cx} {pins:List (Addr×Obj)} {σ:St} {H:Hp} {s:Shared} {E:Value->Shared->Prop}
theorem Inv.take{D:Addr}{ob:Obj}{o:HO}{t':Nat}(I:Inv X ((D,ob)::pins) σ H s)(hs0:X.s₀.heap.objs.size<=D)(hnp:∀ p∈X.pn++pins,p.1≠D)(k:∀ b u,b≠D->s.heap.get? b=some u->h'.get? b=some u)(new:bO X.prog X.w (upd H D o) h' D o):
  Inv X pins σ (upd H D o) {s with heap:=h',toks:=t'}:=by
 obtain⟨g1,g2,g3,g4,g5⟩:=I.pin (D,ob) (JQ _ (JG ..));have I0:Inv X pins σ H s:=⟨I.ok,I.os,I.bare,I.base,I.loc,I.cell,I.free,I.dR,fun p hp=>I.pin p ((K4.mp hp).elim (fun z=>Ms _ z) fun z=>JQ _ (J8 _ z)),I.aU,I.len⟩;have ne:∀ b u,H b=some u->b≠D:=fun b u e=>aF e g2;refine I0.step (g':=s.gens) (d':=s.drawn) (ch:=[D]) (fun b hb=>?_) (fun b o' _ _ hc e _=>k b o' (fun z=>hc (by rw[z];exact JE.mpr rfl)) e) (fun b o' _ _ hc e _=>⟨o'.slots,k b o' (fun z=>hc (by rw[z];exact JE.mpr rfl)) e⟩) (fun b o' hc e n=>by rw[ao (fun z=>hc (by rw[z];exact JE.mpr rfl))];exact n)
  (fun b o' hc e=>⟨o',k b o' (fun z=>hc (by rw[z];exact JE.mpr rfl)) e⟩) (fun b xs e=>by rw[ao (ne b _ e)];exact e) (fun b o' u e=>by rw[ao (ne b _ e)];exact e) (fun b ps e=>⟨#[],by rw[ao (ne b _ e),e,MF]⟩) (fun m hm=>?_) (fun b u e=>?_) I.bare
 ·rw[JE.mp hb];refine⟨.inr hs0,g3,fun x c e z=>?_,hnp⟩;obtain⟨v,o',ho',hd⟩:=I.cell x c e;rw[z,g1] at ho';cases ho';exact g5 v hd
 ·obtain⟨o',es,ep,ho',r⟩:=hm;exact⟨o',es,ep,k _ _ (Ne.symm g3) ho',r⟩
 ·by_cases z:b=D
  ·subst z;rw[ax] at e;cases e;exact new
  ·rw[ao z] at e;refine (I.aU b u e).jv (fun c v hc q=>k c v ?_ q) (fun c q=>by rw[ao (ne c _ q)];exact q) (fun c xs q=>by rw[ao (ne c _ q)];exact q) fun c _ _ q=>by rw[ao (ne c _ q)];exact q
   rcases hc with rfl|hc
   ·exact z
   ·exact ne c _ hc
theorem qw{D:Nat}{st:SortSt}
  (I:Inv X ((D,seqObj "list" #[] e1)::pins) σ (upd H kS (.lst (kz.map V.int))) s) (hkS:H kS=none) (hD:H D=none) (hkD:kS≠D) (hs0:X.s₀.heap.objs.size<=D) (hnp:∀ p∈X.pn++pins,p.1≠D)
  (hv:Vals xs us) (hlen:kz.length=us.length) (h64:us.length<64) (ho:((arrOf st).map (·.2)).toList=i8 kz us) (hfl:failedOf st=none)
  (h:∀ s',Inv X pins σ (upd (upd H kS (.lst [])) D (.lst (i8 kz xs))) s'->P (.done (.ret .none)) s') :
  wpAny (model X.prog X.w) A (ksk_tail D false e1 (.ref kS) st) P E s:=by
 obtain⟨_,its,n,vr,ek⟩:=I.aU kS _ ax;have hz:its.toArray.size<=sizeLine:=by
  rw[Jv,<- vr.length,Js,hlen,KP];lia
 have pD:=I.pin _ (JQ _ (JG ..));have hout:((arrOf st).map (·.2)).size=us.length:=by
  rw[<- JZ,ho,qm hlen]
 have s1:=KD s.heap kS (Obj.mapSeq fun _=>(#[]:Array Value));obtain⟨c1,hc1⟩:∃ c,(s.heap.update kS (Obj.mapSeq fun _=>(#[]:Array Value))).get? kS=some (seqObj "list" #[] c):=⟨_,LQ ek fun _=>#[]⟩;have J1:Inv X ((D,seqObj "list" #[] e1)::pins) σ (upd H kS (.lst [])) {s with heap:=s.heap.update kS (Obj.mapSeq fun _=>(#[]:Array Value))}:=by
  have J:=I.write (x:=kS) (e:=kS) (o:=.lst []) (t':=s.toks) (h':=s.heap.update kS (Obj.mapSeq fun _=>(#[]:Array Value))) (by rw[ax];trivial) (.inl rfl) (fun b u hb q=>(s1.2 b hb).trans q) ⟨_,hc1⟩ ⟨Kh _,[],c1,.nil,hc1⟩
  rw[qk] at J;exact J
 have pD1:=J1.pin _ (List.mem_append_right _ (List.mem_cons_self ..));have s2:=Heap.SameBut.update (s.heap.update kS (Obj.mapSeq fun _=>(#[]:Array Value))) D (Obj.mapSeq fun _=>(arrOf st).map (·.2));obtain⟨c2,hc2⟩:∃ c,((s.heap.update kS (Obj.mapSeq fun _=>(#[]:Array Value))).update D (Obj.mapSeq fun _=>(arrOf st).map (·.2))).get? D=some (seqObj "list" ((arrOf st).map (·.2)) c):=⟨_,get?_update_seq pD1.1 fun _=>(arrOf st).map (·.2)⟩;have vB:Vals (i8 kz xs) (i8 kz us):=i7 (r8 (iD hv));unfold ksk_tail;dsimp only;refine wpAny_bind (listUpdate_at ek rfl ?_ hz (Nat.zero_le _));refine wpAny_bind (wpAny_letGo ?_);refine wpAny_bind (seqEpoch_at pD1.1 rfl ?_);refine wpAny_bind (listUpdate_at pD1.1 rfl ?_ (Nat.zero_le _) (by show ((arrOf st).map (·.2)).size<=_;rw[hout,sizeLine_eq];lia))
 rw[hfl];simp only[MV,K8,KY];refine Jx (h _ (J1.take hs0 hnp (fun b u hb q=>(s2.2 b hb).trans q) ⟨?_,i8 kz us,c2,vB,?_⟩))
 ·rw[vB.length,qm hlen,KP];lia
 ·rw[<- ho,LM];exact hc2
theorem BX{D:Nat}{us:List Value}{kz:List Int}{keys:Array Value}
  (I:Inv X ((D,seqObj "list" #[] e1)::pins) σ (upd H kS (.lst (kz.map V.int))) s) (hkS:H kS=none) (hD:H D=none) (hkD:kS≠D) (hs0:X.s₀.heap.objs.size<=D) (hnp:∀ p∈X.pn++pins,p.1≠D)
  (hv:Vals xs us) (hlen:kz.length=us.length) (h64:us.length<64) (hk:IntsAre keys.toList kz)
  (h:∀ s',Inv X pins σ (upd (upd H kS (.lst [])) D (.lst (i8 kz xs))) s'->P (.done (.ret .none)) s') :
  wpAny (model X.prog X.w) A (ksk_end D false us.toArray e1 (.ref kS) keys) P E s:=by
 have hsz:keys.size=us.length:=by
  have z:=hk.length;rw[JZ] at z;exact z.trans hlen
 have hzs:(keys.zip us.toArray).size=us.length:=by
  rw[Array.size_zip,hsz,Jv,KQ]
 unfold ksk_end;dsimp only;rw[if_neg Bool.false_ne_true,if_neg Bool.false_ne_true];by_cases h2:us.toArray.size<2
 ·rw[if_pos h2,if_pos h2];refine wpAny_bind (wpAny_pure ?_);rw[StateT.run_pure];refine wpAny_bind (wpAny_pure ?_);dsimp only;refine qw I hkS hD hkD hs0 hnp hv hlen h64 ?_ rfl h;rw[List.size_toArray] at h2;have:=uJ (us:=us) (kz:=kz) (p:=List.range us.length) hlen (List.Perm.refl _) (by
   rcases us with _|⟨x,_|⟨y,r⟩⟩
   ·exact .nil
   ·simp
   ·exfalso;simp only[J7] at h2;lia)
  rw[<- this];show ((keys.zip us.toArray).map (·.2)).toList=_;rw[Array.toList_map,Array.toList_zip,Nn (by simp only[JZ,Jv];lia)]
  apply Mn
  ·simp
  ·intro i h1 h2;have h1':i<us.length:=h1;simp[h1']
 ·rw[Ju h2,Ju h2];rw[Jv] at h2;rw[ksk_kind hk (by lia)]
  refine Jp (Jx ?_);have ek:keys=keys.toList.toArray:=(LM).symm;have hkl:keys.toList.length=us.length:=by rw[JZ,hsz]
  have hat:∀ i,i<us.length->∃ t,keys.toList.getD i Value.none=.int (kz.getD i 0) t:=fun i hi=>qI hk (by rw[hlen];exact hi)
  generalize keys.toList=ks at *;subst ek;refine Jp (Kw (PySem.W.kat_run (ks:=ks) (vs:=us) (κ:=oneType') (Q:=fun st' s'=>s'=s/\failedOf st'=none/\((arrOf st').map (·.2)).toList=i8 kz us)
   (G:=fun p s'=>s'=s/\p.toList.Perm (List.range us.length)/\p.toList.Pairwise (SP.R fun i=>kz.getD i 0)) hkl (by lia) h64 (fun p st' s' a1 a2 a3 a4=>⟨a4.1,a3,by rw[PySem.W.kat_snds hkl a2];exact uJ hlen a4.2.1 a4.2.2⟩) ?_) ?_ fun _ _ e=>e)
  ·refine SP.qN (k:=fun i=>kz.getD i 0) (I:=fun s'=>s'=s) (fun i j C s' hi hj hI hC=>?_) (by lia) rfl fun p s' hp hr hI=>⟨hI,hp,hr⟩
   subst hI;obtain⟨t1,e1⟩:=hat i hi;obtain⟨t2,e2⟩:=hat j hj;unfold PySem.W.kas_ask;rw[e1,e2];exact PySem.W.kat_lt_int (hC _ rfl)
  rintro⟨⟨⟩,st'⟩ s' ⟨rfl,hf,ho⟩;dsimp only;exact qw I hkS hD hkD hs0 hnp hv hlen h64 ho hf h
theorem jM:∀{us:List Value} {ns:List Int},Vals (ns.map V.int) us->IntsAre us ns
 |_,[],.nil=>.nil
 |_,n::ns,.cons ⟨t,e⟩ r=>by subst e;exact .cons n t (jM r)
theorem Ah{D:Nat}{f:Value}
  (I:Inv X ((D,seqObj "list" #[] e1)::pins) σ (upd H kS (.lst [])) s) (hkS:H kS=none) (hD:H D=none) (hkD:kS≠D) (hs0:X.s₀.heap.objs.size<=D) (hnp:∀ p∈X.pn++pins,p.1≠D)
  (hv:Vals xs us) (hlen:kz.length=us.length) (h64:us.length<64)
  (turn:∀(i:Nat) (u:Value) (k:Int),us[i]?=some u->kz[i]?=some k->∀ pins' H' s',eQ H H'->Inv X pins' σ H' s'->wpAny (model X.prog X.w) A (call f [u]) (fun r s2=>(∃ t,r=.int k t)/\Inv X pins' σ H' s2) (fun _ _=>False) s')
  (h:∀ s',Inv X pins σ (upd (upd H kS (.lst [])) D (.lst (i8 kz xs))) s'->P (.done (.ret .none)) s') :
  wpAny (model X.prog X.w) A (ksk_rest D f false us.toArray e1 (.ref kS)) P E s:=by
 unfold ksk_rest;refine Jp (MW ?_)
 first
  |rw[List.forIn_toArray]
  | (rw[<- Array.forIn_toList];simp only[MB])
 refine Jp (ksk_fold (fun i s'=>Inv X ((D,seqObj "list" #[] e1)::pins) σ (upd H kS (.lst ((kz.take i).map V.int))) s') us 0 s I ?one ?all)
 case one =>
  intro j u s' hu J;rw[L0] at J ⊢;have hj:j<us.length:=(Jz.mp hu).1;obtain⟨k,hkj⟩:∃ k,kz[j]?=some k:=⟨_,Jq (by lia)⟩
  refine wpAny_bind (wpAny_attempt (wpAny_mono (turn j u k hu hkj _ _ s' (.more .refl hkS) J) (fun r s2 hr=>?_) fun _ _ z=>z.elim));obtain⟨⟨t,rfl⟩,J2⟩:=hr;dsimp only;obtain⟨_,its,n,vr,ek⟩:=J2.aU kS _ ax;have lenI:its.length<=us.length:=by
   rw[<- vr.length,Js,K5];lia
  have s1:=KD s2.heap kS (Obj.mapSeq (·.push (.int k t)));obtain⟨c1,hc1⟩:∃ c,(s2.heap.update kS (Obj.mapSeq (·.push (.int k t)))).get? kS=some (seqObj "list" (its.toArray.push (.int k t)) c):=⟨_,LQ ek (·.push (.int k t))⟩;have et:kz.take (j+1)=kz.take j++[k]:=by
   rw[List.take_add_one,hkj];rfl
  have vr2:Vals ((kz.take (j+1)).map V.int) (its++[.int k t]):=by
   rw[et,JH];exact vr.append (.cons ⟨t,rfl⟩ .nil)
  refine Jp (Mg ek rfl ?_ (by rw[Jv,KP];lia) (by show (its.toArray.push (.int k t)).size<=_;rw[Array.size_push,Jv,KP];lia))
  refine Jx ⟨rfl,?_⟩;have J3:=J2.write (x:=kS) (e:=kS) (o:=.lst ((kz.take (j+1)).map V.int)) (t':=s2.toks) (h':=s2.heap.update kS (Obj.mapSeq (·.push (.int k t)))) (by rw[ax];trivial) (.inl rfl) (fun b u hb q=>(s1.2 b hb).trans q) ⟨_,hc1⟩
   ⟨by rw[Js,K5,KP];lia,its++[.int k t],c1,vr2,by rw[hc1,List.push_toArray]⟩
  rw[qk] at J3;exact J3
 case all =>
  intro s' J;have ez:kz.take (0+us.length)=kz:=Me (by lia)
  have J':Inv X ((D,seqObj "list" #[] e1)::pins) σ (upd H kS (.lst (kz.map V.int))) s':=by
   rw[<- ez];rw[ez];simpa only[ez] using J
  obtain⟨_,its,n,vr,ek⟩:=J'.aU kS _ ax;refine Jp (M0 ek rfl ?_);exact BX J' hkS hD hkD hs0 hnp hv hlen h64 (by rw[MB];exact jM vr) h
theorem Af{D:Addr}{n0:Nat}{h0:Heap}{f:Value}
  (I:Inv X pins σ H s) (k0:∀ b o,s.heap.get? b=some o->h0.get? b=some o) (hDs:s.heap.objs.size<=D) (ho:h0.get? D=some (seqObj "list" us.toArray n0)) (hv:Vals xs us) (hlen:kz.length=us.length) (h64:us.length<64)
  (turn:∀(i:Nat) (u:Value) (k:Int),us[i]?=some u->kz[i]?=some k->∀ pins' H' s',eQ H H'->Inv X pins' σ H' s'->wpAny (model X.prog X.w) A (call f [u]) (fun r s2=>(∃ t,r=.int k t)/\Inv X pins' σ H' s2) (fun _ _=>False) s')
  (h:∀ H' s',eQ H H'->H' D=none->Inv X pins σ (upd H' D (.lst (i8 kz xs))) s'->P (.done (.ret .none)) s') :
  wpAny (model X.prog X.w) A (ksk_tree D f false) P E {s with heap:=h0}:=by
 have hsz0:D<h0.objs.size:=JA ho;have s1:=KD h0 D (Obj.mapSeq fun _=>(#[]:Array Value));obtain⟨e1,ho1⟩:∃ e,(h0.update D (Obj.mapSeq fun _=>(#[]:Array Value))).get? D=some (seqObj "list" #[] e):=⟨_,LQ ho fun _=>#[]⟩;have hkz:((h0.update D (Obj.mapSeq fun _=>(#[]:Array Value))).push (seqObj "tuple" us.toArray 0)).objs.size=h0.objs.size+1:=by
  rw[size_push',Nj]
 have nD:∀ b o,s.heap.get? b=some o->b≠D:=fun b o e=>JP (JO (JA e) hDs);have keep:∀ b o,s.heap.get? b=some o->(((h0.update D (Obj.mapSeq fun _=>(#[]:Array Value))).push (seqObj "tuple" us.toArray 0)).push (seqObj "list" #[] 0)).get? b=some o:=fun b o e =>
  Jr _ (Jr _ ((s1.2 b (nD b o e)).trans (k0 b o e)))
 have hle:s.heap.objs.size<=h0.objs.size+1:=JD hDs (Nat.le_succ_of_le (K_ hsz0));have hkD:h0.objs.size+1≠D:=Lx (LG hsz0);have hkS:H (h0.objs.size+1)=none:=I.aU.fresh hle;have hD:H D=none:=I.aU.fresh hDs;have hnp:∀ p∈X.pn++pins,p.1≠D:=fun p hp=>nD _ _ (I.pin p hp).1;have J0:Inv X pins σ (upd H (h0.objs.size+1) (.lst [])) {s with heap:=((h0.update D (Obj.mapSeq fun _=>(#[]:Array Value))).push (seqObj "tuple" us.toArray 0)).push (seqObj "list" #[] 0)}:=
  I.laid (t':=s.toks) keep hle ⟨Kh _,[],0,.nil,by rw[<- hkz];exact JC _ rfl⟩
 have J:Inv X ((D,seqObj "list" #[] e1)::pins) σ (upd H (h0.objs.size+1) (.lst [])) {s with heap:=((h0.update D (Obj.mapSeq fun _=>(#[]:Array Value))).push (seqObj "tuple" us.toArray 0)).push (seqObj "list" #[] 0)}:=by
  refine J0.lZ fun p hp=>?_;rcases J5.mp hp with rfl|hp
  ·exact⟨Jr _ (Jr _ ho1),by rw[ao (Ne.symm hkD)];exact hD,fun z=>absurd I.lt (by rw[<- z];exact M_.mpr hDs),I.Ge hDs,fun v z=>by cases z⟩
  ·exact J0.pin p (JQ _ hp)
 unfold ksk_tree;refine Jp (M0 ho rfl ?_);refine Jp (Mg ho rfl ?_ (by rw[Jv,KP];lia) (Kh _))
 refine Jp (seqEpoch_at ho1 rfl ?_);refine Jp (NO ?_ (by show us.length<=_;rw[KP];lia))
 refine Jp (LN ?_ (Kh _));refine Kf ?_;show wpAny _ _ (ksk_rest D f false us.toArray e1 (.ref ((h0.update D (Obj.mapSeq fun _=>(#[]:Array Value))).push (seqObj "tuple" us.toArray 0)).objs.size)) _ _ _;rw[hkz];exact Ah J hkS hD hkD (JD I.sz hDs) hnp hv hlen h64 turn fun s' K=>h _ s' (.more .refl hkS) (by rw[ao (Ne.symm hkD)];exact hD) K
end
noncomputable def An(q:Str)(params:Arguments)(body:Expr)(scope:Scope)(cl:List (Str×Addr)):TE:=fun _ H Q=>∀ f c' pm ctv H1,eQ H H1->iB H1 f q params body scope cl c' pm ctv->Q (.ref f) H1
theorem Cp{c P:Addr}(hx:x∈dS)(ht:PySem.W.tabIn X.K x=some (c,P))(hcode:X.env.code=.ref c)(hq:X.env.qual=x++".<locals>."){pos:Pos}
  (hdef:defaultsOf params X.env=([],[])) (hcl:closureFor scope X.env=pure cl):PE X (.Lambda params body scope pos) (An ((x++".<locals>.")++"<lambda>") params body scope cl):=fun pins s σ H Q I h =>
 vi I hx ht hcode hq hdef hcl fun f c' pm ctv H1 s1 g J l=>⟨.ref f,H1,J,rfl,h f c' pm ctv H1 g l⟩
section
variable {X:Cx} {pins:List (Addr×Obj)} {σ:St} {H:Hp} {s:Shared} {E:Value->Shared->Prop}
noncomputable def vz(X:Cx)(A:Around)(s:Shared)(l:Addr)(xs:List V):Prop:=∀(Q:List Value->Shared->Prop) (E:Value->Shared->Prop),(∀ h0 tk us,(∀ b o,s.heap.get? b=some o->h0.get? b=some o)->s.heap.objs.size<=h0.objs.size->Vals xs us->Q us {s with heap:=h0,toks:=tk})->wpAny (model X.prog X.w) A (collect (.ref l)) Q E s
theorem tm{l:Addr}{Q:VK}(I:Inv X pins σ H s)(hcol:vz X A.in1 s l xs)(hlen:kz.length=xs.length)(h64:xs.length<64)
  (turn:∀(i:Nat) (v:V) (u:Value) (k:Int),xs[i]?=some v->RelV v u->kz[i]?=some k->∀ pins' H' s',eQ H H'->Inv X pins' σ H' s'->wpAny (model X.prog X.w) A.in1.in1 (call (.ref f) [u]) (fun r s2=>(∃ t,r=.int k t)/\Inv X pins' σ H' s2) (fun _ _=>False) s')
  (h:∀ H' D,eQ H H'->H' D=none->Q (.ref D) (upd H' D (.lst (i8 kz xs)))) :
  wpAny (model X.prog X.w) A (call (.builtin "sorted") [.ref l] [(Str.ofString "key",.ref f)]) (EP X pins σ Q) E s:=by
 refine call_function_entry_kw kind_sorted plain_sorted entry_sorted (ksk_s1 _ _) ?_;unfold Builtin.«sorted»;refine Jp (m:=checkCount "sorted" 1 1 _) (Jx (Jp (hcol _ _ fun h0 tk us k0 hz hv=>?_)));have ul:us.length=xs.length:=hv.length.symm;refine Jp (LN ?_ (by rw[ul,KP];lia))
 have hoL:(h0.push (seqObj "list" us.toArray 0)).get? h0.objs.size=some (seqObj "list" us.toArray 0):=JC _ rfl;refine Jp (Kf (wpAny_call_entry_kw slot_list_sort ⟨_,hoL,rfl⟩ entry_list_sort ?srt (ksk_l1 _ _)))
 case srt =>
  show wpAny _ A.in1.in1 (Builtin.«list.sort» ⟨[.ref h0.objs.size],[(Str.ofString "key",.ref f)]⟩) _ _ _;rw[ksk_t1];refine Af (s:={s with toks:=tk}) (h0:=h0.push (seqObj "list" us.toArray 0)) (I.tok tk) (fun b o e=>Jr _ (k0 b o e)) hz hoL hv (by rw[ul];exact hlen) (by rw[ul];exact h64)
   (fun i u k hu hk pins' H' s' g J=>?_) fun H' s' g n J=>⟨_,rfl,?_⟩
  ·have hi:i<xs.length:=by rw[<- ul];exact (Jz.mp hu).1
   obtain⟨u',hu',rv⟩:=hv.get (Jq hi);rw[hu] at hu';cases hu';exact turn i _ u k (Jq hi) rv hk pins' H' s' g J
  ·exact Jx ⟨_,rfl,.ref h0.objs.size,_,J,rfl,h H' _ g n⟩
noncomputable def ye(src:Hp->Addr->List V->Prop)(pre:V->Int->Hp->St->Prop)(fr:St->St)(t:TA):TE:=fun σ H Q=>t σ H fun vs H1=>∃ l xs kz,vs=[.ref l]/\src H1 l xs/\kz.length=xs.length/\xs.length<64 /\
 (∀(i:Nat) (v:V) (k:Int),xs[i]?=some v->kz[i]?=some k->∀ H',eQ H1 H'->pre v k H' (fr σ))/\∀ H2 D,eQ H1 H2->H2 D=none->Q (.ref D) (upd H2 D (.lst (i8 kz xs)))
theorem wU{t:TA}{p pos:Pos}{src:Hp->Addr->List V->Prop}{pre:V->Int->Hp->St->Prop}{fr:St->St}
  (hg:Gl X "sorted") (hm:X.mg "sorted"=none) (ha:PA X [e] t) (h1:dq e=true) (hr:bM (k+3) X.A) (hL:PE X (.Lambda params body scope lpos) (An q params body scope cl))
  (hsrc:∀ pins σ H s H1 l xs A,Inv X pins σ H s->src H1 l xs->eQ H1 H->A.handled=none->xs.length<64->vz X A s l xs)
  (hk:scope.kind=.function) (hco:scope.isCoroutine=false) (hgen:scope.isGenerator=false) (hcell:∀ y∈scope.names,y.2≠.cell) (hloc:scope.names.lookup x=some .local)
  (hbind:∀ c' pm ctv u,bindArgs (PySem.W.kla_fn "<lambda>" q params body scope cl pm (.ref c') ctv) ⟨[u],[]⟩=pure [(x,u)])
  (hlen:∀ σ:St,(fr σ).length=N.length) (hcl:∀ y c,cl.lookup y=some c->X.env.cells.lookup y=some c) (hhas:∀ y,(scope.names.lookup y=some .cell\/scope.names.lookup y=some .free)->∃ c,cl.lookup y=some c)
  (hf:∀ pins σ H s,Inv X pins σ H s->∀(i:Nat) (y:Str) (v:V),N[i]?=some y->(fr σ)[i]?=some (some v)->scope.names.lookup y=some .free/\∃ c u,cl.lookup y=some c/\s.heap.IsCell c (some u)/\RelV v u)
  (hbody:∀ A f c' s' H' σf v i,pre v i H' σf->∃ t,PE (qD X A (x::N) q scope f (.ref c') cl s' H') body t/\t (some v::σf) H' (fun w H2=>w=.int i/\H2=H')) :
  PE X (.Call (.Name "sorted" p) [e] [⟨some "key",.Lambda params body scope lpos,kpos⟩] pos) (ye src pre fr t):=by
 intro pins s σ H Q I h;refine Ld (ft I hg hm (u:=.builtin "sorted") (by decide +kernel) ?_ (by decide) (by decide))
 have hkw:PK X [⟨some "key",.Lambda params body scope lpos,kpos⟩] (kI (An q params body scope cl) nW):=yX hL De;refine callWith_kw ?_ (by rw[d6 h1];rfl) (by rw[d6 h1];rfl) rfl rfl
 refine cB (ha pos pins s σ H _ I h) fun us s1 ⟨vs,H1,I1,r1,q1⟩=>?_;obtain⟨l,xs,kz,rfl,hs,hle,h64,hpre,qq⟩:=q1;obtain⟨u,rfl,ru⟩:=vals1 r1;cases ru;refine cB (hkw pos pins s1 σ H1 (fun zs H2=>∃ f c' pm ctv,zs=[.ref f]/\eQ H1 H2/\iB H2 f ((q)) params body scope cl c' pm ctv) I1 fun f c' pm ctv H2 g lm=>⟨f,c',pm,ctv,rfl,g,lm⟩) fun ws s2 ⟨zs,H2,I2,rz,f,c',pm,ctv,e1,g,lm⟩=>?_;subst e1;obtain⟨wv,rfl,rw1⟩:=vals1 rz;cases rw1;have hr1:bM (k+2) X.A.in1:=hr.in1;refine tm I2 (hsrc _ _ _ _ _ _ _ _ I2 hs g hr1.hd h64) hle h64 (fun i v u j hv rv hj pins' H' s' g' J=>?_) fun H' D g' n=>qq H' D (g.trans g') n;obtain⟨ho,hcd⟩:=(lm.up fun b o u e=>g'.same b _ e).get J;obtain⟨tb,hb,hq⟩:=hbody X.A.in1.in1 f c' s' H' (fr σ) v j (hpre i v j hv hj H' (g.trans g'));refine Kw (xw J hr1.in1 J.ok.frames hk hco hgen hcell rv hloc ho hcd (hbind c' pm ctv) (hlen σ) hcl hhas (hf _ _ _ _ J) hb hq) (fun r s4 hr4=>?_) fun _ _ z=>z;obtain⟨w,H4,J4,rw4,e4,e5⟩:=hr4;subst e4 e5;exact⟨rw4,J4⟩
end
theorem mf{a:α}{l:List (Str×α)}:List.lookup x ((x,a)::l)=some a:=by rw[K9,Kq]
theorem iX{y:Str}{a:α}{l:List (Str×α)}(h:y≠x):List.lookup y ((x,a)::l)=List.lookup y l:=by rw[K9,Kk.mpr h]
abbrev nA(n:Nat):List V:=(List.range n).map fun k=>V.int ((k:Nat):Int)
section
variable {X:Cx} {pins:List (Addr×Obj)} {σ:St} {H:Hp} {s:Shared}
theorem nV{r:Addr}(hh:A.handled=none)(I:Inv X pins σ H s)(hr:H r=some (.fh 0 n))(h64:n<64):vz X A s r (nA n):=fun Q E h=>by
 obtain⟨t,u,v,e⟩:=I.aU r _ hr;have hn2:Builtin.Range.rangeSize 0 (n:Int) 1=n:=by rw[rangeSize_one];split<;>lia
 have hsm:Builtin.Range.small 0 (n:Int) 1=true:=small_one (by lia) (by lia) (by lia) (by lia)
 have oS:(s.heap.push {cls:=.type "list",data:=.seq ([]:List Value).toArray}).get? s.heap.objs.size=some {cls:=.type "list",data:=.seq #[] 0}:=JC _ rfl;unfold collect;refine Jp (wpAny_runValue (Mz PySem.F.entry_proto_collect ?_));rw[Around.under_plainId PySem.F.plain_proto_collect _];refine Jp (m:=newList []) (K2 (Jx ⟨plainId_quiet PySem.F.plain_list_iadd _,Mz PySem.F.entry_list_iadd ?_⟩));rw[Around.under_plainId PySem.F.plain_list_iadd _];show wpAny _ A.in1 (Builtin.List.listExtendWith _ _ _) _ _ _;refine wpAny_extend_range (R:=fun r s'=>match r with|.ok (.ret v)=>wpAny (model X.prog X.w) A (match v with|.ref a=>do (match (<- load a).data with|.seq xs _=>pure xs.toList|_=>unsupported "internal:collect")|_=>unsupported "internal:collect") Q E s'|.ok _=>_|.error e=>E e s') (s:={s with heap:=s.heap.push {cls:=.type "list",data:=.seq ([]:List Value).toArray}}) hh (Jr _ e) hsm hn2 (by lia) s.heap.objs.size (.ref s.heap.objs.size) 0 oS fun h' tk acc c' hk hS hI=>?_
 refine Jp (m:=load s.heap.objs.size) (wpAny_load hS (Jx (h h' tk acc.toList (fun b o e=>hk b o (JP (JA e)) (Jr _ e)) (K_ (JA hS)) ?_)));have hv:=Y.gc (lo:=0) n acc.toList 0 (by simpa using hI.1) fun j v e=>by
  obtain⟨t,e2⟩:=hI.2 j v (by simpa using e)
  exact⟨t,by rw[e2];simp⟩
 show Vals ((List.range n).map fun k=>V.int ((k:Nat):Int)) acc.toList;rw[Lu]
 simpa using hv
end
def Jk(j:Nat)(σ:St):St:=[(σ[j]?).getD none]
noncomputable def xA(K:Oi)(j:Nat)(t:TA):TE:=ye (fun H l xs=>∃ n:Nat,H l=some (.fh 0 n)/\xs=nA n) (fun v k H' σf=>∃ i q ls,v=.int i/\σf=[some (.ref q)]/\cD K H' q ls/\bR ls i=some (.int k)) (Jk j) t
theorem wJ{t:TA}{p pos p1 p2 p3:Pos}{y:Str}{c:Addr}(hg:Gl X "sorted")(hm:X.mg "sorted"=none)(ha:PA X [e] t)(h1:dq e=true)(hr:bM (k+3) X.A)
  (hL:PE X (.Lambda params (.Subscript (.Name y p1) (.Name x p2) p3) scope lpos) (An q params (.Subscript (.Name y p1) (.Name x p2) p3) scope [(y,c)]))
  (hsc:scope={kind:=.function,names:=[(x,.local),(y,.free)],isGenerator:=false,isCoroutine:=false,more:=[]}) (hxy:y≠x) (hx1:(x ==("__debug__":Str))=false) (hx2:(x ==("__classdict__":Str))=false) (hy1:(y ==("__debug__":Str))=false) (hy2:(y ==("__classdict__":Str))=false)
  (hj:X.N[j]?=some y) (hyc:X.env.scope.names.lookup y=some .cell) (hyl:X.env.cells.lookup y=some c)
  (hbind:∀ c' pm ctv u,bindArgs (PySem.W.kla_fn "<lambda>" q params (.Subscript (.Name y p1) (.Name x p2) p3) scope [(y,c)] pm (.ref c') ctv) ⟨[u],[]⟩=pure [(x,u)]) :
  PE X (.Call (.Name "sorted" p) [e] [⟨some "key",.Lambda params (.Subscript (.Name y p1) (.Name x p2) p3) scope lpos,kpos⟩] pos) (xA X.K j t):=by
 subst hsc;have lx:List.lookup x [(x,NameKind.local),(y,NameKind.free)]=some .local:=mf;have ly:List.lookup y [(x,NameKind.local),(y,NameKind.free)]=some .free:=by rw[iX hxy,mf]
 have lz:∀ z,z≠x->z≠y->List.lookup z [(x,NameKind.local),(y,NameKind.free)]=none:=fun z h1 h2=>by rw[iX h1,iX h2];rfl
 have lc:List.lookup y [(y,c)]=some c:=mf;have lcz:∀ z d,List.lookup z [(y,c)]=some d->z=y/\d=c:=fun z d e=>by
  by_cases h:z=y
  ·rw[h,lc] at e;cases e;exact⟨h,rfl⟩
  ·rw[iX h] at e;cases e
 refine wU (N:=[y]) hg hm ha h1 hr hL (fun pins σ H s H1 l xs A I hs g hh h64=>?_) rfl rfl rfl (fun z hz=>?_) lx hbind (fun _=>rfl) (fun z d e=>?_) (fun z hz=>?_) (fun pins σ H s I i z v e1 e2=>?_) fun A f c' s' H' σf v i hp=>?_
 ·obtain⟨n,hs,rfl⟩:=hs;rw[Js,JN] at h64;exact nV hh I (g.same _ _ hs) h64
 ·rcases J5.mp hz with rfl|hz
  ·nofun
  ·rw[JE.mp hz];nofun
 ·obtain⟨rfl,rfl⟩:=lcz z d e;exact hyl
 ·by_cases z1:z=x
  ·have hz':List.lookup z [(x,NameKind.local),(y,NameKind.free)]=some .cell\/List.lookup z [(x,NameKind.local),(y,NameKind.free)]=some .free:=hz;rw[z1,lx] at hz';rcases hz' with h|h<;>cases h
  ·by_cases z2:z=y
   ·rw[z2];exact⟨c,lc⟩
   ·have hz':List.lookup z [(x,NameKind.local),(y,NameKind.free)]=some .cell\/List.lookup z [(x,NameKind.local),(y,NameKind.free)]=some .free:=hz;rw[lz z z1 z2] at hz';rcases hz' with h|h<;>cases h
 ·cases i with
  |succ i=>cases e1
  |zero =>
   have e1':some y=some z:=e1;cases e1';have e2':some ((σ[j]?).getD none)=some (some v):=e2;have e3:σ[j]?=some (some v):=by
    cases hσ:σ[j]? with
    |none=>rw[hσ] at e2';cases e2'
    |some o=>rw[hσ] at e2';exact e2'
   obtain⟨m,_,hl⟩:=I.loc;obtain⟨u,rv,lk⟩:=hl j y v hj e3 (.inr (.inl hyc));refine⟨ly,c,u,lc,?_,rv⟩;rcases lk with ⟨z,_⟩|⟨_,d,z1,z2⟩
   ·have z':X.env.scope.names.lookup y=some .local:=z;rw[hyc] at z';cases z'
   ·rw[hyl] at z1;cases z1;exact z2
 ·obtain⟨ix,a,ls,rfl,rfl,hq,ha'⟩:=hp;refine⟨_,Bq xv (pv 1 rfl (.inr (.inr ly)) hy1 hy2) (pv 0 rfl (.inl lx) hx1 hx2) (Z.ID rfl),?_⟩;exact⟨_,rfl,_,rfl,a,ls,ix,.int i,rfl,rfl,hq,ha',rfl,rfl⟩
theorem zR{β:Type}{g:α->β}{ks:List Int}{l:List α}:i8 ks (l.map g)=(i8 ks l).map g:=by
 have p:∀ l:List α,Paired (fun a b=>b=g a) l (l.map g):=fun l=>by
  induction l with
  |nil=>exact .nil
  |cons a l ih=>exact .cons rfl ih
 have q:∀{l:List α} {m:List β},Paired (fun a b=>b=g a) l m->m=l.map g:=fun {l m} h=>by
  induction h with
  |nil=>rfl
  |cons r _ ih=>rw[r,ih];rfl
 exact q (r8 (p l))
namespace Y
noncomputable def jP(j:Nat)(us:UA):UE:=fun μ Q=>us μ fun rs μ1=>match rs,μ1[j]? with
 |[.tr (.fh lo hi)],some (.tr (.tup ts))=>∃ ns:List Int,ts=ns.map T.int/\lo=0/\hi=ns.length/\ns.length<64/\Q (.fr (.lst ((i8 ns (List.range ns.length)).map fun k=>T.int ((k:Nat):Int)))) μ1
 |_,_=>False
theorem vW{t:TA}{us:UA}(ha:RA K t us):RE K (xA K j t) (jP j us):=fun F ad B σ H μ Q Qt hK l q k =>
 ha F ad B σ H μ _ _ hK l q fun vs H' rs μ' l1 ps f k1 q1=>by
  split at q1
  ·rename_i lo hi ts hμ;obtain⟨ns,rfl,rfl,rfl,h64,q⟩:=q1
   cases ps with
   |cons p0 pr =>
    cases pr;have p0':=p0
    cases p0' with
    |fh nb hp =>
     obtain⟨w,hw,rw1⟩:=l1.slot j _ hμ
     cases rw1 with
     |tup nq hq rr =>
      have ev:=eO rr;subst ev;have le:(nA ns.length).length=ns.length:=by rw[Js,JN]
      refine⟨_,nA ns.length,ns,rfl,⟨ns.length,hp,rfl⟩,le.symm,by rw[le];exact h64,fun i v i2 e1 e2 H2 g=>?_,fun H2 D g n=>?_⟩
      ·have hi:i<ns.length:=(Jz.mp e2).1;have e3:(nA ns.length)[i]?=some (.int (i:Int)):=by simp[hi]
       rw[e3] at e1;cases e1;refine⟨_,_,_,rfl,?_,by rw[<- hK];exact cD.of (g.same _ _ hq),?_⟩
       ·show [(σ[j]?).getD none]=_;rw[hw];rfl
       ·exact bG (by rw[J9,e2];rfl)
      ·refine k _ _ _ _ (Vr.m9 (l1.same g.same) (?_:au F.K _ B _ ((i8 ns (List.range ns.length)).map fun k=>T.int ((k:Nat):Int))) n) (f.trans fun b o e z=>⟨cu.new n b o (g.same b o e),fun y=>?_⟩) k1 q
       ·rw[zR];exact (i8 ns (List.range ns.length)).rec .nil fun a l ih=>.cons (.int _) ih
       ·rcases y with y|y
        ·subst y;rw[g.same b o e] at n;cases n
        ·exact z y
  ·exact q1.elim
theorem Ep{us:UA}{p pos p1 p2 p3:Pos}{y z:Str}{c Pt d:Addr}(K:Oi)(hK:X.K=K)(hx:z∈dS)(ht:PySem.W.tabIn K z=some (c,Pt))(hcode:X.env.code=.ref c)(hq:X.env.qual=z++".<locals>.")(hdef:defaultsOf params X.env=([],[]))(hcl:closureFor scope X.env=pure [(y,d)])
  (hg:Gl X "sorted") (hm:X.mg "sorted"=none) (ha:YA X [e] us) (hr:bM (k+3) X.A)
  (hsc:scope={kind:=.function,names:=[(x,.local),(y,.free)],isGenerator:=false,isCoroutine:=false,more:=[]}) (hxy:y≠x) (hx1:(x ==("__debug__":Str))=false) (hx2:(x ==("__classdict__":Str))=false) (hy1:(y ==("__debug__":Str))=false) (hy2:(y ==("__classdict__":Str))=false)
  (hj:X.N[j]?=some y) (hyc:X.env.scope.names.lookup y=some .cell) (hyl:X.env.cells.lookup y=some d)
  (hbind:∀ c' pm ctv u,bindArgs (PySem.W.kla_fn "<lambda>" ((z++".<locals>.")++"<lambda>") params (.Subscript (.Name y p1) (.Name x p2) p3) scope [(y,d)] pm (.ref c') ctv) ⟨[u],[]⟩=pure [(x,u)]) (h1:autoParam (dq e=true) ℜ0) :
  YE X (.Call (.Name "sorted" p) [e] [⟨some "key",.Lambda params (.Subscript (.Name y p1) (.Name x p2) p3) scope lpos,kpos⟩] pos) (jP j us):=by
 subst hK;obtain⟨t,q,rr⟩:=ha;exact⟨_,⟨wJ hg hm q.h h1 hr (Cp hx ht hcode hq hdef hcl) hsc hxy hx1 hx2 hy1 hy2 hj hyc hyl hbind⟩,vW rr⟩
end Y
structure qQ (K:Oi) (mg:Str->Option Value) (x:Str):Prop where
 ex:∃ c P,PySem.W.tabIn K x=some (c,P)/\∀ f cdv,xx K mg x f cdv->cdv=.ref c
theorem n5{c P:Addr}{oc oc':Value}{od od':Option Addr}{sl sl':Array (Option Value)}{fd:FuncData}{vs:Array Value}(a:PySem.W.nsIn K mainGlobals x=some (some (.ref f)))(l:K.lookup f=some ⟨oc,od,.func fd,sl⟩)(hc:fd.code=.ref c)
  (lc:K.lookup c=some ⟨oc',od',.fields vs,sl'⟩) (hv:vs[11]?=some (.ref P)):PySem.W.tabIn K x=some (c,P):=by
 unfold PySem.W.tabIn;rw[a];dsimp only;rw[l];dsimp only;rw[hc];dsimp only;rw[lc];dsimp only;rw[hv]
theorem jO(a:PySem.W.nsIn K mainGlobals x=some none):PySem.W.tabIn K x=none:=by
 unfold PySem.W.tabIn;rw[a]
theorem qQ.mk'{c P:Addr}(X:K.In h)(G:h.Ns mainGlobals mg)(ht:PySem.W.tabIn K x=some (c,P)):qQ K mg x:=
 ⟨c,P,ht,fun f cdv ⟨m,o,fd,lk,hd,e⟩=>by rw[<- e];exact PySem.W.law_code X G ht m (X _ _ lk) hd⟩
theorem hJ.of{q:Program}{o1 o2 o3:Option (Addr×Addr)}(nt:PySem.W.noTabs K=true)(t1:PySem.W.tabIn K "by_worth"=o1)(t2:PySem.W.tabIn K "by_weight"=o2)(t3:PySem.W.tabIn K "code_of"=o3)(nd:((o1.toList++(o2.toList++o3.toList)).map (·.2)).Nodup)
  (f1:o1=none\/((recsOf q).find? (fun e=>e.name ==("by_worth":Str))).isSome=true) (f2:o2=none\/((recsOf q).find? (fun e=>e.name ==("by_weight":Str))).isSome=true) (f3:o3=none\/((recsOf q).find? (fun e=>e.name ==("code_of":Str))).isSome=true):hJ q K:=by
 refine⟨nt,?_,fun x hx=>?_⟩
 ·have e:(cw K).map (·.2.1)=(o1.toList++(o2.toList++o3.toList)).map (·.2):=by
   unfold cw dS
   cases o1<;>cases o2<;>cases o3<;>simp[List.filterMap,t1,t2,t3]
  rw[e];exact nd
 ·unfold dS at hx;rcases J5.mp hx with rfl|hx
  ·rw[t1];exact f1
  ·rcases J5.mp hx with rfl|hx
   ·rw[t2];exact f2
   ·rw[JE.mp hx,t3];exact f3
theorem lD{prog:Program}{w:World}:∀{ns:List Int} {us:List Value},Vals (ns.map V.int) us->(∀ i∈ns,i.natAbs<2^32)->∃ ts:List Str,ReprAll prog w us ts/\ts.length=ns.length/\∀ t∈ts,t.length<=33
 |[],_,.nil,_=>⟨[],.nil,rfl,fun _ z=>nomatch z⟩
 |n::ns,_,.cons ⟨t,e⟩ r,h=>by
  subst e;obtain⟨ts,h1,h2,h3⟩:=lD (prog:=prog) (w:=w) r fun i hi=>h i (J8 _ hi);have hn:=h n (JG ..);have hlog:n.natAbs.log2<32:=by
   by_cases z:n.natAbs=0
   ·rw[z];decide
   ·exact (N9 z).mpr hn
  refine⟨Str.ofString (toString n)::ts,.cons (ReprIs.int t (Oe hlog (by decide))) h1,by rw[J7,J7,h2],fun x hx=>?_⟩
  rcases J5.mp hx with rfl|hx
  ·rw[PySem.ofString_length];exact int_text_length_le (by decide) hlog
  ·exact h3 x hx
theorem Be:∀{ts:List Str},(∀ t∈ts,t.length<=33)->(ts.map (·.length)).sum<=33*ts.length
 |[],_=>J6 _
 |t::ts,h=>by
  have h1:=h t (JG ..);have h2:=Be fun x hx=>h x (J8 _ hx);rw[Kc,List.sum_cons,J7];lia
namespace Y
section
variable {X:Cx} {e:Expr} {vs:List Expr} {ue:UE} {u:UJ} {pos p:Pos}
noncomputable def GC(ue:UE)(u:UJ):UJ:=fun μ Q=>ue μ fun r μ'=>match r with
 |.tr (.tup ts)=>∃ ns:List Int,ts=ns.map T.int/\ns.length<=50/\(∀ i∈ns,i.natAbs<2^32)/\u μ' Q
 |_=>False
theorem Ii(hr:bM m X.A)(he:YE X e ue)(h:YJ X vs u)(hev:autoParam (evalEach (.FormattedValue e 114 none p::vs) X.env=eval (.FormattedValue e 114 none p) X.env::evalEach vs X.env) ℜ0):YJ X (.FormattedValue e 114 none p::vs) (GC ue u):=by
 obtain⟨t,qe,r⟩:=he;refine⟨fun F ad B σ H μ Qt pins s acc k R hF l q I ha hk hR=>?_⟩;rw[hev];refine wpAny_FormattedValue_repr ?_;refine cB (qe.h pins s σ H (fun v H1=>∃ r1 μ1,Vr F ad B σ H1 μ1 v r1/\Fr B H (Bv B v r1) H1/\Kp μ μ1/\(match r1 with
  |.tr (.tup ts)=>∃ ns:List Int,ts=ns.map T.int/\ns.length<=50/\(∀ i∈ns,i.natAbs<2^32)/\u μ1 Qt
  |_=>False)) I (r F ad B σ H μ _ _ hF l q fun v H1 r1 μ1 w f k1 q1=>⟨r1,μ1,w,f,k1,q1⟩)) fun v s1 ⟨v',H1,I1,rv,r1,μ1,w,f,k1,q1⟩=>?_
 split at q1
 ·obtain⟨ns,rfl,hn,hi,q1⟩:=q1;obtain⟨l1,rp⟩:=w;have rp':Rep F.K H1 B v' (.tup (ns.map T.int)):=rp
  cases rp' with
  |tup nb hp rr =>
   cases rv;have ev:=eO rr;obtain⟨its,vv,pl,hz⟩:=I1.tuple (cD.of (K:=X.K) hp);rw[ev] at vv;obtain⟨ts,g1,g2,g3⟩:=lD (prog:=X.prog) (w:=X.w) vv hi;have hlen:(tupleText ts).length<=1800:=by
    have a1:=tupleText_len_le ts;have a2:=Be g3;lia
   obtain⟨o,ho,hc,n,hd⟩:=pl;refine wpAny_pyReprObj_tuple ⟨o,ho,hc⟩ hr.gd (fun c z=>nomatch z) hr.BI ho hd (by simpa using g1) (fun tu tk=>?_) (eV (by lia))
   have fin:∀(s3:Shared) (t3:Tok),Inv X pins σ H1 s3->∃ y t,(Value.str (tupleText ts) t3)=.str y t/\(acc++y).length<=sizeLine/\Joins (model X.prog X.w) X.A X.xe (evalEach vs X.env) (acc++y) R s3:=fun s3 t3 J=>by
    rw[J7] at hk;refine⟨_,_,rfl,by rw[fN];exact eV (by lia),?_⟩
    exact h.run F ad B σ H1 μ1 Qt pins s3 (acc++tupleText ts) (k+1) R hF l1 q1 J (by rw[fN];lia) (by lia) fun H' μ' s' out l' f' k'=>hR H' μ' s' out l' (f.trans f') (k1.trans k')
   exact wpAny_formatField_str (fin _ _ (I1.tok _)) (fin _ _ (I1.tok _)) (eV (by lia))
 ·exact q1.elim
end
noncomputable def qf:V->List V->Hp->VK->Prop:=fun x vs H Q=>∃ z y,x=.str z/\vs=[.str y]/\z.length<=sizeLine/\Q (.str (Txt.rstripChars z y)) H
theorem tX:qX X "str.rstrip" qf:=by
 intro pins s σ H x xs v us Q I rx rs h;obtain⟨z,y,rfl,rfl,hz,q⟩:=h;obtain⟨t,rfl⟩:=rx;obtain⟨u,rfl,k,rfl⟩:=vals1 rs;exact SC.rstripChars (fun t' k=>⟨.str _,H,I.tok _,⟨_,rfl⟩,q⟩) hz
noncomputable def lJ:Bn:=fun z rs μ Q=>match rs with
 |[.tr (.str y)]=>z.length<=1000/\Q (.tr (.str (Txt.rstripChars z y))) μ
 |_=>False
theorem sZ:ET K qf lJ:=by
 intro F ad B σ H μ Q Qt z xs rs hF l ps q k;unfold lJ at q
 split at q
 ·cases ps with
  |cons h ps =>
   cases ps
   cases bP h
   exact⟨z,_,rfl,rfl,eV (JD q.1 (by decide)),k _ H _ μ (Vr.flat l (.str _)) Fr.refl (Kp.refl μ) q.2⟩
 ·exact q.elim
noncomputable def vV:V->List V->Hp->VK->Prop:=fun x vs H Q=>∃ z i y,x=.str z/\vs=[.int i,.str y]/\0<=i/\i<1000/\y.length=1/\Q (.str (Txt.ljustF z i (y.cps.getD 0 0))) H
theorem v8:qX X "str.ljust" vV:=by
 intro pins s σ H x xs v us Q I rx rs h;obtain⟨z,i,y,rfl,rfl,h0,h1,hy,q⟩:=h;obtain⟨t,rfl⟩:=rx;obtain⟨u1,u2,rfl,⟨t1,rfl⟩,⟨t2,rfl⟩⟩:=vals2 rs;exact ljust_fill (padOk_of (by lia) (by lia)) hy fun t' k=>⟨.str _,H,I.tok _,⟨_,rfl⟩,q⟩
noncomputable def oF:Bn:=fun z rs μ Q=>match rs with
 |[.tr (.int i),.tr (.str y)]=>0<=i/\i<1000/\y.length=1/\Q (.tr (.str (Txt.ljustF z i (y.cps.getD 0 0)))) μ
 |_=>False
theorem u_:ET K vV oF:=by
 intro F ad B σ H μ Q Qt z xs rs hF l ps q k;unfold oF at q
 split at q
 ·cases ps with
  |cons h ps =>
   cases ps with
   |cons h2 ps =>
    cases ps
    cases bP h
    cases bP h2
    exact⟨z,_,_,rfl,rfl,q.1,q.2.1,q.2.2.1,k _ H _ μ (Vr.flat l (.str _)) Fr.refl (Kp.refl μ) q.2.2.2⟩
 ·exact q.elim
end Y
theorem ae.calm{P:Program}{base:Heap}{ps:List Str}{md:List Bool}{tsx:yg}{tsp:dW}(F:ae P w K mg base (sv P w) k x ps (yZ K md tsx))(h:∀ args Q,tsp args Q->tsx args Q fun _=>False):ae P w K mg base bA k x ps (spT K md tsp):=by
 obtain⟨f,fd,m,kp,b,G⟩:=F.ex;have to:∀ vs H Q E,spT K md tsp vs H Q E->yZ K md tsx vs H Q (fun _ _ _=>False):=fun vs H Q E ⟨B,args,Qt,ag,bh,nd,ht,fin⟩=>⟨fun _=>False,⟨B,args,Qt,ag,bh,nd,h _ _ ht,fin⟩,fun x cls d e H' z=>z.elim⟩;refine⟨f,fd,m,kp,b,⟨fun vs H Q E q=>G.len vs H Q _ (to _ _ _ _ q),fun A outer s H args us vs Q E hr e0 hb r q=>Nf (G.run A outer s H args us vs Q _ hr e0 hb r (to _ _ _ _ q)) fun r s' hq=>?_⟩⟩
 cases r with
 |error e =>
  obtain⟨_,_,_,_,_,_,_,_,_,_,_,_,_,_,_,_,z⟩:=hq;exact z.elim
 |ok fl=>cases fl<;>exact hq
theorem mZ(x y:Str):(Txt.rstripChars x y).cps.toList.reverse=x.cps.toList.reverse.dropWhile y.cps.contains:=by
 have key:∀(p:Nat->Bool) (l:List Nat),(l.take (l.length-(l.reverse.takeWhile p).length)).reverse=l.reverse.dropWhile p:=fun p l=>by
  have h:(l.reverse.takeWhile p).length<=l.length:=by simpa using (List.takeWhile_sublist p (l:=l.reverse)).length_le
  rw[List.reverse_take,<- qu];congr 1;lia
 have hl:x.length=x.cps.toList.length:=by rw[JZ];rfl
 rw[<- key];unfold Txt.rstripChars Txt.stripBy;split
 ·rename_i h;unfold stripSame at h;rw[Kl] at h;have h2:x.length-(x.cps.toList.reverse.takeWhile y.cps.contains).length=x.length:=by simpa[stripLo,stripHi] using h.2
  rw[<- hl,h2,hl,Nk]
 ·have e:∀(a:Array Nat) (j:Nat),(a.extract 0 j).toList=a.toList.take j:=fun a j=>by simp
  have e2:=e x.cps (x.length-(x.cps.toList.reverse.takeWhile y.cps.contains).length);rw[hl] at e2;exact JS List.reverse e2
namespace A
theorem jP(j:Nat)(us:UA)(μ:Mu)(Q:R->Mu->Prop):Y.jP j us μ Q=us μ fun rs μ1=>match rs,μ1[j]? with
 |[.tr (.fh lo hi)],some (.tr (.tup ts))=>∃ ns:List Int,ts=ns.map T.int/\lo=0/\hi=ns.length/\ns.length<64/\Q (.fr (.lst ((i8 ns (List.range ns.length)).map fun k=>T.int ((k:Nat):Int)))) μ1
 |_,_=>False:=rfl
theorem GC(ue:UE)(u:UJ)(μ:Mu)(Q:Mu->Prop):Y.GC ue u μ Q=ue μ fun r μ'=>match r with
 |.tr (.tup ts)=>∃ ns:List Int,ts=ns.map T.int/\ns.length<=50/\(∀ i∈ns,i.natAbs<2^32)/\u μ' Q
 |_=>False:=rfl
theorem xN(z y:Str)(μ:Mu)(Q:R->Mu->Prop):Y.lJ z [.tr (.str y)] μ Q=(z.length<=1000/\Q (.tr (.str (Txt.rstripChars z y))) μ):=rfl
theorem zN(z:Str)(i:Int)(y:Str)(μ:Mu)(Q:R->Mu->Prop):Y.oF z [.tr (.int i),.tr (.str y)] μ Q=(0<=i/\i<1000/\y.length=1/\Q (.tr (.str (Txt.ljustF z i (y.cps.getD 0 0)))) μ):=rfl
end A
namespace Y
noncomputable def AH:R2:=fun x y H Q=>∃(c:Nat) (k:Int),x=.str ⟨#[c]⟩/\y=.int k/\0<=k/\k<=1000/\Q (.str ⟨(List.replicate k.toNat c).toArray⟩) H
theorem y8:dm X (binaryOp .Mult) AH:=by
 intro pins s σ H x y v u Q I rx ry h;obtain⟨c,k,rfl,rfl,h0,h1,q⟩:=h;obtain⟨t,rfl⟩:=rx;obtain⟨t2,rfl⟩:=ry;have e:Txt.mul ⟨#[c]⟩ k=⟨(List.replicate k.toNat c).toArray⟩:=by
  have:=mul_one_list c k
  cases hz:Txt.mul ⟨#[c]⟩ k with
  |mk a=>rw[hz] at this;rw[<- this,LM]
 have ok:MulOk ⟨#[c]⟩ k:=by
  refine⟨by simp only[Bool.or_eq_false_iff,LZ];lia,fun z _=>?_,fun z _=>?_⟩
  ·have hl:((⟨#[c]⟩:Str).length:Int)=1:=rfl;rw[hl];have:1<=(2^63-1) / k:=by
    rw[NC (by lia)];lia
   lia
  ·have hl:(⟨#[c]⟩:Str).length=1:=rfl;rw[hl,Nat.one_mul];exact JL (M_.mpr (JD (show k.toNat<=1000 by lia) (by decide)))
 exact SB.mul ok fun t' j=>⟨.str _,H,I.tok _,⟨t',by rw[e]⟩,q⟩
noncomputable def xZ:U2:=fun r1 r2 μ Q=>match cont μ r1,cont μ r2 with
 |some (.str z),some (.int k)=>∃ c:Nat,z=⟨#[c]⟩/\0<=k/\k<=1000/\Q (.tr (.str ⟨(List.replicate k.toNat c).toArray⟩)) μ
 |_,_=>False
theorem Al:gL K AH xZ:=by
 intro F ad B σ H μ Q Qt x y r1 r2 hK l h1 h2 q k;unfold xZ at q
 split at q
 ·rename_i z j e1 e2;obtain⟨c,rfl,g0,g1,q⟩:=q;have v1:=Hv.vw l h1 e1;have v2:=Hv.vw l h2 e2;cases v1;cases v2;exact⟨c,j,rfl,rfl,g0,g1,k _ H _ μ (Vr.flat l (.str _)) Fr.refl (Kp.refl μ) q⟩
 ·exact q.elim
end Y
namespace A
theorem Ca(z:Str)(k:Int)(μ:Mu)(Q:R->Mu->Prop):Y.xZ (.tr (.str z)) (.tr (.int k)) μ Q=(∃ c:Nat,z=⟨#[c]⟩/\0<=k/\k<=1000/\Q (.tr (.str ⟨(List.replicate k.toNat c).toArray⟩)) μ):=rfl
end A
namespace Y
section
variable {X:Cx} {e:Expr} {ue:UE} {pos p:Pos} {x:Str} {k:Nat} {ps:List Str} {tsp:dW} {E:XK}
end
end Y
namespace A
end A
namespace Y
end Y
section
variable {X:Cx} {e:Expr} {te:TE}
end
namespace Y
end Y
namespace A
end A
namespace Y
section
variable {prog:Program} {w:World} {A:Around} {E:Value->Shared->Prop} {s:Shared}
end
noncomputable def vK(K:Oi):List V->Hp->VK->Prop:=fun xs H Q=>AX K xs H Q\/∃ p ns,xs=[.ref p]/\cJ K H p (ns.map V.int)/\ns.length<64/\∀ ns':List Int,ns'.Perm ns->ns'.Pairwise (·<=·)->∀ l,H l=none->Q (.ref l) (upd H l (.lst (ns'.map V.int)))
theorem pQ(K:Oi)(hK:X.K=K):bI X (.builtin "sorted") (vK K):=by
 refine (tQ K hK).or ?_;subst hK;intro pins s σ H xs us Q I r h;obtain⟨p,ns,rfl,hq,h64,q⟩:=h;obtain⟨u,rfl,ru⟩:=vals1 r;cases ru;obtain⟨its,rv,pl,hz⟩:=I.list hq;have hi:=intsAre_of rv;refine sorted_ints pl.isList hi (by rw[jy hi];exact h64) fun out ns' a1 a2 a3=>?_
 obtain⟨e,he⟩:=sortedAll_at s.heap its out;refine⟨.ref (s.heap.objs.size+1),_,I.laid (t':=s.toks) (fun b ob q=>sortedAll_old q) (Lv _) (show bO X.prog X.w _ _ _ (.lst (ns'.map V.int)) from⟨?_,out.toList,e,eZ a1,by simpa using he⟩),rfl,q ns' a2 a3 _ (I.aU.fresh (Lv _))⟩
 rw[Js,a2.length_eq];exact JD (K_ h64) (by decide)
noncomputable def vT:T->Mu->(R->Mu->Prop)->Prop:=fun t μ Q=>match t with
 |.tup xs=>∃ ns:List Int,xs=ns.map T.int/\ns.length<64/\∀ ns':List Int,ns'.Perm ns->ns'.Pairwise (·<=·)->Q (.fr (.lst (ns'.map T.int))) μ
 |.lst xs=>∃ ns:List Int,xs=ns.map T.int/\ns.length<64/\∀ ns':List Int,ns'.Perm ns->ns'.Pairwise (·<=·)->Q (.fr (.lst (ns'.map T.int))) μ
 |_=>False
theorem we:RC K (vK K) (zv vT):=pF fun F ad B σ H μ Q Qt x t hK l v1 q k=>by
 subst hK
 cases v1 with
 |tup ha ra =>
  obtain⟨ns,rfl,h64,q⟩:=q;exact .inl ⟨_,ns,rfl,by rw[<- Y.eO ra];exact cD.of ha,h64,fun ns' a2 a3 p hp=>k _ _ _ (Vr.m9 l (dN _) hp) (Fr.more hp) (q ns' a2 a3)⟩
 |lst ha ra =>
  obtain⟨ns,rfl,h64,q⟩:=q;exact .inr ⟨_,ns,rfl,by rw[<- Y.eO ra];exact cJ.of ha,h64,fun ns' a2 a3 p hp=>k _ _ _ (Vr.m9 l (dN _) hp) (Fr.more hp) (q ns' a2 a3)⟩
 |_=>exact q.elim
end Y
namespace A
end A
section
variable {prog:Program} {w:World} {A:Around} {E:Value->Shared->Prop} {s:Shared}
end
section
variable {X:Cx} {a b:Expr} {rest:List Expr} {pos:Pos} {ta tb:TE}
end
namespace Y
end Y
namespace A
end A
namespace Y
noncomputable def ED:V->List V->Hp->VK->Prop:=fun x vs H Q=>∃ a:Int,x=.int a/\vs=[]/\Q (.int (Builtin.Int.intBits a:Nat)) H
theorem zV:qX X "int.bit_length" ED:=by
 intro pins s σ H x xs v us Q I rx rs h;obtain⟨a,rfl,rfl,q⟩:=h;obtain⟨t,rfl⟩:=rx;cases rs;exact call_int_bit_length ⟨.int _,H,I.tok _,⟨_,rfl⟩,q⟩
noncomputable def qZ(uo:UE):UE:=fun μ Q=>uo μ fun r μ1=>match r with
 |.tr (.int a)=>Q (.tr (.int (Builtin.Int.intBits a:Nat))) μ1
 |_=>False
theorem bits{uo:UE}{pos:Pos}(ho:YE X o uo)(hbase:autoParam (attributeBase o "bit_length" X.env (eval o X.env)=eval o X.env) ℜ0)(hline:autoParam ((apos.endLine == pos.line)=true) ℜ0):YE X (.Call (.Attribute o "bit_length" apos) [] [] pos) (qZ uo):=by
 obtain⟨t,q,rr⟩:=ho;refine⟨_,⟨DD PySem.F.plainAttrs_int PySem.F.slot_int_bit_length PySem.F.type_int_bit_length zV q.h hbase hline⟩,fun F ad B σ H μ Q Qt hF l q k=>rr F ad B σ H μ _ _ hF l q fun v H1 r1 μ1 v1 f1 k1 q1=>?_⟩
 split at q1
 ·have rp:=v1.2;cases rp;exact⟨rfl,_,rfl,rfl,k _ H1 _ μ1 (Vr.flat v1.rl (.int _)) f1.d k1 q1⟩
 ·exact q1.elim
end Y
namespace A
theorem qZ(uo:UE)(μ:Mu)(Q:R->Mu->Prop):Y.qZ uo μ Q=uo μ fun r μ1=>match r with
 |.tr (.int a)=>Q (.tr (.int (Builtin.Int.intBits a:Nat))) μ1
 |_=>False:=rfl
end A
theorem av{u w:US}{E:Ed}{μ:Mu}(h:∀ N:Mu->Prop,(∀ μ',w E μ'->N μ')->u {E with nx:=N} μ):Y.y4 u w E μ:=h _ fun _ z=>z
namespace Y
end Y
namespace A
end A
noncomputable def hW(h:Heap)(d:Addr)(es:Array DictEntry)(ep:Nat):Prop:=∃ o,h.get? d=some o/\o.ExactDict/\o.data=.dict es ep
section
variable {prog:Program} {w:World} {A:Around} {E:Value->Shared->Prop} {s:Shared}
theorem hW.ty{d:Addr}(x:hW s.heap d es ep):s.TypeIs (.ref d) "dict":=let ⟨o,ho,hc,_⟩:=x;⟨o,ho,hc.1⟩
theorem hW.keep{d:Addr}(x:hW h d es ep)(k:∀ o,h.get? d=some o->h'.get? d=some o):hW h' d es ep:=let ⟨o,ho,r⟩:=x;⟨o,k _ ho,r⟩
theorem hW.lt{d:Addr}(x:hW h d es ep):d<h.objs.size:=let ⟨_,ho,_⟩:=x;JA ho
theorem Ac{d:Addr}(low:(d == sysModules)=false)(x:hW s.heap d es ep)
  (q:Q (.ref s.heap.objs.size) {s with heap:=s.heap.push {cls:=.type "dict_keyiterator",data:=.fields #[.ref d,.int 0 0,.int es.size 0,.int ep 0]}}):wpAny (model prog w) A (pyIter (.ref d)) Q E s:=by
 obtain⟨o,ho,hx,hdat⟩:=id x;refine wpAny_pyIter_slot x.ty PySem.F.slot_dict_iter (Ky PySem.F.slot_dict_iter x.ty PySem.F.entry_dict_iter ?_ (PySem.F.args_dict_iter_1 _));unfold Builtin.«dict.__iter__» Builtin.Dict.dictSlotNone;refine Jp (Jp (wpAny_notOrdered_dict x.ty ?_));show wpAny _ _ (pure (Value.ref d)) _ _ s;refine Jx ?_;show wpAny _ _ (Builtin.Dict.showsAll d >>= _) _ _ s;unfold Builtin.Dict.showsAll;rw[low,Ju Jw];refine Jp (Jx (Jp (Mc ho hdat (Jp (N4 ho hdat ?_)))));exact Jp (K2 (Jx ⟨_,rfl,"dict_keyiterator",_,⟨_,JC _ rfl,rfl⟩,PySem.F.slot_dict_keyiterator_next.lookup,q⟩))
theorem zw{it d:Addr}{Q:Option Value->Shared->Prop}(hit:s.heap.IsKeyIter it d i es.size ep)(x:hW s.heap d es ep)(hi:i<es.size)
  (q:∀ h',h'.IsKeyIter it d (i+1) es.size ep->Heap.SameBut it s.heap h'->Q (some es[i].key) {s with heap:=h'}):wpAny (model prog w) A (pyNext (.ref it)) Q E s:=by
 obtain⟨o,ho,hc,hd⟩:=id hit;obtain⟨od,hod,hx,hdd⟩:=id x;unfold pyNext;refine Jp (MP (Ku (name:=Str.ofString "__next__") hit.typeIs PySem.F.slot_dict_keyiterator_next (Ky PySem.F.slot_dict_keyiterator_next hit.typeIs PySem.F.entry_dict_keyiterator_next ?_ (PySem.F.args_dict_keyiterator_next_1 _))));refine Jp (Jx (Jp (Jp ?_)))
 first|refine Jp (KW hit.typeIs (Jx (Jp (MD ho hd ?_))))|refine Jp (L3 hit.typeIs (Jx (Jp (MD ho hd ?_))))
 simp only[show Builtin.Dict_items.ownsTuple "dict_keyiterator"=false by decide,K8,KY]
 show wpAny _ _ (if (Value.ref d == Value.none)=true then _ else _) _ _ s;rw[Ju (show ¬ ((Value.ref d == Value.none)=true) from Jw)]
 refine Jp (Jx (Jp (Mc hod hdd ?_)));rw[Ju (by simp)]
 refine Jp (Jx (Jp (N4 hod hdd ?_)));rw[Ju (by simp)]
 refine Jx ?_;simp only[show ¬ ((i:Int)<0) by lia,KY,JV,Na hi]
 refine Jp ?_
 first|refine Jp (KW hit.typeIs (Jx (Jp (Mq hit.typeIs ?_))))|refine Jp (L3 hit.typeIs (Jx (Jp (Mq hit.typeIs ?_))))
 show wpAny _ _ (setField (.ref it) 1 (rawInt ((i:Int)+1)) >>= _) _ _ s;refine Jp (LY ho hd (by simp) ?_)
 have h2:(s.heap.update it (Obj.mapFields (·.setIfInBounds 1 (rawInt ((i:Int)+1))))).IsKeyIter it d (i+1) es.size ep:=⟨_,LI _ ho (Mo (LC hd _)),(Obj.cls_mapFields ..).trans hc,by rw[LC hd];simp[rawInt]⟩
 refine Jp (Kf (Jp (Mq (s:={s with heap:=s.heap.update it (Obj.mapFields (·.setIfInBounds 1 (rawInt ((i:Int)+1))))}) h2.typeIs ?_)))
 show wpAny _ _ (pure es[i].key) _ _ _;exact Jx (Jx ⟨_,rfl,Jx (q _ h2 (KD ..))⟩)
theorem zO{it d:Addr}{Q:Option Value->Shared->Prop}(hh:A.handled=none)(hit:s.heap.IsKeyIter it d es.size es.size ep)(x:hW s.heap d es ep)
  (q:∀ h',Heap.ExtBut it s.heap h'->Q none {s with heap:=h'}):wpAny (model prog w) A (pyNext (.ref it)) Q E s:=by
 obtain⟨o,ho,hc,hd⟩:=id hit;obtain⟨od,hod,hx,hdd⟩:=id x;unfold pyNext;refine Jp (MP (Ku (name:=Str.ofString "__next__") hit.typeIs PySem.F.slot_dict_keyiterator_next (Ky PySem.F.slot_dict_keyiterator_next hit.typeIs PySem.F.entry_dict_keyiterator_next ?_ (PySem.F.args_dict_keyiterator_next_1 _))));refine Jp (Jx (Jp (Jp ?_)))
 first|refine Jp (KW hit.typeIs (Jx (Jp (MD ho hd ?_))))|refine Jp (L3 hit.typeIs (Jx (Jp (MD ho hd ?_))))
 simp only[show Builtin.Dict_items.ownsTuple "dict_keyiterator"=false by decide,K8,KY]
 show wpAny _ _ (if (Value.ref d == Value.none)=true then _ else _) _ _ s;rw[Ju (show ¬ ((Value.ref d == Value.none)=true) from Jw)]
 refine Jp (Jx (Jp (Mc hod hdd ?_)));rw[Ju (by simp)]
 refine Jp (Jx (Jp (N4 hod hdd ?_)));rw[Ju (by simp)]
 refine Jx ?_;simp only[show ¬ ((es.size:Int)<0) by lia,KY,JV,ND (J6 es.size)]
 refine Jp ?_
 first|refine Jp (KW hit.typeIs (Jx ?_))|refine Jp (L3 hit.typeIs (Jx ?_))
 show wpAny _ _ (setField (.ref it) 0 .none >>= _) _ _ s;refine Jp (LY ho hd (by simp) ?_)
 show wpAny _ _ (newExc (.type "StopIteration") [] >>= _) _ _ _;refine Jp ?_;simp only[newExc,newTuple];refine Jp (K2 ?_ (by size_fits))
 refine Jp (m:=firstArgMember _ _) (wpAny_of_eq (a:=Value.none) (by first|rfl | (simp only[firstArgMember];rfl)) (K2 ?_ (by size_fits)))
 simp only[raiseNew];refine Jp (wpAny_handled ?_);rw[show A.in1.handled=none from hh];refine Jp (Jx (wpAny_throw ?_));refine Jp (wpAny_isInstance (T:="StopIteration") (b:=true) ⟨_,JC _ rfl,rfl⟩ isSubtype_stop ?_);exact Jx (q _ (((KD ..).extBut.push _).push _))
end
theorem uI(hh:A.handled=none)(I d:Addr)(ne:d≠I)(es:Array DictEntry)(ep:Nat):
  Walks prog w A I [I,d] [I] es.size (fun i v=>∃ h:i<es.size,v=es[i].key) (fun i h=>h.IsKeyIter I d i es.size ep/\hW h d es ep) where
 sub:=fun b hb=>by simp at hb;simp[hb]
 frame:=fun _ _ _ st hk=>⟨st.1.at fun o e=>hk I (by simp) o e,st.2.keep fun o e=>hk d (by simp) o e⟩
 item:=fun i s Q E hi st hQ=>zw st.1 st.2 hi fun h' a b=>hQ _ h' s.toks ⟨hi,rfl⟩ ⟨a,st.2.keep fun o e=>b.extBut _ _ ne e⟩ fun c o hc e=>b.extBut c o (fun h=>hc (by simp[h])) e
 done:=fun s Q E st hQ=>zO hh st.1 st.2 fun h' he=>hQ h' s.toks fun c o hc e=>he c o (fun h=>hc (by simp[h])) e
 self:=fun _ _ _ _ st hQ=>wpAny_pyIter_keyiter st.1 hQ
theorem CV{d:Addr}(low:(d == sysModules)=false):PySem.W.KdlSrc prog w "dict" d d es.size (fun i v=>∃ h:i<es.size,v=es[i].key) (fun h=>hW h d es ep) where
 type:=fun _ x=>x.ty
 there:=fun _ x=>⟨x.lt,x.lt⟩
 keep:=fun _ _ x k=>x.keep fun o e=>k d (.inl rfl) o e
 notList:=by decide
 notTuple:=by decide
 hint:=fun _ _ _ _ x q=>PySem.W.kdl_hint_dict x.ty q
 iter:=fun _ _ hh x=>⟨_,_,(fun _ _ q=>Ac low x q),uI hh _ d (JP x.lt) es ep,⟨⟨_,JC _ rfl,rfl,rfl⟩,x.keep fun _ e=>Jr _ e⟩⟩
theorem uX{es:List DictEntry}(h:KTD.Rows (xb K) es D):es.length=D.length:=by
 induction h with
 |nil=>rfl
 |cons _ _ _ ih=>simp[ih]
theorem vj{es:List DictEntry}(h:KTD.Rows (xb K) es D):Vals (D.map fun p=>V.str p.1) (es.map fun e=>e.key):=by
 induction h with
 |nil=>exact .nil
 |cons e _ _ ih=>exact .cons ⟨_,e⟩ ih
noncomputable def xi(K:Oi)(D:List (Str×List Str)):List V->Hp->VK->Prop:=fun xs H Q=>∃ d,xs=[.ref d]/\mP K d D/\D.length<=sizeLine/\∀ l,H l=none->Q (.ref l) (upd H l (.lst (D.map fun p=>V.str p.1)))
theorem pP(K:Oi)(hK:X.K=K)(hc:X.calm=true):bI X (.type "list") (xi K D):=by
 intro pins s σ H xs us Q I r h;subst hK;obtain⟨d,rfl,hd,hz,q⟩:=h;obtain⟨u,rfl,rx⟩:=vals1 r;cases rx;obtain⟨o,es,ep,ho,hx,hdat,hr⟩:=hd.ex;have at0:hW s.heap d es ep:=⟨o,I.gJ _ _ ho,hx,hdat⟩;have hl:es.size=D.length:=by rw[<- uX hr,JZ]
 refine PySem.W.kdl_call (CV hd.low) (I.ok.hd hc) at0 (by rw[hl];exact hz) fun h' tk acc c' hk hS hI=>?_
 have hv:Vals (D.map fun p=>V.str p.1) acc.toList:=by
  have e:acc.toList=es.toList.map fun e=>e.key:=by
   refine KA fun j=>?_;rw[JT,J9,JT]
   cases z:acc[j]? with
   |none =>
    have:acc.size<=j:=MR.mp z;rw[ND (by rw[<- hI.1];exact this)];rfl
   |some v =>
    obtain⟨hj,rfl⟩:=hI.2 j v z;rw[Na hj];rfl
  rw[e];exact vj hr
 refine⟨.ref s.heap.objs.size,_,I.laid (t':=tk) hk (J6 _) (show bO X.prog X.w _ h' _ (.lst _) from⟨?_,acc.toList,c',hv,by simpa using hS⟩),rfl,q _ (I.aU.fresh (J6 _))⟩
 rw[Js];exact hz
namespace Y
noncomputable def qz(D:List (Str×List Str))(ue:UE):UE:=fun μ Q=>ue μ fun r μ'=>match r with
 |.tr (.str k)=>∃ i:Nat,(D.map fun p=>p.1)[i]?=some k/\(∀ m,m<i->(D.map fun p=>p.1)[m]?≠some k)/\Q (.tr (.int (i:Nat))) μ'
 |_=>False
theorem Hk{p pl pos cpos:Pos}(K:Oi)(hK:X.K=K)(hc:X.calm=true)(hg:Gl X x)(hd:∃ d,X.mg x=some (.ref d)/\mP K d D)(hgl:Gl X "list")(hml:X.mg "list"=none)(he:YE X e ue)(hz:autoParam (D.length<=1000) ℜ1)(h1:autoParam (dq e=true) ℜ0)
  (hbase:autoParam (attributeBase (.Call (.Name "list" pl) [.Name x p] [] cpos) "index" X.env (eval (.Call (.Name "list" pl) [.Name x p] [] cpos) X.env)=eval (.Call (.Name "list" pl) [.Name x p] [] cpos) X.env) ℜ0) (hline:autoParam ((apos.endLine == pos.line)=true) ℜ0) (hdb:autoParam ((x ==("__debug__":Str))=false) ℜ1) :
  YE X (.Call (.Attribute (.Call (.Name "list" pl) [.Name x p] [] cpos) "index" apos) [e] [] pos) (qz D ue):=by
 obtain⟨t,q,r⟩:=he;obtain⟨d,hm,hd⟩:=hd;have hlist:QE X (.Call (.Name "list" pl) [.Name x p] [] cpos) (Bi (xi K D) (kI (tC (.ref d)) nW)):=Z.ct (pP K hK hc) hgl hml (by decide +kernel) (Z.cons ⟨mC hg hm rfl hdb⟩ Z.nil)
 refine⟨_,Z.bm K hK PySem.F.plainAttrs_list PySem.F.slot_list_index PySem.F.type_list_index rK hlist (Z.cons q Z.nil (h:=h1)) hbase hline (by simp[h1]) (show 1<30 by decide),fun F ad B σ H μ Q Qt hF l q k=>?_⟩
 refine⟨d,rfl,hd,JD hz (by decide),fun a ha=>?_⟩
 have sm:cu H (upd H a (.lst (D.map fun p=>V.str p.1))):=cu.new ha;refine⟨?_,r F ad B σ _ μ _ _ hF (l.same sm) q fun v H' r1 μ' v1 f k1 q1=>?_⟩
 ·exact .inl ⟨rfl,_,cJ.of ax⟩
 ·split at q1
  ·rename_i z;obtain⟨l1,rp⟩:=v1;cases rp;obtain⟨i,h2,h3,q2⟩:=q1;refine⟨a,D.map fun p=>p.1,z,i,rfl,?_,rfl,h2,h3,k _ H' _ μ' (Vr.flat l1 (.int _)) ((Fr.same sm).trans f.d) k1 q2⟩;rw[KR];exact (f a _ ax (l.kh ha)).1
  ·exact q1.elim
noncomputable def rZ(uo ue:UE):UE:=fun μ Q=>uo μ fun ro μ1=>match ro with
 |.fr (.lst ts)=>ue μ1 fun r μ2=>(match r with
  |.tr (.str k)=>∃(ws:List Str) (i:Nat),ts=ws.map T.str/\ws[i]?=some k/\(∀ m,m<i->ws[m]?≠some k)/\Q (.tr (.int (i:Nat))) μ2
  |_=>False)
 |_=>False
theorem HP{uo:UE}{pos:Pos}(K:Oi)(hK:X.K=K)(ho:YE X o uo)(he:YE X e ue)(h1:autoParam (dq e=true) ℜ0)
  (hbase:autoParam (attributeBase o "index" X.env (eval o X.env)=eval o X.env) ℜ0) (hline:autoParam ((apos.endLine == pos.line)=true) ℜ0):YE X (.Call (.Attribute o "index" apos) [e] [] pos) (rZ uo ue):=by
 obtain⟨t,q,r⟩:=ho;obtain⟨t',q',r'⟩:=he;refine⟨_,Z.bm K hK PySem.F.plainAttrs_list PySem.F.slot_list_index PySem.F.type_list_index rK q (Z.cons q' Z.nil (h:=h1)) hbase hline (by simp[h1]) (show 1<30 by decide),fun F ad B σ H μ Q Qt hF l q k=>r F ad B σ H μ _ _ hF l q fun v H1 r1 μ1 v1 f1 k1 q1=>?_⟩
 split at q1
 ·rename_i ts;obtain⟨l1,a,rfl,nb,n0,lm,bx⟩:=v1;rcases bx.is with ⟨ts',vs,e1,hl,rv⟩|⟨_,_,_,e1,_⟩
  case inr=>cases e1
  cases e1;refine⟨.inl ⟨rfl,_,cJ.of hl⟩,r' F ad B σ H1 μ1 _ _ hF l1 q1 fun v2 H2 r2 μ2 v2r f2 k2 q2=>?_⟩
  split at q2
  ·rename_i z;obtain⟨l2,rp⟩:=v2r;cases rp;obtain⟨ws,i,rfl,h2,h3,q3⟩:=q2;rw[fV rv] at hl;exact⟨a,ws,z,i,rfl,(f2.d a _ hl nb).1,rfl,h2,h3,k _ H2 _ μ2 (Vr.flat l2 (.int _)) (f1.d.trans f2.d) (k1.trans k2) q3⟩
  ·exact q2.elim
 ·exact q1.elim
end Y
namespace A
theorem rZ(uo ue:UE)(μ:Mu)(Q:R->Mu->Prop):Y.rZ uo ue μ Q=uo μ fun ro μ1=>match ro with
 |.fr (.lst ts)=>ue μ1 fun r μ2=>(match r with
  |.tr (.str k)=>∃(ws:List Str) (i:Nat),ts=ws.map T.str/\ws[i]?=some k/\(∀ m,m<i->ws[m]?≠some k)/\Q (.tr (.int (i:Nat))) μ2
  |_=>False)
 |_=>False:=rfl
theorem qz(D:List (Str×List Str))(ue:UE)(μ:Mu)(Q:R->Mu->Prop):Y.qz D ue μ Q=ue μ fun r μ'=>match r with
 |.tr (.str k)=>∃ i:Nat,(D.map fun p=>p.1)[i]?=some k/\(∀ m,m<i->(D.map fun p=>p.1)[m]?≠some k)/\Q (.tr (.int (i:Nat))) μ'
 |_=>False:=rfl
end A
section
variable {K:Oi} {g:TG} {tb:TS} {D:Ends} {σ:St} {H:Hp} {te:TE} {Q:VK}
end
namespace Y
end Y
namespace A
end A
noncomputable def E6(K:Oi)(mg:Str->Option Value)(x:Str):Prop:=∃ p o,mg x=some (.ref p)/\K.lookup p=some o/\o.dict=none
namespace Y
noncomputable def r9(xs:List T)(ue:UE):UE:=fun μ Q=>ue μ fun r μ2=>match r with
 |.tr (.str k)=>∃(ws:List Str) (j:Nat),xs=ws.map T.str/\ws[j]?=some k/\(∀ m,m<j->ws[m]?≠some k)/\Q (.tr (.int (j:Nat))) μ2
 |_=>False
theorem Hu{xs:List T}{p pos:Pos}(K:Oi)(hK:X.K=K)(hg:Gl X x)(hc:∃ w u,X.mg x=some u/\RelV w u/\∀ H B,Rep K H B w (.d_ xs))(hn:E6 K X.mg x)(he:YE X e ue)
  (hbase:autoParam (attributeBase (.Name x p) "index" X.env (eval (.Name x p) X.env)=eval (.Name x p) X.env) ℜ0) (hline:autoParam ((apos.endLine == pos.line)=true) ℜ0) (h1:autoParam (dq e=true) ℜ0) (hdb:autoParam ((x ==("__debug__":Str))=false) ℜ1):YE X (.Call (.Attribute (.Name x p) "index" apos) [e] [] pos) (r9 xs ue):=by
 obtain⟨t',q',r'⟩:=he;obtain⟨w,u,hm,rw',rep⟩:=hc;obtain⟨a,o,hm2,ho,hd⟩:=hn;subst hK;rw[hm] at hm2;cases hm2;refine⟨_,Z.bm X.K rfl PySem.F.plainAttrs_tuple PySem.F.slot_tuple_index PySem.F.type_tuple_index Di (Z.glob hg hm rw' hdb) (Z.cons q' Z.nil (h:=h1)) hbase hline (by simp[h1]) (show 1<30 by decide),fun F ad B σ H μ Q Qt hF l q k=>?_⟩
 have rp:=rep H B
 cases rp with
 |d_ ha ra =>
  have e0:=Value.ref.inj (show Value.ref _=Value.ref _ from rw');subst e0;refine⟨.inr (.inl ⟨rfl,o,ho,?_,hd⟩),r' F ad B σ H μ _ _ hF l q fun v2 H2 r2 μ2 v2r f2 k2 q2=>?_⟩
  ·obtain⟨o',its,n,h1,h2,_⟩:=ha;rw[ho] at h1;cases h1;exact h2
  split at q2
  ·rename_i z;obtain⟨l2,rp⟩:=v2r;cases rp;obtain⟨ws,j,rfl,h2,h3,q3⟩:=q2;have e:=fV ra;subst e;exact⟨_,ws,z,j,rfl,.inr ha,rfl,h2,h3,k _ H2 _ μ2 (Vr.flat l2 (.int _)) f2.d k2 q3⟩
  ·exact q2.elim
end Y
namespace A
theorem r9(xs:List T)(ue:UE)(μ:Mu)(Q:R->Mu->Prop):Y.r9 xs ue μ Q=ue μ fun r μ2=>match r with
 |.tr (.str k)=>∃(ws:List Str) (j:Nat),xs=ws.map T.str/\ws[j]?=some k/\(∀ m,m<j->ws[m]?≠some k)/\Q (.tr (.int (j:Nat))) μ2
 |_=>False:=rfl
end A
section
variable {prog:Program} {w:World} {A:Around} {E:Value->Shared->Prop} {s:Shared}
structure Ct (prog:Program) (w:World) (s:Shared) (vs:List Value) (κ:SortKind) (kz:Nat->Int) (h:Heap):Prop where
 kind:∀(A:Around) (E:Value->Shared->Prop) (Q:SortKind->Shared->Prop),2<=vs.length->Q κ {s with heap:=h}->wpAny (model prog w) A (keyKind' vs.toArray) Q E {s with heap:=h}
 lt:∀(A:Around) (C:Bool->Shared->Prop) (i j:Nat),i<vs.length->j<vs.length->C (decide (kz i<kz j)) {s with heap:=h}->kas_ask prog w A κ vs i j C {s with heap:=h}
theorem vH{a:Addr}{vs:List Value}{κ:SortKind}{kz:Nat->Int}{P:Fin->Shared->Prop}(ho:s.heap.get? a=some (seqObj "list" vs.toArray n))(h64:vs.length<64)
  (hq:∀ h',(∀ b o,b≠a->s.heap.get? b=some o->h'.get? b=some o)->Ct prog w s vs κ kz h')
  (h:∀ p:Array Nat,p.toList.Perm (List.range vs.length)->p.toList.Pairwise (SP.R kz)->P (.done (.ret .none)) {s with heap:=sortedHeap s.heap a vs (List.toArray (p.toList.map fun i=>vs.getD i Value.none))}) :
  wpAny (model prog w) A (Builtin.«list.sort» ⟨[.ref a],[]⟩) P E s:=by
 rw[list_sort_plain];have ha:a<s.heap.objs.size:=JA ho;refine Jp (M0 ho rfl (Jp (Mg ho rfl ?_)));obtain⟨e1,ho1⟩:∃ e1,(s.heap.update a (Obj.mapSeq fun _=>#[])).get? a=some (seqObj "list" #[] e1):=⟨_,LQ ho (fun _=>#[])⟩;refine Jp (seqEpoch_at ho1 rfl (Jp (NO (Jp (LN (Kf ?_))))));have up:∀ b o,b≠a->s.heap.get? b=some o->(((s.heap.update a (Obj.mapSeq fun _=>#[])).push (seqObj "tuple" vs.toArray 0)).push (seqObj "list" #[] 0)).get? b=some o:=fun b o hb e =>
  Jr _ (Jr _ ((LF _ _ (Ne.symm hb)).trans e))
 have ho6:(((s.heap.update a (Obj.mapSeq fun _=>#[])).push (seqObj "tuple" vs.toArray 0)).push (seqObj "list" #[] 0)).get? a=some (seqObj "list" #[] e1):=Jr _ (Jr _ ho1);show wpAny (model prog w) A _ P E {s with heap:=((s.heap.update a (Obj.mapSeq fun _=>#[])).push (seqObj "tuple" vs.toArray 0)).push (seqObj "list" #[] 0)}
 dsimp only;have hs:=hq _ up;have hsz:vs.toArray.size=vs.length:=by simp
 by_cases h2:vs.toArray.size<2
 ·rw[if_pos h2,if_pos h2];refine wpAny_bind (wpAny_pure ?_);rw[StateT.run_pure];refine wpAny_bind (wpAny_pure ?_);dsimp only;refine wpAny_bind (seqEpoch_at ho6 rfl (wpAny_bind (listUpdate_at ho6 rfl ?_ (hsz2:=by rw[Array.size_map];show (pairsOf vs).size<=_;rw[pairsOf_size,sizeLine_eq];lia))))
  simp only[MV,K8,KY];refine Jx ?_;have hid:=h (List.toArray (List.range vs.length)) (List.Perm.refl _) (by
   rcases vs with _|⟨x,_|⟨y,r⟩⟩
   ·exact .nil
   ·simp
   ·exfalso;rw[hsz] at h2;simp only[J7] at h2;lia)
  have e:(arrOf (SortSt.mk' general' (vs.toArray.zip vs.toArray) #[] 7 none)).map (·.2)=List.toArray ((List.toArray (List.range vs.length)).toList.map fun i=>vs.getD i Value.none):=by
   show (vs.toArray.zip vs.toArray).map (·.2)=_;apply Array.toList_inj.mp;rw[Array.toList_map,Array.toList_zip];show (vs.zip vs).map (·.2)=(List.range vs.length).map fun i=>vs.getD i Value.none;rw[Nn (J6 _)];refine KA fun i=>?_;rw[J9];rcases Ks i vs.length with c|c
   ·rw[KG c,Jq c];simp[c]
   ·rw[JM.mpr c,JM.mpr (by rw[JN];exact c)];rfl
  rw[e];exact hid
 ·rw[Ju h2,Ju h2];have h2':2<=vs.length:=by rw[hsz] at h2;lia
  refine Jp (hs.kind _ _ _ h2' ?_);refine Jp (Kw (kat_run (ks:=vs) (vs:=vs) (Q:=fun st' s'=>s'={s with heap:=((s.heap.update a (Obj.mapSeq fun _=>#[])).push (seqObj "tuple" vs.toArray 0)).push (seqObj "list" #[] 0)}/\∃ p:Array Nat,arrOf st'=p.map (kas_item (vs.toArray.zip vs.toArray))/\failedOf st'=none/\p.toList.Perm (List.range vs.length)/\p.toList.Pairwise (SP.R kz))
   (G:=fun p s'=>s'={s with heap:=((s.heap.update a (Obj.mapSeq fun _=>#[])).push (seqObj "tuple" vs.toArray 0)).push (seqObj "list" #[] 0)}/\p.toList.Perm (List.range vs.length)/\p.toList.Pairwise (SP.R kz))
   rfl h2' h64 (fun p st' s' a1 a2 a3 a4=>⟨a4.1,p,a2,a3,a4.2⟩) ?_) ?_ fun _ _ e=>e)
  ·refine SP.qN (k:=kz) (I:=fun s'=>s'={s with heap:=((s.heap.update a (Obj.mapSeq fun _=>#[])).push (seqObj "tuple" vs.toArray 0)).push (seqObj "list" #[] 0)}) (fun i j C s' hi hj hI hC=>?_) (by lia) rfl fun p s' hp hr hI=>⟨hI,hp,hr⟩
   subst hI;exact hs.lt _ _ i j hi hj (hC _ rfl)
  rintro⟨⟨⟩,st'⟩ s' ⟨rfl,p,har,hf,hp,hr⟩;dsimp only;have esn:=kat_snds (ks:=vs) (vs:=vs) rfl har;have hl:(p.toList.map fun i=>vs.getD i Value.none).length=vs.length:=by rw[List.length_map,hp.length_eq,List.length_range]
  refine Jp (seqEpoch_at ho6 rfl ?_);refine Jp (Mg ho6 rfl ?_ (hsz2:=by show ((arrOf st').map (·.2)).size<=_;rw[esn,Jv,hl,KP];lia))
  rw[hf];simp only[MV,K8,KY];rw[esn];exact Jx (h p hp hr)
theorem oE{l:Addr}{κ:SortKind}{kz:Nat->Int}(hl:s.heap.IsList l vs.toArray)(h64:vs.length<64)(hq:∀ h',(∀ b o,s.heap.get? b=some o->h'.get? b=some o)->Ct prog w s vs κ kz h')
  (h:∀ p:Array Nat,p.toList.Perm (List.range vs.length)->p.toList.Pairwise (SP.R kz)->Q (.ref (s.heap.objs.size+1)) {s with heap:=sortedAll s.heap vs (List.toArray (p.toList.map fun i=>vs.getD i Value.none))}) :
  wpAny (model prog w) A (call (.builtin "sorted") [.ref l]) Q E s:=by
 refine MY kind_sorted plain_sorted entry_sorted (args_sorted1 _) ?_;unfold Builtin.«sorted»;refine Jp (m:=checkCount "sorted" 1 1 _) (Jx (Jp (collect_list hl (Jp (LN ?_)))));have hsz:((s.heap.push (seqObj "list" #[] 0)).update s.heap.objs.size (Obj.mapSeq (·++vs.toArray))).objs.size=s.heap.objs.size+1:=by rw[Nj,size_push']
 have hoL:(((s.heap.push (seqObj "list" #[] 0)).update s.heap.objs.size (Obj.mapSeq (·++vs.toArray))).push (seqObj "list" vs.toArray 0)).get? (s.heap.objs.size+1)=some (seqObj "list" vs.toArray 0):=by rw[<- hsz];exact JC _ rfl
 have keep:∀ b o,s.heap.get? b=some o->(((s.heap.push (seqObj "list" #[] 0)).update s.heap.objs.size (Obj.mapSeq (·++vs.toArray))).push (seqObj "list" vs.toArray 0)).get? b=some o:=fun b o q=>by
  have hlt:b<s.heap.objs.size:=JA q;rw[Heap.get?_push_ne _ _ _ (by rw[hsz];exact JP (LG hlt)),Heap.get?_update_ne _ _ _ _ (JP hlt),Heap.get?_push_ne _ _ _ (JP hlt)]
  exact q
 show wpAny _ _ _ _ _ {s with heap:=((s.heap.push (seqObj "list" #[] 0)).update s.heap.objs.size (Obj.mapSeq (·++vs.toArray))).push (seqObj "list" vs.toArray 0)}
 rw[hsz];refine Jp (Kf (Ky slot_list_sort ⟨_,hoL,rfl⟩ entry_list_sort (vH (kz:=kz) (κ:=κ) (s:={s with heap:=((s.heap.push (seqObj "list" #[] 0)).update s.heap.objs.size (Obj.mapSeq (·++vs.toArray))).push (seqObj "list" vs.toArray 0)}) hoL h64 (fun h' hk=>?_) fun p a1 a2=>⟨_,rfl,?_⟩) (args_list_sort _)))
 ·have:=hq h' fun b o e=>hk b o (JP (LG (JA e))) (keep b o e);exact⟨this.kind,this.lt⟩
 ·exact Jx ⟨_,rfl,h p a1 a2⟩
end
noncomputable def lexLt(x y:Int×Int):Bool:=decide (x.1<y.1\/(x.1=y.1/\x.2<y.2))
theorem lq{x:Int×Int}:lexLt x y=true ↔ (x.1<y.1\/(x.1=y.1/\x.2<y.2)):=decide_eq_true_iff
noncomputable def rank(l:List (Int×Int))(x:Int×Int):Nat:=l.countP fun y=>lexLt y x
noncomputable def rk(l:List (Int×Int))(i:Nat):Int:=(rank l (l.getD i (0,0)):Nat)
theorem pE{p q:Int×Int->Bool}(h:∀ z,p z=true->q z=true){x:Int×Int}:x∈l->p x=false->q x=true->l.countP p<l.countP q:=by
 induction l with
 |nil=>intro hx;cases hx
 |cons y l ih =>
  intro hx h1 h2;have hle:l.countP p<=l.countP q:=NT fun z _=>h z;rw[List.countP_cons,List.countP_cons];rcases J5.mp hx with rfl|hx
  ·rw[Ju (by rw[h1];exact Jw),Jy h2];lia
  ·have:=ih hx h1 h2
   cases hp:p y with
   |true=>rw[Jy rfl,Jy (h y hp)];lia
   |false=>rw[Ju Jw];split<;>lia
theorem q_{x:Int×Int}(hx:x∈l)(hy:y∈l):decide (rank l x<rank l y)=lexLt x y:=by
 have irr:∀ z,lexLt z z=false:=fun z=>JL (by lia)
 cases h:lexLt x y with
 |true =>
  refine Kj (pE (fun z hz=>?_) hx (irr x) h);rw[lq] at h hz ⊢;lia
 |false =>
  refine JL (M_.mpr (NT fun z _ hz=>?_));have h':¬ (x.1<y.1\/(x.1=y.1/\x.2<y.2)):=of_decide_eq_false h;rw[lq] at hz ⊢;lia
noncomputable def vX(h:Heap)(v:Value)(pr:Int×Int):Prop:=∃(a:Addr) (o:Obj) (n:Nat) (t u:Tok),v=.ref a/\h.get? a=some o/\o.cls=.type "tuple"/\o.data=.seq #[.int pr.1 t,.int pr.2 u] n
theorem ow:∀{vs:List Value} {prs:List (Int×Int)},Paired (vX h) vs prs->∃ fs,KatTups h vs fs/\fs.length=vs.length/\∀ v∈fs,∃ i t,v=Value.int i t
 |_,_,.nil=>⟨[],trivial,rfl,fun _ h=>by cases h⟩
 |_,_,.cons r t=>by
  obtain⟨a,o,n,t1,u,rfl,ho,hc,hd⟩:=r;obtain⟨fs,h1,h2,h3⟩:=ow t;refine⟨_::fs,⟨⟨a,o,_,n,rfl,ho,hc,hd,rfl⟩,h1⟩,by simp[h2],fun v hv=>?_⟩
  rcases J5.mp hv with rfl|hv
  ·exact⟨_,_,rfl⟩
  ·exact h3 v hv
theorem uT(hp:Paired (vX h) vs prs){i:Nat}(hi:i<vs.length):vX h (vs.getD i .none) (prs.getD i (0,0))/\prs.getD i (0,0)∈prs:=by
 induction hp generalizing i with
 |nil=>cases hi
 |cons r t ih =>
  cases i with
  |zero=>exact⟨r,JG ..⟩
  |succ i =>
   obtain⟨h1,h2⟩:=ih (i:=i) (by simpa using hi)
   exact⟨h1,J8 _ h2⟩
theorem tF{s:Shared}(hp:Paired (vX h) vs prs):Ct prog w s vs (tuples' true) (rk prs) h where
 kind:=fun A E Q h2 q=>by
  obtain⟨fs,h1,h3,h4⟩:=ow hp;exact kat_kind (s:={s with heap:=h}) (T:=.type "int") h1 (by lia) (fun v hv=>by obtain⟨i,t,rfl⟩:=h4 v hv;exact Looks.of_pure rfl) rfl q
 lt:=fun A C i j hi hj q=>by
  obtain⟨⟨a,o,n,t,u,ea,ho,hc,hd⟩,mi⟩:=uT hp hi;obtain⟨⟨a',o',n',t',u',ea',ho',hc',hd'⟩,mj⟩:=uT hp hj;have e:=q_ mi mj;have e':decide (rk prs i<rk prs j)=lexLt (prs.getD i (0,0)) (prs.getD j (0,0)):=by
   rw[<- e,Mj];unfold rk;lia
  rw[e'] at q;clear e e' mi mj;unfold kas_ask;rw[ea,ea'];generalize prs.getD i (0,0)=x at *;generalize prs.getD j (0,0)=y at *;refine kat_lt (s:={s with heap:=h}) ho hd ho' hd' ?_
  show KatLex prog w A true _ C [(.int x.1 t,.int y.1 t'),(.int x.2 u,.int y.2 u')] 0 _;refine kat_cons (Nc ?_)
  cases c1:(x.1 == y.1) with
  |false =>
   refine kat_no ?_;have h1:x.1≠y.1:=Kk.mp c1;have e1:lexLt x y=decide (x.1<y.1):=by unfold lexLt;rw[Mj];lia
   rw[e1] at q;exact oneLt_int q
  |true =>
   refine kat_yes (kat_cons (Nc ?_));have h1:x.1=y.1:=eq_of_beq c1;have e1:lexLt x y=decide (x.2<y.2):=by unfold lexLt;rw[Mj];lia
   rw[e1] at q
   cases c2:(x.2 == y.2) with
   |false =>
    refine kat_no ?_;show wpAny (model prog w) A (oneLt' false (.int x.2 u) (.int y.2 u')) C _ _;exact kat_one _ _ (lt_int q)
   |true =>
    have h2:x.2=y.2:=eq_of_beq c2;refine kat_yes (kat_nil ?_);rw[JL (by lia)] at q
    exact q
noncomputable def DW(l:List (Int×Int)):Prop:=l.Pairwise fun x y=>lexLt y x=false
theorem Fd{ix:List Nat}(hp:ix.Perm (List.range prs.length))(hr:ix.Pairwise (SP.R (rk prs))):(ix.map fun i=>prs.getD i (0,0)).Perm prs/\DW (ix.map fun i=>prs.getD i (0,0)):=by
 have e:(List.range prs.length).map (fun i=>prs.getD i (0,0))=prs:=by
  refine KA fun i=>?_;rw[J9];rcases Ks i prs.length with c|c
  ·rw[KG c,Jq c];simp[c]
  ·rw[JM.mpr c,JM.mpr (by rw[JN];exact c)];rfl
 refine⟨?_,Md.mpr (hr.imp_of_mem fun {i j} hi hj h=>?_)⟩
 ·have:=hp.map fun i=>prs.getD i (0,0);rw[e] at this;exact this
 ·have mem:∀ i∈ix,prs.getD i (0,0)∈prs:=fun i hi=>by
   have hl:=LH.mp (hp.mem_iff.mp hi);rw[JI,Jq hl];exact JY hl
  rw[<- q_ (mem j hj) (mem i hi)];have:=h.le;unfold rk at this;exact JL (by lia)
namespace Y
noncomputable def tY(p:Int×Int):T:=.tup [.int p.1,.int p.2]
noncomputable def Io(H:Hp)(v:V)(p:Int×Int):Prop:=∃ q,v=.ref q/\H q=some (.tup [.int p.1,.int p.2])
noncomputable def wA(K:Oi):List V->Hp->VK->Prop:=fun xs H Q=>∃ p vs prs,xs=[.ref p]/\cJ K H p vs/\Paired (Io H) vs prs/\prs.length<64/\∀ ix:List Nat,ix.Perm (List.range prs.length)->DW (ix.map fun i=>prs.getD i (0,0))->∀ l,H l=none->Q (.ref l) (upd H l (.lst (ix.map fun i=>vs.getD i .aJ)))
theorem xY{pins:List (Addr×Obj)}{σ:St}(I:Inv X pins σ H s):∀{vs:List V} {its:List Value} {prs:List (Int×Int)},Vals vs its->Paired (Io H) vs prs->Paired (vX s.heap) its prs
 |_,_,_,.nil,.nil=>.nil
 |_,_,_,.cons r t,.cons r' t'=>by
  refine .cons ?_ (xY I t t');obtain⟨q,rfl,hq⟩:=r';have e:_=Value.ref q:=r;subst e;obtain⟨_,ts,tv,o,e1,c,n,d,_⟩:=(show bO X.prog X.w H s.heap q (.tup _) from I.aU q _ hq);obtain⟨u,w',rfl,⟨t1,rfl⟩,⟨t2,rfl⟩⟩:=vals2 tv;exact⟨q,o,n,t1,t2,rfl,e1,c,d⟩
theorem qL{vs:List V}{its:List Value}(h:Vals vs its):∀ ix:List Nat,(∀ i∈ix,i<vs.length)->Vals (ix.map fun i=>vs.getD i .aJ) (ix.map fun i=>its.getD i Value.none)
 |[],_=>.nil
 |i::ix,hi=>by
  refine .cons ?_ (qL h ix fun j hj=>hi j (J8 _ hj));have hl:=hi i (JG ..);obtain⟨u,e,r⟩:=Vals.get h (Jq hl);show RelV (vs.getD i .aJ) (its.getD i Value.none);rw[JI,JI,Jq hl,e];exact r
theorem p8(K:Oi)(hK:X.K=K):bI X (.builtin "sorted") (wA K):=by
 subst hK;intro pins s σ H xs us Q I r h;obtain⟨p,vs,prs,rfl,hq,hp,h64,q⟩:=h;obtain⟨u,rfl,ru⟩:=vals1 r;cases ru;obtain⟨its,rv,pl,hz⟩:=I.list hq;have hpa:=xY I rv hp;have l1:its.length=prs.length:=Paired.length hpa;have l2:vs.length=prs.length:=Paired.length hp;refine oE (κ:=tuples' true) (kz:=rk prs) pl.isList (by lia) (fun h' hk=>tF (Paired.mD hpa fun a b ⟨x,o,n,t,u,e,ho,r⟩=>⟨x,o,n,t,u,e,hk _ _ ho,r⟩)) fun px a1 a2=>?_
 rw[l1] at a1;obtain⟨e,he⟩:=sortedAll_at s.heap its (List.toArray (px.toList.map fun i=>its.getD i Value.none));refine⟨.ref (s.heap.objs.size+1),_,I.laid (t':=s.toks) (fun b ob q=>sortedAll_old q) (Lv _) (show bO X.prog X.w _ _ _ (.lst (px.toList.map fun i=>vs.getD i .aJ)) from⟨?_,_,e,qL rv px.toList (fun i hi=>by rw[l2];exact LH.mp (a1.mem_iff.mp hi)),by simpa using he⟩),rfl,q px.toList a1 (Fd a1 a2).2 _ (I.aU.fresh (Lv _))⟩
 rw[Js,a1.length_eq,JN];exact JD (K_ h64) (by decide)
noncomputable def mG:T->Mu->(R->Mu->Prop)->Prop:=fun t μ Q=>match t with
 |.lst xs=>∃ prs:List (Int×Int),xs=prs.map tY/\prs.length<64/\∀ out:List (Int×Int),out.Perm prs->DW out->Q (.fr (.lst (out.map tY))) μ
 |_=>False
theorem nS{B:bo}:∀{prs:List (Int×Int)} {vs:List V},au K H B vs (prs.map tY)->Paired (Io H) vs prs
 |[],_,r=>by cases r;exact .nil
 |p::prs,_,r=>by
  cases r with
  |cons h r =>
   refine .cons ?_ (nS r)
   cases h with
   |tup n h r' =>
    cases r' with
    |cons h1 r' =>
     cases h1
     cases r' with
     |cons h2 r' =>
      cases h2;cases r';exact⟨_,rfl,h⟩
theorem rf{B:bo}{vs:List V}(h:au K H B vs (prs.map tY)):∀ ix:List Nat,(∀ i∈ix,i<prs.length)->au K H B (ix.map fun i=>vs.getD i .aJ) ((ix.map fun i=>prs.getD i (0,0)).map tY)
 |[],_=>.nil
 |i::ix,hi=>by
  refine .cons ?_ (rf h ix fun j hj=>hi j (J8 _ hj));have hl:=hi i (JG ..);obtain⟨v,e,r⟩:=au.get h (i:=i) (t:=tY prs[i]) (by rw[J9,Jq hl];rfl)
  show Rep K H B (vs.getD i .aJ) (tY (prs.getD i (0,0)));rw[JI,JI,Jq hl,e];exact r
theorem xX:RC K (wA K) (zv mG):=pF fun F ad B σ H μ Q Qt x t hK l v1 q k=>by
 subst hK
 cases v1 with
 |lst ha ra =>
  obtain⟨prs,rfl,h64,q⟩:=q;refine⟨_,_,prs,rfl,cJ.of ha,nS ra,h64,fun ix a1 a2 p hp=>?_⟩;have e:=(List.range prs.length).map (fun i=>prs.getD i (0,0));have hpm:(ix.map fun i=>prs.getD i (0,0)).Perm prs:=by
   have h1:=a1.map fun i=>prs.getD i (0,0);have h2:(List.range prs.length).map (fun i=>prs.getD i (0,0))=prs:=by
    refine KA fun i=>?_;rw[J9];rcases Ks i prs.length with c|c
    ·rw[KG c,Jq c];simp[c]
    ·rw[JM.mpr c,JM.mpr (by rw[JN];exact c)];rfl
   rw[h2] at h1;exact h1
  exact k _ _ _ (Vr.m9 l (rf ra ix fun i hi=>LH.mp (a1.mem_iff.mp hi)) hp) (Fr.more hp) (q _ hpm a2)
 |_=>exact q.elim
end Y
namespace A
theorem mG(xs:List T)(μ:Mu)(Q:R->Mu->Prop):Y.mG (.lst xs) μ Q=(∃ prs:List (Int×Int),xs=prs.map Y.tY/\prs.length<64/\∀ out:List (Int×Int),out.Perm prs->DW out->Q (.fr (.lst (out.map Y.tY))) μ):=rfl
end A
namespace Y
end Y
namespace A
end A
section
variable {X:Cx} {tg:Expr}
end
namespace Z
variable {X:Cx} {tg a b c d e f o:Expr} {ta:TA} {td ty tx:TE} {p pos apos cpos kpos:Pos} {cj:Nat}
end Z
namespace Ap
end Ap
section
variable {X:Cx} {pins:List (Addr×Obj)} {σ:St} {H:Hp} {s:Shared} {d:Addr} {kvs:List (Key×V)} {o:Obj}
end
namespace Z
variable {X:Cx} {tg e l:Expr} {tl:TE}
end Z
namespace Ap
end Ap
section
variable {prog:Program} {w:World} {A:Around} {E:Value->Shared->Prop} {s:Shared}
end
open Builtin Builtin.Str
section
variable {prog:Program} {w:World} {A:Around} {E:Value->Shared->Prop} {h:Heap} {g:Array GenState} {d:Drawn} {t:Nat} {os:OsState} {a:Addr} {items:Array Value}
end
end L2
namespace L2
open PySem PySem.Spec PyProof PyProof.Rows
open Builtin Builtin.Str
section
variable {prog:Program} {w:World} {K:Type} [DecidableEq K] {knd:KeyKind prog w K} {A:Around} {R:Result->Shared->Prop}
end
end L2
namespace L2
open PySem PySem.Spec PyProof PyProof.Rows
section
variable {prog:Program} {w:World} {A:Around} {E:Value->Shared->Prop} {s:Shared}
end
open PySem PySem.Spec PyProof PyProof.Rows PySem.W
namespace Y
end Y
namespace A
end A
namespace Y
end Y
namespace A
end A
end L2
namespace G
open PySem L2 PySem.Spec PyProof.Rows
variable{L b free j k n:Nat}{l:PySem.W.OpenLaw}{done r:List Nat}{xs:List L2.T}{ln:Nat->Nat}{ls ss:List Int}{gs ws zs:List (Option Nat)}{fd:FuncData}{mg:Str->Option Value}{lc_code_of lp_code_of:Addr}{lO_code_of:Value}{lD_code_of:Option Addr}{lv_code_of:Array Value}{lS_code_of:Array (Option Value)}{q:Program}
noncomputable def top(i:Nat):Stmt:=PySem.Challenge.pw_shortrows_k27_pack_rows.main.body.getD i (.Pass ⟨0,0,0,0⟩)
abbrev dc:Stmt:=top 5
theorem cQ:aq ["lengths","free","depth","left","length"] ["lengths"] (aa dc):=⟨rfl,rfl,rfl,by decide +kernel,rfl,by decide +kernel,by decide +kernel⟩
abbrev cF:Stmt:=top 7
theorem dU:aq ["lengths","words","ahead","thing"] ["lengths"] (aa cF):=⟨rfl,rfl,rfl,by decide +kernel,rfl,by decide +kernel,by decide +kernel⟩
abbrev bp:Stmt:=top 8
theorem jR:aq ["ahead","length"] ["ahead","length"] (aa bp):=⟨rfl,rfl,rfl,by decide +kernel,rfl,by decide +kernel,by decide +kernel⟩
abbrev cP:Stmt:=top 12
theorem pU:aq ["row"] ["row"] (aa cP):=⟨rfl,rfl,rfl,by decide +kernel,rfl,by decide +kernel,by decide +kernel⟩
abbrev aZ:Stmt:=top 18
theorem iN:aq ["sizes","goals"] ["sizes","goals"] (aa aZ):=⟨rfl,rfl,rfl,by decide +kernel,rfl,by decide +kernel,by decide +kernel⟩
abbrev aH:Stmt:=top 19
theorem bC:aq ["sizes","goals","widths","paper","row"] ["sizes","goals"] (aa aH):=⟨rfl,rfl,rfl,by decide +kernel,rfl,by decide +kernel,by decide +kernel⟩
abbrev bJ:Stmt:=top 20
theorem l_:aq ["goals"] ["goals"] (aa bJ):=⟨rfl,rfl,rfl,by decide +kernel,rfl,by decide +kernel,by decide +kernel⟩
abbrev aG:Stmt:=top 21
theorem cm:aq ["sizes","goals","widths","starts","row","goal"] ["sizes","goals","widths"] (aa aG):=⟨rfl,rfl,rfl,by decide +kernel,rfl,by decide +kernel,by decide +kernel⟩
abbrev eX:Stmt:=top 22
theorem qE:aq ["starts","goals","widths","row","half"] ["starts","goals","widths","row"] (aa eX):=⟨rfl,rfl,rfl,by decide +kernel,rfl,by decide +kernel,by decide +kernel⟩
abbrev bz:Stmt:=top 23
theorem jr:aq ["starts","goals","row"] ["starts","goals","row"] (aa bz):=⟨rfl,rfl,rfl,by decide +kernel,rfl,by decide +kernel,by decide +kernel⟩
abbrev bE:Stmt:=top 24
theorem d4:aq ["sizes","widths","starts","size","width"] ["sizes","widths"] (aa bE):=⟨rfl,rfl,rfl,by decide +kernel,rfl,by decide +kernel,by decide +kernel⟩
abbrev cx:Stmt:=top 25
theorem n9:aq ["width"] ["width"] (aa cx):=⟨rfl,rfl,rfl,by decide +kernel,rfl,by decide +kernel,by decide +kernel⟩
abbrev aX:Stmt:=top 30
theorem cW:aq ["row","things","kind","part"] ["row"] (aa aX):=⟨rfl,rfl,rfl,by decide +kernel,rfl,by decide +kernel,by decide +kernel⟩
abbrev b_:Stmt:=top 31
theorem oh:aq ["book"] ["book"] (aa b_):=⟨rfl,rfl,rfl,by decide +kernel,rfl,by decide +kernel,by decide +kernel⟩
abbrev a_:Stmt:=top 32
theorem b8:aq ["program","book","codes","firsts","sizes","goals","widths","starts","bits","row","first"] ["program","book"] (aa a_):=⟨rfl,rfl,rfl,by decide +kernel,rfl,by decide +kernel,by decide +kernel⟩
abbrev aA:Stmt:=top 33
theorem dv:aq ["row","codes","bits"] ["row","codes"] (aa aA):=⟨rfl,rfl,rfl,by decide +kernel,rfl,by decide +kernel,by decide +kernel⟩
abbrev az:Stmt:=top 34
theorem eJ:aq ["number"] ["number"] (aa az):=⟨rfl,rfl,rfl,by decide +kernel,rfl,by decide +kernel,by decide +kernel⟩
abbrev aW:Stmt:=top 35
theorem iJ:aq ["width","distance"] ["width","distance"] (aa aW):=⟨rfl,rfl,rfl,by decide +kernel,rfl,by decide +kernel,by decide +kernel⟩
abbrev aV:Stmt:=top 36
theorem bQ:aq ["number","many","figures","left","turn"] ["number","many"] (aa aV):=⟨rfl,rfl,rfl,by decide +kernel,rfl,by decide +kernel,by decide +kernel⟩
abbrev bw:Stmt:=top 38
theorem dk:aq ["script","found","cell"] ["script"] (aa bw):=⟨rfl,rfl,rfl,by decide +kernel,rfl,by decide +kernel,by decide +kernel⟩
abbrev bZ:Stmt:=top 39
theorem gM:aq ["cell","number"] ["cell"] (aa bZ):=⟨rfl,rfl,rfl,by decide +kernel,rfl,by decide +kernel,by decide +kernel⟩
abbrev bV:Stmt:=top 40
theorem dJ:aq ["seed","most","found","number"] ["seed","most"] (aa bV):=⟨rfl,rfl,rfl,by decide +kernel,rfl,by decide +kernel,by decide +kernel⟩
abbrev b6:Stmt:=top 41
theorem cp:aq ["sizes","widths","places","size","width","own"] ["sizes","widths"] (aa b6):=⟨rfl,rfl,rfl,by decide +kernel,rfl,by decide +kernel,by decide +kernel⟩
abbrev bT:Stmt:=top 42
theorem gI:aq ["far","width","half"] ["far","width"] (aa bT):=⟨rfl,rfl,rfl,by decide +kernel,rfl,by decide +kernel,by decide +kernel⟩
abbrev bH:Stmt:=top 43
theorem jU:aq [] [] (aa bH):=⟨rfl,rfl,rfl,by decide +kernel,rfl,by decide +kernel,by decide +kernel⟩
abbrev bu:Stmt:=top 44
theorem cM:aq ["seed","way","number","k"] ["seed"] (aa bu):=⟨rfl,rfl,rfl,by decide +kernel,rfl,by decide +kernel,by decide +kernel⟩
abbrev cy:Stmt:=top 45
theorem fz:aq ["seed","many","words","word","one"] ["seed","many","words"] (aa cy):=⟨rfl,rfl,rfl,by decide +kernel,rfl,by decide +kernel,by decide +kernel⟩
abbrev aP:Stmt:=top 46
theorem dA:aq ["seed","most","words","many"] ["seed","most","words"] (aa aP):=⟨rfl,rfl,rfl,by decide +kernel,rfl,by decide +kernel,by decide +kernel⟩
abbrev aY:Stmt:=top 47
theorem cV:aq ["number","found"] ["number"] (aa aY):=⟨rfl,rfl,rfl,by decide +kernel,rfl,by decide +kernel,by decide +kernel⟩
abbrev aL:Stmt:=top 48
theorem bB:aq ["seed","many","most","found","short","at","one","longer"] ["seed","many","most"] (aa aL):=⟨rfl,rfl,rfl,by decide +kernel,rfl,by decide +kernel,by decide +kernel⟩
abbrev bY:Stmt:=top 49
theorem mS:aq ["seed","most"] ["seed","most"] (aa bY):=⟨rfl,rfl,rfl,by decide +kernel,rfl,by decide +kernel,by decide +kernel⟩
abbrev bW:Stmt:=top 50
theorem dh:aq ["number","width","found","k"] ["number","width"] (aa bW):=⟨rfl,rfl,rfl,by decide +kernel,rfl,by decide +kernel,by decide +kernel⟩
abbrev bK:Stmt:=top 51
theorem bq:aq ["lengths","words","number","ahead","length","k","step"] ["lengths"] (aa bK):=⟨rfl,rfl,rfl,by decide +kernel,rfl,by decide +kernel,by decide +kernel⟩
abbrev bS:Stmt:=top 52
theorem bF:aq ["row","codes","words","classes","boxes","found","part","figures"] ["row","codes"] (aa bS):=⟨rfl,rfl,rfl,by decide +kernel,rfl,by decide +kernel,by decide +kernel⟩
abbrev b7:Stmt:=top 53
theorem kl:aq ["program"] ["program"] (aa b7):=⟨rfl,rfl,rfl,by decide +kernel,rfl,by decide +kernel,by decide +kernel⟩
abbrev aQ:Stmt:=top 54
theorem bL:aq ["sizes","goals","widths","places","found","row","goal","far"] ["sizes","goals","widths"] (aa aQ):=⟨rfl,rfl,rfl,by decide +kernel,rfl,by decide +kernel,by decide +kernel⟩
abbrev aS:Stmt:=top 55
theorem aE:aq ["program","book","codes","heads","sizes","goals","widths","rows","row","places","bits","k","far","width"] ["program","book"] (aa aS):=⟨rfl,rfl,rfl,by decide +kernel,rfl,by decide +kernel,by decide +kernel⟩
abbrev cC:Stmt:=top 56
theorem ph:aq ["found","due"] ["found","due"] (aa cC):=⟨rfl,rfl,rfl,by decide +kernel,rfl,by decide +kernel,by decide +kernel⟩
abbrev f_:Stmt:=top 57
theorem gu:aq ["script","cell","seed","program","book","other","some"] ["script"] (aa f_):=⟨rfl,rfl,rfl,by decide +kernel,rfl,by decide +kernel,by decide +kernel⟩
structure Txt (K:Oi) (mg:Str->Option Value):Prop where
 Dg:mg "bool"=none
 fJ:mg "enumerate"=none
 Fj:mg "int"=none
 df:mg "isinstance"=none
 dX:mg "len"=none
 B_:mg "list"=none
 Gk:mg "max"=none
 E8:mg "min"=none
 dI:mg "range"=none
 jt:mg "sorted"=none
 uM:mg "str"=none
 d5:mg "tuple"=none
 xc:mg "zip"=none
 yu:∃ w u,mg "BOXES"=some u/\RelV w u/\∀ H B,Rep K H B w (.d_ [.str "a",.str "b",.str "c",.str "d",.str "e",.str "f",.str "g",.str "h"])
 vY:∃ w u,mg "HALVES"=some u/\RelV w u/\∀ H B,Rep K H B w (.d_ [.int 8,.int 128,.int 32768])
 rV:∃ w u,mg "HEADS"=some u/\RelV w u/\∀ H B,Rep K H B w (.d_ [.str "0",.str "10",.str "11"])
 pf:∃ w u,mg "OF_BOXES"=some u/\RelV w u/\∀ H B,Rep K H B w (.int 2)
 lM:∃ w u,mg "OF_CLASSES"=some u/\RelV w u/\∀ H B,Rep K H B w (.int 1)
 oO:∃ w u,mg "OF_WORDS"=some u/\RelV w u/\∀ H B,Rep K H B w (.int 0)
 xE:∃ w u,mg "WIDEST"=some u/\RelV w u/\∀ H B,Rep K H B w (.int 2)
 nu:∃ w u,mg "WIDTHS"=some u/\RelV w u/\∀ H B,Rep K H B w (.d_ [.int 4,.int 8,.int 16])
 yU:E6 K mg "BOXES"
 jb:∃ d,mg "SHAPES"=some (.ref d)/\mP K d [("put",["box","number"]),("add",["box","box"]),("sub",["box","box"]),("copy",["box","box"]),("tell",["box"]),("hear",["box"]),("jump",["goal"]),("zero",["box","goal"]),("halt",[])]
 sy:∃ C,mg "NoReach"=some (.ref C)/\oZ K C
 xs:∃ C_NoCode:Addr,mg "NoCode"=some (.ref C_NoCode)/\oZ K C_NoCode
 nQ:qQ K mg "code_of"
section
variable {P:Program} {w:World} {K:Oi} {mg:Str->Option Value} {base:Heap}
local macro_rules | `(tactic| walk_at "lc") => `(tactic| first | exact Or.inl rfl | exact Or.inr rfl)
local macro_rules | `(tactic| wp_walk using $ts,*) => do
  let ids := ("L2.A.mG L2.A.r9 L2.A.qz L2.A.rZ L2.A.qZ L2.A.Ca L2.A.jP L2.A.GC L2.A.xN L2.A.zN L2.A.jc L2.A.Au L2.A3.Cg L2.A3.DL L2.A3.Gn L2.A3.zW L2.A3.lP L2.A3.kb L2.A3.II L2.A3.ou L2.A3.Hy L2.A3.AO L2.A3.gT L2.A3.n8 L2.A3.Ho L2.A3.Hm L2.A3.Hq L2.A3.E5 L2.A3.El L2.A3.add_l L2.A3.IA L2.A3.Hl L2.A3.Hg L2.A3.Hf L2.A3.Ej L2.A3.EZ L2.A3.EL L2.A3.Eu L2.A3.GU L2.A3.Hi L2.A3.GY L2.A3.HK L2.A.gQ L2.A.EF L2.A.Fm L2.A.Ar L2.A.uC L2.A.ur L2.A.kq L2.A.jw L2.A.yB L2.A.v_ L2.A.EK L2.A.qV L2.A.EY L2.A.wF L2.A.tU L2.A.nL L2.A.uK L2.A.y3 L2.A.zD L2.A.DU L2.A.iS L2.A.pX L2.A.oA L2.A.Gh L2.A.Hc L2.A.D8 L2.A.DH L2.A.HX L2.A.oj L2.A.EH L2.A.Ik L2.A.zv L2.A.ib L2.A.Aj L2.A.Dv L2.A.E1 L2.A.nE L2.A.GZ L2.A.G4 L2.A.FI L2.A.EV L2.A.Gq L2.A.HJ L2.A.Hx L2.A.GD L2.A.Gv L2.A.Ae L2.A.GG L2.A.Gz L2.A.GP L2.A.mw L2.A.DG L2.A.nj L2.A.jd L2.A.j_ L2.A.Jd L2.A.Jn L2.A.uj L2.A.FY L2.A.FN L2.A.E_ L2.A.E4 L2.A.Gs L2.A.Gy L2.A.gS L2.A.t9 L2.A.rj L2.A.zj L2.A.G3 L2.A.GO L2.A.iZ L2.A.uR L2.A.iF L2.A.GI L2.A.gH L2.A.Bt L2.A.Jb vP L2.A.Ir L2.A.Im L2.A.Ij L2.A.Ea L2.A.Gb L2.A.EA L2.A.FA L2.A.Fu L2.A.Fi L2.A.GX L2.A.HC L2.A.H_ L2.A.HD L2.A.Hb L2.A.Hw Sl.box Sl.put dH L2.putAll v9 h8 iA L2.Y.trees L2.Y.Am L2.Y.vO L2.Y.va L2.Y.FV L2.Y.Hn List.tail_cons Nat.zero_le startM tV cL Option.bind_some Option.map_some List.map_cons List.map_nil List.length_cons List.length_nil List.replicate List.cons_append List.nil_append List.getElem?_cons_zero List.getElem?_cons_succ List.set_cons_zero List.set_cons_succ List.nodup_nil List.nodup_cons List.not_mem_nil not_false_eq_true false_implies implies_true true_and and_self true_or HV HZ HW IC Nat.reduceAdd Nat.reduceSub Nat.reduceLeDiff Bool.false_eq_true Bool.not_true Bool.not_false decide_eq_true_eq Bool.not_eq_true' decide_eq_false_iff_not Int.reduceToNat Int.reducePow reduceCtorEq".splitOn " ").toArray.map fun n => Lean.mkIdent n.toName
  `(tactic| simp only [↓reduceIte, $[↓$ts:term],*, $[$ids:ident],*, $[$ts:term],*])
local macro_rules | `(tactic| walk_at "rt") => `(tactic| wp_walk using and_self)
namespace Kr
noncomputable def ks(L:Nat):List Nat->Nat
 |[]=>0
 |l::r=>2^(L-l)+ks L r
theorem cO(L:Nat):∀ a b,ks L (a++b)=ks L a+ks L b
 |[],b=>by simp[ks]
 |x::a,b=>by simp[ks,cO L a b];lia
theorem iT{a b:List Nat}(h:a.Perm b):ks L a=ks L b:=by
 induction h with
 |nil=>rfl
 |cons x _ ih=>simp[ks,ih]
 |swap x y l=>simp[ks];lia
 |trans _ _ h1 h2=>exact h1.trans h2
theorem tH{d l:Nat}(h:d<l)(hl:l<=L):2^(L-d)=2*2^(L-(d+1)):=by
 have:L-d=(L-(d+1))+1:=by lia
 rw[this,Of];lia
noncomputable def fit:List Nat->Nat->Nat->Nat->Prop:=fun r free depth L=>ks L r<=free*2^(L-depth)
theorem Bg{L d:Nat}:∀{r:List Nat},(∀ x∈r,d<=x)->ks L r<=r.length*2^(L-d)
 |[],_=>by simp[ks]
 |x::r,h=>by
  have ih:=Bg (L:=L) (d:=d) (r:=r) fun y hy=>h y (J8 _ hy);have hx:=h x JG;have:=Ls (n:=2) (by decide) (Nat.sub_le_sub_left hx L)
  simp only[ks,J7,LV];lia
theorem CY{x:Nat}:0<ks L (x::r):=by
 have:=Nat.pow_pos (n:=L-x) (show 0<2 by decide)
 simp only[ks];lia
theorem pd{depth:Nat}(h:∀ x∈r,depth<=x)(hf:r.length<=free):fit r free depth L:=
 JD (Bg h) (Nat.mul_le_mul_right _ hf)
theorem oY{depth l:Nat}(h:depth<l)(hl:l<=L):fit r free depth L ↔ fit r (free*2) (depth+1) L:=by
 unfold fit;rw[tH h hl,Mi]
theorem uy{l:Nat}(hf:0<free):fit (l::r) free l L ↔ fit r (free-1) l L:=by
 unfold fit;simp only[ks];obtain⟨f,rfl⟩:∃ f,free=f+1:=⟨free-1,by lia⟩
 rw[MK,LV];lia
theorem vE{x:Nat}{r:List Nat}{depth L:Nat}:¬ fit (x::r) 0 depth L:=by
 unfold fit;have:=CY (L:=L) (x:=x) (r:=r);lia
noncomputable def BR(L:Nat)(done:List Nat)(need last:Int):Prop:=0<=need/\0<=last/\∀ m:Nat,(need<=m ↔ ks L done<=m*2^(L-last.toNat))
theorem shr(n:Int)(g:Nat)(hn:0<=n)(m:Nat):(1-((0-n) / 2^g)<=(m:Int)) ↔ (1<=m/\n<=((m-1:Nat):Int)*2^g):=by
 have hp:(0:Int)<2^g:=Int.pow_pos (by decide)
 have h1:(1-((0-n) / 2^g)<=(m:Int)) ↔ (1-(m:Int))<=(0-n) / 2^g:=by lia
 rw[h1,NC hp];constructor
 ·intro h;have hm:1<=m:=by
   rcases Nat.eq_zero_or_pos m with z|z
   ·subst z;simp at h;lia
   ·exact z
  refine⟨hm,?_⟩;have e:((m-1:Nat):Int)=(m:Int)-1:=by lia
  rw[e,NF];rw[NF] at h;lia
 ·rintro⟨hm,h⟩;have e:((m-1:Nat):Int)=(m:Int)-1:=by lia
  rw[e,NF] at h;rw[NF];lia
theorem BR.step{need last l:Int}(h:BR L done need last)(h0:0<=l)(hl:l<=last)(hL:last<=L):
  BR L (done++[l.toNat]) (1-((0-need) / 2^(last-l).toNat)) l:=by
 obtain⟨n0,l0,hm⟩:=h;refine⟨?_,h0,fun m=>?_⟩
 ·have hp:(0:Int)<2^(last-l).toNat:=Int.pow_pos (by decide)
  have:(0-need) / 2^(last-l).toNat<=0:=Int.ediv_nonpos_of_nonpos_of_neg (by lia) hp
  lia
 ·rw[shr need _ n0 m,cO];simp only[ks];have e1:2^(L-l.toNat)=2^(last-l).toNat*2^(L-last.toNat):=by
   rw[<- NG];congr 1;lia
  have hpos:=Nat.pow_pos (n:=L-l.toNat) (show 0<2 by decide)
  constructor
  ·rintro⟨m1,h⟩;have h':need<=(((m-1)*2^(last-l).toNat:Nat):Int):=by
    rw[Int.natCast_mul,Int.natCast_pow];exact h
   have:=(hm _).mp h';rw[Mi,<- e1] at this;obtain⟨k,rfl⟩:∃ k,m=k+1:=⟨m-1,by lia⟩
   rw[MK] at this;rw[LV];exact Nat.add_le_add this (J6 _)
  ·intro h;have m1:1<=m:=by
    rcases Nat.eq_zero_or_pos m with z|z
    ·subst z;lia
    ·exact z
   refine⟨m1,?_⟩;have h':need<=(((m-1)*2^(last-l).toNat:Nat):Int):=by
    refine (hm _).mpr ?_;rw[Mi,<- e1];obtain⟨k,rfl⟩:∃ k,m=k+1:=⟨m-1,by lia⟩
    rw[MK];rw[LV] at h;exact Nat.le_of_add_le_add_right h
   rw[Int.natCast_mul,Int.natCast_pow] at h';exact h'
end Kr
noncomputable def eR(s:T):Prop:=∃ n f c m:Int,s=.lst [.int n,.int f,.int c,.int m]
theorem eR.flat{s:T}(h:eR s):gX s=true:=by obtain⟨n,f,c,m,rfl⟩:=h;rfl
noncomputable def lB:dW:=fun args Q=>∃(s:T) (k:Int),args=[s,.int k]/\eR s/\0<k/\k<2^60/\∀(v:Int) (s':T),eR s'->0<=v->v<k->Q (.tr (.int v)) [s']
theorem zG(T:Txt K mg)(F:HasFn K mg "_law_draw" bV ["seed","most"]):ae P w K mg base bA 1 "_law_draw" ["seed","most"] (spT K [true,false] lB):=by
 refine F.fG dJ [true,false] rfl (by decide) (fun args Qt hl h f cdv A outer s H E hr=>?_)
 have hu:=bf hr;obtain⟨sd,k,rfl,⟨n,fl,c,m,rfl⟩,k0,k1,q⟩:=h;refine⟨_,(Y.af (Y.asg (Y.op (Y.aC K rfl) Y.aB (Y.ix (Y.aO K rfl) Y.ai (Y.vS 0) Y.int) Y.int) (Y.ot (Y.vS 0) Y.int))
   (Y.af (Y.gm (Y.tw (Y.vg (Y.cg (Y.cK K rfl (JW hu)) Y.dF (Y.ix (Y.aO K rfl) Y.ai (Y.vS 0) Y.int) Y.int) (Y.oy (Y.cg Az Y.fe (Y.ix (Y.aO K rfl) Y.ai (Y.vS 0) Y.int) Y.int)))) (Y.af (Y.set (i:=2) dJ.nd rfl (by walk_at "lc") (Y.op dZ Y.cG (Y.ix (Y.aO K rfl) Y.ai (Y.vS 0) Y.int) (Y.vS 1)))
   (Y.af (Y.asg (Y.op Y.eS Y.cG (Y.ix (Y.aO K rfl) Y.ai (Y.vS 0) Y.int) (Y.vS 1)) (Y.ot (Y.vS 0) Y.int))
   (Y.aD (Y.ret (Y.vS 2))))) Y.c_)
   (Y.af (Y.set (i:=3) dJ.nd rfl (by walk_at "lc") (Y.op dZ Y.cG (Y.op (Y.e8 K rfl) Y.d3 (Y.op (Y.aC K rfl) Y.aB (Y.op (Y.aC K rfl) Y.aB (Y.ix (Y.aO K rfl) Y.ai (Y.vS 0) Y.int) (Y.op (Y.e8 K rfl) Y.d3 Y.int (Y.ix (Y.aO K rfl) Y.ai (Y.vS 0) Y.int))) Y.int) Y.int) Y.int))
   (Y.af (Y.set (i:=3) dJ.nd rfl (by walk_at "lc") (Y.op dZ Y.cG (Y.op (Y.e8 K rfl) Y.d3 (Y.op dZ Y.cG (Y.op (Y.e8 K rfl) Y.d3 (Y.vS 3) (Y.vS 3)) Y.int) Y.int) Y.int))
   (Y.aD (Y.ret (Y.op dZ Y.cG (Y.op Y.eS Y.cG (Y.vS 3) Y.int) (Y.vS 1)))))))),?_⟩
 have fin:∀ v n c:Int,Qt (.tr (.int (v % k))) [.lst [.int n,.int fl,.int c,.int m]]:=fun v n c=>q _ _ ⟨_,_,_,_,rfl⟩ (Int.emod_nonneg _ (by lia)) (Int.emod_lt_of_pos _ k0)
 have x0:hZ 4 0=some 0:=by decide
 have x2:hZ 4 2=some 2:=by decide
 refine av fun N hN=>?_;wp_walk using x2;refine hN _ ?_;clear hN N;refine av fun N hN=>?_;wp_walk using x0;by_cases h1:fl=1
 ·by_cases h2:0<n
  ·wp_walk using Jy h1,Jy h2;refine av fun M hM=>?_;walk_at "rt";refine⟨k0,?_⟩;refine hM _ ?_;clear hM M;refine av fun M hM=>?_;wp_walk using x0;refine⟨⟨k0,by lia⟩,?_⟩
   refine hM _ ?_;clear hM M;walk_at "rt";exact fin _ _ _
  ·wp_walk using Jy h1,Ju h2;refine hN _ ?_;clear hN N;have m1:∀ a:Int,0<=a % 2147483647/\a % 2147483647<2147483647:=fun a=>⟨by lia,by lia⟩
   refine av fun N hN=>?_;walk_at "rt";refine⟨.inl (by decide),.inr (by decide),by decide,?_⟩
   refine hN _ ?_;clear hN N;refine av fun N hN=>?_;walk_at "rt";refine⟨.inl ⟨by have:=m1 ((m+6997*(c+1)+11)*48271);lia,by have:=m1 ((m+6997*(c+1)+11)*48271);lia⟩,by decide,.inr (by decide),by decide,?_⟩
   refine hN _ ?_;clear hN N;walk_at "rt";exact⟨⟨by decide,by decide⟩,k0,fin _ _ _⟩
 ·wp_walk using Ju h1;refine hN _ ?_;clear hN N;have m1:∀ a:Int,0<=a % 2147483647/\a % 2147483647<2147483647:=fun a=>⟨by lia,by lia⟩
  refine av fun N hN=>?_;walk_at "rt";refine⟨.inl (by decide),.inr (by decide),by decide,?_⟩
  refine hN _ ?_;clear hN N;refine av fun N hN=>?_;walk_at "rt";refine⟨.inl ⟨by have:=m1 ((m+6997*(c+1)+11)*48271);lia,by have:=m1 ((m+6997*(c+1)+11)*48271);lia⟩,by decide,.inr (by decide),by decide,?_⟩
  refine hN _ ?_;clear hN N;walk_at "rt";exact⟨⟨by decide,by decide⟩,k0,fin _ _ _⟩
noncomputable def nI:List Int->List L2.T:=List.map L2.T.int
theorem cq(xs:List Int):(nI xs).length=xs.length:=Js ..
theorem ie(xs ys:List Int):nI (xs++ys)=nI xs++nI ys:=JH
theorem qG{xs:List Int}{i:Int}{v:Int}(h:bR xs i=some v):bR (nI xs) i=some (.int v):=by
 unfold bR at h ⊢;unfold nI;rw[Js]
 cases e:hZ xs.length i with
 |none=>rw[e] at h;cases h
 |some j=>rw[e] at h;have h':xs[j]?=some v:=h;show (List.map L2.T.int xs)[j]?=_;rw[J9,h'];rfl
theorem rm(xs:List Int)(a b:Option Int):Y.cI (nI xs) a b=nI (Y.cI xs a b):=by
 unfold Y.cI nI;rw[Js,MS,MT]
noncomputable def jW(ls:List Int):Prop:=0<ls.length/\ls.length<=20/\∀ x∈ls,1<=x/\x<=40
noncomputable def KS(ls:List Int):Nat:=Kr.ks 40 (ls.map Int.toNat)
noncomputable def mI(ls:List Int):Bool:=decide (KS ls<=2^40)
noncomputable def AG:dW:=fun args Q=>∃ c:Int,args=[.int c]/\∀ s,eR s->Q (.fr s) []
theorem zr(T:Txt K mg)(F:HasFn K mg "_law_seed" bZ ["cell"]):ae P w K mg base bA 1 "_law_seed" ["cell"] (spT K [false] AG):=by
 refine F.fG gM [false] rfl (by decide) (fun args Qt hl h f cdv A outer s H E hr=>?_)
 have hu:=bf hr;obtain⟨c,rfl,q⟩:=h;refine⟨_,(Y.af (Y.set (i:=1) gM.nd rfl (by walk_at "lc") (Y.cb (sG rfl) Y.CP rfl T.Gk (by decide +kernel) (Y.cons (Y.vS 0) (Y.cons (Y.op dD Y.cX Y.int (Y.vS 0)) Y.nil))))
   (Y.aD (Y.ret (Y.lst (Y.cons (Y.vS 1) (Y.cons (Y.ct sM Y.CJ rfl T.Fj (by decide +kernel) (Y.cons (Y.cmp AV Y.fe (Y.vS 1) (Y.op CD Y.cG Y.int Y.int)) Y.nil)) (Y.cons Y.int (Y.cons (Y.op dZ Y.cG (Y.vS 0) Y.int) Y.nil)))))))),?_⟩
 refine av fun N hN=>?_;walk_at "rt";refine hN _ ?_;clear hN N;walk_at "rt";exact⟨⟨by decide,by decide,by decide⟩,by decide,by decide,q _ ⟨_,_,_,_,rfl⟩⟩
noncomputable def AA:dW:=fun args Q=>∃(c:L2.T) (ls:List Int),args=[c]/\(c=.tup (nI ls)\/c=.lst (nI ls))/\jW ls/\Q (.tr (.bl (mI ls))) []
theorem C4(T:Txt K mg)(F:HasFn K mg "can_be" dc ["lengths"]):ae P w K mg base bA 1 "can_be" ["lengths"] (spT K [false] AA):=by
 refine F.fG cQ [false] rfl (by decide) (fun args Qt hl h f cdv A outer s H E hr=>?_)
 have hu:=bf hr;obtain⟨c,ls,rfl,hc,hL,q⟩:=h;have hlen:m_ c=Ou.ok (.tr (.int (ls.length:Int))):=by rcases hc with rfl|rfl<;>(rw[<- cq ls];rfl)
 have hsrt:∀(μ:Mu) (Q:R->Mu->Prop),Y.vT c μ Q=(∃ ns:List Int,nI ls=ns.map L2.T.int/\ns.length<64/\∀ ns':List Int,ns'.Perm ns->ns'.Pairwise (·<=·)->Q (.fr (.lst (ns'.map L2.T.int))) μ):=fun μ Q=>by rcases hc with rfl|rfl<;>rfl
 refine⟨_,(Y.af (Y.set (i:=1) cQ.nd rfl (by walk_at "lc") Y.int)
   (Y.af (Y.set (i:=2) cQ.nd rfl (by walk_at "lc") Y.int)
   (Y.af (Y.set (i:=3) cQ.nd rfl (by walk_at "lc") (Y.cb (Y.bj K rfl) Y.cz rfl T.dX (by decide +kernel) (Y.cons (Y.vS 0) Y.nil)))
   (Y.af (Y.eB JR rfl (Y.anyS K rfl (Y.cb (Y.pQ K rfl) Y.we rfl T.jt (by decide +kernel) (Y.cons (Y.vS 0) Y.nil))) (Y.aI (i:=4) cQ.nd rfl (by walk_at "lc")) (Y.af (Y.gm (Y.cg (Y.cK K rfl (JW hu)) Y.dF (Y.vS 1) Y.int) (Y.aD (Y.ret Y.bl)) Y.c_)
   (Y.af (Y.gC JR (Y.tw (Y.vg (Y.cg kY Y.fe (Y.vS 2) (Y.vS 4)) (Y.oy (Y.cg kY Y.fe (Y.vS 1) (Y.vS 3))))) (Y.af (Y.set (i:=1) cQ.nd rfl (by walk_at "lc") (Y.op (Y.e8 K rfl) Y.d3 (Y.vS 1) Y.int))
   (Y.aD (Y.set (i:=2) cQ.nd rfl (by walk_at "lc") (Y.op (Y.aC K rfl) Y.aB (Y.vS 2) Y.int)))))
   (Y.af (Y.gm (Y.cg AV Y.fe (Y.vS 1) (Y.vS 3)) (Y.aD (Y.ret Y.bl)) Y.c_)
   (Y.af (Y.set (i:=1) cQ.nd rfl (by walk_at "lc") (Y.op dD Y.cX (Y.vS 1) Y.int))
   (Y.aD (Y.set (i:=3) cQ.nd rfl (by walk_at "lc") (Y.op dD Y.cX (Y.vS 3) Y.int))))))))
   (Y.aD (Y.ret Y.bl)))))),?_⟩
 refine av fun N hN=>?_;walk_at "rt";refine hN _ ?_;clear hN N;refine av fun N hN=>?_;walk_at "rt";refine hN _ ?_;clear hN N;refine av fun N hN=>?_;wp_walk using hlen;refine hN _ ?_;clear hN N;refine av fun N hN=>?_;wp_walk using hsrt;refine⟨ls,rfl,by have:=hL.2.1;lia,fun rs hp hs=>?_⟩
 refine bD (fun rest μ=>∃(r:List Int) (f d n:Int) (s4:Option L2.T),rest=nI r/\r.Pairwise (·<=·)/\(∀ x∈r,1<=x/\x<=40/\d<=x)/\0<=f/\0<=d/\n=r.length/\(mI ls=true ↔ Kr.fit (r.map Int.toNat) f.toNat d.toNat 40)/\μ=[.tr c,.tr (.int f),.tr (.int d),.tr (.int n),sl s4])
  ⟨rs,1,0,_,none,rfl,hs,fun x hx=>by have:=hL.2.2 x (hp.mem_iff.mp hx);lia,by decide,by decide,by rw[hp.length_eq],?_,rfl⟩ ?_ ?_
 ·unfold mI KS Kr.fit;rw[decide_eq_true_eq,Kr.iT (hp.map Int.toNat),show (1:Int).toNat*2^(40-(0:Int).toNat)=2^40 from rfl]
 ·rintro μ ⟨r,f,d,n,s4,e,_,_,_,_,_,hi,rfl⟩
  cases r with
  |cons=>cases e
  |nil =>
   show N _;refine hN _ ?_;clear hN N;walk_at "rt";have:mI ls=true:=hi.mpr (Kh _);rw[this] at q;exact q
 ·rintro t ts μ M ⟨r,f,d,n,s4,e,hs,hx,f0,d0,hn,hi,rfl⟩ k
  cases r with
  |nil=>cases e
  |cons l r =>
   cases e;obtain⟨hl1,hl2,hl3⟩:=hx l (by simp)
   have hle:∀ x∈r,l<=x:=(Kn.mp hs).1;walk_at "rt";refine av fun M' hM=>?_;by_cases hf:f=0
   ·wp_walk using Jy hf;have:mI ls=false:=by
     cases c:mI ls with
     |false=>rfl
     |true=>have:=hi.mp c;rw[hf] at this;exact absurd this Kr.vE
    rw[this] at q;exact q
   ·wp_walk using Ju hf;refine hM _ ?_;clear hM M';refine av fun M' hM=>?_;have after:∀ f d:Int,0<f->0<=d->d<=l->(d=l\/n<=f)->(mI ls=true ↔ Kr.fit ((l::r).map Int.toNat) f.toNat d.toNat 40)->M' [.tr c,.tr (.int f),.tr (.int d),.tr (.int n),.tr (.int l)]:=fun f d f0 d0 dl hc hi=>by
     refine hM _ ?_;clear hM M';refine av fun M' hM=>?_;by_cases h3:n<=f
     ·wp_walk using Jy h3;have:mI ls=true:=hi.mpr (Kr.pd (fun x hx=>by
       obtain⟨y,hy,rfl⟩:=JX.mp hx;rcases J5.mp hy with rfl|hy
       ·lia
       ·have:=hle y hy;lia) (by rw[Js];lia))
      rw[this] at q;exact q
     ·wp_walk using Ju h3;refine hM _ ?_;clear hM M';refine av fun M' hM=>?_;walk_at "rt";refine hM _ ?_;clear hM M';walk_at "rt";have hd:d=l:=hc.resolve_right h3;subst hd;refine k _ ⟨r,f-1,d,n-1,some _,rfl,(Kn.mp hs).2,fun x hx'=>⟨(hx x (by simp[hx'])).1,(hx x (by simp[hx'])).2.1,hle x hx'⟩,by lia,d0,by rw[hn,J7];lia,?_,rfl⟩
      rw[hi,Kc,Kr.uy (by lia),show (f-1).toNat=f.toNat-1 by lia]
    refine⟨fun m μ=>∃ f d:Int,0<f/\0<=d/\d<=l/\m=(l-d).toNat/\(mI ls=true ↔ Kr.fit ((l::r).map Int.toNat) f.toNat d.toNat 40)/\μ=[.tr c,.tr (.int f),.tr (.int d),.tr (.int n),.tr (.int l)],⟨_,f,d,by lia,d0,hl3,rfl,hi,rfl⟩,?_⟩
    rintro m μ ⟨f,d,f0,d0,dl,rfl,hi,rfl⟩;by_cases c1:d<l
    ·by_cases c2:f<n
     ·wp_walk using Jy c1,Jy c2;refine av fun M2 h2=>?_;walk_at "rt";refine⟨.inr (by decide),?_⟩
      refine h2 _ ?_;clear h2 M2;walk_at "rt";refine⟨_,?_,f*2,d+1,by lia,by lia,by lia,rfl,?_,rfl⟩
      ·lia
      ·rw[hi,Kr.oY (l:=l.toNat) (by lia) (by lia),show (f*2).toNat=f.toNat*2 by lia,show (d+1).toNat=d.toNat+1 by lia]
       exact Iff.rfl
     ·wp_walk using Jy c1,Ju c2;exact after f d f0 d0 dl (.inr (by lia)) hi
    ·wp_walk using Ju c1;exact after f d f0 d0 dl (.inl (by lia)) hi
namespace Cw
noncomputable def inc:List Nat->List Nat
 |[]=>[]
 |c::r=>if r.all (· == 49) then (if c=48 then 49::r.map (fun _=>48) else 48::r.map (fun _=>48)) else c::inc r
noncomputable def pad(n:Nat)(w:List Nat):List Nat:=w++List.replicate (n-w.length) 48
noncomputable def fj(w:List Nat)(n:Nat):List Nat:=pad n (inc w)
noncomputable def ke(w:List Nat)(n:Nat):List Nat:=pad n ((w.reverse.dropWhile (· == 49)).reverse.dropLast++[49])
theorem Eh:∀ w:List Nat,w.all (· == 49)=true->inc w=w.map fun _=>48
 |[],_=>rfl
 |c::r,h=>by
  rw[Kv,Kl] at h;have hc:c=49:=beq_iff_eq.mp h.1;unfold inc;rw[Jy h.2,Ju (by rw[hc];decide),Kc]
theorem lI:∀{l:List Nat},l.all (· == 49)=true->l=List.replicate l.length 49
 |[],_=>rfl
 |c::r,h=>by
  rw[Kv,Kl] at h;have hc:c=49:=beq_iff_eq.mp h.1;rw[J7,Ka,<- lI h.2,hc]
theorem yj(k:Nat):(List.replicate k 49).all (· == 49)=true:=by
 rw[Kx];intro x hx;rw[(Lf.mp hx).2];rfl
theorem parts:∀{w:List Nat},(∀ c∈w,c=48\/c=49)->w.all (· == 49)=false->∃ p k,w=p++48::List.replicate k 49
 |[],_,h=>by cases h
 |c::r,hb,h=>by
  by_cases z:r.all (· == 49)=true
  ·rw[Kv,z,Mh] at h;have hc:c=48:=(hb c JG).resolve_right fun e=>by rw[e] at h;cases h
   exact⟨[],r.length,by rw[hc,Li,<- lI z]⟩
  ·obtain⟨p,k,e⟩:=parts (w:=r) (fun x hx=>hb x (J8 _ hx)) (by simpa using z)
   exact⟨c::p,k,by rw[e];rfl⟩
theorem ig(k:Nat):∀ p:List Nat,inc (p++48::List.replicate k 49)=p++49::List.replicate k 48
 |[]=>by
  rw[Li,Li];unfold inc;rw[Jy (yj k),Jy rfl,List.map_replicate]
 |c::p=>by
  rw[L1];unfold inc;have z:¬ (p++48::List.replicate k 49).all (· == 49)=true:=by
   rw[List.all_append,Kv];simp
  rw[Ju z,ig k p];rfl
theorem pC(k:Nat)(p:List Nat):((p++48::List.replicate k 49).reverse.dropWhile (· == 49)).reverse=p++[48]:=by
 rw[MA,List.reverse_cons,List.reverse_replicate];have e:∀(k:Nat) (t:List Nat),(List.replicate k 49++[48]++t).dropWhile (· == 49)=[48]++t:=fun k t=>by
  induction k with
  |zero=>rfl
  |succ k ih=>rw[Ka,L1,L1,M9,Jy (by decide)];exact ih
 rw[e,MA,M6];rfl
theorem t_{w:List Nat}(hb:∀ c∈w,c=48\/c=49)(h:w.all (· == 49)=false)(hn:w.length<=n):ke w n=fj w n:=by
 obtain⟨p,k,rfl⟩:=parts hb h;unfold ke fj pad;rw[pC,ig,List.dropLast_append_of_ne_nil (by simp)]
 rw[Jt,J7,JF] at hn;simp only[List.dropLast_singleton,JK,Jt,J7,JF,Ke,JU,L1,Li];congr 2;rw[List.replicate_append_replicate];congr 1;lia
noncomputable def val:List Nat->Nat
 |[]=>0
 |c::r=>(c-48)*2^r.length+val r
theorem gE:∀ a b:List Nat,val (a++b)=val a*2^b.length+val b
 |[],b=>by simp[val]
 |c::a,b=>by
  rw[L1,val,val,gE a b,Jt,NG,Nat.add_mul,Mi,NW]
theorem eI:∀ k,val (List.replicate k 48)=0
 |0=>rfl
 |k+1=>by rw[Ka,val,eI k];simp
theorem jB:∀ k,val (List.replicate k 49)+1=2^k
 |0=>rfl
 |k+1=>by
  have:=jB k;rw[Ka,val,JF,Of];lia
theorem lL:∀ w:List Nat,(inc w).length=w.length
 |[]=>rfl
 |c::r=>by
  unfold inc;split
  ·split<;>simp
  ·rw[J7,J7,lL r]
theorem nG:∀{w:List Nat},(∀ c∈w,c=48\/c=49)->∀ c∈inc w,c=48\/c=49
 |[],_,_,h=>by cases h
 |d::r,hb,c,h=>by
  unfold inc at h
  split at h
  ·split at h
   ·rcases J5.mp h with h|h
    ·exact .inr h
    ·obtain⟨_,_,e⟩:=JX.mp h;exact .inl e.symm
   ·rcases J5.mp h with h|h
    ·exact .inl h
    ·obtain⟨_,_,e⟩:=JX.mp h;exact .inl e.symm
  ·rcases J5.mp h with h|h
   ·rw[h];exact hb d JG
   ·exact nG (fun x hx=>hb x (J8 _ hx)) c h
theorem eL{w:List Nat}(h:w.length<=n):(fj w n).length=n:=by
 unfold fj pad;rw[Jt,JF,lL];lia
theorem kC{w:List Nat}(hb:∀ c∈w,c=48\/c=49):∀ c∈fj w n,c=48\/c=49:=fun c h=>by
 rcases K4.mp h with h|h
 ·exact nG hb c h
 ·exact .inl (Lf.mp h).2
theorem nN{w:List Nat}(hb:∀ c∈w,c=48\/c=49)(h:w.all (· == 49)=false):val (fj w n)=(val w+1)*2^(n-w.length):=by
 unfold fj pad;rw[gE,eI,JF,lL,Oa];congr 1;obtain⟨p,k,rfl⟩:=parts hb h;have:=jB k;rw[ig,gE,gE,val,val,eI,J7,J7,JF,JF];lia
theorem w8{w:List Nat}(h:w.all (· == 49)=true):val w+1=2^w.length:=by
 rw[lI h,JF];exact jB _
structure j8 (done:List Nat) (w:List Nat):Prop where
 bits:∀ c∈w,c=48\/c=49
 len:w.length<=40
 sum:(val w+1)*2^(40-w.length)=Kr.ks 40 done
theorem j8.zero{rest w:List Nat}{l:Nat}(h:j8 done w)(hk:Kr.ks 40 done+2^(40-l)<=2^40):w.all (· == 49)=false:=by
 cases z:w.all (· == 49) with
 |false=>rfl
 |true =>
  have e:=h.sum;rw[w8 z,<- NG,Nat.add_sub_cancel' h.len] at e;have:0<2^(40-l):=Nat.pow_pos (by decide)
  lia
theorem j8.next{w:List Nat}{l:Nat}(h:j8 done w)(hl:w.length<=l)(hl2:l<=40)(hk:Kr.ks 40 done+2^(40-l)<=2^40):j8 (done++[l]) (fj w l):=by
 have z:=h.zero (rest:=[]) hk;refine⟨kC h.bits,by rw[eL hl];exact hl2,?_⟩
 rw[nN h.bits z,eL hl,Nat.add_mul,Mi,<- NG,Kr.cO,<- h.sum];have e:l-w.length+(40-l)=40-w.length:=by lia
 rw[e];simp[Kr.ks]
theorem j8.first{l:Nat}(hl:l<=40):j8 [l] (List.replicate l 48):=⟨fun c h=>.inl (Lf.mp h).2,by rw[JF];exact hl,by rw[eI,JF];simp[Kr.ks]⟩
noncomputable def along(nx:List Nat->Nat->List Nat)(ln:Nat->Nat):List Nat->Option (List Nat)×List (List Nat)->Option (List Nat)×List (List Nat)
 |[],s=>s
 |t::r,(a,ws) =>
  let w:=match a with|none=>List.replicate (ln t) 48|some v=>nx v (ln t)
  along nx ln r (some w,ws.set t w)
theorem gg:∀(order done:List Nat) (a:Option (List Nat)) (ws:List (List Nat)),(order.Pairwise fun i j=>ln i<=ln j)->(∀ t∈order,ln t<=40)->(∀ v,a=some v->j8 done v/\∀ t∈order,v.length<=ln t)->(a=none->done=[])->Kr.ks 40 (done++order.map ln)<=2^40->along ke ln order (a,ws)=along fj ln order (a,ws)
 |[],_,_,_,_,_,_,_,_=>rfl
 |t::r,done,a,ws,hp,h20,ha,hn,hk=>by
  obtain⟨p1,p2⟩:=Kn.mp hp;have ht:=h20 t JG;have hk':Kr.ks 40 ((done++[ln t])++r.map ln)<=2^40:=by rw[JU];exact hk
  cases a with
  |none =>
   have:=hn rfl;subst this;exact gg r [ln t] _ _ p2 (fun x hx=>h20 x (J8 _ hx)) (fun v e=>by cases e;exact⟨j8.first ht,fun x hx=>by rw[JF];exact p1 x hx⟩) (fun e=>by cases e) hk'
  |some v =>
   obtain⟨hv,hl⟩:=ha v rfl;have hvl:=hl t JG;have hk2:Kr.ks 40 done+2^(40-ln t)<=2^40:=by
    rw[Kr.cO,Kr.cO] at hk';simp[Kr.ks] at hk';lia
   have e:=t_ hv.bits (hv.zero (rest:=[]) hk2) hvl;show along ke ln r (some (ke v (ln t)),ws.set t (ke v (ln t)))=along fj ln r (some (fj v (ln t)),ws.set t (fj v (ln t)));rw[e];exact gg r (done++[ln t]) _ _ p2 (fun x hx=>h20 x (J8 _ hx)) (fun u e=>by cases e;exact⟨hv.next hvl ht hk2,fun x hx=>by rw[eL hvl];exact p1 x hx⟩) (fun e=>by cases e) hk'
theorem eY{nx:List Nat->Nat->List Nat}:∀(a b:List Nat) (s:Option (List Nat)×List (List Nat)),along nx ln (a++b) s=along nx ln b (along nx ln a s)
 |[],_,_=>rfl
 |t::r,b,(a,ws)=>eY r b _
theorem iy{nx:List Nat->Nat->List Nat}:∀(o:List Nat) (s:Option (List Nat)×List (List Nat)),(along nx ln o s).2.length=s.2.length
 |[],_=>rfl
 |t::r,(a,ws)=>(iy r _).trans Ko
section
variable {α:Type}
end
end Cw
def wd(w:List Nat):Str:=⟨w.toArray⟩
theorem aT(w:List Nat):(wd w).length=w.length:=Jv ..
theorem AW{x:Str}{w:List Nat}(h:x.cps.toList=w):x=wd w:=by
 cases x with|mk a=>subst h;unfold wd;rw[LM]
noncomputable def IY:dW:=fun args Q=>∃ n:Nat,n<=40/\((args=[.aJ,.int (n:Int)]/\Q (.tr (.str (wd (List.replicate n 48)))) [])\/∃ w,args=[.str (wd w),.int (n:Int)]/\w.length<=40/\Q (.tr (.str (wd (Cw.ke w n)))) [])
theorem t5(T:Txt K mg)(F:HasFn K mg "word_behind" bp ["ahead","length"]):ae P w K mg base bA 1 "word_behind" ["ahead","length"] (spT K [false,false] IY):=by
 refine F.fG jR [false,false] rfl (by decide) (fun args Qt hl h f cdv A outer s H E hr=>?_)
 have hu:=bf hr;obtain⟨n,hn,h⟩:=h;refine⟨_,(Y.af (Y.gm (Y.cg lY Y.lW (Y.vS 0) Y.aJ) (Y.aD (Y.ret (Y.op Y.y8 Y.Al Y.str (Y.vS 1)))) Y.c_)
   (Y.aD (Y.ret (Y.sm K rfl PySem.F.slot_str_ljust PySem.F.type_str_ljust Y.v8 Y.u_ (Y.op (Y.aC K rfl) Y.aB (Y.gv K rfl (Y.sm K rfl PySem.F.slot_str_rstrip PySem.F.type_str_rstrip Y.tX Y.sZ (Y.vS 0) (Y.cons Y.str Y.nil)) Y.yL (Y.zu (Y.neg Y.int))) Y.str) (Y.cons (Y.vS 1) (Y.cons Y.str Y.nil)))))),?_⟩
 rcases h with ⟨rfl,q⟩|⟨v,rfl,hv,q⟩
 ·refine fb fun N hN=>?_;walk_at "rt";refine⟨48,by decide,by lia,by lia,?_⟩
  rw[JV];exact q
 ·refine fb fun N hN=>?_;walk_at "rt";rw[hN];clear hN N;walk_at "rt";have e0:(Str.ofString "1").cps.contains=fun c:Nat=>c == 49:=by
   funext c
   show (#[49]:Array Nat).contains c=_;rw[Array.contains_eq_any_beq];simp
  have e1:=mZ (wd v) (Str.ofString "1");rw[e0] at e1;have e2:(Txt.rstripChars (wd v) (Str.ofString "1")).cps.toList=(v.reverse.dropWhile (· == 49)).reverse:=by
   rw[<- M6 (Txt.rstripChars (wd v) (Str.ofString "1")).cps.toList,e1];rfl
  generalize Txt.rstripChars (wd v) (Str.ofString "1")=r at e2;have hr2:r.length<=40:=by
   have:r.length=r.cps.toList.length:=by rw[JZ];rfl
   rw[this,e2,L5];exact JD (NH _).length_le (by rw[L5];exact hv)
  have e3:(Y.gf r none (some (-1))).cps.toList=r.cps.toList.dropLast:=by
   show (Y.cI r.cps.toList none (some (-1))).toArray.toList=_;rw[MB];unfold Y.cI;rw[HT.eM,LJ,M1,Mr];congr 1;show (if (-1:Int)<0 then ((-1:Int)+(r.cps.toList.length:Int)).toNat else min (-1:Int).toNat r.cps.toList.length)=_
   rw[Jy (by decide)]
   lia
  have hl3:(Y.gf r none (some (-1))).length<=40:=by
   have:(Y.gf r none (some (-1))).length=(Y.gf r none (some (-1))).cps.toList.length:=by rw[JZ];rfl
   rw[this,e3,M7,JZ];exact JD (NU _ _) hr2
  refine⟨by rw[aT];lia,JD hr2 (by decide),JD (show _<=41 from Nat.add_le_add_right hl3 1) (by decide),by lia,by lia,rfl,?_⟩
  have e4:Txt.ljustF (Y.gf r none (some (-1))++Str.ofString "1") (n:Int) ((Str.ofString "0").cps.getD 0 0)=wd (Cw.ke v n):=by
   refine AW ?_;rw[PyProof.Rows.ljustF_list,JV];have e5:(Y.gf r none (some (-1))++Str.ofString "1").cps.toList=(v.reverse.dropWhile (· == 49)).reverse.dropLast++[49]:=by
    show ((Y.gf r none (some (-1))).cps++#[49]).toList=_;rw[LO,e3,e2]
   have e6:(Y.gf r none (some (-1))++Str.ofString "1").length=((v.reverse.dropWhile (· == 49)).reverse.dropLast++[49]).length:=by
    rw[<- e5,JZ];rfl
   rw[e5,e6];rfl
  rw[e4];exact q
noncomputable def bg(ls:List Int)(t:Nat):Nat:=(ls.getD t 0).toNat
noncomputable def dw(ls:List Int):List Nat:=i8 ls (List.range ls.length)
noncomputable def wordsOf(nx:List Nat->Nat->List Nat)(ls:List Int):List (List Nat):=(Cw.along nx (bg ls) (dw ls) (none,List.replicate ls.length [])).2
noncomputable def wT(ws:List (List Nat)):List L2.T:=ws.map fun w=>.str (wd w)
theorem fC(ws:List (List Nat)):(wT ws).length=ws.length:=Js ..
noncomputable def AY(C:Addr):yg:=fun args Q Et=>∃ ls:List Int,args=[.tup (nI ls)]/\jW ls/\((mI ls=true/\Q (.tr (.tup (wT (wordsOf Cw.ke ls)))) [])\/(mI ls=false/\Et (.exc (.ref C) none)))
noncomputable def Ip:Option (List Nat)->L2.T
 |none=>.aJ
 |some w=>.str (wd w)
noncomputable def iu(ls:List Int)(done:List Nat):Option (List Nat)×List (List Nat):=Cw.along Cw.ke (bg ls) done (none,List.replicate ls.length [])
theorem rd{v:List Nat}(hv:v.length<=40)(hn:n<=40):(Cw.ke v n).length<=40:=by
 have h1:((v.reverse.dropWhile (· == 49)).reverse.dropLast).length<=39:=by
  rw[M7,L5];have:=(NH (· == 49) (l:=v.reverse)).length_le;rw[L5] at this;lia
 unfold Cw.ke Cw.pad;rw[Jt,JF,Jt,J_];lia
theorem iW{t:Nat}(h:t∈dw ls):t<ls.length:=LH.mp ((nJ (by rw[JN])).mem_iff.mp h)
theorem vA(ls:List Int)(done:List Nat):(iu ls done).2.length=ls.length:=by
 unfold iu;rw[Cw.iy,JF]
theorem zZ(T:Txt K mg)(F:HasFn K mg "code_of" cF ["lengths"])(hcan_be:ae P w K mg base bA 1 "can_be" ["lengths"] (spT K [false] AA))(hword_behind:ae P w K mg base bA 1 "word_behind" ["ahead","length"] (spT K [false,false] IY)){C_NoCode:Addr}(hC_NoCode:mg "NoCode"=some (.ref C_NoCode))(kC_NoCode:oZ K C_NoCode):
  ae P w K mg base (sv P w) 4 "code_of" ["lengths"] (yZ K [false] (AY C_NoCode)):=by
 obtain⟨c,Pt,htab,hcc⟩:=T.nQ.ex;refine F.FQ dU [false] rfl rfl (by decide) (fun args Qt Et hl h f cdv A outer s H E hr hcd=>?_)
 have:=hcc _ _ hcd;subst this;have hu:=bf hr;obtain⟨ls,rfl,hL,h⟩:=h;refine⟨_,(Y.dO (Y.FO (Y.mx (Y.gW K rfl (Y.fn K rfl hcan_be (hr.mono (by decide)) rfl ay (Y.cons (Y.vS 0) Y.nil)))) (Y.kL (Y.ve rfl hC_NoCode kC_NoCode rfl rfl (Y.cons (Y.FK (Y.Cm (Y.Ii hr (Y.vS 0) Y.FU))) Y.nil))) Y.AD)
   (Y.dO (Y.xg (Y.xl (j:=1) dU.nd rfl (by walk_at "lc") (osc:=aa cF) (ON:=["lengths","words","ahead","thing"]) (own:=["length"]) (N:=["length","lengths","words","ahead","thing"]) ⟨rfl,by decide +kernel,rfl,by decide +kernel,by decide +kernel,by decide +kernel,by decide +kernel,by decide +kernel⟩ rfl rfl rfl rfl (Y.anyS K rfl (Y.vS 0)) (fun _ _ _ _=>(Z.aI (i:=0) (show List.Nodup (["length","lengths","words","ahead","thing"]:List Str) by decide +kernel) rfl (by walk_at "lc"))) (fun _ _ _ _=>Y.oz) (fun _ _ _ _=>Y.str)))
   (Y.dO (Y.xg (Y.set (i:=2) dU.nd rfl (by walk_at "lc") Y.aJ))
   (Y.dO (Y.xg (Y.eB PassesOwn.leaving rfl (Y.anyS K rfl (Y.Ep (k:=0) (j:=0) K rfl (by decide) htab rfl rfl rfl rfl rfl T.jt (Y.cons (Y.ct Y.nr Y.xM rfl T.dI (by decide +kernel) (Y.cons (Y.cb (Y.bj K rfl) Y.cz rfl T.dX (by decide +kernel) (Y.cons (Y.vS 0) Y.nil)) Y.nil)) Y.nil) (hr.mono (by decide)) rfl (by decide) rfl rfl rfl rfl rfl rfl rfl (fun _ _ _ _=>rfl))) (Y.aI (i:=3) dU.nd rfl (by walk_at "lc")) (Y.af (Y.asg (Y.fn K rfl hword_behind (hr.mono (by decide)) rfl ay (Y.cons (Y.vS 2) (Y.cons (Y.ix (Y.aO K rfl) Y.ai (Y.vS 0) (Y.vS 3)) Y.nil))) (Y.ot (Y.vS 1) (Y.vS 3)))
   (Y.aD (Y.set (i:=2) dU.nd rfl (by walk_at "lc") (Y.ix (Y.aO K rfl) Y.ai (Y.vS 1) (Y.vS 3)))))))
   (Y.kL (Y.xg (Y.ret (Y.ct (Y.cZ K rfl) Y.d7 rfl T.d5 (by decide +kernel) (Y.cons (Y.vS 1) Y.nil))))))))),?_⟩
 refine jA fun N hN=>?_;walk_at "rt";refine⟨_,ls,rfl,.inl rfl,hL,?_⟩;rcases h with ⟨ho,q⟩|⟨ho,q⟩
 ·wp_walk using ho;rw[hN];clear hN N;refine jA fun N hN=>?_;walk_at "rt";refine bU (fun rest acc μ=>rest.length+acc.length=ls.length/\acc=wT (List.replicate acc.length [])/\μ=[.tr (.tup (nI ls)),.un,.un,.un]) ⟨by rw[cq];rfl,rfl,rfl⟩ ?_ ?_
  ·rintro acc μ ⟨e1,e2,rfl⟩;have e3:acc=wT (List.replicate ls.length []):=by rw[<- show acc.length=ls.length by simpa using e1];exact e2
   clear e1 e2;subst e3;walk_at "rt";refine⟨trivial,?_⟩;rw[hN];clear hN N;refine jA fun N hN=>?_;walk_at "rt";rw[hN];clear hN N;refine jA fun N hN=>?_;wp_walk using cq;refine⟨ls,rfl,rfl,by have:=hL.2.1;lia,?_⟩
   refine bD (fun rest μ=>∃(done todo:List Nat) (o:Option L2.T),done++todo=dw ls/\(rest=todo.map fun k=>L2.T.int ((k:Nat):Int))/\(∀ v,(iu ls done).1=some v->v.length<=40)/\μ=[.tr (.tup (nI ls)),.bx (.lst (wT (iu ls done).2)),.tr (Ip (iu ls done).1),sl o]) ⟨[],dw ls,none,rfl,rfl,(fun v z=>by cases z),rfl⟩ ?_ ?_
   ·rintro μ ⟨done,todo,o,e1,e2,_,rfl⟩;have e3:todo=[]:=by simpa using e2.symm
    subst e3;rw[JK] at e1;subst e1;show N _;rw[hN];clear hN N;walk_at "rt";exact q
   ·rintro t r μ M ⟨done,todo,o,e1,e2,hw,rfl⟩ k
    cases todo with
    |nil=>cases e2
    |cons th todo =>
     obtain⟨rfl,rfl⟩:=List.cons.inj e2;have hth:th<ls.length:=iW (by rw[<- e1];simp)
     have ex:bR (nI ls) (th:Int)=some (.int ls[th]):=qG (bG (Jq hth));have xk:hZ (wT (iu ls done).2).length (th:Int)=some th:=by
      unfold hZ;rw[fC,vA,Jy (by lia),Jy (by lia)];simp
     have hlt:=hL.2.2 _ (JY hth);have en:((bg ls th:Nat):Int)=ls[th]:=by
      unfold bg;rw[JI,Jq hth];simp;lia
     have hn20:bg ls th<=40:=by lia
     have eD:iu ls (done++[th])=Cw.along Cw.ke (bg ls) [th] (iu ls done):=Cw.eY _ _ _;have fin:∀ y:List Nat,y.length<=40->iu ls (done++[th])=(some y,(iu ls done).2.set th y)->M [.tr (.tup (nI ls)),.bx (.lst ((wT (iu ls done).2).set th (.str (wd y)))),.tr (.str (wd y)),.tr (.int (th:Int))]:=fun y hy e=>by
      refine k _ ⟨done++[th],todo,some (.int (th:Int)),by rw[<- e1];simp,rfl,fun v z=>by rw[e] at z;cases z;exact hy,?_⟩
      rw[e];unfold wT;rw[Nr];rfl
     have setI:∀ y:List Nat,bR ((wT (iu ls done).2).set th (.str (wd y))) (th:Int)=some (.str (wd y)):=fun y=>bG (Kb (by rw[fC,vA];exact hth))
     cases hs:iu ls done with
     |mk a ws =>
      rw[hs] at fin eD xk setI hw;dsimp only at fin xk setI
      cases a with
      |none =>
       walk_at "rt";refine fb fun N2 h2=>?_;wp_walk using ex,xk,Ip;refine⟨bg ls th,hn20,.inl ⟨by rw[en],?_⟩⟩
       walk_at "rt";rw[h2];clear h2 N2;wp_walk using xk,setI;exact fin _ (by rw[JF];exact hn20) eD
      |some v =>
       walk_at "rt";refine fb fun N2 h2=>?_;wp_walk using ex,xk,Ip;refine⟨bg ls th,hn20,.inr ⟨v,by rw[en],hw v rfl,?_⟩⟩
       walk_at "rt";rw[h2];clear h2 N2;wp_walk using xk,setI;exact fin _ (rd (hw v rfl) hn20) eD
  ·rintro t r acc μ M ⟨e1,e2,rfl⟩ k;walk_at "rt";rw[J7] at e1;refine⟨trivial,JJ (show acc.length<=40 by have:=hL.2.1;lia) (by decide),k _ _ ⟨by rw[Jt];simp;lia,?_,rfl⟩⟩
   rw[Jt,J_,List.replicate_succ',wT,JH,<- wT,<- e2];rfl
 ·wp_walk using ho;exact⟨ls,rfl,by have:=hL.2.1;lia,fun i hi=>by have:=hL.2.2 i hi;lia,fun _ _=>q⟩
noncomputable def Aw:dW:=fun args Q=>∃ ns:List Int,args=[.eU (nI ns)]/\∀ v:Int,Q (.tr (.int v)) []
theorem sj(T:Txt K mg)(F:HasFn K mg "_law_folded" bw ["script"]):ae P w K mg base bA 1 "_law_folded" ["script"] (spT K [false] Aw):=by
 refine F.fG dk [false] rfl (by decide) (fun args Qt hl h f cdv A outer s H E hr=>?_)
 have hu:=bf hr;obtain⟨ns,rfl,q⟩:=h;refine⟨_,(Y.af (Y.set (i:=1) dk.nd rfl (by walk_at "lc") (Y.cb (Y.bj K rfl) Y.cz rfl T.dX (by decide +kernel) (Y.cons (Y.vS 0) Y.nil)))
   (Y.af (Y.eB JR rfl (Y.anyS K rfl (Y.vS 0)) (Y.aI (i:=2) dk.nd rfl (by walk_at "lc")) (Y.aD (Y.set (i:=1) dk.nd rfl (by walk_at "lc") (Y.op dZ Y.cG (Y.op (Y.aC K rfl) Y.aB (Y.op (Y.e8 K rfl) Y.d3 (Y.vS 1) Y.int) (Y.op dZ Y.cG (Y.vS 2) Y.int)) Y.int))))
   (Y.aD (Y.ret (Y.vS 1))))),?_⟩
 refine av fun N hN=>?_;wp_walk using cq;refine hN _ ?_;clear hN N;refine av fun N hN=>?_;walk_at "rt";refine bD (fun rest μ=>∃(ms:List Int) (v:Int) (o:Option L2.T),rest=nI ms/\μ=[.tr (.eU (nI ns)),.tr (.int v),sl o]) ⟨ns,_,none,rfl,rfl⟩ ?_ ?_
 ·rintro μ ⟨ms,v,o,_,rfl⟩;show N _;refine hN _ ?_;clear hN N;walk_at "rt";exact q v
 ·rintro t r μ M ⟨ms,v,o,e,rfl⟩ k
  cases ms with
  |nil=>cases e
  |cons m ms =>
   cases e;walk_at "rt";refine⟨.inr (by decide),by decide,by decide,k _ ⟨ms,_,some _,rfl,rfl⟩⟩
noncomputable def lO:dW:=fun args Q=>args=[]/\Q (.fr (.lst [.str "put",.str "add",.str "sub",.str "copy",.str "tell",.str "hear",.str "jump",.str "zero",.str "halt"])) []
theorem s_(T:Txt K mg)(F:HasFn K mg "_law_words" bH []):ae P w K mg base bA 1 "_law_words" [] (spT K [] lO):=by
 refine F.fG jU [] rfl (by decide) (fun args Qt hl h f cdv A outer s H E hr=>?_)
 obtain⟨rfl,q⟩:=h;refine⟨_,(Y.aD (Y.ret (Y.lst (Y.e7 rfl rfl)))),?_⟩;walk_at "rt";exact⟨by decide,q⟩
noncomputable def qH:dW:=fun args Q=>∃ s:L2.T,args=[s]/\eR s/\∀(v:Nat) (s':L2.T),eR s'->v<65536->Q (.tr (.int (v:Int))) [s']
theorem tN(T:Txt K mg)(F:HasFn K mg "_law_number" bu ["seed"])(h_law_draw:ae P w K mg base bA 1 "_law_draw" ["seed","most"] (spT K [true,false] lB)):ae P w K mg base bA 2 "_law_number" ["seed"] (spT K [true] qH):=by
 refine F.fG cM [true] rfl (by decide) (fun args Qt hl h f cdv A outer s H E hr=>?_)
 have hu:=bf hr;obtain⟨sd,rfl,hs,q⟩:=h;have qi:∀(v:Int) (s':L2.T),eR s'->0<=v->v<65536->Qt (.tr (.int v)) [s']:=fun v s' h0 h1 h2=>by
  obtain⟨k,rfl⟩:∃ k:Nat,v=k:=⟨v.toNat,by lia⟩
  exact q k s' h0 (by lia)
 refine⟨_,(Y.af (Y.set (i:=1) cM.nd rfl (by walk_at "lc") (Y.fn K rfl h_law_draw (hr.mono (by decide)) rfl ay (Y.cons (Y.vS 0) (Y.cons Y.int Y.nil))))
   (Y.af (Y.gm (Y.cg (Y.cK K rfl (JW hu)) Y.dF (Y.vS 1) Y.int) (Y.aD (Y.ret (Y.fn K rfl h_law_draw (hr.mono (by decide)) rfl ay (Y.cons (Y.vS 0) (Y.cons Y.int Y.nil))))) Y.c_)
   (Y.af (Y.gm (Y.cg (Y.cK K rfl (JW hu)) Y.dF (Y.vS 1) Y.int) (Y.aD (Y.ret (Y.fn K rfl h_law_draw (hr.mono (by decide)) rfl ay (Y.cons (Y.vS 0) (Y.cons Y.int Y.nil))))) Y.c_)
   (Y.af (Y.gm (Y.cg (Y.cK K rfl (JW hu)) Y.dF (Y.vS 1) Y.int) (Y.aD (Y.ret (Y.op dD Y.cX Y.int (Y.fn K rfl h_law_draw (hr.mono (by decide)) rfl ay (Y.cons (Y.vS 0) (Y.cons Y.int Y.nil)))))) Y.c_)
   (Y.af (Y.set (i:=2) cM.nd rfl (by walk_at "lc") Y.int)
   (Y.af (Y.eB JR rfl (Y.jY rfl T.dI (Y.cons (Y.fn K rfl h_law_draw (hr.mono (by decide)) rfl ay (Y.cons (Y.vS 0) (Y.cons Y.int Y.nil))) Y.nil)) (Y.aI (i:=3) cM.nd rfl (by walk_at "lc")) (Y.aD (Y.set (i:=2) cM.nd rfl (by walk_at "lc") (Y.op (Y.aC K rfl) Y.aB (Y.vS 2) (Y.vS 2)))))
   (Y.aD (Y.ret (Y.op dD Y.cX (Y.vS 2) (Y.fn K rfl h_law_draw (hr.mono (by decide)) rfl ay (Y.cons (Y.vS 0) (Y.cons Y.int Y.nil)))))))))))),?_⟩
 refine av fun N hN=>?_;walk_at "rt";refine⟨sd,4,rfl,hs,by decide,by decide,fun way s1 hs1 w0 w1=>?_⟩
 walk_at "rt";refine hN _ ?_;clear hN N;refine av fun N hN=>?_;by_cases a0:way=0
 ·wp_walk using Jy a0;refine⟨s1,5,rfl,hs1,by decide,by decide,fun v s2 hs2 v0 v1=>?_⟩
  walk_at "rt";exact qi v s2 hs2 v0 (by lia)
 ·wp_walk using Ju a0;refine hN _ ?_;clear hN N;refine av fun N hN=>?_;by_cases a1:way=1
  ·wp_walk using Jy a1;refine⟨s1,65536,rfl,hs1,by decide,by decide,fun v s2 hs2 v0 v1=>?_⟩
   walk_at "rt";exact qi v s2 hs2 v0 v1
  ·wp_walk using Ju a1;refine hN _ ?_;clear hN N;refine av fun N hN=>?_;by_cases a2:way=2
   ·wp_walk using Jy a2;refine⟨s1,3,rfl,hs1,by decide,by decide,fun v s2 hs2 v0 v1=>?_⟩
    walk_at "rt";exact qi _ s2 hs2 (by lia) (by lia)
   ·wp_walk using Ju a2;refine hN _ ?_;clear hN N;refine av fun N hN=>?_;walk_at "rt";refine hN _ ?_;clear hN N;refine av fun N hN=>?_;walk_at "rt";refine⟨s1,16,rfl,hs1,by decide,by decide,fun m s2 hs2 m0 m1=>?_⟩
    walk_at "rt";refine⟨by lia,by lia,?_⟩
    refine bD (fun rest μ=>∃(j:Nat) (v:Int) (o:Option L2.T),j+rest.length=m.toNat/\v=2^j/\μ=[.pb s2,.tr (.int way),.tr (.int v),sl o]) ⟨0,1,none,by simp,rfl,rfl⟩ ?_ ?_
    ·rintro μ ⟨j,v,o,hj,hv,rfl⟩;show N _;refine hN _ ?_;clear hN N;walk_at "rt";refine⟨s2,2,rfl,hs2,by decide,by decide,fun d s3 hs3 d0 d1=>?_⟩
     walk_at "rt";have h1:(1:Int)<=2^j:=Int.le_of_lt_add_one (by have:=Int.pow_pos (n:=2) (m:=j) (by decide);lia)
     have h2:(2:Int)^j<=2^15:=by
      have:2^j<=2^15:=Ls (by decide) (by simp at hj;lia)
      exact_mod_cast this
     rw[hv];exact qi _ s3 hs3 (by lia) (by lia)
    ·rintro t r μ M ⟨j,v,o,hj,hv,rfl⟩ k;walk_at "rt";refine k _ ⟨j+1,v+v,some t,by rw[J7] at hj;lia,by rw[hv,Int.pow_succ];lia,rfl⟩
theorem IG(h:b<8):b=0\/b=1\/b=2\/b=3\/b=4\/b=5\/b=6\/b=7:=by lia
inductive Row where
 |put (b n:Nat)|two (w:Fin 3) (a b:Nat)|one (w:Fin 2) (b:Nat)|jump (g:Nat)|zero (b g:Nat)|halt
 deriving DecidableEq
def fo(i:Nat):Str:=⟨#[97+i]⟩
noncomputable def w2:Fin 3->Str
 |0=>"add"
 |1=>"sub"
 |2=>"copy"
def w1:Fin 2->Str
 |0=>"tell"
 |1=>"hear"
inductive GL where
 |s (z:Str)|n (k:Nat)
noncomputable def GL.t:GL->L2.T
 |.s z=>.str z
 |.n k=>.int (k:Nat)
noncomputable def Row.ps:Row->List GL
 |.put b n=>[.s "put",.s (fo b),.n n]
 |.two w a b=>[.s (w2 w),.s (fo a),.s (fo b)]
 |.one w b=>[.s (w1 w),.s (fo b)]
 |.jump g=>[.s "jump",.n g]
 |.zero b g=>[.s "zero",.s (fo b),.n g]
 |.halt=>[.s "halt"]
def Row.t(r:Row):L2.T:=.tup (r.ps.map GL.t)
noncomputable def Row.Ok(size:Nat):Row->Prop
 |.put b n=>b<8/\n<65536
 |.two _ a b=>a<8/\b<8
 |.one _ b=>b<8
 |.jump g=>g<=size
 |.zero b g=>b<8/\g<=size
 |.halt=>True
theorem Row.Ok.mono{a:Nat}{r:Row}(h:r.Ok a)(hm:a<=b):r.Ok b:=by
 cases r<;>simp only[Row.Ok] at h ⊢<;>lia
theorem v7{k:Int}(h0:0<=k)(h1:k<8):bR (Str.ofString "abcdefgh").cps.toList k=some (97+k.toNat):=by
 have e:(Str.ofString "abcdefgh").cps.toList=[97,98,99,100,101,102,103,104]:=by decide +kernel
 rw[e];obtain⟨n,rfl⟩:∃ n:Nat,k=n:=⟨k.toNat,by lia⟩
 unfold bR hZ;have hn:n<8:=by lia
 rw[Jy (by lia),Jy (by simp;lia)]
 show [97,98,99,100,101,102,103,104][((n:Nat):Int).toNat]?=some (97+((n:Nat):Int).toNat);rw[JV];rcases IG hn with rfl|rfl|rfl|rfl|rfl|rfl|rfl|rfl<;>rfl
theorem CI{i:Int}(h0:0<=i)(h1:i<xs.length):∃ t,t∈xs/\bR xs i=some t:=by
 obtain⟨n,rfl⟩:∃ n:Nat,i=n:=⟨i.toNat,by lia⟩
 have hn:n<xs.length:=by lia
 exact⟨xs[n],JY hn,bG (Jq hn)⟩
noncomputable def Fc:dW:=fun args Q=>∃(s:L2.T) (many:Nat),args=[s,.int (many:Int),.int 9]/\eR s/\many<1000/\∀(r:Row) (s':L2.T),r.Ok many->eR s'->Q (.tr r.t) [s']
theorem D9(T:Txt K mg)(F:HasFn K mg "_law_row" cy ["seed","many","words"])(h_law_draw:ae P w K mg base bA 1 "_law_draw" ["seed","most"] (spT K [true,false] lB))(h_law_words:ae P w K mg base bA 1 "_law_words" [] (spT K [] lO))(h_law_number:ae P w K mg base bA 2 "_law_number" ["seed"] (spT K [true] qH)):
  ae P w K mg base bA 3 "_law_row" ["seed","many","words"] (spT K [true,false,false] Fc):=by
 refine F.fG fz [true,false,false] rfl (by decide) (fun args Qt hl h f cdv A outer s H E hr=>?_)
 have hu:=bf hr;obtain⟨sd,many,rfl,hs,hmy,q⟩:=h;refine⟨_,(Y.af (Y.set (i:=3) fz.nd rfl (by walk_at "lc") (Y.ix (Y.aO K rfl) Y.ai (Y.Gx K rfl h_law_words (hr.mono (by decide)) rfl ay) (Y.fn K rfl h_law_draw (hr.mono (by decide)) rfl ay (Y.cons (Y.vS 0) (Y.cons (Y.vS 2) Y.nil)))))
   (Y.af (Y.set (i:=4) fz.nd rfl (by walk_at "lc") (Y.ix (Y.aO K rfl) Y.ai Y.str (Y.fn K rfl h_law_draw (hr.mono (by decide)) rfl ay (Y.cons (Y.vS 0) (Y.cons Y.int Y.nil)))))
   (Y.af (Y.gm (Y.cg (Y.cK K rfl (JW hu)) Y.dF (Y.vS 3) Y.str) (Y.aD (Y.ret (Y.tup (Y.cons (Y.vS 3) (Y.cons (Y.vS 4) (Y.cons (Y.fn K rfl h_law_number (hr.mono (by decide)) rfl ay (Y.cons (Y.vS 0) Y.nil)) Y.nil)))))) Y.c_)
   (Y.af (Y.gm (Y.cg (Y.mQ K rfl) Y.rA (Y.vS 3) (Y.tup (Y.e7 rfl rfl))) (Y.aD (Y.ret (Y.tup (Y.cons (Y.vS 3) (Y.cons (Y.vS 4) (Y.cons (Y.ix (Y.aO K rfl) Y.ai Y.str (Y.fn K rfl h_law_draw (hr.mono (by decide)) rfl ay (Y.cons (Y.vS 0) (Y.cons Y.int Y.nil)))) Y.nil)))))) Y.c_)
   (Y.af (Y.gm (Y.cg (Y.mQ K rfl) Y.rA (Y.vS 3) (Y.tup (Y.e7 rfl rfl))) (Y.aD (Y.ret (Y.tup (Y.cons (Y.vS 3) (Y.cons (Y.vS 4) Y.nil))))) Y.c_)
   (Y.af (Y.gm (Y.cg (Y.cK K rfl (JW hu)) Y.dF (Y.vS 3) Y.str) (Y.aD (Y.ret (Y.tup (Y.cons (Y.vS 3) (Y.cons (Y.fn K rfl h_law_draw (hr.mono (by decide)) rfl ay (Y.cons (Y.vS 0) (Y.cons (Y.op (Y.aC K rfl) Y.aB (Y.vS 1) Y.int) Y.nil))) Y.nil))))) Y.c_)
   (Y.af (Y.gm (Y.cg (Y.cK K rfl (JW hu)) Y.dF (Y.vS 3) Y.str) (Y.aD (Y.ret (Y.tup (Y.cons (Y.vS 3) (Y.cons (Y.vS 4) (Y.cons (Y.fn K rfl h_law_draw (hr.mono (by decide)) rfl ay (Y.cons (Y.vS 0) (Y.cons (Y.op (Y.aC K rfl) Y.aB (Y.vS 1) Y.int) Y.nil))) Y.nil)))))) Y.c_)
   (Y.aD (Y.ret (Y.tup (Y.cons (Y.vS 3) Y.nil))))))))))),?_⟩
 refine av fun N hN=>?_;walk_at "rt";refine⟨rfl,?_⟩;walk_at "rt";refine⟨sd,9,rfl,hs,by decide,by decide,fun c s1 hs1 c0 c1=>?_⟩
 obtain⟨v,hv,ha⟩:=CI (xs:=[.str "put",.str "add",.str "sub",.str "copy",.str "tell",.str "hear",.str "jump",.str "zero",.str "halt"]) c0 c1;wp_walk using ha;clear ha c0 c1;refine hN _ ?_;clear hN N;refine av fun N hN=>?_;walk_at "rt";refine⟨s1,8,rfl,hs1,by decide,by decide,fun b s2 hs2 b0 b1=>?_⟩
 have hb:=v7 b0 b1;wp_walk using hb;refine⟨by decide +kernel,?_⟩
 refine hN _ ?_;clear hN N;obtain⟨bn,rfl⟩:∃ bn:Nat,b=bn:=⟨b.toNat,by lia⟩
 have hb8:bn<8:=by lia
 rw[JV];show Y.y4 _ _ _ [.pb s2,.tr (.int (many:Int)),.tr (.int 9),.tr v,.tr (.str (fo bn))];have hv6:v=.str "put"\/(∃ w,v=.str (w2 w))\/(∃ w,v=.str (w1 w))\/v=.str "jump"\/v=.str "zero"\/v=.str "halt":=by
  simp only[J5,Kt,Ly] at hv;rcases hv with h|h|h|h|h|h|h|h|h<;>subst h<;>first|exact .inl rfl|exact .inr (.inl ⟨0,rfl⟩)|exact .inr (.inl ⟨1,rfl⟩)|exact .inr (.inl ⟨2,rfl⟩)|exact .inr (.inr (.inl ⟨0,rfl⟩))|exact .inr (.inr (.inl ⟨1,rfl⟩))|simp
 clear hv;refine av fun N hN=>?_;rcases hv6 with rfl|⟨u,rfl⟩|⟨u,rfl⟩|hv
 ·wp_walk using (show (Str.ofString "put"=Str.ofString "put")=True from eq_true rfl),Lh;refine⟨s2,rfl,hs2,fun k s3 hs3 k1=>?_⟩;walk_at "rt";exact⟨by decide,q (.put bn k) s3 ⟨hb8,k1⟩ hs3⟩
 ·have n1:∀ u,w2 u≠"put":=by decide +kernel
  have i1:∀ u,Y.fF (.str (w2 u)) [.str "add",.str "sub",.str "copy"]=true:=by decide +kernel
  wp_walk using Ju (n1 u);refine hN _ ?_;clear hN N;refine av fun N hN=>?_;wp_walk using i1 u;refine⟨by decide,rfl,rfl,s2,8,rfl,hs2,by decide,by decide,fun c s3 hs3 c0 c1=>?_⟩
  have hc:=v7 c0 c1;wp_walk using hc;exact⟨by decide +kernel,by decide,q (.two u bn c.toNat) s3 ⟨hb8,by lia⟩ hs3⟩
 ·have n1:∀ u,w1 u≠"put":=by decide +kernel
  have i1:∀ u,Y.fF (.str (w1 u)) [.str "add",.str "sub",.str "copy"]=false:=by decide +kernel
  have i2:∀ u,Y.fF (.str (w1 u)) [.str "tell",.str "hear"]=true:=by decide +kernel
  wp_walk using Ju (n1 u);refine hN _ ?_;clear hN N;refine av fun N hN=>?_;wp_walk using i1 u;refine⟨by decide,rfl,rfl,?_⟩
  refine hN _ ?_;clear hN N;refine av fun N hN=>?_;wp_walk using i2 u;exact⟨by decide,rfl,rfl,by decide,q (.one u bn) s2 hb8 hs2⟩
 ·have n1:∀ z∈([("jump"),("zero"),("halt")]:List Str),z≠"put"/\Y.fF (.str z) [.str "add",.str "sub",.str "copy"]=false/\Y.fF (.str z) [.str "tell",.str "hear"]=false:=by decide +kernel
  obtain⟨z,hz,rfl⟩:∃ z∈([("jump"),("zero"),("halt")]:List Str),v=.str z:=by rcases hv with rfl|rfl|rfl<;>exact⟨_,by simp,rfl⟩
  obtain⟨e1,e2,e3⟩:=n1 z hz;wp_walk using Ju e1;refine hN _ ?_;clear hN N;refine av fun N hN=>?_;wp_walk using e2;refine⟨by decide,rfl,rfl,?_⟩
  refine hN _ ?_;clear hN N;refine av fun N hN=>?_;wp_walk using e3;refine⟨by decide,rfl,rfl,?_⟩
  refine hN _ ?_;clear hN N;refine av fun N hN=>?_;rcases hv with hv|hv
  ·cases hv;wp_walk using Jy (rfl:Str.ofString "jump"=Str.ofString "jump");refine⟨s2,(many:Int)+1,rfl,hs2,by lia,by lia,fun g s3 hs3 g0 g1=>?_⟩
   obtain⟨gn,rfl⟩:∃ gn:Nat,g=gn:=⟨g.toNat,by lia⟩
   walk_at "rt";exact⟨by decide,q (.jump gn) s3 (show gn<=many by lia) hs3⟩
  ·have nh:z≠"jump":=by rcases hv with hv|hv<;>cases hv<;>decide +kernel
   wp_walk using Ju nh;refine hN _ ?_;clear hN N;refine av fun N hN=>?_;rcases hv with hv|hv
   ·cases hv;wp_walk using Jy (rfl:Str.ofString "zero"=Str.ofString "zero");refine⟨s2,(many:Int)+1,rfl,hs2,by lia,by lia,fun g s3 hs3 g0 g1=>?_⟩
    obtain⟨gn,rfl⟩:∃ gn:Nat,g=gn:=⟨g.toNat,by lia⟩
    walk_at "rt";exact⟨by decide,q (.zero bn gn) s3 ⟨hb8,(show gn<=many by lia)⟩ hs3⟩
   ·cases hv;have nz:Str.ofString "halt"≠Str.ofString "zero":=by decide +kernel
    wp_walk using Ju nz;refine hN _ ?_;clear hN N;walk_at "rt";exact⟨by decide,q .halt s2 trivial hs2⟩
noncomputable def oI:Option Nat->L2.T
 |none=>.aJ
 |some k=>.int k
noncomputable def nO:List (Option Nat)->List L2.T:=List.map oI
noncomputable def fi:Option Nat->Int
 |none=>0
 |some 0=>5
 |some 1=>10
 |some _=>18
noncomputable def rS:List Int->List (Option Nat)->Int->List Int
 |s::ss,w::ws,a=>(a+s+fi w)::rS ss ws (a+s+fi w)
 |_,_,_=>[]
noncomputable def aK(ss:List Int)(ws:List (Option Nat)):List Int:=0::rS ss ws 0
theorem rL:∀(ss:List Int) (ws:List (Option Nat)) (a:Int),ss.length=ws.length->(rS ss ws a).length=ss.length
 |[],[],_,_=>rfl
 |s::ss,w::ws,a,h=>JS (·+1) (rL ss ws _ (by simpa using h))
noncomputable def Ws(ws:List (Option Nat)):Prop:=∀ w∈ws,∀ k,w=some k->k<3
theorem hU{xs:List (Option Nat)}{v:Option Nat}(h:xs[j]?=some v):bR (nO xs) (j:Int)=some (oI v):=by
 refine bG ?_;unfold nO;rw[J9,h];rfl
theorem fu(xs:List (Option Nat)):(nO xs).length=xs.length:=Js ..
noncomputable def Er:dW:=fun args Q=>∃ w:Option Nat,args=[oI w]/\(∀ k,w=some k->k<3)/\Q (.tr (.int (fi w))) []
theorem nF(T:Txt K mg)(F:HasFn K mg "own_part" cx ["width"]):ae P w K mg base bA 1 "own_part" ["width"] (spT K [false] Er):=by
 refine F.fG n9 [false] rfl (by decide) (fun args Qt hl h f cdv A outer s H E hr=>?_)
 have hu:=bf hr;obtain⟨w,rfl,hw,q⟩:=h;refine⟨_,(Y.aD (Y.ret (Y.AL (Y.cg lY Y.lW (Y.vS 0) Y.aJ) Y.int (Y.op (Y.aC K rfl) Y.aB (Y.cb (Y.bj K rfl) Y.cz rfl T.dX (by decide +kernel) (Y.cons (Y.ix (Y.aO K rfl) Y.ai (Y.gP rfl T.rV) (Y.vS 0)) Y.nil)) (Y.ix (Y.aO K rfl) Y.ai (Y.gP rfl T.nu) (Y.vS 0)))))),?_⟩
 have l0:(Str.ofString "0").length=1:=by decide +kernel
 have l1:(Str.ofString "10").length=2:=by decide +kernel
 have l2:(Str.ofString "11").length=2:=by decide +kernel
 have sz:2<=sizeLine:=by decide
 match w,hw,q with
 |none,_,q=>wp_walk using oI;exact q
 |some 0,_,q=>wp_walk using oI,(show ((0:Nat):Int)=0 from rfl),l0;exact⟨by decide,q⟩
 |some 1,_,q=>wp_walk using oI,(show ((1:Nat):Int)=1 from rfl),l1;exact⟨by decide,q⟩
 |some 2,_,q=>wp_walk using oI,(show ((2:Nat):Int)=2 from rfl),l2;exact⟨by decide,q⟩
 |some (k+3),hw,_=>exact absurd (hw _ rfl) (by lia)
noncomputable def fT:dW:=fun args Q=>∃(ss:List Int) (ws:List (Option Nat)) (t1 t2:L2.T),args=[t1,t2]/\(t1=.tup (nI ss)\/t1=.lst (nI ss))/\(t2=.tup (nO ws)\/t2=.lst (nO ws))/\ss.length=ws.length/\ss.length<=60/\Ws ws/\Q (.fr (.lst (nI (aK ss ws)))) []
theorem mM{pre:List Int}{a:Int}:bR (nI (pre++[a])) (-1)=some (.int a):=qG (xW pre a)
theorem km(T:Txt K mg)(F:HasFn K mg "row_starts" bE ["sizes","widths"])(hown_part:ae P w K mg base bA 1 "own_part" ["width"] (spT K [false] Er)):ae P w K mg base bA 2 "row_starts" ["sizes","widths"] (spT K [false,false] fT):=by
 refine F.fG d4 [false,false] rfl (by decide) (fun args Qt hl h f cdv A outer s H E hr=>?_)
 have hu:=bf hr;obtain⟨ss,ws,t1,t2,rfl,h1,h2,hlen,hle,hw,q⟩:=h;refine⟨_,(Y.af (Y.set (i:=2) d4.nd rfl (by walk_at "lc") (Y.lst (Y.cons Y.int Y.nil)))
   (Y.af (Y.eB JR rfl (Y.zip K rfl rfl T.xc (Y.cons (Y.vS 0) (Y.cons (Y.vS 1) Y.nil))) (Y.iG (n:=2) K rfl rfl (Y.cc (Y.aI (i:=3) d4.nd rfl (by walk_at "lc")) (Y.cc (Y.aI (i:=4) d4.nd rfl (by walk_at "lc")) Y.fq))) (Y.aD (Y.expr (Y.bm K rfl PySem.F.slot_list_append PySem.F.type_list_append cE Y.cS (Y.vS 2) (Y.cons (Y.op (Y.aC K rfl) Y.aB (Y.op (Y.aC K rfl) Y.aB (Y.ix (Y.aO K rfl) Y.ai (Y.vS 2) (Y.neg Y.int)) (Y.vS 3)) (Y.fn K rfl hown_part (hr.mono (by decide)) rfl ay (Y.cons (Y.vS 4) Y.nil))) Y.nil)))))
   (Y.aD (Y.ret (Y.vS 2))))),?_⟩
 have e1:ki t1=some (nI ss):=by rcases h1 with rfl|rfl<;>rfl
 have e2:ki t2=some (nO ws):=by rcases h2 with rfl|rfl<;>rfl
 refine fb fun N hN=>?_;walk_at "rt";refine⟨by decide,?_⟩
 rw[hN];clear hN N;refine fb fun N hN=>?_;wp_walk using e1,e2;refine bD (fun rest μ=>∃(ss':List Int) (ws':List (Option Nat)) (pre:List Int) (a:Int) (s3 s4:Option L2.T),rest=m4 (nI ss') (nO ws')/\ss'.length=ws'.length/\Ws ws'/\μ=[.tr t1,.tr t2,.bx (.lst (nI (pre++[a]))),sl s3,sl s4]/\pre++[a]++rS ss' ws' a=aK ss ws/\pre.length+ss'.length<=60)
  ⟨ss,ws,[],0,none,none,rfl,hlen,hw,rfl,rfl,by simpa using hle⟩ ?_ ?_
 ·rintro μ ⟨ss',ws',pre,a,s3,s4,e,hl',_,rfl,ep,_⟩;have:ss'=[]:=by
   cases ss' with
   |nil=>rfl
   |cons=>cases ws' with
    |nil=>cases hl'
    |cons=>cases e
  subst this
  cases ws' with
  |cons=>cases hl'
  |nil =>
   show N _;rw[hN];clear hN N;walk_at "rt";rw[show pre++[a]=aK ss ws by rw[<- ep];simp[rS]]
   exact q
 ·rintro t ts μ M ⟨ss',ws',pre,a,s3,s4,e,hl',hw',rfl,ep,hz⟩ k
  cases ss' with
  |nil=>cases e
  |cons z ss'=>cases ws' with
   |nil=>cases hl'
   |cons v ws' =>
    cases e;wp_walk using mM;refine⟨v,rfl,hw' v (by simp),?_⟩
    walk_at "rt";refine⟨by rw[cq];simp;exact JJ (show pre.length+1<=61 by simp at hz;lia) (by decide),?_⟩
    refine k _ ⟨ss',ws',pre++[a],a+z+fi v,some (.int z),some (oI v),rfl,by simpa using hl',fun x hx=>hw' x (by simp[hx]),?_,?_,by simp at hz ⊢;lia⟩
    ·rw[ie (pre++[a]) [a+z+fi v]];rfl
    ·rw[<- ep];simp[rS]
def gb:Nat->Int
 |0=>8
 |1=>128
 |_=>32768
noncomputable def fk(d:Int)(k:Nat):Bool:=decide (-gb k<=d) && decide (d<gb k)
theorem kr(h:k<3):bR [L2.T.int 8,.int 128,.int 32768] (k:Int)=some (.int (gb k)):=by
 match k,h with
 |0,_=>rfl
 |1,_=>rfl
 |2,_=>rfl
theorem kP{ps:List Int}{x:Int}(h:ps[j]?=some x):bR (nI ps) (j:Int)=some (.int x):=qG (bG h)
noncomputable def qS:dW:=fun args Q=>∃(ps:List Int) (gs:List (Option Nat)) (t2:L2.T) (i g:Nat) (x y:Int),args=[.lst (nI ps),t2,.int i]/\(t2=.tup (nO gs)\/t2=.lst (nO gs))/\gs[i]?=some (some g)/\ps[g]?=some x/\ps[i+1]?=some y/\Q (.tr (.int (x-y))) []
theorem jK(T:Txt K mg)(F:HasFn K mg "distance_of" bz ["starts","goals","row"]):ae P w K mg base bA 1 "distance_of" ["starts","goals","row"] (spT K [false,false,false] qS):=by
 refine F.fG jr [false,false,false] rfl (by decide) (fun args Qt hl h f cdv A outer s H E hr=>?_)
 have hu:=bf hr;obtain⟨ps,gs,t2,i,g,x,y,rfl,h2,hg,hx,hy,q⟩:=h;refine⟨_,(Y.aD (Y.ret (Y.op dD Y.cX (Y.ix (Y.aO K rfl) Y.ai (Y.vS 0) (Y.ix (Y.aO K rfl) Y.ai (Y.vS 1) (Y.vS 2))) (Y.ix (Y.aO K rfl) Y.ai (Y.vS 0) (Y.op (Y.aC K rfl) Y.aB (Y.vS 2) Y.int))))),?_⟩;have a1:=hU hg;have a2:=kP hx;have a3:bR (nI ps) ((i:Int)+1)=some (.int y):=kP (j:=i+1) hy;rcases h2 with rfl|rfl
 ·wp_walk using a1,oI,a2,a3;exact q
 ·wp_walk using a1,oI,a2,a3;exact q
noncomputable def AR:dW:=fun args Q=>∃(ps:List Int) (gs ws:List (Option Nat)) (t2 t3:L2.T) (i g k:Nat) (x y:Int),args=[.lst (nI ps),t2,t3,.int i]/\(t2=.tup (nO gs)\/t2=.lst (nO gs))/\(t3=.tup (nO ws)\/t3=.lst (nO ws))/\gs[i]?=some (some g)/\ws[i]?=some (some k)/\k<3/\ps[g]?=some x/\ps[i+1]?=some y/\Q (.tr (.bl (fk (x-y) k))) []
theorem zS(T:Txt K mg)(F:HasFn K mg "fits" eX ["starts","goals","widths","row"])(hdistance_of:ae P w K mg base bA 1 "distance_of" ["starts","goals","row"] (spT K [false,false,false] qS)):ae P w K mg base bA 2 "fits" ["starts","goals","widths","row"] (spT K [false,false,false,false] AR):=by
 refine F.fG qE [false,false,false,false] rfl (by decide) (fun args Qt hl h f cdv A outer s H E hr=>?_)
 have hu:=bf hr;obtain⟨ps,gs,ws,t2,t3,i,g,k,x,y,rfl,h2,h3,hg,hw,hk,hx,hy,q⟩:=h;refine⟨_,(Y.af (Y.set (i:=4) qE.nd rfl (by walk_at "lc") (Y.ix (Y.aO K rfl) Y.ai (Y.gP rfl T.vY) (Y.ix (Y.aO K rfl) Y.ai (Y.vS 2) (Y.vS 3))))
   (Y.aD (Y.ret (Y.chain AS Y.fe kY Y.fe (Y.neg (Y.vS 4)) (Y.fn K rfl hdistance_of (hr.mono (by decide)) rfl ay (Y.cons (Y.vS 0) (Y.cons (Y.vS 1) (Y.cons (Y.vS 3) Y.nil)))) (Y.vS 4))))),?_⟩
 have a1:=hU hw;have a2:=kr hk;have fin:∀ t2 t3:L2.T,(t2=.tup (nO gs)\/t2=.lst (nO gs))->∀ Q:R->List L2.T->Prop,Q (.tr (.int (x-y))) []->qS [.lst (nI ps),t2,.int i] Q:=fun t2 t3 h Q hq=>⟨ps,gs,t2,i,g,x,y,rfl,h,hg,hx,hy,hq⟩;rcases h3 with rfl|rfl
 all_goals
  refine fb fun N hN=>?_;wp_walk using a1,oI,a2;rw[hN];clear hN N;walk_at "rt";refine fin t2 t2 h2 _ ?_;walk_at "rt";unfold fk at q;by_cases c:-gb k<=x-y
  ·rw[Kj c] at q ⊢;walk_at "rt";exact q
  ·rw[JL c] at q ⊢;walk_at "rt";exact q
theorem dz{i:Nat}{x:L2.T}(h:xs[i]?=some x):(pairs xs).drop i=.tup [.int (i:Nat),x]::(pairs xs).drop (i+1):=by
 have hi:i<xs.length:=(Jz.mp h).1;have hl:(pairs xs).length=xs.length:=by simp[pairs]
 rw[Lr (by rw[hl];exact hi)]
 congr 1;simp only[pairs,Np,MJ,h,Option.getD_some]
theorem ic(xs:List L2.T):(pairs xs).drop xs.length=[]:=by
 apply List.drop_eq_nil_of_le;simp[pairs]
noncomputable def cU(ps:List Int)(gs ws:List (Option Nat))(j:Nat):Bool:=match gs[j]?,ws[j]? with
 |some (some g),some (some k)=>!fk (ps.getD g 0-ps.getD (j+1) 0) k
 |_,_=>false
noncomputable def eK(ps:List Int)(gs ws:List (Option Nat))(n i:Nat):Option Nat:=(List.range' i (n-i)).find? (cU ps gs ws)
theorem uG(ps:List Int)(gs ws:List (Option Nat))(n:Nat):eK ps gs ws n n=none:=by unfold eK;rw[M5];rfl
theorem t6{ps:List Int}{i:Nat}(h:i<n):eK ps gs ws n i=if cU ps gs ws i=true then some i else eK ps gs ws n (i+1):=by
 unfold eK;obtain⟨m,hm⟩:∃ m,n-i=m+1:=⟨n-i-1,by lia⟩
 rw[hm,K6,show n-(i+1)=m by lia,List.find?_cons]
 cases cU ps gs ws i<;>simp
structure GW (ss:List Int) (gs ws:List (Option Nat)):Prop where
 lg:gs.length=ss.length
 lw:ws.length=ss.length
 le:ss.length<=60
 w3:Ws ws
 go:∀(j g:Nat),gs[j]?=some (some g)->g<=ss.length/\∃ k,ws[j]?=some (some k)
theorem fE(h:ss.length=ws.length):(aK ss ws).length=ss.length+1:=by
 unfold aK;rw[J7,rL _ _ _ h]
theorem Ws.at(h:Ws ws)(e:ws[j]?=some (some k)):k<3:=h _ (Km e) k rfl
theorem eu{ps:List Int}(h:j<ps.length):ps[j]?=some (ps.getD j 0):=by
 rw[Jq h];simp[List.getD,Jq h]
noncomputable def rN:Option Nat->L2.T
 |none=>.aJ
 |some j=>.int j
noncomputable def r_:dW:=fun args Q=>∃(ss:List Int) (gs ws:List (Option Nat)) (t1 t3:L2.T),args=[t1,.lst (nO gs),t3]/\(t1=.tup (nI ss)\/t1=.lst (nI ss))/\(t3=.tup (nO ws)\/t3=.lst (nO ws))/\GW ss gs ws/\Q (.tr (rN (eK (aK ss ws) gs ws ss.length 0))) []
theorem tP(T:Txt K mg)(F:HasFn K mg "first_too_narrow" aG ["sizes","goals","widths"])(hrow_starts:ae P w K mg base bA 2 "row_starts" ["sizes","widths"] (spT K [false,false] fT))(hfits:ae P w K mg base bA 2 "fits" ["starts","goals","widths","row"] (spT K [false,false,false,false] AR)):
  ae P w K mg base bA 3 "first_too_narrow" ["sizes","goals","widths"] (spT K [false,false,false] r_):=by
 refine F.fG cm [false,false,false] rfl (by decide) (fun args Qt hl h f cdv A outer s H E hr=>?_)
 have hu:=bf hr;obtain⟨ss,gs,ws,t1,t3,rfl,h1,h3,gw,q⟩:=h;refine⟨_,(Y.af (Y.set (i:=3) cm.nd rfl (by walk_at "lc") (Y.fn K rfl hrow_starts (hr.mono (by decide)) rfl ay (Y.cons (Y.vS 0) (Y.cons (Y.vS 2) Y.nil))))
   (Y.af (Y.eB JR rfl (Y.Bm K rfl rfl T.fJ (Y.cons (Y.vS 1) Y.nil)) (Y.iG (n:=2) K rfl rfl (Y.cc (Y.aI (i:=4) cm.nd rfl (by walk_at "lc")) (Y.cc (Y.aI (i:=5) cm.nd rfl (by walk_at "lc")) Y.fq))) (Y.aD (Y.gm (Y.tw (Y.vg (Y.cg fX Y.fP (Y.vS 5) Y.aJ) (Y.oy (Y.mx (Y.gW K rfl (Y.fn K rfl hfits (hr.mono (by decide)) rfl ay (Y.cons (Y.vS 3) (Y.cons (Y.vS 1) (Y.cons (Y.vS 2) (Y.cons (Y.vS 4) Y.nil)))))))))) (Y.aD (Y.ret (Y.vS 4))) Y.c_)))
   (Y.aD (Y.ret Y.aJ)))),?_⟩
 have hlp:=fE (ss:=ss) (ws:=ws) gw.lw.symm;refine fb fun N hN=>?_;walk_at "rt";refine⟨ss,ws,t1,t3,rfl,h1,h3,gw.lw.symm,gw.le,gw.w3,?_⟩;walk_at "rt";rw[hN];clear hN N;refine fb fun N hN=>?_;walk_at "rt";refine bD (fun rest μ=>∃(i:Nat) (s4 s5:Option L2.T),rest=(pairs (nO gs)).drop i/\i<=ss.length/\μ=[.tr t1,.tr (.lst (nO gs)),.tr t3,.bx (.lst (nI (aK ss ws))),sl s4,sl s5]/\eK (aK ss ws) gs ws ss.length 0=eK (aK ss ws) gs ws ss.length i)
  ⟨0,none,none,rfl,Kh _,rfl,rfl⟩ ?_ ?_
 ·rintro μ ⟨i,s4,s5,e,hi,rfl,eb⟩;have hi2:i=ss.length:=by
   rcases Ks i ss.length with z|z
   ·rw[dz (x:=oI (gs[i]'(by rw[gw.lg];exact z))) (by unfold nO;rw[J9,Jq (by rw[gw.lg];exact z)];rfl)] at e
    cases e
   ·lia
  subst hi2;rw[uG] at eb;show N _;rw[hN];clear hN N;rw[eb] at q;walk_at "rt";exact q
 ·rintro t ts μ M ⟨i,s4,s5,e,hi,rfl,eb⟩ k;have hi2:i<ss.length:=by
   rcases Ks i ss.length with z|z
   ·exact z
   ·have:i=(nO gs).length:=by rw[fu,gw.lg];lia
    rw[this,ic] at e;cases e
  have eg:gs[i]?=some (gs[i]'(by rw[gw.lg];exact hi2)):=Jq _
  generalize gs[i]'(by rw[gw.lg];exact hi2)=go at eg
  rw[dz (x:=oI go) (by unfold nO;rw[J9,eg];rfl)] at e
  cases e;rw[t6 hi2] at eb
  cases go with
  |none =>
   have nb:cU (aK ss ws) gs ws i=false:=by unfold cU;rw[eg]
   rw[nb] at eb;wp_walk using oI;exact k _ ⟨i+1,some _,some _,rfl,hi2,rfl,by simpa using eb⟩
  |some g =>
   obtain⟨hg,kk,ek⟩:=gw.go i g eg;have hk:=gw.w3.at ek;have bd:cU (aK ss ws) gs ws i=!fk ((aK ss ws).getD g 0-(aK ss ws).getD (i+1) 0) kk:=by unfold cU;rw[eg,ek]
   wp_walk using oI;refine⟨aK ss ws,gs,ws,.lst (nO gs),t3,i,g,kk,_,_,rfl,.inr rfl,h3,eg,ek,hk,eu (by rw[hlp];lia),eu (by rw[hlp];lia),?_⟩
   walk_at "rt";refine⟨.inr ⟨rfl,rfl⟩,?_⟩
   cases c:fk ((aK ss ws).getD g 0-(aK ss ws).getD (i+1) 0) kk with
   |true =>
    rw[c] at bd;rw[bd] at eb;walk_at "rt";exact k _ ⟨i+1,some _,some _,rfl,hi2,rfl,by simpa using eb⟩
   |false =>
    rw[c] at bd;rw[bd] at eb;rw[eb] at q;walk_at "rt";exact q
noncomputable def goodW(ss:List Int)(gs ws:List (Option Nat)):Bool:=(eK (aK ss ws) gs ws ss.length 0).isNone
noncomputable def i3(gs:List (Option Nat)):List (Option Nat):=gs.map (Option.map fun _=>0)
theorem m6(h1:gs.length=ss.length)(h2:ss.length<=60)(hg:∀(j g:Nat),gs[j]?=some (some g)->g<=ss.length):GW ss gs (i3 gs):=by
 refine⟨h1,by unfold i3;rw[Js];exact h1,h2,fun w hw k e=>?_,fun j g e=>⟨hg j g e,0,by unfold i3;rw[J9,e];rfl⟩⟩
 unfold i3 at hw;obtain⟨x,_,rfl⟩:=JX.mp hw
 cases x with
 |none=>cases e
 |some y=>cases e;show 0<3;decide
theorem GW.set(h:GW ss gs ws)(hk:k<2)(e:ws[j]?=some (some k)):GW ss gs (ws.set j (some (k+1))):=by
 refine⟨h.lg,by rw[Ko];exact h.lw,h.le,fun w hw m em=>?_,fun i g eg=>⟨(h.go i g eg).1,?_⟩⟩
 ·rcases LS hw with z|z
  ·exact h.w3 w z m em
  ·rw[z] at em;cases em;lia
 ·obtain⟨m,em⟩:=(h.go i g eg).2;by_cases z:j=i
  ·subst z;exact⟨k+1,by rw[Kb (Jz.mp e).1]⟩
  ·exact⟨m,by rw[Kg z];exact em⟩
theorem ya:(nO ws).set j (.int ((k:Int)+1))=nO (ws.set j (some (k+1))):=by
 unfold nO;rw[Nr];rfl
noncomputable def Eo:dW:=fun args Q=>∃ gs:List (Option Nat),args=[.lst (nO gs)]/\gs.length<=60/\Q (.fr (.lst (nO (i3 gs)))) []
theorem mh(T:Txt K mg)(F:HasFn K mg "narrowest" bJ ["goals"]):ae P w K mg base bA 1 "narrowest" ["goals"] (spT K [false] Eo):=by
 refine F.fG l_ [false] rfl (by decide) (fun args Qt hl h f cdv A outer s H E hr=>?_)
 have hu:=bf hr;obtain⟨gs,rfl,hg,q⟩:=h;refine⟨_,(Y.aD (Y.ret (Y.i5 (osc:=aa bJ) (ON:=["goals"]) (own:=["goal"]) (N:=["goal","goals"]) ⟨rfl,by decide +kernel,rfl,by decide +kernel,by decide +kernel,by decide +kernel,by decide +kernel,by decide +kernel⟩ rfl rfl rfl rfl (Y.anyS K rfl (Y.vS 0)) (fun _ _ _ _=>(Z.aI (i:=0) (show List.Nodup (["goal","goals"]:List Str) by decide +kernel) rfl (by walk_at "lc"))) (fun _ _ _ _=>Y.oz) (fun _ _ _ _=>(Y.AL (Y.cg lY Y.lW (Y.vS 0) Y.aJ) Y.aJ Y.int))))),?_⟩
 walk_at "rt";refine bU (fun rest acc μ=>∃ gs1 gs2:List (Option Nat),gs=gs1++gs2/\rest=nO gs2/\acc=nO (i3 gs1)/\μ=[.tr (.lst (nO gs))]) ⟨[],gs,rfl,rfl,rfl,rfl⟩ ?_ ?_
 ·rintro acc μ ⟨gs1,gs2,e,e2,rfl,rfl⟩
  cases gs2 with
  |cons=>cases e2
  |nil =>
   rw[JK] at e;subst e;refine⟨trivial,?_⟩;walk_at "rt";exact q
 ·rintro t r acc μ N ⟨gs1,gs2,e,e2,rfl,rfl⟩ k
  cases gs2 with
  |nil=>cases e2
  |cons g gs2 =>
   cases e2;have hz:(nO (i3 gs1)).length<sizeLine:=by rw[fu];unfold i3;rw[Js];exact JJ (show gs1.length<=60 by rw[e] at hg;simp at hg;lia) (by decide)
   refine⟨trivial,hz,?_⟩;have st:∀ x,x=Option.map (fun _=>0) g->N (nO (i3 gs1)++[oI x]) [.tr (.lst (nO gs))]:=fun x hx=>k _ _ ⟨gs1++[g],gs2,by simp[e],rfl,by simp[nO,i3,hx],rfl⟩
   cases g with
   |none=>wp_walk using oI;exact st none rfl
   |some g'=>wp_walk using oI;exact st (some 0) rfl
noncomputable def wt:Option Nat->Nat
 |none=>0
 |some k=>2-k
noncomputable def left(ws:List (Option Nat)):Nat:=(ws.map wt).sum
theorem gZ:∀{ws:List (Option Nat)} {j k:Nat},ws[j]?=some (some k)->k<2->left (ws.set j (some (k+1)))+1=left ws
 |[],_,_,e,_=>by simp at e
 |w::ws,0,k,e,h=>by
  have e':w=some k:=by simpa using e
  subst e';show 2-(k+1)+left ws+1=2-k+left ws;lia
 |w::ws,j+1,k,e,h=>by
  have:=gZ (ws:=ws) (j:=j) (k:=k) (by simpa using e) h
  show wt w+left (ws.set j (some (k+1)))+1=wt w+left ws;lia
theorem rX:∀ ws:List (Option Nat),left ws<=2*ws.length
 |[]=>J6 _
 |w::ws=>by
  have:=rX ws;show wt w+left ws<=2*(ws.length+1);have:wt w<=2:=by cases w with|none=>exact Kh _|some k=>exact NU _ _
  lia
noncomputable def mW(ss:List Int)(gs:List (Option Nat)):Nat->List (Option Nat)->List Int->Option (List (Option Nat)×List Int)
 |0,_,_=>none
 |f+1,ws,ps=>match eK (aK ss ws) gs ws ss.length 0 with
  |none=>some (ws,ps)
  |some j=>match ws[j]? with
   |some (some k)=>if k=2 then none else mW ss gs f (ws.set j (some (k+1))) (ps++[(j:Int)])
   |_=>none
noncomputable def iH(ss:List Int)(gs:List (Option Nat)):Option (List (Option Nat)×List Int):=mW ss gs (left (i3 gs)+1) (i3 gs) []
theorem iz{ps:List Int}(h:eK ps gs ws n 0=some j):cU ps gs ws j=true/\j<n:=by
 unfold eK at h;refine⟨List.find?_some h,?_⟩;have:=List.mem_of_find?_eq_some h;simp at this;lia
theorem jD(gw:GW ss gs ws)(h:eK (aK ss ws) gs ws ss.length 0=some j):∃ g k,gs[j]?=some (some g)/\ws[j]?=some (some k)/\k<3:=by
 obtain⟨hb,hj⟩:=iz h;unfold cU at hb
 split at hb
 ·rename_i g k eg ek;exact⟨g,k,eg,ek,gw.w3.at ek⟩
 ·cases hb
noncomputable def nM(mg:Str->Option Value):yg:=fun args Q Et=>∃(ss:List Int) (gs:List (Option Nat)),args=[.lst (nI ss),.lst (nO gs)]/\gs.length=ss.length/\ss.length<=60/\(∀(j g:Nat),gs[j]?=some (some g)->g<=ss.length) /\
 (∀ ws ps,iH ss gs=some (ws,ps)->GW ss gs ws->goodW ss gs ws=true->Q (.tr (.tup [.tup (nO ws),.tup (nI ps)])) [])/\(iH ss gs=none->∀ C,mg "NoReach"=some (.ref C)->Et (.exc (.ref C) none))
theorem oV(T:Txt K mg)(F:HasFn K mg "raised_till_good" aH ["sizes","goals"])(hnarrowest:ae P w K mg base bA 1 "narrowest" ["goals"] (spT K [false] Eo))
  (hfirst_too_narrow:ae P w K mg base bA 3 "first_too_narrow" ["sizes","goals","widths"] (spT K [false,false,false] r_)):ae P w K mg base (sv P w) 4 "raised_till_good" ["sizes","goals"] (yZ K [false,false] (nM mg)):=by
 obtain⟨C_NoReach,hC_NoReach,kC_NoReach⟩:=T.sy;refine F.IS bC [false,false] rfl rfl (by decide) (fun args Qt Et hl h f cdv A outer s H E hr=>?_)
 have hu:=bf hr;obtain⟨ss,gs,rfl,hgl,hle,hgo,q,qx⟩:=h;refine⟨_,(Y.dO (Y.xg (Y.set (i:=2) bC.nd rfl (by walk_at "lc") (Y.fn K rfl hnarrowest (hr.mono (by decide)) rfl ay (Y.cons (Y.vS 1) Y.nil))))
   (Y.dO (Y.xg (Y.set (i:=3) bC.nd rfl (by walk_at "lc") (Y.lst Y.nil)))
   (Y.dO (Y.xg (Y.set (i:=4) bC.nd rfl (by walk_at "lc") (Y.fn K rfl hfirst_too_narrow (hr.mono (by decide)) rfl ay (Y.cons (Y.vS 0) (Y.cons (Y.vS 1) (Y.cons (Y.vS 2) Y.nil))))))
   (Y.dO (Y.zz PassesOwn.leaving (Y.cg fX Y.fP (Y.vS 4) Y.aJ) (Y.dO (Y.FO (Y.cg (Y.cK K rfl (JW hu)) Y.dF (Y.ix (Y.aO K rfl) Y.ai (Y.vS 2) (Y.vS 4)) (Y.gP rfl T.xE)) (Y.kL (Y.ve rfl hC_NoReach kC_NoReach rfl rfl (Y.cons (Y.FK (Y.Cm (Y.GR (Y.vS 4) (Y.Cm Y.FU)))) Y.nil))) Y.AD)
   (Y.dO (Y.xg (Y.asg (Y.op (Y.aC K rfl) Y.aB (Y.ix (Y.aO K rfl) Y.ai (Y.vS 2) (Y.vS 4)) Y.int) (Y.ot (Y.vS 2) (Y.vS 4))))
   (Y.dO (Y.xg (Y.expr (Y.bm K rfl PySem.F.slot_list_append PySem.F.type_list_append cE Y.cS (Y.vS 3) (Y.cons (Y.vS 4) Y.nil))))
   (Y.kL (Y.xg (Y.set (i:=4) bC.nd rfl (by walk_at "lc") (Y.fn K rfl hfirst_too_narrow (hr.mono (by decide)) rfl ay (Y.cons (Y.vS 0) (Y.cons (Y.vS 1) (Y.cons (Y.vS 2) Y.nil)))))))))))
   (Y.kL (Y.xg (Y.ret (Y.tup (Y.cons (Y.ct (Y.cZ K rfl) Y.d7 rfl T.d5 (by decide +kernel) (Y.cons (Y.vS 2) Y.nil)) (Y.cons (Y.ct (Y.cZ K rfl) Y.d7 rfl T.d5 (by decide +kernel) (Y.cons (Y.vS 3) Y.nil)) Y.nil)))))))))),?_⟩
 have gw0:=m6 hgl hle hgo;refine jA fun N hN=>?_;walk_at "rt";refine⟨gs,rfl,by lia,?_⟩
 walk_at "rt";rw[hN];clear hN N;refine jA fun N hN=>?_;walk_at "rt";rw[hN];clear hN N;refine jA fun N hN=>?_;walk_at "rt";refine⟨ss,gs,i3 gs,_,_,rfl,.inr rfl,.inr rfl,gw0,?_⟩;walk_at "rt";have flr:∀ o:Option Nat,fc (R.tr (rN o))=true:=fun o=>by cases o<;>rfl
 refine⟨.inr ⟨flr _,rfl⟩,?_⟩;rw[hN];clear hN N;refine jA fun N hN=>?_;refine⟨fun m μ=>∃(ws:List (Option Nat)) (ps:List Int),GW ss gs ws/\ps.length+left ws<=1000/\m=left ws/\mW ss gs (left ws+1) ws ps=iH ss gs/\μ=[.tr (.lst (nI ss)),.tr (.lst (nO gs)),.bx (.lst (nO ws)),.bx (.lst (nI ps)),.tr (rN (eK (aK ss ws) gs ws ss.length 0))],
  ⟨_,i3 gs,[],gw0,?_,rfl,rfl,rfl⟩,?_⟩
 ·have:=rX (i3 gs);have:=gw0.lw
  simp;lia
 rintro m μ ⟨ws,ps,gw,hps,rfl,hrun,rfl⟩;have hrun':(match eK (aK ss ws) gs ws ss.length 0 with
  |none=>some (ws,ps)
  |some j=>match ws[j]? with
   |some (some k)=>if k=2 then none else mW ss gs (left ws) (ws.set j (some (k+1))) (ps++[(j:Int)])
   |_=>none)=iH ss gs:=hrun
 cases c:eK (aK ss ws) gs ws ss.length 0 with
 |none =>
  rw[c] at hrun';wp_walk using rN;rw[hN];clear hN N;walk_at "rt";refine⟨by decide,q ws ps hrun'.symm gw ?_⟩
  unfold goodW;rw[c];rfl
 |some j =>
  rw[c] at hrun';obtain⟨g,k,eg,ek,k3⟩:=jD gw c;have ak:=hU ek;simp only[ek] at hrun';wp_walk using rN;refine jA fun M hM=>?_;by_cases h2:k=2
  ·subst h2;wp_walk using ak,oI,(show ((2:Nat):Int)=2 from rfl),decide_true;have hj60:j<60:=by have:=(iz c).2;lia
   refine⟨?_,fun z hz=>qx ?_ _ hC_NoReach⟩
   ·rw[LX];exact JO (show j<2^6 by lia) (Ls (by decide) (by decide))
   ·rw[<- hrun'];simp
  ·have h2':¬ ((k:Int)=2):=by lia
   simp only[Ju h2] at hrun';wp_walk using ak,oI,Ju h2';rw[hM];clear hM M;have xk:hZ (nO ws).length (j:Int)=some j:=by
    have hj:=(Jz.mp ek).1;unfold hZ;rw[fu,Jy (by lia),Jy (by lia)];simp
   refine jA fun M hM=>?_;wp_walk using ak,oI,xk,ya;rw[hM];clear hM M;refine jA fun M hM=>?_;walk_at "rt";have hleft:=gZ ek (by lia)
   refine⟨JJ (show _<=1000 by rw[cq];lia) (by decide),?_⟩
   rw[hM];clear hM M;have gw2:=gw.set (by lia) ek
   walk_at "rt";refine⟨ss,gs,ws.set j (some (k+1)),_,_,rfl,.inr rfl,.inr rfl,gw2,?_⟩;walk_at "rt";refine⟨.inr ⟨flr _,rfl⟩,_,?_,ws.set j (some (k+1)),ps++[(j:Int)],gw2,?_,rfl,?_,?_⟩
   ·lia
   ·rw[Jt,J_];lia
   ·rw[hleft];exact hrun'
   ·rw[ie];rfl
noncomputable def rP(mg:Str->Option Value):yg:=fun args Q Et=>∃(ss:List Int) (gs:List (Option Nat)),args=[.lst (nI ss),.lst (nO gs)]/\gs.length=ss.length/\ss.length<=60/\(∀(j g:Nat),gs[j]?=some (some g)->g<=ss.length) /\
 (∀ ws ps,iH ss gs=some (ws,ps)->GW ss gs ws->goodW ss gs ws=true->Q (.tr (.tup (nO ws))) [])/\(iH ss gs=none->∀ C,mg "NoReach"=some (.ref C)->Et (.exc (.ref C) none))
theorem sC(T:Txt K mg)(F:HasFn K mg "least_widths" aZ ["sizes","goals"])(hraised_till_good:ae P w K mg base (sv P w) 4 "raised_till_good" ["sizes","goals"] (yZ K [false,false] (nM mg))):ae P w K mg base (sv P w) 5 "least_widths" ["sizes","goals"] (yZ K [false,false] (rP mg)):=by
 refine F.IS iN [false,false] rfl rfl (by decide) (fun args Qt Et hl h f cdv A outer s H E hr=>?_)
 have hu:=bf hr;obtain⟨ss,gs,rfl,hgl,hle,hgo,q,qx⟩:=h;refine⟨_,(Y.kL (Y.HR (Y.Jg (Y.aO K rfl) Y.ai (Y.IZ K rfl hraised_till_good (hr.mono (by decide)) rfl rfl (Y.cons (Y.vS 0) (Y.cons (Y.vS 1) Y.nil))) Y.int))),?_⟩
 walk_at "rt";refine⟨ss,gs,rfl,hgl,hle,hgo,fun ws ps h1 h2 h3=>?_,qx⟩;walk_at "rt";exact q ws ps h1 h2 h3
def dg(n:Int):Nat:=48+(n % 2).toNat
noncomputable def cY:Int->Nat->List Nat->List Nat
 |_,0,acc=>acc
 |n,k+1,acc=>cY (n / 2) k (dg n::acc)
theorem dM:∀(k:Nat) (n:Int) (acc:List Nat),(cY n k acc).length=k+acc.length
 |0,_,_=>by rw[cY,L0]
 |k+1,n,acc=>by rw[cY,dM k,J7];lia
theorem jC:∀(k:Nat) (n:Int) (acc:List Nat),∃ d,cY n (k+1) acc=d::cY n k acc
 |0,n,acc=>⟨dg n,rfl⟩
 |k+1,n,acc=>by
  obtain⟨d,e⟩:=jC k (n / 2) (dg n::acc);exact⟨d,e⟩
theorem Iv(n:Int):dg n=48\/dg n=49:=by
 unfold dg;have:n % 2=0\/n % 2=1:=by lia
 rcases this with e|e<;>rw[e]
 ·exact .inl rfl
 ·exact .inr rfl
theorem Ay(n:Int):bR (Str.ofString "01").cps.toList (n % 2)=some (dg n):=by
 have:n % 2=0\/n % 2=1:=by lia
 unfold dg;rcases this with e|e<;>rw[e]
 ·exact (by decide +kernel)
 ·exact (by decide +kernel)
theorem BF(n:Int):Str.ofString (toString (n % 2))=wd [dg n]:=by
 have:n % 2=0\/n % 2=1:=by lia
 unfold dg;rcases this with e|e<;>rw[e]
 ·exact (by decide +kernel)
 ·exact (by decide +kernel)
theorem dy(a b:List Nat):wd a++wd b=wd (a++b):=by
 apply AW;show (a.toArray++b.toArray).toList=_;simp
theorem fO:Str.ofString ""=wd []:=by decide +kernel
noncomputable def xV:dW:=fun args Q=>∃(n k:Int),args=[.int n,.int k]/\-1<=k/\k<=16/\Q (.tr (.str (wd (cY n k.toNat [])))) []
noncomputable def oB:dW:=fun args Q=>∃(n:Int) (k:Nat),args=[.int n,.int (k:Int)]/\k<=40/\Q (.tr (.str (wd (cY n k [])))) []
theorem zk(T:Txt K mg)(F:HasFn K mg "last_figures" aV ["number","many"]):ae P w K mg base bA 1 "last_figures" ["number","many"] (spT K [false,false] xV):=by
 refine F.fG bQ [false,false] rfl (by decide) (fun args Qt hl h f cdv A outer s H E hr=>?_)
 have hu:=bf hr;obtain⟨n,k,rfl,hk0,hk,q⟩:=h;refine⟨_,(Y.af (Y.set (i:=2) bQ.nd rfl (by walk_at "lc") Y.str)
   (Y.af (Y.set (i:=3) bQ.nd rfl (by walk_at "lc") (Y.vS 0))
   (Y.af (Y.eB JR rfl (Y.jY rfl T.dI (Y.cons (Y.vS 1) Y.nil)) (Y.aI (i:=4) bQ.nd rfl (by walk_at "lc")) (Y.af (Y.set (i:=2) bQ.nd rfl (by walk_at "lc") (Y.op (Y.aC K rfl) Y.aB (Y.ct sX Y.C7 rfl T.uM (by decide +kernel) (Y.cons (Y.op dZ Y.cG (Y.vS 3) Y.int) Y.nil)) (Y.vS 2)))
   (Y.aD (Y.set (i:=3) bQ.nd rfl (by walk_at "lc") (Y.op Y.eS Y.cG (Y.vS 3) Y.int)))))
   (Y.aD (Y.ret (Y.vS 2)))))),?_⟩
 refine av fun N hN=>?_;walk_at "rt";refine hN _ ?_;clear hN N;refine av fun N hN=>?_;walk_at "rt";refine hN _ ?_;clear hN N;refine av fun N hN=>?_;walk_at "rt";refine⟨by lia,by lia,?_⟩
 refine bD (fun rest μ=>∃(m:Int) (acc:List Nat) (o:Option L2.T),cY m rest.length acc=cY n k.toNat []/\rest.length+acc.length=k.toNat/\μ=[.tr (.int n),.tr (.int k),.tr (.str (wd acc)),.tr (.int m),sl o]) ⟨n,[],none,by rw[Js,JN],by rw[Js,JN];rfl,by rw[fO];rfl⟩ ?_ ?_
 ·rintro μ ⟨m,acc,o,e,_,rfl⟩;show N _;refine hN _ ?_;clear hN N;walk_at "rt";rw[<- e] at q;exact q
 ·rintro t ts μ M ⟨m,acc,o,e,hl,rfl⟩ kk;rw[J7] at e hl;walk_at "rt";refine av fun M' hM=>?_;walk_at "rt";have h2:(m % 2).natAbs.log2<1920:=by
   have:m % 2=0\/m % 2=1:=by lia
   rcases this with e|e<;>rw[e]<;>decide
  rw[BF,aT,aT,dy];refine⟨by decide,h2,JD (show _<=20 by simp;lia) (by decide),?_⟩
  refine hM _ ?_;clear hM M';walk_at "rt";exact⟨⟨by decide,by decide⟩,kk _ ⟨m / 2,dg m::acc,some _,e,by rw[J7];lia,rfl⟩⟩
noncomputable def du(n:Nat):Nat:=Builtin.Int.intBits (n:Int)
noncomputable def ij(n:Nat):List Nat:=cY (n:Int) (du n) []
theorem gR{n:Nat}(h:n<65536):du n<17:=by
 unfold du Builtin.Int.intBits;split
 ·decide
 ·rename_i hz;have h0:n≠0:=fun z=>hz (by rw[z];rfl)
  show (n:Int).natAbs.log2+1<17;rw[LX];have:=(N9 (n:=n) (k:=16) h0).mpr (by lia)
  lia
noncomputable def Cu:dW:=fun args Q=>∃ n:Nat,args=[.int (n:Int)]/\n<65536/\Q (.tr (.str (wd (ij n).tail))) []
theorem CL(T:Txt K mg)(F:HasFn K mg "figures_behind_first" az ["number"])(hlast_figures:ae P w K mg base bA 1 "last_figures" ["number","many"] (spT K [false,false] xV)):ae P w K mg base bA 2 "figures_behind_first" ["number"] (spT K [false] Cu):=by
 refine F.fG eJ [false] rfl (by decide) (fun args Qt hl h f cdv A outer s H E hr=>?_)
 have hu:=bf hr;obtain⟨n,rfl,hn,q⟩:=h;refine⟨_,(Y.aD (Y.ret (Y.fn K rfl hlast_figures (hr.mono (by decide)) rfl ay (Y.cons (Y.vS 0) (Y.cons (Y.op dD Y.cX (Y.bits (Y.vS 0)) Y.int) Y.nil))))),?_⟩
 walk_at "rt";have hb:=gR hn;unfold du at hb;refine⟨(n:Int),_,rfl,by lia,by lia,?_⟩
 have e:cY (n:Int) ((Builtin.Int.intBits (n:Int):Int)-1).toNat []=(ij n).tail:=by
  unfold ij du
  cases c:Builtin.Int.intBits (n:Int) with
  |zero=>rfl
  |succ k =>
   obtain⟨d,e⟩:=jC k (n:Int) [];rw[e,List.tail_cons,show ((k+1:Nat):Int)-1=(k:Int) by lia,JV]
 rw[e];exact q
theorem w4(T:Txt K mg)(F:HasFn K mg "_law_bits" bW ["number","width"]):ae P w K mg base bA 1 "_law_bits" ["number","width"] (spT K [false,false] oB):=by
 refine F.fG dh [false,false] rfl (by decide) (fun args Qt hl h f cdv A outer s H E hr=>?_)
 have hu:=bf hr;obtain⟨n,k,rfl,hk,q⟩:=h;refine⟨_,(Y.af (Y.set (i:=2) dh.nd rfl (by walk_at "lc") Y.str)
   (Y.af (Y.eB JR rfl (Y.jY rfl T.dI (Y.cons (Y.vS 1) Y.nil)) (Y.aI (i:=3) dh.nd rfl (by walk_at "lc")) (Y.af (Y.set (i:=2) dh.nd rfl (by walk_at "lc") (Y.op (Y.aC K rfl) Y.aB (Y.ix (Y.aO K rfl) Y.ai Y.str (Y.op dZ Y.cG (Y.vS 0) Y.int)) (Y.vS 2)))
   (Y.aD (Y.set (i:=0) dh.nd rfl (by walk_at "lc") (Y.op Y.eS Y.cG (Y.vS 0) Y.int)))))
   (Y.aD (Y.ret (Y.vS 2))))),?_⟩
 refine av fun N hN=>?_;walk_at "rt";refine hN _ ?_;clear hN N;refine av fun N hN=>?_;walk_at "rt";refine⟨by lia,by lia,?_⟩
 rw[JV];refine bD (fun rest μ=>∃(m:Int) (acc:List Nat) (o:Option L2.T),cY m rest.length acc=cY n k []/\rest.length+acc.length=k/\μ=[.tr (.int m),.tr (.int (k:Int)),.tr (.str (wd acc)),sl o]) ⟨n,[],none,by rw[Js,JN],by rw[Js,JN];rfl,by rw[fO];rfl⟩ ?_ ?_
 ·rintro μ ⟨m,acc,o,e,_,rfl⟩;show N _;refine hN _ ?_;clear hN N;walk_at "rt";rw[<- e] at q;exact q
 ·rintro t ts μ M ⟨m,acc,o,e,hl,rfl⟩ kk;rw[J7] at e hl;walk_at "rt";refine av fun M' hM=>?_;wp_walk using Ay;rw[show (⟨#[dg m]⟩:Str)=wd [dg m] from rfl,aT,aT,dy];refine⟨by decide,by decide +kernel,JD (show _<=50 by simp;lia) (by decide),?_⟩
  refine hM _ ?_;clear hM M';walk_at "rt";exact⟨⟨by decide,by decide⟩,kk _ ⟨m / 2,dg m::acc,some _,e,by rw[J7];lia,rfl⟩⟩
noncomputable def d9:Nat->List Nat
 |0=>[48]
 |1=>[49,48]
 |_=>[49,49]
def jm:Nat->Nat
 |0=>4
 |1=>8
 |_=>16
noncomputable def ny(k:Nat)(d:Int):List Nat:=d9 k++cY d (jm k) []
noncomputable def Bo:dW:=fun args Q=>∃(k:Nat) (d:Int),args=[.int (k:Int),.int d]/\k<3/\Q (.tr (.str (wd (ny k d)))) []
theorem Aa(T:Txt K mg)(F:HasFn K mg "jump_written" aW ["width","distance"])(hlast_figures:ae P w K mg base bA 1 "last_figures" ["number","many"] (spT K [false,false] xV)):ae P w K mg base bA 2 "jump_written" ["width","distance"] (spT K [false,false] Bo):=by
 refine F.fG iJ [false,false] rfl (by decide) (fun args Qt hl h f cdv A outer s H E hr=>?_)
 have hu:=bf hr;obtain⟨k,d,rfl,hk,q⟩:=h;refine⟨_,(Y.aD (Y.ret (Y.op (Y.aC K rfl) Y.aB (Y.ix (Y.aO K rfl) Y.ai (Y.gP rfl T.rV) (Y.vS 0)) (Y.fn K rfl hlast_figures (hr.mono (by decide)) rfl ay (Y.cons (Y.vS 1) (Y.cons (Y.ix (Y.aO K rfl) Y.ai (Y.gP rfl T.nu) (Y.vS 0)) Y.nil)))))),?_⟩
 have a1:bR [L2.T.str (Str.ofString "0"),L2.T.str (Str.ofString "10"),L2.T.str (Str.ofString "11")] (k:Int)=some (.str (wd (d9 k))):=by
  rcases (show k=0\/k=1\/k=2 by lia) with rfl|rfl|rfl
  ·rw[show wd (d9 0)=Str.ofString "0" by decide +kernel];rfl
  ·rw[show wd (d9 1)=Str.ofString "10" by decide +kernel];rfl
  ·rw[show wd (d9 2)=Str.ofString "11" by decide +kernel];rfl
 have a2:bR [L2.T.int 4,L2.T.int 8,L2.T.int 16] (k:Int)=some (.int (jm k:Nat)):=by
  rcases (show k=0\/k=1\/k=2 by lia) with rfl|rfl|rfl<;>rfl
 have s16:jm k<=16:=by
  rcases (show k=0\/k=1\/k=2 by lia) with rfl|rfl|rfl<;>decide
 have h2:(d9 k).length<=2:=by
  rcases (show k=0\/k=1\/k=2 by lia) with rfl|rfl|rfl<;>decide
 wp_walk using a1,a2;refine⟨d,_,rfl,by lia,by lia,?_⟩
 rw[JV];walk_at "rt";rw[aT,aT,dy,dM];exact⟨JD (show _<=20 by simp;lia) (by decide),q⟩
theorem sA(h:0<n):Builtin.Int.intBits (n:Int)=Builtin.Int.intBits ((n / 2:Nat):Int)+1:=by
 unfold Builtin.Int.intBits;rw[Ju (by simp;lia)]
 show (n:Int).natAbs.log2+1=_;rw[LX,Nat.log2_def];split
 ·rw[Ju (by simp;lia),LX]
 ·have e:n / 2=0:=by lia
  rw[e];rfl
noncomputable def AI:dW:=fun args Q=>∃ n:Nat,args=[.int (n:Int)]/\n<65536/\Q (.tr (.str (wd (ij n)))) []
theorem pH(T:Txt K mg)(F:HasFn K mg "_law_figures" aY ["number"]):ae P w K mg base bA 1 "_law_figures" ["number"] (spT K [false] AI):=by
 refine F.fG cV [false] rfl (by decide) (fun args Qt hl h f cdv A outer s H E hr=>?_)
 have hu:=bf hr;obtain⟨n,rfl,hn,q⟩:=h;refine⟨_,(Y.af (Y.set (i:=1) cV.nd rfl (by walk_at "lc") Y.str)
   (Y.af (Y.gC JR (Y.cg Az Y.fe (Y.vS 0) Y.int) (Y.af (Y.set (i:=1) cV.nd rfl (by walk_at "lc") (Y.op (Y.aC K rfl) Y.aB (Y.ix (Y.aO K rfl) Y.ai Y.str (Y.op dZ Y.cG (Y.vS 0) Y.int)) (Y.vS 1)))
   (Y.aD (Y.set (i:=0) cV.nd rfl (by walk_at "lc") (Y.op Y.eS Y.cG (Y.vS 0) Y.int)))))
   (Y.aD (Y.ret (Y.vS 1))))),?_⟩
 refine av fun N hN=>?_;walk_at "rt";refine hN _ ?_;clear hN N;refine av fun N hN=>?_;have hb:=gR hn;refine⟨fun m μ=>∃(k:Nat) (acc:List Nat),m=k/\cY (k:Int) (du k) acc=ij n/\du k+acc.length=du n/\μ=[.tr (.int (k:Int)),.tr (.str (wd acc))],⟨n,n,[],rfl,rfl,rfl,by rw[fO]⟩,?_⟩
 rintro k μ ⟨_,acc,rfl,hk,hl,rfl⟩;by_cases c:(0:Int)<(k:Int)
 ·wp_walk using Jy c;refine av fun M hM=>?_;wp_walk using Ay;have hk1:0<k:=by lia
  have hbk:du k=du (k / 2)+1:=sA hk1;rw[show (⟨#[dg (k:Int)]⟩:Str)=wd [dg (k:Int)] from rfl,aT,aT,dy];refine⟨by decide,by decide +kernel,JD (show _<=50 by simp;lia) (by decide),?_⟩
  refine hM _ ?_;clear hM M;walk_at "rt";have e2:(k:Int) / 2=((k / 2:Nat):Int):=by lia
  rw[hbk,cY,e2] at hk;rw[e2];exact⟨⟨by decide,by decide⟩,k / 2,by lia,k / 2,dg (k:Int)::acc,rfl,hk,by rw[J7];lia,rfl⟩
 ·wp_walk using Ju c;have hk0:k=0:=by lia
  subst hk0;refine hN _ ?_;clear hN N;walk_at "rt";rw[<- hk] at q;exact q
theorem uS{α β:Type}{f:α->β}{o m:List β}(h:o.Perm m):∀ l:List α,l.map f=m->∃ k:List α,k.map f=o/\k.Perm l:=by
 induction h with
 |nil =>
  intro l e
  cases l with
  |nil=>exact⟨[],rfl,.nil⟩
  |cons=>cases e
 |cons x p ih =>
  intro l e
  cases l with
  |nil=>cases e
  |cons a l =>
   obtain⟨rfl,e2⟩:=List.cons.inj e;obtain⟨k,e3,p3⟩:=ih l e2;exact⟨a::k,by rw[Kc,e3],p3.cons a⟩
 |swap x y l0 =>
  intro l e;rcases l with _|⟨a,_|⟨b,l⟩⟩
  ·cases e
  ·cases e
  ·obtain⟨rfl,e2⟩:=List.cons.inj e;obtain⟨rfl,e3⟩:=List.cons.inj e2;exact⟨b::a::l,by rw[<- e3];rfl,.swap ..⟩
 |trans p q ih1 ih2 =>
  intro l e;obtain⟨k,e1,p1⟩:=ih2 l e;obtain⟨k',e2,p2⟩:=ih1 k e1;exact⟨k',e2,p2.trans p1⟩
theorem yI{p:List Nat}(hp:p.Perm (List.range ls.length))(hr:p.Pairwise (SP.R fun i=>ls.getD i 0)):dw ls=p:=by
 have ez:(List.range ls.length).map (fun i=>(ls.getD i 0,i))=ls.zip (List.range ls.length):=by
  apply Mn
  ·rw[Js,JN,N3,JN,KQ]
  ·intro i h1 h2;rw[Js,JN] at h1;rw[Np,MJ,List.getElem_zip];simp[h1]
 have e1:p.map (fun i=>(ls.getD i 0,i))=fB (ls.zip (List.range ls.length)):=by
  refine o7 ?_ fun a=>?_
  ·exact Md.mpr (hr.imp fun h=>h.le)
  ·have fl:∀ l:List Nat,atK a (l.map fun i=>(ls.getD i 0,i))=(l.filter fun i=>decide (ls.getD i 0=a)).map fun i=>(ls.getD i 0,i):=fun l=>by
    unfold atK;rw[List.filter_map];rfl
   rw[<- ez,fl,fl];congr 1;refine Nq (le:=(· < ·)) (fun a b _ _ h g=>absurd h (Nat.lt_asymm g)) ?_ (NB.filter _) (hp.filter _);rw[List.pairwise_filter];refine hr.imp fun {i j} h hi hj=>?_;have hi:=Ln hi;have hj:=Ln hj;rcases h with h|h
   ·exfalso;have h':ls.getD i 0<ls.getD j 0:=h;lia
   ·exact h.2
 unfold dw i8;rw[<- e1,KR];exact List.map_id _
noncomputable def w_(ls:List Int)(i:Nat):Int×Int:=(ls.getD i 0,(i:Int))
theorem se{out:List (Int×Int)}(hp:out.Perm ((List.range ls.length).map (w_ ls)))(hu:DW out):out=(dw ls).map (w_ ls)/\(dw ls).Pairwise (SP.R fun i=>ls.getD i 0):=by
 obtain⟨p,rfl,pp⟩:=uS hp (List.range ls.length) rfl;have hr:p.Pairwise (SP.R fun i=>ls.getD i 0):=by
  have nd:p.Nodup:=pp.nodup_iff.mpr List.nodup_range;unfold DW at hu;rw[Md] at hu;refine (hu.and nd).imp fun {i j} h=>?_;have h1:¬ ((w_ ls j).1<(w_ ls i).1\/((w_ ls j).1=(w_ ls i).1/\(w_ ls j).2<(w_ ls i).2)):=of_decide_eq_false h.1;have h1':¬ (ls.getD j 0<ls.getD i 0\/(ls.getD j 0=ls.getD i 0/\(j:Int)<(i:Int))):=h1;show ls.getD i 0<ls.getD j 0\/(ls.getD i 0=ls.getD j 0/\i<j);have:=h.2;lia
 rw[yI pp hr];exact⟨rfl,hr⟩
theorem CQ(h:(dw ls).Pairwise (SP.R fun i=>ls.getD i 0)):(dw ls).Pairwise fun i j=>bg ls i<=bg ls j:=h.imp fun {i j} h=>by
 have h':ls.getD i 0<=ls.getD j 0:=h.le;unfold bg;lia
theorem tS:∀(k:Nat) (w acc:List Nat),w.length=k->(∀ c∈w,c=48\/c=49)->cY (Cw.val w:Int) k acc=w++acc:=by
 intro k
 induction k with
 |zero=>intro w acc h _;rw[Nx.mp h];rfl
 |succ k ih =>
  intro w acc h hb;obtain⟨v,c,rfl⟩:∃ v c,w=v++[c]:=by
   rcases NR w with e|⟨v,c,e⟩
   ·rw[e] at h;cases h
   ·exact⟨v,c,by rw[e,List.concat_eq_append]⟩
  have hc:=hb c (by simp)
  have ev:Cw.val (v++[c])=2*Cw.val v+(c-48):=by
   rw[Cw.gE];rcases hc with rfl|rfl
   ·simp[Cw.val];lia
   ·simp[Cw.val];lia
  rw[cY];have e1:((Cw.val (v++[c]):Nat):Int) / 2=(Cw.val v:Int):=by rw[ev];lia
  have e2:dg ((Cw.val (v++[c]):Nat):Int)=c:=by
   unfold dg;rw[ev];rcases hc with rfl|rfl
   ·have:((2*Cw.val v+(48-48):Nat):Int) % 2=0:=by lia
    rw[this];rfl
   ·have:((2*Cw.val v+(49-48):Nat):Int) % 2=1:=by lia
    rw[this];rfl
  rw[e1,e2,ih v (c::acc) (by rw[Jt,J_] at h;lia) (fun x hx=>hb x (by simp[hx])),JU]
  rfl
theorem wm(ls:List Int):Kr.ks 40 ((dw ls).map (bg ls))=KS ls:=by
 unfold KS;refine Kr.iT ?_;have e:ls.map Int.toNat=(List.range ls.length).map (bg ls):=by
  apply Mn
  ·simp
  ·intro i h1 h2;have hi:i<ls.length:=by simpa using h1
   simp[bg,hi]
 rw[e];exact (nJ (by rw[JN])).map _
structure At (ls:List Int) (done todo:List Nat) (a:Option (List Nat)) (n h:Int):Prop where
 all:done++todo=dw ls
 st:(a=none/\done=[]/\n=-1/\h=0)\/∃ w,a=some w/\n=(Cw.val w:Int)/\h=(w.length:Int)/\Cw.j8 (done.map (bg ls)) w/\∀ t∈todo,w.length<=bg ls t
noncomputable def qr(a:Option (List Nat))(l:Nat):List Nat:=match a with|none=>List.replicate l 48|some v=>Cw.fj v l
theorem At.next{ls:List Int}{todo:List Nat}{a:Option (List Nat)}{n h:Int}{t:Nat}(x:At ls done (t::todo) a n h)(hL:jW ls)(ho:mI ls=true)(hu:(dw ls).Pairwise fun i j=>bg ls i<=bg ls j):
  ∃ d:Nat,(bg ls t:Int)-h=d/\d<=bg ls t/\(n+1)*2^d=(Cw.val (qr a (bg ls t)):Int)/\(qr a (bg ls t)).length=bg ls t/\(∀ c∈qr a (bg ls t),c=48\/c=49)/\At ls (done++[t]) todo (some (qr a (bg ls t))) (Cw.val (qr a (bg ls t)):Int) (bg ls t:Int):=by
 have hall:(done++[t])++todo=dw ls:=by rw[JU];exact x.all
 have htl:bg ls t<=40:=by
  have h:=iW (ls:=ls) (t:=t) (by rw[<- x.all];simp)
  have:=hL.2.2 _ (JY h);unfold bg;rw[JI,Jq h];show ls[t].toNat<=40;lia
 have hk:Kr.ks 40 ((done++[t]++todo).map (bg ls))<=2^40:=by rw[hall,wm];exact Ln ho
 rw[JH,JH,Kr.cO,Kr.cO] at hk;have hle:∀ u∈todo,bg ls t<=bg ls u:=fun u hu'=>by
  rw[<- x.all] at hu;exact (Kn.mp (K7.mp hu).2.1).1 u hu'
 rcases x.st with ⟨rfl,rfl,rfl,rfl⟩|⟨w,rfl,rfl,rfl,hH,hw⟩
 ·refine⟨bg ls t,by lia,J6 _,?_,JF ..,fun c hc=>.inl (Lf.mp hc).2,hall,.inr ⟨_,rfl,rfl,by rw[show qr none (bg ls t)=List.replicate (bg ls t) 48 from rfl,JF],Cw.j8.first htl,fun u hu'=>by rw[show qr none (bg ls t)=List.replicate (bg ls t) 48 from rfl,JF];exact hle u hu'⟩⟩
  rw[show qr none (bg ls t)=List.replicate (bg ls t) 48 from rfl,Cw.eI];simp
 ·have hwt:=hw t JG;have hk2:Kr.ks 40 (done.map (bg ls))+2^(40-bg ls t)<=2^40:=by
   simp only[Kc,List.map_nil,Kr.ks] at hk;lia
  have hz:=hH.zero (rest:=[]) hk2;have hN:=hH.next hwt htl hk2;refine⟨bg ls t-w.length,by lia,NU _ _,?_,Cw.eL hwt,Cw.kC hH.bits,hall,.inr ⟨_,rfl,rfl,by rw[show qr (some w) (bg ls t)=Cw.fj w (bg ls t) from rfl,Cw.eL hwt],by rw[JH];exact hN,fun u hu'=>by rw[show qr (some w) (bg ls t)=Cw.fj w (bg ls t) from rfl,Cw.eL hwt];exact hle u hu'⟩⟩
  rw[show qr (some w) (bg ls t)=Cw.fj w (bg ls t) from rfl,Cw.nN hH.bits hz];simp
noncomputable def xr:dW:=fun args Q=>∃ ls:List Int,args=[.tup (nI ls)]/\jW ls/\mI ls=true/\Q (.fr (.lst (wT (wordsOf Cw.ke ls)))) []
theorem vQ(T:Txt K mg)(F:HasFn K mg "_law_code" bK ["lengths"])(h_law_bits:ae P w K mg base bA 1 "_law_bits" ["number","width"] (spT K [false,false] oB)):ae P w K mg base bA 2 "_law_code" ["lengths"] (spT K [false] xr):=by
 refine F.fG bq [false] rfl (by decide) (fun args Qt hl h f cdv A outer s H E hr=>?_)
 have hu:=bf hr;obtain⟨ls,rfl,hL,ho,q⟩:=h;refine⟨_,(Y.af (Y.set (i:=1) bq.nd rfl (by walk_at "lc") (Y.op (Y.e8 K rfl) Y.d3 (Y.lst (Y.cons Y.str Y.nil)) (Y.cb (Y.bj K rfl) Y.cz rfl T.dX (by decide +kernel) (Y.cons (Y.vS 0) Y.nil))))
   (Y.af (Y.set (i:=2) bq.nd rfl (by walk_at "lc") (Y.neg Y.int))
   (Y.af (Y.set (i:=3) bq.nd rfl (by walk_at "lc") Y.int)
   (Y.af (Y.eB JR rfl (Y.anyS K rfl (Y.cb (Y.p8 K rfl) Y.xX rfl T.jt (by decide +kernel) (Y.cons (Y.i5 (osc:=aa bK) (ON:=["lengths","words","number","ahead","length","k","step"]) (own:=["k"]) (N:=["k","lengths","words","number","ahead","length",".k","step"]) ⟨rfl,by decide +kernel,rfl,by decide +kernel,by decide +kernel,by decide +kernel,by decide +kernel,by decide +kernel⟩ rfl rfl rfl rfl (Y.jY rfl T.dI (Y.cons (Y.cb (Y.bj K rfl) Y.cz rfl T.dX (by decide +kernel) (Y.cons (Y.vS 0) Y.nil)) Y.nil)) (fun _ _ _ _=>(Z.aI (i:=0) (show List.Nodup (["k","lengths","words","number","ahead","length",".k","step"]:List Str) by decide +kernel) rfl (by walk_at "lc"))) (fun _ _ _ _=>Y.oz) (fun _ _ _ _=>(Y.tup (Y.cons (Y.ix (Y.aO K rfl) Y.ai (Y.vS 1) (Y.vS 0)) (Y.cons (Y.vS 0) Y.nil))))) Y.nil))) (Y.iG (n:=2) K rfl rfl (Y.cc (Y.aI (i:=4) bq.nd rfl (by walk_at "lc")) (Y.cc (Y.aI (i:=5) bq.nd rfl (by walk_at "lc")) Y.fq))) (Y.af (Y.set (i:=2) bq.nd rfl (by walk_at "lc") (Y.op (Y.aC K rfl) Y.aB (Y.vS 2) Y.int))
   (Y.af (Y.eB JR rfl (Y.jY rfl T.dI (Y.cons (Y.op dD Y.cX (Y.vS 4) (Y.vS 3)) Y.nil)) (Y.aI (i:=6) bq.nd rfl (by walk_at "lc")) (Y.aD (Y.set (i:=2) bq.nd rfl (by walk_at "lc") (Y.op (Y.aC K rfl) Y.aB (Y.vS 2) (Y.vS 2)))))
   (Y.af (Y.set (i:=3) bq.nd rfl (by walk_at "lc") (Y.vS 4))
   (Y.aD (Y.asg (Y.fn K rfl h_law_bits (hr.mono (by decide)) rfl ay (Y.cons (Y.vS 2) (Y.cons (Y.vS 4) Y.nil))) (Y.ot (Y.vS 1) (Y.vS 5))))))))
   (Y.aD (Y.ret (Y.vS 1))))))),?_⟩
 refine av fun N hN=>?_;wp_walk using cq;have hl20:=hL.2.1;refine⟨by decide,by lia,by lia,JD (show _<=20 by lia) (by decide),?_⟩
 have er:(List.replicate ls.length [L2.T.str (Str.ofString "")]).flatten=wT (List.replicate ls.length []):=by
  rw[fO];unfold wT;rw[List.map_replicate];generalize ls.length=n
  induction n with
  |zero=>rfl
  |succ n ih=>rw[Ka,K1,ih];rfl
 rw[JV,er];refine hN _ ?_;clear hN N er;refine av fun N hN=>?_;walk_at "rt";refine hN _ ?_;clear hN N;refine av fun N hN=>?_;walk_at "rt";refine hN _ ?_;clear hN N;refine av fun N hN=>?_;wp_walk using cq;refine⟨by lia,by lia,?_⟩
 rw[JV,Lu];refine bU (fun rest acc μ=>∃ i:Nat,i<=ls.length/\(rest=(List.range' i (ls.length-i)).map fun k:Nat=>L2.T.int (0+(k:Int)))/\acc=((List.range i).map (w_ ls)).map Y.tY/\μ=[.tr (.tup (nI ls)),.bx (.lst (wT (List.replicate ls.length []))),.tr (.int (-1)),.tr (.int 0),.un,.un,.un]) ⟨0,Kh _,rfl,rfl,rfl⟩ ?_ ?_
 ·rintro acc μ ⟨i,hi,e,rfl,rfl⟩;have hi2:i=ls.length:=by
   have:=JS List.length e;rw[Js,KN,Ke] at this;lia
  subst hi2;refine⟨trivial,?_⟩;walk_at "rt";refine⟨_,rfl,by rw[Js,JN];lia,fun out hp hup=>?_⟩
  obtain⟨eo,hR⟩:=se hp hup;have hup2:=CQ hR;subst eo;walk_at "rt";have h40:∀ t∈dw ls,ls.getD t 0=(bg ls t:Int)/\bg ls t<=40/\t<ls.length:=fun t ht=>by
   have h:=iW ht;have:=hL.2.2 _ (JY h);unfold bg;rw[JI,Jq h];show ls[t]=((ls[t].toNat:Nat):Int)/\ls[t].toNat<=40/\_;exact⟨by lia,by lia,h⟩
  refine bD (fun rest μ=>∃(done todo:List Nat) (a:Option (List Nat)) (ws:List (List Nat)) (n h:Int) (o4 o5 o6:Option L2.T),rest=(todo.map (w_ ls)).map Y.tY/\At ls done todo a n h/\Cw.along Cw.fj (bg ls) done (none,List.replicate ls.length [])=(a,ws)/\ws.length=ls.length/\μ=[.tr (.tup (nI ls)),.bx (.lst (wT ws)),.tr (.int n),.tr (.int h),sl o4,sl o5,sl o6]) ⟨[],dw ls,none,_,-1,0,none,none,none,rfl,⟨rfl,.inl ⟨rfl,rfl,rfl,rfl⟩⟩,rfl,JF ..,rfl⟩ ?_ ?_
  ·rintro μ ⟨done,todo,a,ws,n,h,o4,o5,o6,e,hA,hal,_,rfl⟩;have e0:todo=[]:=by
    cases todo with
    |nil=>rfl
    |cons=>cases e
   subst e0;have ed:done=dw ls:=by have:=hA.all;rw[JK] at this;exact this
   have ew:wordsOf Cw.ke ls=ws:=by
    unfold wordsOf;rw[Cw.gg (dw ls) [] none _ hup2 (fun t ht=>(h40 t ht).2.1) (fun v z=>by cases z) (fun _=>rfl) (by rw[Li,wm];exact Ln ho),<- ed,hal]
   show N _;refine hN _ ?_;clear hN N;walk_at "rt";rw[ew] at q;exact q
  ·rintro t ts μ M ⟨done,todo,a,ws,n,h,o4,o5,o6,e,hA,hal,hwl,rfl⟩ k
   cases todo with
   |nil=>cases e
   |cons x todo =>
    obtain⟨rfl,rfl⟩:=List.cons.inj e;obtain⟨hx1,hx2,hx3⟩:=h40 x (by rw[<- hA.all];simp)
    obtain⟨d,e1,e0,e2,e3,e4,hA2⟩:=hA.next hL ho hup2;have hal2:Cw.along Cw.fj (bg ls) (done++[x]) (none,List.replicate ls.length [])=(some (qr a (bg ls x)),ws.set x (qr a (bg ls x))):=by
     rw[Cw.eY,hal]
     cases a<;>rfl
    unfold w_ Y.tY;rw[hx1];generalize bg ls x=l at *;generalize hw':qr a l=w' at *;walk_at "rt";refine av fun M2 h2=>?_;walk_at "rt";refine h2 _ ?_;clear h2 M2;refine av fun M2 h2=>?_;wp_walk using e1;refine⟨by lia,by lia,?_⟩
    rw[JV];refine bD (fun rest μ=>∃(j:Nat) (o6:Option L2.T),j+rest.length=d/\μ=[.tr (.tup (nI ls)),.bx (.lst (wT ws)),.tr (.int ((n+1)*2^j)),.tr (.int h),.tr (.int (l:Int)),.tr (.int (x:Int)),sl o6]) ⟨0,o6,by rw[Js,JN,L0],by rw[Int.pow_zero,Int.mul_one]⟩ ?_ ?_
    ·rintro μ ⟨j,o6,hj,rfl⟩;have hj2:j=d:=by simpa using hj
     subst hj2;rw[e2];show M2 _;refine h2 _ ?_;clear h2 M2;refine av fun M2 h2=>?_;walk_at "rt";refine h2 _ ?_;clear h2 M2;walk_at "rt";refine⟨_,l,rfl,hx2,?_⟩;rw[tS l w' [] e3 e4,JK];have ixw:hZ (wT ws).length (x:Int)=some x:=by
      rw[Ci (by lia) (by rw[fC,hwl];lia)];simp
     have sw:(wT ws).set x (.str (wd w'))=wT (ws.set x w'):=by unfold wT;rw[Nr]
     wp_walk using ixw,sw;exact k _ ⟨done++[x],todo,some w',ws.set x w',_,_,some _,some _,o6,rfl,hA2,hal2,by rw[Ko,hwl],rfl⟩
    ·rintro t ts μ M3 ⟨j,o6,hj,rfl⟩ k3;walk_at "rt";refine k3 _ ⟨j+1,some t,by rw[J7] at hj;lia,?_⟩
     rw[show (n+1)*2^j+(n+1)*2^j=(n+1)*2^(j+1) from by rw[Int.pow_succ,<- Int.mul_assoc];lia]
     rfl
 ·rintro t r acc μ M ⟨i,hi,e,rfl,rfl⟩ k;have hi2:i<ls.length:=by
   have:=JS List.length e;rw[Js,KN,J7] at this;lia
  rw[show ls.length-i=(ls.length-(i+1))+1 by lia,K6,Kc] at e
  obtain⟨rfl,rfl⟩:=List.cons.inj e;clear e;refine⟨trivial,by rw[Js,Js,JN];exact JJ (show i<=20 by lia) (by decide),?_⟩
  rw[Og];have ea:bR (nI ls) (i:Int)=some (.int (ls.getD i 0)):=bG (by unfold nI;rw[J9,JI,Jq hi2];rfl)
  wp_walk using ea;refine⟨by decide,k _ _ ⟨i+1,hi2,rfl,?_,rfl⟩⟩
  rw[Lj,JH,JH];rfl
noncomputable def Row.wi:Row->Nat
 |.put _ _=>0
 |.two u _ _=>1+u
 |.one u _=>4+u
 |.jump _=>6
 |.zero _ _=>7
 |.halt=>8
theorem Row.xS(r:Row):r.wi<9:=by
 cases r with
 |two u a b=>exact (by decide:∀ u:_root_.Fin 3,1+(u:Nat)<9) u
 |one u b=>exact (by decide:∀ u:_root_.Fin 2,4+(u:Nat)<9) u
 |put b n=>exact (by decide:0<9)
 |jump g=>exact (by decide:6<9)
 |zero b g=>exact (by decide:7<9)
 |halt=>exact (by decide:8<9)
inductive Pk where
 |box (b:Nat)|num (n:Nat)|goal (g:Nat)
noncomputable def Pk.kd:Pk->Str
 |.box _=>"box"
 |.num _=>"number"
 |.goal _=>"goal"
noncomputable def Pk.t:Pk->L2.T
 |.box b=>.str (fo b)
 |.num n=>.int (n:Nat)
 |.goal g=>.int (g:Nat)
noncomputable def Pk.Ok:Pk->Prop
 |.box b=>b<8
 |.num n=>n<65536
 |.goal _=>True
noncomputable def Pk.zf:Pk->List (Nat×Nat)
 |.box b=>[(2,b)]
 |.num n=>[(1,du n)]
 |.goal _=>[]
noncomputable def Row.wd:Row->Str
 |.put _ _=>"put"
 |.two u _ _=>w2 u
 |.one u _=>w1 u
 |.jump _=>"jump"
 |.zero _ _=>"zero"
 |.halt=>"halt"
noncomputable def Row.fH:Row->List Pk
 |.put b n=>[.box b,.num n]
 |.two _ a b=>[.box a,.box b]
 |.one _ b=>[.box b]
 |.jump g=>[.goal g]
 |.zero b g=>[.box b,.goal g]
 |.halt=>[]
theorem Row.wR(r:Row):r.t=.tup (.str r.wd::r.fH.map Pk.t):=by cases r<;>rfl
theorem Row.pO{r:Row}(h:r.Ok k):∀ p∈r.fH,p.Ok:=by
 cases r with
 |put b n=>simp only[Row.fH,J5,Kt,Ly];exact fun p z=>z.elim (fun e=>e ▸ h.1) fun e=>e ▸ h.2
 |two u a b=>simp only[Row.fH,J5,Kt,Ly];exact fun p z=>z.elim (fun e=>e ▸ h.1) fun e=>e ▸ h.2
 |one u b=>simp only[Row.fH,J5,Kt,Ly];rintro p rfl;exact h
 |jump g=>simp only[Row.fH,J5,Kt,Ly];rintro p rfl;exact trivial
 |zero b g=>simp only[Row.fH,J5,Kt,Ly];exact fun p z=>z.elim (fun e=>e ▸ h.1) fun e=>e ▸ trivial
 |halt=>simp[Row.fH]
noncomputable def eC(r:Row):List (Nat×Nat):=(0,r.wi)::r.fH.flatMap Pk.zf
noncomputable def fw:List Str:=["put","add","sub","copy","tell","hear","jump","zero","halt"]
theorem E9:∀ k,k<9->∀ m,m<k->fw[m]?≠fw[k]?:=by decide +kernel
theorem rF(r:Row):fw[r.wi]?=some r.wd/\∀ m,m<r.wi->fw[m]?≠some r.wd:=by
 have h1:fw[r.wi]?=some r.wd:=by
  cases r with
  |two u a b=>exact (by decide +kernel:∀ u:_root_.Fin 3,fw[1+(u:Nat)]?=some (w2 u)) u
  |one u b=>exact (by decide +kernel:∀ u:_root_.Fin 2,fw[4+(u:Nat)]?=some (w1 u)) u
  |put b n=>rfl
  |jump g=>rfl
  |zero b g=>rfl
  |halt=>rfl
 exact⟨h1,fun m hm=>by rw[<- h1];exact E9 _ r.xS m hm⟩
theorem GS(h:b<8):Builtin.Str.occurrences (Str.ofString "abcdefgh") (fo b) 0 (Str.ofString "abcdefgh").length 1=[b]:=by
 rcases IG h with rfl|rfl|rfl|rfl|rfl|rfl|rfl|rfl<;>decide +kernel
theorem oq(t:L2.T)(ts:List L2.T):Y.cI (t::ts) (some 1) none=ts:=by
 unfold Y.cI;rw[HT.eM,show (some (1:Int))=some ((1:Nat):Int) from rfl,HT.lV];simp
noncomputable def cT(l:List (Nat×Nat)):List L2.T:=l.map fun p=>.tup [.int (p.1:Nat),.int (p.2:Nat)]
noncomputable def uP:dW:=fun args Q=>∃(r:Row) (k:Nat),args=[r.t]/\r.Ok k/\Q (.fr (.lst (cT (eC r)))) []
noncomputable def dG:List (Str×List Str):=[("put",["box","number"]),("add",["box","box"]),("sub",["box","box"]),("copy",["box","box"]),("tell",["box"]),("hear",["box"]),("jump",["goal"]),("zero",["box","goal"]),("halt",[])]
theorem kx(r:Row):KTD.datumAt r.wd dG=some (r.fH.map Pk.kd):=by
 cases r with
 |two u a b=>exact (by decide +kernel:∀ u:_root_.Fin 3,KTD.datumAt (w2 u) dG=some [("box":Str),"box"]) u
 |one u b=>exact (by decide +kernel:∀ u:_root_.Fin 2,KTD.datumAt (w1 u) dG=some [("box":Str)]) u
 |put b n=>exact (by decide +kernel:KTD.datumAt ("put":Str) dG=some [("box":Str),"number"])
 |jump g=>exact (by decide +kernel:KTD.datumAt ("jump":Str) dG=some [("goal":Str)])
 |zero b g=>exact (by decide +kernel:KTD.datumAt ("zero":Str) dG=some [("box":Str),"goal"])
 |halt=>exact (by decide +kernel:KTD.datumAt ("halt":Str) dG=some ([]:List Str))
theorem wG:∀ ps:List Pk,m4 ((ps.map Pk.kd).map L2.T.str) (ps.map Pk.t)=ps.map fun p=>.tup [.str p.kd,p.t]
 |[]=>rfl
 |p::ps=>JS (_::·) (wG ps)
noncomputable def E3:List Str:=["a","b","c","d","e","f","g","h"]
theorem wM(h:b<8):E3[b]?=some (fo b)/\∀ m,m<b->E3[m]?≠some (fo b):=(by decide +kernel:∀ b,b<8->E3[b]?=some (fo b)/\∀ m,m<b->E3[m]?≠some (fo b)) b h
theorem uN(a b:List (Nat×Nat)):cT (a++b)=cT a++cT b:=JH
theorem vo(T:Txt K mg)(F:HasFn K mg "coded_things" aX ["row"]):ae P w K mg base bA 1 "coded_things" ["row"] (spT K [false] uP):=by
 refine F.fG cW [false] rfl (by decide) (fun args Qt hl h f cdv A outer s H E hr=>?_)
 have hu:=bf hr;obtain⟨r,k,rfl,aU,q⟩:=h;refine⟨_,(Y.af (Y.set (i:=1) cW.nd rfl (by walk_at "lc") (Y.lst (Y.cons (Y.tup (Y.cons (Y.gP rfl T.oO) (Y.cons (Y.Hk K rfl rfl rfl T.jb rfl T.B_ (Y.ix (Y.aO K rfl) Y.ai (Y.vS 0) Y.int)) Y.nil))) Y.nil)))
   (Y.af (Y.eB JR rfl (Y.zip K rfl rfl T.xc (Y.cons (Y.IU K rfl rfl T.jb (Y.ix (Y.aO K rfl) Y.ai (Y.vS 0) Y.int)) (Y.cons (Y.gv K rfl (Y.vS 0) (Y.zu Y.int) Y.yL) Y.nil))) (Y.iG (n:=2) K rfl rfl (Y.cc (Y.aI (i:=2) cW.nd rfl (by walk_at "lc")) (Y.cc (Y.aI (i:=3) cW.nd rfl (by walk_at "lc")) Y.fq))) (Y.aD (Y.gm (Y.cg (Y.cK K rfl (JW hu)) Y.dF (Y.vS 2) Y.str) (Y.aD (Y.expr (Y.bm K rfl PySem.F.slot_list_append PySem.F.type_list_append cE Y.cS (Y.vS 1) (Y.cons (Y.tup (Y.cons (Y.gP rfl T.pf) (Y.cons (Y.Hu K rfl rfl T.yu T.yU (Y.vS 3)) Y.nil))) Y.nil)))) (Y.aD (Y.gm (Y.cg (Y.cK K rfl (JW hu)) Y.dF (Y.vS 2) Y.str) (Y.aD (Y.expr (Y.bm K rfl PySem.F.slot_list_append PySem.F.type_list_append cE Y.cS (Y.vS 1) (Y.cons (Y.tup (Y.cons (Y.gP rfl T.lM) (Y.cons (Y.bits (Y.vS 3)) Y.nil))) Y.nil)))) Y.c_)))))
   (Y.aD (Y.ret (Y.vS 1))))),?_⟩
 rw[Row.wR];refine av fun N hN=>?_;walk_at "rt";refine⟨r.wi,(rF r).1,(rF r).2,by decide,by decide,?_⟩
 refine hN _ ?_;clear hN N;refine av fun N hN=>?_;have e1:=kx r;unfold dG at e1;wp_walk using e1,oq;show Y.fD _ _ _ (m4 ((r.fH.map Pk.kd).map L2.T.str) (r.fH.map Pk.t)) _;rw[wG];refine bD (fun rest μ=>∃(ps:List Pk) (l:List (Nat×Nat)) (o2 o3:Option L2.T),rest=ps.map (fun p=>.tup [.str p.kd,p.t])/\(∀ p∈ps,p.Ok)/\l.length+ps.length<=10/\eC r=l++ps.flatMap Pk.zf/\μ=[.tr (.tup (.str r.wd::r.fH.map Pk.t)),.bx (.lst (cT l)),sl o2,sl o3]) ⟨r.fH,[(0,r.wi)],none,none,rfl,Row.pO aU,by cases r<;>simp[Row.fH],rfl,rfl⟩ ?_ ?_
 ·rintro μ ⟨ps,l,o2,o3,e1,_,_,ea,rfl⟩;have e2:ps=[]:=K0.mp e1.symm;subst e2;rw[List.flatMap_nil,JK] at ea;rw[ea] at q;show N _;refine hN _ ?_;clear hN N;walk_at "rt";exact q
 ·rintro t rest μ M ⟨ps,l,o2,o3,e1,hp,l10,ea,rfl⟩ k;obtain⟨p,ps',rfl,rfl,rfl⟩:=List.map_eq_cons_iff.mp e1.symm;have hp0:=hp p (JG ..);have hp1:∀ q∈ps',q.Ok:=fun q hq=>hp q (J8 _ hq);rw[J7] at l10;clear hN q e1
  cases p with
  |box b =>
   show Y.DM _ _ (R.tr (.tup [.str "box",.str (fo b)])) _ _;wp_walk using (show (Str.ofString "box"=Str.ofString "box")=True from eq_true rfl),Lh;refine⟨E3,b,rfl,(wM hp0).1,(wM hp0).2,by decide,?_,?_⟩
   ·exact JJ (by unfold cT;rw[Js];lia) (show 10<sizeLine by decide)
   refine k _ ⟨ps',l++[(2,b)],some (.str "box"),some (.str (fo b)),rfl,hp1,by rw[Jt];simp only[J7,Ke];lia,by rw[ea,Lo,JU];rfl,by rw[uN];rfl⟩
  |num n =>
   show Y.DM _ _ (R.tr (.tup [.str "number",.int (n:Nat)])) _ _;have n1:(Str.ofString "number")≠(Str.ofString "box"):=by decide +kernel
   wp_walk using Ju n1,(show (Str.ofString "number"=Str.ofString "number")=True from eq_true rfl),Lh;refine⟨by decide,?_,?_⟩
   ·exact JJ (by unfold cT;rw[Js];lia) (show 10<sizeLine by decide)
   refine k _ ⟨ps',l++[(1,du n)],some (.str "number"),some (.int (n:Nat)),rfl,hp1,by rw[Jt];simp only[J7,Ke];lia,by rw[ea,Lo,JU];rfl,by rw[uN];rfl⟩
  |goal n =>
   show Y.DM _ _ (R.tr (.tup [.str "goal",.int (n:Nat)])) _ _;have n1:(Str.ofString "goal")≠(Str.ofString "box"):=by decide +kernel
   have n2:(Str.ofString "goal")≠(Str.ofString "number"):=by decide +kernel
   wp_walk using Ju n1,Ju n2;exact k _ ⟨ps',l,some (.str "goal"),some (.int (n:Nat)),rfl,hp1,by lia,by rw[ea,Lo];rfl,rfl⟩
theorem jh:∀(o:List Nat) (a:Option (List Nat)) (ws:List (List Nat)),(∀ t∈o,ln t<=40)->(∀ v,a=some v->v.length<=40)->(∀ x∈ws,x.length<=40)->∀ x∈(Cw.along Cw.ke ln o (a,ws)).2,x.length<=40
 |[],_,_,_,_,h=>h
 |t::o,a,ws,ho,ha,hw=>by
  have ht:=ho t JG;have h2:=fun t h=>ho t (J8 _ h)
  cases a with
  |none =>
   refine jh o (some (List.replicate (ln t) 48)) _ h2 (fun v e=>by cases e;rw[JF];exact ht) fun x hx=>?_
   rcases LS hx with z|z
   ·exact hw x z
   ·rw[z,JF];exact ht
  |some v =>
   have hv:=rd (ha v rfl) ht;refine jh o (some (Cw.ke v (ln t))) _ h2 (fun v e=>by cases e;exact hv) fun x hx=>?_
   rcases LS hx with z|z
   ·exact hw x z
   ·rw[z];exact hv
theorem vL(hL:jW ls):∀ x∈wordsOf Cw.ke ls,x.length<=40:=by
 refine jh _ _ _ (fun t ht=>?_) (fun v e=>by cases e) fun x hx=>by rw[(Lf.mp hx).2];decide
 have h:=iW ht;have:=hL.2.2 _ (JY h);unfold bg;rw[JI,Jq h];show ls[t].toNat<=40;lia
theorem ik(ls:List Int):(wordsOf Cw.ke ls).length=ls.length:=(Cw.iy _ _).trans (JF ..)
structure Cd (cd:List (List (List Nat))):Prop where
 ex:∃ a b c,cd=[a,b,c]/\a.length=9/\b.length=17/\c.length=8
 le:∀ ws∈cd,∀ x∈ws,x.length<=40
noncomputable def eA(cd:List (List (List Nat)))(p:Nat×Nat):List Nat:=(cd.getD p.1 []).getD p.2 []
noncomputable def h7:Row->List Nat
 |.put _ n=>(ij n).tail
 |_=>[]
noncomputable def cA(cd:List (List (List Nat)))(r:Row):List Nat:=(eC r).flatMap (eA cd)++h7 r
noncomputable def Bk(bk:List (List Int)):Prop:=∃ a b c,bk=[a,b,c]/\a.length=9/\b.length=17/\c.length=8/\∀ l∈bk,jW l/\mI l=true
noncomputable def uk(bk:List (List Int)):L2.T:=.tup (bk.map fun l=>.tup (nI l))
noncomputable def fL(bk:List (List Int)):List (List (List Nat)):=bk.map (wordsOf Cw.ke)
theorem Bk.cd{bk:List (List Int)}(h:Bk bk):Cd (fL bk):=by
 obtain⟨a,b,c,rfl,h1,h2,h3,h4⟩:=h;refine⟨⟨_,_,_,rfl,by rw[ik,h1],by rw[ik,h2],by rw[ik,h3]⟩,fun ws hw=>?_⟩
 obtain⟨l,hl,rfl⟩:=JX.mp hw;exact vL (h4 l hl).1
noncomputable def wj:dW:=fun args Q=>∃ bk:List (List Int),args=[uk bk]/\Bk bk/\Q (.fr (.lst ((fL bk).map fun ws=>.tup (wT ws)))) []
noncomputable def vJ:dW:=fun args Q=>∃ ls:List Int,args=[.tup (nI ls)]/\jW ls/\mI ls=true/\Q (.tr (.tup (wT (wordsOf Cw.ke ls)))) []
theorem vk(T:Txt K mg)(F:HasFn K mg "codes_of" b_ ["book"])(hcalm_code_of:ae P w K mg base bA 5 "code_of" ["lengths"] (spT K [false] vJ)):ae P w K mg base bA 6 "codes_of" ["book"] (spT K [false] wj):=by
 refine F.fG oh [false] rfl (by decide) (fun args Qt hl h f cdv A outer s H E hr=>?_)
 have hu:=bf hr;obtain⟨bk,rfl,hB,q⟩:=h;obtain⟨a,b,c,e,h1,h2,h3,h4⟩:=hB;refine⟨_,(Y.aD (Y.ret (Y.i5 (osc:=aa b_) (ON:=["book"]) (own:=["lengths"]) (N:=["lengths","book"]) ⟨rfl,by decide +kernel,rfl,by decide +kernel,by decide +kernel,by decide +kernel,by decide +kernel,by decide +kernel⟩ rfl rfl rfl rfl (Y.anyS K rfl (Y.vS 0)) (fun _ _ _ _=>(Z.aI (i:=0) (show List.Nodup (["lengths","book"]:List Str) by decide +kernel) rfl (by walk_at "lc"))) (fun _ _ _ _=>Y.oz) (fun _ _ _ _=>(Y.fn K rfl hcalm_code_of (hr.mono (by decide)) rfl ay (Y.cons (Y.vS 0) Y.nil)))))),?_⟩
 unfold uk;walk_at "rt";refine bU (fun rest acc μ=>∃(done todo:List (List Int)),done++todo=bk/\(rest=todo.map fun l=>L2.T.tup (nI l))/\(acc=(fL done).map fun ws=>L2.T.tup (wT ws))/\μ=[.tr (uk bk)]) ⟨[],bk,rfl,rfl,rfl,rfl⟩ ?_ ?_
 ·rintro acc μ ⟨done,todo,e1,e2,rfl,rfl⟩;have e3:todo=[]:=by
   cases todo with
   |nil=>rfl
   |cons=>cases e2
  subst e3;rw[JK] at e1;subst e1;refine⟨trivial,?_⟩;walk_at "rt";exact q
 ·rintro t r acc μ M ⟨done,todo,e1,e2,rfl,rfl⟩ k
  cases todo with
  |nil=>cases e2
  |cons x todo =>
   obtain⟨rfl,rfl⟩:=List.cons.inj e2;have hx:=h4 x (by rw[<- e1];simp)
   have hd:done.length<=3:=by
    have:=JS List.length e1;rw[Jt,e] at this;simp at this;lia
   refine⟨trivial,by unfold fL;rw[Js,Js];exact JJ hd (by decide),?_⟩
   walk_at "rt";refine⟨x,rfl,hx.1,hx.2,?_⟩;walk_at "rt";refine k _ _ ⟨done++[x],todo,by rw[<- e1];simp,rfl,?_,rfl⟩
   unfold fL;rw[JH,JH];rfl
theorem lQ:∀ l:List (List Nat),(Str.ofString "").join (l.map wd)=wd l.flatten
 |[]=>rfl
 |[x]=>by simp[Str.join]
 |x::y::r=>by
  show wd x++Str.ofString ""++(Str.ofString "").join ((y::r).map wd)=_;rw[lQ (y::r),fO,dy,dy,JK];rfl
theorem vD{r:Row}(h:r.Ok k):∀ p∈eC r,(p.1=0/\p.2<9)\/(p.1=1/\p.2<17)\/(p.1=2/\p.2<8):=by
 intro p hp;unfold eC at hp;rcases J5.mp hp with rfl|hp
 ·exact .inl ⟨rfl,r.xS⟩
 ·obtain⟨q,hq,hp⟩:=List.mem_flatMap.mp hp;have:=Row.pO h q hq
  cases q with
  |box b=>rw[JE.mp hp];exact .inr (.inr ⟨rfl,this⟩)
  |num n=>rw[JE.mp hp];exact .inr (.inl ⟨rfl,gR this⟩)
  |goal n=>cases hp
theorem Cd.at{cd:List (List (List Nat))}(h:Cd cd){p:Nat×Nat}(hp:(p.1=0/\p.2<9)\/(p.1=1/\p.2<17)\/(p.1=2/\p.2<8)):cd[p.1]?=some (cd.getD p.1 [])/\(cd.getD p.1 [])[p.2]?=some (eA cd p)/\(eA cd p).length<=40:=by
 obtain⟨a,b,c,rfl,h1,h2,h3⟩:=h.ex;have key:∀(l:List (List Nat)) (i:Nat),i<l.length->l[i]?=some (l.getD i [])/\l.getD i []∈l:=fun l i hi=>by
  rw[JI,Jq hi];exact⟨rfl,JY hi⟩
 obtain⟨x,y⟩:=p;rcases hp with ⟨rfl,hy⟩|⟨rfl,hy⟩|⟨rfl,hy⟩
 ·have:=key a y (by rw[h1];exact hy)
  exact⟨rfl,this.1,h.le a (by simp) _ this.2⟩
 ·have:=key b y (by rw[h2];exact hy)
  exact⟨rfl,this.1,h.le b (by simp) _ this.2⟩
 ·have:=key c y (by rw[h3];exact hy)
  exact⟨rfl,this.1,h.le c (by simp) _ this.2⟩
theorem qM(r:Row):(eC r).length<=3:=by cases r<;>simp[eC,Row.fH,Pk.zf]
theorem gU{cd:List (List (List Nat))}{r:Row}(hC:Cd cd)(h:r.Ok k):((eC r).flatMap (eA cd)).length<=120/\(h7 r).length<=16:=by
 refine⟨?_,?_⟩
 ·have:∀ l:List (Nat×Nat),(∀ p∈l,(eA cd p).length<=40)->(l.flatMap (eA cd)).length<=40*l.length:=fun l=>by
   induction l with
   |nil=>exact fun _=>J6 _
   |cons p l ih =>
    intro h;have h1:=h p JG;have h2:=ih fun q hq=>h q (J8 _ hq);rw[Lo,Jt,J7];lia
  have h1:=this (eC r) fun p hp=>(hC.at (vD h p hp)).2.2;have h2:=qM r;lia
 ·cases r with
  |put b n =>
   have:=gR (n:=n) h.2;show (ij n).tail.length<=16;rw[List.length_tail];unfold ij;rw[dM];simp only[Ke];lia
  |_=>exact Kh _
noncomputable def A6:dW:=fun args Q=>∃(r:Row) (k:Nat) (cd:List (List (List Nat))),args=[r.t,.lst (cd.map fun ws=>.tup (wT ws))]/\r.Ok k/\Cd cd/\Q (.tr (.str (wd (cA cd r)))) []
theorem uV(T:Txt K mg)(F:HasFn K mg "bits_ahead_of_goal" aA ["row","codes"])(hcoded_things:ae P w K mg base bA 1 "coded_things" ["row"] (spT K [false] uP))(hfigures_behind_first:ae P w K mg base bA 2 "figures_behind_first" ["number"] (spT K [false] Cu)):ae P w K mg base bA 3 "bits_ahead_of_goal" ["row","codes"] (spT K [false,false] A6):=by
 refine F.fG dv [false,false] rfl (by decide) (fun args Qt hl h f cdv A outer s H E hr=>?_)
 have hu:=bf hr;obtain⟨r,k,cd,rfl,aU,hC,q⟩:=h;refine⟨_,(Y.af (Y.set (i:=2) dv.nd rfl (by walk_at "lc") (Y.sm K rfl PySem.F.slot_str_join PySem.F.type_str_join (Y.n4 K rfl) Y.rY Y.str (Y.cons (Y.Gg K rfl (osc:=aa aA) (ON:=["row","codes","bits"]) (own:=["which","thing"]) (N:=["which","thing","row","codes","bits"]) ⟨rfl,by decide +kernel,rfl,by decide +kernel,by decide +kernel,by decide +kernel,by decide +kernel,by decide +kernel⟩ rfl rfl rfl rfl (Y.anyS K rfl (Y.fn K rfl hcoded_things (hr.mono (by decide)) rfl ay (Y.cons (Y.vS 0) Y.nil))) (fun _ _ _ _=>(Z.DB (n:=2) K rfl rfl (Z.cc (Z.aI (i:=0) (show List.Nodup (["which","thing","row","codes","bits"]:List Str) by decide +kernel) rfl (by walk_at "lc")) (Z.cc (Z.aI (i:=1) (show List.Nodup (["which","thing","row","codes","bits"]:List Str) by decide +kernel) rfl (by walk_at "lc")) Z.fq)))) (fun _ _ _ _=>Y.oz) (fun _ _ _ _=>(Y.ix (Y.aO K rfl) Y.ai (Y.ix (Y.aO K rfl) Y.ai (Y.vS 3) (Y.vS 0)) (Y.vS 1)))) Y.nil)))
   (Y.aD (Y.ret (Y.AL (Y.cg (Y.cK K rfl (JW hu)) Y.dF (Y.ix (Y.aO K rfl) Y.ai (Y.vS 0) Y.int) Y.str) (Y.op (Y.aC K rfl) Y.aB (Y.vS 2) (Y.fn K rfl hfigures_behind_first (hr.mono (by decide)) rfl ay (Y.cons (Y.ix (Y.aO K rfl) Y.ai (Y.vS 0) (Y.neg Y.int)) Y.nil))) (Y.vS 2))))),?_⟩
 refine av fun N hN=>?_;walk_at "rt";refine⟨r,k,rfl,aU,?_⟩;walk_at "rt";refine bU (fun rest acc μ=>∃(done todo:List (Nat×Nat)),done++todo=eC r/\rest=cT todo/\(acc=(done.map (eA cd)).map fun x=>L2.T.str (wd x))/\μ=[.tr r.t,.tr (.lst (cd.map fun ws=>.tup (wT ws))),.un]) ⟨[],eC r,rfl,rfl,rfl,rfl⟩ ?_ ?_
 ·rintro acc μ ⟨done,todo,e1,e2,rfl,rfl⟩;have e3:todo=[]:=by
   cases todo with
   |nil=>rfl
   |cons=>cases e2
  subst e3;rw[JK] at e1;subst e1;refine⟨trivial,?_⟩;walk_at "rt";refine⟨((eC r).map (eA cd)).map wd,by rw[KR (g:=L2.T.str)];rfl,?_,?_⟩
  ·have e:(((eC r).map (eA cd)).map wd).map (fun x=>x.length)=((eC r).map (eA cd)).map List.length:=by
    rw[KR];exact L4 fun x _=>aT x
   rw[e,<- List.length_flatten,<- List.flatMap_def,fO,aT];have:=(gU hC aU).1;simp only[Ke,Oh];lia
  rw[lQ,<- List.flatMap_def];refine hN _ ?_;clear hN N;have hh:=gU hC aU;have other:r.wd≠"put"->h7 r=[]->Y.t9 (Y.EY (Y.kq (Y.ur (Y.oA (Y.DJ false)) (Y.ur Y.yd (Y.jo 0) (Y.uC (L2.T.int 0))) (Y.uC (L2.T.str (Str.ofString "put"))))) (Y.ur Y.rn (Y.jo 2) (Y.Bt [false] Cu (Y.nL (Y.ur Y.yd (Y.jo 0) (Y.wF (Y.uC (L2.T.int 1)))) Y.tU))) (Y.jo 2)) (tV [false,false] Qt) [Sl.tr r.t,Sl.tr (L2.T.lst (List.map (fun ws=>L2.T.tup (wT ws)) cd)),Sl.tr (L2.T.str (wd ((eC r).flatMap (eA cd))))]:=fun n1 n2=>by
   have q':=q;unfold cA at q';rw[n2,JK] at q';rw[Row.wR];wp_walk using Ju n1;exact q'
  cases r with
  |put b n =>
   have a2:bR [L2.T.str (Str.ofString "put"),L2.T.str (fo b),L2.T.int (n:Nat)] (-1)=some (.int (n:Nat)):=rfl;show Y.t9 _ _ [Sl.tr (.tup [L2.T.str (Str.ofString "put"),L2.T.str (fo b),L2.T.int (n:Nat)]),_,_];wp_walk using (show (Str.ofString "put"=Str.ofString "put")=True from eq_true rfl),Lh,a2;refine⟨n,rfl,aU.2,?_⟩;walk_at "rt";rw[aT,aT,dy];exact⟨JD (show _<=200 by have h1:=hh.1;have h2:(ij n).tail.length<=16:=hh.2;lia) (by decide),q⟩
  |two u a b=>exact other ((by decide +kernel:∀ u,w2 u≠"put") u) rfl
  |one u b=>exact other ((by decide +kernel:∀ u,w1 u≠"put") u) rfl
  |jump g=>exact other (show Str.ofString "jump"≠Str.ofString "put" by decide +kernel) rfl
  |zero b g=>exact other (show Str.ofString "zero"≠Str.ofString "put" by decide +kernel) rfl
  |halt=>exact other (by decide +kernel) rfl
 ·rintro t rs acc μ M ⟨done,todo,e1,e2,rfl,rfl⟩ kk
  cases todo with
  |nil=>cases e2
  |cons p todo =>
   obtain⟨rfl,rfl⟩:=List.cons.inj e2;obtain⟨a1,a2,a3⟩:=hC.at (vD aU p (by rw[<- e1];simp))
   have hd:done.length<=3:=by
    have:=JS List.length e1;have:=qM r;rw[Jt] at *;lia
   have b1:bR (cd.map fun ws=>L2.T.tup (wT ws)) (p.1:Int)=some (.tup (wT (cd.getD p.1 []))):=bG (by rw[J9,a1];rfl)
   have b2:bR (wT (cd.getD p.1 [])) (p.2:Int)=some (.str (wd (eA cd p))):=bG (by unfold wT;rw[J9,a2];rfl)
   refine⟨trivial,by rw[Js,Js];exact JJ hd (by decide),?_⟩
   wp_walk using b1,b2;refine kk _ _ ⟨done++[p],todo,by rw[<- e1];simp,rfl,?_,rfl⟩
   rw[JH,JH];rfl
noncomputable def j3(cd:List (List (List Nat))):Pk->List Nat
 |.box b=>eA cd (2,b)
 |_=>[]
theorem yC(l:List Nat):Y.gf (wd l) (some 1) none=wd l.tail:=by
 unfold Y.gf wd;congr 2;show Y.cI l (some 1) none=l.tail;unfold Y.cI;rw[HT.eM,show (some (1:Int))=some ((1:Nat):Int) from rfl,HT.lV]
 cases l with
 |nil=>rfl
 |cons x l=>simp
theorem z_(cd:List (List (List Nat)))(r:Row):(∃ b n,r=.put b n/\cA cd r=eA cd (0,r.wi)++r.fH.flatMap (j3 cd)++eA cd (1,du n)++(ij n).tail)\/(r.wd≠"put"/\cA cd r=eA cd (0,r.wi)++r.fH.flatMap (j3 cd)):=by
 cases r with
 |put b n=>exact .inl ⟨b,n,rfl,by simp[cA,eC,Row.fH,Pk.zf,j3,h7]⟩
 |two u a b=>exact .inr ⟨(by decide +kernel:∀ u,w2 u≠"put") u,by simp[cA,eC,Row.fH,Pk.zf,j3,h7]⟩
 |one u b=>exact .inr ⟨(by decide +kernel:∀ u,w1 u≠"put") u,by simp[cA,eC,Row.fH,Pk.zf,j3,h7]⟩
 |jump g=>exact .inr ⟨show Str.ofString "jump"≠Str.ofString "put" by decide +kernel,by simp[cA,eC,Row.fH,Pk.zf,j3,h7]⟩
 |zero b g=>exact .inr ⟨show Str.ofString "zero"≠Str.ofString "put" by decide +kernel,by simp[cA,eC,Row.fH,Pk.zf,j3,h7]⟩
 |halt=>exact .inr ⟨by decide +kernel,by simp[cA,eC,Row.fH,Pk.zf,j3,h7]⟩
noncomputable def u7:dW:=fun args Q=>∃(r:Row) (k:Nat) (cd:List (List (List Nat))),args=[r.t,.lst (cd.map fun ws=>.lst (wT ws))]/\r.Ok k/\Cd cd/\Q (.tr (.str (wd (cA cd r)))) []
theorem xJ(T:Txt K mg)(F:HasFn K mg "_law_head" bS ["row","codes"])(h_law_words:ae P w K mg base bA 1 "_law_words" [] (spT K [] lO))(h_law_figures:ae P w K mg base bA 1 "_law_figures" ["number"] (spT K [false] AI)):ae P w K mg base bA 2 "_law_head" ["row","codes"] (spT K [false,false] u7):=by
 refine F.fG bF [false,false] rfl (by decide) (fun args Qt hl h f cdv A outer s H E hr=>?_)
 have hu:=bf hr;obtain⟨r,k,cd,rfl,aU,hC,q⟩:=h;refine⟨_,(Y.af (Y.asg (Y.vS 1) (Y.iG (n:=3) K rfl rfl (Y.cc (Y.aI (i:=2) bF.nd rfl (by walk_at "lc")) (Y.cc (Y.aI (i:=3) bF.nd rfl (by walk_at "lc")) (Y.cc (Y.aI (i:=4) bF.nd rfl (by walk_at "lc")) Y.fq)))))
   (Y.af (Y.set (i:=5) bF.nd rfl (by walk_at "lc") (Y.ix (Y.aO K rfl) Y.ai (Y.vS 2) (Y.HP K rfl (Y.Gx K rfl h_law_words (hr.mono (by decide)) rfl ay) (Y.ix (Y.aO K rfl) Y.ai (Y.vS 0) Y.int))))
   (Y.af (Y.eB JR rfl (Y.anyS K rfl (Y.gv K rfl (Y.vS 0) (Y.zu Y.int) Y.yL)) (Y.aI (i:=6) bF.nd rfl (by walk_at "lc")) (Y.aD (Y.gm (Y.gW K rfl (Y.F_ (C:="str") K rfl rfl T.df (Y.vS 6) rfl T.uM (by decide +kernel))) (Y.aD (Y.set (i:=5) bF.nd rfl (by walk_at "lc") (Y.op (Y.aC K rfl) Y.aB (Y.vS 5) (Y.ix (Y.aO K rfl) Y.ai (Y.vS 4) (Y.sm K rfl PySem.F.slot_str_index PySem.F.type_str_index Y.vy Y.wk Y.str (Y.cons (Y.vS 6) Y.nil)))))) Y.c_)))
   (Y.af (Y.gm (Y.cg (Y.cK K rfl (JW hu)) Y.dF (Y.ix (Y.aO K rfl) Y.ai (Y.vS 0) Y.int) Y.str) (Y.af (Y.set (i:=7) bF.nd rfl (by walk_at "lc") (Y.fn K rfl h_law_figures (hr.mono (by decide)) rfl ay (Y.cons (Y.ix (Y.aO K rfl) Y.ai (Y.vS 0) Y.int) Y.nil)))
   (Y.aD (Y.set (i:=5) bF.nd rfl (by walk_at "lc") (Y.op (Y.aC K rfl) Y.aB (Y.op (Y.aC K rfl) Y.aB (Y.vS 5) (Y.ix (Y.aO K rfl) Y.ai (Y.vS 3) (Y.cb (Y.bj K rfl) Y.cz rfl T.dX (by decide +kernel) (Y.cons (Y.vS 7) Y.nil)))) (Y.gv K rfl (Y.vS 7) (Y.zu Y.int) Y.yL))))) Y.c_)
   (Y.aD (Y.ret (Y.vS 5))))))),?_⟩
 obtain⟨c0,c1,c2,rfl,l0,l1,l2⟩:=hC.ex;refine av fun N hN=>?_;walk_at "rt";refine hN _ ?_;clear hN N;refine av fun N hN=>?_;rw[Row.wR];walk_at "rt";refine⟨rfl,?_⟩;walk_at "rt";have g0:=hC.at (p:=(0,r.wi)) (.inl ⟨rfl,r.xS⟩);have b0:bR (wT c0) (r.wi:Int)=some (.str (wd (eA [c0,c1,c2] (0,r.wi)))):=bG (by unfold wT;rw[J9,show c0[r.wi]?=_ from g0.2.1];rfl)
 refine⟨fw,r.wi,rfl,(rF r).1,(rF r).2,?_⟩;wp_walk using b0;refine hN _ ?_;clear hN N b0;refine av fun N hN=>?_;walk_at "rt";rw[oq];have hh:=gU hC aU;refine bD (fun rest μ=>∃(ps:List Pk) (x:List Nat) (o6:Option L2.T),rest=ps.map Pk.t/\(∀ p∈ps,p.Ok)/\x.length+40*ps.length<=200/\eA [c0,c1,c2] (0,r.wi)++r.fH.flatMap (j3 [c0,c1,c2])=x++ps.flatMap (j3 [c0,c1,c2])/\μ=[.tr (.tup (.str r.wd::r.fH.map Pk.t)),.tr (.lst [.lst (wT c0),.lst (wT c1),.lst (wT c2)]),.tr (.lst (wT c0)),.tr (.lst (wT c1)),.tr (.lst (wT c2)),.tr (.str (wd x)),sl o6,.un]) ⟨r.fH,_,none,rfl,Row.pO aU,?_,rfl,rfl⟩ ?_ ?_
 ·have h1:r.fH.length<=2:=by cases r<;>simp[Row.fH]
  have h2:=g0.2.2;lia
 ·rintro μ ⟨ps,x,o6,e1,_,hx,ea,rfl⟩;have e2:ps=[]:=K0.mp e1.symm;subst e2;rw[List.flatMap_nil,JK] at ea;simp only[Ke,Oh,Oa] at hx;show N _;refine hN _ ?_;clear hN N;refine av fun N hN=>?_;rcases z_ [c0,c1,c2] r with ⟨b,n,rfl,hpp⟩|⟨n1,n2⟩
  ·have e0:(Row.put b n).wd=Str.ofString "put":=rfl;have e2:bR (L2.T.str (Row.put b n).wd::List.map Pk.t (Row.put b n).fH) 2=some (.int (n:Nat)):=rfl;have hn:n<65536:=aU.2;have hb:=gR hn;have g1:=hC.at (p:=(1,du n)) (.inr (.inl ⟨rfl,hb⟩));have b1:bR (wT c1) (du n:Int)=some (.str (wd (eA [c0,c1,c2] (1,du n)))):=bG (by unfold wT;rw[J9,show c1[du n]?=_ from g1.2.1];rfl)
   have fl:(wd (ij n)).length=du n:=by rw[aT];unfold ij;rw[dM];rfl
   wp_walk using (show ((Row.put b n).wd=Str.ofString "put")=True from eq_true rfl),Lh,e2;refine av fun M' hM=>?_;wp_walk using e2;refine⟨n,rfl,hn,?_⟩;walk_at "rt";refine hM _ ?_;clear hM M';wp_walk using fl,b1;have h2:(ij n).tail.length<=16:=hh.2;have h3:=g1.2.2;rw[yC,aT,aT,dy,aT,aT,dy];refine⟨JD (show _<=20 by lia) (by decide),JD (show _<=300 by lia) (by decide),JD (show _<=20 by lia) (by decide),JD (show _<=300 by rw[Jt];lia) (by decide),?_⟩
   refine hN _ ?_;clear hN N;walk_at "rt";rw[hpp,ea] at q;exact q
  ·wp_walk using Ju n1;refine hN _ ?_;clear hN N;walk_at "rt";rw[n2,ea] at q;exact q
 ·rintro t rs μ M ⟨ps,x,o6,e1,hp,hx,ea,rfl⟩ kk;obtain⟨p,ps',rfl,rfl,rfl⟩:=List.map_eq_cons_iff.mp e1.symm;have hp0:=hp p (JG ..);have hp1:∀ q∈ps',q.Ok:=fun q hq=>hp q (J8 _ hq);rw[J7] at hx;have no:∀ n:Nat,j3 [c0,c1,c2] p=[]->M [.tr (.tup (.str r.wd::r.fH.map Pk.t)),.tr (.lst [.lst (wT c0),.lst (wT c1),.lst (wT c2)]),.tr (.lst (wT c0)),.tr (.lst (wT c1)),.tr (.lst (wT c2)),.tr (.str (wd x)),.tr (.int (n:Nat)),.un]:=fun n e0 =>
   kk _ ⟨ps',x,some (.int (n:Nat)),rfl,hp1,by lia,by rw[ea,Lo,e0];rfl,rfl⟩
  cases p with
  |box b =>
   have hb:b<8:=hp0;have g2:=hC.at (p:=(2,b)) (.inr (.inr ⟨rfl,hb⟩));have b2:bR (wT c2) (b:Int)=some (.str (wd (eA [c0,c1,c2] (2,b)))):=bG (by unfold wT;rw[J9,show c2[b]?=_ from g2.2.1];rfl)
   show Y.gN 6 (R.tr (.str (fo b))) _ _;wp_walk using (show gp "str" "str"=true from by decide +kernel),Lh
   refine⟨b,[],GS hb,?_⟩;wp_walk using b2;rw[aT,aT,dy];refine⟨JD (show _<=240 by have:=g2.2.2;lia) (by decide),?_⟩
   exact kk _ ⟨ps',x++eA [c0,c1,c2] (2,b),some _,rfl,hp1,by rw[Jt];have:=g2.2.2;lia,by rw[ea,Lo,JU];rfl,rfl⟩
  |num n =>
   show Y.gN 6 (R.tr (.int (n:Nat))) _ _;wp_walk using (show gp "int" "str"=false from by decide +kernel)
   exact no n rfl
  |goal n =>
   show Y.gN 6 (R.tr (.int (n:Nat))) _ _;wp_walk using (show gp "int" "str"=false from by decide +kernel)
   exact no n rfl
noncomputable def d8:Row->Option Nat
 |.jump g=>some g
 |.zero _ g=>some g
 |_=>none
def rT(rs:List Row):List L2.T:=rs.map Row.t
theorem xT(rs:List Row):(rT rs).length=rs.length:=Js ..
noncomputable def AE:dW:=fun args Q=>∃ r:Row,args=[r.t]/\Q (.tr (oI (d8 r))) []
theorem yn(T:Txt K mg)(F:HasFn K mg "goal_of" cP ["row"]):ae P w K mg base bA 1 "goal_of" ["row"] (spT K [false] AE):=by
 refine F.fG pU [false] rfl (by decide) (fun args Qt hl h f cdv A outer s H E hr=>?_)
 have hu:=bf hr;obtain⟨r,rfl,q⟩:=h;refine⟨_,(Y.aD (Y.ret (Y.AL (Y.cg (Y.mQ K rfl) Y.rA Y.str (Y.IU K rfl rfl T.jb (Y.ix (Y.aO K rfl) Y.ai (Y.vS 0) Y.int))) (Y.ix (Y.aO K rfl) Y.ai (Y.vS 0) (Y.neg Y.int)) Y.aJ))),?_⟩;rw[Row.wR];have e1:=kx r;unfold dG at e1;wp_walk using e1;refine⟨rfl,?_,?_⟩
 ·rw[Kx];intro x hx;obtain⟨z,_,rfl⟩:=JX.mp hx;rfl
 have two:(Y.fF (L2.T.str (Str.ofString "goal")) ((r.fH.map Pk.kd).map L2.T.str)=false/\d8 r=none)\/(Y.fF (L2.T.str (Str.ofString "goal")) ((r.fH.map Pk.kd).map L2.T.str)=true/\bR (.str r.wd::r.fH.map Pk.t) (-1)=some (oI (d8 r))):=by
  cases r with
  |put b n=>exact .inl ⟨show Y.fF (L2.T.str (Str.ofString "goal")) [L2.T.str (Str.ofString "box"),L2.T.str (Str.ofString "number")]=false by decide +kernel,rfl⟩
  |two u a b=>exact .inl ⟨show Y.fF (L2.T.str (Str.ofString "goal")) [L2.T.str (Str.ofString "box"),L2.T.str (Str.ofString "box")]=false by decide +kernel,rfl⟩
  |one u b=>exact .inl ⟨show Y.fF (L2.T.str (Str.ofString "goal")) [L2.T.str (Str.ofString "box")]=false by decide +kernel,rfl⟩
  |jump g=>exact .inr ⟨show Y.fF (L2.T.str (Str.ofString "goal")) [L2.T.str (Str.ofString "goal")]=true by decide +kernel,rfl⟩
  |zero b g=>exact .inr ⟨show Y.fF (L2.T.str (Str.ofString "goal")) [L2.T.str (Str.ofString "box"),L2.T.str (Str.ofString "goal")]=true by decide +kernel,rfl⟩
  |halt=>exact .inl ⟨show Y.fF (L2.T.str (Str.ofString "goal")) []=false by decide +kernel,rfl⟩
 rcases two with ⟨n1,n2⟩|⟨n1,n2⟩
 ·rw[n1,Ju (by decide)]
  rw[n2] at q;exact q
 ·rw[n1,Jy rfl,n2];exact q
noncomputable def rM:dW:=fun args Q=>∃ rs:List Row,args=[.tup (rT rs)]/\rs.length<=60/\Q (.tr (.tup (nO (rs.map d8)))) []
theorem tZ(T:Txt K mg)(F:HasFn K mg "_law_goals" b7 ["program"]):ae P w K mg base bA 1 "_law_goals" ["program"] (spT K [false] rM):=by
 refine F.fG kl [false] rfl (by decide) (fun args Qt hl h f cdv A outer s H E hr=>?_)
 have hu:=bf hr;obtain⟨rs,rfl,h60,q⟩:=h;refine⟨_,(Y.aD (Y.ret (Y.ct (Y.cZ K rfl) Y.d7 rfl T.d5 (by decide +kernel) (Y.cons (Y.i5 (osc:=aa b7) (ON:=["program"]) (own:=["row"]) (N:=["row","program"]) ⟨rfl,by decide +kernel,rfl,by decide +kernel,by decide +kernel,by decide +kernel,by decide +kernel,by decide +kernel⟩ rfl rfl rfl rfl (Y.anyS K rfl (Y.vS 0)) (fun _ _ _ _=>(Z.aI (i:=0) (show List.Nodup (["row","program"]:List Str) by decide +kernel) rfl (by walk_at "lc"))) (fun _ _ _ _=>Y.oz) (fun _ _ _ _=>(Y.AL (Y.cg (Y.mQ K rfl) Y.rA (Y.ix (Y.aO K rfl) Y.ai (Y.vS 0) Y.int) (Y.tup (Y.e7 rfl rfl))) (Y.ix (Y.aO K rfl) Y.ai (Y.vS 0) (Y.neg Y.int)) Y.aJ))) Y.nil)))),?_⟩
 walk_at "rt";refine bU (fun rest acc μ=>∃(done todo:List Row),done++todo=rs/\rest=rT todo/\acc=nO (done.map d8)/\μ=[.tr (.tup (rT rs))]) ⟨[],rs,rfl,rfl,rfl,rfl⟩ ?_ ?_
 ·rintro acc μ ⟨done,todo,e1,e2,rfl,rfl⟩;have e3:todo=[]:=K0.mp e2.symm;subst e3;rw[JK] at e1;subst e1;refine⟨trivial,?_⟩;walk_at "rt";exact q
 ·rintro t r acc μ M ⟨done,todo,e1,e2,rfl,rfl⟩ k
  cases todo with
  |nil=>cases e2
  |cons x todo =>
   obtain⟨rfl,rfl⟩:=List.cons.inj e2;have hd:done.length<=60:=by
    have:=JS List.length e1;rw[Jt] at this;lia
   refine⟨trivial,by rw[fu,Js];exact JJ hd (by decide),?_⟩
   have fin:M (nO (done.map d8)++[oI (d8 x)]) [.tr (.tup (rT rs))]:=k _ _ ⟨done++[x],todo,by rw[<- e1];simp,rfl,by rw[JH];unfold nO;rw[JH];rfl,rfl⟩
   have two:(Y.fF (.str x.wd) [.str "jump",.str "zero"]=false/\d8 x=none)\/(Y.fF (.str x.wd) [.str "jump",.str "zero"]=true/\bR (.str x.wd::x.fH.map Pk.t) (-1)=some (oI (d8 x))):=by
    cases x with
    |put b n=>exact .inl ⟨show Y.fF (L2.T.str (Str.ofString "put")) _=false by decide +kernel,rfl⟩
    |two u a b=>exact .inl ⟨(by decide +kernel:∀ u,Y.fF (.str (w2 u)) [.str "jump",.str "zero"]=false) u,rfl⟩
    |one u b=>exact .inl ⟨(by decide +kernel:∀ u,Y.fF (.str (w1 u)) [.str "jump",.str "zero"]=false) u,rfl⟩
    |jump g=>exact .inr ⟨show Y.fF (L2.T.str (Str.ofString "jump")) _=true by decide +kernel,rfl⟩
    |zero b g=>exact .inr ⟨show Y.fF (L2.T.str (Str.ofString "zero")) _=true by decide +kernel,rfl⟩
    |halt=>exact .inl ⟨show Y.fF (L2.T.str (Str.ofString "halt")) _=false by decide +kernel,rfl⟩
   rw[Row.wR];rcases two with ⟨n1,n2⟩|⟨n1,n2⟩
   ·wp_walk using n1;rw[n2] at fin;exact⟨by decide,rfl,rfl,fin⟩
   ·wp_walk using n1,n2;exact⟨by decide,rfl,rfl,fin⟩
noncomputable def IE:Option Nat->Option Nat->Prop
 |none,none=>True
 |some a,some b=>a<=b
 |_,_=>False
noncomputable def zQ(ws zs:List (Option Nat)):Prop:=ws.length=zs.length/\∀(j:Nat) (w z:Option Nat),ws[j]?=some w->zs[j]?=some z->IE w z
theorem xo{w z:Option Nat}(h:IE w z):fi w<=fi z:=by
 cases w with
 |none=>cases z with
  |none=>exact ME _
  |some b=>exact h.elim
 |some a=>cases z with
  |none=>exact h.elim
  |some b =>
   have hab:a<=b:=h
   match a,b,hab with
   |0,0,_=>decide
   |0,1,_=>decide
   |0,(n+2),_=>show (5:Int)<=18;decide
   |1,1,_=>decide
   |1,(n+2),_=>show (10:Int)<=18;decide
   | (m+2),(n+2),_=>exact ME _
theorem uw(w:Option Nat):0<=fi w:=by
 match w with
 |none=>decide
 |some 0=>decide
 |some 1=>decide
 |some (n+2)=>show (0:Int)<=18;decide
theorem oC:∀(ss:List Int) (ws:List (Option Nat)) (a:Int) (i:Nat) (s:Int) (w:Option Nat),ss[i]?=some s->ws[i]?=some w->(a::rS ss ws a).getD (i+1) 0=(a::rS ss ws a).getD i 0+s+fi w
 |s::ss,w::ws,a,0,s',w',h1,h2=>by
  simp at h1 h2;subst h1;subst h2;rfl
 |s::ss,w::ws,a,i+1,s',w',h1,h2=>by
  have:=oC ss ws (a+s+fi w) i s' w' (by simpa using h1) (by simpa using h2)
  show (rS (s::ss) (w::ws) a).getD (i+1) 0=(rS (s::ss) (w::ws) a).getD i 0+s'+fi w';exact this
 |[],_,_,_,_,_,h,_=>by simp at h
 |_::_,[],_,_,_,_,_,h=>by simp at h
theorem lT(hn:∀ x∈ss,0<=x)(h1:ws.length=ss.length)(h:zQ ws zs)(i:Nat):∀ d:Nat,i+d<=ss.length ->
  0<=(aK ss ws).getD (i+d) 0-(aK ss ws).getD i 0/\(aK ss ws).getD (i+d) 0-(aK ss ws).getD i 0<=(aK ss zs).getD (i+d) 0-(aK ss zs).getD i 0
 |0,_=>by simp
 |d+1,hd=>by
  obtain⟨a1,a2⟩:=lT hn h1 h i d (by lia)
  have hs:=Jq (show i+d<ss.length by lia)
  have hw:=Jq (show i+d<ws.length by lia)
  have hz:=Jq (show i+d<zs.length by rw[<- h.1];lia)
  have e1:=oC ss ws 0 (i+d) _ _ hs hw;have e2:=oC ss zs 0 (i+d) _ _ hs hz;have e3:=xo (h.2 _ _ _ hw hz);have e4:=uw ws[i+d];have e5:=hn _ (JY (show i+d<ss.length by lia))
  unfold aK at a1 a2 ⊢;rw[<- NW,e1,e2]
  constructor<;>lia
theorem nK(hn:∀ x∈ss,0<=x)(h1:ws.length=ss.length)(h:zQ ws zs){g:Nat}(hg:g<=ss.length)(hj:j+1<=ss.length)
  (hb:fk ((aK ss ws).getD g 0-(aK ss ws).getD (j+1) 0) k=false):fk ((aK ss zs).getD g 0-(aK ss zs).getD (j+1) 0) k=false:=by
 have hh:0<gb k:=by
  match k with
  |0=>decide
  |1=>decide
  |n+2=>show (0:Int)<32768;decide
 unfold fk at hb ⊢;rw[Bool.and_eq_false_iff,LZ,LZ] at hb ⊢;rcases Nat.le_total (j+1) g with c|c
 ·obtain⟨d,rfl⟩:∃ d,g=j+1+d:=⟨g-(j+1),by lia⟩
  obtain⟨a1,a2⟩:=lT hn h1 h (j+1) d hg;rcases hb with hb|hb
  ·lia
  ·right;lia
 ·obtain⟨d,hd⟩:∃ d,j+1=g+d:=⟨j+1-g,by lia⟩
  rw[hd] at hb ⊢;obtain⟨a1,a2⟩:=lT hn h1 h g d (by lia)
  rcases hb with hb|hb
  ·left;lia
  ·lia
theorem kH(gz:goodW ss gs zs=true){g:Nat}(hj:j<ss.length)(eg:gs[j]?=some (some g))(ek:zs[j]?=some (some k)):fk ((aK ss zs).getD g 0-(aK ss zs).getD (j+1) 0) k=true:=by
 unfold goodW eK at gz;rw[Nb,List.find?_eq_none] at gz;have:=gz j (by simp;lia)
 unfold cU at this;rw[eg,ek] at this
 simpa using this
theorem kJ(hn:∀ x∈ss,0<=x)(gz:GW ss gs zs)(good:goodW ss gs zs=true):∀(f:Nat) (ws:List (Option Nat)) (ps:List Int),GW ss gs ws->left ws<f->zQ ws zs->∃ ws' ps',mW ss gs f ws ps=some (ws',ps')/\zQ ws' zs
 |0,ws,ps,_,h,_=>by lia
 |f+1,ws,ps,gw,h,le=>by
  unfold mW
  cases c:eK (aK ss ws) gs ws ss.length 0 with
  |none=>exact⟨ws,ps,rfl,le⟩
  |some j =>
   obtain⟨hb,hj⟩:=iz c;obtain⟨g,k,eg,ek,k3⟩:=jD gw c;obtain⟨hg,k',ek'⟩:=gz.go j g eg;have hkk:k<=k':=le.2 j _ _ ek ek';have hk3:=gz.w3.at ek';have hnf:fk ((aK ss ws).getD g 0-(aK ss ws).getD (j+1) 0) k=false:=by
    unfold cU at hb;rw[eg,ek] at hb
    simpa using hb
   have hne:k≠k':=fun z=>by
    subst z;have h1:=nK hn gw.lw le hg (by lia) hnf
    rw[kH good hj eg ek'] at h1;cases h1
   simp only[ek];rw[Ju (by lia)]
   refine kJ hn gz good f _ _ (gw.set (by lia) ek) ?_ ⟨by rw[Ko];exact le.1,fun i w z e1 e2=>?_⟩
   ·have:=gZ ek (by lia);lia
   ·by_cases q:j=i
    ·subst q;rw[Kb (Jz.mp ek).1] at e1;cases e1;rw[ek'] at e2;cases e2;show k+1<=k';lia
    ·rw[Kg q] at e1;exact le.2 i w z e1 e2
noncomputable def wV(gs zs:List (Option Nat)):Prop:=zs.map Option.isSome=gs.map Option.isSome
theorem xB(h:wV gs zs):zQ (i3 gs) zs:=by
 have hl:zs.length=gs.length:=by have:=JS List.length h;simpa using this
 refine⟨by unfold i3;rw[Js,hl],fun j w z e1 e2=>?_⟩
 unfold i3 at e1;rw[J9] at e1;have hj:(zs.map Option.isSome)[j]?=(gs.map Option.isSome)[j]?:=by rw[show zs.map Option.isSome=gs.map Option.isSome from h]
 rw[J9,J9,e2] at hj
 cases c:gs[j]? with
 |none=>rw[c] at e1;cases e1
 |some g =>
  rw[c] at e1 hj;cases e1;have hz:z.isSome=g.isSome:=by simpa using hj
  cases g with
  |none=>cases z with
   |none=>trivial
   |some b=>cases hz
  |some g=>cases z with
   |none=>cases hz
   |some b=>exact Kh _
theorem kZ(hn:∀ x∈ss,0<=x)(hgl:gs.length=ss.length)(hle:ss.length<=60)(hgo:∀(j g:Nat),gs[j]?=some (some g)->g<=ss.length)(gz:GW ss gs zs)(hp:wV gs zs)(good:goodW ss gs zs=true):
  ∃ ws ps,iH ss gs=some (ws,ps)/\zQ ws zs:=kJ hn gz good _ _ _ (m6 hgl hle hgo) (Ni _) (xB hp)
noncomputable def fI(ss:List Int)(gs ws:List (Option Nat))(n:Nat):List Nat:=(List.range n).filter (cU (aK ss ws) gs ws)
noncomputable def bN(xs:List Nat):List L2.T:=nI (xs.map Int.ofNat)
theorem Ds(xs:List Nat):(bN xs).length=xs.length:=by unfold bN;rw[cq,Js]
theorem wx(ss:List Int)(gs ws:List (Option Nat))(n:Nat):(fI ss gs ws n).length<=n:=by
 have:=List.length_filter_le (cU (aK ss ws) gs ws) (List.range n)
 simpa[fI] using this
theorem lE:∀ xs:List Nat,(bN xs).all aR=true
 |[]=>rfl
 |x::xs=>by show (aR (.int _) && (bN xs).all aR)=true;rw[lE xs];rfl
theorem uO{a b:List (Option Nat)}(h1:zQ a b)(h2:zQ b a):a=b:=by
 refine KA fun j=>?_;rcases Ks j a.length with z|z
 ·have e1:=Jq z;have e2:=Jq (show j<b.length by rw[<- h1.1];exact z)
  have l1:=h1.2 j _ _ e1 e2;have l2:=h2.2 j _ _ e2 e1;rw[e1,e2];generalize a[j]=x at l1 l2;generalize b[j]'_=y at l1 l2;congr 1
  cases x with
  |none=>cases y with
   |none=>rfl
   |some _=>exact l1.elim
  |some x=>cases y with
   |none=>exact l1.elim
   |some y =>
    have a1:x<=y:=l1;have a2:y<=x:=l2;rw[Nat.le_antisymm a1 a2]
 ·rw[JM.mpr z,JM.mpr (by rw[<- h1.1];exact z)]
noncomputable def Below(ss:List Int)(gs ws:List (Option Nat)):Prop:=∀ zs,GW ss gs zs->wV gs zs->goodW ss gs zs=true->zQ ws zs
theorem rJ(ek:ws[j]?=some (some k)):(ws.set j (some (k+1))).map Option.isSome=ws.map Option.isSome:=by
 have hp:=(Jz.mp ek).1;rw[Nr];refine KA fun i=>?_;by_cases z:j=i
 ·subst z;rw[Kb (by simpa using hp),J9,ek];rfl
 ·rw[Kg z]
theorem rH(gs:List (Option Nat)):(i3 gs).map Option.isSome=gs.map Option.isSome:=by
 unfold i3;rw[KR];refine L4 fun g _=>?_
 cases g<;>rfl
theorem uf{w1:List (Option Nat)}(hn:∀ x∈ss,0<=x)(gw:GW ss gs ws)(hb:Below ss gs ws)(hb1:Below ss gs w1){g:Nat}(hj:j<ss.length)(eg:gs[j]?=some (some g))(ek:ws[j]?=some (some k))(ek1:w1[j]?=some (some k))(hf:fk ((aK ss ws).getD g 0-(aK ss ws).getD (j+1) 0) k=false):Below ss gs (w1.set j (some (k+1))):=by
 intro zs gz pz good;have le:=hb zs gz pz good;have le1:=hb1 zs gz pz good;obtain⟨hg,k',ek'⟩:=gz.go j g eg;have hkk:k<=k':=le.2 j _ _ ek ek';have hne:k≠k':=fun z=>by
  subst z;have h1:=nK hn gw.lw le hg (by lia) hf
  rw[kH good hj eg ek'] at h1;cases h1
 refine⟨by rw[Ko];exact le1.1,fun i w z e1 e2=>?_⟩
 by_cases q:j=i
 ·subst q;rw[Kb (Jz.mp ek1).1] at e1;cases e1;rw[ek'] at e2;cases e2;show k+1<=k';lia
 ·rw[Kg q] at e1;exact le1.2 i w z e1 e2
theorem g_(h:fI ss gs ws ss.length=[]):goodW ss gs ws=true:=by
 unfold goodW eK;rw[Nb,List.find?_eq_none];intro j hj;unfold fI at h;rw[NI] at h;exact h j (by simp at hj ⊢;lia)
theorem yf:∀(f:Nat) (ws:List (Option Nat)) (ps:List Int) {ws':List (Option Nat)} {ps':List Int},GW ss gs ws->wV gs ws->mW ss gs f ws ps=some (ws',ps')->GW ss gs ws'/\wV gs ws'/\goodW ss gs ws'=true
 |0,ws,ps,ws',ps',_,_,h=>by cases h
 |f+1,ws,ps,ws',ps',gw,hw,h=>by
  unfold mW at h
  cases c:eK (aK ss ws) gs ws ss.length 0 with
  |none =>
   rw[c] at h;cases h;exact⟨gw,hw,by unfold goodW;rw[c];rfl⟩
  |some j =>
   rw[c] at h;obtain⟨g,k,eg,ek,k3⟩:=jD gw c;simp only[ek] at h;by_cases k2:k=2
   ·rw[Jy k2] at h;cases h
   ·rw[Ju k2] at h;exact yf f _ _ (gw.set (by lia) ek) ((rJ ek).trans hw) h
theorem pK{ps:List Int}(hgl:gs.length=ss.length)(hle:ss.length<=60)(hgo:∀(j g:Nat),gs[j]?=some (some g)->g<=ss.length)(h:iH ss gs=some (ws,ps)):GW ss gs ws/\wV gs ws/\goodW ss gs ws=true:=yf _ _ _ (m6 hgl hle hgo) (rH gs) h
theorem D3(hn:∀ x∈ss,0<=x)(gw:GW ss gs ws)(hp:wV gs ws)(hb:Below ss gs ws)(good:goodW ss gs ws=true):∃ ps,iH ss gs=some (ws,ps):=by
 have hgo:∀(i g:Nat),gs[i]?=some (some g)->g<=ss.length:=fun i g e=>(gw.go i g e).1;obtain⟨w',ps,e,le⟩:=kZ hn gw.lg gw.le hgo gw hp good;have hT:=pK gw.lg gw.le hgo e;have:=uO le (hb w' hT.1 hT.2.1 hT.2.2);subst this;exact⟨ps,e⟩
theorem vc(gw:GW ss gs ws)(h:j∈fI ss gs ws ss.length):j<ss.length/\∃ g k,gs[j]?=some (some g)/\ws[j]?=some (some k)/\k<3/\fk ((aK ss ws).getD g 0-(aK ss ws).getD (j+1) 0) k=false:=by
 unfold fI at h;obtain⟨h1,h2⟩:=Ny.mp h;refine⟨by simpa using h1,?_⟩
 unfold cU at h2
 split at h2
 ·rename_i g k eg ek;exact⟨g,k,eg,ek,gw.w3.at ek,by simpa using h2⟩
 ·cases h2
theorem Dz(w:Option Nat):fi w<=18:=by
 unfold fi
 split<;>decide
theorem uW:∀(ss:List Int) (ws:List (Option Nat)) (a:Int),(∀ x∈ss,0<=x/\x<=150)->∀ v∈rS ss ws a,a<=v/\v<=a+168*(ss.length:Int)
 |[],_,_,_,v,h=>by cases h
 |s::ss,[],_,_,v,h=>by cases h
 |s::ss,w::ws,a,hs,v,h=>by
  have h1:=hs s JG;have h2:=uw w;have h3:=Dz w;rcases J5.mp h with rfl|h
  ·rw[J7];lia
  ·have:=uW ss ws _ (fun x hx=>hs x (J8 _ hx)) v h;rw[J7];lia
theorem qj(hs:∀ x∈ss,0<=x/\x<=150)(hl:ss.length<=60)(i:Nat):0<=(aK ss ws).getD i 0/\(aK ss ws).getD i 0<=10080:=by
 have key:∀ v∈aK ss ws,0<=v/\v<=10080:=fun v hv=>by
  rcases J5.mp hv with rfl|hv
  ·decide
  ·have:=uW ss ws 0 hs v hv;lia
 rw[JI]
 cases c:(aK ss ws)[i]? with
 |none=>decide
 |some v=>exact key v (Km c)
theorem rG{ws:List (Option Nat)}(hs:∀ x∈ss,0<=x/\x<=150)(hl:ss.length<=60)(i j:Nat):fk ((aK ss ws).getD i 0-(aK ss ws).getD j 0) 2=true:=by
 have h1:=qj (ws:=ws) hs hl i;have h2:=qj (ws:=ws) hs hl j;unfold fk;rw[Kj (show -gb 2<=_ by show -32768<=_;lia),Kj (show _<gb 2 by show _<32768;lia)]
 rfl
theorem y9(h:k<3):bR [L2.T.int 5,.int 10,.int 18] (k:Int)=some (.int (fi (some k))):=by
 match k,h with
 |0,_=>rfl
 |1,_=>rfl
 |2,_=>rfl
theorem pJ(T:Txt K mg)(F:HasFn K mg "_law_places" b6 ["sizes","widths"]):ae P w K mg base bA 1 "_law_places" ["sizes","widths"] (spT K [false,false] fT):=by
 refine F.fG cp [false,false] rfl (by decide) (fun args Qt hl h f cdv A outer s H E hr=>?_)
 have hu:=bf hr;obtain⟨ss,ws,t1,t2,rfl,h1,h2,hlen,hle,hw,q⟩:=h;refine⟨_,(Y.af (Y.set (i:=2) cp.nd rfl (by walk_at "lc") (Y.lst (Y.cons Y.int Y.nil)))
   (Y.af (Y.eB JR rfl (Y.zip K rfl rfl T.xc (Y.cons (Y.vS 0) (Y.cons (Y.vS 1) Y.nil))) (Y.iG (n:=2) K rfl rfl (Y.cc (Y.aI (i:=3) cp.nd rfl (by walk_at "lc")) (Y.cc (Y.aI (i:=4) cp.nd rfl (by walk_at "lc")) Y.fq))) (Y.af (Y.set (i:=5) cp.nd rfl (by walk_at "lc") Y.int)
   (Y.af (Y.gm (Y.cg fX Y.fP (Y.vS 4) Y.aJ) (Y.aD (Y.set (i:=5) cp.nd rfl (by walk_at "lc") (Y.ix (Y.aO K rfl) Y.ai (Y.lst (Y.e7 rfl rfl)) (Y.vS 4)))) Y.c_)
   (Y.aD (Y.expr (Y.bm K rfl PySem.F.slot_list_append PySem.F.type_list_append cE Y.cS (Y.vS 2) (Y.cons (Y.op (Y.aC K rfl) Y.aB (Y.op (Y.aC K rfl) Y.aB (Y.ix (Y.aO K rfl) Y.ai (Y.vS 2) (Y.neg Y.int)) (Y.vS 3)) (Y.vS 5)) Y.nil)))))))
   (Y.aD (Y.ret (Y.vS 2))))),?_⟩
 have e1:ki t1=some (nI ss):=by rcases h1 with rfl|rfl<;>rfl
 have e2:ki t2=some (nO ws):=by rcases h2 with rfl|rfl<;>rfl
 refine fb fun N hN=>?_;walk_at "rt";refine⟨by decide,?_⟩
 rw[hN];clear hN N;refine fb fun N hN=>?_;wp_walk using e1,e2;refine bD (fun rest μ=>∃(ss':List Int) (ws':List (Option Nat)) (pre:List Int) (a:Int) (s3 s4 s5:Option L2.T),rest=m4 (nI ss') (nO ws')/\ss'.length=ws'.length/\Ws ws'/\μ=[.tr t1,.tr t2,.bx (.lst (nI (pre++[a]))),sl s3,sl s4,sl s5]/\pre++[a]++rS ss' ws' a=aK ss ws/\pre.length+ss'.length<=60)
  ⟨ss,ws,[],0,none,none,none,rfl,hlen,hw,rfl,rfl,by simpa using hle⟩ ?_ ?_
 ·rintro μ ⟨ss',ws',pre,a,s3,s4,s5,e,hl',_,rfl,ep,_⟩;have:ss'=[]:=by
   cases ss' with
   |nil=>rfl
   |cons=>cases ws' with
    |nil=>cases hl'
    |cons=>cases e
  subst this
  cases ws' with
  |cons=>cases hl'
  |nil =>
   show N _;rw[hN];clear hN N;walk_at "rt";rw[show pre++[a]=aK ss ws by rw[<- ep];simp[rS]]
   exact q
 ·rintro t ts μ M ⟨ss',ws',pre,a,s3,s4,s5,e,hl',hw',rfl,ep,hz⟩ k
  cases ss' with
  |nil=>cases e
  |cons z ss'=>cases ws' with
   |nil=>cases hl'
   |cons v ws' =>
    cases e;have fin:∀ u:Option L2.T,M [.tr t1,.tr t2,.bx (.lst (nI (pre++[a])++[.int (a+z+fi v)])),.tr (.int z),.tr (oI v),sl u]:=fun u=>by
     refine k _ ⟨ss',ws',pre++[a],a+z+fi v,some (.int z),some (oI v),u,rfl,by simpa using hl',fun x hx=>hw' x (by simp[hx]),?_,?_,by simp at hz ⊢;lia⟩
     ·rw[ie (pre++[a]) [a+z+fi v]];rfl
     ·rw[<- ep];simp[rS]
    have sz:(nI (pre++[a])).length<sizeLine:=by rw[cq];simp;exact JJ (show pre.length+1<=61 by simp at hz;lia) (by decide)
    walk_at "rt";refine fb fun M' hM=>?_;walk_at "rt";rw[hM];clear hM M'
    cases v with
    |none =>
     refine fb fun M' hM=>?_;wp_walk using oI;rw[hM];clear hM M';wp_walk using mM;exact⟨sz,fin (some (.int 0))⟩
    |some j =>
     have hj:j<3:=hw' (some j) (by simp) j rfl
     refine fb fun M' hM=>?_;wp_walk using oI,y9 hj;refine⟨by decide,?_⟩
     rw[hM];clear hM M';wp_walk using mM;exact⟨sz,fin (some (.int (fi (some j))))⟩
noncomputable def xa:dW:=fun args Q=>∃(d:Int) (k:Nat),args=[.int d,.int k]/\k<3/\Q (.tr (.bl (fk d k))) []
theorem xR(T:Txt K mg)(F:HasFn K mg "_law_fits" bT ["far","width"]):ae P w K mg base bA 1 "_law_fits" ["far","width"] (spT K [false,false] xa):=by
 refine F.fG gI [false,false] rfl (by decide) (fun args Qt hl h f cdv A outer s H E hr=>?_)
 have hu:=bf hr;obtain⟨d,k,rfl,hk,q⟩:=h;refine⟨_,(Y.af (Y.set (i:=2) gI.nd rfl (by walk_at "lc") (Y.ix (Y.aO K rfl) Y.ai (Y.lst (Y.e7 rfl rfl)) (Y.vS 1)))
   (Y.aD (Y.ret (Y.and (Y.cmp AS Y.fe (Y.op dD Y.cX Y.int (Y.vS 2)) (Y.vS 0)) (Y.one (Y.cmp kY Y.fe (Y.vS 0) (Y.vS 2))))))),?_⟩
 refine fb fun N hN=>?_;wp_walk using kr hk;refine⟨by decide,?_⟩
 rw[hN];clear hN N;unfold fk at q;walk_at "rt";rw[show (0:Int)-gb k=-gb k by lia]
 by_cases c:-gb k<=d
 ·rw[Kj c] at q ⊢;walk_at "rt";exact q
 ·rw[JL c] at q ⊢;walk_at "rt";exact q
noncomputable def kO:dW:=fun args Q=>∃(ss:List Int) (gs ws:List (Option Nat)),args=[.lst (nI ss),.tup (nO gs),.lst (nO ws)]/\GW ss gs ws/\Q (.fr (.lst (bN (fI ss gs ws ss.length)))) []
theorem nH(T:Txt K mg)(F:HasFn K mg "_law_strained" aQ ["sizes","goals","widths"])(h_law_places:ae P w K mg base bA 1 "_law_places" ["sizes","widths"] (spT K [false,false] fT))(h_law_fits:ae P w K mg base bA 1 "_law_fits" ["far","width"] (spT K [false,false] xa)):
  ae P w K mg base bA 2 "_law_strained" ["sizes","goals","widths"] (spT K [false,false,false] kO):=by
 refine F.fG bL [false,false,false] rfl (by decide) (fun args Qt hl h f cdv A outer s H E hr=>?_)
 have hu:=bf hr;obtain⟨ss,gs,ws,rfl,gw,q⟩:=h;refine⟨_,(Y.af (Y.set (i:=3) bL.nd rfl (by walk_at "lc") (Y.fn K rfl h_law_places (hr.mono (by decide)) rfl ay (Y.cons (Y.vS 0) (Y.cons (Y.vS 2) Y.nil))))
   (Y.af (Y.set (i:=4) bL.nd rfl (by walk_at "lc") (Y.lst Y.nil))
   (Y.af (Y.eB JR rfl (Y.enum K rfl rfl T.fJ (Y.cons (Y.vS 1) Y.nil)) (Y.iG (n:=2) K rfl rfl (Y.cc (Y.aI (i:=5) bL.nd rfl (by walk_at "lc")) (Y.cc (Y.aI (i:=6) bL.nd rfl (by walk_at "lc")) Y.fq))) (Y.aD (Y.gm (Y.cg fX Y.fP (Y.vS 6) Y.aJ) (Y.af (Y.set (i:=7) bL.nd rfl (by walk_at "lc") (Y.op dD Y.cX (Y.ix (Y.aO K rfl) Y.ai (Y.vS 3) (Y.vS 6)) (Y.ix (Y.aO K rfl) Y.ai (Y.vS 3) (Y.op (Y.aC K rfl) Y.aB (Y.vS 5) Y.int))))
   (Y.aD (Y.gm (Y.mx (Y.gW K rfl (Y.fn K rfl h_law_fits (hr.mono (by decide)) rfl ay (Y.cons (Y.vS 7) (Y.cons (Y.ix (Y.aO K rfl) Y.ai (Y.vS 2) (Y.vS 5)) Y.nil))))) (Y.aD (Y.expr (Y.bm K rfl PySem.F.slot_list_append PySem.F.type_list_append cE Y.cS (Y.vS 4) (Y.cons (Y.vS 5) Y.nil)))) Y.c_))) Y.c_)))
   (Y.aD (Y.ret (Y.vS 4)))))),?_⟩
 have hlp:=fE (ss:=ss) (ws:=ws) gw.lw.symm;refine fb fun N hN=>?_;walk_at "rt";refine⟨ss,ws,_,_,rfl,.inr rfl,.inr rfl,gw.lw.symm,gw.le,gw.w3,?_⟩;walk_at "rt";rw[hN];clear hN N;refine fb fun N hN=>?_;walk_at "rt";rw[hN];clear hN N;refine fb fun N hN=>?_;walk_at "rt";refine bD (fun rest μ=>∃(i:Nat) (s5 s6 s7:Option L2.T),rest=(pairs (nO gs)).drop i/\i<=ss.length/\μ=[.tr (.lst (nI ss)),.tr (.tup (nO gs)),.tr (.lst (nO ws)),.bx (.lst (nI (aK ss ws))),.bx (.lst (bN (fI ss gs ws i))),sl s5,sl s6,sl s7])
  ⟨0,none,none,none,rfl,Kh _,rfl⟩ ?_ ?_
 ·rintro μ ⟨i,s5,s6,s7,e,hi,rfl⟩;have hi2:i=ss.length:=by
   rcases Ks i ss.length with z|z
   ·rw[dz (x:=oI (gs[i]'(by rw[gw.lg];exact z))) (by unfold nO;rw[J9,Jq (by rw[gw.lg];exact z)];rfl)] at e
    cases e
   ·lia
  subst hi2;show N _;rw[hN];clear hN N;walk_at "rt";exact q
 ·rintro t ts μ M ⟨i,s5,s6,s7,e,hi,rfl⟩ k;have hi2:i<ss.length:=by
   rcases Ks i ss.length with z|z
   ·exact z
   ·have:i=(nO gs).length:=by rw[fu,gw.lg];lia
    rw[this,ic] at e;cases e
  have eg:gs[i]?=some (gs[i]'(by rw[gw.lg];exact hi2)):=Jq _
  generalize gs[i]'(by rw[gw.lg];exact hi2)=go at eg
  rw[dz (x:=oI go) (by unfold nO;rw[J9,eg];rfl)] at e
  cases e;have hsz:(bN (fI ss gs ws i)).length<sizeLine:=by
   rw[Ds];exact JJ (JD (wx ss gs ws i) (show i<=60 by have:=gw.le;lia)) (by decide)
  have st:fI ss gs ws (i+1)=if cU (aK ss ws) gs ws i=true then fI ss gs ws i++[i] else fI ss gs ws i:=by
   unfold fI;rw[Lj,List.filter_append]
   cases c:cU (aK ss ws) gs ws i with
   |true=>rw[List.filter_cons_of_pos c];rfl
   |false=>rw[List.filter_cons_of_neg (by rw[c];decide)];simp
  cases go with
  |none =>
   have nb:cU (aK ss ws) gs ws i=false:=by unfold cU;rw[eg]
   rw[nb,Ju Jw] at st;wp_walk using oI;exact k _ ⟨i+1,some _,some _,s7,rfl,hi2,by rw[st];rfl⟩
  |some g =>
   obtain⟨hg,kk,ek⟩:=gw.go i g eg;have hk:=gw.w3.at ek;have bd:cU (aK ss ws) gs ws i=!fk ((aK ss ws).getD g 0-(aK ss ws).getD (i+1) 0) kk:=by unfold cU;rw[eg,ek]
   have a2:=kP (eu (ps:=aK ss ws) (j:=g) (by rw[hlp];lia))
   have a3:bR (nI (aK ss ws)) ((i:Int)+1)=some (.int ((aK ss ws).getD (i+1) 0)):=kP (j:=i+1) (eu (by rw[hlp];lia))
   have a4:=hU ek;wp_walk using oI,a2,a3;refine fb fun M' hM=>?_;wp_walk using a2,a3;rw[hM];clear hM M';wp_walk using a4,oI;refine⟨_,kk,rfl,hk,?_⟩;walk_at "rt"
   cases c:fk ((aK ss ws).getD g 0-(aK ss ws).getD (i+1) 0) kk with
   |true =>
    rw[c] at bd;rw[bd,Ju (by decide)] at st
    walk_at "rt";exact k _ ⟨i+1,some _,some _,some _,rfl,hi2,by rw[st];rfl⟩
   |false =>
    rw[c] at bd;rw[bd,Jy (by decide)] at st
    walk_at "rt";refine⟨hsz,k _ ⟨i+1,some (.int (i:Nat)),some (.int (g:Nat)),some (.int ((aK ss ws).getD g 0-(aK ss ws).getD (i+1) 0)),rfl,hi2,?_⟩⟩;rw[st];unfold bN;rw[JH,ie];rfl
noncomputable def wide(gs:List (Option Nat)):List (Option Nat):=gs.map (Option.map fun _=>2)
theorem res_some(hs:∀ x∈ss,0<=x/\x<=150)(hgl:gs.length=ss.length)(hle:ss.length<=60)(hgo:∀(j g:Nat),gs[j]?=some (some g)->g<=ss.length):∃ ws ps,iH ss gs=some (ws,ps):=by
 have at_:∀(j:Nat) (w:Option Nat),(wide gs)[j]?=some w->∃ g,gs[j]?=some g/\w=g.map fun _=>2:=fun j w h=>by
  unfold wide at h;rw[J9] at h
  cases c:gs[j]? with
  |none=>rw[c] at h;cases h
  |some g=>rw[c] at h;cases h;exact⟨g,rfl,rfl⟩
 have gz:GW ss gs (wide gs):=by
  refine⟨hgl,by unfold wide;rw[Js,hgl],hle,fun w hw k e=>?_,fun j g e=>⟨hgo j g e,2,?_⟩⟩
  ·obtain⟨g,_,rfl⟩:=JX.mp hw
   cases g with
   |none=>cases e
   |some g=>cases e;exact (by decide:2<3)
  ·unfold wide;rw[J9,e];rfl
 have hp:wV gs (wide gs):=by
  unfold wV wide;rw[KR];refine L4 fun g _=>?_
  cases g<;>rfl
 have good:goodW ss gs (wide gs)=true:=by
  refine g_ ?_;unfold fI;rw[NI];intro j _ hb;unfold cU at hb
  split at hb
  ·rename_i g k eg ek;obtain⟨g',e1,e2⟩:=at_ j _ ek;rw[eg] at e1;cases e1;cases e2;rw[rG hs hle] at hb;cases hb
  ·cases hb
 obtain⟨ws,ps,e,_⟩:=kZ (fun x hx=>(hs x hx).1) hgl hle hgo gz hp good;exact⟨ws,ps,e⟩
noncomputable def yo(P:List Int)(gs ws:List (Option Nat))(i:Nat):List Nat:=match gs.getD i none,ws.getD i none with
 |some g,some k=>ny k (P.getD g 0-P.getD (i+1) 0)
 |_,_=>[]
noncomputable def gF(P:List Int)(gs ws:List (Option Nat))(hs:List (List Nat))(n:Nat):List Nat:=(List.range n).flatMap fun j=>hs.getD j []++yo P gs ws j
theorem kE(P:List Int)(gs ws:List (Option Nat))(hs:List (List Nat))(n:Nat):gF P gs ws hs (n+1)=gF P gs ws hs n++(hs.getD n []++yo P gs ws n):=by
 unfold gF;rw[Lj,List.flatMap_append];simp
theorem n6(h:k<3)(d:Int):(ny k d).length<=18:=by
 unfold ny;rw[Jt,dM];rcases (show k=0\/k=1\/k=2 by lia) with rfl|rfl|rfl<;>decide
noncomputable def cH(hs:List (List Nat)):List Int:=hs.map fun x=>(x.length:Int)
noncomputable def qC:dW:=fun args Q=>∃(ss:List Int) (gs ws:List (Option Nat)) (ps:List Int),args=[.lst (nI ss),.lst (nO gs)]/\gs.length=ss.length/\ss.length<=60/\(∀(j g:Nat),gs[j]?=some (some g)->g<=ss.length)/\iH ss gs=some (ws,ps)/\Q (.tr (.tup (nO ws))) []
structure DV (rs:List Row) (cd:List (List (List Nat))):Prop where
 le:rs.length<=60
 ok:∀ r∈rs,r.Ok rs.length
 cd:Cd cd
theorem DV.sz{rs:List Row}{cd:List (List (List Nat))}(h:DV rs cd):∀ x∈cH (rs.map (cA cd)),0<=x/\x<=150:=fun x hx=>by
 obtain⟨y,hy,rfl⟩:=JX.mp hx;obtain⟨r,hr,rfl⟩:=JX.mp hy;have:=gU h.cd (h.ok r hr);unfold cA;rw[Jt];lia
theorem DV.go{rs:List Row}{cd:List (List (List Nat))}(h:DV rs cd):∀(j g:Nat),(rs.map d8)[j]?=some (some g)->g<=(cH (rs.map (cA cd))).length:=fun j g e=>by
 unfold cH;rw[Js,Js];rw[J9] at e
 cases c:rs[j]? with
 |none=>rw[c] at e;cases e
 |some r =>
  rw[c] at e;have hk:=h.ok r (Km c)
  cases r with
  |jump g'=>cases e;exact hk
  |zero b g'=>cases e;exact hk.2
  |_=>cases e
noncomputable def qK:dW:=fun args Q=>∃(rs:List Row) (bk:List (List Int)) (ws:List (Option Nat)) (ps:List Int),args=[.tup (rT rs),uk bk]/\Bk bk/\DV rs (fL bk)/\iH (cH (rs.map (cA (fL bk)))) (rs.map d8)=some (ws,ps)/\Q (.tr (.tup [.str (wd (gF (aK (cH (rs.map (cA (fL bk)))) ws) (rs.map d8) ws (rs.map (cA (fL bk))) rs.length)),.tup (nI (aK (cH (rs.map (cA (fL bk)))) ws).dropLast)])) []
theorem zd(T:Txt K mg)(F:HasFn K mg "pack_rows" a_ ["program","book"])(hcodes_of:ae P w K mg base bA 6 "codes_of" ["book"] (spT K [false] wj))(hbits_ahead_of_goal:ae P w K mg base bA 3 "bits_ahead_of_goal" ["row","codes"] (spT K [false,false] A6))(hgoal_of:ae P w K mg base bA 1 "goal_of" ["row"] (spT K [false] AE))(hcalm_least_widths:ae P w K mg base bA 5 "least_widths" ["sizes","goals"] (spT K [false,false] qC))
  (hrow_starts:ae P w K mg base bA 2 "row_starts" ["sizes","widths"] (spT K [false,false] fT)) (hdistance_of:ae P w K mg base bA 1 "distance_of" ["starts","goals","row"] (spT K [false,false,false] qS)) (hjump_written:ae P w K mg base bA 2 "jump_written" ["width","distance"] (spT K [false,false] Bo)):ae P w K mg base bA 7 "pack_rows" ["program","book"] (spT K [false,false] qK):=by
 refine F.fG b8 [false,false] rfl (by decide) (fun args Qt hl h f cdv A outer s H E hr=>?_)
 have hu:=bf hr;obtain⟨rs,bk,ws,ps,rfl,hB,hP,hres,q⟩:=h;refine⟨_,(Y.af (Y.xF (i:=2) b8.nd rfl (by walk_at "lc") (Y.fn K rfl hcodes_of (hr.mono (by decide)) rfl ay (Y.cons (Y.vS 1) Y.nil)))
   (Y.af (Y.jg (j:=3) b8.nd rfl (by walk_at "lc") (osc:=aa a_) (ON:=["program","book","codes","firsts","sizes","goals","widths","starts","bits","row","first"]) (own:=["row"]) (N:=["row","program","book","codes","firsts","sizes","goals","widths","starts","bits",".row","first"]) ⟨rfl,by decide +kernel,rfl,by decide +kernel,by decide +kernel,by decide +kernel,by decide +kernel,by decide +kernel⟩ rfl rfl rfl rfl (Y.anyS K rfl (Y.vS 0)) (fun _ _ _ _=>(Z.aI (i:=0) (show List.Nodup (["row","program","book","codes","firsts","sizes","goals","widths","starts","bits",".row","first"]:List Str) by decide +kernel) rfl (by walk_at "lc"))) (fun _ _ _ _=>Y.oz) (fun _ _ _ _=>(Y.fn K rfl hbits_ahead_of_goal (hr.mono (by decide)) rfl ay (Y.cons (Y.vS 0) (Y.cons (Y.vS 3) Y.nil)))))
   (Y.af (Y.jg (j:=4) b8.nd rfl (by walk_at "lc") (osc:=aa a_) (ON:=["program","book","codes","firsts","sizes","goals","widths","starts","bits","row","first"]) (own:=["first"]) (N:=["first","program","book","codes","firsts","sizes","goals","widths","starts","bits","row",".first"]) ⟨rfl,by decide +kernel,rfl,by decide +kernel,by decide +kernel,by decide +kernel,by decide +kernel,by decide +kernel⟩ rfl rfl rfl rfl (Y.anyS K rfl (Y.vS 3)) (fun _ _ _ _=>(Z.aI (i:=0) (show List.Nodup (["first","program","book","codes","firsts","sizes","goals","widths","starts","bits","row",".first"]:List Str) by decide +kernel) rfl (by walk_at "lc"))) (fun _ _ _ _=>Y.oz) (fun _ _ _ _=>(Y.cb (Y.bj K rfl) Y.cz rfl T.dX (by decide +kernel) (Y.cons (Y.vS 0) Y.nil))))
   (Y.af (Y.jg (j:=5) b8.nd rfl (by walk_at "lc") (osc:=aa a_) (ON:=["program","book","codes","firsts","sizes","goals","widths","starts","bits","row","first"]) (own:=["row"]) (N:=["row","program","book","codes","firsts","sizes","goals","widths","starts","bits",".row","first"]) ⟨rfl,by decide +kernel,rfl,by decide +kernel,by decide +kernel,by decide +kernel,by decide +kernel,by decide +kernel⟩ rfl rfl rfl rfl (Y.anyS K rfl (Y.vS 0)) (fun _ _ _ _=>(Z.aI (i:=0) (show List.Nodup (["row","program","book","codes","firsts","sizes","goals","widths","starts","bits",".row","first"]:List Str) by decide +kernel) rfl (by walk_at "lc"))) (fun _ _ _ _=>Y.oz) (fun _ _ _ _=>(Y.fn K rfl hgoal_of (hr.mono (by decide)) rfl ay (Y.cons (Y.vS 0) Y.nil))))
   (Y.af (Y.set (i:=6) b8.nd rfl (by walk_at "lc") (Y.fn K rfl hcalm_least_widths (hr.mono (by decide)) rfl ay (Y.cons (Y.vS 4) (Y.cons (Y.vS 5) Y.nil))))
   (Y.af (Y.xF (i:=7) b8.nd rfl (by walk_at "lc") (Y.fn K rfl hrow_starts (hr.mono (by decide)) rfl ay (Y.cons (Y.vS 4) (Y.cons (Y.vS 6) Y.nil))))
   (Y.af (Y.set (i:=8) b8.nd rfl (by walk_at "lc") (Y.lst Y.nil))
   (Y.af (Y.eB JR rfl (Y.Bm K rfl rfl T.fJ (Y.cons (Y.vS 3) Y.nil)) (Y.iG (n:=2) K rfl rfl (Y.cc (Y.aI (i:=9) b8.nd rfl (by walk_at "lc")) (Y.cc (Y.aI (i:=10) b8.nd rfl (by walk_at "lc")) Y.fq))) (Y.af (Y.expr (Y.bm K rfl PySem.F.slot_list_append PySem.F.type_list_append cE Y.cS (Y.vS 8) (Y.cons (Y.vS 10) Y.nil)))
   (Y.aD (Y.gm (Y.cg fX Y.fP (Y.ix (Y.aO K rfl) Y.ai (Y.vS 5) (Y.vS 9)) Y.aJ) (Y.aD (Y.expr (Y.bm K rfl PySem.F.slot_list_append PySem.F.type_list_append cE Y.cS (Y.vS 8) (Y.cons (Y.fn K rfl hjump_written (hr.mono (by decide)) rfl ay (Y.cons (Y.ix (Y.aO K rfl) Y.ai (Y.vS 6) (Y.vS 9)) (Y.cons (Y.fn K rfl hdistance_of (hr.mono (by decide)) rfl ay (Y.cons (Y.vS 7) (Y.cons (Y.vS 5) (Y.cons (Y.vS 9) Y.nil)))) Y.nil))) Y.nil)))) Y.c_))))
   (Y.aD (Y.ret (Y.tup (Y.cons (Y.sm K rfl PySem.F.slot_str_join PySem.F.type_str_join (Y.n4 K rfl) Y.rY Y.str (Y.cons (Y.vS 8) Y.nil)) (Y.cons (Y.ct (Y.cZ K rfl) Y.d7 rfl T.d5 (by decide +kernel) (Y.cons (Y.gv K rfl (Y.vS 7) Y.yL (Y.zu (Y.neg Y.int))) Y.nil)) Y.nil))))))))))))),?_⟩
 refine av fun N hN=>?_;walk_at "rt";refine⟨bk,rfl,hB,?_⟩;walk_at "rt";refine hN _ ?_;clear hN N;have hcd:=hB.cd;generalize fL bk=cd at *;obtain⟨ct,ect⟩:∃ ct,ct=L2.T.lst (cd.map fun ws=>L2.T.tup (wT ws)):=⟨_,rfl⟩;rw[<- ect];refine av fun N hN=>?_;walk_at "rt";refine bU (fun rest acc μ=>∃(done todo:List Row),done++todo=rs/\rest=rT todo/\acc=wT (done.map (cA cd))/\μ=[.tr (.tup (rT rs)),.tr (uk bk),.tr ct,.un,.un,.un,.un,.un,.un,.un,.un]) ⟨[],rs,rfl,rfl,rfl,rfl⟩ ?_ ?_
 case refine_2 =>
  rintro t r acc μ M ⟨done,todo,e1,e2,rfl,rfl⟩ k
  cases todo with
  |nil=>cases e2
  |cons x todo =>
   obtain⟨rfl,rfl⟩:=List.cons.inj e2;have hd:done.length<=60:=by
    have:=JS List.length e1;have:=hP.le;rw[Jt] at *;lia
   refine⟨trivial,by rw[fC,Js];exact JJ hd (by decide),?_⟩
   walk_at "rt";refine⟨x,rs.length,cd,by rw[ect],hP.ok x (by rw[<- e1];simp),hcd,?_⟩
   walk_at "rt";refine k _ _ ⟨done++[x],todo,by rw[<- e1];simp,rfl,?_,rfl⟩
   rw[JH];unfold wT;rw[JH];rfl
 rintro acc μ ⟨done,todo,e1,e2,rfl,rfl⟩;have e3:todo=[]:=K0.mp e2.symm;subst e3;rw[JK] at e1;subst e1;refine⟨trivial,?_⟩;walk_at "rt";refine hN _ ?_;clear hN N;have hsz:=hP.sz;have hgo:=hP.go;have h60:=hP.le;have hhl:(done.map (cA cd)).length=done.length:=Js ..;have hgl:(done.map d8).length=done.length:=Js ..;generalize ehs:done.map (cA cd)=hs at *;obtain⟨gs,egs⟩:∃ gs,gs=done.map d8:=⟨_,rfl⟩;rw[<- egs] at hgo hgl hres q;have hsl:(cH hs).length=done.length:=by unfold cH;rw[Js,hhl]
 refine av fun N hN=>?_;walk_at "rt";refine bU (fun rest acc μ=>∃(d t:List (List Nat)),d++t=hs/\rest=wT t/\acc=nI (cH d)/\μ=[.tr (.tup (rT done)),.tr (uk bk),.tr ct,.tr (.lst (wT hs)),.un,.un,.un,.un,.un,.un,.un]) ⟨[],hs,rfl,rfl,rfl,rfl⟩ ?_ ?_
 case refine_2 =>
  rintro t r acc μ M ⟨d,td,e1,e2,rfl,rfl⟩ k
  cases td with
  |nil=>cases e2
  |cons x td =>
   obtain⟨rfl,rfl⟩:=List.cons.inj e2;have hd:d.length<=60:=by
    have:=JS List.length e1;rw[Jt] at this;lia
   have hx:x.length<=150:=by
    have:=hsz (x.length:Int) (JX.mpr ⟨x,by rw[<- e1];simp,rfl⟩)
    lia
   refine⟨trivial,by rw[cq];unfold cH;rw[Js];exact JJ hd (by decide),?_⟩
   wp_walk using aT;refine⟨JD (show _<=150 by lia) (by decide),k _ _ ⟨d++[x],td,by rw[<- e1];simp,rfl,?_,rfl⟩⟩
   unfold cH;rw[JH,ie];rfl
 rintro acc μ ⟨d,td,e1,e2,rfl,rfl⟩;have e3:td=[]:=K0.mp e2.symm;subst e3;rw[JK] at e1;subst e1;refine⟨trivial,?_⟩;walk_at "rt";refine hN _ ?_;clear hN N;refine av fun N hN=>?_;walk_at "rt";refine bU (fun rest acc μ=>∃(x y:List Row),x++y=done/\rest=rT y/\acc=nO (x.map d8)/\μ=[.tr (.tup (rT done)),.tr (uk bk),.tr ct,.tr (.lst (wT d)),.tr (.lst (nI (cH d))),.un,.un,.un,.un,.un,.un]) ⟨[],done,rfl,rfl,rfl,rfl⟩ ?_ ?_
 case refine_2 =>
  rintro t r acc μ M ⟨x,y,e1,e2,rfl,rfl⟩ k
  cases y with
  |nil=>cases e2
  |cons z y =>
   obtain⟨rfl,rfl⟩:=List.cons.inj e2;have hd:x.length<=60:=by
    have:=JS List.length e1;rw[Jt] at this;lia
   refine⟨trivial,by rw[fu,Js];exact JJ hd (by decide),?_⟩
   walk_at "rt";refine⟨z,rfl,?_⟩;walk_at "rt";refine k _ _ ⟨x++[z],y,by rw[<- e1];simp,rfl,?_,rfl⟩
   rw[JH];unfold nO;rw[JH];rfl
 rintro acc μ ⟨x,y,e1,e2,rfl,rfl⟩;have e3:y=[]:=K0.mp e2.symm;subst e3;rw[JK] at e1;subst e1;refine⟨trivial,?_⟩;rw[<- egs];walk_at "rt";refine hN _ ?_;clear hN N;refine av fun N hN=>?_;walk_at "rt";obtain⟨gw,hpat,good⟩:=pK (hgl.trans hsl.symm) (by rw[hsl];exact h60) hgo hres
 refine⟨cH d,gs,ws,ps,rfl,hgl.trans hsl.symm,by rw[hsl];exact h60,hgo,hres,?_⟩
 walk_at "rt";refine hN _ ?_;clear hN N;refine av fun N hN=>?_;walk_at "rt";refine⟨cH d,ws,_,_,rfl,.inr rfl,.inl rfl,gw.lw.symm,gw.le,gw.w3,?_⟩;walk_at "rt";refine hN _ ?_;clear hN N;obtain⟨Pl,ePl⟩:∃ Pl,Pl=aK (cH d) ws:=⟨_,rfl⟩;have hPl:Pl.length=x.length+1:=by rw[ePl,fE gw.lw.symm,hsl]
 rw[<- ePl] at q ⊢;refine av fun N hN=>?_;walk_at "rt";refine hN _ ?_;clear hN N;refine av fun N hN=>?_;walk_at "rt";have hdl:d.length=x.length:=hhl;have hdx:∀ i,i<x.length->(d.getD i []).length<=150:=fun i hi=>by
  have h1:i<d.length:=by lia
  have:=hsz ((d.getD i []).length:Int) (JX.mpr ⟨d.getD i [],by rw[JI,Jq h1];exact JY h1,rfl⟩)
  lia
 refine bD (fun rest μ=>∃(i:Nat) (xs:List (List Nat)) (o9 o10:Option L2.T),rest=(pairs (wT d)).drop i/\i<=x.length/\xs.flatten=gF Pl gs ws d i/\xs.length<=2*i/\xs.flatten.length<=200*i/\μ=[.tr (.tup (rT x)),.tr (uk bk),.tr ct,.tr (.lst (wT d)),.tr (.lst (nI (cH d))),.tr (.lst (nO gs)),.tr (.tup (nO ws)),.tr (.lst (nI Pl)),.bx (.lst (wT xs)),sl o9,sl o10]) ⟨0,[],none,none,rfl,Kh _,rfl,J6 _,J6 _,rfl⟩ ?_ ?_
 ·rintro μ ⟨i,xs,o9,o10,e,hi,hfl,hxl,hxf,rfl⟩;have hi2:i=x.length:=by
   rcases Ks i x.length with z|z
   ·rw[dz (x:=L2.T.str (wd d[i])) (by unfold wT;rw[J9,Jq (by lia)];rfl)] at e
    cases e
   ·lia
  subst hi2;show N _;refine hN _ ?_;clear hN N;walk_at "rt";have ecut:Y.cI (nI Pl) none (some (-1))=nI Pl.dropLast:=by
   rw[rm];unfold Y.cI;rw[HT.eM,LJ,M1,Mr];congr 2;show (if (-1:Int)<0 then ((-1:Int)+(Pl.length:Int)).toNat else min (-1:Int).toNat Pl.length)=_
   rw[Jy (by decide)]
   lia
  refine⟨xs.map wd,by unfold wT;rw[KR];rfl,?_,by decide,?_⟩
  ·have e:(xs.map wd).map (fun x=>x.length)=xs.map List.length:=by
    rw[KR];exact L4 fun x _=>aT x
   rw[e,<- List.length_flatten,fO,aT];simp only[Ke,Oh];lia
  rw[lQ,ecut,hfl];exact q
 ·rintro t ts μ M ⟨i,xs,o9,o10,e,hi,hfl,hxl,hxf,rfl⟩ k;have hi2:i<x.length:=by
   rcases Ks i x.length with z|z
   ·exact z
   ·have:i=(wT d).length:=by rw[fC,hdl];lia
    rw[this,ic] at e;cases e
  have hid:i<d.length:=by lia
  have ed:d.getD i []=d[i]:=by rw[JI,Jq hid];rfl
  rw[dz (x:=L2.T.str (wd (d.getD i []))) (by unfold wT;rw[J9,Jq hid,ed];rfl)] at e
  obtain⟨rfl,rfl⟩:=List.cons.inj e;clear e ed;have hx0:=hdx i hi2;generalize hy:d.getD i []=y0 at *;have eg:gs[i]?=some (gs.getD i none):=by rw[JI,Jq (by lia)];rfl
  have sz:∀ n:Nat,n<=200->n<sizeLine:=fun n h=>JJ h (by decide)
  have wa:∀(xs:List (List Nat)) (z:List Nat),wT xs++[L2.T.str (wd z)]=wT (xs++[z]):=fun xs z=>by unfold wT;rw[JH];rfl
  have ag:=hU eg;walk_at "rt";refine av fun M2 h2=>?_;walk_at "rt";rw[wa,fC];refine⟨sz _ (by lia),?_⟩
  refine h2 _ ?_;clear h2 M2;have hls:=kE Pl gs ws d i;rw[hy] at hls;unfold yo at hls;generalize gs.getD i none=go at *
  cases go with
  |none =>
   wp_walk using ag,oI;refine k _ ⟨i+1,xs++[y0],some _,some _,rfl,hi2,?_,?_,?_,rfl⟩
   ·rw[hls,L6,hfl];simp
   ·rw[Jt,J_];lia
   ·rw[L6,Jt,K1,Nl,JK];lia
  |some g =>
   obtain⟨hg,kk,ek⟩:=gw.go i g eg;have k3:=gw.w3.at ek;have aw:=hU ek;have ewd:ws.getD i none=some kk:=by rw[JI,ek];rfl
   rw[ewd] at hls;have hj:=n6 k3 (Pl.getD g 0-Pl.getD (i+1) 0);rw[hsl] at hg;wp_walk using ag,aw,oI;refine⟨Pl,gs,_,i,g,Pl.getD g 0,Pl.getD (i+1) 0,rfl,.inr rfl,eg,eu (by lia),eu (by lia),?_⟩
   walk_at "rt";refine⟨kk,_,rfl,k3,?_⟩;walk_at "rt";rw[wa,fC,Jt];refine⟨sz _ (by simp;lia),?_⟩
   refine k _ ⟨i+1,xs++[y0]++[_],some _,some _,rfl,hi2,?_,?_,?_,rfl⟩
   ·rw[hls,L6,L6,hfl];simp
   ·rw[Jt,Jt,J_,J_];lia
   ·simp only[L6,Jt,K1,Nl,JK];lia
theorem yW(T:Txt K mg)(F:HasFn K mg "_law_laid" aS ["program","book"])(h_law_code:ae P w K mg base bA 2 "_law_code" ["lengths"] (spT K [false] xr))(h_law_head:ae P w K mg base bA 2 "_law_head" ["row","codes"] (spT K [false,false] u7))(h_law_goals:ae P w K mg base bA 1 "_law_goals" ["program"] (spT K [false] rM))(h_law_strained:ae P w K mg base bA 2 "_law_strained" ["sizes","goals","widths"] (spT K [false,false,false] kO))
  (h_law_places:ae P w K mg base bA 1 "_law_places" ["sizes","widths"] (spT K [false,false] fT)) (h_law_bits:ae P w K mg base bA 1 "_law_bits" ["number","width"] (spT K [false,false] oB)):ae P w K mg base bA 3 "_law_laid" ["program","book"] (spT K [false,false] qK):=by
 refine F.fG aE [false,false] rfl (by decide) (fun args Qt hl h f cdv A outer s H E hr=>?_)
 have hu:=bf hr;obtain⟨rs,bk,ws0,ps0,rfl,hB,hP,hres,q⟩:=h;refine⟨_,(Y.af (Y.asg (Y.i5 (osc:=aa aS) (ON:=["program","book","codes","heads","sizes","goals","widths","rows","row","places","bits","k","far","width"]) (own:=["lengths"]) (N:=["lengths","program","book","codes","heads","sizes","goals","widths","rows","row","places","bits","k","far","width"]) ⟨rfl,by decide +kernel,rfl,by decide +kernel,by decide +kernel,by decide +kernel,by decide +kernel,by decide +kernel⟩ rfl rfl rfl rfl (Y.anyS K rfl (Y.vS 1)) (fun _ _ _ _=>(Z.aI (i:=0) (show List.Nodup (["lengths","program","book","codes","heads","sizes","goals","widths","rows","row","places","bits","k","far","width"]:List Str) by decide +kernel) rfl (by walk_at "lc"))) (fun _ _ _ _=>Y.oz) (fun _ _ _ _=>(Y.fn K rfl h_law_code (hr.mono (by decide)) rfl ay (Y.cons (Y.vS 0) Y.nil)))) (Y.BC (i:=2) aE.nd rfl (by walk_at "lc")))
   (Y.af (Y.jg (j:=3) aE.nd rfl (by walk_at "lc") (osc:=aa aS) (ON:=["program","book","codes","heads","sizes","goals","widths","rows","row","places","bits","k","far","width"]) (own:=["row"]) (N:=["row","program","book","codes","heads","sizes","goals","widths","rows",".row","places","bits","k","far","width"]) ⟨rfl,by decide +kernel,rfl,by decide +kernel,by decide +kernel,by decide +kernel,by decide +kernel,by decide +kernel⟩ rfl rfl rfl rfl (Y.anyS K rfl (Y.vS 0)) (fun _ _ _ _=>(Z.aI (i:=0) (show List.Nodup (["row","program","book","codes","heads","sizes","goals","widths","rows",".row","places","bits","k","far","width"]:List Str) by decide +kernel) rfl (by walk_at "lc"))) (fun _ _ _ _=>Y.oz) (fun _ _ _ _=>(Y.fn K rfl h_law_head (hr.mono (by decide)) rfl ay (Y.cons (Y.vS 0) (Y.cons (Y.vS 3) Y.nil)))))
   (Y.af (Y.jg (j:=4) aE.nd rfl (by walk_at "lc") (osc:=aa aS) (ON:=["program","book","codes","heads","sizes","goals","widths","rows","row","places","bits","k","far","width"]) (own:=["head"]) (N:=["head","program","book","codes","heads","sizes","goals","widths","rows","row","places","bits","k","far","width"]) ⟨rfl,by decide +kernel,rfl,by decide +kernel,by decide +kernel,by decide +kernel,by decide +kernel,by decide +kernel⟩ rfl rfl rfl rfl (Y.anyS K rfl (Y.vS 3)) (fun _ _ _ _=>(Z.aI (i:=0) (show List.Nodup (["head","program","book","codes","heads","sizes","goals","widths","rows","row","places","bits","k","far","width"]:List Str) by decide +kernel) rfl (by walk_at "lc"))) (fun _ _ _ _=>Y.oz) (fun _ _ _ _=>(Y.cb (Y.bj K rfl) Y.cz rfl T.dX (by decide +kernel) (Y.cons (Y.vS 0) Y.nil))))
   (Y.af (Y.set (i:=5) aE.nd rfl (by walk_at "lc") (Y.fn K rfl h_law_goals (hr.mono (by decide)) rfl ay (Y.cons (Y.vS 0) Y.nil)))
   (Y.af (Y.xl (j:=6) aE.nd rfl (by walk_at "lc") (osc:=aa aS) (ON:=["program","book","codes","heads","sizes","goals","widths","rows","row","places","bits","k","far","width"]) (own:=["goal"]) (N:=["goal","program","book","codes","heads","sizes","goals","widths","rows","row","places","bits","k","far","width"]) ⟨rfl,by decide +kernel,rfl,by decide +kernel,by decide +kernel,by decide +kernel,by decide +kernel,by decide +kernel⟩ rfl rfl rfl rfl (Y.anyS K rfl (Y.vS 5)) (fun _ _ _ _=>(Z.aI (i:=0) (show List.Nodup (["goal","program","book","codes","heads","sizes","goals","widths","rows","row","places","bits","k","far","width"]:List Str) by decide +kernel) rfl (by walk_at "lc"))) (fun _ _ _ _=>Y.oz) (fun _ _ _ _=>(Y.AL (Y.cg lY Y.lW (Y.vS 0) Y.aJ) Y.aJ Y.int)))
   (Y.af (Y.xF (i:=7) aE.nd rfl (by walk_at "lc") (Y.fn K rfl h_law_strained (hr.mono (by decide)) rfl ay (Y.cons (Y.vS 4) (Y.cons (Y.vS 5) (Y.cons (Y.vS 6) Y.nil)))))
   (Y.af (Y.gC JR (Y.cg (Y.wO K rfl (JW hu)) Y.DC (Y.vS 7) (Y.lst Y.nil)) (Y.af (Y.eB JR rfl (Y.anyS K rfl (Y.vS 7)) (Y.aI (i:=8) aE.nd rfl (by walk_at "lc")) (Y.aD (Y.asg (Y.op (Y.aC K rfl) Y.aB (Y.ix (Y.aO K rfl) Y.ai (Y.vS 6) (Y.vS 8)) Y.int) (Y.ot (Y.vS 6) (Y.vS 8)))))
   (Y.aD (Y.xF (i:=7) aE.nd rfl (by walk_at "lc") (Y.fn K rfl h_law_strained (hr.mono (by decide)) rfl ay (Y.cons (Y.vS 4) (Y.cons (Y.vS 5) (Y.cons (Y.vS 6) Y.nil))))))))
   (Y.af (Y.xF (i:=9) aE.nd rfl (by walk_at "lc") (Y.fn K rfl h_law_places (hr.mono (by decide)) rfl ay (Y.cons (Y.vS 4) (Y.cons (Y.vS 6) Y.nil))))
   (Y.af (Y.set (i:=10) aE.nd rfl (by walk_at "lc") Y.str)
   (Y.af (Y.eB JR rfl (Y.jY rfl T.dI (Y.cons (Y.cb (Y.bj K rfl) Y.cz rfl T.dX (by decide +kernel) (Y.cons (Y.vS 0) Y.nil)) Y.nil)) (Y.aI (i:=11) aE.nd rfl (by walk_at "lc")) (Y.af (Y.set (i:=10) aE.nd rfl (by walk_at "lc") (Y.op (Y.aC K rfl) Y.aB (Y.vS 10) (Y.ix (Y.aO K rfl) Y.ai (Y.vS 3) (Y.vS 11))))
   (Y.aD (Y.gm (Y.cg fX Y.fP (Y.ix (Y.aO K rfl) Y.ai (Y.vS 5) (Y.vS 11)) Y.aJ) (Y.af (Y.set (i:=12) aE.nd rfl (by walk_at "lc") (Y.op dD Y.cX (Y.ix (Y.aO K rfl) Y.ai (Y.vS 9) (Y.ix (Y.aO K rfl) Y.ai (Y.vS 5) (Y.vS 11))) (Y.ix (Y.aO K rfl) Y.ai (Y.vS 9) (Y.op (Y.aC K rfl) Y.aB (Y.vS 11) Y.int))))
   (Y.af (Y.set (i:=13) aE.nd rfl (by walk_at "lc") (Y.ix (Y.aO K rfl) Y.ai (Y.vS 6) (Y.vS 11)))
   (Y.af (Y.set (i:=10) aE.nd rfl (by walk_at "lc") (Y.op (Y.aC K rfl) Y.aB (Y.vS 10) (Y.ix (Y.aO K rfl) Y.ai (Y.lst (Y.e7 rfl rfl)) (Y.vS 13))))
   (Y.aD (Y.set (i:=10) aE.nd rfl (by walk_at "lc") (Y.op (Y.aC K rfl) Y.aB (Y.vS 10) (Y.fn K rfl h_law_bits (hr.mono (by decide)) rfl ay (Y.cons (Y.vS 12) (Y.cons (Y.ix (Y.aO K rfl) Y.ai (Y.lst (Y.e7 rfl rfl)) (Y.vS 13)) Y.nil))))))))) Y.c_))))
   (Y.aD (Y.ret (Y.tup (Y.cons (Y.vS 10) (Y.cons (Y.ct (Y.cZ K rfl) Y.d7 rfl T.d5 (by decide +kernel) (Y.cons (Y.gv K rfl (Y.vS 9) Y.yL (Y.zu (Y.neg Y.int))) Y.nil)) Y.nil))))))))))))))),?_⟩
 have hB':=hB;obtain⟨ba,bb,bc,ebk,_,_,_,hbl⟩:=hB';refine av fun N hN=>?_;show Y.j_ _ _ _ [.tr (.tup (rT rs)),.tr (.tup (bk.map fun l=>.tup (nI l))),.un,.un,.un,.un,.un,.un,.un,.un,.un,.un,.un,.un];walk_at "rt";refine bU (fun rest acc μ=>∃(x y:List (List Int)),x++y=bk/\(rest=y.map fun l=>L2.T.tup (nI l))/\(acc=(fL x).map fun ws=>L2.T.lst (wT ws))/\μ=[.tr (.tup (rT rs)),.tr (.tup (bk.map fun l=>.tup (nI l))),.un,.un,.un,.un,.un,.un,.un,.un,.un,.un,.un,.un]) ⟨[],bk,rfl,rfl,rfl,rfl⟩ ?_ ?_
 case refine_2 =>
  rintro t r acc μ M ⟨x,y,e1,e2,rfl,rfl⟩ k
  cases y with
  |nil=>cases e2
  |cons z y =>
   obtain⟨rfl,rfl⟩:=List.cons.inj e2;have hz:=hbl z (by rw[<- e1];simp)
   have hd:x.length<=3:=by
    have:=JS List.length e1;rw[Jt,ebk] at this;simp at this;lia
   refine⟨trivial,by unfold fL;rw[Js,Js];exact JJ hd (by decide),?_⟩
   walk_at "rt";refine⟨z,rfl,hz.1,hz.2,?_⟩;walk_at "rt";refine k _ _ ⟨x++[z],y,by rw[<- e1];simp,rfl,?_,rfl⟩
   unfold fL;rw[JH,JH];rfl
 rintro acc μ ⟨x,y,e1,e2,rfl,rfl⟩;have e3:y=[]:=K0.mp e2.symm;subst e3;rw[JK] at e1;subst e1;refine⟨trivial,?_⟩;walk_at "rt";refine hN _ ?_;clear hN N;have hcd:=hB.cd;obtain⟨bt,ebt⟩:∃ bt,bt=L2.T.tup (x.map fun l=>.tup (nI l)):=⟨_,rfl⟩;rw[<- ebt];clear hbl ebk;generalize fL x=cd at *;obtain⟨ct,ect⟩:∃ ct,ct=L2.T.lst (cd.map fun ws=>L2.T.lst (wT ws)):=⟨_,rfl⟩;rw[<- ect];refine av fun N hN=>?_;walk_at "rt";refine bU (fun rest acc μ=>∃(done todo:List Row),done++todo=rs/\rest=rT todo/\acc=wT (done.map (cA cd))/\μ=[.tr (.tup (rT rs)),.tr bt,.tr ct,.un,.un,.un,.un,.un,.un,.un,.un,.un,.un,.un]) ⟨[],rs,rfl,rfl,rfl,rfl⟩ ?_ ?_
 case refine_2 =>
  rintro t r acc μ M ⟨done,todo,e1,e2,rfl,rfl⟩ k
  cases todo with
  |nil=>cases e2
  |cons x todo =>
   obtain⟨rfl,rfl⟩:=List.cons.inj e2;have hd:done.length<=60:=by
    have:=JS List.length e1;have:=hP.le;rw[Jt] at *;lia
   refine⟨trivial,by rw[fC,Js];exact JJ hd (by decide),?_⟩
   walk_at "rt";refine⟨x,rs.length,cd,by rw[ect],hP.ok x (by rw[<- e1];simp),hcd,?_⟩
   walk_at "rt";refine k _ _ ⟨done++[x],todo,by rw[<- e1];simp,rfl,?_,rfl⟩
   rw[JH];unfold wT;rw[JH];rfl
 rintro acc μ ⟨done,todo,e1,e2,rfl,rfl⟩;have e3:todo=[]:=K0.mp e2.symm;subst e3;rw[JK] at e1;subst e1;refine⟨trivial,?_⟩;walk_at "rt";refine hN _ ?_;clear hN N;have hsz:=hP.sz;have hgo:=hP.go;have h60:=hP.le;have hhl:(done.map (cA cd)).length=done.length:=Js ..;have hgl:(done.map d8).length=done.length:=Js ..;generalize ehs:done.map (cA cd)=hs at *;have hsl:(cH hs).length=done.length:=by unfold cH;rw[Js,hhl]
 refine av fun N hN=>?_;walk_at "rt";refine bU (fun rest acc μ=>∃(d t:List (List Nat)),d++t=hs/\rest=wT t/\acc=nI (cH d)/\μ=[.tr (.tup (rT done)),.tr bt,.tr ct,.tr (.lst (wT hs)),.un,.un,.un,.un,.un,.un,.un,.un,.un,.un]) ⟨[],hs,rfl,rfl,rfl,rfl⟩ ?_ ?_
 case refine_2 =>
  rintro t r acc μ M ⟨d,td,e1,e2,rfl,rfl⟩ k
  cases td with
  |nil=>cases e2
  |cons x td =>
   obtain⟨rfl,rfl⟩:=List.cons.inj e2;have hd:d.length<=60:=by
    have:=JS List.length e1;rw[Jt] at this;lia
   have hx:x.length<=150:=by
    have:=hsz (x.length:Int) (JX.mpr ⟨x,by rw[<- e1];simp,rfl⟩)
    lia
   refine⟨trivial,by rw[cq];unfold cH;rw[Js];exact JJ hd (by decide),?_⟩
   wp_walk using aT;refine⟨JD (show _<=150 by lia) (by decide),k _ _ ⟨d++[x],td,by rw[<- e1];simp,rfl,?_,rfl⟩⟩
   unfold cH;rw[JH,ie];rfl
 rintro acc μ ⟨d,td,e1,e2,rfl,rfl⟩;have e3:td=[]:=K0.mp e2.symm;subst e3;rw[JK] at e1;subst e1;refine⟨trivial,?_⟩;walk_at "rt";refine hN _ ?_;clear hN N;refine av fun N hN=>?_;walk_at "rt";refine⟨done,rfl,h60,?_⟩;generalize done.map d8=gs at *;walk_at "rt";refine hN _ ?_;clear hN N;refine av fun N hN=>?_;obtain⟨ss,ess⟩:∃ ss,ss=cH d:=⟨_,rfl⟩;rw[<- ess] at hsz hgo hsl hres q ⊢;have hn:∀ x∈ss,0<=x:=fun x hx=>(hsz x hx).1;have hle:ss.length<=60:=by lia
 have gw0:=m6 (hgl.trans hsl.symm) hle hgo;walk_at "rt";refine bU (fun rest acc μ=>∃ gs1 gs2:List (Option Nat),gs=gs1++gs2/\rest=nO gs2/\acc=nO (i3 gs1)/\μ=[.tr (.tup (rT done)),.tr bt,.tr ct,.tr (.lst (wT d)),.tr (.lst (nI ss)),.tr (.tup (nO gs)),.un,.un,.un,.un,.un,.un,.un,.un]) ⟨[],gs,rfl,rfl,rfl,rfl⟩ ?_ ?_
 case refine_2 =>
  rintro t r acc μ N ⟨gs1,gs2,e,e2,rfl,rfl⟩ k
  cases gs2 with
  |nil=>cases e2
  |cons g gs2 =>
   cases e2;have hz:(nO (i3 gs1)).length<sizeLine:=by rw[fu];unfold i3;rw[Js];exact JJ (show gs1.length<=60 by rw[e] at hgl;simp at hgl;lia) (by decide)
   refine⟨trivial,hz,?_⟩;have st:∀ x,x=Option.map (fun _=>0) g->N (nO (i3 gs1)++[oI x]) [.tr (.tup (rT done)),.tr bt,.tr ct,.tr (.lst (wT d)),.tr (.lst (nI ss)),.tr (.tup (nO gs)),.un,.un,.un,.un,.un,.un,.un,.un]:=fun x hx=>k _ _ ⟨gs1++[g],gs2,by simp[e],rfl,by simp[nO,i3,hx],rfl⟩
   cases g with
   |none=>wp_walk using oI;exact st none rfl
   |some g'=>wp_walk using oI;exact st (some 0) rfl
 rintro acc μ ⟨gs1,gs2,e,e2,rfl,rfl⟩
 cases gs2 with
 |cons=>cases e2
 |nil =>
 rw[JK] at e;subst e;refine⟨trivial,?_⟩;walk_at "rt";refine hN _ ?_;clear hN N;refine av fun N hN=>?_;walk_at "rt";refine⟨ss,gs,i3 gs,rfl,gw0,?_⟩;have flc:∀ xs:List Nat,fc (R.fr (.lst (bN xs)))=true:=fun xs=>lE xs;wp_walk using flc;refine⟨.inr rfl,?_⟩;refine hN _ ?_;clear hN N;refine av fun N hN=>?_;refine⟨fun m μ=>∃(ws:List (Option Nat)) (s8:Option L2.T),GW ss gs ws/\wV gs ws/\Below ss gs ws/\m=left ws/\μ=[.tr (.tup (rT done)),.tr bt,.tr ct,.tr (.lst (wT d)),.tr (.lst (nI ss)),.tr (.tup (nO gs)),.bx (.lst (nO ws)),.tr (.lst (bN (fI ss gs ws ss.length))),sl s8,.un,.un,.un,.un,.un],
  ⟨_,i3 gs,none,gw0,rH gs,fun zs _ hp _=>xB hp,rfl,rfl⟩,?_⟩
 rintro m μ ⟨ws,s8,gw,hp,hb,rfl,rfl⟩
 cases hbs:fI ss gs ws ss.length with
 |cons b bs =>
  have nd:(b::bs).Nodup:=by rw[<- hbs];exact List.nodup_range.filter _
  have mem:∀ j∈b::bs,j∈fI ss gs ws ss.length:=fun j hj=>by rw[hbs];exact hj
  walk_at "rt";refine⟨lE _,rfl,?_⟩;rw[Jy (by rfl)]
  refine av fun M hM=>?_;walk_at "rt";refine bD (fun rest μ=>∃(l r:List Nat) (w1:List (Option Nat)) (s8:Option L2.T),b::bs=l++r/\rest=bN r/\GW ss gs w1/\wV gs w1/\Below ss gs w1/\(∀ j∈r,w1[j]?=ws[j]?)/\left w1+l.length=left ws/\μ=[.tr (.tup (rT done)),.tr bt,.tr ct,.tr (.lst (wT d)),.tr (.lst (nI ss)),.tr (.tup (nO gs)),.bx (.lst (nO w1)),.tr (.lst (bN (b::bs))),sl s8,.un,.un,.un,.un,.un])
   ⟨[],b::bs,ws,s8,rfl,rfl,gw,hp,hb,fun _ _=>rfl,rfl,rfl⟩ ?_ ?_
  ·rintro μ ⟨l,r,w1,s8,e,e2,g1,p1,b1,_,hl1,rfl⟩
   cases r with
   |cons=>cases e2
   |nil =>
    rw[JK] at e;show M _;refine hM _ ?_;clear hM M;walk_at "rt";refine⟨ss,gs,w1,rfl,g1,?_⟩;wp_walk using flc;refine⟨.inr rfl,left w1,?_,w1,s8,g1,p1,b1,rfl,rfl⟩;rw[<- e] at hl1;simp at hl1;lia
  ·rintro t ts μ M2 ⟨l,r,w1,s8,e,e2,g1,p1,b1,sm,hl1,rfl⟩ k
   cases r with
   |nil=>cases e2
   |cons j r =>
    cases e2;obtain⟨hj,g,kk,eg,ek,k3,hf⟩:=vc gw (mem j (by rw[e];simp))
    have ek1:w1[j]?=some (some kk):=by rw[sm j (by simp),ek]
    have ak:bR (nO w1) (Int.ofNat j)=some (oI (some kk)):=hU ek1;have h2:kk<2:=by
     rcases (show kk<2\/kk=2 by lia) with z|z
     ·exact z
     ·rw[z,rG hsz hle] at hf;cases hf
    have xk:hZ (nO w1).length (Int.ofNat j)=some j:=by
     have hj:=(Jz.mp ek1).1;unfold hZ;rw[fu,Jy (by simp),Jy (by simp;lia)];simp
    wp_walk using ak,oI,xk,ya;have hlt:=gZ ek1 h2;rw[e] at nd;have nd2:=(List.nodup_append.mp nd).2.1;refine k _ ⟨l++[j],r,w1.set j (some (kk+1)),some (.int (Int.ofNat j)),by rw[e];simp,rfl,g1.set h2 ek1,?_,uf hn gw hb b1 hj eg ek ek1 hf,fun i hi=>?_,?_,rfl⟩
    ·exact (rJ ek1).trans p1
    ·have:j≠i:=fun z=>(Ki.mp nd2).1 (by rw[z];exact hi)
     rw[Kg this];exact sm i (J8 _ hi)
    ·rw[Jt,J_];lia
 |nil =>
  obtain⟨ps,hres'⟩:=D3 hn gw hp hb (g_ hbs);rw[hres'] at hres;cases hres;walk_at "rt";refine⟨rfl,rfl,?_⟩;rw[Ju (by decide)]
  refine hN _ ?_;clear hN N;refine av fun N hN=>?_;walk_at "rt";have fli:∀ xs:List Int,fc (R.fr (.lst (nI xs)))=true:=fun xs=>by
   show (nI xs).all aR=true;rw[Kx];intro x hx;obtain⟨y,_,rfl⟩:=JX.mp hx;rfl
  refine⟨ss,ws0,_,_,rfl,.inr rfl,.inr rfl,gw.lw.symm,gw.le,gw.w3,?_⟩;obtain⟨Pl,ePl⟩:∃ Pl,Pl=aK ss ws0:=⟨_,rfl⟩;have hPl:Pl.length=done.length+1:=by rw[ePl,fE gw.lw.symm,hsl]
  rw[<- ePl] at q ⊢;refine⟨.inr ⟨fli _,rfl⟩,?_⟩;walk_at "rt";refine hN _ ?_;clear hN N;refine av fun N hN=>?_;walk_at "rt";refine hN _ ?_;clear hN N;have hdx:∀ i,i<done.length->(d.getD i []).length<=150:=fun i hi=>by
   have h1:i<d.length:=by lia
   have:=hsz ((d.getD i []).length:Int) (by rw[ess];exact JX.mpr ⟨d.getD i [],by rw[JI,Jq h1];exact JY h1,rfl⟩)
   lia
  refine av fun N hN=>?_;wp_walk using xT;refine⟨by lia,by lia,?_⟩
  rw[JV,Lu,fO];refine bD (fun rest μ=>∃(i:Nat) (o11 o12 o13:Option L2.T),(rest=(List.range' i (done.length-i)).map fun k:Nat=>L2.T.int (0+(k:Int)))/\i<=done.length/\(gF Pl gs ws0 d i).length<=200*i/\μ=[.tr (.tup (rT done)),.tr bt,.tr ct,.tr (.lst (wT d)),.tr (.lst (nI ss)),.tr (.tup (nO gs)),.bx (.lst (nO ws0)),.tr (.lst (bN [])),sl s8,.tr (.lst (nI Pl)),.tr (.str (wd (gF Pl gs ws0 d i))),sl o11,sl o12,sl o13]) ⟨0,none,none,none,rfl,Kh _,J6 _,rfl⟩ ?_ ?_
  ·rintro μ ⟨i,o11,o12,o13,e,hi,hb,rfl⟩;have hi2:i=done.length:=by
    have:=JS List.length e;rw[Js,KN,Ke] at this;lia
   subst hi2;have ecut:Y.cI (nI Pl) none (some (-1))=nI Pl.dropLast:=by
    rw[rm];unfold Y.cI;rw[HT.eM,LJ,M1,Mr];congr 2;show (if (-1:Int)<0 then ((-1:Int)+(Pl.length:Int)).toNat else min (-1:Int).toNat Pl.length)=_
    rw[Jy (by decide)]
    lia
   show N _;refine hN _ ?_;clear hN N;wp_walk using ecut;exact⟨by decide,q⟩
  ·rintro t ts μ M ⟨i,o11,o12,o13,e,hi,hbl,rfl⟩ k;have hi2:i<done.length:=by
    have:=JS List.length e;rw[Js,KN,J7] at this;lia
   rw[show done.length-i=(done.length-(i+1))+1 by lia,K6,Kc] at e
   obtain⟨rfl,rfl⟩:=List.cons.inj e;clear e;rw[Og];have hid:i<d.length:=by lia
   have ad:bR (wT d) (i:Int)=some (.str (wd (d.getD i []))):=bG (by unfold wT;rw[J9,JI,Jq hid];rfl)
   have hx0:=hdx i hi2;have eg:gs[i]?=some (gs.getD i none):=by rw[JI,Jq (by lia)];rfl
   have ag:=hU eg;have hls:=kE Pl gs ws0 d i;unfold yo at hls;generalize d.getD i []=y0 at *;generalize hX:gF Pl gs ws0 d i=X at *;walk_at "rt";refine av fun M2 h2=>?_;wp_walk using ad;rw[aT,aT,dy];refine⟨JD (show _<=13000 by lia) (by decide),?_⟩
   refine h2 _ ?_;clear h2 M2;generalize gs.getD i none=go at *
   cases go with
   |none =>
    wp_walk using ag,oI;rw[JK] at hls;refine k _ ⟨i+1,some _,o12,o13,rfl,hi2,by rw[hls,Jt];lia,by rw[hls];rfl⟩
   |some g =>
    obtain⟨hg,kk,ek⟩:=gw.go i g eg;have k3:=gw.w3.at ek;have aw:=hU ek;have ewd:ws0.getD i none=some kk:=by rw[JI,ek];rfl
    rw[ewd] at hls;rw[hsl] at hg;have hj:=n6 k3 (Pl.getD g 0-Pl.getD (i+1) 0);have p1:bR (nI Pl) (g:Int)=some (.int (Pl.getD g 0)):=kP (eu (by lia))
    have p2:bR (nI Pl) ((i:Int)+1)=some (.int (Pl.getD (i+1) 0)):=kP (j:=i+1) (eu (by lia))
    have a1:bR [L2.T.str (Str.ofString "0"),L2.T.str (Str.ofString "10"),L2.T.str (Str.ofString "11")] (kk:Int)=some (.str (wd (d9 kk))):=by
     rcases (show kk=0\/kk=1\/kk=2 by lia) with rfl|rfl|rfl
     ·rw[show wd (d9 0)=Str.ofString "0" by decide +kernel];rfl
     ·rw[show wd (d9 1)=Str.ofString "10" by decide +kernel];rfl
     ·rw[show wd (d9 2)=Str.ofString "11" by decide +kernel];rfl
    have a2:bR [L2.T.int 4,L2.T.int 8,L2.T.int 16] (kk:Int)=some (.int (jm kk:Nat)):=by
     rcases (show kk=0\/kk=1\/kk=2 by lia) with rfl|rfl|rfl<;>rfl
    have s16:jm kk<=16:=by
     rcases (show kk=0\/kk=1\/kk=2 by lia) with rfl|rfl|rfl<;>decide
    have h2:(d9 kk).length<=2:=by
     rcases (show kk=0\/kk=1\/kk=2 by lia) with rfl|rfl|rfl<;>decide
    unfold ny at hls hj;generalize hfar:Pl.getD g 0-Pl.getD (i+1) 0=far at *;wp_walk using ag,oI;refine av fun M2 hM2=>?_;wp_walk using ag,oI,p1,p2,hfar;refine hM2 _ ?_;clear hM2 M2;refine av fun M2 hM2=>?_;wp_walk using aw,oI;refine hM2 _ ?_;clear hM2 M2;refine av fun M2 hM2=>?_;wp_walk using a1;rw[aT,aT,dy];refine⟨by decide,JD (show _<=13000 by rw[Jt];lia) (by decide),?_⟩
    refine hM2 _ ?_;clear hM2 M2;wp_walk using a2;refine⟨by decide,far,jm kk,rfl,by lia,?_⟩
    walk_at "rt";rw[aT,aT,dy,dM];refine⟨JD (show _<=13000 by simp only[Jt,Ke];lia) (by decide),?_⟩
    have e5:X++y0++d9 kk++cY far (jm kk) []=gF Pl gs ws0 d (i+1):=by rw[hls];simp only[JU,hfar]
    refine k _ ⟨i+1,some _,some _,some _,rfl,hi2,?_,by rw[<- e5];rfl⟩
    rw[<- e5];rw[Jt] at hj;simp only[Jt,JU] at *;lia
noncomputable def nU:dW:=fun args Q=>∃ s:L2.T,args=[s,.int 60,.int 9]/\eR s/\∀(rs:List Row) (s':L2.T),eR s'->rs.length<=60->(∀ r∈rs,r.Ok rs.length)->Q (.tr (.tup (rT rs))) [s']
theorem pR(T:Txt K mg)(F:HasFn K mg "_law_program" aP ["seed","most","words"])(h_law_draw:ae P w K mg base bA 1 "_law_draw" ["seed","most"] (spT K [true,false] lB))(h_law_row:ae P w K mg base bA 3 "_law_row" ["seed","many","words"] (spT K [true,false,false] Fc)):
  ae P w K mg base bA 4 "_law_program" ["seed","most","words"] (spT K [true,false,false] nU):=by
 refine F.fG dA [true,false,false] rfl (by decide) (fun args Qt hl h f cdv A outer s H E hr=>?_)
 have hu:=bf hr;obtain⟨sd,rfl,hs,q⟩:=h;refine⟨_,(Y.af (Y.set (i:=3) dA.nd rfl (by walk_at "lc") (Y.fn K rfl h_law_draw (hr.mono (by decide)) rfl ay (Y.cons (Y.vS 0) (Y.cons Y.int Y.nil))))
   (Y.af (Y.gm (Y.cg (Y.cK K rfl (JW hu)) Y.dF (Y.fn K rfl h_law_draw (hr.mono (by decide)) rfl ay (Y.cons (Y.vS 0) (Y.cons Y.int Y.nil))) Y.int) (Y.aD (Y.set (i:=3) dA.nd rfl (by walk_at "lc") (Y.op dD Y.cX (Y.vS 1) (Y.fn K rfl h_law_draw (hr.mono (by decide)) rfl ay (Y.cons (Y.vS 0) (Y.cons (Y.op (Y.aC K rfl) Y.aB Y.int (Y.op Y.eS Y.cG (Y.vS 1) Y.int)) Y.nil)))))) Y.c_)
   (Y.aD (Y.ret (Y.ct (Y.cZ K rfl) Y.d7 rfl T.d5 (by decide +kernel) (Y.cons (Y.i5 (osc:=aa aP) (ON:=["seed","most","words","many"]) (own:=["row"]) (N:=["row","seed","most","words","many"]) ⟨rfl,by decide +kernel,rfl,by decide +kernel,by decide +kernel,by decide +kernel,by decide +kernel,by decide +kernel⟩ rfl rfl rfl rfl (Y.jY rfl T.dI (Y.cons (Y.vS 3) Y.nil)) (fun _ _ _ _=>(Z.aI (i:=0) (show List.Nodup (["row","seed","most","words","many"]:List Str) by decide +kernel) rfl (by walk_at "lc"))) (fun _ _ _ _=>Y.oz) (fun _ _ _ _=>(Y.fn K rfl h_law_row (hr.mono (by decide)) rfl ay (Y.cons (Y.vS 1) (Y.cons (Y.vS 4) (Y.cons (Y.vS 3) Y.nil)))))) Y.nil)))))),?_⟩
 refine av fun N hN=>?_;walk_at "rt";refine⟨sd,9,rfl,hs,by decide,by decide,fun m s1 hs1 m0 m1=>?_⟩
 walk_at "rt";refine hN _ ?_;clear hN N;refine av fun N hN=>?_;walk_at "rt";refine⟨s1,5,rfl,hs1,by decide,by decide,fun v s2 hs2 v0 v1=>?_⟩
 have fin:∀(n:Nat) (s':L2.T),eR s'->n<=60->N [.pb s',.tr (.int 60),.tr (.int 9),.tr (.int (n:Int))]:=fun n s' hs' hn=>by
  refine hN _ ?_;clear hN N;walk_at "rt";refine⟨by lia,by lia,?_⟩
  refine bU (fun rest acc μ=>∃(rs:List Row) (s4:L2.T),rest.length+rs.length=n/\acc=rT rs/\(∀ r∈rs,r.Ok n)/\eR s4/\μ=[.pb s4,.tr (.int 60),.tr (.int 9),.tr (.int (n:Int))]) ⟨[],s',by simp,rfl,(fun r hr=>by cases hr),hs',rfl⟩ ?_ ?_
  ·rintro acc μ ⟨rs,s4,e,rfl,aU,hs4,rfl⟩;refine⟨trivial,?_⟩;walk_at "rt";have e':rs.length=n:=by simpa using e
   exact q rs s4 hs4 (by lia) (by rw[e'];exact aU)
  ·rintro t r acc μ M ⟨rs,s4,e,rfl,aU,hs4,rfl⟩ k;rw[J7] at e;refine⟨trivial,by rw[xT];exact JJ (show _<=60 by lia) (by decide),?_⟩
   walk_at "rt";refine⟨s4,n,rfl,hs4,by lia,fun rw' s5 hok5 hs5=>?_⟩
   walk_at "rt";refine k _ _ ⟨rs++[rw'],s5,by rw[Jt,J_];lia,by unfold rT;rw[JH];rfl,fun x hx=>?_,hs5,rfl⟩
   rcases K4.mp hx with z|z
   ·exact aU x z
   ·rw[JE.mp z];exact hok5
 by_cases a:v=0
 ·wp_walk using Jy a;refine⟨⟨by decide,by decide⟩,s2,1+60 / 2,rfl,hs2,by decide,by decide,fun d s3 hs3 d0 d1=>?_⟩
  obtain⟨n,hn⟩:∃ n:Nat,60-d=n:=⟨(60-d).toNat,by lia⟩
  wp_walk using hn;exact fin n s3 hs3 (by lia)
 ·obtain⟨n,rfl⟩:∃ n:Nat,m=n:=⟨m.toNat,by lia⟩
  wp_walk using Ju a;exact fin n s2 hs2 (by lia)
noncomputable def Bj:dW:=fun args Q=>∃(s:L2.T) (m:Nat),args=[s,.int (m:Int),.int 20]/\eR s/\2<=m/\m<=17/\∀(ls:List Int) (s':L2.T),eR s'->ls.length=m->jW ls->mI ls=true->Q (.tr (.tup (nI ls))) [s']
noncomputable def nZ(l:List Nat):List Int:=l.map fun k:Nat=>(k:Int)
theorem dC(l:List Nat):(nZ l).length=l.length:=Js ..
theorem xC{l:List Nat}(h:Kr.ks 40 l<=2^40):mI (nZ l)=true:=by
 unfold mI KS nZ;rw[KR,show (Int.toNat ∘ fun k:Nat=>(k:Int))=id from funext fun k=>JV k,List.map_id];exact Kj h
structure Pt (l:List Nat):Prop where
 ks:Kr.ks 40 l=2^40
 le:∀ x∈l,x+1<=l.length
 one:l=[0]\/∀ x∈l,1<=x
theorem Pt.pos{l:List Nat}(h:Pt l):1<=l.length:=by
 cases l with
 |nil=>have:=h.ks;simp[Kr.ks] at this
 |cons=>simp
theorem Pt.next{l l3:List Nat}{a:Nat}(h:Pt l)(ha:a<l.length)(hl:l.length<=17)(hp:l3.Perm ((l[a]+1)::(l[a]+1)::l.eraseIdx a)):Pt l3/\l3.length=l.length+1:=by
 have hpm:(l[a]::l.eraseIdx a).Perm l:=by
  rw[L7]
  conv=>rhs;rw[<- Lk a l,<- NJ ha]
  exact Mm.symm
 have hle:=l.length_eraseIdx_of_lt ha;have hx:=h.le _ (JY ha);have h3:l3.length=l.length+1:=by
  rw[hp.length_eq,J7,J7,hle];lia
 have mem:∀ y∈l3,y=l[a]+1\/y∈l.eraseIdx a:=fun y hy=>by
  rcases J5.mp (hp.mem_iff.mp hy) with z|z
  ·exact .inl z
  ·rcases J5.mp z with z|z
   ·exact .inl z
   ·exact .inr z
 have mem2:∀ y∈l.eraseIdx a,y∈l:=fun y hy=>hpm.mem_iff.mp (J8 _ hy);refine⟨⟨?_,fun y hy=>?_,.inr fun y hy=>?_⟩,h3⟩
 ·have e1:=Kr.iT (L:=40) hpm;rw[h.ks,Kr.ks] at e1;rw[Kr.iT hp,Kr.ks,Kr.ks];have e2:2^(40-l[a])=2*2^(40-(l[a]+1)):=by rw[show 40-l[a]=(40-(l[a]+1))+1 by lia,Of];lia
  lia
 ·rw[h3];rcases mem y hy with rfl|z
  ·lia
  ·have:=h.le y (mem2 y z);lia
 ·rcases mem y hy with rfl|z
  ·lia
  ·rcases h.one with e|e
   ·subst e;have ha0:a=0:=by simpa using ha
    subst ha0;cases z
   ·exact e y (mem2 y z)
noncomputable def idx(n:Nat):List L2.T:=(List.range n).map fun k:Nat=>L2.T.int (k:Int)
theorem p_(n:Nat):(idx n).length=n:=by unfold idx;rw[Js,JN]
theorem xn(T:Txt K mg)(F:HasFn K mg "_law_lengths" aL ["seed","many","most"])(h_law_draw:ae P w K mg base bA 1 "_law_draw" ["seed","most"] (spT K [true,false] lB)):ae P w K mg base bA 2 "_law_lengths" ["seed","many","most"] (spT K [true,false,false] Bj):=by
 refine F.fG bB [true,false,false] rfl (by decide) (fun args Qt hl h f cdv A outer s H E hr=>?_)
 have hu:=bf hr;obtain⟨sd,m,rfl,hsd,hm2,hm,q⟩:=h;refine⟨_,(Y.af (Y.set (i:=3) bB.nd rfl (by walk_at "lc") (Y.lst (Y.cons Y.int Y.nil)))
   (Y.af (Y.gC JR (Y.cg kY Y.fe (Y.cb (Y.bj K rfl) Y.cz rfl T.dX (by decide +kernel) (Y.cons (Y.vS 3) Y.nil)) (Y.vS 1)) (Y.af (Y.xl (j:=4) bB.nd rfl (by walk_at "lc") (osc:=aa aL) (ON:=["seed","many","most","found","short","at","one","longer"]) (own:=["k"]) (N:=["k","seed","many","most","found","short","at","one","longer"]) ⟨rfl,by decide +kernel,rfl,by decide +kernel,by decide +kernel,by decide +kernel,by decide +kernel,by decide +kernel⟩ rfl rfl rfl rfl (Y.jY rfl T.dI (Y.cons (Y.cb (Y.bj K rfl) Y.cz rfl T.dX (by decide +kernel) (Y.cons (Y.vS 3) Y.nil)) Y.nil)) (fun _ _ _ _=>(Z.aI (i:=0) (show List.Nodup (["k","seed","many","most","found","short","at","one","longer"]:List Str) by decide +kernel) rfl (by walk_at "lc"))) (fun _ _ _ _=>(Y.GB (Y.cg kY Y.fe (Y.ix (Y.aO K rfl) Y.ai (Y.vS 4) (Y.vS 0)) (Y.vS 3)))) (fun _ _ _ _=>(Y.vS 0)))
   (Y.af (Y.set (i:=5) bB.nd rfl (by walk_at "lc") (Y.ix (Y.aO K rfl) Y.ai (Y.vS 4) (Y.fn K rfl h_law_draw (hr.mono (by decide)) rfl ay (Y.cons (Y.vS 0) (Y.cons (Y.cb (Y.bj K rfl) Y.cz rfl T.dX (by decide +kernel) (Y.cons (Y.vS 4) Y.nil)) Y.nil)))))
   (Y.af (Y.set (i:=6) bB.nd rfl (by walk_at "lc") (Y.op (Y.aC K rfl) Y.aB (Y.bm K rfl PySem.F.slot_list_pop PySem.F.type_list_pop vZ Y.wQ (Y.vS 3) (Y.cons (Y.vS 5) Y.nil)) Y.int))
   (Y.af (Y.expr (Y.bm K rfl PySem.F.slot_list_append PySem.F.type_list_append cE Y.cS (Y.vS 3) (Y.cons (Y.vS 6) Y.nil)))
   (Y.aD (Y.expr (Y.bm K rfl PySem.F.slot_list_insert PySem.F.type_list_insert tI Y.tJ (Y.vS 3) (Y.cons (Y.fn K rfl h_law_draw (hr.mono (by decide)) rfl ay (Y.cons (Y.vS 0) (Y.cons (Y.op (Y.aC K rfl) Y.aB (Y.cb (Y.bj K rfl) Y.cz rfl T.dX (by decide +kernel) (Y.cons (Y.vS 3) Y.nil)) Y.int) Y.nil))) (Y.cons (Y.vS 6) Y.nil))))))))))
   (Y.af (Y.set (i:=7) bB.nd rfl (by walk_at "lc") (Y.fn K rfl h_law_draw (hr.mono (by decide)) rfl ay (Y.cons (Y.vS 0) (Y.cons Y.int Y.nil))))
   (Y.af (Y.gm (Y.cg (Y.cK K rfl (JW hu)) Y.dF (Y.vS 7) Y.int) (Y.aD (Y.asg (Y.i5 (osc:=aa aL) (ON:=["seed","many","most","found","short","at","one","longer"]) (own:=["one"]) (N:=["one","seed","many","most","found","short","at",".one","longer"]) ⟨rfl,by decide +kernel,rfl,by decide +kernel,by decide +kernel,by decide +kernel,by decide +kernel,by decide +kernel⟩ rfl rfl rfl rfl (Y.anyS K rfl (Y.vS 3)) (fun _ _ _ _=>(Z.aI (i:=0) (show List.Nodup (["one","seed","many","most","found","short","at",".one","longer"]:List Str) by decide +kernel) rfl (by walk_at "lc"))) (fun _ _ _ _=>Y.oz) (fun _ _ _ _=>(Y.cb (sf rfl) Y.BO rfl T.E8 (by decide +kernel) (Y.cons (Y.vS 3) (Y.cons (Y.op (Y.aC K rfl) Y.aB (Y.vS 0) (Y.fn K rfl h_law_draw (hr.mono (by decide)) rfl ay (Y.cons (Y.vS 1) (Y.cons Y.int Y.nil)))) Y.nil))))) (Y.aI (i:=3) bB.nd rfl (by walk_at "lc")))) Y.c_)
   (Y.aD (Y.ret (Y.ct (Y.cZ K rfl) Y.d7 rfl T.d5 (by decide +kernel) (Y.cons (Y.vS 3) Y.nil)))))))),?_⟩
 refine av fun N hN=>?_;walk_at "rt";refine⟨by decide,?_⟩
 refine hN _ ?_;clear hN N;refine av fun N hN=>?_;refine⟨fun mm μ=>∃(l:List Nat) (s:L2.T) (o5 o6:Option L2.T) (b4:Sl),eR s/\Pt l/\l.length<=m/\nb (some b4)=True/\mm=m-l.length/\μ=[.pb s,.tr (.int (m:Int)),.tr (.int 20),.bx (.lst (nI (nZ l))),b4,sl o5,sl o6,.un],⟨_,[0],sd,none,none,.un,hsd,⟨by decide,by simp,.inl rfl⟩,by simp;lia,rfl,rfl,rfl⟩,?_⟩
 rintro mm μ ⟨l,s,o5,o6,b4,hs,hl,hlm,hb4,rfl,rfl⟩;by_cases c:(l.length:Int)<(m:Int)
 ·wp_walk using cq,dC,Jy c;refine av fun M2 h2=>?_;wp_walk using cq,dC,hb4;refine⟨by lia,by lia,?_⟩
  rw[JV,Lu];refine bU (fun rest acc μ=>∃ i:Nat,i<=l.length/\(rest=(List.range' i (l.length-i)).map fun k:Nat=>L2.T.int (0+(k:Int)))/\acc=idx i/\μ=[.pb s,.tr (.int (m:Int)),.tr (.int 20),.bx (.lst (nI (nZ l))),b4,sl o5,sl o6,.un]) ⟨0,Kh _,rfl,rfl,rfl⟩ ?_ ?_
  case refine_2 =>
   rintro t r acc μ M ⟨i,hi,e,rfl,rfl⟩ k;have hi2:i<l.length:=by
    have:=JS List.length e;rw[Js,KN,J7] at this;lia
   rw[show l.length-i=(l.length-(i+1))+1 by lia,K6,Kc] at e
   obtain⟨rfl,rfl⟩:=List.cons.inj e;clear e;have hx:=hl.le _ (JY hi2);have ea:bR (nI (nZ l)) (i:Int)=some (.int ((l[i]:Nat):Int)):=qG (bG (by unfold nZ;rw[J9,Jq hi2];rfl))
   refine⟨trivial,by rw[p_];exact JJ (show i<=20 by lia) (by decide),?_⟩
   rw[Og];wp_walk using ea;rw[Jy (by lia)]
   refine k _ _ ⟨i+1,hi2,rfl,?_,rfl⟩;unfold idx;rw[Lj,JH];rfl
  rintro acc μ ⟨i,hi,e,rfl,rfl⟩;have hi2:i=l.length:=by
   have:=JS List.length e;rw[Js,KN,Ke] at this;lia
  subst hi2;refine⟨trivial,?_⟩;wp_walk using hb4;refine h2 _ ?_;clear h2 M2;refine av fun M2 h2=>?_;wp_walk using p_;refine⟨s,l.length,rfl,hs,by have:=hl.pos;lia,by lia,fun v s2 hs2 v0 v1=>?_⟩
  obtain⟨a,rfl⟩:∃ a:Nat,v=a:=⟨v.toNat,by lia⟩
  have ha:a<l.length:=by lia
  have ea:bR (idx l.length) (a:Int)=some (.int (a:Int)):=bG (by unfold idx;rw[J9,KG ha];rfl)
  wp_walk using ea;refine h2 _ ?_;clear h2 M2;refine av fun M2 h2=>?_;walk_at "rt";have six:seqIndex? (a:Int) (nI (nZ l)).length=some a:=by
   rw[cq,dC];unfold seqIndex?
   simp;lia
  have enZ:(nI (nZ l))[a]?=some (.int ((l[a]:Nat):Int)):=by unfold nI nZ;rw[J9,J9,Jq ha];rfl
  have eer:(nI (nZ l)).eraseIdx a=nI (nZ (l.eraseIdx a)):=by
   unfold nI nZ;simp only[L7,JH,MS,MT]
  refine⟨by lia,by lia,a,_,six,enZ,?_⟩
  rw[eer];walk_at "rt";refine h2 _ ?_;clear h2 M2;have hpm:(l[a]::l.eraseIdx a).Perm l:=by
   rw[L7]
   conv=>rhs;rw[<- Lk a l,<- NJ ha]
   exact Mm.symm
  have hle:=l.length_eraseIdx_of_lt ha;have hx:=hl.le _ (JY ha);refine av fun M2 h2=>?_;walk_at "rt";rw[cq,dC];refine⟨JJ (show _<=20 by lia) (by decide),?_⟩
  have eap:nI (nZ (l.eraseIdx a))++[L2.T.int (((l[a]:Nat):Int)+1)]=nI (nZ (l.eraseIdx a++[l[a]+1])):=by unfold nI nZ;rw[JH,JH];rfl
  rw[eap];refine h2 _ ?_;clear h2 M2;wp_walk using cq,dC;rw[Jt,J_,hle];refine⟨s2,_,rfl,hs2,by lia,by lia,fun v s3 hs3 w0 w1=>?_⟩
  walk_at "rt";rw[cq,dC];have eins:∀ n:Nat,gq (nI (nZ (l.eraseIdx a++[l[a]+1]))) n (L2.T.int (((l[a]:Nat):Int)+1))=nI (nZ (gq (l.eraseIdx a++[l[a]+1]) n (l[a]+1))):=fun n=>by
   unfold gq nI nZ;simp only[JH,MS,MT,Kc];rfl
  rw[eins];have hpi:∀ n:Nat,(gq (l.eraseIdx a++[l[a]+1]) n (l[a]+1)).Perm ((l[a]+1)::(l[a]+1)::l.eraseIdx a):=fun n=>by
   unfold gq;refine Mm.trans ?_;rw[Lk];exact List.Perm.cons _ List.perm_append_comm
  obtain⟨hP3,hL3⟩:=hl.next ha (by lia) (hpi (min v.toNat (l.eraseIdx a++[l[a]+1]).length))
  refine⟨by lia,by lia,JJ (show _<=20 by rw[Jt,J_,hle];lia) (by decide),m-(l.length+1),by lia,_,s3,some (.int (a:Int)),some (.int (((l[a]:Nat):Int)+1)),_,hs3,hP3,by rw[hL3];lia,rfl,by rw[hL3],rfl⟩
 ·wp_walk using cq,dC,Ju c;refine hN _ ?_;clear hN N;refine av fun N hN=>?_;walk_at "rt";have hlm2:l.length=m:=by lia
  have h1:∀ x∈l,1<=x:=by
   rcases hl.one with e|e
   ·exfalso;rw[e] at hlm2;simp at hlm2;lia
   ·exact e
  refine⟨s,3,rfl,hs,by decide,by decide,fun v s2 hs2 v0 v1=>?_⟩
  walk_at "rt";refine hN _ ?_;clear hN N;have lens:∀ ds:List Nat,ds.length=m->(∀ x∈ds,1<=x/\x<=20)->jW (nZ ds):=fun ds e hd=>⟨by rw[dC];lia,by rw[dC];lia,fun x hx=>by
   obtain⟨y,hy,rfl⟩:=JX.mp hx;have:=hd y hy
   lia⟩
  refine av fun N hN=>?_;by_cases cv:v=0
  ·wp_walk using Jy cv;refine bU (fun rest acc μ=>∃(x y ds:List Nat) (s:L2.T),x++y=l/\rest=nI (nZ y)/\acc=nI (nZ ds)/\ds.length=x.length/\Kr.ks 40 ds<=Kr.ks 40 x/\(∀ z∈ds,1<=z/\z<=20)/\eR s/\μ=[.pb s,.tr (.int (m:Int)),.tr (.int 20),.bx (.lst (nI (nZ l))),b4,sl o5,sl o6,.tr (.int v)]) ⟨[],l,[],s2,rfl,rfl,rfl,rfl,J6 _,(fun z hz=>by cases hz),hs2,rfl⟩ ?_ ?_
   ·rintro acc μ ⟨x,y,ds,s,e1,e2,rfl,hdl,hks,hd,hs,rfl⟩;have e3:y=[]:=by
     cases y with
     |nil=>rfl
     |cons=>cases e2
    subst e3;rw[JK] at e1;subst e1;refine⟨rfl,?_⟩;walk_at "rt";refine hN _ ?_;clear hN N;walk_at "rt";exact q _ _ hs (by rw[dC,hdl,hlm2]) (lens ds (by rw[hdl,hlm2]) hd) (xC (JD hks (NZ hl.ks)))
   ·rintro t r acc μ M ⟨x,y,ds,s,e1,e2,rfl,hdl,hks,hd,hs,rfl⟩ k
    cases y with
    |nil=>cases e2
    |cons z y =>
     obtain⟨rfl,rfl⟩:=List.cons.inj e2;have hz:=h1 z (by rw[<- e1];simp)
     have hz2:=hl.le z (by rw[<- e1];simp)
     have hxl:x.length<=17:=by
      have:=JS List.length e1;rw[Jt] at this;lia
     refine⟨rfl,by rw[cq,dC];exact JJ (show _<=20 by lia) (by decide),?_⟩
     walk_at "rt";refine⟨s,5,rfl,hs,by decide,by decide,fun u s3 hs3 u0 u1=>?_⟩
     obtain⟨uu,rfl⟩:∃ uu:Nat,u=uu:=⟨u.toNat,by lia⟩
     obtain⟨nz,enz,hnz⟩:∃ nz:Nat,(if ((z:Nat):Int)+(uu:Int)<20 then ((z:Nat):Int)+(uu:Int) else 20)=(nz:Int)/\z<=nz/\nz<=20:=by
      by_cases c:((z:Nat):Int)+(uu:Int)<20
      ·rw[Jy c];exact⟨z+uu,rfl,by lia,by lia⟩
      ·rw[Ju c];exact⟨20,rfl,by lia,by lia⟩
     wp_walk using enz;refine k _ _ ⟨x++[z],y,ds++[nz],s3,by rw[<- e1];simp,rfl,by unfold nI nZ;rw[JH,JH];rfl,by rw[Jt,Jt,hdl];rfl,?_,fun w hw=>?_,hs3,rfl⟩
     ·rw[Kr.cO,Kr.cO];have:2^(40-nz)<=2^(40-z):=Ls (by decide) (by lia)
      simp only[Kr.ks];lia
     ·rcases K4.mp hw with z'|z'
      ·exact hd w z'
      ·rw[JE.mp z'];lia
  ·wp_walk using Ju cv;refine hN _ ?_;clear hN N;walk_at "rt";exact q _ _ hs2 (by rw[dC,hlm2]) (lens l hlm2 fun x hx=>by have:=h1 x hx;have:=hl.le x hx;lia) (xC (NZ hl.ks))
noncomputable def A7:dW:=fun args Q=>∃ s:L2.T,args=[s,.int 20]/\eR s/\∀(bk:List (List Int)) (s':L2.T),eR s'->Bk bk->Q (.tr (uk bk)) [s']
theorem yk(T:Txt K mg)(F:HasFn K mg "_law_book" bY ["seed","most"])(h_law_draw:ae P w K mg base bA 1 "_law_draw" ["seed","most"] (spT K [true,false] lB))(h_law_lengths:ae P w K mg base bA 2 "_law_lengths" ["seed","many","most"] (spT K [true,false,false] Bj)):ae P w K mg base bA 3 "_law_book" ["seed","most"] (spT K [true,false] A7):=by
 refine F.fG mS [true,false] rfl (by decide) (fun args Qt hl h f cdv A outer s H E hr=>?_)
 have hu:=bf hr;obtain⟨sd,rfl,hs,q⟩:=h;refine⟨_,(Y.af (Y.gm (Y.cg (Y.cK K rfl (JW hu)) Y.dF (Y.fn K rfl h_law_draw (hr.mono (by decide)) rfl ay (Y.cons (Y.vS 0) (Y.cons Y.int Y.nil))) Y.int) (Y.aD (Y.ret (Y.tup (Y.cons (Y.op (Y.mE K rfl) Y.ml (Y.tup (Y.cons (Y.vS 1) Y.nil)) Y.int) (Y.cons (Y.op (Y.mE K rfl) Y.ml (Y.tup (Y.cons (Y.vS 1) Y.nil)) Y.int) (Y.cons (Y.op (Y.mE K rfl) Y.ml (Y.tup (Y.cons (Y.vS 1) Y.nil)) Y.int) Y.nil)))))) Y.c_)
   (Y.aD (Y.ret (Y.tup (Y.cons (Y.fn K rfl h_law_lengths (hr.mono (by decide)) rfl ay (Y.cons (Y.vS 0) (Y.cons Y.int (Y.cons (Y.vS 1) Y.nil)))) (Y.cons (Y.fn K rfl h_law_lengths (hr.mono (by decide)) rfl ay (Y.cons (Y.vS 0) (Y.cons Y.int (Y.cons (Y.vS 1) Y.nil)))) (Y.cons (Y.fn K rfl h_law_lengths (hr.mono (by decide)) rfl ay (Y.cons (Y.vS 0) (Y.cons Y.int (Y.cons (Y.vS 1) Y.nil)))) Y.nil))))))),?_⟩
 refine av fun N hN=>?_;walk_at "rt";refine⟨sd,8,rfl,hs,by decide,by decide,fun v s2 hs2 v0 v1=>?_⟩
 by_cases c:v=0
 ·wp_walk using Jy c;have key:∀ n:Nat,n=9\/n=17\/n=8->jW (List.replicate n 20)/\mI (List.replicate n 20)=true:=fun n hn=>by
   refine⟨⟨by rw[JF];lia,by rw[JF];lia,fun x hx=>by rw[(Lf.mp hx).2];decide⟩,?_⟩
   rcases hn with rfl|rfl|rfl<;>decide +kernel
  refine⟨by decide,⟨by simp,by decide,by decide⟩,by decide,⟨by simp,by decide,by decide⟩,by decide,⟨by simp,by decide,by decide⟩,by decide,q [List.replicate 9 20,List.replicate 17 20,List.replicate 8 20] s2 hs2 ⟨_,_,_,rfl,rfl,rfl,rfl,fun l hl=>?_⟩⟩
  rcases J5.mp hl with rfl|hl
  ·exact key 9 (.inl rfl)
  ·rcases J5.mp hl with rfl|hl
   ·exact key 17 (.inr (.inl rfl))
   ·rw[JE.mp hl];exact key 8 (.inr (.inr rfl))
 ·wp_walk using Ju c;refine hN _ ?_;clear hN N;walk_at "rt";refine⟨s2,9,rfl,hs2,by decide,by decide,fun a s3 hs3 la La oa=>?_⟩
  walk_at "rt";refine⟨s3,17,rfl,hs3,by decide,by decide,fun b s4 hs4 lb Lb ob=>?_⟩
  walk_at "rt";refine⟨s4,8,rfl,hs4,by decide,by decide,fun c s5 hs5 lc Lc oc=>?_⟩
  walk_at "rt";refine⟨by decide,q [a,b,c] s5 hs5 ⟨a,b,c,rfl,la,lb,lc,fun l hl=>?_⟩⟩
  rcases J5.mp hl with rfl|hl
  ·exact⟨La,oa⟩
  ·rcases J5.mp hl with rfl|hl
   ·exact⟨Lb,ob⟩
   ·rw[JE.mp hl];exact⟨Lc,oc⟩
theorem zU{n:Nat}{xs:List L2.T}(h:∀ x∈xs,k_ n x x true):k_ (n+1) (.tup xs) (.tup xs) true:=by
 have:=k_.tup (n:=n) (xs:=xs) (ys:=xs) (fun _=>true) fun j x y e1 e2=>by
  rw[e1] at e2;cases e2;exact h x (Km e1)
 rw[fQ rfl fun _ _=>rfl] at this;exact this
theorem zL(n:Nat)(i:Int):k_ n (.int i) (.int i) true:=by
 have h:=k_.flat (n:=n) (t:=.int i) (u:=.int i) rfl rfl;rw[show Y.Bp (.int i) (.int i)=true from Kq i] at h;exact h
theorem xt(n:Nat)(xs:List Int):k_ (n+1) (.tup (nI xs)) (.tup (nI xs)) true:=zU fun x hx=>by
 obtain⟨i,_,rfl⟩:=JX.mp hx;exact zL n i
theorem x_{μ:Mu}{Q:R->Mu->Prop}(h:∀ x∈xs,k_ 4 x x true)(q:Q (.tr (.bl true)) μ):Y.ja xs xs false μ Q:=by
 refine⟨fun _=>true,fun j x y e1 e2=>?_,?_⟩
 ·rw[e1] at e2;cases e2;exact h x (Km e1)
 ·rw[fQ rfl fun _ _=>rfl];exact q
noncomputable def IV:dW:=fun args Q=>∃(z:Str) (ps:List Int),args=[.tup [.str z,.tup (nI ps)],.tup [.str z,.tup (nI ps)]]/\ps.length<=60/\Q (.tr (.bl true)) []
theorem FR(T:Txt K mg)(F:HasFn K mg "_law_is" cC ["found","due"]):ae P w K mg base bA 1 "_law_is" ["found","due"] (spT K [false,false] IV):=by
 refine F.fG ph [false,false] rfl (by decide) (fun args Qt hl h f cdv A outer s H E hr=>?_)
 have hu:=bf hr;obtain⟨z,ps,rfl,h60,q⟩:=h;refine⟨_,(Y.af (Y.gm (Y.tw (Y.Eb (Y.mx (Y.gW K rfl (Y.F_ (C:="tuple") K rfl rfl T.df (Y.vS 0) rfl T.d5 (by decide +kernel)))) (Y.Eb (Y.cg (Y.x5 K rfl (pT hr)) Y.wB (Y.cb (Y.bj K rfl) Y.cz rfl T.dX (by decide +kernel) (Y.cons (Y.vS 0) Y.nil)) Y.int) (Y.yz (Y.mx (Y.gW K rfl (Y.F_ (C:="str") K rfl rfl T.df (Y.ix (Y.aO K rfl) Y.ai (Y.vS 0) Y.int) rfl T.uM (by decide +kernel)))))))) (Y.aD (Y.ret Y.bl)) Y.c_)
   (Y.af (Y.gm (Y.tw (Y.Eb (Y.mx (Y.gW K rfl (Y.F_ (C:="tuple") K rfl rfl T.df (Y.ix (Y.aO K rfl) Y.ai (Y.vS 0) Y.int) rfl T.d5 (by decide +kernel)))) (Y.yz (Y.cg (Y.x5 K rfl (pT hr)) Y.wB (Y.i5 (osc:=aa cC) (ON:=["found","due"]) (own:=["one"]) (N:=["one","found","due"]) ⟨rfl,by decide +kernel,rfl,by decide +kernel,by decide +kernel,by decide +kernel,by decide +kernel,by decide +kernel⟩ rfl rfl rfl rfl (Y.anyS K rfl (Y.ix (Y.aO K rfl) Y.ai (Y.vS 0) Y.int)) (fun _ _ _ _=>(Z.aI (i:=0) (show List.Nodup (["one","found","due"]:List Str) by decide +kernel) rfl (by walk_at "lc"))) (fun _ _ _ _=>(Y.GB (Y.gW K rfl (Y.F_ (C:="bool") K rfl rfl T.df (Y.vS 0) rfl T.Dg (by decide +kernel))))) (fun _ _ _ _=>(Y.vS 0))) (Y.lst Y.nil))))) (Y.aD (Y.ret Y.bl)) Y.c_)
   (Y.aD (Y.ret (Y.cmp (Y.Cn K rfl (pT hr)) Y.Cf (Y.vS 0) (Y.vS 1)))))),?_⟩
 have t1:gp "tuple" "tuple"=true:=by decide
 have t2:gp "str" "str"=true:=by decide +kernel
 have t3:gp "int" "bool"=false:=by decide +kernel
 have f0:∀ x y:L2.T,bR [x,y] 0=some x:=fun _ _=>rfl;have f1:∀ x y:L2.T,bR [x,y] 1=some y:=fun _ _=>rfl;refine av fun N hN=>?_;wp_walk using t1,t2,f0,f1;rw[Ju (by decide)]
 refine hN _ ?_;clear hN N;refine av fun N hN=>?_;wp_walk using t1,f0,f1;refine bU (fun rest acc μ=>∃ todo:List Int,rest=nI todo/\acc=[]/\μ=[.tr (.tup [.str z,.tup (nI ps)]),.tr (.tup [.str z,.tup (nI ps)])]) ⟨ps,rfl,rfl,rfl⟩ ?_ ?_
 ·rintro acc μ ⟨todo,_,rfl,rfl⟩;refine⟨trivial,?_⟩;walk_at "rt";refine⟨fun _=>true,fun j x y e=>(by simp at e),?_⟩
  rw[show (if true=true then !iM ([]:List L2.T).length ([]:List L2.T).length (fun _=>true) else iM ([]:List L2.T).length ([]:List L2.T).length fun _=>true)=false from rfl]
  walk_at "rt";refine hN _ ?_;clear hN N;walk_at "rt";refine x_ (fun x hx=>?_) q;rcases J5.mp hx with rfl|hx
  ·have h:=k_.flat (n:=4) (t:=.str z) (u:=.str z) rfl rfl;rw[show Y.Bp (.str z) (.str z)=true from Kq z] at h;exact h
  ·rw[JE.mp hx];exact xt 3 ps
 ·rintro t r acc μ M ⟨todo,e,rfl,rfl⟩ k
  cases todo with
  |nil=>cases e
  |cons x todo =>
   obtain⟨rfl,rfl⟩:=List.cons.inj e;refine⟨trivial,by decide,?_⟩
   wp_walk using t3;exact k _ _ ⟨todo,rfl,rfl,rfl⟩
theorem CZ{f:Addr}(T:Txt K mg)(F:yh K "law" "law" f_ f fd)(h_law_folded:ae P w K mg base bA 1 "_law_folded" ["script"] (spT K [false] Aw))(h_law_seed:ae P w K mg base bA 1 "_law_seed" ["cell"] (spT K [false] AG))(h_law_program:ae P w K mg base bA 4 "_law_program" ["seed","most","words"] (spT K [true,false,false] nU))(h_law_book:ae P w K mg base bA 3 "_law_book" ["seed","most"] (spT K [true,false] A7))
  (hpack_rows:ae P w K mg base bA 7 "pack_rows" ["program","book"] (spT K [false,false] qK)) (h_law_laid:ae P w K mg base bA 3 "_law_laid" ["program","book"] (spT K [false,false] qK)) (h_law_is:ae P w K mg base bA 1 "_law_is" ["found","due"] (spT K [false,false] IV)):ee P w K mg base bA 9 f fd ["script"] (lu K):=by
 refine By (ze F gu [false] rfl (by decide) (fun args Qt hl h cdv A outer s H E hr=>?_))
 have hu:=bf hr;obtain⟨ns,rfl,hn,q⟩:=h;refine⟨_,(Y.af (Y.eB JR rfl (Y.anyS K rfl (Y.op (Y.aC K rfl) Y.aB (Y.gv K rfl (Y.vS 0) Y.yL (Y.zu Y.int)) (Y.lst (Y.cons (Y.fn K rfl h_law_folded (hr.mono (by decide)) rfl ay (Y.cons (Y.vS 0) Y.nil)) Y.nil)))) (Y.aI (i:=1) gu.nd rfl (by walk_at "lc")) (Y.af (Y.set (i:=2) gu.nd rfl (by walk_at "lc") (Y.fn K rfl h_law_seed (hr.mono (by decide)) rfl ay (Y.cons (Y.vS 1) Y.nil)))
   (Y.af (Y.set (i:=3) gu.nd rfl (by walk_at "lc") (Y.fn K rfl h_law_program (hr.mono (by decide)) rfl ay (Y.cons (Y.vS 2) (Y.cons Y.int (Y.cons Y.int Y.nil)))))
   (Y.af (Y.set (i:=4) gu.nd rfl (by walk_at "lc") (Y.fn K rfl h_law_book (hr.mono (by decide)) rfl ay (Y.cons (Y.vS 2) (Y.cons Y.int Y.nil))))
   (Y.af (Y.set (i:=5) gu.nd rfl (by walk_at "lc") (Y.fn K rfl h_law_book (hr.mono (by decide)) rfl ay (Y.cons (Y.vS 2) (Y.cons Y.int Y.nil))))
   (Y.aD (Y.eB JR rfl (Y.anyS K rfl (Y.lst (Y.cons (Y.vS 4) (Y.cons (Y.vS 5) (Y.cons (Y.vS 4) Y.nil))))) (Y.aI (i:=6) gu.nd rfl (by walk_at "lc")) (Y.aD (Y.gm (Y.mx (Y.gW K rfl (Y.fn K rfl h_law_is (hr.mono (by decide)) rfl ay (Y.cons (Y.fn K rfl hpack_rows (hr.mono (by decide)) rfl ay (Y.cons (Y.vS 3) (Y.cons (Y.vS 6) Y.nil))) (Y.cons (Y.fn K rfl h_law_laid (hr.mono (by decide)) rfl ay (Y.cons (Y.vS 3) (Y.cons (Y.vS 6) Y.nil))) Y.nil))))) (Y.aD (Y.ret Y.bl)) Y.c_)))))))))
   (Y.aD (Y.ret Y.bl))),?_⟩
 refine av fun N hN=>?_;show Y.uR _ _ _ _ (startM [false] [.eU (nI ns)] _);walk_at "rt";refine⟨ns,rfl,fun fv=>?_⟩;obtain⟨ms,hms,hlm⟩:∃ ms:List Int,Y.cI (nI ns) none (some 3)++[L2.T.int fv]=nI ms/\(Y.cI (nI ns) none (some 3)).length<=3:=by
  refine⟨Y.cI ns none (some 3)++[fv],?_,?_⟩
  ·unfold nI Y.cI;rw[JH,MS,MT,Js];rfl
  ·unfold Y.cI;rw[show (some (3:Int))=some ((3:Nat):Int) from rfl,HT.eM,HT.lV,K5];lia
 wp_walk using hms;refine⟨by decide,JD (show (Y.cI (nI ns) none (some 3)).length+1<=4 by lia) (by decide),?_⟩
 clear hms hlm;refine bD (fun rest μ=>∃(ms:List Int) (s1 s3 s4 s5 s6:Option L2.T) (sd:Sl),rest=nI ms/\(sd=.un\/∃ c,sd=.bx c)/\μ=[.tr (.eU (nI ns)),sl s1,sd,sl s3,sl s4,sl s5,sl s6]) ⟨ms,none,none,none,none,none,.un,rfl,.inl rfl,rfl⟩ ?_ ?_
 ·rintro μ ⟨ms,s1,s3,s4,s5,s6,sd,_,_,rfl⟩;show N _;refine hN _ ?_;clear hN N;walk_at "rt";exact q
 ·rintro t ts μ M ⟨ms,s1,s3,s4,s5,s6,sd,e,hsd,rfl⟩ k
  cases ms with
  |nil=>cases e
  |cons m ms =>
   cases e;have nsd:nb (some sd)=True:=by rcases hsd with rfl|⟨c,rfl⟩<;>rfl
   walk_at "rt";refine av fun M' hM=>?_;wp_walk using nsd;refine⟨m,rfl,fun sd1 hs1=>?_⟩;wp_walk using nsd;refine hM _ ?_;clear hM M';refine av fun M' hM=>?_;walk_at "rt";refine⟨sd1,rfl,hs1,fun rs sd2 hs2 h60 aU=>?_⟩;walk_at "rt";refine hM _ ?_;clear hM M';refine av fun M' hM=>?_;walk_at "rt";refine⟨sd2,rfl,hs2,fun b1 sd3 hs3 hb1=>?_⟩;walk_at "rt";refine hM _ ?_;clear hM M';refine av fun M' hM=>?_;walk_at "rt";refine⟨sd3,rfl,hs3,fun b2 sd4 hs4 hb2=>?_⟩;walk_at "rt";refine hM _ ?_;clear hM M';walk_at "rt";refine⟨by decide,?_⟩
   refine bD (fun rest μ=>∃(todo:List (List (List Int))) (s6:Option L2.T),rest=todo.map uk/\(∀ b∈todo,Bk b)/\μ=[.tr (.eU (nI ns)),.tr (.int m),.bx sd4,.tr (.tup (rT rs)),.tr (uk b1),.tr (uk b2),sl s6]) ⟨[b1,b2,b1],s6,rfl,?_,rfl⟩ ?_ ?_
   ·intro b hb;rcases J5.mp hb with rfl|hb
    ·exact hb1
    ·rcases J5.mp hb with rfl|hb
     ·exact hb2
     ·rw[JE.mp hb];exact hb1
   ·rintro μ ⟨todo,s6,e,_,rfl⟩;exact k _ ⟨ms,some _,some _,some _,some _,s6,_,rfl,.inr ⟨_,rfl⟩,rfl⟩
   ·rintro t ts μ M2 ⟨todo,s6,e,htd,rfl⟩ k2
    cases todo with
    |nil=>cases e
    |cons b todo =>
     obtain⟨rfl,rfl⟩:=List.cons.inj e;have hb:=htd b JG;have hP:DV rs (fL b):=⟨h60,aU,hb.cd⟩;have hsl:(cH (rs.map (cA (fL b)))).length=rs.length:=by unfold cH;rw[Js,Js]
     obtain⟨ws,ps,hres⟩:=res_some hP.sz (by rw[hsl,Js]) (by rw[hsl];exact h60) hP.go
     obtain⟨gw,_,_⟩:=pK (by rw[hsl,Js]) (by rw[hsl];exact h60) hP.go hres
     walk_at "rt";refine⟨rs,b,ws,ps,rfl,hb,hP,hres,?_⟩;walk_at "rt";refine⟨rs,b,ws,ps,rfl,hb,hP,hres,?_⟩;walk_at "rt";refine⟨_,_,rfl,?_,?_⟩
     ·rw[M7,fE gw.lw.symm,hsl];exact h60
     ·walk_at "rt";exact k2 _ ⟨todo,some _,rfl,fun b hb=>htd b (J8 _ hb),rfl⟩
theorem Eg{C:Addr}(args:List L2.T)(Q:R->List L2.T->Prop)(h:vJ args Q):AY C args Q fun _=>False:=by
 obtain⟨ls,e,h1,h2,q⟩:=h;exact⟨ls,e,h1,.inl ⟨h2,q⟩⟩
theorem Jl(args:List L2.T)(Q:R->List L2.T->Prop)(h:qC args Q):rP mg args Q fun _=>False:=by
 obtain⟨ss,gs,ws,ps,e,h1,h2,h3,h4,q⟩:=h;refine⟨ss,gs,e,h1,h2,h3,fun ws' ps' e' _ _=>?_,fun e'=>?_⟩
 ·rw[h4] at e';cases e';exact q
 ·rw[h4] at e';cases e'
theorem BH{f:Addr}(T:Txt K mg)(f_can:HasFn K mg "can_be" dc ["lengths"])(f_code:HasFn K mg "code_of" cF ["lengths"])(f_behind:HasFn K mg "word_behind" bp ["ahead","length"])(f_goal:HasFn K mg "goal_of" cP ["row"])(f_leastw:HasFn K mg "least_widths" aZ ["sizes","goals"])(f_raised:HasFn K mg "raised_till_good" aH ["sizes","goals"])(f_narrowest:HasFn K mg "narrowest" bJ ["goals"])(f_narrow:HasFn K mg "first_too_narrow" aG ["sizes","goals","widths"])(f_fits:HasFn K mg "fits" eX ["starts","goals","widths","row"])(f_dist:HasFn K mg "distance_of" bz ["starts","goals","row"])(f_starts:HasFn K mg "row_starts" bE ["sizes","widths"])(f_own:HasFn K mg "own_part" cx ["width"])
  (f_coded:HasFn K mg "coded_things" aX ["row"]) (f_codes:HasFn K mg "codes_of" b_ ["book"]) (f_pack:HasFn K mg "pack_rows" a_ ["program","book"]) (f_ahead:HasFn K mg "bits_ahead_of_goal" aA ["row","codes"]) (f_fbf:HasFn K mg "figures_behind_first" az ["number"]) (f_jump:HasFn K mg "jump_written" aW ["width","distance"]) (f_last:HasFn K mg "last_figures" aV ["number","many"])
  (f_fold:HasFn K mg "_law_folded" bw ["script"]) (f_seed:HasFn K mg "_law_seed" bZ ["cell"]) (f_draw:HasFn K mg "_law_draw" bV ["seed","most"]) (f_lplaces:HasFn K mg "_law_places" b6 ["sizes","widths"]) (f_lfits:HasFn K mg "_law_fits" bT ["far","width"]) (f_words:HasFn K mg "_law_words" bH []) (f_number:HasFn K mg "_law_number" bu ["seed"]) (f_row:HasFn K mg "_law_row" cy ["seed","many","words"]) (f_prog:HasFn K mg "_law_program" aP ["seed","most","words"]) (f_fig:HasFn K mg "_law_figures" aY ["number"]) (f_llens:HasFn K mg "_law_lengths" aL ["seed","many","most"]) (f_book:HasFn K mg "_law_book" bY ["seed","most"]) (f_lbits:HasFn K mg "_law_bits" bW ["number","width"]) (f_lcode:HasFn K mg "_law_code" bK ["lengths"]) (f_lhead:HasFn K mg "_law_head" bS ["row","codes"]) (f_lgoals:HasFn K mg "_law_goals" b7 ["program"]) (f_str:HasFn K mg "_law_strained" aQ ["sizes","goals","widths"]) (f_laid:HasFn K mg "_law_laid" aS ["program","book"]) (f_is:HasFn K mg "_law_is" cC ["found","due"]) (F:yh K "law" "law" f_ f fd):ee P w K mg base bA 9 f fd ["script"] (lu K):=by
 obtain⟨C_NoCode,hC_NoCode,kC_NoCode⟩:=T.xs;have dr:=zG (P:=P) (w:=w) (base:=base) T f_draw;have wd9:=s_ (P:=P) (w:=w) (base:=base) T f_words;have di:=jK (P:=P) (w:=w) (base:=base) T f_dist;have st:=km (P:=P) (w:=w) (base:=base) T f_starts (nF T f_own);have la:=zk (P:=P) (w:=w) (base:=base) T f_last;have lw:=sC (P:=P) (w:=w) (base:=base) T f_leastw (oV T f_raised (mh T f_narrowest) (tP T f_narrow st (zS T f_fits di)));have co:=zZ (P:=P) (w:=w) (base:=base) T f_code (C4 T f_can) (t5 T f_behind) hC_NoCode kC_NoCode;have lb:=w4 (P:=P) (w:=w) (base:=base) T f_lbits;have lp:=pJ (P:=P) (w:=w) (base:=base) T f_lplaces;have pk:=zd T f_pack (vk T f_codes ((co.calm Eg).mono (by decide))) (uV T f_ahead (vo T f_coded) (CL T f_fbf la)) (yn T f_goal) (lw.calm Jl) st di (Aa T f_jump la)
 exact CZ T F (sj T f_fold) (zr T f_seed) (pR T f_prog dr (D9 T f_row dr wd9 (tN T f_number dr))) (yk T f_book dr (xn T f_llens dr)) pk (yW T f_laid (vQ T f_lcode lb) (xJ T f_lhead wd9 (pH T f_fig)) (tZ T f_lgoals) (nH T f_str lp (xR T f_lfits)) lp lb) (FR T f_is)
theorem all_mk{w:World}{K:Oi}{h:Heap}{fa:Addr}(X:K.In h)(G:h.Ns mainGlobals mg)(hfa:mg "law"=some (.ref fa))
  {f0 f1 f2 f3 f4 f5 f6 f7 f8 f9 f10 f11 f12 f13 f14 f15 f16 f17 f18 f19 f20 f21 f22 f23 f24 f25 f26 f27 f28 f29 f30 f31 f32 f33 f34 f35 f36 f37 f38:Addr} {od0 an0 od1 an1 od2 an2 od3 an3 od4 an4 od5 an5 od6 an6 od7 an7 od8 an8 od9 an9 od10 an10 od11 an11 od12 an12 od13 an13 od14 an14 od15 an15 od16 an16 od17 an17 od18 an18 od19 an19 od20 an20 od21 an21 od22 an22 od23 an23 od24 an24 od25 an25 od26 an26 od27 an27 od28 an28 od29 an29 od30 an30 od31 an31 od32 an32 od33 an33 od34 an34 od35 an35 od36 an36 od37 an37 od38 an38:Option Addr} {sl0 sl1 sl2 sl3 sl4 sl5 sl6 sl7 sl8 sl9 sl10 sl11 sl12 sl13 sl14 sl15 sl16 sl17 sl18 sl19 sl20 sl21 sl22 sl23 sl24 sl25 sl26 sl27 sl28 sl29 sl30 sl31 sl32 sl33 sl34 sl35 sl36 sl37 sl38:Array (Option Value)} {oc0 kV0 dc0 pm0 cd0 ct0 oc1 kV1 dc1 pm1 cd1 ct1 oc2 kV2 dc2 pm2 cd2 ct2 oc3 kV3 dc3 pm3 cd3 ct3 oc4 kV4 dc4 pm4 cd4 ct4 oc5 kV5 dc5 pm5 cd5 ct5 oc6 kV6 dc6 pm6 cd6 ct6 oc7 kV7 dc7 pm7 cd7 ct7 oc8 kV8 dc8 pm8 cd8 ct8 oc9 kV9 dc9 pm9 cd9 ct9 oc10 kV10 dc10 pm10 cd10 ct10 oc11 kV11 dc11 pm11 cd11 ct11 oc12 kV12 dc12 pm12 cd12 ct12 oc13 kV13 dc13 pm13 cd13 ct13 oc14 kV14 dc14 pm14 cd14 ct14 oc15 kV15 dc15 pm15 cd15 ct15 oc16 kV16 dc16 pm16 cd16 ct16 oc17 kV17 dc17 pm17 cd17 ct17 oc18 kV18 dc18 pm18 cd18 ct18 oc19 kV19 dc19 pm19 cd19 ct19 oc20 kV20 dc20 pm20 cd20 ct20 oc21 kV21 dc21 pm21 cd21 ct21 oc22 kV22 dc22 pm22 cd22 ct22 oc23 kV23 dc23 pm23 cd23 ct23 oc24 kV24 dc24 pm24 cd24 ct24 oc25 kV25 dc25 pm25 cd25 ct25 oc26 kV26 dc26 pm26 cd26 ct26 oc27 kV27 dc27 pm27 cd27 ct27 oc28 kV28 dc28 pm28 cd28 ct28 oc29 kV29 dc29 pm29 cd29 ct29 oc30 kV30 dc30 pm30 cd30 ct30 oc31 kV31 dc31 pm31 cd31 ct31 oc32 kV32 dc32 pm32 cd32 ct32 oc33 kV33 dc33 pm33 cd33 ct33 oc34 kV34 dc34 pm34 cd34 ct34 oc35 kV35 dc35 pm35 cd35 ct35 oc36 kV36 dc36 pm36 cd36 ct36 oc37 kV37 dc37 pm37 cd37 ct37 oc38 kV38 dc38 pm38 cd38 ct38:Value}
  {q0:Addr} {qn0:Nat} {qs0:Array (Option Value)} {w0_0 w0_1 w0_2 w0_3 w0_4 w0_5 w0_6 w0_7:Tok}
  {q1:Addr} {qd1:Option Addr} {qn1:Nat} {qs1:Array (Option Value)} {w1_0 w1_1 w1_2:Tok}
  {q2:Addr} {qd2:Option Addr} {qn2:Nat} {qs2:Array (Option Value)} {w2_0 w2_1 w2_2:Tok}
  {w3_0:Tok}
  {w4_0:Tok}
  {w5_0:Tok}
  {w6_0:Tok}
  {q7:Addr} {qd7:Option Addr} {qn7:Nat} {qs7:Array (Option Value)} {w7_0 w7_1 w7_2:Tok}
  {dd0:Addr} {dh0_ep:Nat} {dh0_0 dh0_1 dh0_2 dh0_3 dh0_4 dh0_5 dh0_6 dh0_7 dh0_8:Int} {dp0_0 dp0_1 dp0_2 dp0_3 dp0_4 dp0_5 dp0_6 dp0_7 dp0_8:Addr} {do0_0 do0_1 do0_2 do0_3 do0_4 do0_5 do0_6 do0_7 do0_8:Option Addr} {dn0_0 dn0_1 dn0_2 dn0_3 dn0_4 dn0_5 dn0_6 dn0_7 dn0_8:Nat} {ds0_0 ds0_1 ds0_2 ds0_3 ds0_4 ds0_5 ds0_6 ds0_7 ds0_8:Array (Option Value)} {dt0_0 dt0_1 dt0_2 dt0_3 dt0_4 dt0_5 dt0_6 dt0_7 dt0_8 dw0_0_0 dw0_0_1 dw0_1_0 dw0_1_1 dw0_2_0 dw0_2_1 dw0_3_0 dw0_3_1 dw0_4_0 dw0_5_0 dw0_6_0 dw0_7_0 dw0_7_1:Tok}
  {xc0:Addr}
  {xd_NoCode:Addr}
      
  (a0:PySem.W.nsIn K mainGlobals "can_be"=some (some (.ref f0))) (l0:K.lookup f0=some ⟨oc0,od0,.func (PySem.W.fnOf "can_be" "can_be" (ar dc) (aj dc) (aa dc) .none kV0 dc0 pm0 an0 cd0 ct0),sl0⟩) (c0:PySem.W.codeIn K cd0 "can_be"=true) (k0:PySem.W.keepIn K (.ref f0)=true)
  (a1:PySem.W.nsIn K mainGlobals "code_of"=some (some (.ref f1))) (l1:K.lookup f1=some ⟨oc1,od1,.func (PySem.W.fnOf "code_of" "code_of" (ar cF) (aj cF) (aa cF) .none kV1 dc1 pm1 an1 cd1 ct1),sl1⟩) (c1:PySem.W.codeIn K cd1 "code_of"=true) (k1:PySem.W.keepIn K (.ref f1)=true)
  (a2:PySem.W.nsIn K mainGlobals "word_behind"=some (some (.ref f2))) (l2:K.lookup f2=some ⟨oc2,od2,.func (PySem.W.fnOf "word_behind" "word_behind" (ar bp) (aj bp) (aa bp) .none kV2 dc2 pm2 an2 cd2 ct2),sl2⟩) (c2:PySem.W.codeIn K cd2 "word_behind"=true) (k2:PySem.W.keepIn K (.ref f2)=true)
  (a3:PySem.W.nsIn K mainGlobals "goal_of"=some (some (.ref f3))) (l3:K.lookup f3=some ⟨oc3,od3,.func (PySem.W.fnOf "goal_of" "goal_of" (ar cP) (aj cP) (aa cP) .none kV3 dc3 pm3 an3 cd3 ct3),sl3⟩) (c3:PySem.W.codeIn K cd3 "goal_of"=true) (k3:PySem.W.keepIn K (.ref f3)=true)
  (a4:PySem.W.nsIn K mainGlobals "least_widths"=some (some (.ref f4))) (l4:K.lookup f4=some ⟨oc4,od4,.func (PySem.W.fnOf "least_widths" "least_widths" (ar aZ) (aj aZ) (aa aZ) .none kV4 dc4 pm4 an4 cd4 ct4),sl4⟩) (c4:PySem.W.codeIn K cd4 "least_widths"=true) (k4:PySem.W.keepIn K (.ref f4)=true)
  (a5:PySem.W.nsIn K mainGlobals "raised_till_good"=some (some (.ref f5))) (l5:K.lookup f5=some ⟨oc5,od5,.func (PySem.W.fnOf "raised_till_good" "raised_till_good" (ar aH) (aj aH) (aa aH) .none kV5 dc5 pm5 an5 cd5 ct5),sl5⟩) (c5:PySem.W.codeIn K cd5 "raised_till_good"=true) (k5:PySem.W.keepIn K (.ref f5)=true)
  (a6:PySem.W.nsIn K mainGlobals "narrowest"=some (some (.ref f6))) (l6:K.lookup f6=some ⟨oc6,od6,.func (PySem.W.fnOf "narrowest" "narrowest" (ar bJ) (aj bJ) (aa bJ) .none kV6 dc6 pm6 an6 cd6 ct6),sl6⟩) (c6:PySem.W.codeIn K cd6 "narrowest"=true) (k6:PySem.W.keepIn K (.ref f6)=true)
  (a7:PySem.W.nsIn K mainGlobals "first_too_narrow"=some (some (.ref f7))) (l7:K.lookup f7=some ⟨oc7,od7,.func (PySem.W.fnOf "first_too_narrow" "first_too_narrow" (ar aG) (aj aG) (aa aG) .none kV7 dc7 pm7 an7 cd7 ct7),sl7⟩) (c7:PySem.W.codeIn K cd7 "first_too_narrow"=true) (k7:PySem.W.keepIn K (.ref f7)=true)
  (a8:PySem.W.nsIn K mainGlobals "fits"=some (some (.ref f8))) (l8:K.lookup f8=some ⟨oc8,od8,.func (PySem.W.fnOf "fits" "fits" (ar eX) (aj eX) (aa eX) .none kV8 dc8 pm8 an8 cd8 ct8),sl8⟩) (c8:PySem.W.codeIn K cd8 "fits"=true) (k8:PySem.W.keepIn K (.ref f8)=true)
  (a9:PySem.W.nsIn K mainGlobals "distance_of"=some (some (.ref f9))) (l9:K.lookup f9=some ⟨oc9,od9,.func (PySem.W.fnOf "distance_of" "distance_of" (ar bz) (aj bz) (aa bz) .none kV9 dc9 pm9 an9 cd9 ct9),sl9⟩) (c9:PySem.W.codeIn K cd9 "distance_of"=true) (k9:PySem.W.keepIn K (.ref f9)=true)
  (a10:PySem.W.nsIn K mainGlobals "row_starts"=some (some (.ref f10))) (l10:K.lookup f10=some ⟨oc10,od10,.func (PySem.W.fnOf "row_starts" "row_starts" (ar bE) (aj bE) (aa bE) .none kV10 dc10 pm10 an10 cd10 ct10),sl10⟩) (c10:PySem.W.codeIn K cd10 "row_starts"=true) (k10:PySem.W.keepIn K (.ref f10)=true)
  (a11:PySem.W.nsIn K mainGlobals "own_part"=some (some (.ref f11))) (l11:K.lookup f11=some ⟨oc11,od11,.func (PySem.W.fnOf "own_part" "own_part" (ar cx) (aj cx) (aa cx) .none kV11 dc11 pm11 an11 cd11 ct11),sl11⟩) (c11:PySem.W.codeIn K cd11 "own_part"=true) (k11:PySem.W.keepIn K (.ref f11)=true)
  (a12:PySem.W.nsIn K mainGlobals "coded_things"=some (some (.ref f12))) (l12:K.lookup f12=some ⟨oc12,od12,.func (PySem.W.fnOf "coded_things" "coded_things" (ar aX) (aj aX) (aa aX) .none kV12 dc12 pm12 an12 cd12 ct12),sl12⟩) (c12:PySem.W.codeIn K cd12 "coded_things"=true) (k12:PySem.W.keepIn K (.ref f12)=true)
  (a13:PySem.W.nsIn K mainGlobals "codes_of"=some (some (.ref f13))) (l13:K.lookup f13=some ⟨oc13,od13,.func (PySem.W.fnOf "codes_of" "codes_of" (ar b_) (aj b_) (aa b_) .none kV13 dc13 pm13 an13 cd13 ct13),sl13⟩) (c13:PySem.W.codeIn K cd13 "codes_of"=true) (k13:PySem.W.keepIn K (.ref f13)=true)
  (a14:PySem.W.nsIn K mainGlobals "pack_rows"=some (some (.ref f14))) (l14:K.lookup f14=some ⟨oc14,od14,.func (PySem.W.fnOf "pack_rows" "pack_rows" (ar a_) (aj a_) (aa a_) .none kV14 dc14 pm14 an14 cd14 ct14),sl14⟩) (c14:PySem.W.codeIn K cd14 "pack_rows"=true) (k14:PySem.W.keepIn K (.ref f14)=true)
  (a15:PySem.W.nsIn K mainGlobals "bits_ahead_of_goal"=some (some (.ref f15))) (l15:K.lookup f15=some ⟨oc15,od15,.func (PySem.W.fnOf "bits_ahead_of_goal" "bits_ahead_of_goal" (ar aA) (aj aA) (aa aA) .none kV15 dc15 pm15 an15 cd15 ct15),sl15⟩) (c15:PySem.W.codeIn K cd15 "bits_ahead_of_goal"=true) (k15:PySem.W.keepIn K (.ref f15)=true)
  (a16:PySem.W.nsIn K mainGlobals "figures_behind_first"=some (some (.ref f16))) (l16:K.lookup f16=some ⟨oc16,od16,.func (PySem.W.fnOf "figures_behind_first" "figures_behind_first" (ar az) (aj az) (aa az) .none kV16 dc16 pm16 an16 cd16 ct16),sl16⟩) (c16:PySem.W.codeIn K cd16 "figures_behind_first"=true) (k16:PySem.W.keepIn K (.ref f16)=true)
  (a17:PySem.W.nsIn K mainGlobals "jump_written"=some (some (.ref f17))) (l17:K.lookup f17=some ⟨oc17,od17,.func (PySem.W.fnOf "jump_written" "jump_written" (ar aW) (aj aW) (aa aW) .none kV17 dc17 pm17 an17 cd17 ct17),sl17⟩) (c17:PySem.W.codeIn K cd17 "jump_written"=true) (k17:PySem.W.keepIn K (.ref f17)=true)
  (a18:PySem.W.nsIn K mainGlobals "last_figures"=some (some (.ref f18))) (l18:K.lookup f18=some ⟨oc18,od18,.func (PySem.W.fnOf "last_figures" "last_figures" (ar aV) (aj aV) (aa aV) .none kV18 dc18 pm18 an18 cd18 ct18),sl18⟩) (c18:PySem.W.codeIn K cd18 "last_figures"=true) (k18:PySem.W.keepIn K (.ref f18)=true)
  (a19:PySem.W.nsIn K mainGlobals "_law_folded"=some (some (.ref f19))) (l19:K.lookup f19=some ⟨oc19,od19,.func (PySem.W.fnOf "_law_folded" "_law_folded" (ar bw) (aj bw) (aa bw) .none kV19 dc19 pm19 an19 cd19 ct19),sl19⟩) (c19:PySem.W.codeIn K cd19 "_law_folded"=true) (k19:PySem.W.keepIn K (.ref f19)=true)
  (a20:PySem.W.nsIn K mainGlobals "_law_seed"=some (some (.ref f20))) (l20:K.lookup f20=some ⟨oc20,od20,.func (PySem.W.fnOf "_law_seed" "_law_seed" (ar bZ) (aj bZ) (aa bZ) .none kV20 dc20 pm20 an20 cd20 ct20),sl20⟩) (c20:PySem.W.codeIn K cd20 "_law_seed"=true) (k20:PySem.W.keepIn K (.ref f20)=true)
  (a21:PySem.W.nsIn K mainGlobals "_law_draw"=some (some (.ref f21))) (l21:K.lookup f21=some ⟨oc21,od21,.func (PySem.W.fnOf "_law_draw" "_law_draw" (ar bV) (aj bV) (aa bV) .none kV21 dc21 pm21 an21 cd21 ct21),sl21⟩) (c21:PySem.W.codeIn K cd21 "_law_draw"=true) (k21:PySem.W.keepIn K (.ref f21)=true)
  (a22:PySem.W.nsIn K mainGlobals "_law_places"=some (some (.ref f22))) (l22:K.lookup f22=some ⟨oc22,od22,.func (PySem.W.fnOf "_law_places" "_law_places" (ar b6) (aj b6) (aa b6) .none kV22 dc22 pm22 an22 cd22 ct22),sl22⟩) (c22:PySem.W.codeIn K cd22 "_law_places"=true) (k22:PySem.W.keepIn K (.ref f22)=true)
  (a23:PySem.W.nsIn K mainGlobals "_law_fits"=some (some (.ref f23))) (l23:K.lookup f23=some ⟨oc23,od23,.func (PySem.W.fnOf "_law_fits" "_law_fits" (ar bT) (aj bT) (aa bT) .none kV23 dc23 pm23 an23 cd23 ct23),sl23⟩) (c23:PySem.W.codeIn K cd23 "_law_fits"=true) (k23:PySem.W.keepIn K (.ref f23)=true)
  (a24:PySem.W.nsIn K mainGlobals "_law_words"=some (some (.ref f24))) (l24:K.lookup f24=some ⟨oc24,od24,.func (PySem.W.fnOf "_law_words" "_law_words" (ar bH) (aj bH) (aa bH) .none kV24 dc24 pm24 an24 cd24 ct24),sl24⟩) (c24:PySem.W.codeIn K cd24 "_law_words"=true) (k24:PySem.W.keepIn K (.ref f24)=true)
  (a25:PySem.W.nsIn K mainGlobals "_law_number"=some (some (.ref f25))) (l25:K.lookup f25=some ⟨oc25,od25,.func (PySem.W.fnOf "_law_number" "_law_number" (ar bu) (aj bu) (aa bu) .none kV25 dc25 pm25 an25 cd25 ct25),sl25⟩) (c25:PySem.W.codeIn K cd25 "_law_number"=true) (k25:PySem.W.keepIn K (.ref f25)=true)
  (a26:PySem.W.nsIn K mainGlobals "_law_row"=some (some (.ref f26))) (l26:K.lookup f26=some ⟨oc26,od26,.func (PySem.W.fnOf "_law_row" "_law_row" (ar cy) (aj cy) (aa cy) .none kV26 dc26 pm26 an26 cd26 ct26),sl26⟩) (c26:PySem.W.codeIn K cd26 "_law_row"=true) (k26:PySem.W.keepIn K (.ref f26)=true)
  (a27:PySem.W.nsIn K mainGlobals "_law_program"=some (some (.ref f27))) (l27:K.lookup f27=some ⟨oc27,od27,.func (PySem.W.fnOf "_law_program" "_law_program" (ar aP) (aj aP) (aa aP) .none kV27 dc27 pm27 an27 cd27 ct27),sl27⟩) (c27:PySem.W.codeIn K cd27 "_law_program"=true) (k27:PySem.W.keepIn K (.ref f27)=true)
  (a28:PySem.W.nsIn K mainGlobals "_law_figures"=some (some (.ref f28))) (l28:K.lookup f28=some ⟨oc28,od28,.func (PySem.W.fnOf "_law_figures" "_law_figures" (ar aY) (aj aY) (aa aY) .none kV28 dc28 pm28 an28 cd28 ct28),sl28⟩) (c28:PySem.W.codeIn K cd28 "_law_figures"=true) (k28:PySem.W.keepIn K (.ref f28)=true)
  (a29:PySem.W.nsIn K mainGlobals "_law_lengths"=some (some (.ref f29))) (l29:K.lookup f29=some ⟨oc29,od29,.func (PySem.W.fnOf "_law_lengths" "_law_lengths" (ar aL) (aj aL) (aa aL) .none kV29 dc29 pm29 an29 cd29 ct29),sl29⟩) (c29:PySem.W.codeIn K cd29 "_law_lengths"=true) (k29:PySem.W.keepIn K (.ref f29)=true)
  (a30:PySem.W.nsIn K mainGlobals "_law_book"=some (some (.ref f30))) (l30:K.lookup f30=some ⟨oc30,od30,.func (PySem.W.fnOf "_law_book" "_law_book" (ar bY) (aj bY) (aa bY) .none kV30 dc30 pm30 an30 cd30 ct30),sl30⟩) (c30:PySem.W.codeIn K cd30 "_law_book"=true) (k30:PySem.W.keepIn K (.ref f30)=true)
  (a31:PySem.W.nsIn K mainGlobals "_law_bits"=some (some (.ref f31))) (l31:K.lookup f31=some ⟨oc31,od31,.func (PySem.W.fnOf "_law_bits" "_law_bits" (ar bW) (aj bW) (aa bW) .none kV31 dc31 pm31 an31 cd31 ct31),sl31⟩) (c31:PySem.W.codeIn K cd31 "_law_bits"=true) (k31:PySem.W.keepIn K (.ref f31)=true)
  (a32:PySem.W.nsIn K mainGlobals "_law_code"=some (some (.ref f32))) (l32:K.lookup f32=some ⟨oc32,od32,.func (PySem.W.fnOf "_law_code" "_law_code" (ar bK) (aj bK) (aa bK) .none kV32 dc32 pm32 an32 cd32 ct32),sl32⟩) (c32:PySem.W.codeIn K cd32 "_law_code"=true) (k32:PySem.W.keepIn K (.ref f32)=true)
  (a33:PySem.W.nsIn K mainGlobals "_law_head"=some (some (.ref f33))) (l33:K.lookup f33=some ⟨oc33,od33,.func (PySem.W.fnOf "_law_head" "_law_head" (ar bS) (aj bS) (aa bS) .none kV33 dc33 pm33 an33 cd33 ct33),sl33⟩) (c33:PySem.W.codeIn K cd33 "_law_head"=true) (k33:PySem.W.keepIn K (.ref f33)=true)
  (a34:PySem.W.nsIn K mainGlobals "_law_goals"=some (some (.ref f34))) (l34:K.lookup f34=some ⟨oc34,od34,.func (PySem.W.fnOf "_law_goals" "_law_goals" (ar b7) (aj b7) (aa b7) .none kV34 dc34 pm34 an34 cd34 ct34),sl34⟩) (c34:PySem.W.codeIn K cd34 "_law_goals"=true) (k34:PySem.W.keepIn K (.ref f34)=true)
  (a35:PySem.W.nsIn K mainGlobals "_law_strained"=some (some (.ref f35))) (l35:K.lookup f35=some ⟨oc35,od35,.func (PySem.W.fnOf "_law_strained" "_law_strained" (ar aQ) (aj aQ) (aa aQ) .none kV35 dc35 pm35 an35 cd35 ct35),sl35⟩) (c35:PySem.W.codeIn K cd35 "_law_strained"=true) (k35:PySem.W.keepIn K (.ref f35)=true)
  (a36:PySem.W.nsIn K mainGlobals "_law_laid"=some (some (.ref f36))) (l36:K.lookup f36=some ⟨oc36,od36,.func (PySem.W.fnOf "_law_laid" "_law_laid" (ar aS) (aj aS) (aa aS) .none kV36 dc36 pm36 an36 cd36 ct36),sl36⟩) (c36:PySem.W.codeIn K cd36 "_law_laid"=true) (k36:PySem.W.keepIn K (.ref f36)=true)
  (a37:PySem.W.nsIn K mainGlobals "_law_is"=some (some (.ref f37))) (l37:K.lookup f37=some ⟨oc37,od37,.func (PySem.W.fnOf "_law_is" "_law_is" (ar cC) (aj cC) (aa cC) .none kV37 dc37 pm37 an37 cd37 ct37),sl37⟩) (c37:PySem.W.codeIn K cd37 "_law_is"=true) (k37:PySem.W.keepIn K (.ref f37)=true)
  (a38:PySem.W.nsIn K mainGlobals "law"=some (some (.ref f38))) (l38:K.lookup f38=some ⟨oc38,od38,.func (PySem.W.fnOf "law" "law" (ar f_) (aj f_) (aa f_) .none kV38 dc38 pm38 an38 cd38 ct38),sl38⟩) (c38:PySem.W.codeIn K cd38 "law"=true) (k38:PySem.W.keepIn K (.ref f38)=true)
  (z0:PySem.W.nsIn K mainGlobals "bool"=some none)
  (z1:PySem.W.nsIn K mainGlobals "enumerate"=some none)
  (z2:PySem.W.nsIn K mainGlobals "int"=some none)
  (z3:PySem.W.nsIn K mainGlobals "isinstance"=some none)
  (z4:PySem.W.nsIn K mainGlobals "len"=some none)
  (z5:PySem.W.nsIn K mainGlobals "list"=some none)
  (z6:PySem.W.nsIn K mainGlobals "max"=some none)
  (z7:PySem.W.nsIn K mainGlobals "min"=some none)
  (z8:PySem.W.nsIn K mainGlobals "range"=some none)
  (z9:PySem.W.nsIn K mainGlobals "sorted"=some none)
  (z10:PySem.W.nsIn K mainGlobals "str"=some none)
  (z11:PySem.W.nsIn K mainGlobals "tuple"=some none)
  (z12:PySem.W.nsIn K mainGlobals "zip"=some none)
  (g0:PySem.W.nsIn K mainGlobals "BOXES"=some (some (.ref q0))) (m0:K.lookup q0=some ⟨.type "tuple",none,.seq #[.str "a" w0_0,.str "b" w0_1,.str "c" w0_2,.str "d" w0_3,.str "e" w0_4,.str "f" w0_5,.str "g" w0_6,.str "h" w0_7] qn0,qs0⟩)
  (g1:PySem.W.nsIn K mainGlobals "HALVES"=some (some (.ref q1))) (m1:K.lookup q1=some ⟨.type "tuple",qd1,.seq #[.int 8 w1_0,.int 128 w1_1,.int 32768 w1_2] qn1,qs1⟩)
  (g2:PySem.W.nsIn K mainGlobals "HEADS"=some (some (.ref q2))) (m2:K.lookup q2=some ⟨.type "tuple",qd2,.seq #[.str "0" w2_0,.str "10" w2_1,.str "11" w2_2] qn2,qs2⟩)
  (g3:PySem.W.nsIn K mainGlobals "OF_BOXES"=some (some (.int 2 w3_0)))
  (g4:PySem.W.nsIn K mainGlobals "OF_CLASSES"=some (some (.int 1 w4_0)))
  (g5:PySem.W.nsIn K mainGlobals "OF_WORDS"=some (some (.int 0 w5_0)))
  (g6:PySem.W.nsIn K mainGlobals "WIDEST"=some (some (.int 2 w6_0)))
  (g7:PySem.W.nsIn K mainGlobals "WIDTHS"=some (some (.ref q7))) (m7:K.lookup q7=some ⟨.type "tuple",qd7,.seq #[.int 4 w7_0,.int 8 w7_1,.int 16 w7_2] qn7,qs7⟩)
  (dg0:PySem.W.nsIn K mainGlobals "SHAPES"=some (some (.ref dd0))) (dz0:(dd0 == sysModules)=false) (dl0:K.lookup dd0=some ⟨.type "dict",none,.dict #[⟨dh0_0,.str "put" dt0_0,.ref dp0_0⟩,⟨dh0_1,.str "add" dt0_1,.ref dp0_1⟩,⟨dh0_2,.str "sub" dt0_2,.ref dp0_2⟩,⟨dh0_3,.str "copy" dt0_3,.ref dp0_3⟩,⟨dh0_4,.str "tell" dt0_4,.ref dp0_4⟩,⟨dh0_5,.str "hear" dt0_5,.ref dp0_5⟩,⟨dh0_6,.str "jump" dt0_6,.ref dp0_6⟩,⟨dh0_7,.str "zero" dt0_7,.ref dp0_7⟩,⟨dh0_8,.str "halt" dt0_8,.ref dp0_8⟩] dh0_ep,#[]⟩)
  (dm0_0:K.lookup dp0_0=some ⟨.type "tuple",do0_0,.seq #[.str "box" dw0_0_0,.str "number" dw0_0_1] dn0_0,ds0_0⟩)
  (dm0_1:K.lookup dp0_1=some ⟨.type "tuple",do0_1,.seq #[.str "box" dw0_1_0,.str "box" dw0_1_1] dn0_1,ds0_1⟩)
  (dm0_2:K.lookup dp0_2=some ⟨.type "tuple",do0_2,.seq #[.str "box" dw0_2_0,.str "box" dw0_2_1] dn0_2,ds0_2⟩)
  (dm0_3:K.lookup dp0_3=some ⟨.type "tuple",do0_3,.seq #[.str "box" dw0_3_0,.str "box" dw0_3_1] dn0_3,ds0_3⟩)
  (dm0_4:K.lookup dp0_4=some ⟨.type "tuple",do0_4,.seq #[.str "box" dw0_4_0] dn0_4,ds0_4⟩)
  (dm0_5:K.lookup dp0_5=some ⟨.type "tuple",do0_5,.seq #[.str "box" dw0_5_0] dn0_5,ds0_5⟩)
  (dm0_6:K.lookup dp0_6=some ⟨.type "tuple",do0_6,.seq #[.str "goal" dw0_6_0] dn0_6,ds0_6⟩)
  (dm0_7:K.lookup dp0_7=some ⟨.type "tuple",do0_7,.seq #[.str "box" dw0_7_0,.str "goal" dw0_7_1] dn0_7,ds0_7⟩)
  (dm0_8:K.lookup dp0_8=some ⟨.type "tuple",do0_8,.seq #[] dn0_8,ds0_8⟩)
  (xa0:PySem.W.nsIn K mainGlobals "NoReach"=some (some (.ref xc0))) (xq0:PySem.W.excIn K xc0 [.type "ValueError",.type "Exception",.type "BaseException",.type "object"] "ValueError.__new__"=true)
  (xf0:PySem.W.nsIn K mainGlobals "NoCode"=some (some (.ref xd_NoCode)))
  (xf1:PySem.W.excIn K xd_NoCode [.type "ValueError",.type "Exception",.type "BaseException",.type "object"] "ValueError.__new__"=true)
  (le_code_of:cd1=.ref lc_code_of) (lk_code_of:K.lookup lc_code_of=some ⟨lO_code_of,lD_code_of,.fields lv_code_of,lS_code_of⟩) (lw_code_of:lv_code_of[11]?=some (.ref lp_code_of))
  : ∃ fd:FuncData,(∀(s:Shared) (v:Value),BindsTo s fd ⟨[v],[]⟩ [("script",v)])/\∀ base:Heap,K.In base->base.Ns mainGlobals mg->ee l.prog w K mg base bA 30 fa fd ["script"] (lu K):=by
 have e:=hfa.symm.trans (PySem.W.mg_of X G a38);cases e
 have T:Txt K mg:=⟨PySem.W.mg_none_of X G z0,PySem.W.mg_none_of X G z1,PySem.W.mg_none_of X G z2,PySem.W.mg_none_of X G z3,PySem.W.mg_none_of X G z4,PySem.W.mg_none_of X G z5,PySem.W.mg_none_of X G z6,PySem.W.mg_none_of X G z7,PySem.W.mg_none_of X G z8,PySem.W.mg_none_of X G z9,PySem.W.mg_none_of X G z10,PySem.W.mg_none_of X G z11,PySem.W.mg_none_of X G z12,⟨.ref q0,_,PySem.W.mg_of X G g0,rfl,fun H B=>.d_ (vs:=[.str "a",.str "b",.str "c",.str "d",.str "e",.str "f",.str "g",.str "h"]) ⟨_,_,_,m0,rfl,rfl,(by show 8<=sizeLine;decide),(.cons ⟨w0_0,rfl⟩ (.cons ⟨w0_1,rfl⟩ (.cons ⟨w0_2,rfl⟩ (.cons ⟨w0_3,rfl⟩ (.cons ⟨w0_4,rfl⟩ (.cons ⟨w0_5,rfl⟩ (.cons ⟨w0_6,rfl⟩ (.cons ⟨w0_7,rfl⟩ .nil))))))))⟩ (.cons (.str _) (.cons (.str _) (.cons (.str _) (.cons (.str _) (.cons (.str _) (.cons (.str _) (.cons (.str _) (.cons (.str _) .nil))))))))⟩,⟨.ref q1,_,PySem.W.mg_of X G g1,rfl,fun H B=>.d_ (vs:=[.int 8,.int 128,.int 32768]) ⟨_,_,_,m1,rfl,rfl,(by show 3<=sizeLine;decide),(.cons ⟨w1_0,rfl⟩ (.cons ⟨w1_1,rfl⟩ (.cons ⟨w1_2,rfl⟩ .nil)))⟩ (.cons (.int _) (.cons (.int _) (.cons (.int _) .nil)))⟩,⟨.ref q2,_,PySem.W.mg_of X G g2,rfl,fun H B=>.d_ (vs:=[.str "0",.str "10",.str "11"]) ⟨_,_,_,m2,rfl,rfl,(by show 3<=sizeLine;decide),(.cons ⟨w2_0,rfl⟩ (.cons ⟨w2_1,rfl⟩ (.cons ⟨w2_2,rfl⟩ .nil)))⟩ (.cons (.str _) (.cons (.str _) (.cons (.str _) .nil)))⟩,⟨.int 2,_,PySem.W.mg_of X G g3,⟨_,rfl⟩,fun H B=>.int _⟩,⟨.int 1,_,PySem.W.mg_of X G g4,⟨_,rfl⟩,fun H B=>.int _⟩,⟨.int 0,_,PySem.W.mg_of X G g5,⟨_,rfl⟩,fun H B=>.int _⟩,⟨.int 2,_,PySem.W.mg_of X G g6,⟨_,rfl⟩,fun H B=>.int _⟩,⟨.ref q7,_,PySem.W.mg_of X G g7,rfl,fun H B=>.d_ (vs:=[.int 4,.int 8,.int 16]) ⟨_,_,_,m7,rfl,rfl,(by show 3<=sizeLine;decide),(.cons ⟨w7_0,rfl⟩ (.cons ⟨w7_1,rfl⟩ (.cons ⟨w7_2,rfl⟩ .nil)))⟩ (.cons (.int _) (.cons (.int _) (.cons (.int _) .nil)))⟩,⟨q0,_,PySem.W.mg_of X G g0,m0,rfl⟩,⟨dd0,PySem.W.mg_of X G dg0,dz0,_,_,_,dl0,⟨rfl,rfl,rfl⟩,rfl,(.cons rfl ⟨dp0_0,rfl,⟨_,_,_,dm0_0,rfl,rfl,(by show 2<=sizeLine;decide),(.cons ⟨dw0_0_0,rfl⟩ (.cons ⟨dw0_0_1,rfl⟩ .nil))⟩⟩ (.cons rfl ⟨dp0_1,rfl,⟨_,_,_,dm0_1,rfl,rfl,(by show 2<=sizeLine;decide),(.cons ⟨dw0_1_0,rfl⟩ (.cons ⟨dw0_1_1,rfl⟩ .nil))⟩⟩ (.cons rfl ⟨dp0_2,rfl,⟨_,_,_,dm0_2,rfl,rfl,(by show 2<=sizeLine;decide),(.cons ⟨dw0_2_0,rfl⟩ (.cons ⟨dw0_2_1,rfl⟩ .nil))⟩⟩ (.cons rfl ⟨dp0_3,rfl,⟨_,_,_,dm0_3,rfl,rfl,(by show 2<=sizeLine;decide),(.cons ⟨dw0_3_0,rfl⟩ (.cons ⟨dw0_3_1,rfl⟩ .nil))⟩⟩ (.cons rfl ⟨dp0_4,rfl,⟨_,_,_,dm0_4,rfl,rfl,(by show 1<=sizeLine;decide),(.cons ⟨dw0_4_0,rfl⟩ .nil)⟩⟩ (.cons rfl ⟨dp0_5,rfl,⟨_,_,_,dm0_5,rfl,rfl,(by show 1<=sizeLine;decide),(.cons ⟨dw0_5_0,rfl⟩ .nil)⟩⟩ (.cons rfl ⟨dp0_6,rfl,⟨_,_,_,dm0_6,rfl,rfl,(by show 1<=sizeLine;decide),(.cons ⟨dw0_6_0,rfl⟩ .nil)⟩⟩ (.cons rfl ⟨dp0_7,rfl,⟨_,_,_,dm0_7,rfl,rfl,(by show 2<=sizeLine;decide),(.cons ⟨dw0_7_0,rfl⟩ (.cons ⟨dw0_7_1,rfl⟩ .nil))⟩⟩ (.cons rfl ⟨dp0_8,rfl,⟨_,_,_,dm0_8,rfl,rfl,(by show 0<=sizeLine;decide),.nil⟩⟩ .nil)))))))))⟩,⟨_,PySem.W.mg_of X G xa0,⟨xq0⟩⟩,⟨_,PySem.W.mg_of X G xf0,⟨xf1⟩⟩,qQ.mk' X G (n5 a1 l1 le_code_of lk_code_of lw_code_of)⟩
 have F0:HasFn K mg "can_be" dc ["lengths"]:=⟨f0,_,ah (st:=dc) l0 c0 k0,(ah (st:=dc) l0 c0 k0).binds (ps:=["lengths"]) (fun _ _ _ _ _ _ us hl=>by obtain⟨_,rfl⟩:=Y.fm hl;rfl),PySem.W.mg_of X G a0⟩
 have F1:HasFn K mg "code_of" cF ["lengths"]:=⟨f1,_,ah (st:=cF) l1 c1 k1,(ah (st:=cF) l1 c1 k1).binds (ps:=["lengths"]) (fun _ _ _ _ _ _ us hl=>by obtain⟨_,rfl⟩:=Y.fm hl;rfl),PySem.W.mg_of X G a1⟩
 have F2:HasFn K mg "word_behind" bp ["ahead","length"]:=⟨f2,_,ah (st:=bp) l2 c2 k2,(ah (st:=bp) l2 c2 k2).binds (ps:=["ahead","length"]) (fun _ _ _ _ _ _ us hl=>by obtain⟨_,_,rfl⟩:=Y.e_ hl;rfl),PySem.W.mg_of X G a2⟩
 have F3:HasFn K mg "goal_of" cP ["row"]:=⟨f3,_,ah (st:=cP) l3 c3 k3,(ah (st:=cP) l3 c3 k3).binds (ps:=["row"]) (fun _ _ _ _ _ _ us hl=>by obtain⟨_,rfl⟩:=Y.fm hl;rfl),PySem.W.mg_of X G a3⟩
 have F4:HasFn K mg "least_widths" aZ ["sizes","goals"]:=⟨f4,_,ah (st:=aZ) l4 c4 k4,(ah (st:=aZ) l4 c4 k4).binds (ps:=["sizes","goals"]) (fun _ _ _ _ _ _ us hl=>by obtain⟨_,_,rfl⟩:=Y.e_ hl;rfl),PySem.W.mg_of X G a4⟩
 have F5:HasFn K mg "raised_till_good" aH ["sizes","goals"]:=⟨f5,_,ah (st:=aH) l5 c5 k5,(ah (st:=aH) l5 c5 k5).binds (ps:=["sizes","goals"]) (fun _ _ _ _ _ _ us hl=>by obtain⟨_,_,rfl⟩:=Y.e_ hl;rfl),PySem.W.mg_of X G a5⟩
 have F6:HasFn K mg "narrowest" bJ ["goals"]:=⟨f6,_,ah (st:=bJ) l6 c6 k6,(ah (st:=bJ) l6 c6 k6).binds (ps:=["goals"]) (fun _ _ _ _ _ _ us hl=>by obtain⟨_,rfl⟩:=Y.fm hl;rfl),PySem.W.mg_of X G a6⟩
 have F7:HasFn K mg "first_too_narrow" aG ["sizes","goals","widths"]:=⟨f7,_,ah (st:=aG) l7 c7 k7,(ah (st:=aG) l7 c7 k7).binds (ps:=["sizes","goals","widths"]) (fun _ _ _ _ _ _ us hl=>by obtain⟨_,_,_,rfl⟩:=Y.oG hl;rfl),PySem.W.mg_of X G a7⟩
 have F8:HasFn K mg "fits" eX ["starts","goals","widths","row"]:=⟨f8,_,ah (st:=eX) l8 c8 k8,(ah (st:=eX) l8 c8 k8).binds (ps:=["starts","goals","widths","row"]) (fun _ _ _ _ _ _ us hl=>by obtain⟨_,_,_,_,rfl⟩:=Y.Ih hl;rfl),PySem.W.mg_of X G a8⟩
 have F9:HasFn K mg "distance_of" bz ["starts","goals","row"]:=⟨f9,_,ah (st:=bz) l9 c9 k9,(ah (st:=bz) l9 c9 k9).binds (ps:=["starts","goals","row"]) (fun _ _ _ _ _ _ us hl=>by obtain⟨_,_,_,rfl⟩:=Y.oG hl;rfl),PySem.W.mg_of X G a9⟩
 have F10:HasFn K mg "row_starts" bE ["sizes","widths"]:=⟨f10,_,ah (st:=bE) l10 c10 k10,(ah (st:=bE) l10 c10 k10).binds (ps:=["sizes","widths"]) (fun _ _ _ _ _ _ us hl=>by obtain⟨_,_,rfl⟩:=Y.e_ hl;rfl),PySem.W.mg_of X G a10⟩
 have F11:HasFn K mg "own_part" cx ["width"]:=⟨f11,_,ah (st:=cx) l11 c11 k11,(ah (st:=cx) l11 c11 k11).binds (ps:=["width"]) (fun _ _ _ _ _ _ us hl=>by obtain⟨_,rfl⟩:=Y.fm hl;rfl),PySem.W.mg_of X G a11⟩
 have F12:HasFn K mg "coded_things" aX ["row"]:=⟨f12,_,ah (st:=aX) l12 c12 k12,(ah (st:=aX) l12 c12 k12).binds (ps:=["row"]) (fun _ _ _ _ _ _ us hl=>by obtain⟨_,rfl⟩:=Y.fm hl;rfl),PySem.W.mg_of X G a12⟩
 have F13:HasFn K mg "codes_of" b_ ["book"]:=⟨f13,_,ah (st:=b_) l13 c13 k13,(ah (st:=b_) l13 c13 k13).binds (ps:=["book"]) (fun _ _ _ _ _ _ us hl=>by obtain⟨_,rfl⟩:=Y.fm hl;rfl),PySem.W.mg_of X G a13⟩
 have F14:HasFn K mg "pack_rows" a_ ["program","book"]:=⟨f14,_,ah (st:=a_) l14 c14 k14,(ah (st:=a_) l14 c14 k14).binds (ps:=["program","book"]) (fun _ _ _ _ _ _ us hl=>by obtain⟨_,_,rfl⟩:=Y.e_ hl;rfl),PySem.W.mg_of X G a14⟩
 have F15:HasFn K mg "bits_ahead_of_goal" aA ["row","codes"]:=⟨f15,_,ah (st:=aA) l15 c15 k15,(ah (st:=aA) l15 c15 k15).binds (ps:=["row","codes"]) (fun _ _ _ _ _ _ us hl=>by obtain⟨_,_,rfl⟩:=Y.e_ hl;rfl),PySem.W.mg_of X G a15⟩
 have F16:HasFn K mg "figures_behind_first" az ["number"]:=⟨f16,_,ah (st:=az) l16 c16 k16,(ah (st:=az) l16 c16 k16).binds (ps:=["number"]) (fun _ _ _ _ _ _ us hl=>by obtain⟨_,rfl⟩:=Y.fm hl;rfl),PySem.W.mg_of X G a16⟩
 have F17:HasFn K mg "jump_written" aW ["width","distance"]:=⟨f17,_,ah (st:=aW) l17 c17 k17,(ah (st:=aW) l17 c17 k17).binds (ps:=["width","distance"]) (fun _ _ _ _ _ _ us hl=>by obtain⟨_,_,rfl⟩:=Y.e_ hl;rfl),PySem.W.mg_of X G a17⟩
 have F18:HasFn K mg "last_figures" aV ["number","many"]:=⟨f18,_,ah (st:=aV) l18 c18 k18,(ah (st:=aV) l18 c18 k18).binds (ps:=["number","many"]) (fun _ _ _ _ _ _ us hl=>by obtain⟨_,_,rfl⟩:=Y.e_ hl;rfl),PySem.W.mg_of X G a18⟩
 have F19:HasFn K mg "_law_folded" bw ["script"]:=⟨f19,_,ah (st:=bw) l19 c19 k19,(ah (st:=bw) l19 c19 k19).binds (ps:=["script"]) (fun _ _ _ _ _ _ us hl=>by obtain⟨_,rfl⟩:=Y.fm hl;rfl),PySem.W.mg_of X G a19⟩
 have F20:HasFn K mg "_law_seed" bZ ["cell"]:=⟨f20,_,ah (st:=bZ) l20 c20 k20,(ah (st:=bZ) l20 c20 k20).binds (ps:=["cell"]) (fun _ _ _ _ _ _ us hl=>by obtain⟨_,rfl⟩:=Y.fm hl;rfl),PySem.W.mg_of X G a20⟩
 have F21:HasFn K mg "_law_draw" bV ["seed","most"]:=⟨f21,_,ah (st:=bV) l21 c21 k21,(ah (st:=bV) l21 c21 k21).binds (ps:=["seed","most"]) (fun _ _ _ _ _ _ us hl=>by obtain⟨_,_,rfl⟩:=Y.e_ hl;rfl),PySem.W.mg_of X G a21⟩
 have F22:HasFn K mg "_law_places" b6 ["sizes","widths"]:=⟨f22,_,ah (st:=b6) l22 c22 k22,(ah (st:=b6) l22 c22 k22).binds (ps:=["sizes","widths"]) (fun _ _ _ _ _ _ us hl=>by obtain⟨_,_,rfl⟩:=Y.e_ hl;rfl),PySem.W.mg_of X G a22⟩
 have F23:HasFn K mg "_law_fits" bT ["far","width"]:=⟨f23,_,ah (st:=bT) l23 c23 k23,(ah (st:=bT) l23 c23 k23).binds (ps:=["far","width"]) (fun _ _ _ _ _ _ us hl=>by obtain⟨_,_,rfl⟩:=Y.e_ hl;rfl),PySem.W.mg_of X G a23⟩
 have F24:HasFn K mg "_law_words" bH []:=⟨f24,_,ah (st:=bH) l24 c24 k24,(ah (st:=bH) l24 c24 k24).binds (ps:=[]) (fun _ _ _ _ _ _ us hl=>by match us,hl with |[],_=>rfl),PySem.W.mg_of X G a24⟩
 have F25:HasFn K mg "_law_number" bu ["seed"]:=⟨f25,_,ah (st:=bu) l25 c25 k25,(ah (st:=bu) l25 c25 k25).binds (ps:=["seed"]) (fun _ _ _ _ _ _ us hl=>by obtain⟨_,rfl⟩:=Y.fm hl;rfl),PySem.W.mg_of X G a25⟩
 have F26:HasFn K mg "_law_row" cy ["seed","many","words"]:=⟨f26,_,ah (st:=cy) l26 c26 k26,(ah (st:=cy) l26 c26 k26).binds (ps:=["seed","many","words"]) (fun _ _ _ _ _ _ us hl=>by obtain⟨_,_,_,rfl⟩:=Y.oG hl;rfl),PySem.W.mg_of X G a26⟩
 have F27:HasFn K mg "_law_program" aP ["seed","most","words"]:=⟨f27,_,ah (st:=aP) l27 c27 k27,(ah (st:=aP) l27 c27 k27).binds (ps:=["seed","most","words"]) (fun _ _ _ _ _ _ us hl=>by obtain⟨_,_,_,rfl⟩:=Y.oG hl;rfl),PySem.W.mg_of X G a27⟩
 have F28:HasFn K mg "_law_figures" aY ["number"]:=⟨f28,_,ah (st:=aY) l28 c28 k28,(ah (st:=aY) l28 c28 k28).binds (ps:=["number"]) (fun _ _ _ _ _ _ us hl=>by obtain⟨_,rfl⟩:=Y.fm hl;rfl),PySem.W.mg_of X G a28⟩
 have F29:HasFn K mg "_law_lengths" aL ["seed","many","most"]:=⟨f29,_,ah (st:=aL) l29 c29 k29,(ah (st:=aL) l29 c29 k29).binds (ps:=["seed","many","most"]) (fun _ _ _ _ _ _ us hl=>by obtain⟨_,_,_,rfl⟩:=Y.oG hl;rfl),PySem.W.mg_of X G a29⟩
 have F30:HasFn K mg "_law_book" bY ["seed","most"]:=⟨f30,_,ah (st:=bY) l30 c30 k30,(ah (st:=bY) l30 c30 k30).binds (ps:=["seed","most"]) (fun _ _ _ _ _ _ us hl=>by obtain⟨_,_,rfl⟩:=Y.e_ hl;rfl),PySem.W.mg_of X G a30⟩
 have F31:HasFn K mg "_law_bits" bW ["number","width"]:=⟨f31,_,ah (st:=bW) l31 c31 k31,(ah (st:=bW) l31 c31 k31).binds (ps:=["number","width"]) (fun _ _ _ _ _ _ us hl=>by obtain⟨_,_,rfl⟩:=Y.e_ hl;rfl),PySem.W.mg_of X G a31⟩
 have F32:HasFn K mg "_law_code" bK ["lengths"]:=⟨f32,_,ah (st:=bK) l32 c32 k32,(ah (st:=bK) l32 c32 k32).binds (ps:=["lengths"]) (fun _ _ _ _ _ _ us hl=>by obtain⟨_,rfl⟩:=Y.fm hl;rfl),PySem.W.mg_of X G a32⟩
 have F33:HasFn K mg "_law_head" bS ["row","codes"]:=⟨f33,_,ah (st:=bS) l33 c33 k33,(ah (st:=bS) l33 c33 k33).binds (ps:=["row","codes"]) (fun _ _ _ _ _ _ us hl=>by obtain⟨_,_,rfl⟩:=Y.e_ hl;rfl),PySem.W.mg_of X G a33⟩
 have F34:HasFn K mg "_law_goals" b7 ["program"]:=⟨f34,_,ah (st:=b7) l34 c34 k34,(ah (st:=b7) l34 c34 k34).binds (ps:=["program"]) (fun _ _ _ _ _ _ us hl=>by obtain⟨_,rfl⟩:=Y.fm hl;rfl),PySem.W.mg_of X G a34⟩
 have F35:HasFn K mg "_law_strained" aQ ["sizes","goals","widths"]:=⟨f35,_,ah (st:=aQ) l35 c35 k35,(ah (st:=aQ) l35 c35 k35).binds (ps:=["sizes","goals","widths"]) (fun _ _ _ _ _ _ us hl=>by obtain⟨_,_,_,rfl⟩:=Y.oG hl;rfl),PySem.W.mg_of X G a35⟩
 have F36:HasFn K mg "_law_laid" aS ["program","book"]:=⟨f36,_,ah (st:=aS) l36 c36 k36,(ah (st:=aS) l36 c36 k36).binds (ps:=["program","book"]) (fun _ _ _ _ _ _ us hl=>by obtain⟨_,_,rfl⟩:=Y.e_ hl;rfl),PySem.W.mg_of X G a36⟩
 have F37:HasFn K mg "_law_is" cC ["found","due"]:=⟨f37,_,ah (st:=cC) l37 c37 k37,(ah (st:=cC) l37 c37 k37).binds (ps:=["found","due"]) (fun _ _ _ _ _ _ us hl=>by obtain⟨_,_,rfl⟩:=Y.e_ hl;rfl),PySem.W.mg_of X G a37⟩
 exact⟨PySem.W.fnOf "law" "law" (ar f_) (aj f_) (aa f_) .none kV38 dc38 pm38 an38 cd38 ct38,fun s v=>.of_eq rfl,fun base _ _=>(BH T F0 F1 F2 F3 F4 F5 F6 F7 F8 F9 F10 F11 F12 F13 F14 F15 F16 F17 F18 F19 F20 F21 F22 F23 F24 F25 F26 F27 F28 F29 F30 F31 F32 F33 F34 F35 F36 F37 (ah (st:=f_) l38 c38 k38)).mono (by decide)⟩
theorem walk{loose:List Str}{XP:(Str->Option Value)->Heap->Prop}{YP:World->Heap->Prop}{d:DefRec}{K:Params->Oi}(hn:l.most=some 63)(hdf:d.params.defaults=[])
  (hY:∀(w:World) (h:Heap),YP w h->(K w.params).In h)
  (F:∀(w:World) (mg:Str->Option Value) (fa:Addr) (h:Heap),(K w.params).In h->h.Ns mainGlobals mg->mg d.name=some (.ref fa)->∃ fd:FuncData,(∀(s:Shared) (u:Value),BindsTo s fd ⟨[u],[]⟩ [("script",u)])/\∀ base:Heap,(K w.params).In base->base.Ns mainGlobals mg->ee l.prog w (K w.params) mg base bA 30 fa fd ["script"] (lu (K w.params))) (hL:∀(w:World) (h:Heap),(K w.params).In h->hJ q (K w.params)) :
  PySem.W.WalkO q loose XP YP l.row.toRowW d [] (fun f vs=>PySem.call f vs):=
 L2.zY (n:=63) (k:=30) (x:="script") (CX:=fun _=>bA) (sp:=fun w=>lu (K w.params)) hn (by decide) hdf ⟨rfl,by decide,by decide,rfl⟩ hY F (fun _ _ a ns hl _ hS=>⟨a,ns,rfl,hS,hl,fun _=>rfl⟩) (fun _ _ _ _ _ z=>z) hL
theorem CA{K:Oi}{h:Heap}(_:K.In h){la_code_of:Addr}{lo_code_of:Value}{ld_code_of:Option Addr}{lfd_code_of:FuncData}{ls_code_of:Array (Option Value)}(nt:PySem.W.noTabs K=true)
  (ma_by_worth:PySem.W.nsIn K mainGlobals "by_worth"=some none)
  (ma_by_weight:PySem.W.nsIn K mainGlobals "by_weight"=some none)
  (ma_code_of:PySem.W.nsIn K mainGlobals "code_of"=some (some (.ref la_code_of))) (ml_code_of:K.lookup la_code_of=some ⟨lo_code_of,ld_code_of,.func lfd_code_of,ls_code_of⟩) (mc_code_of:lfd_code_of.code=.ref lc_code_of) (mk_code_of:K.lookup lc_code_of=some ⟨lO_code_of,lD_code_of,.fields lv_code_of,lS_code_of⟩) (mw_code_of:lv_code_of[11]?=some (.ref lp_code_of)) (mr_code_of:((recsOf q).find? (fun e=>e.name ==("code_of":Str))).isSome=true)
  : hJ q K:=hJ.of nt (jO ma_by_worth) (jO ma_by_weight) (n5 ma_code_of ml_code_of mc_code_of mk_code_of mw_code_of) (by first|exact mn|simp) (.inl rfl) (.inl rfl) (.inr mr_code_of)
end
end G
open PySem PySem.W PyProof.Rows
set_option maxRecDepth 100000 in
set_option maxHeartbeats 0 in
theorem PySem.Challenge.cw_shortrows_k27_pack_rows_holds : PySem.Challenge.rw_shortrows_k27_pack_rows.Holds := by
 w_on;o_law;k_head;(case hw=>w_witness2)
 k_fill
 refine G.walk (l:=PySem.Challenge.rw_shortrows_k27_pack_rows) rfl rfl (fun w h Y=>by first|exact PySem.W.kIn_of Y|exact PySem.W.km_in_of Y) ?F ?L
 case F =>
  intro w mg fa h KX GN hmg
  refine' G.all_mk KX GN hmg ?a0 ?l0 ?c0 ?k0 ?a1 ?l1 ?c1 ?k1 ?a2 ?l2 ?c2 ?k2 ?a3 ?l3 ?c3 ?k3 ?a4 ?l4 ?c4 ?k4 ?a5 ?l5 ?c5 ?k5 ?a6 ?l6 ?c6 ?k6 ?a7 ?l7 ?c7 ?k7 ?a8 ?l8 ?c8 ?k8 ?a9 ?l9 ?c9 ?k9 ?a10 ?l10 ?c10 ?k10 ?a11 ?l11 ?c11 ?k11 ?a12 ?l12 ?c12 ?k12 ?a13 ?l13 ?c13 ?k13 ?a14 ?l14 ?c14 ?k14 ?a15 ?l15 ?c15 ?k15 ?a16 ?l16 ?c16 ?k16 ?a17 ?l17 ?c17 ?k17 ?a18 ?l18 ?c18 ?k18 ?a19 ?l19 ?c19 ?k19 ?a20 ?l20 ?c20 ?k20 ?a21 ?l21 ?c21 ?k21 ?a22 ?l22 ?c22 ?k22 ?a23 ?l23 ?c23 ?k23 ?a24 ?l24 ?c24 ?k24 ?a25 ?l25 ?c25 ?k25 ?a26 ?l26 ?c26 ?k26 ?a27 ?l27 ?c27 ?k27 ?a28 ?l28 ?c28 ?k28 ?a29 ?l29 ?c29 ?k29 ?a30 ?l30 ?c30 ?k30 ?a31 ?l31 ?c31 ?k31 ?a32 ?l32 ?c32 ?k32 ?a33 ?l33 ?c33 ?k33 ?a34 ?l34 ?c34 ?k34 ?a35 ?l35 ?c35 ?k35 ?a36 ?l36 ?c36 ?k36 ?a37 ?l37 ?c37 ?k37 ?a38 ?l38 ?c38 ?k38 ?z0 ?z1 ?z2 ?z3 ?z4 ?z5 ?z6 ?z7 ?z8 ?z9 ?z10 ?z11 ?z12 ?gq0 ?mq0 ?gq1 ?mq1 ?gq2 ?mq2 ?gq3 ?gq4 ?gq5 ?gq6 ?gq7 ?mq7 ?dg0 ?dz0 ?dl0 ?dm0_0 ?dm0_1 ?dm0_2 ?dm0_3 ?dm0_4 ?dm0_5 ?dm0_6 ?dm0_7 ?dm0_8 ?xa0 ?xq0 ?xf0 ?xf1 ?le_code_of ?lk_code_of ?lw_code_of
  (case a0=>k_is)
  (case l0=>k_is)
  (case c0=>k_is)
  (case k0=>k_is)
  (case a1=>k_is)
  (case l1=>k_is)
  (case c1=>k_is)
  (case k1=>k_is)
  (case a2=>k_is)
  (case l2=>k_is)
  (case c2=>k_is)
  (case k2=>k_is)
  (case a3=>k_is)
  (case l3=>k_is)
  (case c3=>k_is)
  (case k3=>k_is)
  (case a4=>k_is)
  (case l4=>k_is)
  (case c4=>k_is)
  (case k4=>k_is)
  (case a5=>k_is)
  (case l5=>k_is)
  (case c5=>k_is)
  (case k5=>k_is)
  (case a6=>k_is)
  (case l6=>k_is)
  (case c6=>k_is)
  (case k6=>k_is)
  (case a7=>k_is)
  (case l7=>k_is)
  (case c7=>k_is)
  (case k7=>k_is)
  (case a8=>k_is)
  (case l8=>k_is)
  (case c8=>k_is)
  (case k8=>k_is)
  (case a9=>k_is)
  (case l9=>k_is)
  (case c9=>k_is)
  (case k9=>k_is)
  (case a10=>k_is)
  (case l10=>k_is)
  (case c10=>k_is)
  (case k10=>k_is)
  (case a11=>k_is)
  (case l11=>k_is)
  (case c11=>k_is)
  (case k11=>k_is)
  (case a12=>k_is)
  (case l12=>k_is)
  (case c12=>k_is)
  (case k12=>k_is)
  (case a13=>k_is)
  (case l13=>k_is)
  (case c13=>k_is)
  (case k13=>k_is)
  (case a14=>k_is)
  (case l14=>k_is)
  (case c14=>k_is)
  (case k14=>k_is)
  (case a15=>k_is)
  (case l15=>k_is)
  (case c15=>k_is)
  (case k15=>k_is)
  (case a16=>k_is)
  (case l16=>k_is)
  (case c16=>k_is)
  (case k16=>k_is)
  (case a17=>k_is)
  (case l17=>k_is)
  (case c17=>k_is)
  (case k17=>k_is)
  (case a18=>k_is)
  (case l18=>k_is)
  (case c18=>k_is)
  (case k18=>k_is)
  (case a19=>k_is)
  (case l19=>k_is)
  (case c19=>k_is)
  (case k19=>k_is)
  (case a20=>k_is)
  (case l20=>k_is)
  (case c20=>k_is)
  (case k20=>k_is)
  (case a21=>k_is)
  (case l21=>k_is)
  (case c21=>k_is)
  (case k21=>k_is)
  (case a22=>k_is)
  (case l22=>k_is)
  (case c22=>k_is)
  (case k22=>k_is)
  (case a23=>k_is)
  (case l23=>k_is)
  (case c23=>k_is)
  (case k23=>k_is)
  (case a24=>k_is)
  (case l24=>k_is)
  (case c24=>k_is)
  (case k24=>k_is)
  (case a25=>k_is)
  (case l25=>k_is)
  (case c25=>k_is)
  (case k25=>k_is)
  (case a26=>k_is)
  (case l26=>k_is)
  (case c26=>k_is)
  (case k26=>k_is)
  (case a27=>k_is)
  (case l27=>k_is)
  (case c27=>k_is)
  (case k27=>k_is)
  (case a28=>k_is)
  (case l28=>k_is)
  (case c28=>k_is)
  (case k28=>k_is)
  (case a29=>k_is)
  (case l29=>k_is)
  (case c29=>k_is)
  (case k29=>k_is)
  (case a30=>k_is)
  (case l30=>k_is)
  (case c30=>k_is)
  (case k30=>k_is)
  (case a31=>k_is)
  (case l31=>k_is)
  (case c31=>k_is)
  (case k31=>k_is)
  (case a32=>k_is)
  (case l32=>k_is)
  (case c32=>k_is)
  (case k32=>k_is)
  (case a33=>k_is)
  (case l33=>k_is)
  (case c33=>k_is)
  (case k33=>k_is)
  (case a34=>k_is)
  (case l34=>k_is)
  (case c34=>k_is)
  (case k34=>k_is)
  (case a35=>k_is)
  (case l35=>k_is)
  (case c35=>k_is)
  (case k35=>k_is)
  (case a36=>k_is)
  (case l36=>k_is)
  (case c36=>k_is)
  (case k36=>k_is)
  (case a37=>k_is)
  (case l37=>k_is)
  (case c37=>k_is)
  (case k37=>k_is)
  (case a38=>k_is)
  (case l38=>k_is)
  (case c38=>k_is)
  (case k38=>k_is)
  (case z0=>k_is)
  (case z1=>k_is)
  (case z2=>k_is)
  (case z3=>k_is)
  (case z4=>k_is)
  (case z5=>k_is)
  (case z6=>k_is)
  (case z7=>k_is)
  (case z8=>k_is)
  (case z9=>k_is)
  (case z10=>k_is)
  (case z11=>k_is)
  (case z12=>k_is)
  (case gq0=>k_is)
  (case mq0=>k_is)
  (case gq1=>k_is)
  (case mq1=>k_is)
  (case gq2=>k_is)
  (case mq2=>k_is)
  (case gq3=>k_is)
  (case gq4=>k_is)
  (case gq5=>k_is)
  (case gq6=>k_is)
  (case gq7=>k_is)
  (case mq7=>k_is)
  (case dg0=>k_is)
  (case dl0=>k_is)
  (case dm0_0=>k_is)
  (case dm0_1=>k_is)
  (case dm0_2=>k_is)
  (case dm0_3=>k_is)
  (case dm0_4=>k_is)
  (case dm0_5=>k_is)
  (case dm0_6=>k_is)
  (case dm0_7=>k_is)
  (case dm0_8=>k_is)
  (case dz0=>rfl)
  (case xa0=>k_is)
  (case xq0=>k_exc)
  (case xf0=>k_is)
  (case xf1=>k_exc)
  (case le_code_of=>exact rfl)
  (case lk_code_of=>k_is)
  (case lw_code_of=>exact rfl)
 case L =>
  intro w h KX
  refine' G.CA KX (by kernel_rfl) ?ma_by_worth ?ma_by_weight ?ma_code_of ?ml_code_of ?mc_code_of ?mk_code_of ?mw_code_of ?mr_code_of
  (case ma_by_worth=>k_is)
  (case ma_by_weight=>k_is)
  (case ma_code_of=>k_is)
  (case ml_code_of=>k_is)
  (case mc_code_of=>exact rfl)
  (case mk_code_of=>k_is)
  (case mw_code_of=>exact rfl)
  (case mr_code_of=>exact rfl)
end
