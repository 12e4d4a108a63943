import PyProof.Rows.All
import Wide.All
import OpenK.AllK
import Wide.FinOn
import Lean
import PyProof.EqAt
import PyProof.EqKinds
import PyProof.TupleCall
import KE.KSortKey
import KE.KLam
import PySem.Challenge.RW_shortrows_k14_paper_shown
namespace PySem.W.Fast
def tw8995009685341308257:=0
def tw16962333601721738615:=0
def tw9896738693612963140:=0
def tw5552313551598960029:=0
def tw5363878214233646927:=0
def tw7932109231809337860:=0
def tw10624637950223683285:=0
def tw9027264193716912417:=0
def tw13487748646713323189:=0
def tw14881454151026823959:=0
def tw13414404284996828339:=0
def tw1834183888731757688:=0
def tw16701665091305717559:=0
def tw10261096649459242978:=0
def tw14372249438024714603:=0
def tw6767064446195765233:=0
def tw8068830752036296564:=0
def tw15770092679246037970:=0
def tw16701906546500315372:=0
def tw10031539573021452138:=0
def tw17913692106561643829:=0
def tw11331122921487909628:=0
def tw8244985822734526714:=0
def tw15283121023301228837:=0
def tw17656533430898152921:=0
def tw17871356946629055994:=0
def tw9123384743529602060:=0
def tw9728155014567862446:=0
def tw387909241600042159:=0
def tw12462089348209790477:=0
def tw6797987135291116756:=0
def tw12148049409798232683:=0
def tw1550040279144407398:=0
def tw15192566640547034626:=0
def tw17986935683302969180:=0
def tw12748083121086756690:=0
def tw6616797384618091914:=0
def tw1612889036325170859:=0
def tw4239032347587337921:=0
def tw14290203943363137040:=0
def tw16636540702395891468:=0
def tw16640063214226941922:=0
def tw4412486773536570430:=0
def tw18400854360993438926:=0
def tw4092980451157507740:=0
def tw5486638756715419757:=0
def tw3557810002949294310:=0
def tw7919863927015976266:=0
def tw7839416443859540608:=0
def tw8159844786248279166:=0
def tw17390032674360502382:=0
def tw15929318725013970026:=0
def tw12528800954832187296:=0
def tw13121633450800214187:=0
def tw2339888319000923617:=0
def tw12248052147030258392:=0
def tw16093251512285495655:=0
def tw7243075451129476294:=0
def tw5514883101090491117:=0
def tw3817142711317509546:=0
def tw16240346903367629129:=0
def tw14085214084749750544:=0
def tw979726459646921364:=0
def tw6757947320187597242:=0
def tw7427116726752762472:=0
def tw2975528439345491935:=0
def tw6612714156169029807:=0
def tw68563054229801594:=0
def tw6319369036754426405:=0
def tw14589284911505446726:=0
def tw1257955630126442621:=0
def tw5516503325656652071:=0
def tw16533517082124339812:=0
def tw5857497187249225653:=0
def tw11839323057452949077:=0
def tw18160960523048429587:=0
def tw15741928375256266554:=0
def tw4964598782871249072:=0
def tw2969813102598512756:=0
def tw1998872652702509081:=0
def tw9012728915034608291:=0
def tw392947906147476863:=0
def tw5076754947988761667:=0
def tw13688320716466959595:=0
def tw3782615876404198048:=0
def tw4347953875335190713:=0
def tw6969304382271179188:=0
def tw7331700830654837205:=0
def tw951221959208993293:=0
def tw1322270433266436544:=0
def tw11379177427565326760:=0
end PySem.W.Fast
set_option Elab.async false
set_option linter.all false
set_option maxRecDepth 100000
set_option maxHeartbeats 4000000
noncomputable section
namespace L2
open PySem PySem.Spec PyProof.Rows
variable{us:List Value}{x:Str}{u:Value}{a b:Addr}{base h:Heap}{items:Array Value}{P:Program}{w:World}{g':Array GenState}{ch fp:List Addr}{c e tg:Expr}{N ps:List Str}{i j:Nat}{M:Model}{A:Around}{E Q:Value->Shared->Prop}{s s':Shared}{pos:Pos}{pins:List (Addr×Obj)}{f:Value->Value->Sem Value}{es:List Expr}{body:List Stmt}{mA mg:Str->Option Value}{fd:FuncData}{kindOf:Str->Option NameKind}{scope:Scope}
def IT:=@PySem.wpAny_bind
def IU:=@PySem.Heap.get?_push_of_some
def IV:=@List.getElem?_eq_getElem
def IW:=@List.length_map
def IX:=@List.length_append
def IY:=@if_neg
def IZ:=@PySem.wpAny_pure
def I_:=@List.size_toArray
def Ja:=@if_pos
def Jb:=@Nat.le_refl
def Jc:=@PySem.Heap.lt_size
def Jd:=@Bool.false_ne_true
def Je:=@PySem.Heap.get?_push_size
def Jf:=@List.length_cons
def Jg:=@List.mem_cons
def Jh:=@List.mem_singleton
def Ji:=@List.getElem?_eq_some_iff
def Jj:=@Nat.le_trans
def Jk:=@List.mem_cons_of_mem
def Jl:=@List.mem_cons_self
def Jm:=@List.map_cons
def Jn:=@List.map_append
def Jo:=@Nat.lt_of_le_of_lt
def Jp:=@decide_eq_false
def Jq:=@Nat.ne_of_lt
def Jr:=@List.length_singleton
def Js:=@List.length_range
def Jt:=@Nat.lt_of_succ_lt
def Ju:=@Nat.lt_of_lt_of_le
def Jv:=@congrArg
def Jw:=@List.mem_append_right
def Jx:=@List.getElem?_eq_none_iff
def Jy:=@List.getElem?_map
def Jz:=@decide_eq_true
def J5:=@Array.getElem?_toList
def J6:=@List.append_assoc
def J7:=@List.append_nil
def J8:=@Int.toNat_natCast
def J9:=@PySem.wpAny_holding
def JA:=@PySem.wpAny_field
def JC:=@Nat.zero_le
def JD:=@List.nodup_cons
def JE:=@List.length_set
def JF:=@List.length_range'
def JG:=@List.length_nil
def JH:=@List.length_replicate
def JI:=@List.replicate_succ
def JJ:=@PySem.PassesOwn.never
def JK:=@List.getD_eq_getElem?_getD
def JL:=@PySem.wpAny_callSpecial?_slot
def JM:=@List.mem_map
def JN:=@List.mem_append
def JO:=@List.length_take
def JP:=@PySem.wpAny_newObj_type
def JQ:=@List.flatten_cons
def JR:=@PyProof.Rows.slot_tuple_getitem
def JS:=@PySem.wpAny_setField_rec
def JT:=@Array.length_toList
def JU:=@PySem.wpAny_call_entry
def JV:=@List.getElem_mem
def JW:=@PySem.wpAny_mono
def JX:=@List.take_of_length_le
def JY:=@List.pairwise_cons
def JZ:=@PyProof.Rows.callWith_type1
def J_:=@Array.getElem?_eq_some_iff
def Ka:=@PySem.wpAny_pyIter_tuple
def Kb:=@List.range'_succ
def Kc:=@List.drop_eq_getElem_cons
def Kd:=@beq_eq_false_iff_ne
def Ke:=@Nat.le_succ_of_le
def Kf:=@Nat.ne_of_gt
def Kg:=@Nat.zero_add
def Kh:=@List.map_map
def Ki:=@Bool.false_eq_true
def Kj:=@decide_eq_decide
def Kk:=@List.getElem?_append_right
def Kl:=@List.eraseIdx_eq_take_drop_succ
def Km:=@List.mem_range
def Kn:=@PySem.Heap.size_push
def Ko:=@List.getElem?_toArray
def Kq:=@List.length_drop
def Ks:=@List.all_eq_true
def Kt:=@List.lookup_cons
def Ku:=@Nat.lt_irrefl
def Kv:=@PySem.sizeLine_eq
def Kw:=@Nat.le_succ
def Kx:=@List.getElem?_set_ne
def Ky:=@List.range_eq_range'
def Kz:=@List.pairwise_append
def K0:=@List.range_succ
def K1:=@PySem.Heap.SameBut.update
def K2:=@List.getElem?_set_self
def K3:=@beq_self_eq_true
def K4:=@Bool.and_eq_true
def K5:=@Nat.le_add_right
def K6:=@PySem.wpAny_Call_Name_kw
def K7:=@List.getElem?_drop
def K8:=@PySem.wpAny_seqItems
def K9:=@Nat.le_of_lt
def KA:=@List.mem_of_getElem?
def KC:=@if_false
def KD:=@of_decide_eq_true
def KG:=@Nat.lt_succ_of_lt
def KH:=@PySem.wpAny_pyIter_list
def KI:=@PySem.wpAny_typeNameOfWhole_keyiter
def KJ:=@PySem.F.slot_enumerate_getattribute
def KL:=@List.filter_cons_of_neg
def KN:=@List.not_mem_nil
def KO:=@List.length_eq_one_iff
def KP:=@Nat.lt_or_ge
def KQ:=@PySem.wpAny_passesOwn
def KR:=@List.take_append_drop
def KU:=@List.all_cons
def KW:=@PySem.F.slot_tuple_iterator_next
def KY:=@not_not_intro
def KZ:=@List.length_eraseIdx_of_lt
def K_:=@PySem.wpAny_truthy_bool
def La:=@List.mem_append_left
def Lb:=@List.getElem?_append_left
def Lc:=@List.drop_zero
def Ld:=@List.nodup_nil
def Le:=@List.set_eq_of_length_le
def Lg:=@Nat.min_self
def Lh:=@PySem.wpAny_typeNameOf_keyiter
def Li:=@List.getElem?_replicate
def Lj:=@PySem.wpAny_getItem_str_slice
def Lk:=@List.filter_cons_of_pos
def Ll:=@PySem.wpAny_standAt
def Lm:=@PySem.wpAny_attempt
def Lo:=@PySem.wpAny_newList
def Lp:=@PySem.wpAny_rule
def Lq:=@List.find?_cons
def Lr:=@PySem.Obj.data_mapFields
def Ls:=@PySem.wpAny_loadPart'
def Lu:=@List.getElem?_take
def Lv:=@Nat.eq_zero_or_pos
def Lw:=@PySem.Heap.get?_update_other
def Lx:=@List.reverse_cons
def Ly:=@PySem.wpAny_pyIter_enum
def Lz:=@PySem.Heap.get?_update_self
def L0:=@if_true
def L1:=@Nat.succ_mul
def L3:=@Nat.sub_self
def L4:=@List.perm_append_comm
def L5:=@PySem.call_meets
def L6:=@List.cons_append
def L7:=@PySem.Heap.size_update
def L8:=@List.getElem?_append
def L9:=@List.nodup_range
def LA:=@List.map_take
def LC:=@List.filterMap_cons
def LD:=@List.getElem?_range
def LF:=@List.length_reverse
def LG:=@List.map_congr_left
def LH:=@List.flatten_append
def LI:=@List.mem_filter
def LJ:=@Option.map_some
def LK:=@PySem.codeAny_builtin
def LL:=@PyProof.Rows.get?_update_seq
def LM:=@PySem.W.KasT.kasWp_bind
def LN:=@Nat.min_eq_left
def LO:=@List.mem_filterMap
def LP:=@PySem.codeAny_mono
def LQ:=@Option.isSome_iff_exists
def LR:=@PySem.wpAny_getItem_list_slice
def LS:=@PySem.F.called_enumerate
def LU:=@PySem.wpAny_typeOf
def LV:=@PySem.wpAny_setField
def LW:=@PySem.slot_list_getitem
def LX:=@List.getElem?_set
def LY:=@List.nodup_append
def LZ:=@List.ext_getElem?
def L_:=@PyProof.Rows.listUpdate_at
def Ma:=@Bool.and_true
def Mb:=@List.map_drop
def Mc:=@Nat.lt_succ_self
def Md:=@List.drop_length
def Me:=@List.mem_reverse
def Mf:=@List.perm_middle
def Mg:=@List.length_filter_le
def Mh:=@PySem.Obj.isFreed_of_fields
def Mi:=@List.pairwise_reverse
def Mj:=@PySem.wpAny_isOneOf_keyiter
def Mk:=@List.take_eq_take_iff
def Ml:=@PySem.wpAny_execs_nil
def Mm:=@Bool.eq_iff_iff
def Mn:=@PySem.Calls.evalArgs_plain
def Mo:=@List.nil_append
def Mp:=@PySem.wpAny_updateSeq_pair
def Mq:=@PyProof.Rows.listItems_at
def Mr:=@PyProof.Rows.entry_list_sort
def Ms:=@Nat.sub_zero
def Mt:=@PySem.post_val_or_str
def Mw:=@Nat.pow_le_pow_right
def Mx:=@List.mem_of_mem_take
def My:=@PySem.codeAny_call_builtin
def Mz:=@Nat.mul_le_mul_right
def M0:=@Nat.add_sub_cancel'
def M5:=@Array.toList_append
def M6:=@or_false
def M7:=@PySem.F.args_tuple_iterator_next_1
def M8:=@PySem.wpAny_newTuple
def M9:=@Nat.mul_le_mul
def MA:=@PyProof.Rows.slot_list_sort
def MB:=@PySem.wpAny_fieldsOf
def MC:=@Nat.pow_add
def MD:=@PyProof.Rows.assignInOrder_cons
def ME:=@PySem.Calls.spliced_cons
def MF:=@PySem.tupleKind_room_in1
def MG:=@Array.append_empty
def MH:=@PySem.F.entry_tuple_iterator_next
def MI:=@PySem.SeqAt.EqAt.of_refs
def MJ:=@Array.getD_eq_getD_getElem?
def MK:=@Nat.add_sub_cancel
def ML:=@List.filter_append
def MM:=@PySem.Calls.Name_function_global
def MN:=@Int.fdiv_eq_ediv_of_nonneg
def MO:=@PySem.wpAny_letOwnedTupleGo_enum
def MP:=@Bool.and_comm
def MQ:=@Nat.add_assoc
def MR:=@PySem.wpAny_onRaise
def MS:=@PyProof.Rows.sortedAll_old
def MT:=@Nat.le_of_mul_le_mul_right
def MU:=@PySem.Calls.spliced_nil
def MV:=@Array.size_append
def MW:=@List.pairwise_map
def MX:=@bne_self_eq_false
def MY:=@PySem.wpAny_dictEntries
def MZ:=@List.flatMap_cons
def M_:=@List.filter_congr
def Na:=@List.count_append
def Nb:=@PyProof.Rows.Subscript_
def Nc:=@PySem.typeIs_int
def Nd:=@PySem.wpAny_binaryOp_repeat_ref
def Nf:=@PySem.Calls.call_function_entry
def Ng:=@PyProof.Rows.size_push'
def Nh:=@List.exists_mem_of_ne_nil
def Ni:=@Array.getElem?_eq_getElem
def Nj:=@List.mem_or_eq_of_mem_set
def Nk:=@PySem.wpAny_eqBool_int
def Nl:=@List.filter_cons
def Nm:=@PySem.wpAny_comprehension_free
def Nn:=@PySem.wpAny_isInstance
def Np:=@PyProof.Rows.plain_sorted
def Nq:=@PyProof.Rows.entry_sorted
def Nr:=@PyProof.Rows.sortedAll_at
def Nt:=@List.Pairwise.imp_of_mem
def Nu:=@List.map_snd_zip
def Nv:=@List.countP_cons
def Nx:=@List.eq_of_mem_replicate
def Ny:=@PySem.wpAny_pyNext_enum_itemD
def Nz:=@PySem.SeqAt.eq_list_lengthsAt
def N0:=@List.getElem?_cons_succ
def N1:=@List.pairwise_singleton
def N2:=@List.of_mem_zip
def N3:=@List.forIn_cons
def N4:=@List.count_cons
def N5:=@PySem.wpAny_dictEpoch
def N6:=@Int.natCast_pow
def N7:=@List.filter_nil
def N8:=@PySem.wpAny_pyNext_list_item
def NA:=@PySem.Calls.callWith_builtin
def NB:=@Option.map_eq_some_iff
def NC:=@PySem.wpAny_pyNext_enum_endD
def ND:=@PySem.wpAny_letGo
def NF:=@PyProof.Rows.kind_sorted
def NH:=@List.range_succ_eq_map
def NI:=@Int.le_refl
def NJ:=@Nat.pow_pos
def NK:=@Int.sub_mul
def NL:=@List.drop_eq_nil_of_le
def NM:=@Bool.false_and
def NP:=@PySem.isSubtype_stop
def NQ:=@List.filterMap_append
def NR:=@List.mem_iff_getElem?
def NT:=@List.countP_mono_left
def NU:=@PySem.wpAny_call
def NW:=@bne_iff_ne
def NX:=@Nat.not_lt
def NY:=@List.any_cons
def N_:=@Nat.mul_assoc
def Oa:=@PySem.seqIndex_neg
def Ob:=@Nat.add_comm
def Oc:=@Nat.pow_succ
def Od:=@Int.zero_add
abbrev Oe:=PySem.W.Frag
variable{K:Oe}
abbrev Key:=Sum Int Str
def kX:Key->Value->Bool
 |.inl k,v=>Value.isInt k v
 |.inr x,v=>Value.isStrOf x v
def Hr(w:World):Key->Int
 |.inl k=>hashInt k
 |.inr x=>hashStr w x
theorem b7:∀{k:Key} {v:Value},kX k v=true->(∃ i t,k=Sum.inl i/\v=Value.int i t)\/(∃ x t,k=Sum.inr x/\v=Value.str x t)
 |.inl i,v,h=>by
  obtain⟨t,e⟩:=Value.isInt_shape (k:=i) (v:=v) h;exact .inl ⟨i,t,rfl,e⟩
 |.inr x,v,h=>by
  obtain⟨t,e⟩:=Value.isStrOf_shape (x:=x) (v:=v) h;exact .inr ⟨x,t,rfl,e⟩
theorem sM(i:Int)(t:Tok):kX (.inl i) (.int i t)=true:=by simp[kX,Value.isInt]
theorem ur(x:Str)(t:Tok):kX (.inr x) (.str x t)=true:=by simp[kX,Value.isStrOf]
theorem BN(a b:Int):decide ((Sum.inl a:Key)=Sum.inl b)=(a == b):=by
 by_cases e:a=b
 ·subst e;simp
 ·have h:¬ (Sum.inl a:Key)=Sum.inl b:=fun q=>e (Sum.inl.inj q);rw[Jp h];exact (Kd.mpr e).symm
theorem Cr(a b:Str):decide ((Sum.inr a:Key)=Sum.inr b)=decide (a=b):=by
 by_cases e:a=b
 ·subst e;simp
 ·have h:¬ (Sum.inr a:Key)=Sum.inr b:=fun q=>e (Sum.inr.inj q);rw[Jp h,Jp e]
theorem BW(a:Int)(b:Str):decide ((Sum.inl a:Key)=Sum.inr b)=false:=Jp (fun q=>nomatch q)
theorem C_(a:Str)(b:Int):decide ((Sum.inr a:Key)=Sum.inl b)=false:=Jp (fun q=>nomatch q)
def bB(prog:Program)(w:World):PySem.KeyKind prog w Key where
 is:=kX
 hash:=Hr w
 inj:=fun v a b ha hb=>by
  rcases b7 ha with ⟨i,t,rfl,rfl⟩|⟨x,t,rfl,rfl⟩
  ·rcases b7 hb with ⟨j,u,rfl,e⟩|⟨y,u,rfl,e⟩
   ·injection e with e1 _;rw[e1]
   ·exact nomatch e
  ·rcases b7 hb with ⟨j,u,rfl,e⟩|⟨y,u,rfl,e⟩
   ·exact nomatch e
   ·injection e with e1 _;rw[e1]
 byValue:=fun k v h=>by
  rcases b7 h with ⟨i,t,rfl,rfl⟩|⟨x,t,rfl,rfl⟩<;>rfl
 pyHash:=fun hv h=>by
  rcases b7 hv with ⟨i,t,rfl,rfl⟩|⟨x,t,rfl,rfl⟩
  ·exact wpAny_pyHash_int h
  ·exact wpAny_pyHash_str h
 eqBool:=fun hu hv h=>by
  rcases b7 hu with ⟨i,t,rfl,rfl⟩|⟨x,t,rfl,rfl⟩
  ·rcases b7 hv with ⟨j,u,rfl,rfl⟩|⟨y,u,rfl,rfl⟩
   ·rw[BN] at h;exact Nk h
   ·rw[BW] at h;exact SeqAt.EqAt.int_str i t y u _ _ _ _ h
  ·rcases b7 hv with ⟨j,u,rfl,rfl⟩|⟨y,u,rfl,rfl⟩
   ·rw[C_] at h;exact SeqAt.EqAt.str_int x t j u _ _ _ _ h
   ·rw[Cr] at h;exact wpAny_eqBool_str h
 «strs»:=fun k x t v h=>by
  rcases b7 h with ⟨i,u,rfl,e⟩|⟨y,u,rfl,e⟩
  ·exact nomatch e
  ·injection e with e1 _
   subst e1
   cases v<;>rfl
theorem gI(prog:Program)(w:World)(i:Int)(t:Tok):(bB prog w).is (.inl i) (.int i t)=true:=sM i t
theorem ot(prog:Program)(w:World)(x:Str)(t:Tok):(bB prog w).is (.inr x) (.str x t)=true:=ur x t
inductive V where
 |aL|bl (b:Bool)|int (i:Int)|str (x:Str)|qo (b:Array UInt8)|DP (b:UInt64)|ref (a:Addr)|ty (n:String)
 deriving DecidableEq
variable{vs xs:List V}
def RelV:V->Value->Prop
 |.aL,u=>u=Value.none
 |.bl b,u=>u=Value.bool b
 |.int i,u=>∃ t,u=Value.int i t
 |.str x,u=>∃ t,u=Value.str x t
 |.qo b,u=>∃ t,u=Value.bytes b t
 |.DP b,u=>∃ t,u=Value.float b t
 |.ref a,u=>u=Value.ref a
 |.ty n,u=>u=Value.type n
abbrev Vals:List V->List Value->Prop:=Paired RelV
theorem Vals.length(r:Vals xs us):xs.length=us.length:=Paired.length r
theorem Vals.get:∀{xs:List V} {us:List Value} {i:Nat} {x:V},Vals xs us->xs[i]?=some x->∃ u,us[i]?=some u/\RelV x u
 |_,_,_,_,.nil,e=>by simp at e
 |_,_,0,_,.cons r _,e=>by simp at e;subst e;exact⟨_,rfl,r⟩
 |_,_,i+1,x,.cons _ t,e=>by
  obtain⟨u,h1,h2⟩:=Vals.get (i:=i) (x:=x) t (by simpa using e)
  exact⟨u,by simpa using h1,h2⟩
theorem Vals.set{x:V}(r:RelV x u):∀{xs:List V} {us:List Value} (i:Nat),Vals xs us->Vals (xs.set i x) (us.set i u)
 |_,_,_,.nil=>.nil
 |_,_,0,.cons _ t=>.cons r t
 |_,_,i+1,.cons q t=>.cons q (Vals.set r i t)
theorem Vals.append:∀{xs ys:List V} {us ws:List Value},Vals xs us->Vals ys ws->Vals (xs++ys) (us++ws)
 |_,_,_,_,.nil,s=>s
 |_,_,_,_,.cons r t,s=>.cons r (Vals.append t s)
theorem Vals.take:∀{xs:List V} {us:List Value} (n:Nat),Vals xs us->Vals (xs.take n) (us.take n)
 |_,_,0,_=>.nil
 |_,_,_+1,.nil=>.nil
 |_,_,n+1,.cons r t=>.cons r (Vals.take n t)
theorem Vals.drop:∀{xs:List V} {us:List Value} (n:Nat),Vals xs us->Vals (xs.drop n) (us.drop n)
 |_,_,0,r=>r
 |_,_,_+1,.nil=>.nil
 |_,_,n+1,.cons _ t=>Vals.drop n t
def ij:Option V->Option Value->Prop
 |some v,some u=>RelV v u
 |none,none=>True
 |_,_=>False
def KV{κ:Type}:List (κ×V)->List (κ×Value)->Prop:=Paired fun (p:κ×V) (q:κ×Value)=>p.1=q.1/\RelV p.2 q.2
def kV:Key->V
 |.inl i=>.int i
 |.inr x=>.str x
inductive HO where
 |lst (xs:List V)
 |tup (xs:List V)
 |dK (kvs:List (Key×V))|dT (kvs:List (List Key×V))
 |set (S:Int->Bool) (n:Nat)
 |ins (C dx:Addr) (fs:List (Str×V))
 |own (x:Addr)
 |xd (fs:List (Str×V))
 |met (f x:Addr)
 |dN (lo hi:Int)
 |dk (o:Obj) (u:HO)
 |rY (ps:Array Value)
 |ext (φ:Heap->Prop)
variable{o:HO}
abbrev Hp:=Addr->Option HO
variable{H:Hp}
def upd(H:Hp)(a:Addr)(o:HO):Hp:=fun b=>if b=a then some o else H b
theorem ai:upd H a o a=some o:=by unfold upd;rw[Ja rfl]
theorem af(h:b≠a):upd H a o b=H b:=by unfold upd;rw[IY h]
theorem iq{u:HO}:upd (upd H a o) a u=upd H a u:=by
 funext b;unfold upd;split<;>rfl
theorem FV{u:HO}(h:H a=some o)(h':H b=some u)(d:o≠u):a≠b:=by
 intro e;subst e;rw[h] at h';exact d (Option.some.inj h')
theorem ax(h:H a=some o)(h':H b=none):a≠b:=by
 intro e;subst e;rw[h] at h';cases h'
def Hy:List Value->Str
 |.str q _::_=>q
 |_=>Str.ofString ""
def wG(ps:Array Value):Str:=Hy ps.toList
def A9(H:Hp)(q:Str)(cv:Value):Prop:=∃(c:Addr) (oc:Obj) (vs:Array Value) (t:Tok),cv=.ref c/\H c=some (.dk oc (.own c))/\oc.data=.fields vs/\vs[1]?=some (.str q t)
def dv(h:Heap)(a:Addr)(items:Array Value):Prop:=∃ o:Obj,h.get? a=some o/\o.cls=.type "tuple"/\∃ n,o.data=.seq items n/\o.dict=none
theorem dv.to(x:dv h a items):IsTup h a items:=let ⟨o,e,c,n,d,_⟩:=x;⟨o,e,c,n,d⟩
theorem dv.new(h:Heap)(items:Array Value):dv (h.push {cls:=.type "tuple",data:=.seq items}) h.objs.size items:=⟨_,Je h rfl,rfl,_,rfl,rfl⟩
theorem dv.lt(x:dv h a items):a<h.objs.size:=x.to.lt
section
variable (P:Program) (w:World)
def aJ(H:Hp)(h:Heap)(a:Addr):HO->Prop
 |.lst xs=>xs.length<=sizeLine/\∃(its:List Value) (n:Nat),Vals xs its/\h.get? a=some {cls:=.type "list",data:=.seq its.toArray n}
 |.tup xs=>xs.length<=sizeLine/\∃ its:List Value,Vals xs its/\dv h a its.toArray
 |.dK kvs=>kvs.length<=sizeLine/\(a == sysModules)=false/\∃ vs,KV kvs vs/\h.DictOf (bB P w) a vs
 |.dT kvs=>kvs.length<=sizeLine/\(a == sysModules)=false/\∃ xs:List (List Key×Addr×Value),
   Paired (fun (p:List Key×V) (q:List Key×Addr×Value)=>p.1=q.1/\H q.2.1=some (.tup (p.1.map kV))/\RelV p.2 q.2.2) kvs xs /\
   ∃ o es ep,h.get? a=some o/\o.ExactDict/\o.data=.dict es ep/\es.toList=xs.map (entryOfKey (tupleKind (bB P w)))/\(xs.map (·.1)).Nodup
 |.set S n=>h.SetOf (intKind P w) a S n
 |.ins C dx fs=>H dx=some (.own a)/\fs.length<=1000/\dx≠a/\h.get? a=some (PySem.W.instObj C dx) /\
   ∃ mA,h.Ns1 dx mA/\(∀ f,ij (fs.lookup f) (mA f))/\PySem.Within mA (fs.map (·.1))
 |.own _=>∃ o,h.get? a=some o
 |.xd fs=>∃ mA,h.Ns1 a mA/\∀ f,ij (fs.lookup f) (mA f)
 |.dN lo hi=>∃ t u v,h.get? a=some {cls:=.type "range",data:=.fields #[.int lo t,.int hi u,.int 1 v]}
 |.dk o u=>h.get? a=some o/\aJ H h a u
 |.rY ps=>∃ qs:Array Value,h.get? a=some {cls:=.none,data:=.fields qs}/\TriplesOk qs.toList/\∀ pos cv,codeAmong pos qs.toList=some cv->A9 H (wG ps) cv
 |.met f x=>h.get? a=some (PySem.W.methodObj (.ref f) (.ref x))
 |.ext φ=>φ h/\(∃ o,h.get? a=some o)/\∀ h1 h2:Heap,φ h1->(∀ o,h1.get? a=some o->h2.get? a=some o)->φ h2
def dU(H:Hp)(h:Heap):Prop:=∀ a o,H a=some o->aJ P w H h a o
end
section
variable {P:Program} {w:World} {H H':Hp} {h h':Heap} {a:Addr} {o:HO}
theorem aJ.lt(x:aJ P w H h a o):a<h.objs.size:=by
 cases o with
 |lst xs=>obtain⟨_,_,_,_,e⟩:=x;exact Jc e
 |tup xs=>obtain⟨_,_,_,p⟩:=x;exact p.lt
 |dK kvs=>obtain⟨_,_,_,_,o,_,_,e,_⟩:=x;exact Jc e
 |dT kvs=>obtain⟨_,_,_,_,o,_,_,e,_⟩:=x;exact Jc e
 |set S n=>obtain⟨o,_,_,_,e,_⟩:=x;exact Jc e
 |ins C dx fs=>obtain⟨_,_,_,e,_⟩:=x;exact Jc e
 |own y=>obtain⟨_,e⟩:=x;exact Jc e
 |xd fs=>obtain⟨_,⟨_,_,_,e,_⟩,_⟩:=x;exact Jc e
 |dN lo hi=>obtain⟨_,_,_,e⟩:=x;exact Jc e
 |dk ob u=>obtain⟨e,_⟩:=x;exact Jc e
 |rY ps=>obtain⟨_,e,_⟩:=x;exact Jc e
 |met f y=>exact Jc (show h.get? a=some _ from x)
 |ext φ=>obtain⟨_,⟨_,e⟩,_⟩:=x;exact Jc e
theorem Paired.j0{α β:Type}{F G:α->β->Prop}:∀{l₁:List α} {l₂:List β},Paired F l₁ l₂->(∀ a b,F a b->G a b)->Paired G l₁ l₂
 |_,_,.nil,_=>.nil
 |_,_,.cons r t,f=>.cons (f _ _ r) (Paired.j0 t f)
theorem aJ.iL(x:aJ P w H h a o)(k:∀ b u,(b=a\/H b=some (.own a))->h.get? b=some u->h'.get? b=some u)
  (ho:∀ b,H b=some (.own a)->H' b=some (.own a)) (ht:∀ b xs,H b=some (.tup xs)->H' b=some (.tup xs)) (hz:∀ b o u,H b=some (.dk o u)->H' b=some (.dk o u)):aJ P w H' h' a o:=by
 induction o with
 |lst xs=>obtain⟨z,its,n,r,e⟩:=x;exact⟨z,its,n,r,k _ _ (.inl rfl) e⟩
 |tup xs=>obtain⟨z,its,r,ob,e,c⟩:=x;exact⟨z,its,r,ob,k _ _ (.inl rfl) e,c⟩
 |dK kvs=>obtain⟨z,y,vs,r,ob,es,ep,e,c⟩:=x;exact⟨z,y,vs,r,ob,es,ep,k _ _ (.inl rfl) e,c⟩
 |dT kvs =>
  obtain⟨z,y,xs,r,ob,es,ep,e,c⟩:=x;exact⟨z,y,xs,Paired.j0 r fun p q z=>⟨z.1,ht _ _ z.2.1,z.2.2⟩,ob,es,ep,k _ _ (.inl rfl) e,c⟩
 |set S n=>obtain⟨ob,es,ep,t,e,c⟩:=x;exact⟨ob,es,ep,t,k _ _ (.inl rfl) e,c⟩
 |ins C dx fs =>
  obtain⟨d,z,ne,e,mA,⟨od,es,ep,e2,c⟩,r⟩:=x;exact⟨ho _ d,z,ne,k _ _ (.inl rfl) e,mA,⟨od,es,ep,k _ _ (.inr d) e2,c⟩,r⟩
 |own y=>obtain⟨ob,e⟩:=x;exact⟨ob,k _ _ (.inl rfl) e⟩
 |xd fs=>obtain⟨mA,⟨od,es,ep,e,c⟩,r⟩:=x;exact⟨mA,⟨od,es,ep,k _ _ (.inl rfl) e,c⟩,r⟩
 |dN lo hi=>obtain⟨t,u,v,e⟩:=x;exact⟨t,u,v,k _ _ (.inl rfl) e⟩
 |dk ob u ih=>obtain⟨e,q⟩:=x;exact⟨k _ _ (.inl rfl) e,ih q⟩
 |rY ps =>
  obtain⟨qs,e,t,f⟩:=x;exact⟨qs,k a _ (.inl rfl) e,t,fun pos cv q=>let ⟨c,oc,vs,t',e1,e2,e3⟩:=f pos cv q;⟨c,oc,vs,t',e1,hz _ _ _ e2,e3⟩⟩
 |met f y =>
  have e:h.get? a=some (PySem.W.methodObj (.ref f) (.ref y)):=x;show h'.get? a=some (PySem.W.methodObj (.ref f) (.ref y));exact k a _ (.inl rfl) e
 |ext φ=>obtain⟨p,⟨o,e⟩,st⟩:=x;exact⟨st _ _ p fun o q=>k _ _ (.inl rfl) q,⟨o,k _ _ (.inl rfl) e⟩,st⟩
theorem dU.lt(x:dU P w H h)(e:H a=some o):a<h.objs.size:=(x a o e).lt
theorem dU.fresh(x:dU P w H h)(e:h.objs.size<=a):H a=none:=by
 cases q:H a with
 |none=>rfl
 |some u=>exact absurd (Ju (x.lt q) e) (Ku _)
theorem dU.kept(x:dU P w H h)(k:∀ b u,h.get? b=some u->h'.get? b=some u):dU P w H h':=fun a o e =>
 (x a o e).iL (fun b u _ q=>k b u q) (fun _ q=>q) (fun _ _ q=>q) fun _ _ _ q=>q
theorem dU.laid(x:dU P w H h)(k:∀ b u,h.get? b=some u->h'.get? b=some u)(hp:h.objs.size<=a)(new:aJ P w (upd H a o) h' a o):dU P w (upd H a o) h':=fun b u e=>by
 have hn:=x.fresh hp;by_cases hb:b=a
 ·subst hb;rw[ai] at e;cases e;exact new
 ·rw[af hb] at e;exact (x b u e).iL (fun c v _ q=>k c v q) (fun c q=>by rw[af (ax q hn)];exact q) (fun c xs q=>by rw[af (ax q hn)];exact q) fun c _ _ q=>by rw[af (ax q hn)];exact q
end
def Rd(H:Hp)(a:Addr)(u:HO):Prop:=H a=some u\/∃ o,H a=some (.dk o u)
theorem Rd.ok{u:HO}(r:Rd H a u)(x:dU P w H h):aJ P w H h a u:=by
 rcases r with r|⟨o,r⟩
 ·exact x a u r
 ·obtain⟨_,q⟩:=x a _ r;exact q
def Er:Option HO->Prop
 |some (.lst _)=>True
 |some (.dK _)=>True
 |some (.dT _)=>True
 |some (.set _ _)=>True
 |some (.ins _ _ _)=>True
 |some (.ext _)=>True
 |_=>False
section
variable {P:Program} {w:World} {H:Hp} {h h':Heap} {x e:Addr} {o':HO}
theorem dU.write(ok:dU P w H h)(mu:Er (H x))(he:e=x\/H e=some (.own x))(k:∀ b u,b≠e->h.get? b=some u->h'.get? b=some u)(heo:∃ u,h'.get? e=some u)
  (new:aJ P w (upd H x o') h' x o'):dU P w (upd H x o') h':=fun b u q=>by
 have nown:∀ c y,H c=some (.own y)->c≠x:=fun c y r z=>by subst z;rw[r] at mu;exact mu
 have ntup:∀ c xs,H c=some (.tup xs)->c≠x:=fun c xs r z=>by subst z;rw[r] at mu;exact mu
 have nfrz:∀ c o1 u1,H c=some (.dk o1 u1)->c≠x:=fun c _ _ r z=>by subst z;rw[r] at mu;exact mu
 by_cases hb:b=x
 ·subst hb;rw[ai] at q;cases q;exact new
 ·rw[af hb] at q;by_cases hbe:b=e
  ·have q':H b=some (.own x):=by
    rcases he with z|z
    ·exact absurd (hbe.trans z) hb
    ·rw[hbe];exact z
   rw[q] at q';cases q';obtain⟨v,hv⟩:=heo;exact⟨v,by rw[hbe];exact hv⟩
  ·refine (ok b u q).iL (fun c v hc r=>k c v ?_ r) (fun c r=>by rw[af (nown c b r)];exact r) (fun c xs r=>by rw[af (ntup c xs r)];exact r) fun c _ _ r=>by rw[af (nfrz c _ _ r)];exact r
   rcases hc with rfl|hc
   ·exact hbe
   ·rintro rfl;rcases he with z|z
    ·exact nown c b hc z
    ·rw[hc] at z;cases z;exact hb rfl
end
structure Un (fs ex:List Addr) (H H':Hp) (h h':Heap):Prop where
 keep:∀ b o,h.get? b=some o->H b=none->b∉fs->b∉ex->h'.get? b=some o
 slot:∀ b o,h.get? b=some o->H b=none->b∈fs->b∉ex->∃ sl,h'.get? b=some {o with slots:=sl}
 free:∀ b o,h.get? b=some o->H b=none->b∉ex->H' b=none
 there:∀ b o,h.get? b=some o->b∉ex->∃ o',h'.get? b=some o'
 jD:∀ b xs,H b=some (.tup xs)->H' b=some (.tup xs)
 gq:∀ b o u,H b=some (.dk o u)->H' b=some (.dk o u)
 gr:∀ b ps,H b=some (.rY ps)->∃ more,H' b=some (.rY (ps++more))
section
variable {fs fs' ex ex':List Addr} {H H1 H2:Hp} {h h1 h2 h':Heap} {a x e:Addr} {o:HO}
theorem Un.any(u:Un fs ex H H1 h h1){ob:Obj}(q:h.get? b=some ob)(n:H b=none)(hx:b∉ex):∃ sl,h1.get? b=some {ob with slots:=sl}:=by
 by_cases hb:b∈fs
 ·exact u.slot b ob q n hb hx
 ·exact⟨ob.slots,u.keep b ob q n hb hx⟩
theorem Un.kept(k:∀ b u,h.get? b=some u->h'.get? b=some u):Un fs ex H H h h':=
 ⟨fun b ob q _ _ _=>k b ob q,fun b ob q _ _ _=>⟨ob.slots,k b ob q⟩,fun _ _ _ n _=>n,fun b ob q _=>⟨ob,k b ob q⟩,fun _ _ q=>q,fun _ _ _ q=>q,fun _ ps q=>⟨#[],by rw[q];simp⟩⟩
theorem Un.refl:Un fs ex H H h h:=Un.kept fun _ _ q=>q
theorem Un.laid(k:∀ b u,h.get? b=some u->h'.get? b=some u)(hp:h.objs.size<=a)(hn:H a=none):Un fs ex H (upd H a o) h h' where
 keep:=fun b u q _ _ _=>k b u q
 slot:=fun b u q _ _ _=>⟨u.slots,k b u q⟩
 free:=fun b u q n _=>by rw[af (Jq (Ju (Jc q) hp))];exact n
 there:=fun b u q _=>⟨u,k b u q⟩
 jD:=fun b xs q=>by rw[af (ax q hn)];exact q
 gq:=fun b u xs q=>by rw[af (ax q hn)];exact q
 gr:=fun b ps q=>⟨#[],by rw[af (ax q hn),q];simp⟩
theorem Un.write(mu:Er (H x))(he:e=x\/H e=some (.own x))(k:∀ b u,b≠e->h.get? b=some u->h'.get? b=some u)(heo:∃ u,h'.get? e=some u):Un fs ex H (upd H x o) h h':=by
 have hx:∀ b,H b=none->b≠x:=fun b n z=>by subst z;rw[n] at mu;exact mu
 have hb:∀ b,H b=none->b≠e:=fun b n z=>by
  subst z;rcases he with r|r
  ·exact hx b n r
  ·rw[n] at r;cases r
 have hm:∀ b u,H b=some u->¬ Er (some u)->b≠x:=fun b u q nm z=>by subst z;rw[q] at mu;exact nm mu
 refine⟨fun b u q n _ _=>k b u (hb b n) q,fun b u q n _ _=>⟨u.slots,k b u (hb b n) q⟩,fun b u q n _=>by rw[af (hx b n)];exact n,fun b u q _=>?_,
  fun b xs q=>by rw[af (hm b _ q fun z=>z)];exact q,fun b u xs q=>by rw[af (hm b _ q fun z=>z)];exact q,fun b ps q=>⟨#[],by rw[af (hm b _ q fun z=>z),q];simp⟩⟩
 by_cases hbe:b=e
 ·subst hbe;exact heo
 ·exact⟨u,k b u hbe q⟩
end
def eR(h:Heap)(H:Hp):List Addr:=(List.range h.objs.size).filter fun a=>(H a).isSome
def jN(h:Heap)(H:Hp):Heap:=PySem.W.hideAll h (eR h H)
theorem sX(h:Heap)(H:Hp):(jN h H).objs.size=h.objs.size:=PySem.W.hideAll_size _ _
theorem fT{o:Obj}(e:h.get? b=some o)(n:H b=none):(jN h H).get? b=some o:=
 PySem.W.hideAll_get _ e fun hm=>by
  have q:(H b).isSome=true:=(LI.mp hm).2;rw[n] at q;simp at q
theorem yx{o:Obj}(e:(jN h H).get? b=some o):h.get? b=some o/\H b=none:=by
 have e':h.get? b=some o:=PySem.W.of_hideAll (eR h H) e;refine⟨e',?_⟩
 cases q:H b with
 |none=>rfl
 |some x =>
  have hm:b∈eR h H:=LI.mpr ⟨Km.mpr (Jc e'),by simp[q]⟩
  have z:(jN h H).get? b=none:=PySem.W.hideAll_none (eR h H) hm;rw[z] at e;cases e
def zq(g h:Heap)(L:Addr):List (Addr×Obj):=(List.range h.objs.size).filterMap fun a=>if a=L\/(g.get? a).isSome=true then none else (h.get? a).map fun o=>(a,o)
def rest(g h:Heap)(L d:Addr):List (Addr×Obj):=(zq g h L).filter fun p=>decide (p.1≠d)
def d7:List Str:=["by_worth","by_weight","code_of"]
def bX(K:Oe):List (Addr×Addr×Str):=d7.filterMap fun x=>(PySem.W.tabIn K x).map fun p=>(p.1,p.2,(x++".<locals>.")++"<lambda>")
def TabsOk(K:Oe)(H:Hp):Prop:=∀ t∈bX K,∃ more,H t.2.1=some (.rY (#[.str t.2.2 0]++more))
theorem TabsOk.un{fs ex:List Addr}{H1:Hp}{h1:Heap}(x:TabsOk K H)(u:Un fs ex H H1 h h1):TabsOk K H1:=fun t ht=>by
 obtain⟨m,e⟩:=x t ht;obtain⟨m2,e2⟩:=u.gr _ _ e;exact⟨m++m2,by rw[e2,Array.append_assoc]⟩
def BQ(mg:Str->Option Value)(h:Heap):Prop:=∃ bm ob,mg "__builtins__"=some (.ref bm)/\bm≠builtinsNs/\h.get? bm=some ob/\ob.cls=.type "module"/\ob.dict=some builtinsNs/\ob.data=.plain
structure Mod (K:Oe) (mg:Str->Option Value) (base:Heap):Prop where
 y_:K.In base
 glob:base.Ns mainGlobals mg
 blt:∃ mb,base.Ns builtinsNs mb/\∀ x:Str,x≠"__name__"->mb x=bootBuiltins x
 nolimit:base.NoLimit
 codes:∀ t∈bX K,PySem.W.CodeHd base t.1 t.2.1
 bm:BQ mg base
structure Cx where
 prog:Program
 w:World
 K:Oe
 mg:Str->Option Value
 base:Heap
 A:Around
 N:List Str
 s₀:Shared
 H₀:Hp
 env:Env
 outer:List Env
 stack:List Env
 ex:List Addr
 fn:Str->Bool
 calm:Bool
 pn:List (Addr×Obj)
 xe:Value->Shared->Prop
variable{X:Cx}
def ik(l:List Env):List Addr:=l.filterMap (·.frame)
abbrev Cx.fs(X:Cx):List Addr:=ik X.outer
def C1(sc:Scope)(x:Str):Prop:=sc.names.lookup x=some .local\/sc.names.lookup x=some .cell\/sc.names.lookup x=some .free
def Loc(sc:Scope)(x:Str):Prop:=sc.names.lookup x=some .local\/sc.names.lookup x=some .cell
def Look(env:Env)(h:Heap)(m:Str->Option Value)(x:Str)(u:Value):Prop:=
 (env.kindOf x=some .local/\m x=some u)\/((env.kindOf x=some .cell\/env.kindOf x=some .free)/\∃ c,env.cells.lookup x=some c/\h.IsCell c (some u))
structure Cx.Ok (X:Cx):Prop where
 mod:Mod X.K X.mg X.base
 kind:X.env.scope.kind=.function
 glob:X.env.globals=mainGlobals
 blt:X.env.builtins=builtinsNs
 above:X.s₀.heap.objs.size<=X.env.locals
 inj:∀ x y c,X.env.cells.lookup x=some c->X.env.cells.lookup y=some c->x=y
 has:∀ x,(X.env.kindOf x=some .cell\/X.env.kindOf x=some .free)->∃ c,X.env.cells.lookup x=some c
 E_:∀ x c,X.fn x=true->X.env.cells.lookup x=some c->X.s₀.heap.objs.size<=c
 hd:X.calm=true->X.A.handled=none
 frames:X.A.frames=some X.stack
 Gx:X.stack=X.outer\/(X.stack=X.env::X.outer/\X.env.frame=some X.env.locals)
 Ig:∀ b∈X.ex,b≠X.env.locals/\∀ x c,X.env.cells.lookup x=some c->c≠b
 bs:∀ b o,X.base.get? b=some o->X.s₀.heap.get? b=some o/\X.H₀ b=none
 Aa:X.base.objs.size<=X.s₀.heap.objs.size
 xC:∀ b o,X.base.get? b=some o->b∉X.ex
 zt:∀ b∈X.ex,b∉X.fs
 i_:X.s₀.heap.FunFrames X.base X.outer
 DO:∀ b∈X.fs,X.H₀ b=none
 tabs:TabsOk X.K X.H₀
structure Inv (X:Cx) (pins:List (Addr×Obj)) (σ:List (Option V)) (H:Hp) (s:Shared):Prop where
 ok:X.Ok
 os:s.os=X.s₀.os
 bare:AllBare s.gens
 base:Un X.fs X.ex X.H₀ H X.s₀.heap s.heap
 loc:∃ m,s.heap.Ns X.env.locals m/\∀(i:Nat) (x:Str) (v:V),X.N[i]?=some x->σ[i]?=some (some v)->C1 X.env.scope x->∃ u,RelV v u/\Look X.env s.heap m x u
 cell:∀ x c,X.env.cells.lookup x=some c->∃ v,s.heap.IsCell c v
 free:H X.env.locals=none
 dc:∀ x c,X.env.cells.lookup x=some c->H c=none
 pin:∀ p∈X.pn++pins,s.heap.get? p.1=some p.2/\H p.1=none/\p.1≠X.env.locals/\p.1∉X.fs/\∀ v,p.2.data≠.cell v
 aO:dU X.prog X.w H s.heap
 len:σ.length=X.N.length
section
variable {X:Cx} {pins:List (Addr×Obj)} {σ:List (Option V)} {H H':Hp} {s:Shared} {h':Heap}
theorem Cx.Ok.HX(ok:X.Ok){o:Obj}(e:X.base.get? b=some o):b∉X.fs:=fun hb=>by
 have:=(ok.i_.mem hb).1;rw[e] at this;cases this
theorem Inv.bs(I:Inv X pins σ H s):∀ b o,X.base.get? b=some o->s.heap.get? b=some o/\H b=none:=fun b o e =>
 ⟨I.base.keep b o (I.ok.bs b o e).1 (I.ok.bs b o e).2 (I.ok.HX e) (I.ok.xC b o e),I.base.free b o (I.ok.bs b o e).1 (I.ok.bs b o e).2 (I.ok.xC b o e)⟩
theorem Inv.bk(I:Inv X pins σ H s):∀ b o,X.base.get? b=some o->s.heap.get? b=some o:=fun b o e=>(I.bs b o e).1
theorem Inv.mod(I:Inv X pins σ H s):Mod X.K X.mg X.base:=I.ok.mod
theorem Inv.hW(I:Inv X pins σ H s):X.K.In s.heap:=I.ok.mod.y_.keeps I.bk
theorem Inv.nolimit(I:Inv X pins σ H s):s.heap.NoLimit:=I.ok.mod.nolimit.keeps I.bk
theorem Inv.lt(I:Inv X pins σ H s):X.env.locals<s.heap.objs.size:=let ⟨_,hn,_⟩:=I.loc;hn.lt
theorem Inv.sz(I:Inv X pins σ H s):X.s₀.heap.objs.size<=s.heap.objs.size:=Jj I.ok.above (K9 I.lt)
theorem Inv.D_(I:Inv X pins σ H s)(h:s.heap.objs.size<=a):a∉X.fs:=fun hb=>by
 obtain⟨_,o,ho,_⟩:=I.ok.i_.mem hb;exact absurd (Ju (Jc ho) (Jj I.sz h)) (Ku _)
theorem Inv.yK(I:Inv X pins σ H s):∀ x c,X.env.cells.lookup x=some c->c≠X.env.locals:=fun x c e z=>by
 obtain⟨v,o,ho,hd⟩:=I.cell x c e;obtain⟨m,⟨o',es,ep,ho',hd',_⟩,_⟩:=I.loc;rw[z,ho'] at ho;cases ho;rw[hd'] at hd;cases hd
theorem Inv.i_(I:Inv X pins σ H s):s.heap.FunFrames X.base X.outer:=by
 have all:∀(l:List Env),(∀ b∈ik l,b∈X.fs)->X.s₀.heap.FunFrames X.base l->s.heap.FunFrames X.base l:=by
  intro l
  induction l with
  |nil=>intro _ _;trivial
  |cons env r ih =>
   intro hs hl;obtain⟨hk,⟨L,o,hf,hn,ho,hd⟩,hr⟩:=hl;have hL:L∈X.fs:=hs L (by unfold ik;rw[LC,hf];exact Jl)
   obtain⟨sl,e⟩:=I.base.slot L o ho (I.ok.DO L hL) hL fun z=>I.ok.zt L z hL;exact⟨hk,⟨L,_,hf,hn,e,hd⟩,ih (fun b hb=>hs b (by unfold ik;rw[LC,hf];exact Jk _ hb)) hr⟩
 exact all X.outer (fun _ hb=>hb) I.ok.i_
theorem Inv.stack(I:Inv X pins σ H s):s.heap.FunFrames X.base X.stack:=by
 rcases I.ok.Gx with e|⟨e,hf⟩
 ·rw[e];exact I.i_
 ·rw[e];obtain⟨m,hn,_⟩:=I.loc;refine .cons (by rw[I.ok.kind];decide) hf hn ?_ I.i_
  exact Heap.get?_none_of_le (Jj I.ok.Aa I.ok.above)
theorem Inv.j8(I:Inv X pins σ H s):∀ b∈ik X.stack,b∈X.env.locals::X.fs:=fun b hb=>by
 rcases I.ok.Gx with e|⟨e,hf⟩
 ·rw[e] at hb;exact Jk _ hb
 ·rw[e] at hb;unfold ik at hb;rw[LC,hf] at hb;exact hb
theorem Inv.i4(I:Inv X pins σ H s):∀ b∈ik X.stack,H b=none:=fun b hb=>by
 rcases Jg.mp (I.j8 b hb) with e|hb
 ·rw[e];exact I.free
 ·obtain⟨_,o,ho,_⟩:=I.ok.i_.mem hb;exact I.base.free b o ho (I.ok.DO b hb) fun z=>I.ok.zt b z hb
theorem Inv.step{t':Nat}{d':Drawn}(I:Inv X pins σ H s)
  (hch:∀ b∈ch,(b∈X.ex\/X.s₀.heap.objs.size<=b)/\b≠X.env.locals/\(∀ x c,X.env.cells.lookup x=some c->c≠b)/\∀ p∈X.pn++pins,p.1≠b)
  (keep:∀ b o,b≠X.env.locals->b∉X.fs->b∉ch->s.heap.get? b=some o->H b=none->h'.get? b=some o)
  (slot:∀ b o,b≠X.env.locals->b∈X.fs->b∉ch->s.heap.get? b=some o->H b=none->∃ sl,h'.get? b=some {o with slots:=sl}) (free:∀ b o,b∉ch->s.heap.get? b=some o->H b=none->H' b=none)
  (there:∀ b o,b∉ch->s.heap.get? b=some o->∃ o',h'.get? b=some o')
  (jD:∀ b xs,H b=some (.tup xs)->H' b=some (.tup xs)) (gq:∀ b o u,H b=some (.dk o u)->H' b=some (.dk o u)) (gr:∀ b ps,H b=some (.rY ps)->∃ more,H' b=some (.rY (ps++more)))
  (ns:∀ m,s.heap.Ns X.env.locals m->h'.Ns X.env.locals m) (aO:dU X.prog X.w H' h') (hg:AllBare g') :
  Inv X pins σ H' {s with heap:=h',gens:=g',drawn:=d',toks:=t'}:=by
 have neL:∀ b o,X.s₀.heap.get? b=some o->b≠X.env.locals:=fun b o e=>Jq (Ju (Jc e) I.ok.above);have neC:∀ b o,X.s₀.heap.get? b=some o->b∉X.ex->b∉ch:=fun b o e hx hb=>by
  rcases (hch b hb).1 with z|z
  ·exact hx z
  ·exact absurd (Ju (Jc e) z) (Ku _)
 have cellK:∀ x c,X.env.cells.lookup x=some c->∀ v,s.heap.IsCell c v->h'.IsCell c v:=fun x c e v ⟨o,ho,hd⟩=>by
  have nch:c∉ch:=fun z=>(hch c z).2.2.1 x c e rfl;by_cases hc:c∈X.fs
  ·obtain⟨sl,q⟩:=slot c o (I.yK x c e) hc nch ho (I.dc x c e);exact⟨_,q,hd⟩
  ·exact⟨o,keep c o (I.yK x c e) hc nch ho (I.dc x c e),hd⟩
 refine⟨I.ok,I.os,hg,⟨fun b o e n hb hx=>?_,fun b o e n hb hx=>?_,fun b o e n hx=>?_,fun b o e hx=>?_,fun b xs e=>jD b xs (I.base.jD b xs e),fun b o xs e=>gq b o xs (I.base.gq b o xs e),fun b ps e=>?_⟩,?_,fun x c e=>?_,?_,fun x c e=>?_,fun p hp=>?_,aO,I.len⟩
 ·exact keep b o (neL b o e) hb (neC b o e hx) (I.base.keep b o e n hb hx) (I.base.free b o e n hx)
 ·obtain⟨sl,e1⟩:=I.base.slot b o e n hb hx;obtain⟨sl',e2⟩:=slot b _ (neL b o e) hb (neC b o e hx) e1 (I.base.free b o e n hx);exact⟨sl',e2⟩
 ·obtain⟨o',e1⟩:=I.base.there b o e hx;exact free b o' (neC b o e hx) e1 (I.base.free b o e n hx)
 ·obtain⟨o',e1⟩:=I.base.there b o e hx;exact there b o' (neC b o e hx) e1
 ·obtain⟨m1,e1⟩:=I.base.gr b ps e;obtain⟨m2,e2⟩:=gr b _ e1;exact⟨m1++m2,by rw[e2,Array.append_assoc]⟩
 ·obtain⟨m,hn,hl⟩:=I.loc;refine⟨m,ns m hn,fun i x v e1 e2 e3=>?_⟩;obtain⟨u,r,l⟩:=hl i x v e1 e2 e3;refine⟨u,r,?_⟩;rcases l with l|⟨k,c,e,z⟩
  ·exact .inl l
  ·exact .inr ⟨k,c,e,cellK x c e _ z⟩
 ·obtain⟨v,z⟩:=I.cell x c e;exact⟨v,cellK x c e v z⟩
 ·obtain⟨m,⟨o,_,_,ho,_⟩,_⟩:=I.loc;exact free _ o (fun z=>(hch _ z).2.1 rfl) ho I.free
 ·obtain⟨v,o,ho,hd⟩:=I.cell x c e;exact free c o (fun z=>(hch c z).2.2.1 x c e rfl) ho (I.dc x c e)
 ·obtain⟨e,n,ne,nf,d⟩:=I.pin p hp;have nch:p.1∉ch:=fun z=>(hch p.1 z).2.2.2 p hp rfl;exact⟨keep p.1 p.2 ne nf nch e n,free p.1 p.2 nch e n,ne,nf,d⟩
theorem Inv.un{t':Nat}(I:Inv X pins σ H s)(u:Un X.fs [] H H' s.heap h')(aO:dU X.prog X.w H' h'):Inv X pins σ H' {s with heap:=h',toks:=t'}:=by
 obtain⟨m,⟨o,es,ep,ho,r⟩,_⟩:=id I.loc;obtain⟨sl,hL⟩:=u.any ho I.free (by simp)
 exact I.step (g':=s.gens) (d':=s.drawn) (ch:=[]) (fun _ z=>nomatch z) (fun b o _ hb _ e n=>u.keep b o e n hb (by simp)) (fun b o _ hb _ e n=>u.slot b o e n hb (by simp)) (fun b o _ e n=>u.free b o e n (by simp)) (fun b o _ e=>u.there b o e (by simp)) u.jD u.gq u.gr (fun m' hm=>by
  obtain⟨o',es',ep',ho',r'⟩:=hm;rw[ho] at ho';cases ho';exact⟨_,es',ep',hL,r'⟩) aO I.bare
theorem Inv.call{t':Nat}{d':Drawn}{ch:List Addr}(I:Inv X pins σ H s)(u:Un (ik X.stack) ch H H' s.heap h')(aO:dU X.prog X.w H' h')(hg:AllBare g')
  (hch:∀ b∈ch,(b∈X.ex\/X.s₀.heap.objs.size<=b)/\b≠X.env.locals/\(∀ x c,X.env.cells.lookup x=some c->c≠b)/\∀ p∈X.pn++pins,p.1≠b) :
  Inv X pins σ H' {s with heap:=h',gens:=g',drawn:=d',toks:=t'}:=by
 obtain⟨m,⟨o,es,ep,ho,r⟩,_⟩:=id I.loc;obtain⟨sl,hL⟩:=u.any ho I.free fun z=>(hch _ z).2.1 rfl;exact I.step (ch:=ch) hch (fun b o hL hb hc e n=>u.keep b o e n (fun z=>(Jg.mp (I.j8 b z)).elim hL hb) hc) (fun b o _ _ hc e n=>u.any e n hc) (fun b o hc e n=>u.free b o e n hc) (fun b o hc e=>u.there b o e hc) u.jD u.gq u.gr (fun m' hm=>by
  obtain⟨o',es',ep',ho',r'⟩:=hm;rw[ho] at ho';cases ho';exact⟨_,es',ep',hL,r'⟩) aO hg
theorem Inv.turned{t':Nat}{it:Addr}(I:Inv X pins σ H s)(k:∀ b o,b≠it->s.heap.get? b=some o->h'.get? b=some o)(hn:H it=none)(hL:it≠X.env.locals)
  (h1:it∈X.ex\/X.s₀.heap.objs.size<=it) (h2:∀ x c,X.env.cells.lookup x=some c->c≠it) (h3:∀ p∈X.pn++pins,p.1≠it):Inv X pins σ H {s with heap:=h',toks:=t'}:=by
 have nit:∀ b u,H b=some u->b≠it:=fun b u e z=>by rw[z,hn] at e;cases e
 refine I.step (g':=s.gens) (d':=s.drawn) (ch:=[it]) (fun b hb=>?_) (fun b o _ _ hc e _=>k b o (fun z=>hc (by simp[z])) e) (fun b o _ _ hc e _=>⟨o.slots,k b o (fun z=>hc (by simp[z])) e⟩) (fun _ _ _ _ n=>n)
  (fun b o hc e=>⟨o,k b o (fun z=>hc (by simp[z])) e⟩) (fun _ _ e=>e) (fun _ _ _ e=>e) (fun b ps e=>⟨#[],by rw[e];simp⟩) (fun m hm=>?_) (fun b u e=>?_) I.bare
 ·have e:b=it:=by simpa using hb
  subst e;exact⟨h1,hL,h2,h3⟩
 ·obtain⟨o,es,ep,ho,r⟩:=hm;exact⟨o,es,ep,k _ o (Ne.symm hL) ho,r⟩
 ·refine (I.aO b u e).iL (fun c v hc q=>k c v ?_ q) (fun _ q=>q) (fun _ _ q=>q) fun _ _ _ q=>q;rcases hc with z|z
  ·rw[z];exact nit b u e
  ·exact nit c _ z
theorem Inv.tok(I:Inv X pins σ H s)(t:Nat):Inv X pins σ H {s with toks:=t}:=I.un (h':=s.heap) (t':=t) Un.refl I.aO
theorem Inv.kept{t':Nat}(I:Inv X pins σ H s)(k:∀ b u,s.heap.get? b=some u->h'.get? b=some u):Inv X pins σ H {s with heap:=h',toks:=t'}:=I.un (Un.kept k) (I.aO.kept k)
theorem Inv.laid{t':Nat}(I:Inv X pins σ H s)(k:∀ b u,s.heap.get? b=some u->h'.get? b=some u)(hp:s.heap.objs.size<=a)(new:aJ X.prog X.w (upd H a o) h' a o):
  Inv X pins σ (upd H a o) {s with heap:=h',toks:=t'}:=I.un (Un.laid k hp (I.aO.fresh hp)) (I.aO.laid k hp new)
theorem Inv.write{x e:Addr}{t':Nat}(I:Inv X pins σ H s)(mu:Er (H x))(he:e=x\/H e=some (.own x))(k:∀ b u,b≠e->s.heap.get? b=some u->h'.get? b=some u)(heo:∃ u,h'.get? e=some u)
  (new:aJ X.prog X.w (upd H x o) h' x o):Inv X pins σ (upd H x o) {s with heap:=h',toks:=t'}:=I.un (Un.write mu he k heo) (I.aO.write mu he k heo new)
theorem Inv.lS{pins':List (Addr×Obj)}(I:Inv X pins σ H s)(h:∀ p∈pins',s.heap.get? p.1=some p.2/\H p.1=none/\p.1≠X.env.locals/\p.1∉X.fs/\∀ v,p.2.data≠.cell v):Inv X pins' σ H s:=
 ⟨I.ok,I.os,I.bare,I.base,I.loc,I.cell,I.free,I.dc,fun p hp=>(JN.mp hp).elim (fun z=>I.pin p (La _ z)) (h p),I.aO,I.len⟩
theorem nj(hN:N.Nodup)(a:N[i]?=some x)(b:N[j]?=some x):i=j:=by
 obtain⟨h1,e1⟩:=Ji.mp a;obtain⟨h2,e2⟩:=Ji.mp b;exact (List.getElem_inj hN).mp (e1.trans e2.symm)
theorem kJ{v:V}{Q:Unit->Shared->Prop}(I:Inv X pins σ H s)(hN:X.N.Nodup)(hi:X.N[i]?=some x)(hx:Loc X.env.scope x)(r:RelV v u)
  (h:∀ s',Inv X pins (σ.set i (some v)) H s'->(∃ a,Heap.SameBut a s.heap s'.heap/\(a=X.env.locals\/X.env.cells.lookup x=some a))->Q () s') (hf:X.fn x=true\/X.env.scope.names.lookup x=some .local:=by first|exact .inl rfl|exact .inr rfl|assumption):wpAny M A (storeName X.env x u) Q E s:=by
 obtain⟨m,hn,hl⟩:=id I.loc;have hcls:(X.env.scope.kind == .class || (X.env.scope.kind == .module && X.env.locals != X.env.globals))=false:=by rw[I.ok.kind];rfl
 have hiσ:i<σ.length:=by rw[I.len];exact (Ji.mp hi).1
 have yK:=I.yK;have tracked:∀{a:Addr} {h':Heap},(∃ o,s.heap.get? a=some o/\H a=none)->Heap.SameBut a s.heap h'->dU X.prog X.w H h':=fun {a h'} ha hs b ob e=>by
  obtain⟨_,_,hfree⟩:=ha;refine (I.aO b ob e).iL (fun c w' hc q=>(hs.2 c ?_).trans q) (fun _ q=>q) (fun _ _ q=>q) fun _ _ _ q=>q;rintro rfl;rcases hc with rfl|hc
  ·rw[hfree] at e;cases e
  ·rw[hfree] at hc;cases hc
 rcases hx with hk|hk
 ·refine wpAny_storeName_local hk hn (fun h' hn' hs=>?_) hcls;obtain⟨oL,_,_,hoL,_⟩:=id hn;refine h _ ⟨I.ok,I.os,I.bare,⟨fun b o e n hb hx=>?_,fun b o e n hb hx=>?_,I.base.free,fun b o e hx=>?_,I.base.jD,I.base.gq,I.base.gr⟩,⟨_,hn',fun j y v' e1 e2 e3=>?_⟩,fun y c e=>?_,I.free,I.dc,fun p hp=>?_,tracked ⟨oL,hoL,I.free⟩ hs,by simpa using I.len⟩ ⟨_,hs,.inl rfl⟩
  ·exact (hs.2 b (Jq (Ju (Jc e) I.ok.above))).trans (I.base.keep b o e n hb hx)
  ·obtain⟨sl,e1⟩:=I.base.slot b o e n hb hx;exact⟨sl,(hs.2 b (Jq (Ju (Jc e) I.ok.above))).trans e1⟩
  ·obtain⟨o',e1⟩:=I.base.there b o e hx;exact⟨o',(hs.2 b (Jq (Ju (Jc e) I.ok.above))).trans e1⟩
  ·by_cases hj:j=i
   ·subst hj;rw[hi] at e1;cases e1;rw[K2 hiσ] at e2;cases e2;exact⟨u,r,.inl ⟨hk,by simp⟩⟩
   ·rw[Kx (Ne.symm hj)] at e2;obtain⟨u',r',q⟩:=hl j y v' e1 e2 e3;refine⟨u',r',?_⟩;rcases q with ⟨k,e⟩|⟨k,c,e,z⟩
    ·refine .inl ⟨k,?_⟩;have:y≠x:=fun e=>hj (nj hN e1 (e ▸ hi));simp[this,e]
    ·exact .inr ⟨k,c,e,z.sameBut hs (yK y c e)⟩
  ·obtain⟨w',z⟩:=I.cell y c e;exact⟨w',z.sameBut hs (yK y c e)⟩
  ·obtain⟨e,n,ne,nf,d⟩:=I.pin p hp;exact⟨(hs.2 p.1 ne).trans e,n,ne,nf,d⟩
 ·have hfn:X.fn x=true:=by
   rcases hf with z|z
   ·exact z
   ·rw[z] at hk;cases hk
  obtain⟨c,hc⟩:=I.ok.has x (.inl hk);obtain⟨w',z⟩:=I.cell x c hc;refine wpAny_storeName_cell I.ok.kind hk hc z (fun h' hc' hs=>?_);obtain⟨oc,hoc,hocd⟩:=id z;refine h {s with heap:=h'} ⟨I.ok,I.os,I.bare,⟨fun b o e n hb hx=>?_,fun b o e n hb hx=>?_,I.base.free,fun b o e hx=>?_,I.base.jD,I.base.gq,I.base.gr⟩,⟨m,hn.sameBut hs (Ne.symm (yK x c hc)),fun j y v' e1 e2 e3=>?_⟩,fun y c' e=>?_,I.free,I.dc,fun p hp=>?_,tracked ⟨oc,hoc,I.dc x c hc⟩ hs,by simpa using I.len⟩ ⟨c,hs,.inr hc⟩
  ·exact (hs.2 b (Jq (Ju (Jc e) (I.ok.E_ x c hfn hc)))).trans (I.base.keep b o e n hb hx)
  ·obtain⟨sl,e1⟩:=I.base.slot b o e n hb hx;exact⟨sl,(hs.2 b (Jq (Ju (Jc e) (I.ok.E_ x c hfn hc)))).trans e1⟩
  ·obtain⟨o',e1⟩:=I.base.there b o e hx;exact⟨o',(hs.2 b (Jq (Ju (Jc e) (I.ok.E_ x c hfn hc)))).trans e1⟩
  ·by_cases hj:j=i
   ·subst hj;rw[hi] at e1;cases e1;rw[K2 hiσ] at e2;cases e2;exact⟨u,r,.inr ⟨.inl hk,c,hc,hc'⟩⟩
   ·rw[Kx (Ne.symm hj)] at e2;obtain⟨u',r',q⟩:=hl j y v' e1 e2 e3;refine⟨u',r',?_⟩;rcases q with q|⟨k,c',e,z'⟩
    ·exact .inl q
    ·refine .inr ⟨k,c',e,z'.sameBut hs ?_⟩;rintro rfl;exact hj (nj hN e1 (I.ok.inj _ _ _ e hc ▸ hi))
  ·by_cases hcc:c'=c
   ·subst hcc;exact⟨_,hc'⟩
   ·obtain⟨w2,z2⟩:=I.cell y c' e;exact⟨w2,z2.sameBut hs hcc⟩
  ·obtain⟨e,n,ne,nf,d⟩:=I.pin p hp;refine⟨(hs.2 p.1 ?_).trans e,n,ne,nf,d⟩;intro q;rw[q,hoc] at e;have q':oc=p.2:=Option.some.inj e;exact d w' (by rw[<- q'];exact hocd)
theorem fQ{v:V}{Q:Unit->Shared->Prop}(I:Inv X pins σ H s)(hN:X.N.Nodup)(hi:X.N[i]?=some x)(hx:Loc X.env.scope x)(r:RelV v u)
  (h:∀ s',Inv X pins (σ.set i (some v)) H s'->Q () s') (hf:X.fn x=true\/X.env.scope.names.lookup x=some .local:=by first|exact .inl rfl|exact .inr rfl|assumption):wpAny M A (storeName X.env x u) Q E s:=
 kJ I hN hi hx r (fun s' I' _=>h s' I') hf
theorem Inv.A8(I:Inv X pins σ H s)(ho:s'.os=s.os)(u:Un (ik X.stack) ch H H' s.heap s'.heap)(aO:dU X.prog X.w H' s'.heap)(hg:AllBare s'.gens)
  (hch:∀ b∈ch,(b∈X.ex\/X.s₀.heap.objs.size<=b)/\b≠X.env.locals/\(∀ x c,X.env.cells.lookup x=some c->c≠b)/\∀ p∈X.pn++pins,p.1≠b):Inv X pins σ H' s':=by
 obtain⟨h',g',d',t',o'⟩:=s';have e:o'=s.os:=ho;subst e;exact I.call (g':=g') (t':=t') (d':=d') u aO hg hch
end
abbrev XK:=Value->Option Addr->Hp->Prop
abbrev St:=List (Option V)
variable{σ:St}
abbrev VK:=V->Hp->Prop
abbrev TE:=St->Hp->VK->Prop
abbrev TT:=St->Hp->(Bool->Hp->Prop)->Prop
abbrev TA:=St->Hp->(List V->Hp->Prop)->Prop
variable{ta:TA}
structure Ends where
 nx:St->Hp->Prop
 rt:VK
 bk:St->Hp->Prop:=fun _ _=>False
 ct:St->Hp->Prop:=fun _ _=>False
abbrev TS:=Ends->St->Hp->Prop
def EP(X:Cx)(pins:List (Addr×Obj))(σ:St)(Q:VK)(u:Value)(s':Shared):Prop:=∃ v H',Inv X pins σ H' s'/\RelV v u/\Q v H'
def TP(X:Cx)(pins:List (Addr×Obj))(σ:St)(Q:Bool->Hp->Prop)(b:Bool)(s':Shared):Prop:=∃ H',Inv X pins σ H' s'/\Q b H'
def AP(X:Cx)(pins:List (Addr×Obj))(σ:St)(Q:List V->Hp->Prop)(us:List Value)(s':Shared):Prop:=∃ vs H',Inv X pins σ H' s'/\Vals vs us/\Q vs H'
def SP(X:Cx)(pins:List (Addr×Obj))(D:Ends)(f:Flow)(s':Shared):Prop:=
 match f with
 |.next=>∃ σ' H',Inv X pins σ' H' s'/\D.nx σ' H'
 |.brk=>∃ σ' H',Inv X pins σ' H' s'/\D.bk σ' H'
 |.cont=>∃ σ' H',Inv X pins σ' H' s'/\D.ct σ' H'
 |.ret u=>∃ v σ' H',Inv X pins σ' H' s'/\RelV v u/\D.rt v H'
def PE(X:Cx)(e:Expr)(t:TE):Prop:=
 ∀(pins:List (Addr×Obj)) (s:Shared) (σ:St) (H:Hp) (Q:VK),Inv X pins σ H s->t σ H Q->wpAny (model X.prog X.w) X.A (eval e X.env) (EP X pins σ Q) X.xe s
def PT(X:Cx)(e:Expr)(t:TT):Prop:=
 ∀(pins:List (Addr×Obj)) (s:Shared) (σ:St) (H:Hp) (Q:Bool->Hp->Prop),Inv X pins σ H s->t σ H Q->wpAny (model X.prog X.w) X.A (isTrue e X.env (eval e X.env)) (TP X pins σ Q) X.xe s
def PW(X:Cx)(e:Expr)(t:TT):Prop:=
 ∀(whole:Sem Value) (pins:List (Addr×Obj)) (s:Shared) (σ:St) (H:Hp) (Q:Bool->Hp->Prop),Inv X pins σ H s->t σ H Q->wpAny (model X.prog X.w) X.A (isTrue e X.env whole) (TP X pins σ Q) X.xe s
theorem PW.pt{t:TT}(h:PW X e t):PT X e t:=h _
def PA(X:Cx)(es:List Expr)(t:TA):Prop:=
 ∀(pos:Pos) (pins:List (Addr×Obj)) (s:Shared) (σ:St) (H:Hp) (Q:List V->Hp->Prop),Inv X pins σ H s->t σ H Q->wpAny (model X.prog X.w) X.A (spliced (backTo pos (starEach es X.env))) (AP X pins σ Q) X.xe s
def PS(X:Cx)(st:Stmt)(t:TS):Prop:=
 ∀(pins:List (Addr×Obj)) (s:Shared) (σ:St) (H:Hp) (D:Ends),Inv X pins σ H s->t D σ H->wpAny (model X.prog X.w) X.A (exec st X.env) (SP X pins D) X.xe s
def oC(X:Cx)(st:List Stmt)(t:TS):Prop:=
 ∀(pins:List (Addr×Obj)) (s:Shared) (σ:St) (H:Hp) (D:Ends),Inv X pins σ H s->t D σ H->wpAny (model X.prog X.w) X.A (execs st X.env) (SP X pins D) X.xe s
theorem b9{α:Type}{t:Sem α}{Q Q':α->Shared->Prop}(h:wpAny M A t Q E s)(hQ:∀ a s,Q a s->Q' a s):wpAny M A t Q' E s:=JW h hQ fun _ _ x=>x
section
variable {X:Cx}
def gu(i:Nat):TE:=fun σ H Q=>∃ v,σ[i]?=some (some v)/\Q v H
def tC(v:V):TE:=fun _ H Q=>Q v H
theorem Du(hN:X.N[i]?=some x)(hv:C1 X.env.scope x)(hd:(x ==("__debug__":Str))=false:=by decide)(hcd:(x ==("__classdict__":Str))=false:=by decide):PE X (.Name x pos) (gu i):=by
 intro pins s σ H Q I h;obtain⟨v,e,h⟩:=h;obtain⟨m,hn,hl⟩:=I.loc;obtain⟨u,r,l⟩:=hl i x v hN e hv;have fin:EP X pins σ Q u s:=⟨v,H,I,r,h⟩;rcases l with ⟨hk,hm⟩|⟨hk,c,hc,hcell⟩
 ·exact wpAny_Name (wpAny_loadName_local I.ok.kind hk hn hm fin) hd
 ·rcases hk with hk|hk
  ·exact wpAny_Name (wpAny_loadName_cell I.ok.kind hk hc hcell fin) hd
  ·exact wpAny_Name (wpAny_loadName_free I.ok.kind hk hc hcell fin hcd) hd
theorem gj{i j pos}:PE X (.Constant (.int i) j pos) (tC (.int i)):=fun _ _ _ H _ I h=>wpAny_Constant_int ⟨.int i,H,I.tok _,⟨_,rfl⟩,h⟩
theorem vc{b j pos}:PE X (.Constant (.bool b) j pos) (tC (.bl b)):=fun _ _ _ H _ I h=>Constant_bool ⟨.bl b,H,I,rfl,h⟩
theorem vb{j pos}:PE X (.Constant .none j pos) (tC .aL):=fun _ _ _ H _ I h=>Constant_none ⟨.aL,H,I,rfl,h⟩
theorem vH{x j pos}:PE X (.Constant (.str x) j pos) (tC (.str x)):=fun _ _ _ H _ I h=>Calls.Constant_str ⟨.str x,H,I.tok _,⟨_,rfl⟩,h⟩
def Gl(X:Cx)(x:Str):Prop:=X.env.kindOf x=some .globalImplicit
theorem my(I:Inv X pins σ H s)(hg:Gl X x)(hm:X.mg x=some u)(h:Q u s)
  (hd:(x ==("__debug__":Str))=false:=by decide):wpAny (model X.prog X.w) X.A (eval (.Name x pos) X.env) Q E s:=
 MM I.ok.kind hg (Calls.loadGlobal_global (by rw[I.ok.glob];exact I.mod.glob.keeps I.bk) hm h) hd
theorem dw(I:Inv X pins σ H s)(hg:Gl X x)(hm:X.mg x=none)(hv:bootBuiltins x=some u)(h:Q u s)
  (hn:x≠"__name__":=by decide) (hd:(x ==("__debug__":Str))=false:=by decide):wpAny (model X.prog X.w) X.A (eval (.Name x pos) X.env) Q E s:=by
 obtain⟨mb,h1,h2⟩:=I.mod.blt;exact MM I.ok.kind hg (Calls.loadGlobal_builtin (by rw[I.ok.glob];exact I.mod.glob.keeps I.bk) hm (by rw[I.ok.blt];exact h1.keeps I.bk) ((h2 x hn).trans hv) h) hd
theorem zM{v:V}(hg:Gl X x)(hm:X.mg x=none)(hv:bootBuiltins x=some u)(r:RelV v u)(hn:x≠"__name__":=by decide)(hd:(x ==("__debug__":Str))=false:=by decide):PE X (.Name x pos) (tC v):=
 fun _ _ _ H _ I h=>dw I hg hm hv ⟨v,H,I,r,h⟩ hn hd
def ID(ta tb:TE)(k:Int->Int->Hp->Prop):St->Hp->Prop:=fun σ H=>ta σ H fun x H1=>tb σ H1 fun y H2=>∃ i j,x=.int i/\y=.int j/\k i j H2
variable {a b:Expr} {ta tb:TE} {pos:Pos}
def EX(p:Int->Int->Bool)(ta tb:TE):TE:=fun σ H Q=>ID ta tb (fun i j H2=>Q (.bl (p i j)) H2) σ H
abbrev Gh:TE->TE->TE:=EX fun i j=>decide (i=j)
abbrev FW:TE->TE->TE:=EX fun i j=>!decide (i=j)
def tQ(ta:TE):TE:=fun σ H Q=>ta σ H fun x H1=>Q (.bl (decide (x=.aL))) H1
variable {tA tB':TT} {rest:List Expr}
def mG(t u:TT):TT:=fun σ H Q=>t σ H fun c H1=>if c=true then u σ H1 Q else Q false H1
def DL(t u:TT):TT:=fun σ H Q=>t σ H fun c H1=>if c=true then Q true H1 else u σ H1 Q
def w8(t:TT):TT:=fun σ H Q=>t σ H fun c H1=>Q (!c) H1
theorem zp(ha:PT X a tA):PW X (.BoolOp .And [a] pos) tA:=by
 intro wh pins s σ H Q I h;refine isTrue_and (b9 (ha pins s σ H Q I h) fun c s1 e=>?_)
 cases c with
 |true=>exact isTrue_and_nil e
 |false=>exact e
theorem Cf(ha:PT X a tA):PW X (.BoolOp .Or [a] pos) tA:=by
 intro wh pins s σ H Q I h;refine isTrue_or (b9 (ha pins s σ H Q I h) fun c s1 e=>?_)
 cases c with
 |false=>exact isTrue_or_nil e
 |true=>exact e
theorem CP(ha:PT X a tA)(hb:PW X (.BoolOp .And (b::rest) pos) tB'):PW X (.BoolOp .And (a::b::rest) pos) (mG tA tB'):=by
 intro wh pins s σ H Q I h;refine isTrue_and (b9 (ha pins s σ H _ I h) fun c s1 ⟨H1,I1,q1⟩=>?_)
 cases c with
 |true=>exact hb wh pins s1 σ H1 Q I1 q1
 |false=>exact⟨H1,I1,q1⟩
theorem Fb(ha:PT X a tA)(hb:PW X (.BoolOp .Or (b::rest) pos) tB'):PW X (.BoolOp .Or (a::b::rest) pos) (DL tA tB'):=by
 intro wh pins s σ H Q I h;refine isTrue_or (b9 (ha pins s σ H _ I h) fun c s1 ⟨H1,I1,q1⟩=>?_)
 cases c with
 |true=>exact⟨H1,I1,q1⟩
 |false=>exact hb wh pins s1 σ H1 Q I1 q1
theorem Cy(ha:PT X a tA):PT X (.UnaryOp .Not a pos) (w8 tA):=by
 intro pins s σ H Q I h;exact isTrue_not (ha pins s σ H (fun c H1=>Q (!c) H1) I h)
def A2(ta tb:TE):TE:=fun σ H Q=>ta σ H fun x H1=>∃ c,x=.bl c/\if c=true then tb σ H1 Q else Q (.bl false) H1
theorem Bt{op}{t:TE}(h:PE X a t):PE X (.BoolOp op [a] pos) t:=fun pins s σ H Q I hw=>BoolOp_one (h pins s σ H Q I hw)
theorem BU(ha:PE X a ta)(hb:PE X (.BoolOp .And (b::rest) pos) tb):PE X (.BoolOp .And (a::b::rest) pos) (A2 ta tb):=by
 intro pins s σ H Q I h;refine BoolOp_and (b9 (ha pins s σ H _ I h) fun v s1 ⟨x,H1,I1,r1,q1⟩=>?_);obtain⟨c,rfl,q1⟩:=q1;cases r1;refine K_ ?_
 cases c with
 |true=>exact hb pins s1 σ H1 Q I1 q1
 |false=>exact⟨.bl false,H1,I1,rfl,q1⟩
def DW(t:TT)(ta tb:TE):TE:=fun σ H Q=>t σ H fun c H1=>if c=true then ta σ H1 Q else tb σ H1 Q
theorem xw(hc:PT X c tA)(ha:PE X a ta)(hb:PE X b tb):PE X (.IfExp c a b pos) (DW tA ta tb):=by
 intro pins s σ H Q I h;refine wpAny_IfExp (b9 (hc pins s σ H _ I h) fun d s1 ⟨H1,I1,q1⟩=>?_)
 cases d with
 |true=>exact ha pins s1 σ H1 Q I1 q1
 |false=>exact hb pins s1 σ H1 Q I1 q1
end
def bS(K:Oe)(H:Hp)(a:Addr)(xs:List V):Prop:=
 Rd H a (.lst xs) \/
  ∃(o:Obj) (its:Array Value) (n:Nat),K.lookup a=some o/\o.cls=.type "list"/\o.dict=none/\o.data=.seq its n/\its.size<=sizeLine/\Vals xs its.toList
def b8(K:Oe)(H:Hp)(a:Addr)(xs:List V):Prop:=
 Rd H a (.tup xs) \/
  ∃(o:Obj) (its:Array Value) (n:Nat),K.lookup a=some o/\o.cls=.type "tuple"/\o.data=.seq its n/\its.size<=sizeLine/\Vals xs its.toList
def HR:Value->Option V
 |.none=>some .aL
 |.bool b=>some (.bl b)
 |.int i _=>some (.int i)
 |.str x _=>some (.str x)
 |.bytes b _=>some (.qo b)
 |.float b _=>some (.DP b)
 |.ref a=>some (.ref a)
 |.type n=>some (.ty n)
 |_=>none
theorem RelV.abs{x:V}(r:RelV x u):HR u=some x:=by
 cases x with
 |aL=>cases r;rfl
 |bl _=>cases r;rfl
 |int _=>obtain⟨t,rfl⟩:=r;rfl
 |str _=>obtain⟨t,rfl⟩:=r;rfl
 |qo _=>obtain⟨t,rfl⟩:=r;rfl
 |DP _=>obtain⟨t,rfl⟩:=r;rfl
 |ref _=>cases r;rfl
 |ty _=>cases r;rfl
theorem RelV.inj{x y:V}(r:RelV x u)(q:RelV y u):x=y:=Option.some.inj (r.abs.symm.trans q.abs)
theorem Vals.inj:∀{xs ys:List V} {us:List Value},Vals xs us->Vals ys us->xs=ys
 |_,_,_,.nil,.nil=>rfl
 |_,_,_,.cons r t,.cons r' t'=>by rw[r.inj r',Vals.inj t t']
section
variable {X:Cx} {pins:List (Addr×Obj)} {σ:St} {H:Hp} {s:Shared} {a:Addr} {xs ys:List V}
theorem bS.of(h:H a=some (.lst xs)):bS K H a xs:=.inl (.inl h)
theorem b8.of(h:H a=some (.tup xs)):b8 K H a xs:=.inl (.inl h)
theorem Inv.list(I:Inv X pins σ H s)(h:bS X.K H a xs):∃ its:List Value,Vals xs its/\PlainL s.heap a its.toArray/\xs.length<=sizeLine:=by
 rcases h with h|⟨o,its,n,hk,hc,hd,hs,hz,r⟩
 ·obtain⟨z,its,n,r,e⟩:=h.ok I.aO;exact⟨its,r,⟨_,n,e,rfl,rfl,rfl⟩,z⟩
 ·refine⟨its.toList,r,⟨o,n,I.hW a o hk,hc,hd,by simpa using hs⟩,?_⟩
  have e:=r.length;simp only[JT] at e;lia
theorem Inv.tuple(I:Inv X pins σ H s)(h:b8 X.K H a xs):∃ its:List Value,Vals xs its/\IsTup s.heap a its.toArray/\xs.length<=sizeLine:=by
 rcases h with h|⟨o,its,n,hk,hc,hs,hz,r⟩
 ·obtain⟨z,its,r,p⟩:=h.ok I.aO;exact⟨its,r,p.to,z⟩
 ·refine⟨its.toList,r,⟨o,I.hW a o hk,hc,n,by simpa using hs⟩,?_⟩
  have e:=r.length;simp only[JT] at e;lia
theorem Inv.nu(I:Inv X pins σ H s)(h:bS X.K H a xs)(h':bS X.K H a ys):xs=ys:=by
 obtain⟨its,r,⟨o,n,e,_,_,d⟩,_⟩:=I.list h;obtain⟨its',r',⟨o',n',e',_,_,d'⟩,_⟩:=I.list h';rw[e] at e';cases e';rw[d] at d'
 injection d' with d1 _
 have:its=its':=by simpa using Jv Array.toList d1
 subst this;exact r.inj r'
theorem Inv.eV(I:Inv X pins σ H s)(h:b8 X.K H a xs)(h':b8 X.K H a ys):xs=ys:=by
 obtain⟨its,r,⟨o,e,_,n,d⟩,_⟩:=I.tuple h;obtain⟨its',r',⟨o',e',_,n',d'⟩,_⟩:=I.tuple h';rw[e] at e';cases e';rw[d] at d'
 injection d' with d1 _
 have:its=its':=by simpa using Jv Array.toList d1
 subst this;exact r.inj r'
end
abbrev Cx.jM(X:Cx)(E:Value->Shared->Prop):Cx:={X with xe:=E}
abbrev Cx.yR(X:Cx):Cx:=X.jM fun _ _=>False
theorem Cx.Ok.jM(ok:X.Ok)(E:Value->Shared->Prop):(X.jM E).Ok:=
 ⟨ok.mod,ok.kind,ok.glob,ok.blt,ok.above,ok.inj,ok.has,ok.E_,ok.hd,ok.frames,ok.Gx,ok.Ig,ok.bs,ok.Aa,ok.xC,ok.zt,ok.i_,ok.DO,ok.tabs⟩
theorem Cx.Ok.e9(ok:(X.jM E).Ok):X.Ok:=
 ⟨ok.mod,ok.kind,ok.glob,ok.blt,ok.above,ok.inj,ok.has,ok.E_,ok.hd,ok.frames,ok.Gx,ok.Ig,ok.bs,ok.Aa,ok.xC,ok.zt,ok.i_,ok.DO,ok.tabs⟩
section
variable {X:Cx} {pins:List (Addr×Obj)} {σ:St} {H:Hp} {s:Shared} {E:Value->Shared->Prop}
theorem Inv.jM(I:Inv X pins σ H s)(E:Value->Shared->Prop):Inv (X.jM E) pins σ H s:=⟨I.ok.jM E,I.os,I.bare,I.base,I.loc,I.cell,I.free,I.dc,I.pin,I.aO,I.len⟩
theorem Inv.e9(I:Inv (X.jM E) pins σ H s):Inv X pins σ H s:=⟨I.ok.e9,I.os,I.bare,I.base,I.loc,I.cell,I.free,I.dc,I.pin,I.aO,I.len⟩
theorem SP.e9{D:Ends}{f:Flow}(h:SP (X.jM E) pins D f s'):SP X pins D f s':=by
 cases f with
 |next=>obtain⟨σ',H',I,q⟩:=h;exact⟨σ',H',I.e9,q⟩
 |brk=>obtain⟨σ',H',I,q⟩:=h;exact⟨σ',H',I.e9,q⟩
 |cont=>obtain⟨σ',H',I,q⟩:=h;exact⟨σ',H',I.e9,q⟩
 |ret u=>obtain⟨v,σ',H',I,r,q⟩:=h;exact⟨v,σ',H',I.e9,r,q⟩
theorem oC.yR{st:List Stmt}{t:TS}(h:oC X.yR st t):oC X st t:=fun pins s σ H D I hw =>
 JW (h pins s σ H D (I.jM _) hw) (fun _ _ q=>q.e9) fun _ _ z=>False.elim z
end
section
variable {X:Cx} {st:Stmt} {rest:List Stmt} {t u:TS} {e:Expr} {te:TE} {pos:Pos}
def nF:TS:=fun D σ H=>D.nx σ H
def t7(t u:TS):TS:=fun D σ H=>t {D with nx:=u D} σ H
theorem yp:oC X [] nF:=fun _ _ σ H _ I h=>Ml ⟨σ,H,I,h⟩
theorem xB(h1:PS X st t)(h2:oC X rest u):oC X (st::rest) (t7 t u):=by
 intro pins s σ H D I h;refine wpAny_execs_cons (b9 (h1 pins s σ H {D with nx:=u D} I h) fun f s1 q=>?_)
 cases f with
 |next =>
  obtain⟨σ',H',I',q⟩:=q;exact h2 pins s1 σ' H' D I' q
 |ret v=>exact q
 |brk=>exact q
 |cont=>exact q
theorem yz(h1:PS X st t):oC X [st] t:=by
 intro pins s σ H D I h;refine wpAny_execs_cons (b9 (h1 pins s σ H D I h) fun f s1 q=>?_)
 cases f with
 |next=>exact Ml q
 |ret v=>exact q
 |brk=>exact q
 |cont=>exact q
theorem Inv.quiet(I:Inv X pins σ H s):interactive X.env=false:=by simp[interactive,I.ok.kind]
def Bf(te:TE):TS:=fun D σ H=>te σ H fun _ H1=>D.nx σ H1
theorem zY(he:PE X e te)(hs:swapsWith e none pos.line X.env=pure false:=by rfl):PS X (.Expr e pos) (Bf te):=by
 intro pins s σ H D I h;exact wpAny_Expr_any (b9 (he pins s σ H _ I h) fun v s1 ⟨x,H1,I1,r1,q1⟩=>⟨σ,H1,I1,q1⟩) I.quiet hs
def xy(te:TE):TS:=fun D σ H=>te σ H D.rt
theorem Dd(he:PE X e te):PS X (.Return (some e) pos) (xy te):=by
 intro pins s σ H D I h;exact wpAny_Return_some (b9 (he pins s σ H _ I h) fun v s1 ⟨x,H1,I1,r1,q1⟩=>⟨x,σ,H1,I1,r1,q1⟩)
def xp(c:TT)(t u:TS):TS:=fun D σ H=>c σ H fun b H1=>if b=true then t D σ H1 else u D σ H1
theorem EF{a b:List Stmt}{tc:TT}(hc:PT X c tc)(ha:oC X a t)(hb:oC X b u):PS X (.If c a b pos) (xp tc t u):=by
 intro pins s σ H D I h;refine wpAny_If (b9 (hc pins s σ H _ I h) fun d s1 ⟨H1,I1,q1⟩=>?_)
 cases d with
 |true=>exact ha pins s1 σ H1 D I1 q1
 |false=>exact hb pins s1 σ H1 D I1 q1
end
abbrev TG:=V->St->Hp->(St->Hp->Prop)->Prop
abbrev o_:=List V->St->Hp->(St->Hp->Prop)->Prop
def PG(X:Cx)(target:Expr)(t:TG):Prop:=
 ∀(pins:List (Addr×Obj)) (s:Shared) (σ:St) (H:Hp) (v:V) (u:Value) (Q:St->Hp->Prop),Inv X pins σ H s->RelV v u->t v σ H Q ->
  wpAny (model X.prog X.w) X.A (assign target X.env u) (fun _ s'=>∃ σ' H',Inv X pins σ' H' s'/\Q σ' H') X.xe s
def DD(X:Cx)(ts:List Expr)(t:o_):Prop:=
 ∀(pins:List (Addr×Obj)) (s:Shared) (σ:St) (H:Hp) (vs:List V) (us:List Value) (Q:St->Hp->Prop),Inv X pins σ H s->Vals vs us->t vs σ H Q ->
  wpAny (model X.prog X.w) X.A (assignInOrder ((assignEach ts X.env).map (·.2)) us) (fun _ s'=>∃ σ' H',Inv X pins σ' H' s'/\Q σ' H') X.xe s
abbrev C8:=V->V->V->Hp->(Hp->Prop)->Prop
def Br(X:Cx)(t:C8):Prop:=
 ∀(pins:List (Addr×Obj)) (s:Shared) (σ:St) (H:Hp) (o i v:V) (ov iv u:Value) (Q:Hp->Prop),Inv X pins σ H s->RelV o ov->RelV i iv->RelV v u->t o i v H Q ->
  wpAny (model X.prog X.w) X.A (setItem ov iv u) (fun _ s'=>∃ H',Inv X pins σ H' s'/\Q H') X.xe s
section
variable {X:Cx} {pos:Pos}
def cD(i:Nat):TG:=fun v σ H Q=>Q (σ.set i (some v)) H
theorem yy(hN:X.N.Nodup)(hi:X.N[i]?=some x)(hx:Loc X.env.scope x)(hf:X.fn x=true\/X.env.scope.names.lookup x=some .local:=by first|exact .inl rfl|exact .inr rfl|assumption):PG X (.Name x pos) (cD i):=by
 intro pins s σ H v u Q I r h;exact wpAny_assign_Name (fQ I hN hi hx r (fun s' I'=>⟨_,H,I',h⟩) hf)
def n5:o_:=fun vs σ H Q=>vs=[]/\Q σ H
def eG(t:TG)(u:o_):o_:=fun vs σ H Q=>∃ v r,vs=v::r/\t v σ H fun σ' H'=>u r σ' H' Q
theorem zH:DD X [] n5:=by
 intro pins s σ H vs us Q I r h;obtain⟨e,h⟩:=h;subst e;cases r;exact assignInOrder_nil ⟨σ,H,I,h⟩
theorem vR{t:TG}{u:o_}(h1:PG X e t)(h2:DD X es u)
  (hs:(assignEach (e::es) X.env).map (·.2)=assign e X.env::(assignEach es X.env).map (·.2):=by rfl):DD X (e::es) (eG t u):=by
 intro pins s σ H vs us Q I r h;obtain⟨v,vr,e1,h⟩:=h;subst e1
 cases r with
 |cons r rr =>
  rw[hs];refine MD (b9 (h1 pins s σ H _ _ _ I r h) fun _ s1 ⟨σ1,H1,I1,q1⟩=>?_);exact h2 pins s1 σ1 H1 _ _ Q I1 rr q1
def mT(K:Oe)(n:Nat)(t:o_):TG:=fun v σ H Q=>∃ a xs,v=.ref a/\b8 K H a xs/\xs.length=n/\t xs σ H Q
theorem yc{k:Nat}{t:o_}{n:Nat}(hc:X.calm=true)(h:DD X es t)
  (hn:(assignEach es X.env).length=n:=by rfl) (hst:(assignEach es X.env).findIdx? (·.1)=none:=by rfl):PG X (.Tuple es k pos) (mT X.K n t):=by
 intro pins s σ H v u Q I r hw;obtain⟨a,xs,e1,hq,hl,hw⟩:=hw;subst e1;cases r;obtain⟨its,rv,ht,hz⟩:=I.tuple hq;refine assign_Tuple_tuple (I.ok.hd hc) ht (by simp[hn,<- hl,rv.length]) hst fun h' hx=>?_
 have I1:Inv X pins σ H {s with heap:=h'}:=I.kept (t':=s.toks) fun b o e=>hx b o (Jq (Jc e)) e
 exact h pins _ σ H xs _ Q I1 (by simpa using rv) hw
def Ei(to ti:TE)(t:C8):TG:=fun v σ H Q=>to σ H fun o H1=>ti σ H1 fun i H2=>t o i v H2 fun H3=>Q σ H3
theorem BF{o i:Expr}{to ti:TE}{t:C8}(ho:PE X o to)(hi:PE X i ti)(hs:Br X t)
  (ha:∀ v,assign (.Subscript o i pos) X.env v=(do
   let ov <- holding [v] (eval o X.env)
   let iv <- holding [v,ov] (eval i X.env)
   standAt pos
   holding [v,ov,iv] (setItem ov iv v)
   release [v,ov,iv] []):=by intro _;rfl):PG X (.Subscript o i pos) (Ei to ti t):=by
 intro pins s σ H v u Q I r h;rw[ha];refine IT (J9 (b9 (ho pins s σ H _ I h) fun ov s1 ⟨x,H1,I1,r1,q1⟩=>?_));refine IT (J9 (b9 (hi pins s1 σ H1 _ I1 q1) fun iv s2 ⟨y,H2,I2,r2,q2⟩=>?_));refine IT (Ll (IT (J9 (b9 (hs pins s2 σ H2 x y v ov iv u _ I2 r1 r2 r q2) fun _ s3 ⟨H3,I3,q3⟩=>?_))));exact wpAny_release ⟨σ,H3,I3,q3⟩
def iD(te:TE)(g:TG):TS:=fun D σ H=>te σ H fun x H1=>g x σ H1 D.nx
theorem D6{te:TE}{g:TG}(he:PE X e te)(hg:PG X tg g)(hs:swapsWithSole [tg] e pos.line X.env=pure false:=by rfl)(hw:swappedStores [tg] e X.env=pure none:=by rfl)
  (h1:(assignEach [tg] X.env).map (·.2)=[assign tg X.env]:=by rfl):PS X (.Assign [tg] e pos) (iD te g):=by
 intro pins s σ H D I h;refine wpAny_Assign_stores (b9 (he pins s σ H _ I h) fun v s1 ⟨x,H1,I1,r1,q1⟩=>?_) hs hw;rw[h1];exact b9 (hg pins s1 σ H1 x v _ I1 r1 q1) fun _ s2 q=>q
theorem C9{te:TE}{pos':Pos}(hN:X.N.Nodup)(hi:X.N[i]?=some x)(hx:Loc X.env.scope x)(he:PE X e te)(hs:swapsWith e (some (.Name x pos')) pos.line X.env=pure false:=by rfl)(hf:X.fn x=true\/X.env.scope.names.lookup x=some .local:=by first|exact .inl rfl|exact .inr rfl|assumption):
  PS X (.Assign [.Name x pos'] e pos) (iD te (cD i)):=by
 intro pins s σ H D I h;refine wpAny_Assign_Name (b9 (he pins s σ H _ I h) fun v s1 ⟨y,H1,I1,r1,q1⟩=>?_) hs;exact fQ I1 hN hi hx r1 (fun s2 I2=>⟨_,H1,I2,q1⟩) hf
def HF(i j:Nat)(ta:TA):TS:=fun D σ H=>ta σ H fun vs H1=>∃ v w,vs=[v,w]/\D.nx ((σ.set i (some v)).set j (some w)) H1
theorem CK{y:Str}{a b:Expr}{px py pt:Pos}{kt k2 pt2}(hc:X.calm=true)(hN:X.N.Nodup)(hi:X.N[i]?=some x)(hj:X.N[j]?=some y)(hij:i≠j)
  (hx:X.env.scope.names.lookup x=some .local) (hy:X.env.scope.names.lookup y=some .local) (ha:PA X [a,b] ta)
  (hw:swappedStores [.Tuple [.Name x px,.Name y py] kt pt] (.Tuple [a,b] k2 pt2) X.env=pure (some [x,y]))
  (hs:swapsWithSole [.Tuple [.Name x px,.Name y py] kt pt] (.Tuple [a,b] k2 pt2) pos.line X.env=pure false:=by rfl) :
  PS X (.Assign [.Tuple [.Name x px,.Name y py] kt pt] (.Tuple [a,b] k2 pt2) pos) (HF i j ta):=by
 intro pins s σ H D I h;rw[exec_Assign_arm];refine IT (Ll ?_);rw[hs];refine IT (IZ ?_);rw[IY (by decide)]
 refine IT (Tuple_ (b9 (ha _ pins s σ H _ I h) fun us s1 ⟨vs,H1,I1,r1,q1⟩=>?_));obtain⟨v,w,e1,q1⟩:=q1;subst e1;obtain⟨u1,u2,rfl,rv,rw'⟩:∃ u1 u2,us=[u1,u2]/\RelV v u1/\RelV w u2:=by
  cases r1 with
  |cons p q =>
   cases q with
   |cons p' q' =>
    cases q';exact⟨_,_,rfl,p,p'⟩
 refine JP ?_ (by show 2<=sizeLine;decide)
 have I2:Inv X pins σ H1 {s1 with heap:=s1.heap.push {cls:=.type "tuple",data:=.seq [u1,u2].toArray}}:=I1.kept (t':=s1.toks) fun b o e=>IU _ e
 rw[hw];refine IT (IZ ?_);show wpAny (model X.prog X.w) X.A (do rule "assign.swapped-stores";let items <- unpackItems (.ref s1.heap.objs.size) 2 none;assignInOrder [fun v=>bindName X.env y v,fun v=>bindName X.env x v] items.reverse;pure Flow.next) _ _ _
 refine IT (Lp (IT (unpackItems_tuple (items:=#[u1,u2]) (I.ok.hd hc) (IsTup.new s1.heap _) fun h' hx'=>?_)));have I3:=I2.kept (h':=h') (t':=s1.toks) fun b o e=>hx' b o (Jq (Jc e)) e;show wpAny _ _ (assignInOrder [fun v=>bindName X.env y v,fun v=>bindName X.env x v] [u2,u1] >>= fun _=>pure Flow.next) _ _ _;refine IT (MD (wpAny_bindName (fQ I3 hN hj (.inl hy) rw' (fun s2 I4=>?_) (.inr hy))));refine MD (wpAny_bindName (fQ I4 hN hi (.inl hx) rv (fun s3 I5=>assignInOrder_nil (IZ ?_)) (.inr hx)));rw[List.set_comm _ _ (Ne.symm hij)] at I5;exact⟨_,H1,I5,q1⟩
end
section
variable {X:Cx} {pos:Pos}
def vJ(c:TT)(tb:TS):TS:=fun D σ H=>∃ W:Nat->St->Hp->Prop,(∃ m,W m σ H)/\∀ m σ H,W m σ H ->
 c σ H fun b H1=>if b=true then ∃ N:St->Hp->Prop,(∀ σ' H',N σ' H'->∃ m',m'<m/\W m' σ' H')/\tb {D with nx:=N,ct:=N,bk:=D.nx} σ H1 else D.nx σ H1
theorem xA{tc:TT}{tb:TS}(hp:PassesOwn (model X.prog X.w) X.A X.env X.xe)(hc:PT X c tc)(hb:oC X body tb):PS X (.While c body [] pos) (vJ tc tb):=by
 intro pins s σ H D I h;obtain⟨W,⟨m0,w0⟩,turn⟩:=h;refine wpAny_While (codeAny_whileLoop (fun n s'=>∃ σ' H',Inv X pins σ' H' s'/\W n σ' H') ?_ m0 ⟨σ,H,I,w0⟩);rintro n s1 ⟨σ1,H1,I1,w1⟩;refine KQ hp (b9 (hc pins s1 σ1 H1 _ I1 (turn n σ1 H1 w1)) fun b s2 ⟨H2,I2,q2⟩=>?_)
 cases b with
 |true =>
  obtain⟨N,hN,q2⟩:=q2;rw[Ja rfl];refine KQ hp (b9 (hb pins s2 σ1 H2 _ I2 q2) fun f s3 q3=>?_)
  cases f with
  |next =>
   obtain⟨σ3,H3,I3,n3⟩:=q3;obtain⟨m',hm,w3⟩:=hN σ3 H3 n3;exact⟨m',hm,σ3,H3,I3,w3⟩
  |cont =>
   obtain⟨σ3,H3,I3,n3⟩:=q3;obtain⟨m',hm,w3⟩:=hN σ3 H3 n3;exact⟨m',hm,σ3,H3,I3,w3⟩
  |brk=>exact q3
  |ret v=>exact q3
 |false =>
  rw[IY Jd];exact Ml ⟨σ1,H2,I2,q2⟩
end
structure It where
 go:Nat->Hp->Prop
 AX:Nat->Hp->V->Hp->Prop
 stop:Nat->Hp->Prop
def jc(X:Cx)(pins:List (Addr×Obj))(H:Hp)(b:Addr):Prop:=
 H b=none/\b≠X.env.locals/\b∉X.fs/\(b∈X.ex\/X.s₀.heap.objs.size<=b)/\(∀ x c,X.env.cells.lookup x=some c->c≠b)/\∀ p∈X.pn++pins,p.1≠b
theorem Inv.m_{H':Hp}(I:Inv X pins σ H s)(hb:s.heap.objs.size<=b)(hn:H' b=none):jc X pins H' b:=by
 refine⟨hn,Kf (Ju I.lt hb),I.D_ hb,.inr (Jj I.sz hb),fun x c e z=>?_,fun p hp z=>?_⟩
 ·obtain⟨v,q⟩:=I.cell x c e;exact absurd (Ju q.lt (by rw[z];exact hb)) (Ku _)
 ·exact absurd (Ju (Jc (I.pin p hp).1) (by rw[z];exact hb)) (Ku _)
structure Turn (P:Program) (w:World) (K:Oe) (tg:Expr) (J:It) (fp:List Addr) (it:Addr) (tn:Nat->Heap->Prop):Prop where
 mem:it∈fp
 obj:∀ i h,tn i h->∀ b∈fp,∃ o,h.get? b=some o/\∀ v,o.data≠.cell v
 keep:∀ i h h',tn i h->(∀ b∈fp,∀ o,h.get? b=some o->h'.get? b=some o)->tn i h'
 item:∀(X:Cx),X.prog=P->X.w=w->X.K=K->X.calm=true->∀(i:Nat) (pins:List (Addr×Obj)) (s:Shared) (σ:St) (H:Hp) (E:Value->Shared->Prop),Inv X pins σ H s->(∀ b∈fp,jc X pins H b)->tn i s.heap->J.go i H ->
  wpAny (model P w) X.A (pyNext (.ref it)) (fun r s1=>∃ u,r=some u /\
   wpAny (model P w) X.A (letOwnedTupleGo tg (.ref it) u) (fun _ s2=>∃ x H',Inv X pins σ H' s2/\RelV x u/\J.AX i H x H'/\tn (i+1) s2.heap/\∀ b∈fp,H' b=none) E s1) E s
 done:∀(X:Cx),X.prog=P->X.w=w->X.K=K->X.calm=true->∀(i:Nat) (pins:List (Addr×Obj)) (s:Shared) (σ:St) (H:Hp) (E:Value->Shared->Prop),Inv X pins σ H s->(∀ b∈fp,jc X pins H b)->tn i s.heap->J.stop i H ->
  wpAny (model P w) X.A (pyNext (.ref it)) (fun r s1=>r=none/\Inv X pins σ H s1) E s
 self:∀(A:Around) (i:Nat) (s:Shared) (Q:Value->Shared->Prop) (E:Value->Shared->Prop),tn i s.heap->Q (.ref it) s->wpAny (model P w) A (pyIter (.ref it)) Q E s
abbrev TI:=St->Hp->(It->Hp->Prop)->Prop
def Ik(X:Cx)(pins:List (Addr×Obj))(σ:St)(tg:Expr)(R:It->Hp->Prop)(itv:Value)(s2:Shared):Prop:=
 ∃(it:Addr) (fp:List Addr) (tn:Nat->Heap->Prop) (J:It) (H':Hp),itv=.ref it/\Inv X pins σ H' s2/\Turn X.prog X.w X.K tg J fp it tn/\tn 0 s2.heap/\(∀ b∈fp,jc X pins H' b)/\R J H'
def PI(X:Cx)(tg iter:Expr)(wi:TI):Prop:=
 ∀(pins:List (Addr×Obj)) (s:Shared) (σ:St) (H:Hp) (R:It->Hp->Prop),Inv X pins σ H s->wi σ H R ->
  wpAny (model X.prog X.w) X.A (eval iter X.env) (fun v s1=>wpAny (model X.prog X.w) X.A (pyIter v) (Ik X pins σ tg R) X.xe s1) X.xe s
theorem qQ{it:Addr}{o:Obj}{n:String}{vs:Array Value}{Q:Unit->Shared->Prop}(ho:s.heap.get? it=some o)(hc:o.cls=.type n)(hd:o.data=.fields vs)
    (hn:["enumerate","zip","dict_itemiterator","dict_reverseitemiterator","odict_iterator","itertools.zip_longest","itertools.pairwise"].contains n=false) (hQ:Q () s):wpAny M A (letOwnedTupleGo tg (.ref it) u) Q E s:=by
  unfold letOwnedTupleGo
  cases tg<;>first
    |exact IZ hQ
    | (cases u<;>first
        |exact IZ hQ
        | (refine IT (wpAny_load ho ?_)
           rw[hc,hd];show wpAny M A (if (["enumerate","zip","dict_itemiterator","dict_reverseitemiterator","odict_iterator","itertools.zip_longest","itertools.pairwise"].contains n && vs[0]? == some (rawInt _))=true then _ else _) Q E s
           rw[IY (by intro h;rw[hn,NM] at h;cases h)]
           exact IZ hQ))
def Fd(K:Oe)(a:Addr):It:=
 ⟨fun i H=>∃ xs x,bS K H a xs/\xs[i]?=some x,fun i H x H'=>H'=H/\∀ xs,bS K H a xs->xs[i]?=some x,fun i H=>∃ xs,bS K H a xs/\xs.length<=i⟩
def Gb(K:Oe)(a:Addr):It:=
 ⟨fun i H=>∃ xs x,b8 K H a xs/\xs[i]?=some x,fun i H x H'=>H'=H/\∀ xs,b8 K H a xs->xs[i]?=some x,fun i H=>∃ xs,b8 K H a xs/\xs.length<=i⟩
def DN(lo:Int)(n:Nat):It:=⟨fun i _=>i<n,fun i H x H'=>H'=H/\x=.int (lo+i),fun i _=>n<=i⟩
theorem sQ(a it:Addr):Turn P w K tg (Fd K a) [it] it (fun i h=>h.IsListIter it a i) where
 mem:=by simp
 obj:=fun i h st b hb=>by
  have e:b=it:=by simpa using hb
  subst e;obtain⟨o,e,c,d⟩:=st;exact⟨o,e,fun v z=>by rw[d] at z;cases z⟩
 keep:=fun i h h' st k=>st.at fun o e=>k it (by simp) o e
 item:=by
  intro X hP hw hK hc i pins s σ H E I hf st hg;subst hP hw hK;obtain⟨xs,x,hq,hx⟩:=hg;obtain⟨its,rv,p,hz⟩:=I.list hq;obtain⟨u,hu,ru⟩:=rv.get hx;obtain⟨f0,f1,f2,f3,f4,f5⟩:=hf it (by simp)
  refine N8 st p.isList (x:=u) (by simpa using hu) fun h' st' sb=>?_
  have I1:Inv X pins σ H {s with heap:=h'}:=I.turned (t':=s.toks) (fun b o hb e=>(sb.2 b hb).trans e) f0 f1 f3 f4 f5
  obtain⟨o,e,c,d⟩:=id st';exact⟨u,rfl,qQ (s:={s with heap:=h'}) e c d (by decide) ⟨x,H,I1,ru,⟨rfl,fun ys hy=>by rw[I.nu hy hq];exact hx⟩,st',fun b hb=>(hf b hb).1⟩⟩
 done:=by
  intro X hP hw hK hc i pins s σ H E I hf st hg;subst hP hw hK;obtain⟨xs,hq,hx⟩:=hg;obtain⟨its,rv,p,hz⟩:=I.list hq;obtain⟨f0,f1,f2,f3,f4,f5⟩:=hf it (by simp)
  have hl:=rv.length;exact wpAny_pyNext_list_end (I.ok.hd hc) st p.isList (by simp;lia) fun h' eb=>⟨rfl,I.turned (t':=s.toks) (fun b o hb e=>eb b o hb e) f0 f1 f3 f4 f5⟩
 self:=fun _ _ _ _ _ st h=>wpAny_pyIter_listiter st h
theorem oV(a it:Addr):Turn P w K tg (Gb K a) [it] it (fun i h=>h.IsTupleIter it a i) where
 mem:=by simp
 obj:=fun i h st b hb=>by
  have e:b=it:=by simpa using hb
  subst e;obtain⟨o,e,c,d⟩:=st;exact⟨o,e,fun v z=>by rw[d] at z;cases z⟩
 keep:=fun i h h' st k=>st.at fun o e=>k it (by simp) o e
 item:=by
  intro X hP hw hK hc i pins s σ H E I hf st hg;subst hP hw hK;obtain⟨xs,x,hq,hx⟩:=hg;obtain⟨its,rv,p,hz⟩:=I.tuple hq;obtain⟨u,hu,ru⟩:=rv.get hx;obtain⟨f0,f1,f2,f3,f4,f5⟩:=hf it (by simp)
  refine wpAny_pyNext_tuple_item st (show s.heap.IsTuple a its.toArray from p) (x:=u) (by simpa using hu) fun h' st' sb=>?_
  have I1:Inv X pins σ H {s with heap:=h'}:=I.turned (t':=s.toks) (fun b o hb e=>(sb.2 b hb).trans e) f0 f1 f3 f4 f5
  obtain⟨o,e,c,d⟩:=id st';exact⟨u,rfl,qQ (s:={s with heap:=h'}) e c d (by decide) ⟨x,H,I1,ru,⟨rfl,fun ys hy=>by rw[I.eV hy hq];exact hx⟩,st',fun b hb=>(hf b hb).1⟩⟩
 done:=by
  intro X hP hw hK hc i pins s σ H E I hf st hg;subst hP hw hK;obtain⟨xs,hq,hx⟩:=hg;obtain⟨its,rv,p,hz⟩:=I.tuple hq;obtain⟨f0,f1,f2,f3,f4,f5⟩:=hf it (by simp)
  have hl:=rv.length;exact wpAny_pyNext_tuple_end (I.ok.hd hc) st (show s.heap.IsTuple a its.toArray from p) (by simp;lia) fun h' eb=>⟨rfl,I.turned (t':=s.toks) (fun b o hb e=>eb b o hb e) f0 f1 f3 f4 f5⟩
 self:=fun _ _ _ _ _ st h=>wpAny_pyIter_tupleiter st h
theorem pY{w:World}(it:Addr)(lo:Int)(n:Nat):Turn P w K tg (DN lo n) [it] it (fun i h=>IsRangeIter h it (lo+(i:Nat)*1) ((n:Int)-(i:Nat)) 1) where
 mem:=by simp
 obj:=fun i h st b hb=>by
  have e:b=it:=by simpa using hb
  subst e;exact⟨_,st,fun v z=>by
   have z':Data.fields _=Data.cell v:=z
   cases z'⟩
 keep:=fun i h h' st k=>k it (by simp) _ st
 item:=by
  intro X hP hw hK hc i pins s σ H E I hf st hg;subst hP hw hK;obtain⟨f0,f1,f2,f3,f4,f5⟩:=hf it (by simp)
  have W:=Walks.range (prog:=X.prog) (w:=X.w) (I.ok.hd hc) it lo 1 n;refine W.item i s _ _ hg st fun v h' tk hv st' kk=>?_;obtain⟨t,rfl⟩:=hv;have I1:Inv X pins σ H {s with heap:=h',toks:=tk}:=I.turned (fun b o hb e=>kk b o (by simpa using hb) e) f0 f1 f3 f4 f5
  refine⟨_,rfl,qQ (s:={s with heap:=h',toks:=tk}) (n:="range_iterator") st' rfl rfl (by decide) ⟨.int (lo+i),H,I1,⟨t,?_⟩,⟨rfl,rfl⟩,st',fun b hb=>(hf b hb).1⟩⟩
  rw[Int.mul_one]
 done:=by
  intro X hP hw hK hc i pins s σ H E I hf st hg;subst hP hw hK;obtain⟨f0,f1,f2,f3,f4,f5⟩:=hf it (by simp)
  exact wpAny_pyNext_range_end (I.ok.hd hc) st (by have:n<=i:=hg;lia) fun h' eb=>⟨rfl,I.turned (t':=s.toks) (fun b o hb e=>eb b o hb e) f0 f1 f3 f4 f5⟩
 self:=fun _ _ _ _ _ st h=>wpAny_pyIter_rangeiter st h
section
variable {X:Cx} {tg:Expr}
theorem mH{R:It->Hp->Prop}{lo hi:Int}{t u v:Tok}{tk:Nat}(I:Inv X pins σ H s)(h1:-(2^62)<=lo)(h2:lo<2^62)(h3:-(2^62)<=hi)(h4:hi<2^62)
  (q:R (DN lo (hi-lo).toNat) H):wpAny (model X.prog X.w) X.A (pyIter (.ref s.heap.objs.size)) (Ik X pins σ tg R) E {s with heap:=s.heap.push {cls:=.type "range",data:=.fields #[.int lo t,.int hi u,.int 1 v]},toks:=tk}:=by
 refine wpAny_pyIter_range (IsRange.new ..) (small_one h1 h2 h3 h4) ?_;have I1:Inv X pins σ H {s with heap:=s.heap.push {cls:=.type "range",data:=.fields #[.int lo t,.int hi u,.int 1 v]},toks:=tk}:=I.kept fun b o e=>IU _ e
 refine⟨(s.heap.push {cls:=.type "range",data:=.fields #[.int lo t,.int hi u,.int 1 v]}).objs.size,[(s.heap.push {cls:=.type "range",data:=.fields #[.int lo t,.int hi u,.int 1 v]}).objs.size],_,_,H,rfl,
  I1.kept (t':=tk) fun b o e=>IU _ e,pY _ lo (hi-lo).toNat,?_,fun b hb=>?_,q⟩
 ·have e1:lo+((0:Nat):Int)*1=lo:=by simp
  have e2:(((hi-lo).toNat:Nat):Int)-((0:Nat):Int)=Builtin.Range.rangeSize lo hi 1:=by rw[rangeSize_one];split<;>lia
  show IsRangeIter _ _ (lo+((0:Nat):Int)*1) ((((hi-lo).toNat:Nat):Int)-((0:Nat):Int)) 1;rw[e1,e2];exact Je _ rfl
 ·have e:b=(s.heap.push {cls:=.type "range",data:=.fields #[.int lo t,.int hi u,.int 1 v]}).objs.size:=by simpa using hb
  subst e;exact I1.m_ (Jb _) (I1.aO.fresh (Jb _))
def xX(ta:TA):TI:=fun σ H R=>ta σ H fun vs H1=>∃ j:Int,vs=[.int j]/\-(2^62)<=j/\j<2^62/\R (DN 0 j.toNat) H1
def xO(ta:TA):TI:=fun σ H R=>ta σ H fun vs H1=>∃ i j:Int,vs=[.int i,.int j]/\(-(2^62)<=i/\i<2^62/\-(2^62)<=j/\j<2^62)/\R (DN i (j-i).toNat) H1
theorem tU{a:Expr}{p:Pos}(hg:Gl X "range")(hm:X.mg "range"=none)(ha:PA X [a] ta)(hs:starEach [a] X.env=[(false,eval a X.env)]:=by rfl):PI X tg (.Call (.Name "range" p) [a] [] pos) (xX ta):=by
 intro pins s σ H R I h;refine Call_ (dw I hg hm boot_range (JZ (b9 (ha pos pins s σ H _ I h) fun us s1 ⟨vs,H1,I1,r1,q1⟩=>?_) hs rfl));obtain⟨j,e,q1,q2,q⟩:=q1;subst e
 cases r1 with
 |cons r rr =>
  cases rr;obtain⟨t,rfl⟩:=r;exact call_range_1 (mH I1 (by lia) (by lia) q1 q2 (by simpa using q))
theorem tH{a b:Expr}{p:Pos}(hg:Gl X "range")(hm:X.mg "range"=none)(ha:PA X [a,b] ta)(hs:starEach [a,b] X.env=[(false,eval a X.env),(false,eval b X.env)]:=by rfl)(hs2:starEach [b] X.env=[(false,eval b X.env)]:=by rfl):
  PI X tg (.Call (.Name "range" p) [a,b] [] pos) (xO ta):=by
 intro pins s σ H R I h;refine Call_ (dw I hg hm boot_range (JZ (b9 (ha pos pins s σ H _ I h) fun us s1 ⟨vs,H1,I1,r1,q1⟩=>?_) (by rw[hs,hs2]) (by rw[hs2];rfl)))
 obtain⟨i,j,e,⟨q1,q2,q3,q4⟩,q⟩:=q1;subst e
 cases r1 with
 |cons r rr =>
  cases rr with
  |cons r' rr =>
   cases rr;obtain⟨t,rfl⟩:=r;obtain⟨t',rfl⟩:=r';exact call_range_2 (mH I1 q1 q2 q3 q4 q)
def Bs(wi:TI)(g:TG)(tb:TS):TS:=fun D σ H=>wi σ H fun J H1=>∃ W:Nat->Nat->St->Hp->Prop,(∃ m,W 0 m σ H1)/\∀ i m σ H,W i m σ H ->
 (J.stop i H/\D.nx σ H)\/(J.go i H/\∃ N:St->Hp->Prop,(∀ σ' H',N σ' H'->∃ m',m'<m/\W (i+1) m' σ' H')/\∀ x H',J.AX i H x H'->g x σ H' fun σ2 H2=>tb {D with nx:=N,ct:=N,bk:=D.nx} σ2 H2)
def j3(fp:List Addr)(h:Heap):List (Addr×Obj):=fp.filterMap fun b=>(h.get? b).map fun o=>(b,o)
theorem ee{o:Obj}(hb:b∈fp)(e:h.get? b=some o):(b,o)∈j3 fp h:=LO.mpr ⟨b,hb,by rw[e];rfl⟩
theorem sI{p:Addr×Obj}(hp:p∈j3 fp h):p.1∈fp/\h.get? p.1=some p.2:=by
 obtain⟨b,hb,e⟩:=LO.mp hp
 cases q:h.get? b with
 |none=>rw[q] at e;cases e
 |some o =>
  rw[q] at e;have e':(b,o)=p:=Option.some.inj e;subst e';exact⟨hb,q⟩
theorem Inv.pinned(I:Inv X pins σ H s)(hf:∀ b∈fp,jc X pins H b)(ho:∀ b∈fp,∃ o,s.heap.get? b=some o/\∀ v,o.data≠.cell v):Inv X (pins++j3 fp s.heap) σ H s:=
 I.lS fun p hp=>(JN.mp hp).elim (fun z=>I.pin p (Jw _ z)) fun z=>by
  obtain⟨hb,e⟩:=sI z;obtain⟨f0,f1,f2,_⟩:=hf p.1 hb;obtain⟨o,e',d⟩:=ho p.1 hb;rw[e] at e';cases e';exact⟨e,f0,f1,f2,d⟩
theorem Inv.eD{pl:List (Addr×Obj)}(I:Inv X (pins++pl) σ H s):Inv X pins σ H s:=I.lS fun p hp=>I.pin p (Jw _ (La _ hp))
theorem Dy{iter:Expr}{wi:TI}{g:TG}{tb:TS}(hp:PassesOwn (model X.prog X.w) X.A X.env X.xe)(hc:X.calm=true)(hi:PI X tg iter wi)(hg:PG X tg g)(hb:oC X body tb)
  (hs:∀ x,foldedSetIterable iter X.env x=pure x:=by intro _;rfl):PS X (.For tg iter body [] pos) (Bs wi g tb):=by
 intro pins s σ H D I h;refine wpAny_For (b9 (hi pins s σ H _ I h) fun v s1 h1=>b9 h1 fun itv s2 h2=>?_) hs;obtain⟨it,fp,tn,J,H2,e,I2,T,oI,f2,W,⟨m0,w0⟩,turn⟩:=h2;subst e;have stat:∀{H':Hp},(∀ b∈fp,H' b=none)->∀ b∈fp,jc X pins H' b:=fun hn b hb=>⟨hn b hb,(f2 b hb).2⟩;refine codeAny_forLoop_any (fun n s'=>∃ i σ' H',Inv X pins σ' H' s'/\tn i s'.heap/\(∀ b∈fp,H' b=none)/\W i n σ' H') ?_ m0 ⟨0,σ,H2,I2,oI,fun b hb=>(f2 b hb).1,w0⟩;rintro n s3 ⟨i,σ3,H3,I3,st3,fr3,w3⟩;rcases turn i n σ3 H3 w3 with ⟨stop,qn⟩|⟨go,N,hN,step⟩
 ·refine KQ hp (b9 (T.done X rfl rfl rfl hc i pins s3 σ3 H3 X.xe I3 (stat fr3) st3 stop) fun r s4 ⟨hr,I4⟩=>?_);subst hr;exact Ml ⟨σ3,H3,I4,qn⟩
 ·refine KQ hp (b9 (T.item X rfl rfl rfl hc i pins s3 σ3 H3 X.xe I3 (stat fr3) st3 go) fun r s4 ⟨u,hr,h4⟩=>?_);subst hr;refine KQ hp (b9 h4 fun _ s5 ⟨x,H5,I5,r5,y5,st5,fr5⟩=>?_);have I5':=I5.pinned (stat fr5) (T.obj _ _ st5);refine KQ hp (b9 (hg _ s5 σ3 H5 x u _ I5' r5 (step x H5 y5)) fun _ s6 ⟨σ6,H6,I6,q6⟩=>?_);refine KQ hp (b9 (hb _ s6 σ6 H6 _ I6 q6) fun f s7 q7=>?_);have again:∀{σ7:St} {H7:Hp},Inv X (pins++j3 fp s5.heap) σ7 H7 s7->N σ7 H7->∃ m,m<n/\∃ i σ' H',Inv X pins σ' H' s7/\tn i s7.heap/\(∀ b∈fp,H' b=none)/\W i m σ' H':=fun {σ7 H7} I7 n7=>by
   obtain⟨m',hm,w7⟩:=hN σ7 H7 n7;refine⟨m',hm,i+1,σ7,H7,I7.eD,T.keep _ _ _ st5 fun b hb o e=>(I7.pin (b,o) (Jw _ (Jw _ (ee hb e)))).1,fun b hb=>?_,w7⟩;obtain⟨o,e,d⟩:=T.obj _ _ st5 b hb;exact (I7.pin (b,o) (Jw _ (Jw _ (ee hb e)))).2.1
  cases f with
  |next=>obtain⟨σ7,H7,I7,n7⟩:=q7;exact again I7 n7
  |cont=>obtain⟨σ7,H7,I7,n7⟩:=q7;exact again I7 n7
  |brk=>obtain⟨σ7,H7,I7,q7⟩:=q7;exact⟨σ7,H7,I7.eD,q7⟩
  |ret v=>obtain⟨x7,σ7,H7,I7,r7,q7⟩:=q7;exact⟨x7,σ7,H7,I7.eD,r7,q7⟩
end
abbrev R2:=V->V->Hp->VK->Prop
variable{r:R2}
def cT(X:Cx)(f:Value->Value->Sem Value)(r:R2):Prop:=
 ∀(pins:List (Addr×Obj)) (s:Shared) (σ:St) (H:Hp) (x y:V) (v u:Value) (Q:VK),Inv X pins σ H s->RelV x v->RelV y u->r x y H Q ->
  wpAny (model X.prog X.w) X.A (f v u) (EP X pins σ Q) X.xe s
def GI(X:Cx)(f:Value->Sem Value)(r:V->Hp->VK->Prop):Prop:=
 ∀(pins:List (Addr×Obj)) (s:Shared) (σ:St) (H:Hp) (x:V) (v:Value) (Q:VK),Inv X pins σ H s->RelV x v->r x H Q ->
  wpAny (model X.prog X.w) X.A (f v) (EP X pins σ Q) X.xe s
def aT(X:Cx)(f:Value)(r:List V->Hp->VK->Prop):Prop:=
 ∀(pins:List (Addr×Obj)) (s:Shared) (σ:St) (H:Hp) (xs:List V) (us:List Value) (Q:VK),Inv X pins σ H s->Vals xs us->r xs H Q ->
  wpAny (model X.prog X.w) X.A (call f us) (EP X pins σ Q) X.xe s
def HK(X:Cx)(r:V->Hp->(Bool->Hp->Prop)->Prop):Prop:=
 ∀(pins:List (Addr×Obj)) (s:Shared) (σ:St) (H:Hp) (x:V) (v:Value) (Q:Bool->Hp->Prop),Inv X pins σ H s->RelV x v->r x H Q ->
  wpAny (model X.prog X.w) X.A (truthy v) (TP X pins σ Q) X.xe s
def pE(r:R2)(ta tb:TE):TE:=fun σ H Q=>ta σ H fun x H1=>tb σ H1 fun y H2=>r x y H2 Q
def Iq(r:V->Hp->VK->Prop)(ta:TE):TE:=fun σ H Q=>ta σ H fun x H1=>r x H1 Q
def rI(C:Int->Int->Prop)(g:Int->Int->V):R2:=fun x y H Q=>∃ i j,x=.int i/\y=.int j/\C i j/\Q (g i j) H
def qE(g:Int->Int->V):R2:=fun x y H Q=>∃ i j,x=.int i/\y=.int j/\Q (g i j) H
def rU(g:Int->V):V->Hp->VK->Prop:=fun x H Q=>∃ i,x=.int i/\Q (g i) H
section
variable {X:Cx} {a b c:Expr} {ta tb tc:TE} {pos:Pos}
theorem BG(ha:PE X a ta)(hb:PE X b tb){R:V->V->Hp->Prop}(I:Inv X pins σ H s)
  (h:ta σ H fun x H1=>tb σ H1 fun y H2=>R x y H2)  
  (hf:∀ v u s2 x y H2,Inv X pins σ H2 s2->RelV x v->RelV y u->R x y H2->wpAny (model X.prog X.w) X.A (f v u) Q X.xe s2) :
  wpAny (model X.prog X.w) X.A (eval a X.env) (fun v s₁=>wpAny (model X.prog X.w) X.A (eval b X.env) (fun u s₂=>wpAny (model X.prog X.w) X.A (f v u) Q X.xe s₂) X.xe s₁) X.xe s:=by
 refine b9 (ha pins s σ H _ I h) fun v s1 ⟨x,H1,I1,r1,q1⟩=>?_;refine b9 (hb pins s1 σ H1 _ I1 q1) fun u s2 ⟨y,H2,I2,r2,q2⟩=>?_;exact hf v u s2 x y H2 I2 r1 r2 q2
theorem EW{op:Operator}(ho:cT X (binaryOp op) r)(ha:PE X a ta)(hb:PE X b tb):PE X (.BinOp a op b pos) (pE r ta tb):=by
 intro pins s σ H Q I h;exact wpAny_BinOp (BG ha hb I h fun v u s2 x y H2 I2 rx ry q=>ho pins s2 σ H2 x y v u Q I2 rx ry q)
theorem AK{op:UnaryOp}{r:V->Hp->VK->Prop}(ho:GI X (unaryOp op) r)(ha:PE X a ta):PE X (.UnaryOp op a pos) (Iq r ta):=by
 intro pins s σ H Q I h;exact UnaryOp_ (b9 (ha pins s σ H _ I h) fun v s1 ⟨x,H1,I1,r1,q1⟩=>ho pins s1 σ H1 x v Q I1 r1 q1)
theorem DH{C:Int->Int->Prop}{g:Int->Int->Int}
  (rule:∀(i j:Int) (t u:Tok) (s:Shared) (Q:Value->Shared->Prop) (E:Value->Shared->Prop),C i j->Q (.int (g i j) s.toks) {s with toks:=s.toks+1}->wpAny (model X.prog X.w) X.A (f (.int i t) (.int j u)) Q E s) :
  cT X f (rI C fun i j=>.int (g i j)):=by
 intro pins s σ H x y v u Q I rx ry h;obtain⟨i,j,rfl,rfl,hc,q⟩:=h;obtain⟨t,rfl⟩:=rx;obtain⟨t',rfl⟩:=ry;exact rule i j t t' s _ _ hc ⟨.int (g i j),H,I.tok _,⟨_,rfl⟩,q⟩
theorem FU{g:Int->Int->Int}
  (rule:∀(i j:Int) (t u:Tok) (s:Shared) (Q:Value->Shared->Prop) (E:Value->Shared->Prop),Q (.int (g i j) s.toks) {s with toks:=s.toks+1}->wpAny (model X.prog X.w) X.A (f (.int i t) (.int j u)) Q E s) :
  cT X f (qE fun i j=>.int (g i j)):=by
 intro pins s σ H x y v u Q I rx ry h;obtain⟨i,j,rfl,rfl,q⟩:=h;obtain⟨t,rfl⟩:=rx;obtain⟨t',rfl⟩:=ry;exact rule i j t t' s _ _ ⟨.int (g i j),H,I.tok _,⟨_,rfl⟩,q⟩
theorem yC{g:Int->Int->Bool}
  (rule:∀(i j:Int) (t u:Tok) (s:Shared) (Q:Value->Shared->Prop) (E:Value->Shared->Prop),Q (.bool (g i j)) s->wpAny (model X.prog X.w) X.A (f (.int i t) (.int j u)) Q E s) :
  cT X f (qE fun i j=>.bl (g i j)):=by
 intro pins s σ H x y v u Q I rx ry h;obtain⟨i,j,rfl,rfl,q⟩:=h;obtain⟨t,rfl⟩:=rx;obtain⟨t',rfl⟩:=ry;exact rule i j t t' s _ _ ⟨.bl (g i j),H,I,rfl,q⟩
def E6(i j:Int):Prop:=0<=j/\j<=1000000/\i.natAbs<2^64
def pR(i j:Int):Prop:=(-(2^64)<i/\i<2^64)\/(-(2^64)<j/\j<2^64)
theorem pR.ok{i j:Int}(h:pR i j):IntMulOk i j:=by
 rcases h with ⟨h1,h2⟩|⟨h1,h2⟩
 ·exact .of_left (intBits_le_64 h1 h2)
 ·exact .of_right (intBits_le_64 h1 h2)
theorem two_pow_nn(k:Nat):(0:Int)<=2^k:=by
 rw[two_pow_cast];exact Int.natCast_nonneg _
theorem wI:cT X (binaryOp .Add) (qE fun i j=>.int (i+j)):=FU fun _ _ _ _ _ _ _ q=>add_int q
theorem cJ:cT X (binaryOp .Sub) (qE fun i j=>.int (i-j)):=FU fun _ _ _ _ _ _ _ q=>sub_int q
theorem CH:cT X (binaryOp .Mult) (rI pR fun i j=>.int (i*j)):=DH fun _ _ _ _ _ _ _ hc q=>mul_int q hc.ok
theorem gn:cT X (binaryOp .Mod) (rI (fun _ j=>0<j) fun i j=>.int (i % j)):=DH fun i j _ _ _ _ _ hc q=>by
 have h1:(0:Int)<j:=hc;exact mod_int' (by lia) (by rw[Int.fmod_eq_emod_of_nonneg i (by lia)];exact q)
theorem dW:cT X (binaryOp .Pow) (rI E6 fun i j=>.int (i^j.toNat)):=DH fun _ _ _ _ _ _ _ hc q=>pow_int_small hc.1 hc.2.1 hc.2.2 q
theorem xj:cT X (binaryOp .LShift) (rI E6 fun i j=>.int (i*2^j.toNat)):=DH fun _ _ _ _ _ _ _ hc q=>lshift_int_small hc.1 hc.2.1 hc.2.2 q
theorem BL:cT X (binaryOp .RShift) (rI (fun _ j=>0<=j) fun i j=>.int (i / 2^j.toNat)):=DH fun i j _ _ _ _ _ hc q =>
 rshift_int hc (by rw[MN i (two_pow_nn _)];exact q)
theorem IS{f:Value->Sem Value}{g:Int->Int}
  (rule:∀(i:Int) (t:Tok) (s:Shared) (Q:Value->Shared->Prop) (E:Value->Shared->Prop),Q (.int (g i) s.toks) {s with toks:=s.toks+1}->wpAny (model X.prog X.w) X.A (f (.int i t)) Q E s) :
  GI X f (rU fun i=>.int (g i)):=by
 intro pins s σ H x v Q I rx h;obtain⟨i,rfl,q⟩:=h;obtain⟨t,rfl⟩:=rx;exact rule i t s _ _ ⟨.int (g i),H,I.tok _,⟨_,rfl⟩,q⟩
theorem u7:GI X (unaryOp .USub) (rU fun i=>.int (-i)):=IS fun _ _ _ _ _ q=>neg_int q
end
def Fv:V->V->Bool
 |.aL,.aL=>true|.aL,.int _=>true|.int _,.aL=>true|.aL,.bl _=>true|.bl _,.aL=>true|.aL,.str _=>true|.str _,.aL=>true
 |.int _,.int _=>true|.bl _,.bl _=>true|.str _,.str _=>true|.qo _,.qo _=>true
 |.int _,.str _=>true|.str _,.int _=>true|.bl _,.str _=>true|.str _,.bl _=>true
 |_,_=>false
def DZ:R2:=fun x y H Q=>Fv x y=true/\Q (.bl (decide (x=y))) H
def BK:R2:=fun x y H Q=>Fv x y=true/\Q (.bl (!decide (x=y))) H
theorem r9{i j:Int}:decide (V.int i=V.int j)=(i == j):=by
 rw[Mm];simp
theorem wk{i j:Bool}:decide (V.bl i=V.bl j)=(i == j):=by
 rw[Mm];simp
theorem qS{i j:Str}:decide (V.str i=V.str j)=(i == j):=by
 rw[Mm];simp
theorem rJ{i j:Array UInt8}:decide (V.qo i=V.qo j)=(i.toList == j.toList):=by
 rw[Mm];cases i;cases j;simp
section
variable {X:Cx} {a b c:Expr} {ta tb tc:TE} {pos:Pos}
theorem aS{Q:VK}{k k':Bool}(I:Inv X pins σ H s)(q:Q (.bl k) H)(e:k=k'):EP X pins σ Q (.bool k') s:=by
 subst e;exact⟨.bl k,H,I,rfl,q⟩
theorem AD:cT X (compareOp .Eq) DZ:=by
 intro pins s σ H x y v u Q I rx ry h;obtain⟨hs,q⟩:=h
 cases x with
 |aL =>
  cases rx
  cases y with
  |aL=>cases ry;exact PySem.EqNone.eq_none_none (aS I q (by simp))
  |bl j=>cases ry;exact PySem.EqNone.eq_none_bool (aS I q (by simp))
  |int j=>obtain⟨t',rfl⟩:=ry;exact PySem.EqNone.eq_none_int (aS I q (by simp))
  |str j=>obtain⟨t',rfl⟩:=ry;exact PySem.EqNone.eq_none_str (aS I q (by simp))
  |_=>exact absurd (show false=true from hs) Jd
 |bl i =>
  cases rx
  cases y with
  |aL=>cases ry;exact PySem.EqNone.eq_bool_none (aS I q (by simp))
  |bl j=>cases ry;exact eq_bool (aS I q wk)
  |str j=>obtain⟨t',rfl⟩:=ry;exact PySem.EqMixed.eq_bool_str (aS I q (by simp))
  |_=>exact absurd (show false=true from hs) Jd
 |int i =>
  obtain⟨t,rfl⟩:=rx
  cases y with
  |aL=>cases ry;exact PySem.EqNone.eq_int_none (aS I q (by simp))
  |int j=>obtain⟨t',rfl⟩:=ry;exact eq_int (aS I q r9)
  |str j=>obtain⟨t',rfl⟩:=ry;exact PySem.EqMixed.eq_int_str (aS I q (by simp))
  |_=>exact absurd (show false=true from hs) Jd
 |str i =>
  obtain⟨t,rfl⟩:=rx
  cases y with
  |aL=>cases ry;exact PySem.EqNone.eq_str_none (aS I q (by simp))
  |bl j=>cases ry;exact PySem.EqMixed.eq_str_bool (aS I q (by simp))
  |int j=>obtain⟨t',rfl⟩:=ry;exact PySem.EqMixed.eq_str_int (aS I q (by simp))
  |str j=>obtain⟨t',rfl⟩:=ry;exact eq_str (aS I q qS)
  |_=>exact absurd (show false=true from hs) Jd
 |qo i =>
  obtain⟨t,rfl⟩:=rx
  cases y with
  |qo j=>obtain⟨t',rfl⟩:=ry;exact PySem.W.eq_bytes (aS I q rJ)
  |_=>exact absurd (show false=true from hs) Jd
 |_=>cases y<;>exact absurd (show false=true from hs) Jd
theorem AW:cT X (compareOp .NotEq) BK:=by
 intro pins s σ H x y v u Q I rx ry h;obtain⟨hs,q⟩:=h
 cases x with
 |aL =>
  cases rx
  cases y with
  |aL=>cases ry;exact PySem.EqNone.ne_none_none (aS I q (by simp))
  |bl j=>cases ry;exact PySem.EqNone.ne_none_bool (aS I q (by simp))
  |int j=>obtain⟨t',rfl⟩:=ry;exact PySem.EqNone.ne_none_int (aS I q (by simp))
  |str j=>obtain⟨t',rfl⟩:=ry;exact PySem.EqNone.ne_none_str (aS I q (by simp))
  |_=>exact absurd (show false=true from hs) Jd
 |bl i =>
  cases rx
  cases y with
  |aL=>cases ry;exact PySem.EqNone.ne_bool_none (aS I q (by simp))
  |bl j=>cases ry;exact ne_bool (aS I q (Jv not wk))
  |str j=>obtain⟨t',rfl⟩:=ry;exact PySem.EqMixed.ne_bool_str (aS I q (by simp))
  |_=>exact absurd (show false=true from hs) Jd
 |int i =>
  obtain⟨t,rfl⟩:=rx
  cases y with
  |aL=>cases ry;exact PySem.EqNone.ne_int_none (aS I q (by simp))
  |int j=>obtain⟨t',rfl⟩:=ry;exact ne_int (aS I q (Jv not r9))
  |str j=>obtain⟨t',rfl⟩:=ry;exact PySem.EqMixed.ne_int_str (aS I q (by simp))
  |_=>exact absurd (show false=true from hs) Jd
 |str i =>
  obtain⟨t,rfl⟩:=rx
  cases y with
  |aL=>cases ry;exact PySem.EqNone.ne_str_none (aS I q (by simp))
  |bl j=>cases ry;exact PySem.EqMixed.ne_str_bool (aS I q (by simp))
  |int j=>obtain⟨t',rfl⟩:=ry;exact PySem.EqMixed.ne_str_int (aS I q (by simp))
  |str j=>obtain⟨t',rfl⟩:=ry;exact ne_str (aS I q (Jv not qS))
  |_=>exact absurd (show false=true from hs) Jd
 |qo i =>
  obtain⟨t,rfl⟩:=rx
  cases y with
  |qo j=>obtain⟨t',rfl⟩:=ry;exact PySem.W.ne_bytes (aS I q (Jv not rJ))
  |_=>exact absurd (show false=true from hs) Jd
 |_=>cases y<;>exact absurd (show false=true from hs) Jd
theorem kx:cT X (compareOp .Lt) (qE fun i j=>.bl (decide (i<j))):=yC fun _ _ _ _ _ _ _ q=>lt_int q
theorem rF:cT X (compareOp .LtE) (qE fun i j=>.bl (decide (i<=j))):=yC fun _ _ _ _ _ _ _ q=>le_int q
theorem qr:cT X (compareOp .Gt) (qE fun i j=>.bl (decide (j<i))):=yC fun _ _ _ _ _ _ _ q=>gt_int q
theorem AH:cT X (compareOp .GtE) (qE fun i j=>.bl (decide (j<=i))):=yC fun _ _ _ _ _ _ _ q=>ge_int q
theorem qK:cT X (compareOp .IsNot) (fun x y H Q=>y=.aL/\Q (.bl (!decide (x=.aL))) H):=by
 intro pins s σ H x y v u Q I rx ry h;obtain⟨rfl,q⟩:=h;cases ry;refine isnot_none_gen (aS I q ?_)
 cases x<;>first
  | (cases rx;rfl)
  | (obtain⟨t,rfl⟩:=rx;rfl)
theorem cT.or{r':R2}(h:cT X f r)(h':cT X f r'):cT X f (fun x y H Q=>r x y H Q\/r' x y H Q):=by
 intro pins s σ H x y v u Q I rx ry q;rcases q with q|q
 ·exact h pins s σ H x y v u Q I rx ry q
 ·exact h' pins s σ H x y v u Q I rx ry q
theorem yE{op:CmpOp}(ho:cT X (compareOp op) r)(ha:PE X a ta)(hb:PE X b tb)(hm:behindInMarks op b=false):PE X (.Compare a [op] [b] pos) (pE r ta tb):=by
 intro pins s σ H Q I h;exact wpAny_Compare1 (BG ha hb I h fun v u s2 x y H2 I2 rx ry q=>ho pins s2 σ H2 x y v u Q I2 rx ry q) hm
def fu(t:TE):TT:=fun σ H Q=>t σ H fun x H'=>∃ k,x=.bl k/\Q k H'
theorem zP{op:CmpOp}(ho:cT X (compareOp op) r)(ha:PE X a ta)(hb:PE X b tb)(hm:behindInMarks op b=false):PT X (.Compare a [op] [b] pos) (fu (pE r ta tb)):=by
 intro pins s σ H Q I h;refine wpAny_isTrue_Compare1 (b9 (ha pins s σ H _ I h) fun v s1 ⟨x,H1,I1,r1,q1⟩=>b9 (hb pins s1 σ H1 _ I1 q1) fun u s2 ⟨y,H2,I2,r2,q2⟩=>
  b9 (ho pins s2 σ H2 x y v u _ I2 r1 r2 q2) fun c s3 ⟨z,H3,I3,r3,k,e,q3⟩=>?_) hm
 subst e;cases r3;exact K_ ⟨H3,I3,q3⟩
def oF(r r':R2)(ta tb tc:TE):TE:=fun σ H Q=>ta σ H fun x H1=>tb σ H1 fun y H2=>r x y H2 fun z H3=>∃ k,z=.bl k /\
 (if k=true then tc σ H3 fun w' H4=>r' y w' H4 Q else Q (.bl false) H3)
theorem w4{op op':CmpOp}{r':R2}(ho:cT X (compareOp op) r)(ho':cT X (compareOp op') r')(ha:PE X a ta)(hb:PE X b tb)(hc:PE X c tc)
  (hm:lastMarks [op,op'] [b,c]=false:=by with_unfolding_all rfl):PT X (.Compare a [op,op'] [b,c] pos) (fu (oF r r' ta tb tc)):=by
 intro pins s σ H Q I h;refine isTrue_chain (b9 (ha pins s σ H _ I h) fun v s1 ⟨x,H1,I1,r1,q1⟩=>test_link (b9 (hb pins s1 σ H1 _ I1 q1) fun u s2 ⟨y,H2,I2,r2,q2⟩=>
  b9 (ho pins s2 σ H2 x y v u _ I2 r1 r2 q2) fun d s3 ⟨z,H3,I3,r3,k,e,q3⟩=>?_)) hm
 subst e;cases r3;refine K_ ?_
 cases k with
 |false =>
  obtain⟨k',e',q'⟩:=q3;cases e';exact ite_ff ⟨H3,I3,q'⟩
 |true =>
  refine ite_tt (test_last (b9 (hc pins s3 σ H3 _ I3 q3) fun w' s4 ⟨z',H4,I4,r4,q4⟩=>b9 (ho' pins s4 σ H4 y z' u w' _ I4 r2 r4 q4) fun d' s5 ⟨z2,H5,I5,r5,k2,e2,q5⟩=>?_));subst e2;cases r5;exact K_ ⟨H5,I5,q5⟩
def su(K:Oe)(x:V)(H:Hp)(k:Bool):Prop:=
 match x with
 |.aL=>k=false
 |.bl b=>k=b
 |.int i=>k=(i != 0)
 |.str y=>y.length<=sizeLine/\k=((y.length:Int) != 0)
 |.qo y=>y.size<=sizeLine/\k=((y.size:Int) != 0)
 |.ref p=>(∃ xs,bS K H p xs/\k=!xs.isEmpty)\/(∃ xs,b8 K H p xs/\k=!xs.isEmpty)\/∃ kvs,H p=some (.dK kvs)/\k=!kvs.isEmpty
 |_=>False
theorem pw{κ:Type}{kvs:List (κ×V)}{vs:List (κ×Value)}(r:KV kvs vs):(!vs.isEmpty)=!kvs.isEmpty:=by
 cases r<;>rfl
theorem j4{its:List Value}(r:Vals xs its):(!its.toArray.isEmpty)=!xs.isEmpty:=by
 cases r<;>simp
theorem eC:(sizeLine:Nat)<2^63:=by rw[Kv];decide
theorem Cd:HK X (fun x H Q=>∃ k,su X.K x H k/\Q k H):=by
 intro pins s σ H x v Q I rx h;obtain⟨k,e,q⟩:=h;have hl:=eC;have hs:sizeLine=16777216:=Kv
 cases x with
 |aL =>
  cases rx;have e':k=false:=e;subst e';exact truthy_none ⟨H,I,q⟩
 |bl b =>
  cases rx;have e':k=b:=e;subst e';exact K_ ⟨H,I,q⟩
 |int i =>
  obtain⟨t,rfl⟩:=rx;have e':k=(i != 0):=e;subst e';exact PySem.P.truthy_int ⟨H,I,q⟩
 |str y =>
  obtain⟨t,rfl⟩:=rx;obtain⟨hy,e'⟩:y.length<=sizeLine/\k=((y.length:Int) != 0):=e;subst e';exact PySem.P.truthy_str (by lia) ⟨H,I.tok _,q⟩
 |qo y =>
  obtain⟨t,rfl⟩:=rx;obtain⟨hy,e'⟩:y.size<=sizeLine/\k=((y.size:Int) != 0):=e;subst e';exact PySem.W.truthy_bytes (by lia) ⟨H,I.tok _,q⟩
 |ref p =>
  cases rx;have e':(∃ xs,bS X.K H p xs/\k=!xs.isEmpty)\/(∃ xs,b8 X.K H p xs/\k=!xs.isEmpty)\/∃ kvs,H p=some (.dK kvs)/\k=!kvs.isEmpty:=e;rcases e' with ⟨xs,hx,e'⟩|⟨xs,hx,e'⟩|⟨kvs,hx,e'⟩
  ·subst e';obtain⟨its,r,pl,hz⟩:=I.list hx;have hlen:=r.length;exact wpAny_truthy_list pl.isList (by simp only[I_];lia) ⟨H,I.tok _,by rw[j4 r];exact q⟩
  ·subst e';obtain⟨its,r,pl,hz⟩:=I.tuple hx;have hlen:=r.length;exact truthy_tuple pl (by simp only[I_];lia) ⟨H,I.tok _,by rw[j4 r];exact q⟩
  ·subst e';obtain⟨hz,hS,vs,r,m⟩:kvs.length<=sizeLine/\(p == sysModules)=false/\∃ vs,KV kvs vs/\s.heap.DictOf (bB X.prog X.w) p vs:=I.aO p _ hx;have hlen:kvs.length=vs.length:=Paired.length r;exact wpAny_truthy_dict hS m (by lia) ⟨H,I.tok _,by rw[pw r];exact q⟩
 |_=>exact (show False from e).elim
theorem vd(ha:PE X a ta)(he:∀ whole,isTrue a X.env whole=(do let v <- whole;standAt a.pos;holding [v] (truthy v))):
  PT X a (fun σ H Q=>ta σ H fun x H'=>∃ k,su X.K x H' k/\Q k H'):=by
 intro pins s σ H Q I h;exact isTrue_plain (b9 (ha pins s σ H _ I h) fun v s1 ⟨x,H1,I1,r1,q1⟩=>Cd pins s1 σ H1 x v Q I1 r1 q1) (he _)
theorem iR:cT X (binaryOp .Add) (fun x y H Q=>∃ i j,x=.str i/\y=.str j/\i.length+j.length<=sizeLine/\Q (.str (i++j)) H):=by
 intro pins s σ H x y v u Q I rx ry h;obtain⟨i,j,rfl,rfl,hz,q⟩:=h;obtain⟨t,rfl⟩:=rx;obtain⟨t',rfl⟩:=ry;exact add_str (fun t' tk=>⟨.str (i++j),H,I.tok _,⟨_,rfl⟩,q⟩) hz
theorem vals1{x:V}(r:Vals [x] us):∃ u,us=[u]/\RelV x u:=by
 cases r with
 |cons r1 r2=>cases r2;exact⟨_,rfl,r1⟩
theorem vals2{x y:V}(r:Vals [x,y] us):∃ u w',us=[u,w']/\RelV x u/\RelV y w':=by
 cases r with
 |cons r1 r2 =>
  cases r2 with
  |cons r3 r4=>cases r4;exact⟨_,_,rfl,r1,r3⟩
theorem sR(hc:X.calm=true):aT X (.builtin "max") (fun xs H Q=>∃ i j,xs=[.int i,.int j]/\Q (.int (if j > i then j else i)) H):=by
 intro pins s σ H xs us Q I r h;obtain⟨i,j,rfl,q⟩:=h;obtain⟨u,w',rfl,⟨t,rfl⟩,⟨t',rfl⟩⟩:=vals2 r;refine max_two_ints (I.ok.hd hc) fun h' tk k=>⟨_,H,I.kept k,?_,q⟩;by_cases hj:j > i
 ·rw[Ja hj,Ja hj];exact⟨_,rfl⟩
 ·rw[IY hj,IY hj];exact⟨_,rfl⟩
theorem tD(hc:X.calm=true):aT X (.builtin "min") (fun xs H Q=>∃ i j,xs=[.int i,.int j]/\Q (.int (if j<i then j else i)) H):=by
 intro pins s σ H xs us Q I r h;obtain⟨i,j,rfl,q⟩:=h;obtain⟨u,w',rfl,⟨t,rfl⟩,⟨t',rfl⟩⟩:=vals2 r;refine min_two_ints (I.ok.hd hc) fun h' tk k=>⟨_,H,I.kept k,?_,q⟩;by_cases hj:j<i
 ·rw[Ja hj,Ja hj];exact⟨_,rfl⟩
 ·rw[IY hj,IY hj];exact⟨_,rfl⟩
theorem ko:aT X (.type "int") (fun xs H Q=>(∃ i,xs=[.int i]/\Q (.int i) H)\/∃ k,xs=[.bl k]/\Q (.int (if k then 1 else 0)) H):=by
 intro pins s σ H xs us Q I r h;rcases h with ⟨i,rfl,q⟩|⟨k,rfl,q⟩
 ·obtain⟨u,rfl,t,rfl⟩:=vals1 r;exact call_int_int ⟨.int i,H,I,⟨_,rfl⟩,q⟩
 ·obtain⟨u,rfl,r1⟩:=vals1 r;cases r1;exact call_int_bool ⟨.int (if k then 1 else 0),H,I.tok _,⟨_,rfl⟩,q⟩
def HI(K:Oe)(x:V)(H:Hp)(n:Nat):Prop:=
 match x with
 |.str y=>y.length<=sizeLine/\n=y.length
 |.qo y=>y.size<=sizeLine/\n=y.size
 |.ref p=>(∃ xs,bS K H p xs/\n=xs.length)\/∃ xs,b8 K H p xs/\n=xs.length
 |_=>False
theorem je:aT X (.builtin "len") (fun xs H Q=>∃ x n,xs=[x]/\HI X.K x H n/\Q (.int n) H):=by
 intro pins s σ H xs us Q I r h;obtain⟨x,n,rfl,e,q⟩:=h;obtain⟨u,rfl,rx⟩:=vals1 r;have hl:=eC;have hs:sizeLine=16777216:=Kv
 cases x with
 |str y =>
  obtain⟨t,rfl⟩:=rx;obtain⟨hy,e'⟩:y.length<=sizeLine/\n=y.length:=e;subst e';exact len_str (by lia) ⟨.int _,H,I.tok _,⟨_,rfl⟩,q⟩
 |qo y =>
  obtain⟨t,rfl⟩:=rx;obtain⟨hy,e'⟩:y.size<=sizeLine/\n=y.size:=e;subst e';exact PySem.W.len_bytes (by lia) ⟨.int _,H,I.tok _,⟨_,rfl⟩,q⟩
 |ref p =>
  cases rx;have e':(∃ xs,bS X.K H p xs/\n=xs.length)\/∃ xs,b8 X.K H p xs/\n=xs.length:=e;rcases e' with ⟨xs,hx,e'⟩|⟨xs,hx,e'⟩
  ·subst e';obtain⟨its,r',pl,hz⟩:=I.list hx;have hlen:=r'.length;exact Calls.call_len_list pl.isList (by simp only[I_];lia) ⟨.int xs.length,H,I.tok _,⟨_,by simp only[I_];rw[hlen]⟩,q⟩
  ·subst e';obtain⟨its,r',pl,hz⟩:=I.tuple hx;have hlen:=r'.length;exact len_tuple pl (by simp only[I_];lia) ⟨.int xs.length,H,I.tok _,⟨_,by simp only[I_];rw[hlen]⟩,q⟩
 |_=>exact (show False from e).elim
end
structure Dr (h:Heap) (x dx C:Addr) (mA:Str->Option Value):Prop where
 obj:h.get? x=some (PySem.W.instObj C dx)
 ns:h.Ns1 dx mA
 ne:dx≠x
theorem tI{dx:Addr}(n:h.Ns1 dx mA):∃ od,h.get? dx=some od/\∀ name,PySem.W.lookIn name od=some (mA name):=by
 obtain⟨o,es,ep,ho,hd,hk,_,hm⟩:=n;refine⟨o,ho,fun name=>?_⟩;have e:=hm name;unfold nsFind findBy at e;rw[<- Array.find?_toList] at e;unfold PySem.W.lookIn;rw[hd];dsimp only;split
 ·rename_i y q;rw[q] at e;exact Jv some e
 ·rename_i q;rw[q] at e;have a:es.toList.any (·.refKey)=false:=by
   rw[List.any_eq_false];intro y hy;obtain⟨z,t,hkey⟩:=hk y (Array.mem_toList_iff.mp hy);simp[DictEntry.refKey,hkey]
  have a':¬ es.toList.any (·.refKey)=true:=by rw[a];exact Jd
  rw[IY a'];exact Jv some e
theorem Dr.look{x dx C:Addr}(I:Dr h x dx C mA):∃ od,PySem.W.InstAt h x (PySem.W.instObj C dx) C (some od)/\∀ name,PySem.W.lookIn name od=some (mA name):=
 let ⟨od,ho,hl⟩:=tI I.ns
 ⟨od,⟨I.obj,rfl,rfl,ho⟩,hl⟩
section
variable {prog:Program} {w:World} {A:Around} {E:Value->Shared->Prop} {s:Shared} {K:Oe} {x dx C f:Addr} {mA:Str->Option Value} {name:Str} {v:Value}
end
theorem ij.some_of{v:V}{o:Option Value}(r:ij (some v) o):∃ u,o=some u/\RelV v u:=by
 cases o with
 |none=>exact (show False from r).elim
 |some u=>exact⟨u,rfl,r⟩
section
variable {P:Program} {w:World} {H H':Hp} {h h':Heap} {a C dx:Addr} {fs fs':List (Str×V)}
theorem zX(aO:dU P w H h)(e:H a=some (.ins C dx fs)):∃ mA,Dr h a dx C mA/\(∀ f,ij (fs.lookup f) (mA f))/\PySem.Within mA (fs.map (·.1))/\fs.length<=1000/\H dx=some (.own a):=by
 obtain⟨d,z,ne,ob,mA,n,r,q⟩:=(show aJ P w H h a (.ins C dx fs) from aO a _ e);exact⟨mA,⟨ob,n,ne⟩,r,q,z,d⟩
end
structure HN (K:Oe) (C:Addr):Prop where
 pg:PySem.W.plainGet K C Str.empty=true
 hd:PySem.W.hasDictIn K C=true
 po:PySem.W.plainOver K C=true
 sa:PySem.W.findIn K (.ref C) "__setattr__"=some (some (.builtin "object.__setattr__"))
theorem HN.get{C:Addr}(c:HN K C)(f:Str):PySem.W.plainGet K C f=true:=c.pg
section
variable {X:Cx} {pins:List (Addr×Obj)} {σ:St} {H:Hp} {s:Shared} {a C dx:Addr} {fs:List (Str×V)} {f:Str} {v:V} {A:Around} {E:Value->Shared->Prop}
end
section
variable {X:Cx} {o e value:Expr} {f:Str} {pos pos' tpos:Pos} {ta tv:TE}
end
section
variable {X:Cx} {pins:List (Addr×Obj)} {σ:St} {H:Hp} {s:Shared} {A:Around} {E:Value->Shared->Prop} {Q:Value->Shared->Prop} {c:Value} {b:Bool}
inductive fS (K:Oe) (H:Hp):V->Value->Prop where
 |aL:fS K H .aL (.type "NoneType")
 |bl (x:Bool):fS K H (.bl x) (.type "bool")
 |int (i:Int):fS K H (.int i) (.type "int")
 |str (x:Str):fS K H (.str x) (.type "str")
 |DP (x:UInt64):fS K H (.DP x) (.type "float")
 |lst {a:Addr} {xs:List V} (e:H a=some (.lst xs)):fS K H (.ref a) (.type "list")
 |dk {a:Addr} {o:Obj} {xs:List V} (e:H a=some (.dk o (.lst xs))):fS K H (.ref a) (.type "list")
 |tup {a:Addr} {xs:List V} (e:H a=some (.tup xs)):fS K H (.ref a) (.type "tuple")
 |dK {a:Addr} {kvs:List (Key×V)} (e:H a=some (.dK kvs)):fS K H (.ref a) (.type "dict")
 |dT {a:Addr} {kvs:List (List Key×V)} (e:H a=some (.dT kvs)):fS K H (.ref a) (.type "dict")
 |ins {a C dx:Addr} {fs:List (Str×V)} (e:H a=some (.ins C dx fs)) (cl:HN K C) (ha:PySem.W.findIn K (.ref C) "__class__"=some (some (.builtin "object.__class__")))
   (hn:PySem.W.specialIn K (.builtin "object.__class__") "__get__"=some (some (.builtin "getset_descriptor.__get__"))) (htk:PySem.W.takesIn K (.builtin "object.__class__")=some true)
   (hm:PySem.W.mroIn K C (.type "object")=some true):fS K H (.ref a) (.ref C)
theorem kF{x:V}{t:Value}(I:Inv X pins σ H s)(rx:RelV x u)(ty:fS X.K H x t)(e:PySem.W.kitOne X.K t c=some b)(h:∀ tk,Q (.bool b) {s with toks:=tk}):
  wpAny (model X.prog X.w) A (call (.builtin "isinstance") [u,c]) Q E s:=by
 cases ty with
 |aL=>cases (show u=Value.none from rx);exact PySem.W.kia_one PySem.W.kitx_none I.hW True.intro e (fun z=>nomatch z) h
 |bl y=>cases (show u=Value.bool y from rx);exact PySem.W.kia_one PySem.W.kitx_bool I.hW True.intro e (fun z=>nomatch z) h
 |int i=>obtain⟨t,q⟩:=(show ∃ t,u=Value.int i t from rx);cases q;exact PySem.W.kia_one PySem.W.kitx_int I.hW True.intro e (fun z=>nomatch z) h
 |str y=>obtain⟨t,q⟩:=(show ∃ t,u=Value.str y t from rx);cases q;exact PySem.W.kia_one PySem.W.kitx_str I.hW True.intro e (fun z=>nomatch z) h
 |DP y=>obtain⟨t,q⟩:=(show ∃ t,u=Value.float y t from rx);cases q;exact PySem.W.kia_one PySem.W.kitx_float I.hW True.intro e (fun z=>nomatch z) h
 |@lst a xs ea =>
  cases (show u=Value.ref a from rx)
  obtain⟨_,_,n,_,h1⟩:=(show aJ X.prog X.w H s.heap a (.lst xs) from I.aO a _ ea);exact PySem.W.kia_one PySem.W.kitx_list I.hW ⟨_,h1,rfl⟩ e (fun z=>nomatch z) h
 |@dk a ob xs ea =>
  cases (show u=Value.ref a from rx)
  obtain⟨_,_,_,n,_,h1⟩:=(show aJ X.prog X.w H s.heap a (.dk ob (.lst xs)) from I.aO a _ ea);exact PySem.W.kia_one PySem.W.kitx_list I.hW ⟨_,h1,rfl⟩ e (fun z=>nomatch z) h
 |@tup a xs ea =>
  cases (show u=Value.ref a from rx)
  obtain⟨_,_,_,p⟩:=(show aJ X.prog X.w H s.heap a (.tup xs) from I.aO a _ ea);obtain⟨o,h1,h2,_⟩:=p;exact PySem.W.kia_one PySem.W.kitx_tuple I.hW ⟨o,h1,h2⟩ e (fun z=>nomatch z) h
 |@dK a kvs ea =>
  cases (show u=Value.ref a from rx)
  obtain⟨_,_,vs,_,p⟩:=(show aJ X.prog X.w H s.heap a (.dK kvs) from I.aO a _ ea);obtain⟨o,es,ep,h1,h2,_⟩:=p;exact PySem.W.kia_one PySem.W.kitx_dict I.hW ⟨o,h1,h2.1⟩ e (fun z=>nomatch z) h
 |@dT a kvs ea =>
  cases (show u=Value.ref a from rx)
  obtain⟨_,_,xs,_,o,es,ep,h1,h2,_⟩:=(show aJ X.prog X.w H s.heap a (.dT kvs) from I.aO a _ ea);exact PySem.W.kia_one PySem.W.kitx_dict I.hW ⟨o,h1,h2.1⟩ e (fun z=>nomatch z) h
 |@ins a C dx fs ea cl ha hn htk hm =>
  cases (show u=Value.ref a from rx)
  obtain⟨mA,O,_⟩:=zX I.aO ea;obtain⟨od,J,_⟩:=O.look;exact PySem.W.kia_one (PySem.W.kitx_own (cl.get _) cl.hd ha hn htk hm) I.hW J e (fun z=>nomatch z) h
end
structure bU (k:Nat) (A:Around):Prop where
 hd:A.handled=none
 dp:A.depth+3*k+5<recursionLimit
 un:A.units+16*k+200<cLine
 gd:A.guards=some []
theorem bU.mono{k:Nat}(r:bU k A)(h:j<=k):bU j A:=⟨r.hd,by have:=r.dp;lia,by have:=r.un;lia,r.gd⟩
theorem bU.deeper{k:Nat}(r:bU (k+1) A)(env:Env):bU k (A.deeper env):=
 ⟨r.hd,by have:=r.dp;show A.depth+1+3*k+5<_;lia,by have:=r.un;show A.units+3+16*k+200<_;lia,r.gd⟩
theorem bU.in1{k:Nat}(r:bU (k+1) A):bU k A.in1:=
 ⟨r.hd,by have:=r.dp;show A.depth+3*k+5<_;lia,by have:=r.un;show A.units+1+16*k+200<_;lia,r.gd⟩
theorem bU.depth{k:Nat}(r:bU k A):A.depth<recursionLimit:=by have:=r.dp;lia
theorem bU.units{k:Nat}(r:bU k A):A.units+64<cLine:=by have:=r.un;lia
def iI:TA:=fun _ H Q=>Q [] H
def er(ta:TE)(tr:TA):TA:=fun σ H Q=>ta σ H fun x H1=>tr σ H1 fun xs H2=>Q (x::xs) H2
section
variable {X:Cx} {e:Expr} {es:List Expr} {te:TE} {t:TA} {pos:Pos}
theorem vO:PA X [] iI:=fun _ _ _ _ H Q I h=>MU ⟨[],H,I,.nil,h⟩
theorem qL(ha:PE X e te)(hr:PA X es t)(hs:starEach (e::es) X.env=(false,eval e X.env)::starEach es X.env:=by rfl):PA X (e::es) (er te t):=by
 intro pos pins s σ H Q I h;rw[hs];show wpAny _ _ (spliced ((false,eval e X.env)::backTo pos (starEach es X.env))) _ _ s;refine ME (b9 (ha pins s σ H _ I h) fun u s1 ⟨x,H1,I1,r1,q1⟩=>?_);exact b9 (hr pos pins s1 σ H1 _ I1 q1) fun us s2 ⟨xs,H2,I2,r2,q2⟩=>⟨x::xs,H2,I2,.cons r1 r2,q2⟩
def Gi(t:TA):TE:=fun σ H Q=>t σ H fun xs H1=>xs.length<=sizeLine/\∀ p,H1 p=none->Q (.ref p) (upd H1 p (.tup xs))
def Fj(t:TA):TE:=fun σ H Q=>t σ H fun xs H1=>xs.length<=sizeLine/\∀ p,H1 p=none->Q (.ref p) (upd H1 p (.lst xs))
theorem CZ{x1}(h:PA X es t):PE X (.Tuple es x1 pos) (Gi t):=by
 intro pins s σ H Q I hq;refine wpAny_Tuple_spliced (b9 (h pos pins s σ H _ I hq) fun us s1 ⟨xs,H1,I1,r,z,q⟩=>⟨by rw[<- r.length];exact z,?_⟩)
 have hf:H1 s1.heap.objs.size=none:=I1.aO.fresh (Jb _);refine⟨.ref s1.heap.objs.size,upd H1 s1.heap.objs.size (.tup xs),I1.laid (t':=s1.toks) (fun b u e=>IU _ e) (Jb _) ?_,rfl,q _ hf⟩;exact⟨z,us,r,⟨_,Je _ rfl,rfl,_,rfl,rfl⟩⟩
theorem C4(h:PA X es t):PE X (.List es pos) (Fj t):=by
 intro pins s σ H Q I hq;refine wpAny_List_spliced (b9 (h pos pins s σ H _ I hq) fun us s1 ⟨xs,H1,I1,r,z,q⟩=>⟨by rw[<- r.length];exact z,?_⟩)
 have hf:H1 s1.heap.objs.size=none:=I1.aO.fresh (Jb _);refine⟨.ref s1.heap.objs.size,upd H1 s1.heap.objs.size (.lst xs),I1.laid (t':=s1.toks) (fun b u e=>IU _ e) (Jb _) ?_,rfl,q _ hf⟩;exact⟨z,us,0,r,Je _ rfl⟩
end
abbrev Sp:=List V->Hp->VK->XK->Prop
variable{sp:Sp}
abbrev mC:=List Env->Hp->Shared->XK->Value->Shared->Prop
variable{CX:mC}
structure zE (P:Program) (w:World) (K:Oe) (mg:Str->Option Value) (base:Heap) (A:Around) (outer:List Env) (s:Shared) (H:Hp):Prop where
 frames:A.frames=some outer
 mod:Mod K mg base
 bs:∀ b o,base.get? b=some o->s.heap.get? b=some o/\H b=none
 Aa:base.objs.size<=s.heap.objs.size
 i_:s.heap.FunFrames base outer
 DO:∀ b∈ik outer,H b=none
 aO:dU P w H s.heap
 bare:AllBare s.gens
 tabs:TabsOk K H
def CE(outer:List Env)(P:Program)(w:World)(H:Hp)(s:Shared)(Q:VK)(u:Value)(s':Shared):Prop:=
 ∃ v H',s'.os=s.os/\AllBare s'.gens/\Un (ik outer) [] H H' s.heap s'.heap/\dU P w H' s'.heap/\RelV v u/\Q v H'
def CR(CX:mC)(outer:List Env)(P:Program)(w:World)(H:Hp)(s:Shared)(Q:VK)(E:XK)(r:Result)(s':Shared):Prop:=
 match r with
 |.ok (.ret u)=>CE outer P w H s Q u s'
 |.ok _=>False
 |.error e=>CX outer H s E e s'
structure dJ (P:Program) (w:World) (K:Oe) (mg:Str->Option Value) (base:Heap) (CX:mC) (k:Nat) (f:Addr) (fd:FuncData) (ps:List Str) (sp:Sp):Prop where
 len:∀ vs H Q E,sp vs H Q E->vs.length=ps.length
 run:∀(A:Around) (outer:List Env) (s:Shared) (H:Hp) (args:Args) (us:List Value) (vs:List V) (Q:VK) (E:XK),bU k A->zE P w K mg base A outer s H->BindsTo s fd args (ps.zip us)->Vals vs us->sp vs H Q E ->
  codeAny (model P w) A (.call (.ref f) args) (CR CX outer P w H s Q E) s
theorem dJ.mono{k:Nat}{f:Addr}(F:dJ P w K mg base CX j f fd ps sp)(h:j<=k):
  dJ P w K mg base CX k f fd ps sp:=⟨F.len,fun A outer s H args us vs Q E hr=>F.run A outer s H args us vs Q E (hr.mono h)⟩
theorem dJ.imp{k:Nat}{f:Addr}{sp':Sp}(F:dJ P w K mg base CX k f fd ps sp)
  (h:∀ vs H Q E,sp' vs H Q E->sp vs H Q E):dJ P w K mg base CX k f fd ps sp':=
 ⟨fun vs H Q E q=>F.len vs H Q E (h _ _ _ _ q),fun A outer s H args us vs Q E hr he hb hv hs=>F.run A outer s H args us vs Q E hr he hb hv (h _ _ _ _ hs)⟩
section
variable {X:Cx} {pins:List (Addr×Obj)} {σ:St} {H:Hp} {s s':Shared}
theorem Inv.El(I:Inv X pins σ H s):zE X.prog X.w X.K X.mg X.base X.A X.stack s H:=
 ⟨I.ok.frames,I.ok.mod,I.bs,Jj I.ok.Aa I.sz,I.stack,I.i4,I.aO,I.bare,I.ok.tabs.un I.base⟩
theorem Inv.after{Q:VK}(I:Inv X pins σ H s)(h:CE X.stack X.prog X.w H s Q u s'):EP X pins σ Q u s':=by
 obtain⟨v,H',os,bare,un,aO,r,q⟩:=h;obtain⟨hh,g,d,t,os'⟩:=s';obtain rfl:os'=s.os:=os;exact⟨v,H',I.call (h':=hh) (g':=g) (d':=d) (t':=t) (ch:=[]) un aO bare (fun b z=>absurd z (by simp)),r,q⟩
end
def iC(sp:Sp)(dvs:List V)(E:XK)(t:TA):TE:=fun σ H Q=>t σ H fun vs H1=>sp (vs++dvs) H1 Q E
def Binds(K:Oe)(fd:FuncData)(ps:List Str)(ds:List Value):Prop:=
 ∀(s:Shared) (us:List Value),K.In s.heap->(us++ds).length=ps.length->BindsTo s fd ⟨us,[]⟩ (ps.zip (us++ds))
theorem Binds.all(h:∀ us:List Value,us.length=ps.length->bindArgs fd ⟨us,[]⟩=pure (ps.zip us)):Binds K fd ps []:=fun s us _ hl=>by
 rw[J7] at hl ⊢;exact .of_eq (h us hl)
def Passes(CX:mC)(X:Cx)(E:XK):Prop:=∀(pins:List (Addr×Obj)) (σ:St) (H:Hp) (s:Shared) (e:Value) (s':Shared),Inv X pins σ H s->CX X.stack H s E e s'->X.xe e s'
section
variable {X:Cx} {CX:mC} {k:Nat} {f C:Addr} {fd:FuncData} {ps:List Str} {sp:Sp} {dvs:List V} {ds:List Value} {E:XK} {x m:Str} {p pos apos:Pos} {e o:Expr} {es:List Expr} {ta:TE} {t:TA}
theorem CD{Q:VK}(F:dJ X.prog X.w X.K X.mg X.base CX k f fd ps sp)(hr:bU k X.A)(hb:Binds X.K fd ps ds)(hd:Vals dvs ds)(hx:Passes CX X E)
  (I:Inv X pins σ H s) (r:Vals vs us) (h:sp (vs++dvs) H Q E):wpAny (model X.prog X.w) X.A (call (.ref f) us) (EP X pins σ Q) X.xe s:=by
 have r2:Vals (vs++dvs) (us++ds):=r.append hd;have hl:(us++ds).length=ps.length:=by rw[<- r2.length];exact F.len _ _ _ _ h
 refine NU (LP (F.run X.A X.stack s H ⟨us,[]⟩ (us++ds) (vs++dvs) Q E hr I.El (hb s us I.hW hl) r2 h) fun r s' hq=>?_)
 cases r with
 |error e=>exact hx pins σ H s e s' I hq
 |ok fl =>
  cases fl with
  |ret u=>exact I.after hq
  |next=>exact False.elim hq
  |brk=>exact False.elim hq
  |cont=>exact False.elim hq
theorem yu(F:dJ X.prog X.w X.K X.mg X.base CX k f fd ps sp)(hr:bU k X.A)(hg:Gl X x)(hm:X.mg x=some (.ref f))(hk:PySem.W.keepIn X.K (.ref f)=true)(hb:Binds X.K fd ps ds)(hd:Vals dvs ds)(hx:Passes CX X E)
  (ha:PA X (e::es) t) (hdb:(x ==("__debug__":Str))=false:=by decide) (he:starEach (e::es) X.env=(false,eval e X.env)::starEach es X.env:=by rfl) (hpl:(backTo pos (starEach es X.env)).any (·.1)=false:=by rfl) :
  PE X (.Call (.Name x p) (e::es) [] pos) (iC sp dvs E t):=by
 intro pins s σ H Q I h;refine K6 (my I hg hm ?_ hdb);refine PySem.W.callWith_K (h₀:=X.base) I.ok.mod.y_ hk (b9 (ha pos pins s σ H _ I h) fun us s1 ⟨vs,H1,I1,r,q⟩=>⟨I1.hW,?_⟩) he hpl;exact CD F hr hb hd hx I1 r q
end
def PK(X:Cx)(kws:List Keyword)(t:TA):Prop:=
 ∀(pos:Pos) (pins:List (Addr×Obj)) (s:Shared) (σ:St) (H:Hp) (Q:List V->Hp->Prop),Inv X pins σ H s->t σ H Q->wpAny (model X.prog X.w) X.A (evalAll ((backToKw pos (keywordEach kws X.env)).map (·.2))) (AP X pins σ Q) X.xe s
section
variable {X:Cx} {CX:mC} {k:Nat} {f C:Addr} {fd:FuncData} {ps ks:List Str} {sp:Sp} {E:XK} {x m:Str} {p pos apos kpos:Pos} {e o:Expr} {es:List Expr} {kws:List Keyword} {te ta:TE} {t tk:TA} {nm:Option Str}
theorem oy:PK X [] iI:=fun _ _ _ _ H Q I h=>wpAny_evalAll_nil ⟨[],H,I,.nil,h⟩
theorem lh(ha:PE X e te)(hr:PK X kws t):PK X (⟨nm,e,kpos⟩::kws) (er te t):=by
 intro pos pins s σ H Q I h;show wpAny _ _ (evalAll ((do let v <- eval e X.env;standAt pos;pure v)::(backToKw pos (keywordEach kws X.env)).map (·.2))) _ _ s
 refine wpAny_evalAll_cons (IT (b9 (ha pins s σ H _ I h) fun u s1 ⟨x,H1,I1,r1,q1⟩=>IT (Ll (IZ ?_))));exact b9 (hr pos pins s1 σ H1 _ I1 q1) fun us s2 ⟨xs,H2,I2,r2,q2⟩=>⟨x::xs,H2,I2,.cons r1 r2,q2⟩
variable {g:List Value->List Value->List Value} {gV:List V->List V->List V}
end
structure az (N P:List Str) (sc:Scope):Prop where
 kind:sc.kind=.function
 co:sc.isCoroutine=false
 gen:sc.isGenerator=false
 nd:N.Nodup
 pre:N.take P.length=P
 par:∀ x∈P,sc.names.lookup x=some .local\/sc.names.lookup x=some .cell
 B9:∀ y∈sc.names,y.2≠.free
theorem kW:∀{binds:List (Str×Value)} {m:Str->Option Value},(∀ v,(x,v)∉binds)->bindL kindOf binds m x=m x
 |[],_,_=>rfl
 | (n,v)::r,m,h=>by
  unfold bindL;rw[kW fun w hw=>h w (Jk _ hw)];split
  ·have:x≠n:=by rintro rfl;exact h v Jl
   simp[this]
  ·rfl
theorem kP:∀{binds:List (Str×Value)} {m:Str->Option Value},(∀ v,(x,v)∉binds)->bindC kindOf binds m x=m x
 |[],_,_=>rfl
 | (n,v)::r,m,h=>by
  unfold bindC;rw[kP fun w hw=>h w (Jk _ hw)];split
  ·rfl
  ·have:x≠n:=by rintro rfl;exact h v Jl
   simp[this]
theorem j_{v:Value}:∀{P:List Str} {vs:List Value} {i:Nat} {m:Str->Option Value},P.Nodup->P[i]?=some x->vs[i]?=some v->kindOf x=some .local ->
  bindL kindOf (P.zip vs) m x=some v
 |[],_,_,_,_,h,_,_=>by simp at h
 |_::_,[],_,_,_,_,h,_=>by simp at h
 |p::P,w::vs,0,m,nd,h1,h2,hk=>by
  simp at h1 h2;subst h1;subst h2;show bindL kindOf ((p,w)::P.zip vs) m p=_;unfold bindL;rw[kW fun v hv=>(JD.mp nd).1 (N2 hv).1,Ja hk];simp
 |p::P,w::vs,i+1,m,nd,h1,h2,hk=>by
  show bindL kindOf ((p,w)::P.zip vs) m x=_;unfold bindL;exact j_ (i:=i) (JD.mp nd).2 (by simpa using h1) (by simpa using h2) hk
theorem kD{v:Value}:∀{P:List Str} {vs:List Value} {i:Nat} {m:Str->Option Value},P.Nodup->P[i]?=some x->vs[i]?=some v->kindOf x≠some .local ->
  bindC kindOf (P.zip vs) m x=some v
 |[],_,_,_,_,h,_,_=>by simp at h
 |_::_,[],_,_,_,_,h,_=>by simp at h
 |p::P,w::vs,0,m,nd,h1,h2,hk=>by
  simp at h1 h2;subst h1;subst h2;show bindC kindOf ((p,w)::P.zip vs) m p=_;unfold bindC;rw[kP fun v hv=>(JD.mp nd).1 (N2 hv).1,IY hk];simp
 |p::P,w::vs,i+1,m,nd,h1,h2,hk=>by
  show bindC kindOf ((p,w)::P.zip vs) m x=_;unfold bindC;exact kD (i:=i) (JD.mp nd).2 (by simpa using h1) (by simpa using h2) hk
def start(N:List Str)(vs:List V):St:=vs.map some++List.replicate (N.length-vs.length) none
def fR(CX:mC)(P:Program)(w:World)(K:Oe)(mg:Str->Option Value)(base:Heap)(N:List Str)(qual:Str)(scope:Scope)(f:Addr)(cd:Value)(A:Around)(outer:List Env)(s:Shared)(H:Hp)(E:XK):Cx where
 prog:=P
 w:=w
 K:=K
 mg:=mg
 base:=base
 A:=A.deeper (envOfC qual scope s.heap.objs.size f cd)
 N:=N
 s₀:=s
 H₀:=H
 env:=envOfC qual scope s.heap.objs.size f cd
 outer:=outer
 stack:=envOfC qual scope s.heap.objs.size f cd::outer
 ex:=[]
 calm:=true
 fn:=fun _=>true
 pn:=[]
 xe:=fun e s'=>wpAny (model P w) (A.deeper (envOfC qual scope s.heap.objs.size f cd)) (leaving (envOfC qual scope s.heap.objs.size f cd) e) (fun _ s''=>CX outer H s E e s'') (fun e' s''=>CX outer H s E e' s'') s'
theorem mZ{sc:Scope}{n:Nat}(h:sc.names.lookup x=some .cell):∃ c,(cellsFrom n sc.names []).lookup x=some c:=by
 have q:=PySem.W.cellsFrom_some sc.names n [] (.inl h);exact LQ.mp q
theorem tR{qual:Str}{f:Addr}{cd:Value}{outer:List Env}{s1:Shared}{E:XK}
  (S:az N ps scope) (hd:A.handled=none) (e0:zE P w K mg base A outer s H) (hl:vs.length=ps.length) (r:Vals vs us)
  (x:InCallC s s.heap.objs.size (bindL (envOfC qual scope s.heap.objs.size f cd).kindOf (ps.zip us) fun _=>none) (cellsFrom (s.heap.objs.size+1) scope.names []) (bindC (envOfC qual scope s.heap.objs.size f cd).kindOf (ps.zip us) fun _=>none) s1) :
  Inv (fR CX P w K mg base N qual scope f cd A outer s H E) [] (start N vs) H s1:=by
 have hpl:ps.length<=N.length:=by have:=Jv List.length S.pre;rw[JO] at this;lia
 obtain⟨h1,tk,rfl,hk⟩:=x.done;have noA:∀ b:Addr,b∉(fR CX P w K mg base N qual scope f cd A outer s H E).ex:=fun b z=>absurd (show b∈([]:List Addr) from z) (by simp)
 refine⟨⟨e0.mod,S.kind,rfl,rfl,Jb _,fun y z c h1 h2=>?_,fun y hy=>?_,fun y c _ h=>?_,fun _=>hd,Around.frames_deeper e0.frames,.inr ⟨rfl,rfl⟩,fun b z=>absurd z (noA b),e0.bs,e0.Aa,fun b _ _=>noA b,fun b z=>absurd z (noA b),e0.i_,e0.DO,e0.tabs⟩,
  rfl,e0.bare,Un.kept hk,⟨_,x.toInCall.ns,fun i y v h1 h2 h3=>?_⟩,fun y c h=>⟨_,x.cell y c h⟩,e0.aO.fresh (Jb _),fun y c h=>?_,fun p hp=>absurd (show p∈([]:List (Addr×Obj)) from hp) (by simp),e0.aO.kept hk,?_⟩
 ·exact name_of_addr x.apart (PySem.mem_of_lookup h1) (PySem.mem_of_lookup h2)
 ·have hy:scope.names.lookup y=some .cell\/scope.names.lookup y=some .free:=hy;rcases hy with hy|hy
  ·exact mZ hy
  ·exact absurd rfl (S.B9 _ (PySem.mem_of_lookup hy))
 ·exact K9 (x.above y c (PySem.mem_of_lookup h))
 ·have hi:i<vs.length:=by
   unfold start at h2;by_cases hi:i<vs.length
   ·exact hi
   ·rw[Kk (by simpa using hi)] at h2
    rw[Li] at h2
    split at h2<;>cases h2
  have ha:vs[i]?=some v:=by
   unfold start at h2;rw[Lb (by simpa using hi),Jy] at h2
   cases e:vs[i]? with
   |none=>rw[e] at h2;cases h2
   |some a=>rw[e] at h2;cases h2;rfl
  obtain⟨u,hu,rv⟩:=r.get ha;have hp:ps[i]?=some y:=by
   rw[<- S.pre,List.getElem?_take_of_lt (by lia)];exact h1
  have ndP:ps.Nodup:=by rw[<- S.pre];exact S.nd.sublist (List.take_sublist _ _)
  refine⟨u,rv,?_⟩;rcases S.par y (KA hp) with k|k
  ·exact .inl ⟨k,j_ ndP hp hu k⟩
  ·obtain⟨c,e⟩:=mZ (n:=s.heap.objs.size+1) k;refine .inr ⟨.inl k,c,e,?_⟩;have q:=x.cell y c e;rw[kD ndP hp hu (by show scope.names.lookup y≠_;rw[k];decide)] at q
   exact q
 ·exact e0.aO.fresh (K9 (x.above y c (PySem.mem_of_lookup h)))
 ·unfold start;show _=N.length;rw[IX,IW,JH];lia
theorem A0{k:Nat}{f:Addr}{name qual:Str}{params:Arguments}{dV kV doc pm cdv ct oc:Value}{an od:Option Addr}
  {osl:Array (Option Value)}   (lk:K.lookup f=some ⟨oc,od,.func (PySem.W.fnOf name qual params body scope dV kV doc pm an cdv ct),osl⟩) (hcd:PySem.W.codeIn K cdv qual=true) (S:az N ps scope)
  (len:∀ vs H Q E,sp vs H Q E->vs.length=ps.length)
  (hbody:∀(A:Around) (outer:List Env) (s:Shared) (H:Hp) (vs:List V) (Q:VK) (E:XK),bU k (A.deeper (envOfC qual scope s.heap.objs.size f cdv))->sp vs H Q E ->
   ∃ t,oC (fR CX P w K mg base N qual scope f cdv A outer s H E) body t/\t {nx:=fun _ H'=>Q .aL H',rt:=Q} (start N vs) H) :
  dJ P w K mg base CX (k+1) f (PySem.W.fnOf name qual params body scope dV kV doc pm an cdv ct) ps sp:=by
 refine⟨len,fun A outer s H args us vs Q E hr e0 hb r hsp=>?_⟩;have hl:=len _ _ _ _ hsp;have KX:K.In s.heap:=e0.mod.y_.keeps fun b o e=>(e0.bs b o e).1;have lim:s.heap.NoLimit:=e0.mod.nolimit.keeps fun b o e=>(e0.bs b o e).1;have hkind:∀ y∈ps.zip us,scope.names.lookup y.1=some .local\/(scope.names.lookup y.1=some .cell/\((cellsFrom (s.heap.objs.size+1) scope.names []).lookup y.1).isSome=true):=fun⟨n,v⟩ hy=>by
  rcases S.par n (N2 hy).1 with q|q
  ·exact .inl q
  ·exact .inr ⟨q,PySem.W.cellsFrom_some _ _ _ (.inl q)⟩
 refine codeAny_call_function hr.depth (KX _ _ lk) rfl S.co S.gen rfl (PySem.W.codeRec_of KX hcd) (hb _ _ _ _ ?_);refine wpAny_newFunctionEnv_cells S.kind hkind fun env he s1 x=>?_;subst he;refine⟨lim.keeps x.toInCall.keep,codeAny_func ?_⟩;obtain⟨t,ht,hq⟩:=hbody A outer s H vs Q E (hr.deeper _) hsp;have I:Inv (fR CX P w K mg base N qual scope f cdv A outer s H E) [] (start N vs) H s1:=tR S hr.hd e0 hl r x;refine JW (ht [] s1 (start N vs) H _ I hq) (fun fl s' hs=>?_) fun e s' hs=>hs;have fin:∀{σ':St} {H':Hp} {v:V} {u:Value},Inv (fR CX P w K mg base N qual scope f cdv A outer s H E) [] σ' H' s'->RelV v u->Q v H'->CE outer P w H s Q u s':=
  fun {σ' H' v u} J rv q=>⟨v,H',J.os,J.bare,J.base,J.aO,rv,q⟩
 cases fl with
 |ret u =>
  obtain⟨v,σ',H',J,rv,q⟩:=hs;exact fin J rv q
 |next =>
  obtain⟨σ',H',J,q⟩:=hs;exact fin (v:=V.aL) (u:=Value.none) J rfl q
 |brk =>
  obtain⟨_,_,_,q⟩:=hs;exact False.elim q
 |cont =>
  obtain⟨_,_,_,q⟩:=hs;exact False.elim q
section
variable {X:Cx} {x:Str} {p pos:Pos} {e:Expr} {es:List Expr} {t:TA} {id T:String} {r:List V->Hp->VK->Prop}
def uq(r:List V->Hp->VK->Prop)(t:TA):TE:=fun σ H Q=>t σ H fun vs H1=>r vs H1 Q
theorem uD(hc:aT X (.builtin id) r)(hg:Gl X x)(hm:X.mg x=none)(hv:bootBuiltins x=some (.builtin id))(ha:PA X (e::es) t)(hn:x≠"__name__":=by decide)(hdb:(x ==("__debug__":Str))=false:=by decide)
  (he:starEach (e::es) X.env=(false,eval e X.env)::starEach es X.env:=by rfl) (hpl:(backTo pos (starEach es X.env)).any (·.1)=false:=by rfl):PE X (.Call (.Name x p) (e::es) [] pos) (uq r t):=by
 intro pins s σ H Q I h;refine K6 (dw I hg hm hv ?_ hn hdb);exact PyProof.Rows.callWith_builtin1 (b9 (ha pos pins s σ H _ I h) fun us s1 ⟨vs,H1,I1,r1,q1⟩=>hc pins s1 σ H1 vs us Q I1 r1 q1) he hpl
theorem t_(hc:aT X (.type T) r)(hg:Gl X x)(hm:X.mg x=none)(hv:bootBuiltins x=some (.type T))(ha:PA X (e::es) t)(hn:x≠"__name__":=by decide)(hdb:(x ==("__debug__":Str))=false:=by decide)
  (he:starEach (e::es) X.env=(false,eval e X.env)::starEach es X.env:=by rfl) (hpl:(backTo pos (starEach es X.env)).any (·.1)=false:=by rfl):PE X (.Call (.Name x p) (e::es) [] pos) (uq r t):=by
 intro pins s σ H Q I h;refine K6 (dw I hg hm hv ?_ hn hdb);exact JZ (b9 (ha pos pins s σ H _ I h) fun us s1 ⟨vs,H1,I1,r1,q1⟩=>hc pins s1 σ H1 vs us Q I1 r1 q1) he hpl
end
end L2
namespace HT
open PySem PyProof.Rows
section
open PySem.SeqAt
open PySem.AutoSeq1 (wpAny_loadPart')
open PySem.MeetsSeq PySem.MeetsSeq2 PySem.MeetsSeq3
end
section
variable {prog:Program} {w:World} {A:Around} {E:Value->Shared->Prop} {s:Shared}
theorem zS{t b:Addr}{vs ws:List Value}{Q:Value->Shared->Prop}(ht:IsTup s.heap t vs.toArray)(hb:IsTup s.heap b ws.toArray)(hv:vs≠[])
  (h1:ws=[]->Q (.ref t) s) (h2:ws≠[]->Q (.ref s.heap.objs.size) {s with heap:=s.heap.push {cls:=.type "tuple",data:=.seq (vs++ws).toArray}})
  (hsz:vs.length+ws.length<=sizeLine):wpAny (model prog w) A (binaryOp .Add (.ref t) (.ref b)) Q E s:=by
 obtain⟨⟨cls,dd,data,sl⟩,ho,hc,n,hd⟩:=id ht;obtain⟨⟨cls2,dd2,data2,sl2⟩,ho2,hc2,n2,hd2⟩:=id hb;simp only at hc hd hc2 hd2;subst hc hd hc2 hd2;have e:vs.toArray++ws.toArray=(vs++ws).toArray:=by simp
 by_cases hw:ws=[]
 ·exact concat_meets ⟨_,ho,rfl⟩ ⟨_,ho2,rfl⟩ noFill_tuple_add seq_tuple_add PySem.F.slot_tuple_add PySem.F.entry_tuple_add (PySem.F.args_tuple_add_2 _ _)
   (tuple_addW1 t b vs.toArray ws.toArray n n2 dd dd2 sl sl2 (by simpa using hv) (by simp[hw])) ⟨ho,ho2,h1 hw⟩
 ·refine concat_meets ⟨_,ho,rfl⟩ ⟨_,ho2,rfl⟩ noFill_tuple_add seq_tuple_add PySem.F.slot_tuple_add PySem.F.entry_tuple_add (PySem.F.args_tuple_add_2 _ _)
   (tuple_addW2 t b vs.toArray ws.toArray n n2 dd dd2 sl sl2 (by simpa using hv) (by simpa using hw) (by rw[List.size_toArray,List.size_toArray];exact hsz)) ⟨ho,ho2,?_⟩
  rw[e];exact h2 hw
def bL(n d:Nat):Option Int->Nat
 |none=>d
 |some v=>if v<0 then (v+(n:Int)).toNat else min v.toNat n
theorem cQ(n d:Nat):bL n d none=d:=rfl
theorem d3(n d k:Nat):bL n d (some (k:Int))=min k n:=by
 show (if (k:Int)<0 then ((k:Int)+(n:Int)).toNat else min (k:Int).toNat n)=min k n
 rw[if_neg (by lia),Int.toNat_natCast]
theorem oK(n d:Nat)(hd:d<=n)(o:Option Int):bL n d o<=n:=by
 cases o with
 |none=>exact hd
 |some v =>
  show (if v<0 then (v+(n:Int)).toNat else min v.toNat n)<=n
  by_cases hv:v<0
  ·rw[if_pos hv];lia
  ·rw[if_neg hv];exact Nat.min_le_right _ _
theorem rG(v:Int)(n d:Nat):(if v<0 then max (v+(n:Int)) 0 else min v (n:Int))=((bL n d (some v):Nat):Int):=by
 show (if v<0 then max (v+(n:Int)) 0 else min v (n:Int))=(((if v<0 then (v+(n:Int)).toNat else min v.toNat n):Nat):Int)
 by_cases hv:v<0
 ·simp only[if_pos hv];lia
 ·simp only[if_neg hv];lia
theorem p9(lo hi:Option Int)(n:Nat):Builtin.Slice.sliceAdjust lo hi 1 (n:Int)=(((bL n 0 lo:Nat):Int),((bL n n hi:Nat):Int)):=by
 have h1:¬ ((1:Int)<0):=by lia
 unfold Builtin.Slice.sliceAdjust;simp only[h1,if_false];refine Prod.ext ?_ ?_
 ·cases lo with
  |none=>rfl
  |some v=>exact rG v n 0
 ·cases hi with
  |none=>rfl
  |some v=>exact rG v n n
theorem oP(i j:Nat):Builtin.Slice.slicePlaces (i:Int) (j:Int) 1=j-i:=by
 unfold Builtin.Slice.slicePlaces;have h1:(1:Int) > 0:=by lia
 simp only[h1,if_true,Int.ediv_one]
 split<;>lia
theorem dB{v:Value}{o:Option Int}{Q:Option Int->Shared->Prop}(p:IsPart v o)(h:Q o s):wpAny (model prog w) A (Builtin.Slice.slicePartIndex v) Q E s:=by
 cases p with
 |none=>exact slicePart_none h
 |int i t=>exact slicePart_int h
theorem dS{sl:Addr}{vl vu:Value}{lo hi:Option Int}{n:Nat}{Q:Int×Int×Nat->Shared->Prop}(hs:s.heap.IsSliceOf sl vl vu .none)(pl:IsPart vl lo)(pu:IsPart vu hi)
  (h:Q (((bL n 0 lo:Nat):Int),1,bL n n hi-bL n 0 lo) s):wpAny (model prog w) A (Builtin.Slice.sliceApplied (.ref sl) (pure (n:Int))) Q E s:=by
 obtain⟨os,hos,hcs,hds⟩:=id hs;unfold Builtin.Slice.sliceApplied Builtin.Slice.sliceFields;refine wpAny_bind (wpAny_bind (wpAny_field hos hds (x:=vl) rfl (wpAny_bind (wpAny_field hos hds (x:=vu) rfl (wpAny_bind (wpAny_field hos hds (x:=.none) rfl (wpAny_pure ?_)))))));refine wpAny_bind (slicePart_none ?_);show wpAny _ _ (if ((1:Int) == 0)=true then _ else _) _ _ s
 rw[if_neg (by decide)]
 refine wpAny_bind (dB pl (wpAny_bind (dB pu (wpAny_bind (wpAny_pure ?_)))));show wpAny _ _ (match Builtin.Slice.sliceAdjust lo hi 1 (n:Int) with | (lo,hi)=>pure (lo,(1:Int),Builtin.Slice.slicePlaces lo hi 1)) _ _ s
 rw[p9 lo hi n];show wpAny _ _ (pure (((bL n 0 lo:Nat):Int),(1:Int),Builtin.Slice.slicePlaces ((bL n 0 lo:Nat):Int) ((bL n n hi:Nat):Int) 1)) _ _ s;rw[oP];exact wpAny_pure h
theorem vZ(xs:Array Value)(i k:Nat):((List.range k).filterMap fun (m:Nat)=>xs[((i:Int)+(m:Int)*1).toNat]?).toArray=((xs.toList.drop i).take k).toArray:=by
 have e:(fun (m:Nat)=>xs[((i:Int)+(m:Int)*1).toNat]?)=fun m=>xs[i+m]?:=by
  funext m
  have:((i:Int)+(m:Int)*1).toNat=i+m:=by lia
  rw[this]
 rw[e];have:=pick_run xs i k;rw[List.filterMap_map] at this;have e2:((fun x=>xs[x]?) ∘ fun x=>i+x)=fun m=>xs[i+m]?:=rfl;rw[e2] at this;rw[this]
theorem fP{t sl:Addr}{items:Array Value}{vl vu:Value}{lo hi:Option Int}{Q:Value->Shared->Prop}(ht:IsTup s.heap t items)(hs:s.heap.IsSliceOf sl vl vu .none)(pl:IsPart vl lo)(pu:IsPart vu hi)
  (hw:¬ (bL items.size 0 lo=0/\bL items.size items.size hi=items.size))
  (h:Q (.ref s.heap.objs.size) {s with heap:=s.heap.push {cls:=.type "tuple",data:=.seq ((items.toList.drop (bL items.size 0 lo)).take (bL items.size items.size hi-bL items.size 0 lo)).toArray}})
  (hsz:items.size<=sizeLine):wpAny (model prog w) A (getItem (.ref t) (.ref sl)) Q E s:=by
 have htake:sizeOk (.seq ((items.toList.drop (bL items.size 0 lo)).take (bL items.size items.size hi-bL items.size 0 lo)).toArray):=by
  show ((items.toList.drop (bL items.size 0 lo)).take (bL items.size items.size hi-bL items.size 0 lo)).toArray.size<=sizeLine;rw[List.size_toArray,List.length_take,List.length_drop,Array.length_toList];exact Nat.le_trans (Nat.min_le_right _ _) (Nat.le_trans (Nat.sub_le _ _) hsz)
 have hj:bL items.size items.size hi<=items.size:=oK _ _ (Nat.le_refl _) hi;obtain⟨os,hos,hcs,hds⟩:=id hs;have hTs:s.TypeIs (.ref sl) "slice":=⟨os,hos,hcs⟩;unfold getItem
 try with_reducible refine wpAny_holding ?_
 first|refine wpAny_bind (wpAny_pure ?_)|skip
 refine wpAny_bind (wpAny_sequenceKey ht.typeIs (by decide) ?_)
 refine wpAny_bind (wpAny_callSpecial?_slot (name:=Str.ofString "__getitem__") ht.typeIs PyProof.Rows.slot_tuple_getitem
  (wpAny_call_entry PyProof.Rows.slot_tuple_getitem ht.typeIs entry_tuple_getitem ?_ (args_tuple_getitem _ _)))
 show wpAny _ _ (Builtin.Tuple.tupleItemsOf (.ref t) >>= _) _ _ s;refine wpAny_bind (tupleItemsOf_ ht ?_);refine wpAny_bind (wpAny_typeOf hTs ?_);rw[if_pos (by decide)]
 refine wpAny_bind (dS hs pl pu ?_);have hno:¬ ((((bL items.size 0 lo:Nat):Int) == 0 && (1:Int) == 1 && (bL items.size items.size hi-bL items.size 0 lo) == items.size)=true):=by
  intro q;rw[Bool.and_eq_true,Bool.and_eq_true] at q;have q1:((bL items.size 0 lo:Nat):Int)=0:=eq_of_beq q.1.1;have q2:bL items.size items.size hi-bL items.size 0 lo=items.size:=eq_of_beq q.2;exact hw ⟨by lia,by lia⟩
 show wpAny _ _ (if (((bL items.size 0 lo:Nat):Int) == 0 && (1:Int) == 1 && (bL items.size items.size hi-bL items.size 0 lo) == items.size)=true then _ else _) _ _ s
 rw[if_neg hno,vZ]
 first
  |exact wpAny_bind (m:=Builtin.Tuple.tupleExact _) (wpAny_newObj_type (wpAny_pure ⟨_,rfl,wpAny_pure h⟩) htake)
  |exact wpAny_bind (m:=Builtin.Tuple.tupleExact _) (wpAny_newObj_type (wpAny_bind (wpAny_pure (wpAny_pure ⟨_,rfl,wpAny_pure h⟩))) htake)
  |exact wpAny_bind (wpAny_bind (m:=Builtin.Tuple.tupleExact _) (wpAny_newObj_type (wpAny_pure (wpAny_pure ⟨_,rfl,wpAny_pure h⟩)) htake))
  |exact wpAny_bind (wpAny_bind (m:=Builtin.Tuple.tupleExact _) (wpAny_newObj_type (wpAny_pure ⟨_,rfl,wpAny_pure h⟩) htake))
end
end HT
namespace L2
open PySem PySem.Spec PyProof.Rows
variable{r:V->Option Int->Option Int->Hp->VK->Prop}{xs:List (List Key×Addr×Value)}{its its' us:List Value}{α:Type}{n:Nat}{pins:List (Addr×Obj)}{σ:St}{H H':Hp}{s:Shared}{y:V}{u:Value}{o:Option V}{P:Program}{w:World}{kvs:List (List Key×V)}{a:Addr}{Q:Value->Shared->Prop}
abbrev TO:=St->Hp->(Option Int->Hp->Prop)->Prop
def PO(X:Cx)(e:Option Expr)(t:TO):Prop:=
 ∀(pins:List (Addr×Obj)) (s:Shared) (σ:St) (H:Hp) (Q:Option Int->Hp->Prop),Inv X pins σ H s->t σ H Q ->
  wpAny (model X.prog X.w) X.A (evalPart e X.env) (fun u s'=>∃ o H',Inv X pins σ H' s'/\IsPart u o/\Q o H') X.xe s
def rR:TO:=fun _ H Q=>Q none H
def AU(t:TE):TO:=fun σ H Q=>t σ H fun x H1=>∃ i,x=.int i/\Q (some i) H1
theorem intsAre_of{ns:List Int}:∀{us:List Value},Vals (ns.map V.int) us->IntsAre us ns:=by
 induction ns with
 |nil=>intro us r;rw[List.map_nil] at r;cases r;exact .nil
 |cons n ns ih =>
  intro us r;rw[Jm] at r
  cases r with
  |cons r1 r2 =>
   obtain⟨t,e⟩:=r1;subst e;exact .cons n t (ih r2)
section
variable {X:Cx} {e:Expr} {te:TE} {lo hi:Option Expr} {tl th:TO} {pos p2:Pos}
theorem i7:PO X none rR:=by
 intro pins s σ H Q I h;rw[evalPart_none];exact IZ ⟨none,H,I,.none,h⟩
theorem i5(h:PE X e te):PO X (some e) (AU te):=by
 intro pins s σ H Q I hw;rw[evalPart_some];refine b9 (h pins s σ H _ I hw) fun u s1 ⟨x,H1,I1,r1,q1⟩=>?_;obtain⟨i,rfl,q⟩:=q1;obtain⟨t,rfl⟩:=r1;exact⟨some i,H1,I1,.int i t,q⟩
def uv(X:Cx)(r:V->Option Int->Option Int->Hp->VK->Prop):Prop:=
 ∀(pins:List (Addr×Obj)) (s:Shared) (σ:St) (H:Hp) (x:V) (v vl vu:Value) (lo hi:Option Int) (sl:Addr) (Q:VK),Inv X pins σ H s->RelV x v->s.heap.IsSliceOf sl vl vu .none->IsPart vl lo->IsPart vu hi->r x lo hi H Q ->
  ∃ T id,typeLookup (.type T) "__getitem__"=pure (some (.builtin id))/\s.TypeIs v T/\wpAny (model X.prog X.w) X.A (getItem v (.ref sl)) (EP X pins σ Q) X.xe s
theorem uv.or{r':V->Option Int->Option Int->Hp->VK->Prop}(h:uv X r)(h':uv X r'):uv X (fun x lo hi H Q=>r x lo hi H Q\/r' x lo hi H Q):=by
 intro pins s σ H x v vl vu lo hi sl Q I rx hs pl pu q;rcases q with q|q
 ·exact h pins s σ H x v vl vu lo hi sl Q I rx hs pl pu q
 ·exact h' pins s σ H x v vl vu lo hi sl Q I rx hs pl pu q
def Ii(r:V->Option Int->Option Int->Hp->VK->Prop)(te:TE)(tl th:TO):TE:=fun σ H Q=>te σ H fun x H1=>tl σ H1 fun l H2=>th σ H2 fun u H3=>r x l u H3 Q
theorem uX(hr:uv X r)(he:PE X e te)(hl:PO X lo tl)(hu:PO X hi th):PE X (.Subscript e (.Slice lo hi none p2) pos) (Ii r te tl th):=by
 intro pins s σ H Q I h;refine Nb (b9 (he pins s σ H _ I h) fun v s1 ⟨x,H1,I1,r1,q1⟩=>?_);refine wpAny_Slice (b9 (hl pins s1 σ H1 _ I1 q1) fun vl s2 ⟨l,H2,I2,pl,q2⟩=>b9 (hu pins s2 σ H2 _ I2 q2) fun vu s3 ⟨u,H3,I3,pu,q3⟩=>?_);rw[evalPart_none];refine IZ ?_;have I4:Inv X pins σ H3 {s3 with heap:=s3.heap.push {cls:=.type "slice",data:=.fields #[vl,vu,.none]}}:=I3.kept (t':=s3.toks) fun b ob q=>IU _ q
 obtain⟨T,id,hT,ht,hg⟩:=hr pins {s3 with heap:=s3.heap.push {cls:=.type "slice",data:=.fields #[vl,vu,.none]}} σ H3 x v vl vu l u s3.heap.objs.size Q I4 r1 (Heap.IsSliceOf.new ..) pl pu q3
 show wpAny (model X.prog X.w) X.A (subscriptTail e (.Slice lo hi none p2) v (.ref s3.heap.objs.size)) (EP X pins σ Q) X.xe {s3 with heap:=s3.heap.push {cls:=.type "slice",data:=.fields #[vl,vu,.none]}}
 exact tail_any (ops:=[.ref s3.heap.objs.size,v]) ht hT hg (by with_unfolding_all rfl)
def mf(xs:List V)(lo hi:Option Int):List V:=(xs.drop (HT.bL xs.length 0 lo)).take (HT.bL xs.length xs.length hi-HT.bL xs.length 0 lo)
theorem gK(xs:List V)(lo hi:Option Int):(mf xs lo hi).length<=xs.length:=by
 unfold mf;rw[JO,Kq];exact Jj (Nat.min_le_right _ _) (Nat.sub_le _ _)
def yX(K:Oe):V->Option Int->Option Int->Hp->VK->Prop:=fun x lo hi H Q=>∃ a xs,x=.ref a/\b8 K H a xs /\
 ¬ (HT.bL xs.length 0 lo=0/\HT.bL xs.length xs.length hi=xs.length)/\∀ p,H p=none->Q (.ref p) (upd H p (.tup (mf xs lo hi)))
theorem BE:uv X (yX X.K):=by
 intro pins s σ H x v vl vu lo hi sl Q I rx hs pl pu h;obtain⟨a,xs,rfl,hx,hw,q⟩:=h;cases rx;obtain⟨its,r,ht,hz⟩:=I.tuple hx;have hlen:its.toArray.size=xs.length:=by rw[I_];exact r.length.symm
 refine⟨"tuple",_,JR.lookup,ht.typeIs,?_⟩;refine HT.fP ht hs pl pu (by rw[hlen];exact hw) ?_ (by rw[hlen];exact hz)
 rw[hlen];refine⟨.ref s.heap.objs.size,_,I.laid (t':=s.toks) (o:=.tup (mf xs lo hi)) (fun b ob q=>IU _ q) (Jb _) ?_,rfl,q _ (I.aO.fresh (Jb _))⟩;exact⟨Jj (gK xs lo hi) hz,_,(r.drop (HT.bL xs.length 0 lo)).take (HT.bL xs.length xs.length hi-HT.bL xs.length 0 lo),dv.new _ _⟩
def Ez(K:Oe):R2:=fun x y H Q=>∃ a b xs ys,x=.ref a/\y=.ref b/\b8 K H a xs/\b8 K H b ys/\xs≠[]/\xs.length+ys.length<=sizeLine /\
 (ys=[]->Q (.ref a) H)/\(ys≠[]->∀ p,H p=none->Q (.ref p) (upd H p (.tup (xs++ys))))
theorem Vals.lg{xs:List V}(r:Vals xs us):us=[] ↔ xs=[]:=by
 cases r with
 |nil=>simp
 |cons _ _=>simp
theorem rM:cT X (binaryOp .Add) (Ez X.K):=by
 intro pins s σ H x y v u Q I rx ry h;obtain⟨a,b,xs,ys,rfl,rfl,ha,hb,hx,hz,q1,q2⟩:=h;cases rx;cases ry;obtain⟨its,r1,p1,_⟩:=I.tuple ha;obtain⟨its2,r2,p2,_⟩:=I.tuple hb;refine HT.zS p1 p2 (fun z=>hx (r1.lg.mp z)) (fun z=>⟨.ref a,H,I,rfl,q1 (r2.lg.mp z)⟩) (fun z=>?_) (by rw[<- r1.length,<- r2.length];exact hz)
 refine⟨.ref s.heap.objs.size,_,I.laid (t':=s.toks) (o:=.tup (xs++ys)) (fun b ob q=>IU _ q) (Jb _) ?_,rfl,q2 (fun w=>z (r2.lg.mpr w)) _ (I.aO.fresh (Jb _))⟩;exact⟨by rw[IX];exact hz,_,r1.append r2,dv.new _ _⟩
end
def jT(n:Nat)(i:Int):Option Nat:=if 0<=i then (if i<n then some i.toNat else none) else if -(n:Int)<=i then some (i+n).toNat else none
def cc(xs:List α)(i:Int):Option α:=(jT xs.length i).bind fun j=>xs[j]?
theorem rC{i:Int}{j:Nat}(h:jT n i=some j):seqIndex? i n=some j/\j<n/\-(n:Int)<=i/\i<n:=by
 unfold jT at h;by_cases h0:0<=i
 ·rw[Ja h0] at h;by_cases h1:i<n
  ·rw[Ja h1] at h;have e:i.toNat=j:=Option.some.inj h;exact⟨by rw[seqIndex_of h0 h1,e],by lia,by lia,h1⟩
  ·rw[IY h1] at h;cases h
 ·rw[IY h0] at h;by_cases h1:-(n:Int)<=i
  ·rw[Ja h1] at h;have e:(i+n).toNat=j:=Option.some.inj h;exact⟨by rw[Oa (by lia) h1,e],by lia,h1,by lia⟩
  ·rw[IY h1] at h;cases h
theorem lO{xs:List α}{i:Int}{v:α}(h:cc xs i=some v):∃ j,seqIndex? i xs.length=some j/\xs[j]?=some v/\j<xs.length/\-(xs.length:Int)<=i/\i<xs.length:=by
 unfold cc at h
 cases e:jT xs.length i with
 |none=>rw[e] at h;cases h
 |some j =>
  rw[e] at h;obtain⟨h1,h2,h3,h4⟩:=rC e;exact⟨j,h1,h,h2,h3,h4⟩
theorem cB{xs:List α}{j:Nat}{v:α}(h:xs[j]?=some v):cc xs (j:Int)=some v:=by
 have hj:j<xs.length:=(Ji.mp h).1;have e:jT xs.length (j:Int)=some j:=by
  unfold jT;rw[Ja (by lia),Ja (by lia)];simp
 unfold cc;rw[e];exact h
def sj(b:Expr):Prop:=∀ o i,subscripted b false o i=operate [o,i] (getItem o i)
def qV(X:Cx)(r:R2):Prop:=
 ∀(value slice:Expr) (pins:List (Addr×Obj)) (s:Shared) (σ:St) (H:Hp) (x y:V) (v u:Value) (Q:VK),Inv X pins σ H s->RelV x v->RelV y u->r x y H Q ->
  subscripted slice false v u=operate [v,u] (getItem v u)->wpAny (model X.prog X.w) X.A (subscriptTail value slice v u) (EP X pins σ Q) X.xe s
def FH(X:Cx)(id:String)(r:V->List V->Hp->VK->Prop):Prop:=
 ∀(pins:List (Addr×Obj)) (s:Shared) (σ:St) (H:Hp) (x:V) (xs:List V) (v:Value) (us:List Value) (Q:VK),Inv X pins σ H s->RelV x v->Vals xs us->r x xs H Q ->
  wpAny (model X.prog X.w) X.A (call (.builtin id) (v::us)) (EP X pins σ Q) X.xe s
section
variable {X:Cx} {a b:Expr} {ta tb:TE} {pos:Pos}
theorem qV.or{r r':R2}(h:qV X r)(h':qV X r'):qV X (fun x y H Q=>r x y H Q\/r' x y H Q):=by
 intro value slice pins s σ H x y v u Q I rx ry q hs;rcases q with q|q
 ·exact h value slice pins s σ H x y v u Q I rx ry q hs
 ·exact h' value slice pins s σ H x y v u Q I rx ry q hs
theorem AN{r:R2}(hr:qV X r)(ha:PE X a ta)(hb:PE X b tb)(hs:sj b):PE X (.Subscript a b pos) (pE r ta tb):=by
 intro pins s σ H Q I h;exact Nb (BG ha hb I h fun v u s2 x y H2 I2 rx ry q=>hr a b pins s2 σ H2 x y v u Q I2 rx ry q (hs _ _))
def Fe(K:Oe):R2:=fun x y H Q=>∃ p xs i v,x=.ref p/\y=.int i/\bS K H p xs/\cc xs i=some v/\Q v H
def EM(K:Oe):R2:=fun x y H Q=>∃ p xs i v,x=.ref p/\y=.int i/\b8 K H p xs/\cc xs i=some v/\Q v H
def Fq:R2:=fun x y H Q=>∃ z i c,x=.str z/\y=.int i/\z.length<=sizeLine/\cc z.cps.toList i=some c/\Q (.str ⟨#[c]⟩) H
theorem yB:qV X (Fe X.K):=by
 intro value slice pins s σ H x y v u Q I rx ry h hs;obtain⟨p,xs,i,z,rfl,rfl,hq,he,q⟩:=h;cases rx;obtain⟨t,rfl⟩:=ry;obtain⟨its,r,pl,hz⟩:=I.list hq;obtain⟨j,h1,h2,h3,h4,h5⟩:=lO he;obtain⟨w,ew,rw'⟩:=r.get h2;have hl:=r.length;have hn:=eC;have fin:EP X pins σ Q w s:=⟨z,H,I,rw',q⟩;by_cases h0:0<=i
 ·have hj:i.toNat=j:=by
   rw[seqIndex_of h0 h5] at h1;exact Option.some.inj h1
  exact item_listR pl.isList h0 (by lia) (by rw[hj];simpa using ew) fin hs
 ·have hj:(i+(its.toArray.size:Int)).toNat=j:=by
   rw[Oa (by lia) h4] at h1
   rw[I_,<- hl];exact Option.some.inj h1
  exact subscriptTail_builtinR (x:=w) pl.isList.typeIs LW.lookup
   (wpAny_getItem_list_neg (Q:=fun r s'=>r=w/\EP X pins σ Q r s') pl.isList (by lia) (by rw[I_]<;>lia) (by lia) (by rw[hj];simpa using ew) ⟨rfl,fin⟩) hs
theorem vx:qV X (EM X.K):=by
 intro value slice pins s σ H x y v u Q I rx ry h hs;obtain⟨p,xs,i,z,rfl,rfl,hq,he,q⟩:=h;cases rx;obtain⟨t,rfl⟩:=ry;obtain⟨its,r,pl,hz⟩:=I.tuple hq;obtain⟨j,h1,h2,h3,h4,h5⟩:=lO he;obtain⟨w,ew,rw'⟩:=r.get h2;have hl:=r.length;have hn:=eC;have fin:EP X pins σ Q w s:=⟨z,H,I,rw',q⟩;exact subscriptTail_builtinR (x:=w) pl.typeIs slot_tuple_getitem.lookup
  (getItem_tuple (j:=j) (Q:=fun r s'=>r=w/\EP X pins σ Q r s') pl (by lia) (by lia) (by rw[I_,<- hl];exact h1) (by simpa using ew) ⟨rfl,fin⟩) hs
theorem C6:qV X Fq:=by
 intro value slice pins s σ H x y v u Q I rx ry h hs;obtain⟨z,i,c,rfl,rfl,hz,he,q⟩:=h;obtain⟨t,rfl⟩:=rx;obtain⟨t',rfl⟩:=ry;obtain⟨j,h1,h2,h3,h4,h5⟩:=lO he;have hl:z.cps.toList.length=z.length:=by simp[Str.length]
 rw[hl] at h1 h4 h5;have hn:=eC;exact tail_any (typeIs_str s z t) slot_str_getitem.lookup (getItem_str (c:=c) (by
  have e1:decide (i < -(2^63:Int))=false:=Jp (by lia)
  have e2:decide (i >= 2^63)=false:=Jp (by lia)
  rw[e1,e2,Bool.or_false]) (by rw[h1];simpa using h2) ⟨.str ⟨#[c]⟩,H,I.tok _,⟨_,rfl⟩,q⟩) hs
def G1(K:Oe):R2:=fun x y H Q=>Fe K x y H Q\/EM K x y H Q\/Fq x y H Q
theorem uH:qV X (G1 X.K):=yB.or (vx.or C6)
theorem p6(its:List Value)(n j:Nat)(u:Value):Obj.mapSeq (·.setIfInBounds j u) {cls:=.type "list",data:=.seq its.toArray n}={cls:=.type "list",data:=.seq (its.set j u).toArray n}:=by
 simp[Obj.mapSeq]
theorem Inv.lst{p:Addr}{xs:List V}(I:Inv X pins σ H s)(h:H p=some (.lst xs)):
  ∃(its:List Value) (n:Nat),Vals xs its/\s.heap.get? p=some {cls:=.type "list",data:=.seq its.toArray n}/\xs.length<=sizeLine:=by
 obtain⟨z,its,n,r,e⟩:=I.aO p _ h;exact⟨its,n,r,e,z⟩
theorem Inv.CG{p:Addr}{xs ys:List V}{n':Nat}{f:Obj->Obj}(I:Inv X pins σ H s)(h:H p=some (.lst xs))
  (ho:s.heap.get? p=some {cls:=.type "list",data:=.seq its.toArray n}) (hf:f {cls:=.type "list",data:=.seq its.toArray n}={cls:=.type "list",data:=.seq its'.toArray n'}) (r:Vals ys its') (hz:ys.length<=sizeLine) (t:Nat) :
  Inv X pins σ (upd H p (.lst ys)) {s with heap:=s.heap.update p f,toks:=t}:=by
 have e:(s.heap.update p f).get? p=some {cls:=.type "list",data:=.seq its'.toArray n'}:=by
  rw[Lz f ho (by rw[hf]<;>rfl),hf]
 refine I.write (x:=p) (e:=p) (by rw[h];trivial) (.inl rfl) (fun b u hb q=>(Lw _ _ (Ne.symm hb)).trans q) ⟨_,e⟩ ?_
 exact⟨hz,its',n',r,e⟩
def E3:V->V->V->Hp->(Hp->Prop)->Prop:=fun o i v H Q=>∃ p xs k j,o=.ref p/\i=.int k/\H p=some (.lst xs)/\jT xs.length k=some j/\Q (upd H p (.lst (xs.set j v)))
theorem set_list:Br X E3:=by
 intro pins s σ H o i v ov iv u Q I ro ri rv h;obtain⟨p,xs,k,j,rfl,rfl,hp,hj,q⟩:=h;cases ro;obtain⟨t,rfl⟩:=ri;obtain⟨its,n,r,ho,hz⟩:=I.lst hp;obtain⟨h1,h2,h3,h4⟩:=rC hj;have hl:=r.length;have hn:=eC;have I':Inv X pins σ (upd H p (.lst (xs.set j v))) {s with heap:=s.heap.update p (Obj.mapSeq (·.setIfInBounds j u))}:=
  I.CG hp ho (p6 its n j u) (r.set rv j) (by rw[JE];exact hz) s.toks
 by_cases h0:0<=k
 ·have hk:k.toNat=j:=by
   rw[seqIndex_of h0 h4] at h1;exact Option.some.inj h1
  exact PySem.W.ki_setAt ho h0 (by lia) (by rw[I_,<- hl];exact h4) (by rw[hk];exact⟨_,I',q⟩)
 ·have hk:(k+(its.toArray.size:Int)).toNat=j:=by
   rw[Oa (by lia) h3] at h1
   rw[I_,<- hl];exact Option.some.inj h1
  exact PySem.W.ki_setBack ho (by lia) (by rw[I_,<- hl];exact h3) (by lia) (by rw[hk];exact⟨_,I',q⟩)
theorem lj(lo hi:Option Int)(n:Nat):(sliceBounds lo hi none n).1=((HT.bL n 0 lo:Nat):Int)/\(sliceBounds lo hi none n).2.1=((HT.bL n n hi:Nat):Int)/\(sliceBounds lo hi none n).2.2=1:=by
 refine⟨?_,?_,rfl⟩
 ·cases lo with
  |none=>simp[sliceBounds,HT.bL]
  |some i =>
   simp only[sliceBounds,HT.bL,Option.getD_none,show (1:Int) > 0 by decide,L0]
   by_cases h:i<0
   ·simp only[h,L0]<;>lia
   ·simp only[h,KC]<;>lia
 ·cases hi with
  |none=>simp[sliceBounds,HT.bL]
  |some i =>
   simp only[sliceBounds,HT.bL,Option.getD_none,show (1:Int) > 0 by decide,L0]
   by_cases h:i<0
   ·simp only[h,L0]<;>lia
   ·simp only[h,KC]<;>lia
theorem jP(its:List Value)(lo hi:Option Int):slicePick its.toArray lo hi none=((its.drop (HT.bL its.length 0 lo)).take (HT.bL its.length its.length hi-HT.bL its.length 0 lo)).toArray:=by
 obtain⟨h1,h2,h3⟩:=lj lo hi its.toArray.size;unfold slicePick;rw[h1,h2,h3];simp only[sliceRange_one,pick_run,I_]<;>rfl
def E8(K:Oe):V->Option Int->Option Int->Hp->VK->Prop:=fun x lo hi H Q=>∃ a xs,x=.ref a/\bS K H a xs/\∀ p,H p=none->Q (.ref p) (upd H p (.lst (mf xs lo hi)))
theorem yG:uv X (E8 X.K):=by
 intro pins s σ H x v vl vu lo hi sl Q I rx hs pl pu h;obtain⟨a,xs,rfl,hx,q⟩:=h;cases rx;obtain⟨its,r,ht,hz⟩:=I.list hx;have hlen:=r.length;refine⟨"list",_,LW.lookup,ht.isList.typeIs,?_⟩;refine LR ht.isList hs pl pu .none (by simp) ?_ (by rw[I_]<;>lia)
 rw[jP,<- hlen];refine⟨.ref s.heap.objs.size,_,I.laid (t':=s.toks) (o:=.lst (mf xs lo hi)) (fun b ob q=>IU _ q) (Jb _) ?_,rfl,q _ (I.aO.fresh (Jb _))⟩;exact⟨Jj (gK xs lo hi) hz,_,0,(r.drop (HT.bL xs.length 0 lo)).take (HT.bL xs.length xs.length hi-HT.bL xs.length 0 lo),Je _ rfl⟩
def iH:V->Bool
 |.aL=>true
 |.bl _=>true
 |.int _=>true
 |.str _=>true
 |_=>false
def DB:V->V->Bool
 |.aL,.aL=>true
 |.bl a,.bl b=>a == b
 |.bl a,.int b=>(if a then 1 else 0) == b
 |.int a,.bl b=>a ==(if b then 1 else 0)
 |.int a,.int b=>a == b
 |.str a,.str b=>a == b
 |_,_=>false
theorem p7{A:Around}{x:V}{v:Value}(ry:RelV y u)(rx:RelV x v)(fy:iH y=true)(fx:iH x=true):SeqAt.EqAt A s u v (DB y x):=by
 cases y with
 |aL =>
  cases ry
  cases x with
  |aL=>cases rx;exact SeqAt.EqAt.same _
  |bl b=>cases rx;exact SeqAt.EqAt.none_bool b
  |int b=>obtain⟨t,rfl⟩:=rx;exact SeqAt.EqAt.none_int b t
  |str b=>obtain⟨t,rfl⟩:=rx;exact SeqAt.EqAt.none_str b t
  |_=>exact absurd (show false=true from fx) Jd
 |bl a =>
  cases ry
  cases x with
  |aL=>cases rx;exact SeqAt.EqAt.bool_none a
  |bl b=>cases rx;exact SeqAt.EqAt.bool_bool a b
  |int b=>obtain⟨t,rfl⟩:=rx;exact SeqAt.EqAt.bool_int a b t
  |str b=>obtain⟨t,rfl⟩:=rx;exact SeqAt.EqAt.bool_str a b t
  |_=>exact absurd (show false=true from fx) Jd
 |int a =>
  obtain⟨t',rfl⟩:=ry
  cases x with
  |aL=>cases rx;exact SeqAt.EqAt.int_none a t'
  |bl b=>cases rx;exact SeqAt.EqAt.int_bool a t' b
  |int b=>obtain⟨t,rfl⟩:=rx;exact SeqAt.EqAt.int_int a t' b t
  |str b=>obtain⟨t,rfl⟩:=rx;exact SeqAt.EqAt.int_str a t' b t
  |_=>exact absurd (show false=true from fx) Jd
 |str a =>
  obtain⟨t',rfl⟩:=ry
  cases x with
  |aL=>cases rx;exact SeqAt.EqAt.str_none a t'
  |bl b=>cases rx;exact SeqAt.EqAt.str_bool a t' b
  |int b=>obtain⟨t,rfl⟩:=rx;exact SeqAt.EqAt.str_int a t' b t
  |str b=>obtain⟨t,rfl⟩:=rx;exact SeqAt.EqAt.str_str a t' b t
  |_=>exact absurd (show false=true from fx) Jd
 |_=>exact absurd (show false=true from fy) Jd
theorem lE:aT X (.builtin "len") (fun xs H Q=>∃ p ys,xs=[.ref p]/\(bS X.K H p ys\/b8 X.K H p ys)/\Q (.int ys.length) H):=by
 intro pins s σ H xs us Q I r h;obtain⟨p,ys,rfl,hq,q⟩:=h;obtain⟨u,rfl,rx⟩:=vals1 r;cases rx;have hn:=eC;rcases hq with hq|hq
 ·obtain⟨its,r',pl,hz⟩:=I.list hq;have hlen:=r'.length;exact Calls.call_len_list pl.isList (by simp only[I_]<;>lia) ⟨.int ys.length,H,I.tok _,⟨s.toks+1,by rw[I_,hlen]⟩,q⟩
 ·obtain⟨its,r',pl,hz⟩:=I.tuple hq;have hlen:=r'.length;exact len_tuple pl (by simp only[I_]<;>lia) ⟨.int ys.length,H,I.tok _,⟨s.toks+1,by rw[I_,hlen]⟩,q⟩
theorem lA:aT X (.builtin "len") (fun xs H Q=>∃ z,xs=[.str z]/\z.length<=sizeLine/\Q (.int z.length) H):=by
 intro pins s σ H xs us Q I r h;obtain⟨z,rfl,hz,q⟩:=h;obtain⟨u,rfl,t,rfl⟩:=vals1 r;have hn:=eC;exact len_str (by lia) ⟨.int z.length,H,I.tok _,⟨_,rfl⟩,q⟩
theorem aT.or{f:Value}{r r':List V->Hp->VK->Prop}(h:aT X f r)(h':aT X f r'):aT X f (fun xs H Q=>r xs H Q\/r' xs H Q):=by
 intro pins s σ H xs us Q I rs q;rcases q with q|q
 ·exact h pins s σ H xs us Q I rs q
 ·exact h' pins s σ H xs us Q I rs q
theorem m8:aT X (.type "list") (fun xs H Q=>∃ p ys,xs=[.ref p]/\(bS X.K H p ys\/b8 X.K H p ys)/\∀ l,H l=none->Q (.ref l) (upd H l (.lst ys))):=by
 intro pins s σ H xs us Q I r h;obtain⟨p,ys,rfl,hq,q⟩:=h;obtain⟨u,rfl,rx⟩:=vals1 r;cases rx;have fin:∀(its:List Value),Vals ys its->ys.length<=sizeLine->∀(h':Heap) (c':Nat),(∀ b o',s.heap.get? b=some o'->h'.get? b=some o') ->
   h'.get? s.heap.objs.size=some {cls:=.type "list",dict:=none,data:=.seq its.toArray c',slots:=#[]}->EP X pins σ Q (.ref s.heap.objs.size) {s with heap:=h'}:=fun its r' hz h' c' kp e =>
  ⟨.ref s.heap.objs.size,_,I.laid (t':=s.toks) kp (Jb _) (show aJ X.prog X.w _ h' _ (.lst ys) from⟨hz,its,c',r',e⟩),rfl,q _ (I.aO.fresh (Jb _))⟩
 rcases hq with hq|hq
 ·obtain⟨its,r',pl,hz⟩:=I.list hq;have hlen:=r'.length;obtain⟨o,ho,hc,n,hd⟩:=pl.isList;exact call_list_seq p (.inl rfl) ho hc hd (fun h' c' kp e=>fin its r' hz h' c' kp e) (by simp only[I_]<;>lia)
 ·obtain⟨its,r',pl,hz⟩:=I.tuple hq;have hlen:=r'.length;obtain⟨o,ho,hc,n,hd⟩:=pl;exact call_list_seq p (.inr rfl) ho hc hd (fun h' c' kp e=>fin its r' hz h' c' kp e) (by simp only[I_]<;>lia)
theorem jQ:aT X (.type "tuple") (fun xs H Q=>∃ p ys,xs=[.ref p]/\((bS X.K H p ys/\∀ l,H l=none->Q (.ref l) (upd H l (.tup ys)))\/(b8 X.K H p ys/\Q (.ref p) H))):=by
 intro pins s σ H xs us Q I r h;obtain⟨p,ys,rfl,h⟩:=h;obtain⟨u,rfl,rx⟩:=vals1 r;cases rx;rcases h with ⟨hq,q⟩|⟨hq,q⟩
 ·obtain⟨its,r',pl,hz⟩:=I.list hq;have hlen:=r'.length;refine call_tuple_list pl.isList (fun h' kp=>?_) (by simp only[I_]<;>lia)
  have I1:Inv X pins σ H {s with heap:=h'}:=I.kept (t':=s.toks) kp
  have I2:Inv X pins σ (upd H h'.objs.size (.tup ys)) {s with heap:=h'.push {cls:=.type "tuple",data:=.seq its.toArray}}:=
   I1.laid (t':=s.toks) (fun b o e=>IU _ e) (Jb _) (show aJ X.prog X.w _ _ _ (.tup ys) from⟨hz,its,r',dv.new _ _⟩)
  exact⟨.ref h'.objs.size,_,I2,rfl,q _ (I1.aO.fresh (Jb _))⟩
 ·obtain⟨its,r',pl,hz⟩:=I.tuple hq;exact call_tuple_same pl ⟨.ref p,H,I,rfl,q⟩
def Im(K:Oe)(T:String)(x:V)(H:Hp):Prop:=match x with
 |.str _=>T="str"
 |.int _=>T="int"
 |.ref p=>(T="list"/\∃ xs,bS K H p xs)\/(T="tuple"/\∃ o,K.lookup p=some o/\o.cls=.type "tuple"/\o.dict=none) \/
   (T="dict"/\((∃ kvs,H p=some (.dK kvs))\/∃ kvs,H p=some (.dT kvs)))\/(T="set"/\∃ S n,H p=some (.set S n))
 |_=>False
theorem BS{T:String}{x:V}{v:Value}(I:Inv X pins σ H s)(r:RelV x v)(ty:Im X.K T x H):
  s.TypeIs v T/\∀ a,v=.ref a->∃ ob,s.heap.get? a=some ob/\ob.dict=none:=by
 cases x with
 |str z =>
  obtain⟨t,rfl⟩:=r
  cases (show T="str" from ty)
  exact⟨typeIs_str s z t,fun _ e=>nomatch e⟩
 |int i =>
  obtain⟨t,rfl⟩:=r
  cases (show T="int" from ty)
  exact⟨Nc s i t,fun _ e=>nomatch e⟩
 |ref p =>
  cases r;rcases ty with ⟨rfl,xs,hq⟩|⟨rfl,o,hk,hc,hd⟩|⟨rfl,hk⟩|⟨rfl,S,n,hk⟩
  ·obtain⟨its,_,pl,_⟩:=I.list hq;refine⟨pl.isList.typeIs,fun a e=>?_⟩;cases e;obtain⟨o,n,e,c,hd,_⟩:=pl;exact⟨o,e,hd⟩
  ·refine⟨⟨o,I.hW p o hk,hc⟩,fun a e=>?_⟩;cases e;exact⟨o,I.hW _ o hk,hd⟩
  ·have z:∃ o,s.heap.get? p=some o/\o.ExactDict:=by
    rcases hk with ⟨kvs,hk⟩|⟨kvs,hk⟩
    ·obtain⟨_,_,_,_,o,_,_,e,ex,_⟩:=I.aO p _ hk;exact⟨o,e,ex⟩
    ·obtain⟨_,_,_,_,o,_,_,e,ex,_⟩:=I.aO p _ hk;exact⟨o,e,ex⟩
   obtain⟨o,e,ex⟩:=z;refine⟨⟨o,e,ex.1⟩,fun a e2=>?_⟩;cases e2;exact⟨o,e,ex.2.1⟩
  ·obtain⟨o,_,_,_,e,ex,_⟩:=I.aO p _ hk;refine⟨⟨o,e,ex.1⟩,fun a e2=>?_⟩;cases e2;exact⟨o,e,ex.2.1⟩
 |_=>exact False.elim ty
def HQ(K:Oe)(T:String)(r:V->List V->Hp->VK->Prop)(to:TE)(t:TA):TE:=fun σ H Q=>to σ H fun x H1=>Im K T x H1/\t σ H1 fun xs H2=>r x xs H2 Q
variable {o e:Expr} {es:List Expr} {to:TE} {t:TA} {name:Str} {apos cpos:Pos} {T id:String} {r:V->List V->Hp->VK->Prop}
theorem FL(pa:PlainAttrs T)(slot:Slot T name id)(hty:typeOf (.builtin id)=pure (.type "method_descriptor"))(hm:FH X id r)(ho:PE X o to)(ha:PA X (e::es) t)
  (hbase:attributeBase o name X.env (eval o X.env)=eval o X.env:=by rfl)
  (hfew:((backTo cpos (starEach (e::es) X.env)).all (fun x=>!x.1) && (backToKw cpos (keywordEach [] X.env)).all (fun x=>x.1.isSome)
   && decide ((e::es).length+([]:List Keyword).length+(if ([]:List Keyword).isEmpty then 0 else 1)<30))=true:=by rfl)
  (hline:(apos.endLine == cpos.line)=true:=by rfl) (hs:starEach (e::es) X.env=(false,eval e X.env)::starEach es X.env:=by rfl) (hplain:(backTo cpos (starEach es X.env)).any (·.1)=false:=by rfl) :
  PE X (.Call (.Attribute o name apos) (e::es) [] cpos) (HQ X.K T r to t):=by
 intro pins s σ H Q I h;refine wpAny_Call_method_late hbase hfew hline rfl (b9 (ho pins s σ H _ I h) fun v s1 ⟨x,H1,I1,r1,ty,q1⟩=>?_);obtain⟨h1,h2⟩:=BS I1 r1 ty;refine⟨T,id,pa,slot,hty,h1,h2,?_⟩;have hA:=ha cpos pins s1 σ H1 _ I1 q1;rw[hs] at hA ⊢;refine NA (by show (false || (backTo cpos (starEach es X.env)).any (·.1))=false;rw[hplain]<;>rfl) (Mn ?_)
 exact b9 hA fun us s2 ⟨vs,H2,I2,r2,q2⟩=>hm pins s2 σ H2 x vs v us Q I2 r1 r2 q2
/- xs.append(e),list.index on a module's tuple .. are FH facts of 06m -/
end
def Gz(X:Cx)(id:String)(r:V->List V->Hp->VK->Prop):Prop:=
 ∀(pins:List (Addr×Obj)) (s:Shared) (σ:St) (H:Hp) (x:V) (xs:List V) (v:Value) (us:List Value) (Q:VK),Inv X pins σ H s->RelV x v->Vals xs us->r x xs H Q ->
  wpAny (model X.prog X.w) X.A (call (.builtin id) (v::us)) (EP X pins σ Q) X.xe s
theorem Vals.one:∀{x:V} {us:List Value},Vals [x] us->∃ u,us=[u]/\RelV x u
 |_,_,.cons r .nil=>⟨_,rfl,r⟩
theorem Vals.eraseIdx:∀{xs:List V} {us:List Value} (i:Nat),Vals xs us->Vals (xs.eraseIdx i) (us.eraseIdx i)
 |_,_,_,.nil=>.nil
 |_,_,0,.cons _ t=>t
 |_,_,i+1,.cons r t=>.cons r (Vals.eraseIdx i t)
theorem Vals.reverse{xs:List V}(h:Vals xs us):Vals xs.reverse us.reverse:=by
 induction h with
 |nil=>exact .nil
 |cons r t ih=>rw[Lx,Lx];exact Vals.append ih (.cons r .nil)
theorem Vals.rep{xs:List V}(h:Vals xs us):∀ k:Nat,Vals (List.replicate k xs).flatten (List.replicate k us).flatten
 |0=>.nil
 |k+1=>by
  rw[JI,JI,JQ,JQ];exact Vals.append h (Vals.rep h k)
theorem ka:∀(l:List α) (i:Nat),(l.eraseIdx i).length<=l.length
 |[],_=>Jb _
 |_::_,0=>Kw _
 |_::r,i+1=>Nat.succ_le_succ (ka r i)
theorem foldl_rep(its:List Value):∀(k:Nat) (acc:List Value),
  List.foldl (fun x1 x2=>x1++x2) acc.toArray (List.replicate k its.toArray)=(acc++(List.replicate k its).flatten).toArray
 |0,acc=>by simp
 |k+1,acc=>by
  have e:acc.toArray++its.toArray=(acc++its).toArray:=by simp
  have e2:(acc++its)++(List.replicate k its).flatten=acc++(List.replicate (k+1) its).flatten:=by
   rw[JI,JQ,J6]
  rw[<- e2,<- foldl_rep its k (acc++its),<- e,JI,List.foldl_cons]
section
variable {X:Cx} {pins:List (Addr×Obj)} {σ:St} {H:Hp} {s:Shared} {l b:Addr} {xs ys zs:List V}
theorem Inv.B5{f:Array Value->Array Value}{t':Nat}(I:Inv X pins σ H s)(hH:H l=some (.lst xs))
  (e:s.heap.get? l=some {cls:=.type "list",data:=.seq its.toArray n}) (hf:f its.toArray=its'.toArray) (hv:Vals ys its') (hz:ys.length<=sizeLine) :
  Inv X pins σ (upd H l (.lst ys)) {s with heap:=s.heap.update l (Obj.mapSeq f),toks:=t'}:=by
 have q:=PySem.IsL.update e f;rw[hf] at q;refine I.write (x:=l) (e:=l) (by rw[hH];exact trivial) (.inl rfl) (fun b' u hb hu=>(Lw s.heap (Obj.mapSeq f) (Ne.symm hb)).trans hu) ⟨_,q⟩ ?_
 exact⟨hz,its',_,hv,q⟩
theorem Inv.Dz{t':Nat}(I:Inv X pins σ H s)(hv:Vals ys its)(hz:ys.length<=sizeLine):
  Inv X pins σ (upd H s.heap.objs.size (.lst ys)) {s with heap:=s.heap.push {cls:=.type "list",data:=.seq its.toArray},toks:=t'}:=
 I.laid (fun _ _ q=>IU _ q) (Jb _) ⟨hz,its,0,hv,Je _ rfl⟩
theorem Inv.fresh(I:Inv X pins σ H s):H s.heap.objs.size=none:=I.aO.fresh (Jb _)
theorem Inv.ni(I:Inv X pins σ H s)(hH:H l=some (.lst xs)):xs.length<=sizeLine/\∃(its:List Value) (n:Nat),Vals xs its/\xs.length=its.length/\s.heap.get? l=some {cls:=.type "list",data:=.seq its.toArray n}:=by
 obtain⟨z,its,n,r,e⟩:=I.aO l _ hH;exact⟨z,its,n,r,r.length,e⟩
theorem xF(h:n<=sizeLine):Builtin.List.listTooLong n=false:=by
 unfold Builtin.List.listTooLong;exact Jp (by lia)
end
section
variable {X:Cx}
def qX:V->List V->Hp->VK->Prop:=fun x vs H Q=>∃ l xs y,x=.ref l/\vs=[y]/\H l=some (.lst xs)/\xs.length<sizeLine/\Q .aL (upd H l (.lst (xs++[y])))
theorem bC:Gz X "list.append" qX:=by
 intro pins s σ H x vs v us Q I rx rv h;obtain⟨l,xs,y,rfl,rfl,hH,hz,q⟩:=h;cases rx;obtain⟨u,rfl,ru⟩:=rv.one;obtain⟨z,its,n,r,hl,e⟩:=I.ni hH;refine L5 F.slot_list_append ⟨_,e,rfl⟩ F.entry_list_append (F.args_list_append_2 _ _) (PySem.list_append l its.toArray n u (by rw[I_];lia)) ⟨e,?_⟩
 refine⟨.aL,_,I.B5 (its':=its++[u]) hH e (by simp) (r.append (.cons ru .nil)) ?_,rfl,q⟩
 rw[IX,Jr];lia
def uW:V->List V->Hp->VK->Prop:=fun x vs H Q=>∃ l xs i k y,x=.ref l/\vs=[.int i]/\H l=some (.lst xs)/\-(2^63)<=i/\i<2^63/\seqIndex? i xs.length=some k/\xs[k]?=some y/\Q y (upd H l (.lst (xs.eraseIdx k)))
theorem fY:Gz X "list.pop" uW:=by
 intro pins s σ H x vs v us Q I rx rv h;obtain⟨l,xs,i,k,y,rfl,rfl,hH,h1,h2,hk,hy,q⟩:=h;cases rx;obtain⟨u,rfl,ru⟩:=rv.one;obtain⟨t,rfl⟩:=ru;obtain⟨z,its,n,r,hl,e⟩:=I.ni hH;obtain⟨w,hw,rw'⟩:=r.get hy;refine L5 F.slot_list_pop ⟨_,e,rfl⟩ F.entry_list_pop (F.args_list_pop_2 _ _)
  (MeetsSeq.list_pop_at l its.toArray n i t k w (fitsIndex_both h1 h2) (by rw[I_,<- hl];exact hk) (by rw[<- J5];exact hw) (by rw[I_];lia)) ⟨e,?_⟩
 refine⟨y,_,I.B5 (its':=its.eraseIdx k) hH e ?_ (r.eraseIdx k) ?_,rw',q⟩
 ·show its.toArray.eraseIdxIfInBounds k=(its.eraseIdx k).toArray;rw[List.eraseIdxIfInBounds_toArray]
 ·have:=ka xs k;lia
def E7:R2:=fun x y H Q=>∃ l b xs zs,x=.ref l/\y=.ref b/\H l=some (.lst xs)/\H b=some (.lst zs)/\xs.length+zs.length<=sizeLine/\∀ p,H p=none->Q (.ref p) (upd H p (.lst (xs++zs)))
theorem x5:cT X (binaryOp .Add) E7:=by
 intro pins s σ H x y v u Q I rx ry h;obtain⟨l,b,xs,zs,rfl,rfl,hH,hB,hz,q⟩:=h;cases rx;cases ry;obtain⟨z,its,n,r,hl,e⟩:=I.ni hH;obtain⟨z2,its2,n2,r2,hl2,e2⟩:=I.ni hB;refine PySem.P.add_list e e2 ?_ (by rw[I_,I_];lia)
 have ea:its.toArray++its2.toArray=(its++its2).toArray:=by simp
 rw[ea];exact⟨.ref _,_,I.Dz (t':=s.toks) (r.append r2) (by rw[IX];lia),rfl,q _ I.fresh⟩
def FD:R2:=fun x y H Q=>∃ l k xs,x=.ref l/\y=.int k/\H l=some (.lst xs)/\-(2^63)<=k/\k<2^63/\xs.length*k.toNat<=sizeLine /\
 ∀ p,H p=none->Q (.ref p) (upd H p (.lst (List.replicate k.toNat xs).flatten))
theorem len_rep(xs:List α)(k:Nat):(List.replicate k xs).flatten.length=k*xs.length:=by
 induction k with
 |zero=>simp
 |succ k ih=>rw[JI,JQ,IX,ih,L1,Ob]
theorem D0:cT X (binaryOp .Mult) FD:=by
 intro pins s σ H x y v u Q I rx ry h;obtain⟨l,k,xs,rfl,rfl,hH,h1,h2,hz,q⟩:=h;cases rx;obtain⟨t,rfl⟩:=ry;obtain⟨z,its,n,r,hl,e⟩:=I.ni hH;have hlen:its.toArray.size*k.toNat<=sizeLine:=by rw[I_,<- hl];exact hz
 have hcap:¬ its.toArray.size*k.toNat >(2^63-1) / 8:=by
  have:(sizeLine:Nat)<=(2^63-1) / 8:=by decide
  lia
 have hfit:¬ (!Builtin.List.listFitsIndex k)=true:=by
  rw[fitsIndex_both h1 h2];exact Jd
 have hlong:¬ Builtin.List.listTooLong (its.toArray.size*k.toNat)=true:=by
  rw[xF hlen];exact Jd
 have hnew:List.foldl (fun x1 x2=>x1++x2) #[] (List.replicate (if its.toArray.isEmpty=true then 0 else k.toNat) its.toArray)=(List.replicate k.toNat its).flatten.toArray:=by
  have f0:∀ m:Nat,List.foldl (fun x1 x2=>x1++x2) #[] (List.replicate m its.toArray)=(List.replicate m its).flatten.toArray:=fun m=>by
   have:=foldl_rep its m [];rw[Mo] at this;exact this
  rw[f0]
  cases its with
  |nil=>simp
  |cons a r'=>rw[IY (by simp)]
 refine Nd (T:="list") (U:="int") (by decide) ⟨_,e,rfl⟩ (fun s'=>Nc s' k t) noFill_list_mul F.fills_int_mul F.slot_int_rmul repeat_list F.slot_int_index.lookup
  (L5 F.slot_int_rmul (Nc s k t) F.entry_int_rmul (F.args_int_rmul_2 _ _) (int___rmul___int_list k t l its.toArray n)
   ⟨e,rfl,⟨_,e,rfl⟩,L5 F.slot_list_mul ⟨_,e,rfl⟩ F.entry_list_mul (F.args_list_mul_2 _ _) (AutoListH.list___mul___list_int_3 l its.toArray n k t hfit hcap hlong) ⟨e,?_⟩⟩)
 rw[hnew];exact⟨.ref _,_,I.Dz (t':=s.toks) (r.rep k.toNat) (by rw[len_rep,Nat.mul_comm];exact hz),rfl,q _ I.fresh⟩
end
section
variable {prog:Program} {w:World} {A:Around} {E:Value->Shared->Prop} {s:Shared}
end
section
variable {X:Cx}
end
section
variable {κ:Type} [DecidableEq κ]
def cZ(kvs:List (κ×V))(k:κ):Option V:=(kvs.find? fun kv=>decide (kv.1=k)).map (·.2)
def putK(kvs:List (κ×V))(k:κ)(v:V):List (κ×V):=
 if (kvs.any fun kv=>decide (kv.1=k))=true then kvs.map (fun kv=>if kv.1=k then (kv.1,v) else kv) else kvs++[(k,v)]
def gP(kvs:List (κ×V))(k:κ):List (κ×V):=kvs.filter fun kv=>decide (kv.1≠k)
theorem cm{p:κ×V}{r:List (κ×V)}{k:κ}(e:p.1=k):cZ (p::r) k=some p.2:=by simp[cZ,Lq,e]
theorem cf{p:κ×V}{r:List (κ×V)}{k:κ}(e:¬ p.1=k):cZ (p::r) k=cZ r k:=by simp[cZ,Lq,e]
theorem dR(k:κ):∀ kvs:List (κ×V),(kvs.any fun kv=>decide (kv.1=k))=(cZ kvs k).isSome
 |[]=>rfl
 |p::r=>by
  rw[NY];by_cases e:p.1=k
  ·simp only[cm e,Jz e,Bool.true_or,Option.isSome_some]
  ·rw[cf e,Jp e,Bool.false_or];exact dR k r
theorem mM(k j:κ)(y:V):∀ kvs:List (κ×V),cZ (kvs.map fun kv=>if kv.1=k then (kv.1,y) else kv) j=(cZ kvs j).map fun x=>if j=k then y else x
 |[]=>rfl
 |p::r=>by
  have ih:=mM k j y r;rw[Jm];by_cases h:p.1=k
  ·rw[Ja h];by_cases e:p.1=j
   ·rw[cm (p:=(p.1,y)) e,cm e,LJ,Ja (e.symm.trans h)]
   ·rw[cf (p:=(p.1,y)) e,cf e,ih]
  ·rw[IY h];by_cases e:p.1=j
   ·rw[cm (p:=p) e,cm e,LJ,IY (fun z=>h (e.trans z))]
   ·rw[cf (p:=p) e,cf e,ih]
theorem kC(k j:κ)(y:V):∀ kvs:List (κ×V),cZ kvs k=none->cZ (kvs++[(k,y)]) j=if j=k then some y else cZ kvs j
 |[],_=>by
  by_cases e:k=j
  ·rw[Ja e.symm];exact cm (p:=(k,y)) e
  ·rw[IY (fun z=>e z.symm)];exact cf (p:=(k,y)) e
 |p::r,hn=>by
  rw[L6];have hk:¬ p.1=k:=fun z=>by rw[cm z] at hn;cases hn
  rw[cf hk] at hn;have ih:=kC k j y r hn;by_cases e:p.1=j
  ·rw[cm e,cm e,IY (fun z=>hk (e.trans z))]
  ·rw[cf e,cf e,ih]
theorem wU(kvs:List (κ×V))(k j:κ)(y:V):cZ (putK kvs k y) j=if j=k then some y else cZ kvs j:=by
 unfold putK;by_cases a:(kvs.any fun kv=>decide (kv.1=k))=true
 ·rw[Ja a,mM];rw[dR] at a;by_cases e:j=k
  ·obtain⟨x,hx⟩:=LQ.mp a;rw[Ja e,e,hx,LJ,Ja rfl]
  ·rw[IY e]
   cases cZ kvs j with
   |none=>rfl
   |some x=>rw[LJ,IY e]
 ·rw[IY a];refine kC k j y kvs ?_;rw[dR] at a
  cases q:cZ kvs k with
  |none=>rfl
  |some x=>rw[q] at a;exact (a rfl).elim
theorem eA(kvs:List (κ×V))(k:κ)(v:V):(putK kvs k v).length<=kvs.length+1:=by
 unfold putK;split
 ·rw[IW];lia
 ·rw[IX,Jf,JG];lia
theorem mF{kvs:List (κ×V)}{k:κ}(v:V)(h:cZ kvs k=none):putK kvs k v=kvs++[(k,v)]:=by
 unfold putK;rw[dR,h];exact IY (by decide)
theorem ij.gx{u:Option Value}(r:ij o u):o.isSome=u.isSome:=by
 cases o with
 |none=>cases u with
  |none=>rfl
  |some _=>exact (show False from r).elim
 |some _=>cases u with
  |none=>exact (show False from r).elim
  |some _=>rfl
theorem KV.val{kvs:List (κ×V)}{vs:List (κ×Value)}(r:KV kvs vs)(k:κ):ij (cZ kvs k) (valueAt vs k):=by
 unfold KV at r
 induction r with
 |nil=>exact True.intro
 |@cons p q ps qs h t ih =>
  obtain⟨h1,h2⟩:=h;by_cases e:p.1=k
  ·have e':q.1=k:=h1.symm.trans e;have b:valueAt (q::qs) k=some q.2:=by simp[valueAt,Lq,e']
   rw[cm e,b];exact h2
  ·have e':¬ q.1=k:=fun z=>e (h1.trans z);have b:valueAt (q::qs) k=valueAt qs k:=by simp[valueAt,Lq,e']
   rw[cf e,b];exact ih
theorem KV.any{kvs:List (κ×V)}{vs:List (κ×Value)}(r:KV kvs vs)(k:κ):(kvs.any fun kv=>decide (kv.1=k))=vs.any fun kv=>decide (kv.1=k):=by
 unfold KV at r
 induction r with
 |nil=>rfl
 |cons h t ih=>rw[NY,NY,ih,h.1]
theorem KV.By{kvs:List (κ×V)}{vs:List (κ×Value)}(r:KV kvs vs)(k:κ)(ry:RelV y u):
  KV (kvs.map fun kv=>if kv.1=k then (kv.1,y) else kv) (vs.map fun kv=>if kv.1=k then (kv.1,u) else kv):=by
 unfold KV at r ⊢
 induction r with
 |nil=>exact .nil
 |@cons p q ps qs h t ih =>
  rw[Jm,Jm];refine .cons ?_ ih;obtain⟨h1,h2⟩:=h;by_cases e:p.1=k
  ·rw[Ja e,Ja (h1.symm.trans e)];exact⟨h1,ry⟩
  ·rw[IY e,IY (fun z=>e (h1.trans z))];exact⟨h1,h2⟩
theorem KV.put{kvs:List (κ×V)}{vs:List (κ×Value)}(r:KV kvs vs)(k:κ)(ry:RelV y u):KV (putK kvs k y) (stored vs k u):=by
 unfold putK stored;rw[r.any k];by_cases e:(vs.any fun kv=>decide (kv.1=k))=true
 ·rw[Ja e,Ja e];exact r.By k ry
 ·rw[IY e,IY e];exact Paired.snoc r ⟨rfl,ry⟩
theorem KV.drop{kvs:List (κ×V)}{vs:List (κ×Value)}(r:KV kvs vs)(k:κ):KV (gP kvs k) (without vs k):=by
 unfold KV at r ⊢;unfold gP without
 induction r with
 |nil=>exact .nil
 |@cons p q ps qs h t ih =>
  obtain⟨h1,h2⟩:=h;rw[Nl,Nl];by_cases e:p.1=k
  ·have a:¬ decide (p.1≠k)=true:=by simp[e]
   have b:¬ decide (q.1≠k)=true:=by simp[h1.symm.trans e]
   rw[IY a,IY b];exact ih
  ·have e':¬ q.1=k:=fun z=>e (h1.trans z);have a:decide (p.1≠k)=true:=by simp[e]
   have b:decide (q.1≠k)=true:=by simp[e']
   rw[Ja a,Ja b];exact .cons ⟨h1,h2⟩ ih
theorem KV.length{kvs:List (κ×V)}{vs:List (κ×Value)}(r:KV kvs vs):kvs.length=vs.length:=Paired.length r
theorem wc(kvs:List (κ×V))(k:κ):(gP kvs k).length<=kvs.length:=Mg _ _
end
theorem nh{k:Key}(r:RelV (kV k) u):(bB P w).is k u=true:=by
 cases k with
 |inl i=>obtain⟨t,e⟩:=(show ∃ t,u=Value.int i t from r);subst e;exact gI P w i t
 |inr x=>obtain⟨t,e⟩:=(show ∃ t,u=Value.str x t from r);subst e;exact ot P w x t
theorem kf:∀{ks:List Key} {us:List Value},Vals (ks.map kV) us->ItemsAre (bB P w) ks us
 |[],_,r=>by rw[List.map_nil] at r;cases r;exact .nil
 |k::ks,_,r=>by
  rw[Jm] at r
  cases r with
  |cons h t=>exact .cons (nh h) (kf t)
abbrev KT(H:Hp):List (List Key×V)->List (List Key×Addr×Value)->Prop:=Paired fun p q=>p.1=q.1/\H q.2.1=some (.tup (p.1.map kV))/\RelV p.2 q.2.2
theorem KT.val(r:KT H kvs xs)(k:List Key):ij (cZ kvs k) ((atKey xs k).map (·.2)):=by
 induction r with
 |nil=>exact True.intro
 |@cons p q ps qs h t ih =>
  obtain⟨h1,_,h2⟩:=h;by_cases e:p.1=k
  ·have e':q.1=k:=h1.symm.trans e;have b:atKey (q::qs) k=some q.2:=by simp[atKey,Lq,e']
   rw[cm e,b];exact h2
  ·have e':¬ q.1=k:=fun z=>e (h1.trans z);have b:atKey (q::qs) k=atKey qs k:=by simp[atKey,Lq,e']
   rw[cf e,b];exact ih
theorem KT.By(r:KT H kvs xs)(k:List Key)(ry:RelV y u):
  KT H (kvs.map fun kv=>if kv.1=k then (kv.1,y) else kv) (xs.map (putAt k u)):=by
 induction r with
 |nil=>exact .nil
 |@cons p q ps qs h t ih =>
  rw[Jm,Jm];refine .cons ?_ ih;obtain⟨h1,h2,h3⟩:=h;unfold putAt;by_cases e:p.1=k
  ·rw[Ja e,Ja (h1.symm.trans e)];exact⟨h1,h2,ry⟩
  ·rw[IY e,IY (fun z=>e (h1.trans z))];exact⟨h1,h2,h3⟩
theorem KT.put(r:KT H kvs xs)(k:List Key){b:Addr}(hb:H b=some (.tup (k.map kV)))(ry:RelV y u):
  KT H (putK kvs k y) (storedH xs k b u):=by
 have e:(kvs.any fun kv=>decide (kv.1=k))=(atKey xs k).isSome:=by
  rw[dR,(r.val k).gx,Option.isSome_map]
 unfold putK storedH;rw[e];by_cases q:(atKey xs k).isSome=true
 ·rw[Ja q,Ja q];exact r.By k ry
 ·rw[IY q,IY q];exact Paired.snoc r ⟨rfl,hb,ry⟩
theorem KT.keeps(r:KT H kvs xs)(ht:∀ b ys,H b=some (.tup ys)->H' b=some (.tup ys)):KT H' kvs xs:=
 Paired.j0 r fun _ _ z=>⟨z.1,ht _ _ z.2.1,z.2.2⟩
section
variable {P:Program} {w:World} {H:Hp} {h:Heap} {a:Addr}
theorem AL{u:HO}(ok:dU P w H h)(e:Rd H a u):aJ P w H h a u:=e.ok ok
theorem ku{kvs:List (Key×V)}(ok:dU P w H h)(e:Rd H a (.dK kvs)):kvs.length<=sizeLine/\(a == sysModules)=false/\∃ vs,KV kvs vs/\h.DictOf (bB P w) a vs:=
 show aJ P w H h a (.dK kvs) from AL ok e
theorem A_{kvs:List (Key×V)}(ok:dU P w H h)(e:H a=some (.dK kvs)):kvs.length<=sizeLine/\(a == sysModules)=false/\∃ vs,KV kvs vs/\h.DictOf (bB P w) a vs:=ku ok (.inl e)
theorem lq{ks:List Key}(ok:dU P w H h)(e:H a=some (.tup (ks.map kV))):(tupleKind (bB P w)).is h ks a:=by
 obtain⟨_,its,r,o,h1,h2,n,h3,_⟩:=(show aJ P w H h a (.tup (ks.map kV)) from ok a _ e);exact⟨o,its.toArray,n,h1,h2,h3,by simpa using kf r⟩
theorem mP(ok:dU P w H h)(e:Rd H a (.dT kvs)):kvs.length<=sizeLine/\(a == sysModules)=false /\
  ∃ xs,KT H kvs xs/\h.DictOfH (tupleKind (bB P w)) a xs:=by
 obtain⟨z,y,xs,r,o,es,ep,h1,h2,h3,h4,h5⟩:=(show aJ P w H h a (.dT kvs) from AL ok e);refine⟨z,y,xs,r,o,es,ep,h1,h2,h3,h4,fun x hx=>?_,h5⟩;have all:∀{l:List (List Key×V)} {m:List (List Key×Addr×Value)},KT H l m->∀ x∈m,(tupleKind (bB P w)).is h x.1 x.2.1:=by
  intro l m q
  induction q with
  |nil=>intro x hx;exact nomatch hx
  |@cons p q ps qs hq t ih =>
   intro x hx;rcases Jg.mp hx with e|hx
   ·subst e;exact lq ok (by rw[<- hq.1];exact hq.2.1)
   ·exact ih x hx
 exact all r x hx
theorem Eh(ok:dU P w H h)(e:H a=some (.dT kvs)):kvs.length<=sizeLine/\(a == sysModules)=false /\
  ∃ xs,KT H kvs xs/\h.DictOfH (tupleKind (bB P w)) a xs:=mP ok (.inl e)
end
def oZ(H:Hp)(a:Addr)(y:V)(r:Option V):Prop:=
 (∃ kvs k,Rd H a (.dK kvs)/\y=kV k/\r=cZ kvs k)\/∃ kvs k b,Rd H a (.dT kvs)/\y=.ref b/\H b=some (.tup (k.map kV))/\r=cZ kvs k
def p8(H:Hp)(a:Addr)(y v:V)(H':Hp):Prop:=
 (∃ kvs k,H a=some (.dK kvs)/\y=kV k/\kvs.length<sizeLine/\H'=upd H a (.dK (putK kvs k v))) \/
 ∃ kvs k b,H a=some (.dT kvs)/\y=.ref b/\H b=some (.tup (k.map kV))/\kvs.length<sizeLine/\H'=upd H a (.dT (putK kvs k v))
theorem p8.k{kvs:List (Key×V)}{k:Key}{v:V}(e:H a=some (.dK kvs))(hl:kvs.length<sizeLine):p8 H a (kV k) v (upd H a (.dK (putK kvs k v))):=.inl ⟨kvs,k,e,rfl,hl,rfl⟩
section
variable {X:Cx} {pins:List (Addr×Obj)} {σ:St} {H:Hp} {s:Shared} {a:Addr} {y v:V} {u r:Value} {o:Option V} {A:Around} {E:Value->Shared->Prop}
theorem Inv.big(I:Inv X pins σ H s):sysModules<s.heap.objs.size:=by
 have h:mainGlobals<s.heap.objs.size:=(I.mod.glob.keeps I.bk).lt;exact Nat.lt_trans (by decide) h
theorem sP(hu:A.units+1<cLine)(I:Inv X pins σ H s)(g:oZ H a y (some v))(ry:RelV y u)(h:∀ w' s',Inv X pins σ H s'->RelV v w'->Q w' s'):
  wpAny (model X.prog X.w) A (getItem (.ref a) u) Q E s:=by
 rcases g with ⟨kvs,k,e,ey,l⟩|⟨kvs,k,b,e,ey,eb,l⟩
 ·subst ey;obtain⟨z,hd,vs,rel,dd⟩:=ku I.aO e;obtain⟨w',hw,rw'⟩:=ij.some_of (v:=v) (o:=valueAt vs k) (by rw[l];exact rel.val k)
  exact wpAny_getItem_of (nh ry) dd.mapOf hw (h w' _ (I.tok _) rw')
 ·subst ey
  cases (show u=Value.ref b from ry)
  obtain⟨z,hd,xs,rel,dd⟩:=mP I.aO e;obtain⟨w',hw,rw'⟩:=ij.some_of (v:=v) (o:=(atKey xs k).map (·.2)) (by rw[l];exact rel.val k)
  obtain⟨p,hp,hp2⟩:=NB.mp hw;refine wpAny_getItem_heap (MF hu) (lq I.aO eb) dd hp ?_;rw[hp2];exact h w' _ (I.tok _) rw'
theorem y2(hu:A.units+1<cLine)(I:Inv X pins σ H s)(g:oZ H a y o)(ry:RelV y u)(h:∀ s',Inv X pins σ H s'->Q (.bool (!o.isSome)) s'):
  wpAny (model X.prog X.w) A (compareOp .NotIn u (.ref a)) Q E s:=by
 rcases g with ⟨kvs,k,e,ey,l⟩|⟨kvs,k,b,e,ey,eb,l⟩
 ·subst ey;obtain⟨z,hd,vs,rel,dd⟩:=ku I.aO e;refine wpAny_notIn_of (nh ry) hd dd.mapOf ?_;rw[<- (rel.val k).gx,<- l];exact h _ (I.tok _)
 ·subst ey
  cases (show u=Value.ref b from ry)
  obtain⟨z,hd,xs,rel,dd⟩:=mP I.aO e;refine wpAny_notIn_heap (MF hu) (lq I.aO eb) hd dd ?_;have q:=(rel.val k).gx;rw[Option.isSome_map] at q;rw[<- q,<- l];exact h _ (I.tok _)
theorem lP{h':Heap}{t':Nat}{ob:HO}(I:Inv X pins σ H s)(mu:Er (H a))(hs:Heap.SameBut a s.heap h')(he:∃ q,h'.get? a=some q)(new:aJ X.prog X.w (upd H a ob) h' a ob):
  Inv X pins σ (upd H a ob) {s with heap:=h',toks:=t'}:=
 I.write (x:=a) (e:=a) mu (.inl rfl) (fun b q hb z=>(hs.2 b hb).trans z) he new
theorem pX{h':Heap}{kvs:List (Key×V)}{vs:List (Key×Value)}(z:kvs.length<=sizeLine)(hd:(a == sysModules)=false)(rel:KV kvs vs)(dd:h'.DictOf (bB P w) a vs):
  aJ P w H' h' a (.dK kvs):=⟨z,hd,vs,rel,dd⟩
theorem tN{Q:Unit->Shared->Prop}(hu:A.units+1<cLine)(I:Inv X pins σ H s)(g:p8 H a y v H')(ry:RelV y u)(rv:RelV v r)(h:∀ s',Inv X pins σ H' s'->Q () s'):
  wpAny (model X.prog X.w) A (setItem (.ref a) u r) Q E s:=by
 rcases g with ⟨kvs,k,e,ey,l,eH⟩|⟨kvs,k,b,e,ey,eb,l,eH⟩
 ·subst ey eH;obtain⟨z,hd,vs,rel,dd⟩:=A_ I.aO e;have hz:vs.length<=sizeLine:=by rw[<- rel.length];exact z
  have hl:(putK kvs k v).length<=sizeLine:=by have:=eA kvs k v;lia
  refine wpAny_setItem_pairs (hsz:=hz) (nh ry) dd fun h' dd' hs=>h _ ?_;have he:∃ q,h'.get? a=some q:=let ⟨q,_,_,hq,_⟩:=dd';⟨q,hq⟩
  exact lP I (by rw[e];exact True.intro) hs he (pX hl hd (rel.put k rv) dd')
 ·subst ey eH
  cases (show u=Value.ref b from ry)
  obtain⟨z,hd,xs,rel,dd⟩:=Eh I.aO e;have hz:xs.length<=sizeLine:=by rw[<- Paired.length rel];exact z
  have hl:(putK kvs k v).length<=sizeLine:=by have:=eA kvs k v;lia
  refine wpAny_setItem_heap (hsz:=hz) (MF hu) (lq I.aO eb) dd fun h' dd' hs=>h _ ?_;obtain⟨q,es,ep,hq,h2,h3,h4,_,h5⟩:=dd';refine lP I (by rw[e];exact True.intro) hs ⟨q,hq⟩ ⟨hl,hd,_,(rel.put k eb rv).keeps fun c ys ec=>?_,q,es,ep,hq,h2,h3,h4,h5⟩
  rw[af (FV ec e (fun z=>nomatch z))];exact ec
end
section
variable {X:Cx} {pins:List (Addr×Obj)} {σ:St} {H:Hp} {s:Shared} {a:Addr} {kvs:List (Key×V)} {k:Key} {u:Value} {A:Around} {E:Value->Shared->Prop}
theorem ET{v:V}{more:List Value}(I:Inv X pins σ H s)(e:H a=some (.dK kvs))(ry:RelV (kV k) u)(l:cZ kvs k=some v)(hm:more=[]\/∃ x,more=[x])
  (h:∀ w' s',Inv X pins σ (upd H a (.dK (gP kvs k))) s'->RelV v w'->Q w' s'):wpAny (model X.prog X.w) A (call (.builtin "dict.pop") (.ref a::u::more)) Q E s:=by
 obtain⟨z,hd,vs,rel,dd⟩:=A_ I.aO e;obtain⟨w',hw,rw'⟩:=ij.some_of (v:=v) (o:=valueAt vs k) (by rw[<- l];exact rel.val k)
 have hp:(keyPart u).isSome=true:=by
  cases k with
  |inl i=>obtain⟨t,q⟩:=(show ∃ t,u=Value.int i t from ry);subst q;rfl
  |inr x=>obtain⟨t,q⟩:=(show ∃ t,u=Value.str x t from ry);subst q;rfl
 have ha:argsOk "dict.pop" ⟨.ref a::u::more,[]⟩:=by
  rcases hm with q|⟨x,q⟩
  ·subst q;exact PySem.F.args_dict_pop_2 _ _
  ·subst q;exact PySem.F.args_dict_pop_3 _ _ _
 refine call_meetsIn PySem.F.slot_dict_pop dd.typeIs PySem.F.entry_dict_pop ha (meets_dict_pop_there (bB X.prog X.w) a (nh ry) more hm hp)
  ⟨vs,w',dd,by rw[<- rel.length];exact z,hw,fun h' dd' hs=>h w' _ ?_ rw'⟩
 have he:∃ q,h'.get? a=some q:=let ⟨q,_,_,hq,_⟩:=dd';⟨q,hq⟩
 exact lP I (by rw[e];exact True.intro) hs he (pX (Jj (wc kvs k) z) hd (rel.drop k) dd')
theorem Ff(I:Inv X pins σ H s)(e:Rd H a (.dK kvs))(h:∀ t s',Inv X pins σ H s'->Q (.int kvs.length t) s'):wpAny (model X.prog X.w) A (call (.builtin "len") [.ref a]) Q E s:=by
 obtain⟨z,hd,vs,rel,dd⟩:=ku I.aO e;refine call_len_dict hd dd (by rw[<- rel.length];rw[Kv] at z;lia) ?_
 rw[<- rel.length];exact h _ _ (I.tok _)
end
def C0(i:Expr):Prop:=∀ ov iv,subscripted i false ov iv=operate [ov,iv] (getItem ov iv)
theorem Ah{prog:Program}{A:Around}{E:Value->Shared->Prop}{env:Env}{value slice:Expr}{pos:Pos}{T id:String}
  (hl:typeLookup (.type T) "__getitem__"=pure (some (.builtin id))) (hs:C0 slice)
  (h:wpAny (model prog w) A (eval value env) (fun o s₁=>wpAny (model prog w) A (eval slice env) (fun i s₂=>s₂.TypeIs o T/\wpAny (model prog w) A (getItem o i) Q E s₂) E s₁) E s) :
  wpAny (model prog w) A (eval (.Subscript value slice pos) env) Q E s:=by
 refine Nb (JW h (fun o s₁ h₁=>JW h₁ (fun i s₂ h₂=>?_) fun _ _ x=>x) fun _ _ x=>x);obtain⟨hT,h₂⟩:=h₂;unfold subscriptTail;refine IT ?_;rw[getitemInPython_of_ne hT.not_modules];refine IT (wpAny_specialOf hT hl ?_);have fin:wpAny (model prog w) A (subscripted slice false o i) (fun r s₃=>wpAny (model prog w) A (letTemporaryGo value o r >>= fun _=>pure r) Q E s₃) E s₂:=by
  rw[hs o i];exact wpAny_operating (JW h₂ (fun r s₃ h₃=>IT (wpAny_letTemporaryGo (IZ h₃))) fun _ _ x=>x)
 first
  |exact IZ (IT fin)
  |exact IT (IZ (IT fin))
  |exact IT fin
theorem nz{X:Cx}(I:Inv X pins σ H s)(g:oZ H a y o):s.TypeIs (.ref a) "dict":=by
 rcases g with ⟨kvs,k,e,_,_⟩|⟨kvs,k,b,e,_,_,_⟩
 ·obtain⟨_,_,vs,_,dd⟩:=ku I.aO e;exact dd.typeIs
 ·obtain⟨_,_,xs,_,dd⟩:=mP I.aO e;exact dd.typeIs
def jZ(td ty:TE):TE:=fun σ H Q=>td σ H fun x H1=>ty σ H1 fun y H2=>∃ a v,x=.ref a/\oZ H2 a y (some v)/\Q v H2
def mW(td ty tv:TE):TS:=fun D σ H=>tv σ H fun v H1=>td σ H1 fun x H2=>ty σ H2 fun y H3=>∃ a H4,x=.ref a/\p8 H3 a y v H4/\D.nx σ H4
section
variable {X:Cx} {o i e value:Expr} {pos pos' tpos:Pos} {td ty tv:TE}
theorem Av(hu:X.A.units+1<cLine)(ho:PE X o td)(hi:PE X i ty)(hs:C0 i):PE X (.Subscript o i pos) (jZ td ty):=by
 intro pins s σ H Q I h;refine Ah PySem.F.slot_dict_getitem.lookup hs (b9 (ho pins s σ H _ I h) fun u s1 ⟨x,H1,I1,rx,q1⟩=>b9 (hi pins s1 σ H1 _ I1 q1) fun iv s2 ⟨y,H2,I2,ry,a,v,ex,g,q2⟩=>?_);subst ex;obtain rfl:u=Value.ref a:=rx;exact⟨nz I2 g,sP hu I2 g ry fun w' s3 I3 rw'=>⟨v,H2,I3,rw',q2⟩⟩
theorem Au(hu:X.A.units+1<cLine)(ho:PE X o td)(hi:PE X i ty)(hv:PE X value tv)(hs:swapsWith value (some (.Subscript o i pos')) pos.line X.env=pure false):
  PS X (.Assign [.Subscript o i pos'] value pos) (mW td ty tv):=by
 intro pins s σ H D I h;refine wpAny_Assign_Subscript (b9 (hv pins s σ H _ I h) fun r s1 ⟨v,H1,I1,rv,q1⟩=>b9 (ho pins s1 σ H1 _ I1 q1) fun u s2 ⟨x,H2,I2,rx,q2⟩=>b9 (hi pins s2 σ H2 _ I2 q2) fun iv s3 ⟨y,H3,I3,ry,a,H4,ex,g,q3⟩=>?_) hs;subst ex;obtain rfl:u=Value.ref a:=rx;exact tN hu I3 g ry rv fun s4 I4=>⟨σ,H4,I4,q3⟩
end
section
variable {X:Cx} {pos:Pos}
end
def dY(kvs more:List (Key×V)):List (Key×V):=more.foldl (fun acc kv=>putK acc kv.1 kv.2) kvs
theorem KV.merge:∀{more:List (Key×V)} {rs:List (Key×Value)} {kvs:List (Key×V)} {vs:List (Key×Value)},KV more rs->KV kvs vs->KV (dY kvs more) (merged vs rs):=by
 intro more rs kvs vs r;unfold KV at r
 induction r generalizing kvs vs with
 |nil=>intro q;exact q
 |@cons p q ps qs h t ih =>
  intro r0;have e:KV (putK kvs p.1 p.2) (stored vs q.1 q.2):=by
   have:=r0.put p.1 h.2;rw[<- h.1];exact this
  exact ih e
theorem fv:∀(more kvs:List (Key×V)),(dY kvs more).length<=kvs.length+more.length
 |[],kvs=>by show kvs.length<=kvs.length+0;lia
 |p::r,kvs=>by
  have h1:=fv r (putK kvs p.1 p.2);have h2:=eA kvs p.1 p.2;show (dY (putK kvs p.1 p.2) r).length<=_;rw[Jf];lia
structure M1 (X:Cx) (o:Expr) (m:Str) (apos:Pos) (e:Expr) (cpos:Pos):Prop where
 base:attributeBase o m X.env (eval o X.env)=eval o X.env
 IC:((backTo cpos (starEach [e] X.env)).all (fun x=>!x.1) && (backToKw cpos (keywordEach [] X.env)).all (fun x=>x.1.isSome)
  && decide (([e]:List Expr).length+([]:List Keyword).length+(if ([]:List Keyword).isEmpty then 0 else 1)<30))=true
 line:(apos.endLine == cpos.line)=true
 trees:backTo cpos (starEach [e] X.env)=[(false,eval e X.env)]
def HJ(H:Hp)(a:Addr):Prop:=(∃ kvs,Rd H a (.dK kvs))\/∃ kvs,Rd H a (.dT kvs)
theorem BV{X:Cx}(I:Inv X pins σ H s)(d:HJ H a):
  s.TypeIs (.ref a) "dict"/\(∀ b,Value.ref a=.ref b->∃ ob,s.heap.get? b=some ob/\ob.dict=none)/\(a == sysModules)=false:=by
 rcases d with ⟨kvs,e⟩|⟨kvs,e⟩
 ·obtain⟨_,hd,vs,_,dd⟩:=ku I.aO e;refine⟨dd.typeIs,fun b q=>?_,hd⟩;cases q;obtain⟨ob,_,_,h1,h2,_⟩:=dd;exact⟨ob,h1,h2.2.1⟩
 ·obtain⟨_,hd,xs,_,dd⟩:=mP I.aO e;refine⟨dd.typeIs,fun b q=>?_,hd⟩;cases q;obtain⟨ob,_,_,h1,h2,_⟩:=dd;exact⟨ob,h1,h2.2.1⟩
section
variable {X:Cx} {pins:List (Addr×Obj)} {σ:St} {H:Hp} {s:Shared} {a:Addr} {y d:V} {u r:Value} {o:Option V} {A:Around} {E:Value->Shared->Prop}
end
def jy(td ty:TE):TE:=fun σ H Q=>td σ H fun x H1=>∃ a,x=.ref a/\HJ H1 a/\ty σ H1 fun y H2=>∃ kvs k v,H2 a=some (.dK kvs)/\y=kV k/\cZ kvs k=some v/\Q v (upd H2 a (.dK (gP kvs k)))
section
variable {X:Cx} {o e f:Expr} {apos cpos:Pos} {td ty tx:TE}
theorem xo(ho:PE X o td)(he:PE X e ty)(m:M1 X o "pop" apos e cpos):PE X (.Call (.Attribute o "pop" apos) [e] [] cpos) (jy td ty):=by
 intro pins s σ H Q I h;refine wpAny_Call_method m.base m.IC m.line PySem.F.plainAttrs_dict PySem.F.slot_dict_pop PySem.F.type_dict_pop (b9 (ho pins s σ H _ I h) fun u s1 ⟨x,H1,I1,rx,a,ex,d,q1⟩=>?_);subst ex;obtain rfl:u=Value.ref a:=rx;obtain⟨t1,t2,_⟩:=BV I1 d;refine⟨t1,t2,?_⟩;rw[m.trees];refine NA rfl (Mn (ME (b9 (he pins s1 σ H1 _ I1 q1) fun iv s2 ⟨y,H2,I2,ry,kvs,k,v,ea,ey,l,q2⟩=>MU ?_)));subst ey;exact ET I2 ea ry l (.inl rfl) fun w' s3 I3 rw'=>⟨v,_,I3,rw',q2⟩
end
section
variable {X:Cx} {pins:List (Addr×Obj)} {σ:St} {H:Hp} {s:Shared} {a:Addr} {kvs:List (Key×V)} {A:Around} {E:Value->Shared->Prop}
end
section
variable {X:Cx} {pins:List (Addr×Obj)} {σ:St} {H:Hp} {s:Shared} {a:Addr} {y:V} {u:Value} {A:Around} {E:Value->Shared->Prop}
end
end L2
namespace Att
open PySem PySem.W PySem.Calls PyProof.Rows
variable{l:OpenLaw}
theorem ie{P:Params}{h:Heap}:∀(ns:List Int) (vs:List Value),WellAll P h vs (ns.map WData.int)->IntsAre vs ns:=by
 intro ns
 induction ns with
 |nil =>
  intro vs w;rw[List.map_nil] at w;cases w;exact .nil
 |cons n ns ih =>
  intro vs w;rw[List.map_cons] at w
  cases w with
  |cons a b =>
   cases a;exact .cons _ _ (ih _ b)
theorem ud{n:Nat}(hn:l.most=some n){P:Params}{h:Heap}{args:List WData}{vals:List Value}
  (hpre:l.row.toRowW.claim.pre args=true) (hwl:WellAll P h vals args) :
  ∃ a vs ns,vals=[Value.ref a]/\args=[WData.list (ns.map WData.int)]/\h.get? a=some {cls:=.type "list",data:=.seq vs.toArray}/\IntsAre vs ns/\ns.length<=n:=by
 have hsh:WShape.hasAll [] args [.list .int]=true:=(pre_splitW hpre).1;have hc:l.pre.holds [] {args:=args}=true:=(pre_splitW hpre).2;obtain⟨d,r,rfl,h1,h2⟩:=hasAllW_cons hsh;obtain rfl:=hasAllW_nil h2;obtain⟨xs,rfl,h3⟩:=hasW_list h1;obtain⟨ns,rfl⟩:=items_int h3;have hlen:ns.length<=n:=by
  unfold OpenLaw.pre at hc;have h4:(WTm.not (.lt (.lit (.int (n:Int))) (.len (.arg 0)))).holds [] {args:=[.list (ns.map .int)]}=true:=by
   have h4:=(holds_andW hc).1;rw[hn] at h4;exact h4
  have h5:=condW_of h4 (w_not (w_lt w_lit (w_len_list (w_arg rfl))));rw[List.length_map] at h5;refine Nat.le_of_not_lt fun q=>?_;have q':(n:Int)<((ns.length:Nat):Int):=by lia
  first
   | (rw[decide_eq_true q'] at h5;exact absurd h5 (by decide))
   | (simp at h5;lia)
 cases hwl with
 |cons w1 w2 =>
  cases w2
  cases w1 with
  |list ho hall=>exact⟨_,_,ns,rfl,rfl,ho,ie ns _ hall,hlen⟩
theorem sT(l:OpenLaw)(args:List WData):l.row.toRowW.claim.post args (.bool true) args=true:=
 postW_of (r:=l.row.toRowW) (X:=(true == true))
  (show WShape.has [] (.bool true) .bool=true by first|rfl|decide|simp[WShape.has,WShape.arms,WShape.armsAll])
  (show (WTm.eq .res (.lit (.bool true))).value [] {args:=args,res:=some (.bool true),after:=args}=some (.bool (true == true)) from w_eq_bool (w_res rfl) w_lit) rfl
theorem mR{n:Nat}{q:Program}{loose:List Str}{XP:(Str->Option Value)->Heap->Prop}{YP:World->Heap->Prop}{d:DefRec}
  (hn:l.most=some n) (hdf:d.params.defaults=[])
  (call:∀(w:World) (s₀ s₁:Shared) (mg mb:Str->Option Value) (fa:Addr) (o:Obj) (pm cd doc:Value) (a:Addr) (vs:List Value) (ns:List Int),
   Ground q loose [] XP w s₀ mg mb s₁.heap->YP w s₁.heap ->
   s₁.heap.get? fa=some o->o.data=.func (docDef d.name d.params d.body d.scope pm cd doc)->s₁.heap.CodeRec cd d.name->mg d.name=some (.ref fa) ->
   s₁.heap.get? a=some {cls:=.type "list",data:=.seq vs.toArray}->IntsAre vs ns->ns.length<=n->s₁.gens=#[] ->
   codeAny (model l.prog w) callerA (.call (.ref fa) ⟨[.ref a],[]⟩) (fun r s'=>r=.ok (.ret (.bool true))/\OldK s₁.heap s'.heap/\s'.os=s₁.os/\AllBare s'.gens) s₁) :
  WalkO q loose XP YP l.row.toRowW d [] (fun f vs=>PySem.call f vs):=by
 intro w s₀ s₁ mg mb G Y fa o pm cd doc dV kV ho hd hcd hD hmg hg args vals as hpre hlay hrd hwl hlo;obtain rfl:dV=.none:=Dflts.none hD hdf;obtain rfl:kV=.none:=Dflts.noKw hD;obtain⟨a,vs,ns,rfl,rfl,hobj,hints,hlen⟩:=ud hn hpre hwl;refine enter_call (codeAny_mono (call w s₀ s₁ mg mb fa o pm cd doc a vs ns G Y ho (fd_plain hd) hcd hmg hobj hints hlen hg) fun r s' hq=>?_);obtain⟨rfl,h2,h3,h4⟩:=hq;exact⟨.inl ⟨.bool true,.bool true,[],rfl,fun _=>rfl,.bool true,sT l _,fun _=>⟨List.Pairwise.nil,fun _ hm=>(nomatch hm)⟩⟩,h2,h3,h4⟩
section
variable {prog:Program} {w:World} {A:Around} {E:Value->Shared->Prop} {s:Shared} {K:Frag}
end
end Att
namespace L2
open PySem PySem.Spec PyProof.Rows
variable{P prog q:Program}{K:Oe}{N ON loose ps:List Str}{mb mg:Str->Option Value}{base h h':Heap}{b e elt iter tg:Expr}{o:HO}{w:World}{a f fa i1 i2 it l l1 l2 p z:Addr}{fd:FuncData}{name qual x:Str}{sp:Sp}{vs ws xs ys:List V}{ns:List Int}{i j n:Nat}{X:Cx}{st:Stmt}{A:Around}{cpos p2 pos tp:Pos}{H H' H1:Hp}{osc scope:Scope}{env:Env}{cells:List (Str×Addr)}{s:Shared}{es ifs:List Expr}{wi:TI}{tc:TT}{te:TE}{pins:List (Addr×Obj)}{σ:St}{E Q:Value->Shared->Prop}{r:List V->Hp->VK->Prop}{ta:TA}{items:Array Value}{ex fp:List Addr}{α:Type}{D:Ends}{hi lo:Option Expr}{r':R2}{ad:Nat->Addr}{cls vl vu:Value}{md:List Bool}{P1 P2:Nat->Value->Prop}{S1 S2:Nat->Heap->Prop}{To:Option Addr}{its its2:List Value}
theorem ki:∀{vs:List Value} {ns:List Int},IntsAre vs ns->Vals (ns.map V.int) vs
 |_,_,.nil=>.nil
 |_,_,.cons n t h=>.cons ⟨t,rfl⟩ (ki h)
structure fL (q:Program) (K:Oe):Prop where
 nt:PySem.W.noTabs K=true
 nd:((bX K).map (·.2.1)).Nodup
 fd:∀ x∈d7,PySem.W.tabIn K x=none\/((recsOf q).find? (fun e=>e.name == x)).isSome=true
theorem fL.at{mean:ExcName->Option Value}(L:fL q K)(T:Top q loose mean mg mb h)(X:K.In h):∀ t∈bX K,PySem.W.CodeHd h t.1 t.2.1/\h.get? t.2.1=some (PySem.W.tabObj #[]):=fun t ht=>by
 unfold bX at ht;obtain⟨x,hx,e⟩:=LO.mp ht;obtain⟨p,e1,e2⟩:=NB.mp e;obtain⟨c,Pt⟩:=p;subst e2;rcases L.fd x hx with z|z
 ·rw[z] at e1;cases e1
 ·obtain⟨d,hd⟩:=LQ.mp z;exact PySem.W.tab_of T X hd e1
def lQ:List (Addr×Addr×Str)->Addr->Option HO
 |[],_=>none
 |t::r,b=>if b=t.2.1 then some (.rY #[.str t.2.2 0]) else lQ r b
theorem eO{b:Addr}:∀{l:List (Addr×Addr×Str)},lQ l b=some o->∃ t∈l,b=t.2.1/\o=.rY #[.str t.2.2 0]
 |t::r,e=>by
  unfold lQ at e;by_cases z:b=t.2.1
  ·rw[Ja z] at e;cases e;exact⟨t,.head _,z,rfl⟩
  ·rw[IY z] at e;obtain⟨u,hu,q⟩:=eO e;exact⟨u,.tail _ hu,q⟩
theorem mU{t:Addr×Addr×Str}:∀{l:List (Addr×Addr×Str)},(l.map (·.2.1)).Nodup->t∈l->lQ l t.2.1=some (.rY #[.str t.2.2 0])
 |u::r,nd,m=>by
  obtain⟨n1,n2⟩:=JD.mp nd;unfold lQ;rcases Jg.mp m with rfl|m
  ·rw[Ja rfl]
  ·rw[IY fun z=>n1 (JM.mpr ⟨t,m,z⟩)];exact mU n2 m
theorem xg{CX:mC}{k:Nat}{s₁:Shared}{vs:List Value}
  (KX:K.In s₁.heap) (hns:s₁.heap.Ns mainGlobals mg) (hb:s₁.heap.Ns builtinsNs mb) (hbb:∀ x:Str,x≠"__name__"->mb x=bootBuiltins x) (hlim:s₁.heap.NoLimit) (hbm:BQ mg s₁.heap)
  (hT:∀ t∈bX K,PySem.W.CodeHd s₁.heap t.1 t.2.1/\s₁.heap.get? t.2.1=some (PySem.W.tabObj #[])) (L:fL q K) (hg:s₁.gens=#[])
  (ha:s₁.heap.get? a=some {cls:=.type "list",data:=.seq vs.toArray}) (hi:IntsAre vs ns) (hl:ns.length<=sizeLine) (hr:bU k callerA)
  (F:∀ base:Heap,K.In base->base.Ns mainGlobals mg->dJ P w K mg base CX k fa fd [x] sp) (hbind:∀(s:Shared) (u:Value),BindsTo s fd ⟨[u],[]⟩ [(x,u)])
  (hsp:∀ H:Hp,True->bS K H a (ns.map V.int)->sp [.ref a] H (fun v _=>v=.bl true) fun _ _ _=>False)
  (hCX:∀ H e s',CX [] H s₁ (fun _ _ _=>False) e s'->False) :
  codeAny (model P w) callerA (.call (.ref fa) ⟨[.ref a],[]⟩) (fun r s'=>r=.ok (.ret (.bool true))/\OldK s₁.heap s'.heap/\s'.os=s₁.os/\AllBare s'.gens) s₁:=by
 have rv:=ki hi;have lenV:=hi.length;have naT:∀ t∈bX K,t.2.1≠a:=fun t ht z=>by
  have e:=(hT t ht).2;rw[z,ha] at e;cases e
 let oS:Obj:={cls:=.type "list",data:=.seq vs.toArray}
 have core:∀ S:Option HO,(S=none\/S=some (.dk oS (.lst (ns.map V.int))))->(S≠none->K.lookup a=none)->bS K (fun b=>if b=a then S else lQ (bX K) b) a (ns.map V.int) ->
   codeAny (model P w) callerA (.call (.ref fa) ⟨[.ref a],[]⟩) (fun r s'=>r=.ok (.ret (.bool true))/\OldK s₁.heap s'.heap/\s'.os=s₁.os/\AllBare s'.gens) s₁:=by
  intro S hS hK hSq;generalize hH:(fun b=>if b=a then S else lQ (bX K) b)=H at hSq
  have hA:H a=S:=by rw[<- hH];exact Ja rfl
  have hB:∀ b,b≠a->H b=lQ (bX K) b:=fun b z=>by rw[<- hH];exact IY z
  have free:∀{b:Addr} {o:Obj},s₁.heap.get? b=some o->o≠PySem.W.tabObj #[]->(b=a->S=none)->H b=none:=fun {b o} e hn hz=>by
   by_cases z:b=a
   ·rw[z,hA];exact hz z
   ·rw[hB b z]
    cases q:lQ (bX K) b with
    |none=>rfl
    |some u =>
     obtain⟨t,ht,e1,_⟩:=eO q;have e2:=(hT t ht).2;rw[<- e1,e] at e2;exact absurd (Option.some.inj e2) hn
  have nsK:∀{b:Addr} {m:Str->Option Value},s₁.heap.Ns b m->(jN s₁.heap H).Ns b m:=fun {b m} ⟨o,es,ep,e,d,r⟩=>⟨o,es,ep,fT e (free e (fun z=>by rw[z] at d;cases d) fun z=>by rw[z,ha] at e;cases e;cases d),d,r⟩
  have hKb:K.In (jN s₁.heap H):=fun b o e=>fT (KX b o e) (free (KX b o e) (fun z=>by
    have h2:=Ks.mp L.nt (b,o) (PySem.W.mem_of_lookupK e);subst z;exact absurd (show false=true from h2) Jd) fun z=>by
    cases q:S with
    |none=>rfl
    |some u=>rw[z,hK (by rw[q];simp)] at e;cases e)
  have hcd:∀ t∈bX K,PySem.W.CodeHd (jN s₁.heap H) t.1 t.2.1:=fun t ht=>by
   obtain⟨o,us,fl,tf,fg,tg,inF,tx,tt,e1,e2,r⟩:=(hT t ht).1;exact⟨o,us,fl,tf,fg,tg,inF,tx,tt,fT e1 (free e1 (fun z=>by rw[z] at e2;cases e2) fun z=>by rw[z,ha] at e1;cases e1;exact absurd (Value.type.inj e2) (by decide)),e2,r⟩
  have hbm':BQ mg (jN s₁.heap H):=by
   obtain⟨bm,ob,b1,b2,b3,b4,b5⟩:=hbm;exact⟨bm,ob,b1,b2,fT b3 (free b3 (fun z=>by rw[z] at b4;cases b4) fun z=>by rw[z,ha] at b3;cases b3;exact absurd (Value.type.inj b4) (by decide)),b4,b5⟩
  have aO:dU P w H s₁.heap:=fun b u e=>by
   by_cases z:b=a
   ·rw[z,hA] at e;rcases hS with h0|h0
    ·rw[h0] at e;cases e
    ·rw[h0] at e;cases e;subst z;exact⟨ha,by rw[IW];exact hl,vs,_,rv,ha⟩
   ·rw[hB b z] at e;obtain⟨t,ht,e1,e2⟩:=eO e;subst e2;exact⟨#[],by rw[e1];exact (hT t ht).2,trivial,fun pos cv c=>by cases (show (none:Option Value)=some cv from c)⟩
  have hM:Mod K mg (jN s₁.heap H):=⟨hKb,nsK hns,⟨mb,nsK hb,hbb⟩,let ⟨mc,h1,h2⟩:=hlim;⟨mc,nsK h1,h2⟩,hcd,hbm'⟩
  have e0:zE P w K mg (jN s₁.heap H) callerA [] s₁ H:=⟨rfl,hM,fun b o e=>yx e,Nat.le_of_eq (sX _ _),trivial,fun b hb=>absurd (show b∈([]:List Addr) from hb) (by simp),aO,.of_eq hg,fun t ht=>⟨#[],by
   rw[hB _ (naT t ht),mU L.nd ht,MG]⟩⟩
  refine LP ((F _ hKb (nsK hns)).run callerA [] s₁ H ⟨[.ref a],[]⟩ [.ref a] [.ref a] _ _ hr e0 (hbind s₁ (.ref a)) (.cons rfl .nil) (hsp H trivial hSq)) fun r s' h=>?_
  cases r with
  |error e=>exact (hCX H e s' h).elim
  |ok fl =>
   cases fl with
   |next=>exact False.elim h
   |brk=>exact False.elim h
   |cont=>exact False.elim h
   |ret u =>
    obtain⟨v,H',os,bare,un,hok',r',qv⟩:=h;have q':v=.bl true:=qv;subst q';obtain rfl:u=Value.bool true:=r';have each:∀ b o,s₁.heap.get? b=some o->s'.heap.get? b=some o\/∃ c,PySem.W.CodeHd s₁.heap c b/\o=PySem.W.tabObj #[]/\∃ ps,s'.heap.get? b=some (PySem.W.tabObj ps):=fun b o e=>by
     cases qb:H b with
     |none=>exact .inl (un.keep b o e qb (by intro z;exact absurd (show b∈([]:List Addr) from z) (by simp)) (by simp))
     |some u =>
      by_cases z:b=a
      ·rw[z,hA] at qb;rcases hS with h0|h0
       ·rw[h0] at qb;cases qb
       ·have z2:=un.gq a oS _ (by rw[hA,h0])
        obtain⟨e2,_⟩:=hok' a _ z2;rw[z,ha] at e;cases e;exact .inl (by rw[z];exact e2)
      ·have qt:=qb;rw[hB b z] at qt;obtain⟨t,ht,e1,e2⟩:=eO qt;obtain⟨h1,h2⟩:=hT t ht;rw[<- e1] at h1 h2;rw[e] at h2;cases h2;subst e2;obtain⟨more,e3⟩:=un.gr b _ qb;obtain⟨qs,e4,_⟩:=hok' b _ e3;exact .inr ⟨_,h1,rfl,qs,e4⟩
    refine⟨rfl,⟨fun b o e=>?_,fun b o e=>?_⟩,os,bare⟩
    ·rcases each b o e with z|⟨c,hc,z,ps,hp⟩
     ·exact .inl z
     ·subst z;exact .inr (.inl ⟨(hc.tab e).isCodeTable,rfl,#[],ps,rfl,by rw[Array.empty_append];exact hp⟩)
    ·rcases each b o e with z|⟨c,hc,z,ps,hp⟩
     ·exact⟨o,z⟩
     ·exact⟨_,hp⟩
 cases hk:K.lookup a with
 |some o =>
  have e:=KX a o hk;rw[ha] at e;cases e;exact core none (.inl rfl) (fun z=>absurd rfl z) (.inr ⟨_,vs.toArray,_,hk,rfl,rfl,rfl,by rw[I_,lenV];exact hl,by simpa using rv⟩)
 |none=>exact core (some (.dk oS (.lst (ns.map V.int)))) (.inr rfl) (fun _=>hk) (.inl (.inr ⟨oS,Ja rfl⟩))
theorem zB{l:PySem.W.OpenLaw}{k:Nat}{XP:(Str->Option Value)->Heap->Prop}{YP:World->Heap->Prop}{d:DefRec}{K:Params->Oe}{CX:World->mC}{sp:World->Sp}
  (hn:l.most=some n) (hn2:n<=sizeLine) (hdf:d.params.defaults=[]) (hr:bU k callerA)
  (hY:∀(w:World) (h:Heap),YP w h->(K w.params).In h)
  (F:∀(w:World) (mg:Str->Option Value) (fa:Addr) (h:Heap),(K w.params).In h->h.Ns mainGlobals mg->mg d.name=some (.ref fa) ->
   ∃ fd:FuncData,(∀(s:Shared) (u:Value),BindsTo s fd ⟨[u],[]⟩ [(x,u)]) /\
    ∀ base:Heap,(K w.params).In base->base.Ns mainGlobals mg->dJ l.prog w (K w.params) mg base (CX w) k fa fd [x] (sp w))
  (hsp:∀(w:World) (H:Hp) (a:Addr) (ns:List Int),ns.length<=n->True->bS (K w.params) H a (ns.map V.int)->sp w [.ref a] H (fun v _=>v=.bl true) fun _ _ _=>False)
  (hCX:∀(w:World) (H:Hp) (s:Shared) (e:Value) (s':Shared),CX w [] H s (fun _ _ _=>False) e s'->False) (hL:∀(w:World) (h:Heap),(K w.params).In h->fL q (K w.params)) :
  PySem.W.WalkO q loose XP YP l.row.toRowW d [] (fun f vs=>PySem.call f vs):=by
 refine Att.mR hn hdf fun w s₀ s₁ mg mb fa o pm cd doc a vs ns G Y ho hd hcd hmg hobj hints hlen hg=>?_;have KX:=hY w _ Y;obtain⟨fd,hb,hF⟩:=F w mg fa _ KX G.T.g hmg;have L:=hL w _ KX;exact xg KX G.T.g G.T.b G.T.builtins G.T.nolimit G.T.bmain (L.at G.T KX) L hg hobj hints (Jj hlen hn2) hr hF hb (fun H hO hS=>hsp w H a ns hlen hO hS) fun H e s'=>hCX w H s₁ e s'
def aE(s:Stmt):Arguments:=match s with
 |.FunctionDef _ a _ _ _ _ _ _ _ _=>a
 |_=>{posonlyargs:=[],args:=[],vararg:=none,kwonlyargs:=[],kw_defaults:=[],kwarg:=none,defaults:=[]}
def aw(s:Stmt):List Stmt:=match s with
 |.FunctionDef _ _ b _ _ _ _ _ _ _=>b
 |_=>[]
def aa(s:Stmt):Scope:=match s with
 |.FunctionDef _ _ _ _ _ _ sc _ _ _=>sc
 |_=>{kind:=.function,names:=[],isGenerator:=false,isCoroutine:=false}
abbrev cF:mC:=fun _ _ _ _ _ _=>False
abbrev E0:XK:=fun _ _ _=>False
theorem aH:Passes cF X E0:=fun _ _ _ _ _ _ _ h=>h.elim
structure yd (K:Oe) (x qual:Str) (st:Stmt) (f:Addr) (fd:FuncData):Prop where
 ex:∃(oc:Value) (od:Option Addr) (kV doc pm:Value) (an:Option Addr) (cdv ct:Value) (osl:Array (Option Value)),
  fd=PySem.W.fnOf x qual (aE st) (aw st) (aa st) .none kV doc pm an cdv ct/\K.lookup f=some ⟨oc,od,.func fd,osl⟩/\PySem.W.codeIn K cdv qual=true
 kp:PySem.W.keepIn K (.ref f)=true
section
variable {P:Program} {w:World} {K:Oe} {mg:Str->Option Value} {base:Heap}
theorem yd.ok{k:Nat}(F:yd K x qual st f fd)(S:az N ps (aa st))(len:∀ vs H Q E,sp vs H Q E->vs.length=ps.length)
  (hbody:∀(cdv:Value) (A:Around) (outer:List Env) (s:Shared) (H:Hp) (vs:List V) (Q:VK) (E:XK),bU k (A.deeper (envOfC qual (aa st) s.heap.objs.size f cdv))->sp vs H Q E ->
   ∃ t,oC (fR cF P w K mg base N qual (aa st) f cdv A outer s H E).yR (aw st) t/\t {nx:=fun _ H'=>Q .aL H',rt:=Q} (start N vs) H):dJ P w K mg base cF (k+1) f fd ps sp:=by
 obtain⟨oc,od,kV,doc,pm,an,cdv,ct,osl,rfl,lk,hcd⟩:=F.ex;refine A0 lk hcd S len fun A outer s H vs Q E hr hsp=>?_;obtain⟨t,h,q⟩:=hbody cdv A outer s H vs Q E hr hsp;exact⟨t,h.yR,q⟩
theorem yd.binds(F:yd K x qual st f fd)
  (h:∀(kV doc pm:Value) (an:Option Addr) (cdv ct:Value) (us:List Value),us.length=ps.length->bindArgs (PySem.W.fnOf x qual (aE st) (aw st) (aa st) .none kV doc pm an cdv ct) ⟨us,[]⟩=pure (ps.zip us)):Binds K fd ps []:=by
 obtain⟨oc,od,kV,doc,pm,an,cdv,ct,osl,rfl,lk,hcd⟩:=F.ex;exact .all (h kV doc pm an cdv ct)
theorem au{oc:Value}{od an:Option Addr}{osl:Array (Option Value)}{kV doc pm cdv ct:Value}(l:K.lookup f=some ⟨oc,od,.func (PySem.W.fnOf x qual (aE st) (aw st) (aa st) .none kV doc pm an cdv ct),osl⟩)
  (c:PySem.W.codeIn K cdv qual=true) (k:PySem.W.keepIn K (.ref f)=true):yd K x qual st f (PySem.W.fnOf x qual (aE st) (aw st) (aa st) .none kV doc pm an cdv ct):=⟨⟨oc,od,kV,doc,pm,an,cdv,ct,osl,rfl,l,c⟩,k⟩
end
theorem cg{k:Nat}(hr:bU k A):A.units+1<cLine:=Jo (Nat.add_le_add_left (by decide:1<=64) _) hr.units
section
variable {X:Cx}
theorem pv(i:Nat)(hN:X.N[i]?=some x:=by rfl)(hv:C1 X.env.scope x:=by first|exact Or.inl rfl|exact Or.inr (Or.inl rfl)|exact Or.inr (Or.inr rfl))(hd:(x ==("__debug__":Str))=false:=by decide)
  (hcd:(x ==("__classdict__":Str))=false:=by decide):PE X (.Name x pos) (gu i):=Du hN hv hd hcd
theorem sW:aT X (.builtin "len") (fun xs H Q=>∃ a kvs,xs=[V.ref a]/\H a=some (.dK kvs)/\Q (.int kvs.length) H):=by
 intro pins s σ H xs us Q I r h;obtain⟨a,kvs,rfl,ha,q⟩:=h;obtain⟨u,rfl,ru⟩:=vals1 r;cases ru;exact Ff I (.inl ha) fun t s' I'=>⟨.int kvs.length,H,I',⟨t,rfl⟩,q⟩
end
def cq(H H':Hp):Prop:=∀ b o,H b=some o->H' b=some o
theorem cq.refl(H:Hp):cq H H:=fun _ _ h=>h
theorem cq.seq(e:cq H H')(h:bS K H a xs):bS K H' a xs:=by
 rcases h with (h|⟨o,h⟩)|h
 ·exact .inl (.inl (e _ _ h))
 ·exact .inl (.inr ⟨o,e _ _ h⟩)
 ·exact .inr h
section
variable {κ:Type} [DecidableEq κ]
theorem zC{kvs:List (κ×V)}{k:κ}{v:V}(h:cZ kvs k=some v):k∈kvs.map (·.1):=by
 have q:(kvs.any fun kv=>decide (kv.1=k))=true:=by
  rw[dR,h]
  all_goals rfl
 obtain⟨p,hp,e⟩:=List.any_eq_true.mp q;exact JM.mpr ⟨p,hp,KD e⟩
end
def dG(cells:List (Str×Addr)):List (Str×NameKind)->List (Str×Addr)->List (Str×Addr)
 |[],acc=>acc
 | (n,k)::r,acc=>if k=.free then dG cells r ((n,(cells.lookup n).getD 0)::acc) else dG cells r acc
theorem fm(h:∀ x∈scope.names,x.2=.free->∃ c,env.cells.lookup x.1=some c):closureFor scope env=pure (dG env.cells scope.names []):=by
 have all:∀(l:List (Str×NameKind)) (acc:List (Str×Addr)),(∀ x∈l,x.2=.free->∃ c,env.cells.lookup x.1=some c) ->
   (forIn l acc fun (x:Str×NameKind) (cs:List (Str×Addr))=>(match x with | (name,kind)=>if (kind == NameKind.free)=true then (do let c <- cellOf env name;pure (ForInStep.yield ((name,c)::cs))) else pure (ForInStep.yield cs):Sem (ForInStep (List (Str×Addr)))))=(pure (dG env.cells l acc):Sem (List (Str×Addr))):=by
  intro l
  induction l with
  |nil=>intro acc _;rfl
  |cons x r ih =>
   intro acc hl;obtain⟨n,k⟩:=x;rw[N3];by_cases hk:k=.free
   ·subst hk;obtain⟨c,hc⟩:=hl (n,.free) Jl rfl;have e:cellOf env n=pure c:=by unfold cellOf;rw[hc]
    simp only[K3,L0,e,dG,pure_bind];rw[ih _ fun y hy=>hl y (Jk _ hy),hc];rfl
   ·have hb:(k == NameKind.free)=false:=by simpa using hk
    simp only[hb,Ki,KC,dG,hk,pure_bind];exact ih _ fun y hy=>hl y (Jk _ hy)
 unfold closureFor;simp only[bind_pure];exact all scope.names [] h
theorem gf:∀{l:List (Str×NameKind)} {acc:List (Str×Addr)},(∀ x∈l,x.2=.free->∃ c,cells.lookup x.1=some c)->(∀ x c,acc.lookup x=some c->cells.lookup x=some c) ->
  ∀ x c,(dG cells l acc).lookup x=some c->cells.lookup x=some c
 |[],_,_,h,x,c,e=>h x c e
 | (n,k)::r,acc,hl,h,x,c,e=>by
  unfold dG at e;have hr:∀ y∈r,y.2=.free->∃ c,cells.lookup y.1=some c:=fun y hy=>hl y (Jk _ hy)
  split at e
  ·rename_i hk;refine gf hr (fun y d q=>?_) x c e;rw[Kt] at q
   split at q
   ·rename_i hy;obtain⟨c',hc'⟩:=hl (n,k) Jl hk;have hy':y=n:=by simpa using hy
    subst hy';simp only[] at hc';rw[hc'] at q ⊢;exact q
   ·exact h y d q
  ·exact gf hr h x c e
theorem gp:∀{l:List (Str×NameKind)} {acc:List (Str×Addr)},(∃ c,acc.lookup x=some c)->∃ c,(dG cells l acc).lookup x=some c
 |[],_,h=>h
 | (n,k)::r,acc,h=>by
  unfold dG;split
  ·refine gp ?_;rw[Kt];split
   ·exact⟨_,rfl⟩
   ·exact h
  ·exact gp h
theorem eS:∀{l:List (Str×NameKind)} {acc:List (Str×Addr)},(x,NameKind.free)∈l->∃ c,(dG cells l acc).lookup x=some c
 |[],_,h=>by simp at h
 | (n,k)::r,acc,h=>by
  unfold dG;rcases Jg.mp h with e|h
  ·cases e;rw[Ja rfl];exact gp ⟨(cells.lookup x).getD 0,by rw[Kt];simp⟩
  ·split
   ·exact eS h
   ·exact eS h
def aM(X:Cx)(scope:Scope)(N:List Str)(C:Addr)(s:Shared)(H:Hp)(fp:List Addr):Cx where
 prog:=X.prog
 w:=X.w
 K:=X.K
 mg:=X.mg
 base:=X.base
 A:=X.A
 N:=N
 s₀:=s
 H₀:=H
 env:=compEnvC scope (dG X.env.cells scope.names []) C X.env
 outer:=X.stack
 stack:=X.stack
 ex:=fp
 calm:=X.calm
 fn:=fun _=>false
 pn:=[]
 xe:=fun _ _=>False
structure cI (osc:Scope) (ON:List Str) (scope:Scope) (own N:List Str):Prop where
 kind:scope.kind=.function
 nd:N.Nodup
 len:N.length=own.length+ON.length
 ji:∀ y∈scope.names,y.2≠.cell
 loc:∀ y∈scope.names,y.2=.local->scope.names.lookup y.1=some .local
 free:∀ y∈scope.names,y.2=.free->osc.names.lookup y.1=some .cell\/osc.names.lookup y.1=some .free
 out:∀ p∈ON.zip (N.drop own.length),p.1=p.2\/scope.names.lookup p.2=none
 own:∀ x∈N.drop own.length,scope.names.lookup x≠some .local
theorem cP(x:Str)(hn:∀ y∈scope.names,y.2≠.cell):((relabel scope env).names.lookup x=some .local->scope.names.lookup x=some .local) /\
  ((relabel scope env).names.lookup x=some .cell\/(relabel scope env).names.lookup x=some .free->scope.names.lookup x=some .free):=by
 unfold relabel;simp only;revert hn;generalize scope.names=l;intro hn
 induction l with
 |nil=>simp
 |cons y r ih =>
  obtain⟨n,k⟩:=y;have ih:=ih fun y hy=>hn y (Jk _ hy);have hk:k≠.cell:=hn (n,k) Jl;rw[Jm];simp only;by_cases hc:(k == NameKind.free && env.scope.kind == ScopeKind.function && env.kindOf n == some NameKind.cell)=true
  ·rw[Ja hc,Kt,Kt];have hf:k=.free:=by
    simp only[K4] at hc
    simpa using hc.1.1
   split
   ·subst hf;simp
   ·exact ih
  ·rw[IY hc,Kt,Kt];split
   ·constructor
    ·exact fun h=>h
    ·rintro (h|h)
     ·exact absurd (Option.some.inj h) hk
     ·exact h
   ·exact ih
def DF(X:Cx)(ifs:List Expr)(t:TT):Prop:=
 ∀(pins:List (Addr×Obj)) (s:Shared) (σ:St) (H:Hp) (Q:Bool->Hp->Prop),Inv X pins σ H s->t σ H Q ->
  wpAny (model X.prog X.w) X.A (forIn ifs true fun c r=>if r=true then do let ok <- isTrue c X.env (eval c X.env);pure (ForInStep.yield ok) else pure (ForInStep.yield r)) (TP X pins σ Q) X.xe s
def A6:TT:=fun _ H Q=>Q true H
theorem Aq:DF X [] A6:=fun _ _ _ H _ I h=>wpAny_tests_nil ⟨H,I,h⟩
theorem y3{c:Expr}{t:TT}(h:PT X c t):DF X [c] t:=fun pins s σ H Q I hw=>wpAny_tests_one (h pins s σ H Q I hw)
theorem lK{R:Result->Shared->Prop}{target:Expr}{it acc:Value}(I:Nat->Shared->Prop)
  (turn:∀ n s,I n s->wpAny (model prog w) A (pyNext it) (fun r s₁=>match r with
   |none=>R (.ok .next) s₁
   |some v=>wpAny (model prog w) A (letOwnedTupleGo target it v) (fun _ s₁'=>wpAny (model prog w) A (assign target env v) (fun _ s₂ =>
     wpAny (model prog w) A (forIn ifs true fun c r=>if r=true then do let ok <- isTrue c env (eval c env);pure (ForInStep.yield ok) else pure (ForInStep.yield r)) (fun ok s₃ =>
      if ok=true then wpAny (model prog w) A (eval elt env) (fun x s₄ =>
       wpAny (model prog w) A (call (.builtin "list.append") [acc,x]) (fun _ s₅=>∃ m,m<n/\I m s₅) (fun _ _=>False) s₄) (fun _ _=>False) s₃
      else ∃ m,m<n/\I m s₃) (fun _ _=>False) s₂) (fun _ _=>False) s₁') (fun _ _=>False) s₁) (fun _ _=>False) s)
  (n:Nat) (h:I n s):codeAny (model prog w) A (.compLoop (.ListComp elt [⟨target,iter,ifs,0⟩] scope pos) 0 it acc env) R s:=by
 refine codeAny_loop rfl I (fun n s hI=>?_) n h;show wpAny _ A ((compTurn (.ListComp elt [⟨target,iter,ifs,0⟩] scope pos) 0 it acc env).onRaise (fun x=>do noteFrame x env;theTreesLotGoes x)) _ _ s
 refine wpAny_noted ?_;rw[compTurn_list];refine IT (Ll (IT (JW (turn n s hI) (fun r s₁ h₁=>?_) fun _ _ h'=>h'.elim)))
 cases r with
 |none=>exact IZ h₁
 |some v =>
  refine IT (JW h₁ (fun _ s₁' h₁'=>?_) fun _ _ h'=>h'.elim);refine IT (JW h₁' (fun _ s₂ h₂=>IT (JW h₂ (fun ok s₃ h₃=>?_) fun _ _ h'=>h'.elim)) fun _ _ h'=>h'.elim)
  cases ok with
  |false=>exact IZ ⟨rfl,h₃⟩
  |true =>
   exact IT (IT (JW h₃ (fun x s₄ h₄=>IT (JW h₄ (fun _ s₅ h₅=>IZ (IZ ⟨rfl,h₅⟩)) fun _ _ h'=>h'.elim)) fun _ _ h'=>h'.elim))
def iK(wi:TI)(k:Nat)(g:TG)(tc:TT)(te:TE):TE:=fun σ H Q=>wi σ H fun J H1=>∀ D,H1 D=none ->
 ∃ W:Nat->Nat->List V->St->Hp->Prop,(∃ m,W 0 m [] (List.replicate k none++σ) (upd H1 D (.lst [])))/\∀ i m ys σ' H',W i m ys σ' H'->H' D=some (.lst ys) /\
  ((J.stop i H'/\Q (.ref D) H')\/(J.go i H'/\ys.length<sizeLine/\∀ x H2,J.AX i H' x H2->g x σ' H2 fun σ3 H3=>tc σ3 H3 fun b H4 =>
   if b=true then te σ3 H4 fun v H5=>H5 D=some (.lst ys)/\∃ m',m'<m/\W (i+1) m' (ys++[v]) σ3 (upd H5 D (.lst (ys++[v])))
   else ∃ m',m'<m/\W (i+1) m' ys σ3 H4))
theorem jY{own:List Str}{g:TG}(S:cI osc ON scope own N)(hosc:X.env.scope=osc)(hON:X.N=ON)(hc:X.calm=true)(hi:PI X tg iter wi)
  (hg:∀ C s H fp,PG (aM X scope N C s H fp) tg g) (ht:∀ C s H fp,DF (aM X scope N C s H fp) ifs tc) (he:∀ C s H fp,PE (aM X scope N C s H fp) elt te)
      {Q:VK} (I:Inv X pins σ H s) (h:iK wi own.length g tc te σ H Q) {RR:Value->Addr->Result->Shared->Prop}
  (fin:∀(D C:Addr) (H':Hp) (s':Shared) (m:Str->Option Value),Inv X pins σ H' s'->Q (.ref D) H'->H' C=none->X.s₀.heap.objs.size<=C->C≠X.env.locals->(∀ x c,X.env.cells.lookup x=some c->c≠C)->(∀ p∈X.pn++pins,p.1≠C) ->
   s'.heap.Ns C m->RR (.ref D) C (.ok .next) s') :
  wpAny (model X.prog X.w) X.A (eval iter X.env) (fun x s₁=>wpAny (model X.prog X.w) X.A (pyIter x) (fun it s₂=>wpAny (model X.prog X.w) X.A (newList []) (fun acc s₃ =>
   wpAny (model X.prog X.w) X.A (newFunctionEnv scope X.env.globals (dG X.env.cells scope.names []) [] X.env.qual none .none (some X.env)) (fun cenv s₄ =>
    codeAny (model X.prog X.w) X.A (.compStart (.ListComp elt [⟨tg,iter,ifs,0⟩] scope pos) 0 it acc {cenv with scope:=relabel scope X.env}) (RR acc cenv.locals) s₄) X.xe s₃) X.xe s₂) X.xe s₁) X.xe s:=by
 refine b9 (hi pins s σ H _ I h) fun v s1 h1=>b9 h1 fun itv s2 h2=>?_;obtain⟨it,fp,tn,J,H2,e,I2,T,oI,f2,q⟩:=h2;subst e;refine JP (wpAny_newFunctionEnv S.ji (by intro y hy;simp at hy) (fun h₁ hns₁ hsb₁=>?_) S.kind)
 dsimp only at hns₁ hsb₁ ⊢;have I3:Inv X pins σ (upd H2 s2.heap.objs.size (.lst [])) {s2 with heap:=s2.heap.push {cls:=.type "list",data:=.seq ([]:List Value).toArray},toks:=s2.toks}:=I2.Dz (t':=s2.toks) .nil (Nat.zero_le _)
 have hD2:H2 s2.heap.objs.size=none:=I2.fresh;obtain⟨W,⟨m0,w0⟩,turn⟩:=q _ hD2;generalize hs3:({s2 with heap:=s2.heap.push {cls:=.type "list",data:=.seq ([]:List Value).toArray},toks:=s2.toks}:Shared)=s3 at I3
 have eh3:s3.heap=s2.heap.push {cls:=.type "list",data:=.seq ([]:List Value).toArray}:=by rw[<- hs3]
 generalize hD:s2.heap.objs.size=D at I3 turn w0 hD2 ⊢;generalize hH3:upd H2 D (.lst [])=H3 at I3 w0;rw[<- eh3] at hns₁ hsb₁ ⊢;have hC3:H3 s3.heap.objs.size=none:=I3.fresh;have hsz3:s3.heap.objs.size=D+1:=by rw[eh3,Kn,hD]
 have fp2:∀ b∈fp,b<s2.heap.objs.size:=fun b hb=>by
  obtain⟨o,e,_⟩:=T.obj _ _ oI b hb;exact Jc e
 have f3:∀ b∈fp,jc X pins H3 b:=fun b hb=>by
  obtain⟨g0,g1⟩:=f2 b hb;refine⟨?_,g1⟩;rw[<- hH3,af (by rw[<- hD];exact Jq (fp2 b hb))]
  exact g0
 have neC:∀ b o,s3.heap.get? b=some o->b≠s3.heap.objs.size:=fun b o e=>Jq (Jc e);have old:∀ b o,s3.heap.get? b=some o->h₁.get? b=some o:=fun b o e=>hsb₁.extBut b o (neC b o e) (IU _ e);have hk:=S.kind;have hfr:∀ y∈scope.names,y.2=.free->∃ c,X.env.cells.lookup y.1=some c:=fun y hy hf=>I3.ok.has _ (by subst hosc;exact S.free y hy hf)
 have sub:=gf (acc:=[]) hfr (by intro x c e;simp at e)
 have JB:∀ tk,Inv (aM X scope N s3.heap.objs.size s3 H3 fp) [] (List.replicate own.length none++σ) H3 {s3 with heap:=h₁,toks:=tk}:=fun tk=>by
  refine⟨⟨I3.ok.mod,S.kind,I3.ok.glob,I3.ok.blt,Jb _,fun x y c e1 e2=>I3.ok.inj x y c (sub x c e1) (sub y c e2),fun x hx=>?_,fun x c hf _=>(by cases hf),I3.ok.hd,I3.ok.frames,.inl rfl,fun b hb=>?_,I3.bs,Jj I3.ok.Aa I3.sz,fun b o e hb=>?_,fun b hb hf=>?_,I3.stack,I3.i4,I3.ok.tabs.un I3.base⟩,
   rfl,I3.bare,Un.kept old,⟨_,hns₁,fun i x v e1 e2 e3=>?_⟩,fun x c e=>?_,hC3,fun x c e=>I3.dc x c (sub x c e),fun p hp=>absurd (show p∈([]:List (Addr×Obj)) from hp) (by simp),I3.aO.kept old,?_⟩
  ·have q:=(cP (env:=X.env) x S.ji).2 hx;exact eS (PySem.mem_of_lookup q)
  ·have hb:b∈fp:=hb;obtain⟨_,g1,g2,g3,g4,g5⟩:=f3 b hb;refine⟨?_,fun x c e=>g4 x c (sub x c e)⟩;have:=fp2 b hb;show b≠s3.heap.objs.size;rw[hsz3,<- hD];exact Jq (KG this)
  ·have hb:b∈fp:=hb;obtain⟨_,g1,g2,g3,g4,g5⟩:=f3 b hb;rcases g3 with g3|g3
   ·exact I3.ok.xC b o e g3
   ·exact absurd (Ju (Jc e) (Jj I3.ok.Aa g3)) (Ku _)
  ·have hb:b∈fp:=hb;obtain⟨_,g1,g2,g3,g4,g5⟩:=f3 b hb;rcases Jg.mp (I3.j8 b hf) with z|z
   ·exact g1 z
   ·exact g2 z
  ·have hi:own.length<=i:=by
    rcases KP i own.length with hlt|hge
    ·rw[Lb (by simpa using hlt),Li] at e2
     split at e2<;>cases e2
    ·exact hge
   rw[Kk (by simpa using hi),JH] at e2
   have e1:N[own.length+(i-own.length)]?=some x:=by rw[M0 hi];exact e1
   have e1d:(N.drop own.length)[i-own.length]?=some x:=by rw[K7];exact e1
   have nl:scope.names.lookup x≠some .local:=S.own x (KA e1d);have vis:scope.names.lookup x=some .free:=by
    rcases e3 with z|z
    ·exact absurd ((cP (env:=X.env) x S.ji).1 z) nl
    ·exact (cP (env:=X.env) x S.ji).2 z
   have hlen:=I3.len;have hlt:i-own.length<X.N.length:=by
    rw[<- hlen];exact (Ji.mp e2).1
   have hxN:X.N[i-own.length]?=some x:=by
    rw[IV hlt];have mz:(X.N[i-own.length],x)∈ON.zip (N.drop own.length):=by
     rw[<- hON];refine KA (i:=i-own.length) ?_;rw[List.getElem?_zip_eq_some];exact⟨IV hlt,e1d⟩
    rcases S.out _ mz with z|z
    ·exact Jv some z
    ·exact absurd z (by rw[vis];simp)
   have hko:X.env.scope.names.lookup x=some .cell\/X.env.scope.names.lookup x=some .free:=by subst hosc;exact S.free _ (PySem.mem_of_lookup vis) rfl
   obtain⟨m,hn,hl⟩:=I3.loc;have hv:C1 X.env.scope x:=by
    rcases hko with z|z
    ·exact .inr (.inl z)
    ·exact .inr (.inr z)
   obtain⟨u,ru,lk⟩:=hl _ x v hxN e2 hv;refine⟨u,ru,.inr ⟨?_,?_⟩⟩
   ·rcases e3 with z|z
    ·exact absurd ((cP (env:=X.env) x S.ji).1 z) nl
    ·exact z
   ·rcases lk with ⟨k,_⟩|⟨_,c,ec,hcell⟩
    ·exfalso
     have k':X.env.scope.names.lookup x=some .local:=k;rcases hko with z|z
     ·rw[k'] at z;cases z
     ·rw[k'] at z;cases z
    ·obtain⟨c',ec'⟩:=eS (cells:=X.env.cells) (acc:=[]) (PySem.mem_of_lookup vis);have:=sub x c' ec';rw[ec] at this;cases this;obtain⟨o,ho,hd⟩:=hcell;exact⟨c,ec',o,old c o ho,hd⟩
  ·obtain⟨v,o,ho,hd⟩:=I3.cell x c (sub x c e);exact⟨v,o,old c o ho,hd⟩
  ·show (List.replicate own.length none++σ).length=N.length;rw[S.len,IX,JH,I3.len,hON]
 have stat:∀{H':Hp},(∀ b∈fp,H' b=none)->∀ b∈fp,jc (aM X scope N s3.heap.objs.size s3 H3 fp) [] H' b:=fun {H'} hn b hb=>by
  obtain⟨_,g1,g2,g3,g4,g5⟩:=f3 b hb;refine⟨hn b hb,?_,fun hf=>?_,.inl hb,fun x c e=>g4 x c (sub x c e),fun p hp=>absurd (show p∈([]:List (Addr×Obj)) from hp) (by simp)⟩
  ·have:=fp2 b hb;show b≠s3.heap.objs.size;rw[hsz3,<- hD];exact Jq (KG this)
  ·rcases Jg.mp (I3.j8 b hf) with z|z
   ·exact g1 z
   ·exact g2 z
 have st4:tn 0 h₁:=T.keep _ _ _ oI fun b hb o e=>old b o (by rw[eh3];exact IU _ e)
 have loop:∀ s4:Shared,s4={s3 with heap:=h₁,toks:=s2.toks+([]:List (Str×Value)).length} ->
   codeAny (model X.prog X.w) X.A (.compLoop (.ListComp elt [⟨tg,iter,ifs,0⟩] scope pos) 0 (.ref it) (.ref D) (aM X scope N s3.heap.objs.size s3 H3 fp).env) (RR (.ref D) s3.heap.objs.size) s4:=by
  rintro s4 rfl;refine lK (fun n s'=>∃ i ys σ' H',Inv (aM X scope N s3.heap.objs.size s3 H3 fp) [] σ' H' s'/\tn i s'.heap/\(∀ b∈fp,H' b=none)/\W i n ys σ' H') ?_ m0 ⟨0,[],_,H3,JB _,st4,fun b hb=>(f3 b hb).1,w0⟩;rintro n s5 ⟨i,ys,σ5,H5,I5,st5,fr5,w5⟩;obtain⟨hD5,ways⟩:=turn i n ys σ5 H5 w5;rcases ways with ⟨stop,qn⟩|⟨go,hys,step⟩
  ·refine b9 (T.done (aM X scope N s3.heap.objs.size s3 H3 fp) rfl rfl rfl hc i [] s5 σ5 H5 _ I5 (stat fr5) st5 stop) fun r s6 ⟨hr,I6⟩=>?_;subst hr;obtain⟨m,hn,_⟩:=I6.loc;refine fin D _ H5 s6 m ?_ qn I6.free (Jj I3.sz (Jb _)) ?_ (fun x c e z=>?_) (fun p hp z=>?_) hn
   ·refine I3.A8 (ch:=fp) I6.os I6.base I6.aO I6.bare fun b hb=>?_;obtain⟨_,g1,g2,g3,g4,g5⟩:=f3 b hb;exact⟨g3,g1,g4,g5⟩
   ·exact Kf I3.lt
   ·obtain⟨v,o,ho,_⟩:=I3.cell x c e;exact absurd (Jc ho) (by rw[z];exact Ku _)
   ·exact absurd (Jc (I3.pin p hp).1) (by rw[z];exact Ku _)
  ·refine b9 (T.item (aM X scope N s3.heap.objs.size s3 H3 fp) rfl rfl rfl hc i [] s5 σ5 H5 _ I5 (stat fr5) st5 go) fun r s6 ⟨u,hr,h6⟩=>?_;subst hr;refine b9 h6 fun _ s7 ⟨x,H7,I7,r7,y7,st7,fr7⟩=>?_;have I7':=I7.pinned (stat fr7) (T.obj _ _ st7);have back:∀{σ8:St} {H8:Hp} {s8:Shared},Inv (aM X scope N s3.heap.objs.size s3 H3 fp) ([]++j3 fp s7.heap) σ8 H8 s8->tn (i+1) s8.heap/\∀ b∈fp,H8 b=none:=fun {σ8 H8 s8} I8=>by
    refine⟨T.keep _ _ _ st7 fun b hb o e=>(I8.pin (b,o) (Jw _ (Jw _ (ee hb e)))).1,fun b hb=>?_⟩;obtain⟨o,e,d⟩:=T.obj _ _ st7 b hb;exact (I8.pin (b,o) (Jw _ (Jw _ (ee hb e)))).2.1
   refine b9 (hg _ _ _ _ _ s7 σ5 H7 x u _ I7' r7 (step x H7 y7)) fun _ s8 ⟨σ8,H8,I8,q8⟩=>?_;refine b9 (ht _ _ _ _ _ s8 σ8 H8 _ I8 q8) fun ok s9 ⟨H9,I9,q9⟩=>?_
   cases ok with
   |false =>
    rw[IY (by simp)] at q9 ⊢
    obtain⟨m',hm,w9⟩:=q9;exact⟨m',hm,i+1,ys,σ8,H9,I9.eD,(back I9).1,(back I9).2,w9⟩
   |true =>
    rw[Ja rfl] at q9 ⊢;refine b9 (he _ _ _ _ _ s9 σ8 H9 _ I9 q9) fun y s10 ⟨v10,H10,I10,r10,hD10,m',hm,w10⟩=>?_;refine b9 (bC _ s10 σ8 H10 (.ref D) [v10] (.ref D) [y] (fun r H11=>r=.aL/\H11=upd H10 D (.lst (ys++[v10]))) I10 rfl (.cons r10 .nil) ⟨D,ys,v10,rfl,rfl,hD10,hys,rfl,rfl⟩) fun _ s11 ⟨_,H11,I11,_,_,e11⟩=>?_;subst e11;exact⟨m',hm,i+1,_,σ8,_,I11.eD,(back I11).1,(back I11).2,w10⟩
 have start:=codeAny_compStart_list (R:=RR (.ref D) s3.heap.objs.size) (loop _ rfl) (T.self X.A 0 _ _ _ st4 (loop _ rfl));subst hs3;exact start
theorem yi{own:List Str}{g:TG}(S:cI osc ON scope own N)(hosc:X.env.scope=osc)(hON:X.N=ON)(hc:X.calm=true)(hi:PI X tg iter wi)
  (hg:∀ C s H fp,PG (aM X scope N C s H fp) tg g) (ht:∀ C s H fp,DF (aM X scope N C s H fp) ifs tc) (he:∀ C s H fp,PE (aM X scope N C s H fp) elt te)
  (hs:∀ x,foldedSetIterable iter X.env x=pure x:=by intro _;rfl) :
  PE X (.ListComp elt [⟨tg,iter,ifs,0⟩] scope pos) (iK wi own.length g tc te):=by
 intro pins s σ H Q I h;have hfr:∀ y∈scope.names,y.2=.free->∃ c,X.env.cells.lookup y.1=some c:=fun y hy hf=>I.ok.has _ (by subst hosc;exact S.free y hy hf)
 rw[eval_ListComp];refine Nm (use:=none) rfl hs (fm hfr) S.kind S.loc ?_;refine jY S hosc hON hc hi hg ht he I h (RR:=fun acc C=>compPost (model X.prog X.w) X.A X.xe none (EP X pins σ Q) acc C) ?_;intro D C H' s' m I' q h1 h2 h3 h4 h5 hn;exact⟨m,hn,fun h'' hs''=>⟨.ref D,H',I'.turned (t':=s'.toks) (fun b o hb e=>(hs''.2 b hb).trans e) h1 h3 (.inr h2) h4 h5,rfl,q⟩⟩
theorem pP{own:List Str}{spos py:Pos}{g:TG}{y:Str}(hN:X.N.Nodup)(hj:X.N[j]?=some y)(hx:Loc X.env.scope y)(S:cI osc ON scope own N)(hosc:X.env.scope=osc)(hON:X.N=ON)(hc:X.calm=true)(hi:PI X tg iter wi)
  (hg:∀ C s H fp,PG (aM X scope N C s H fp) tg g) (ht:∀ C s H fp,DF (aM X scope N C s H fp) ifs tc) (he:∀ C s H fp,PE (aM X scope N C s H fp) elt te)
  (hsw:swapsWith (.ListComp elt [⟨tg,iter,ifs,0⟩] scope pos) (some (.Name y py)) spos.line X.env=pure true:=by rfl)
  (hf:X.fn y=true\/X.env.scope.names.lookup y=some .local:=by first|exact .inl rfl|exact .inr rfl|assumption)
  (hs:∀ x,foldedSetIterable iter X.env x=pure x:=by intro _;rfl) :
  PS X (.Assign [.Name y py] (.ListComp elt [⟨tg,iter,ifs,0⟩] scope pos) spos) (iD (iK wi own.length g tc te) (cD j)):=by
 intro pins s σ H Dn I h;have hfr:∀ y∈scope.names,y.2=.free->∃ c,X.env.cells.lookup y.1=some c:=fun y hy hf=>I.ok.has _ (by subst hosc;exact S.free y hy hf)
 rw[exec_Assign_Name_used _ _ _ _ hsw];refine IT (Ll (IT ?_));show wpAny _ X.A (do let _ <- comprehension (.ListComp elt [⟨tg,iter,ifs,0⟩] scope pos) scope X.env _ (newList []) false (eval iter X.env) (some (assign (.Name y py) X.env))) _ _ s
 refine IT (JW (Nm (use:=some (assign (.Name y py) X.env)) (Q:=fun _ s'=>SP X pins Dn .next s') rfl hs (fm hfr) S.kind S.loc ?_) (fun _ s' hq=>IZ (IZ hq)) fun _ _ e=>e);refine jY S hosc hON hc hi hg ht he I h (RR:=fun acc C=>compPost (model X.prog X.w) X.A X.xe (some (assign (.Name y py) X.env)) (fun _ s'=>SP X pins Dn .next s') acc C) ?_;intro D C H' s' m I' q h1 h2 h3 h4 h5 hn;show wpAny _ X.A (assign (.Name y py) X.env (.ref D)) _ _ _;refine wpAny_assign_Name (kJ I' hN hj hx (v:=.ref D) rfl (fun s'' I'' hsb=>?_) hf);obtain⟨a,sb,ha⟩:=hsb;have nC:C≠a:=by
  rcases ha with ha|ha
  ·rw[ha];exact h3
  ·exact (h4 y a ha).symm
 exact⟨m,hn.sameBut sb nC,fun h'' hs''=>⟨_,H',I''.turned (t':=s''.toks) (fun b o hb e=>(hs''.2 b hb).trans e) h1 h3 (.inr h2) h4 h5,q⟩⟩
def cN(e:Expr):Bool:=match e with
 |.Starred ..=>false
 |_=>true
theorem cA(h:cN e=true):starEach (e::es) env=(false,eval e env)::starEach es env:=by
 cases e<;>first|rfl|cases h
theorem plain_any:∀{es:List Expr},es.all cN=true->(backTo pos (starEach es env)).any (·.1)=false
 |[],_=>rfl
 |e::es,h=>by
  rw[KU,K4] at h;rw[cA h.1];show (false || (backTo pos (starEach es env)).any (·.1))=false;rw[plain_any h.2];rfl
theorem plain_all:∀{es:List Expr},es.all cN=true->(backTo pos (starEach es env)).all (fun x=>!x.1)=true
 |[],_=>rfl
 |e::es,h=>by
  rw[KU,K4] at h;rw[cA h.1];show (true && (backTo pos (starEach es env)).all (fun x=>!x.1))=true;rw[plain_all h.2];rfl
theorem vn(h:(e::es).all cN=true)(hl:(e::es).length<30):
  ((backTo cpos (starEach (e::es) env)).all (fun x=>!x.1) && (backToKw cpos (keywordEach [] env)).all (fun x=>x.1.isSome) && decide ((e::es).length+([]:List Keyword).length+(if ([]:List Keyword).isEmpty then 0 else 1)<30))=true:=by
 rw[plain_all h];have e2:(backToKw cpos (keywordEach [] env)).all (fun x=>x.1.isSome)=true:=rfl;rw[e2];have e3:(e::es).length+([]:List Keyword).length+(if ([]:List Keyword).isEmpty then 0 else 1)<30:=hl
 rw[Jz e3];rfl
section
variable {X:Cx} {e:Expr} {es:List Expr} {te:TE} {t:TA}
theorem GY(ha:PE X e te)(hr:PA X es t)(h:cN e=true:=by rfl):PA X (e::es) (er te t):=qL ha hr (cA h)
theorem FK{id:String}{p:Pos}(hc:aT X (.builtin id) r)(hg:Gl X x)(hm:X.mg x=none)(hv:bootBuiltins x=some (.builtin id))(ha:PA X (e::es) t)(h1:cN e=true:=by rfl)(h2:es.all cN=true:=by rfl)(hn:x≠"__name__":=by decide)(hdb:(x ==("__debug__":Str))=false:=by decide):
  PE X (.Call (.Name x p) (e::es) [] pos) (uq r t):=uD hc hg hm hv ha hn hdb (cA h1) (plain_any h2)
theorem Ec{T:String}{p:Pos}(hc:aT X (.type T) r)(hg:Gl X x)(hm:X.mg x=none)(hv:bootBuiltins x=some (.type T))(ha:PA X (e::es) t)(h1:cN e=true:=by rfl)(h2:es.all cN=true:=by rfl)(hn:x≠"__name__":=by decide)(hdb:(x ==("__debug__":Str))=false:=by decide):
  PE X (.Call (.Name x p) (e::es) [] pos) (uq r t):=t_ hc hg hm hv ha hn hdb (cA h1) (plain_any h2)
theorem B8{o:Expr}{to:TE}{apos:Pos}{T id:String}{r:V->List V->Hp->VK->Prop}(pa:PlainAttrs T)(slot:Slot T name id)(hty:typeOf (.builtin id)=pure (.type "method_descriptor"))(hm:FH X id r)(ho:PE X o to)(ha:PA X (e::es) t)
  (hbase:attributeBase o name X.env (eval o X.env)=eval o X.env) (hline:(apos.endLine == cpos.line)=true) (h:(e::es).all cN=true) (hl:(e::es).length<30):PE X (.Call (.Attribute o name apos) (e::es) [] cpos) (HQ X.K T r to t):=by
 have h':=h;rw[KU,K4] at h';exact FL pa slot hty hm ho ha hbase (vn h hl) hline (cA h'.1) (plain_any h'.2)
theorem oJ{a:Expr}{p:Pos}(hg:Gl X "range")(hm:X.mg "range"=none)(ha:PA X [a] ta)(h:cN a=true:=by rfl):PI X tg (.Call (.Name "range" p) [a] [] pos) (xX ta):=tU hg hm ha (cA h)
theorem pM{a:Expr}{p:Pos}(hg:Gl X "range")(hm:X.mg "range"=none)(ha:PA X [a,b] ta)(h:cN a=true:=by rfl)(h2:cN b=true:=by rfl):PI X tg (.Call (.Name "range" p) [a,b] [] pos) (xO ta):=tH hg hm ha (by rw[cA h,cA h2];rfl) (cA h2)
end
structure HasFn (K:Oe) (mg:Str->Option Value) (x:Str) (st:Stmt) (ps:List Str):Prop where
 ex:∃(f:Addr) (fd:FuncData),yd K x x st f fd/\Binds K fd ps []/\mg x=some (.ref f)
structure ah (P:Program) (w:World) (K:Oe) (mg:Str->Option Value) (base:Heap) (CX:mC) (k:Nat) (x:Str) (ps:List Str) (sp:Sp):Prop where
 ex:∃(f:Addr) (fd:FuncData),mg x=some (.ref f)/\PySem.W.keepIn K (.ref f)=true/\Binds K fd ps []/\dJ P w K mg base CX k f fd ps sp
section
variable {P:Program} {w:World} {K:Oe} {mg:Str->Option Value} {base:Heap}
theorem HasFn.ok{k:Nat}(F:HasFn K mg x st ps)(S:az N ps (aa st))(len:∀ vs H Q E,sp vs H Q E->vs.length=ps.length)
  (hbody:∀(f:Addr) (cdv:Value) (A:Around) (outer:List Env) (s:Shared) (H:Hp) (vs:List V) (Q:VK) (E:XK),bU k (A.deeper (envOfC x (aa st) s.heap.objs.size f cdv))->sp vs H Q E ->
   ∃ t,oC (fR cF P w K mg base N x (aa st) f cdv A outer s H E).yR (aw st) t/\t {nx:=fun _ H'=>Q .aL H',rt:=Q} (start N vs) H):ah P w K mg base cF (k+1) x ps sp:=by
 obtain⟨f,fd,F1,b,m⟩:=F.ex;exact⟨f,fd,m,F1.kp,b,F1.ok S len fun cdv A outer s H vs Q E hr h=>hbody f cdv A outer s H vs Q E hr h⟩
end
section
variable {X:Cx} {CX:mC} {k:Nat} {ps:List Str} {sp:Sp} {E:XK} {x:Str} {p pos:Pos} {e:Expr} {es:List Expr} {t:TA}
theorem Ea(F:ah X.prog X.w X.K X.mg X.base CX k x ps sp)(hr:bU k X.A)(hg:Gl X x)(hx:Passes CX X E)(ha:PA X (e::es) t)(h1:cN e=true:=by rfl)(h2:es.all cN=true:=by rfl)(hdb:(x ==("__debug__":Str))=false:=by decide):
  PE X (.Call (.Name x p) (e::es) [] pos) (iC sp [] E t):=by
 obtain⟨f,fd,m,kp,b,G⟩:=F.ex;exact yu G hr hg m kp b .nil hx ha hdb (cA h1) (plain_any h2)
end
def CV:Expr->Option V
 |.Constant (.int i) _ _=>some (.int i)
 |.Constant (.str x) _ _=>some (.str x)
 |.Constant (.bool b) _ _=>some (.bl b)
 |.Constant .none _ _=>some .aL
 |_=>none
def kQ:List Expr->Option (List V)
 |[]=>some []
 |e::es=>match CV e,kQ es with
  |some v,some vs=>some (v::vs)
  |_,_=>none
def tK(vs:List V):TA:=fun _ H Q=>Q vs H
theorem BZ{v:V}(h:CV e=some v):PE X e (tC v)/\∀ es,starEach (e::es) X.env=(false,eval e X.env)::starEach es X.env:=by
 unfold CV at h
 split at h
 ·cases h;exact⟨gj,fun _=>rfl⟩
 ·cases h;exact⟨vH,fun _=>rfl⟩
 ·cases h;exact⟨vc,fun _=>rfl⟩
 ·cases h;exact⟨vb,fun _=>rfl⟩
 ·cases h
theorem kR{X:Cx}:∀{es:List Expr} {vs:List V},kQ es=some vs->PA X es (tK vs)
 |[],vs,h=>by cases h;exact vO
 |e::es,vs,h=>by
  unfold kQ at h
  split at h
  ·rename_i v ws e1 e2;cases h;have p:=BZ (X:=X) e1;exact qL (te:=tC v) (t:=tK ws) p.1 (kR e2) (p.2 es)
  ·cases h
def sq(H:Hp)(p:Addr):Option (Bool×List V):=match H p with
 |some (.lst xs)=>some (true,xs)
 |some (.tup xs)=>some (false,xs)
 |some (.dk _ (.lst xs))=>some (true,xs)
 |some (.dk _ (.tup xs))=>some (false,xs)
 |_=>none
theorem si(h:sq H p=some (true,xs)):bS K H p xs:=by
 unfold sq at h
 split at h
 ·rename_i e;cases h;exact .inl (.inl e)
 ·cases h
 ·rename_i e;cases h;exact .inl (.inr ⟨_,e⟩)
 ·cases h
 ·cases h
theorem mI(h:sq H p=some (false,xs)):b8 K H p xs:=by
 unfold sq at h
 split at h
 ·cases h
 ·rename_i e;cases h;exact .inl (.inl e)
 ·cases h
 ·rename_i e;cases h;exact .inl (.inr ⟨_,e⟩)
 ·cases h
theorem k_(h:H p=some (.tup xs)):sq H p=some (false,xs):=by unfold sq;rw[h]
section
variable {X:Cx}
def gg(K:Oe):R2:=fun x y H Q=>match x,y with
 |.int i,.int j=>Q (.int (i+j)) H
 |.str i,.str j=>i.length+j.length<=sizeLine/\Q (.str (i++j)) H
 |.ref a,.ref b=>match H a,H b with
  |some (.lst xs),some (.lst ys)=>xs.length+ys.length<=sizeLine/\∀ p,H p=none->Q (.ref p) (upd H p (.lst (xs++ys)))
  |some (.tup xs),some (.tup ys)=>xs≠[]/\ys≠[]/\xs.length+ys.length<=sizeLine/\∀ p,H p=none->Q (.ref p) (upd H p (.tup (xs++ys)))
  |_,_=>False
 |_,_=>False
theorem zz:cT X (binaryOp .Add) (gg X.K):=by
 intro pins s σ H x y v u Q I rx ry h
 cases x with
 |int i=>cases y with
  |int j=>exact wI pins s σ H _ _ v u Q I rx ry ⟨i,j,rfl,rfl,h⟩
  |_=>exact (show False from h).elim
 |str i=>cases y with
  |str j=>exact iR pins s σ H _ _ v u Q I rx ry ⟨i,j,rfl,rfl,h.1,h.2⟩
  |_=>exact (show False from h).elim
 |ref a=>cases y with
  |ref b =>
   unfold gg at h;simp only at h
   split at h
   ·rename_i xs ys e1 e2;exact x5 pins s σ H _ _ v u Q I rx ry ⟨a,b,xs,ys,rfl,rfl,e1,e2,h.1,h.2⟩
   ·rename_i xs ys e1 e2;obtain⟨h1,h2,h3,h4⟩:=h;exact rM pins s σ H _ _ v u Q I rx ry ⟨a,b,xs,ys,rfl,rfl,b8.of e1,b8.of e2,h1,h3,fun z=>absurd z h2,fun _=>h4⟩
   ·exact h.elim
  |_=>exact (show False from h).elim
 |_=>exact (show False from h).elim
def CT:R2:=fun x y H Q=>match x,y with
 |.int i,.int j=>pR i j/\Q (.int (i*j)) H
 |.ref a,.int j=>FD (.ref a) (.int j) H Q
 |_,_=>False
theorem yM:cT X (binaryOp .Mult) CT:=by
 intro pins s σ H x y v u Q I rx ry h
 cases x with
 |int i=>cases y with
  |int j=>exact CH pins s σ H _ _ v u Q I rx ry ⟨i,j,rfl,rfl,h.1,h.2⟩
  |_=>exact (show False from h).elim
 |ref a=>cases y with
  |int j=>exact D0 pins s σ H _ _ v u Q I rx ry h
  |_=>exact (show False from h).elim
 |_=>exact (show False from h).elim
theorem vL:cT X (compareOp .Eq) DZ:=AD
theorem wY:cT X (compareOp .NotEq) BK:=AW
def DJ(K:Oe):R2:=fun x y H Q=>match x,y with
 |.str z,.int i=>z.length<=sizeLine/\(match cc z.cps.toList i with|some c=>Q (.str ⟨#[c]⟩) H|none=>False)
 |.ref p,.int i=>match sq H p with
  |some (_,xs)=>(match cc xs i with|some v=>Q v H|none=>False)
  |none=>∃ xs v,b8 K H p xs/\cc xs i=some v/\Q v H
 |_,_=>False
theorem IG{k:Nat}(hu:k<cLine):qV X (DJ X.K):=by
 intro value slice pins s σ H x y v u Q I rx ry h hs;refine uH value slice pins s σ H x y v u Q I rx ry ?_ hs
 cases x with
 |str z=>cases y with
  |int i =>
   obtain⟨hz,h⟩:=h
   split at h
   ·rename_i c e;exact .inr (.inr ⟨z,i,c,rfl,rfl,hz,e,h⟩)
   ·exact h.elim
  |_=>exact (show False from h).elim
 |ref p=>cases y with
  |int i =>
   unfold DJ at h;simp only at h
   split at h
   ·rename_i b xs e
    split at h
    ·rename_i w' e'
     cases b with
     |true=>exact .inl ⟨p,xs,i,w',rfl,rfl,si e,e',h⟩
     |false=>exact .inr (.inl ⟨p,xs,i,w',rfl,rfl,mI e,e',h⟩)
    ·exact h.elim
   ·obtain⟨xs,w',hq,e',h⟩:=h;exact .inr (.inl ⟨p,xs,i,w',rfl,rfl,hq,e',h⟩)
  |_=>exact (show False from h).elim
 |_=>exact (show False from h).elim
def GV(K:Oe):V->Option Int->Option Int->Hp->VK->Prop:=fun x lo hi H Q=>match x with
 |.ref p=>match sq H p with
  |some (true,xs)=>∀ q,H q=none->Q (.ref q) (upd H q (.lst (mf xs lo hi)))
  |some (false,xs)=>yX K (.ref p) lo hi H Q
  |none=>yX K (.ref p) lo hi H Q
 |_=>False
def xk:V->V->V->Hp->(Hp->Prop)->Prop:=fun o i v H Q=>match o,i with
 |.ref p,.int k=>match H p with
  |some (.lst xs)=>(match jT xs.length k with|some j=>Q (upd H p (.lst (xs.set j v)))|none=>False)
  |_=>False
 |_,_=>False
theorem uset:Br X xk:=by
 intro pins s σ H o i v ov iv u Q I ro ri rv h
 cases o with
 |ref p=>cases i with
  |int k =>
   unfold xk at h;simp only at h
   split at h
   ·rename_i xs e
    split at h
    ·rename_i j e';exact set_list pins s σ H _ _ v ov iv u Q I ro ri rv ⟨p,xs,k,j,rfl,rfl,e,e',h⟩
    ·exact h.elim
   ·exact h.elim
  |_=>exact (show False from h).elim
 |_=>exact (show False from h).elim
def y8(K:Oe):List V->Hp->VK->Prop:=fun xs H Q=>match xs with
 |[.str y]=>y.length<=sizeLine/\Q (.int y.length) H
 |[.ref p]=>match sq H p with
  |some (_,ys)=>Q (.int ys.length) H
  |none=>∃ ys,b8 K H p ys/\Q (.int ys.length) H
 |_=>False
theorem uf:aT X (.builtin "len") (y8 X.K):=by
 intro pins s σ H xs us Q I r h;rcases xs with _|⟨x,_|⟨y,xs⟩⟩
 ·exact (show False from h).elim
 rotate_left
 ·cases x<;>exact (show False from h).elim
 cases x with
 |str y=>exact je pins s σ H _ us Q I r ⟨.str y,_,rfl,⟨h.1,rfl⟩,h.2⟩
 |ref p =>
  unfold y8 at h;simp only at h
  split at h
  ·rename_i b ys e;refine je pins s σ H _ us Q I r ⟨.ref p,ys.length,rfl,?_,h⟩
   cases b with
   |true=>exact .inl ⟨ys,si e,rfl⟩
   |false=>exact .inr ⟨ys,mI e,rfl⟩
  ·obtain⟨ys,hq,h⟩:=h;exact je pins s σ H _ us Q I r ⟨.ref p,ys.length,rfl,.inr ⟨ys,hq,rfl⟩,h⟩
 |_=>exact (show False from h).elim
def F_:List V->Hp->VK->Prop:=fun xs H Q=>match xs with
 |[.int i,.int j]=>Q (.int (if j<i then j else i)) H
 |_=>False
theorem eW(hc:X.calm=true):aT X (.builtin "min") F_:=by
 intro pins s σ H xs us Q I r h;rcases xs with _|⟨x,_|⟨y,_|⟨z,xs⟩⟩⟩
 ·exact (show False from h).elim
 ·cases x<;>exact (show False from h).elim
 ·cases x with
  |int i=>cases y with
   |int j=>exact tD hc pins s σ H _ us Q I r ⟨i,j,rfl,h⟩
   |_=>exact (show False from h).elim
  |_=>exact (show False from h).elim
 ·cases x with
  |int i=>cases y<;>exact (show False from h).elim
  |_=>exact (show False from h).elim
def yN:List V->Hp->VK->Prop:=fun xs H Q=>match xs with
 |[.int i,.int j]=>Q (.int (if j > i then j else i)) H
 |_=>False
theorem cW(hc:X.calm=true):aT X (.builtin "max") yN:=by
 intro pins s σ H xs us Q I r h;rcases xs with _|⟨x,_|⟨y,_|⟨z,zs⟩⟩⟩
 ·exact (show False from h).elim
 ·cases x<;>exact (show False from h).elim
 ·cases x with
  |int i=>cases y with
   |int j=>exact sR hc pins s σ H _ us Q I r ⟨i,j,rfl,h⟩
   |_=>exact (show False from h).elim
  |_=>exact (show False from h).elim
 ·cases x<;>first|exact (show False from h).elim | (cases y<;>exact (show False from h).elim)
def gD(K:Oe):List V->Hp->VK->Prop:=fun xs H Q=>match xs with
 |[.ref p]=>match sq H p with
  |some (true,ys)=>∀ l,H l=none->Q (.ref l) (upd H l (.tup ys))
  |some (false,_)=>Q (.ref p) H
  |none=>∃ ys,b8 K H p ys/\Q (.ref p) H
 |_=>False
def Gk:List V->Hp->VK->Prop:=fun xs H Q=>match xs with
 |[.int i]=>Q (.int i) H
 |[.bl k]=>Q (.int (if k=true then 1 else 0)) H
 |_=>False
theorem sA:aT X (.type "int") Gk:=by
 intro pins s σ H xs us Q I r h;rcases xs with _|⟨x,_|⟨y,ys⟩⟩
 ·exact (show False from h).elim
 ·cases x with
  |int i=>exact ko pins s σ H _ us Q I r (.inl ⟨i,rfl,h⟩)
  |bl k=>exact ko pins s σ H _ us Q I r (.inr ⟨k,rfl,h⟩)
  |_=>exact (show False from h).elim
 ·cases x<;>exact (show False from h).elim
theorem sY(hc:X.calm=true):aT X (.builtin "sum") (fun xs H Q=>∃(p:Addr) (ns:List Int),xs=[.ref p]/\bS X.K H p (ns.map V.int)/\Q (.int ns.sum) H):=by
 intro pins s σ H xs us Q I r h;obtain⟨p,ns,rfl,hq,q⟩:=h;obtain⟨u,rfl,ru⟩:=vals1 r;cases ru;obtain⟨its,rv,pl,hz⟩:=I.list hq;have hi:=intsAre_of rv;obtain⟨xs,hx⟩:=hi.allInts.items;have hl':s.heap.IsList p (intItems xs):=by rw[<- hx];exact pl.isList
 refine sum_intListG (I.ok.hd hc) hl' fun h' tk t' hk=>?_;have e1:ns=xs.toList.map (·.1):=by rw[<- nums_intItems,<- hx];exact hi.numsOf.symm
 have e2:preSum (numAt xs) xs.size=ns.sum:=by rw[preSum_eq,JX (by simp),e1]
 rw[e2];exact⟨.int ns.sum,H,I.kept hk,⟨_,rfl⟩,q⟩
def Bl(H:Hp):V->Option String
 |.aL=>some "NoneType"
 |.bl _=>some "bool"
 |.int _=>some "int"
 |.str _=>some "str"
 |.ref a=>match H a with
  |some (.lst _)=>some "list"
  |some (.tup _)=>some "tuple"
  |some (.dK _)=>some "dict"
  |_=>none
 |_=>none
theorem C3{x:V}{t:String}(h:Bl H x=some t):fS K H x (.type t):=by
 unfold Bl at h
 split at h
 ·cases h;exact .aL
 ·cases h;exact .bl _
 ·cases h;exact .int _
 ·cases h;exact .str _
 ·split at h
  ·rename_i e;cases h;exact .lst e
  ·rename_i e;cases h;exact .tup e
  ·rename_i e;cases h;exact .dK e
  ·cases h
 ·cases h
def jV(t c:String):Bool:=decide (t=c) || (t == "bool" && c == "int")
theorem wD{t c:String}(ht:t∈["NoneType","bool","int","str","list","tuple","dict"])(hc:c∈["bool","int","str","list","tuple","dict"]):PySem.W.kitOne K (.type t) (.type c)=some (jV t c):=by
 simp only[Jg,KN,M6] at ht hc;rcases ht with rfl|rfl|rfl|rfl|rfl|rfl|rfl<;>rcases hc with rfl|rfl|rfl|rfl|rfl|rfl<;>rfl
theorem BH{x:V}{t:String}(h:Bl H x=some t):t∈["NoneType","bool","int","str","list","tuple","dict"]:=by
 unfold Bl at h
 split at h
 ·cases h;decide
 ·cases h;decide
 ·cases h;decide
 ·cases h;decide
 ·split at h
  ·cases h;decide
  ·cases h;decide
  ·cases h;decide
  ·cases h
 ·cases h
def nX(K:Oe):List V->Hp->VK->Prop:=fun xs H Q=>match xs with
 |[x,.ty T]=>T∈["bool","int","str","list","tuple","dict"]/\match Bl H x with
  |some t=>Q (.bl (jV t T)) H
  |none=>∃ t b,fS K H x t/\PySem.W.kitOne K t (.type T)=some b/\Q (.bl b) H
 |_=>False
theorem sO:aT X (.builtin "isinstance") (nX X.K):=by
 intro pins s σ H xs us Q I r h;rcases xs with _|⟨x,_|⟨y,_|⟨z,xs⟩⟩⟩
 ·exact (show False from h).elim
 ·exact (show False from h).elim
 rotate_left
 ·cases y<;>exact (show False from h).elim
 cases y with
 |ty T =>
  obtain⟨u,w',rfl,r1,r2⟩:=vals2 r;cases r2;obtain⟨hT,h⟩:=h
  split at h
  ·rename_i t e;exact kF I r1 (C3 e) (wD (BH e) hT) fun tk=>⟨.bl _,H,I.tok _,rfl,h⟩
  ·obtain⟨t,b,ty,k,q⟩:=h;exact kF I r1 ty k fun tk=>⟨.bl b,H,I.tok _,rfl,q⟩
 |_=>exact (show False from h).elim
theorem Cp{T:String}(hg:Gl X x)(hm:X.mg x=none)(hv:bootBuiltins x=some (.type T))(hn:x≠"__name__":=by decide)(hd:(x ==("__debug__":Str))=false:=by decide):PE X (.Name x pos) (tC (.ty T)):=zM hg hm hv rfl hn hd
end
section
variable {X:Cx} {o e:Expr} {es:List Expr} {to:TE} {t:TA} {apos cpos:Pos}
end
section
variable {X:Cx} {e:Expr} {te:TE}
end
open AutoSeq1 (wpAny_loadPart')
section
variable {prog:Program} {w:World} {A:Around} {E:Value->Shared->Prop} {s:Shared}
theorem ig{x:Value}(hit:s.heap.IsTupleIter it l i)(hl:s.heap.IsTuple l items)(hx:items[i]?=some x)
  (hQ:∀ h',h'.IsTupleIter it l (i+1)->Heap.SameBut it s.heap h'->Q x {s with heap:=h'}):wpAny (model prog w) A (Builtin.SmallTypes.nextOf (.ref it)) Q E s:=by
 obtain⟨o,ho,hc,hd⟩:=id hit;obtain⟨ol,hol,_,nl,hdl⟩:=hl;unfold Builtin.SmallTypes.nextOf;refine IT (JL (name:=Str.ofString "__next__") hit.typeIs KW (JU KW hit.typeIs MH ?_ (M7 _)));show wpAny _ _ (field (.ref it) 0 >>= _) _ _ s;refine IT (JA ho hd (x:=.ref l) rfl ?_);show wpAny _ _ (if (Value.ref l == Value.none)=true then _ else _) _ _ s
 rw[IY (show ¬ ((Value.ref l == Value.none)=true) from Jd)];show wpAny _ _ (field (.ref it) 1 >>= _) _ _ s;refine IT (JA ho hd (x:=.int i 0) rfl ?_);show wpAny _ _ (seqItems? (.ref l) >>= _) _ _ s;refine IT (K8 hol hdl ?_);simp only[J8,hx];refine IT (LV ho hd (by simp) (IZ ⟨x,rfl,IZ (hQ _ ?_ (K1 ..))⟩))
 exact⟨_,Lz _ ho (Mh (Lr hd _)),(Obj.cls_mapFields ..).trans hc,by rw[Lr hd];simp[rawInt]⟩
theorem ju(hh:A.handled=none)(hit:s.heap.IsTupleIter it l i)(hl:s.heap.IsTuple l items)(hx:items[i]?=none)
  (hE:∀ h' e,Heap.ExtBut it s.heap h'->(∃ o,h'.get? e=some o/\o.cls=.type "StopIteration")->E (.ref e) {s with heap:=h'}):wpAny (model prog w) A (Builtin.SmallTypes.nextOf (.ref it)) Q E s:=by
 obtain⟨o,ho,hc,hd⟩:=id hit;obtain⟨ol,hol,_,nl,hdl⟩:=hl;unfold Builtin.SmallTypes.nextOf;refine IT (JL (name:=Str.ofString "__next__") hit.typeIs KW (JU KW hit.typeIs MH ?_ (M7 _)));show wpAny _ _ (field (.ref it) 0 >>= _) _ _ s;refine IT (JA ho hd (x:=.ref l) rfl ?_);show wpAny _ _ (if (Value.ref l == Value.none)=true then _ else _) _ _ s
 rw[IY (show ¬ ((Value.ref l == Value.none)=true) from Jd)];show wpAny _ _ (field (.ref it) 1 >>= _) _ _ s;refine IT (JA ho hd (x:=.int i 0) rfl ?_);show wpAny _ _ (seqItems? (.ref l) >>= _) _ _ s;refine IT (K8 hol hdl ?_);simp only[J8,hx];refine IT (Lp (IT (LV ho hd (by simp) ?_)))
 show wpAny _ _ (newExc (.type "StopIteration") [] >>= _) _ _ _;refine IT ?_;simp only[newExc,newTuple];refine IT (JP ?_ (by size_fits))
 refine IT (m:=firstArgMember _ _) (wpAny_of_eq (a:=Value.none) (by first|rfl | (simp only[firstArgMember];rfl)) ?_)
 refine JP ?_ (by size_fits)
 simp only[raiseNew];refine IT (wpAny_handled ?_)
 first|rw[show A.in1.handled=none from hh]|rw[hh]
 refine IT (IZ (wpAny_throw ?_));exact hE _ _ (((K1 ..).extBut.push _).push _) ⟨_,Je _ rfl,rfl⟩
theorem d6(hh:A.handled=none)(it l:Addr)(hne:l≠it)(items:Array Value):
  Draws prog w A it [it,l] items.size (fun i v=>items[i]?=some v) (fun i h=>h.IsTupleIter it l i/\h.IsTuple l items) where
 live:=fun _ _ st=>let ⟨o,ho,_⟩:=st.1;⟨o,ho⟩
 frame:=fun _ _ _ st hk=>⟨let ⟨o,e,r⟩:=st.1;⟨o,hk it (by simp) o e,r⟩,let ⟨o,e,r⟩:=st.2;⟨o,hk l (by simp) o e,r⟩⟩
 item:=fun i s Q E hi st hQ=>by
  refine ig st.1 st.2 (x:=items[i]) (by simp[hi]) fun h' hit' hs'=>?_
  exact hQ _ h' s.toks (by simp[hi]) ⟨hit',st.2.extBut hs'.extBut hne⟩ hs'
 done:=fun s Q E st hE=>ju hh st.1 st.2 (by simp) hE
theorem jE(l:Addr)(items:Array Value)(n:Nat)(dct:Option Addr)(sl:Array (Option Value)):
  Meets (Builtin.«enumerate.__new__» ⟨[.type "enumerate",.ref l],[]⟩) (fun _ R s=>s.heap.get? l=some {cls:=.type "tuple",dict:=dct,data:=.seq items n,slots:=sl} /\
   R (.ok (.ret (.ref (s.heap.push {cls:=.type "tuple_iterator",data:=.fields #[.ref l,.int 0 0]}).objs.size)))
    {s with heap:=(s.heap.push {cls:=.type "tuple_iterator",data:=.fields #[.ref l,.int 0 0]}).push {cls:=.type "enumerate",data:=.fields #[.none,.bool false,.ref s.heap.objs.size,rawInt 0,.none,.none]}}):=
 .of_wp fun prog w A R s h=>by
  obtain⟨hp,g,d,tk,os⟩:=s;obtain⟨hl,h⟩:=h;have hsub:=sub_enumerate;have hL:Heap.IsTuple (Shared.heap ⟨hp,g,d,tk,os⟩) l items:=⟨_,hl,rfl,n,rfl⟩;wp_walk using Ls hl;refine wpAny_stack_any fun st=>IZ ?_;split
  ·rename_i c _ _ _ _ _
   cases (c == Value.type "enumerate")<;>(wp_walk using Ls hl,Ka hL;exact⟨_,rfl,h⟩)
  ·wp_walk using Ls hl,Ka hL;exact⟨_,rfl,h⟩
theorem fh(hL:s.heap.IsTuple l items)
  (h:∀ h',IsEnum h' (s.heap.objs.size+1) s.heap.objs.size 0 .none->h'.IsTupleIter s.heap.objs.size l 0->h'.objs.size=s.heap.objs.size+2 ->
   (∀ b o,s.heap.get? b=some o->h'.get? b=some o)->Q (.ref (s.heap.objs.size+1)) {s with heap:=h'}) :
  wpAny (model prog w) A (call (.type "enumerate") [.ref l]) Q E s:=by
 obtain⟨⟨c,dct,dt,sl⟩,hl,hc,n,hd⟩:=hL
 replace hc:c=.type "tuple":=hc
 replace hd:dt=.seq items n:=hd
 subst hc hd;refine callType_new LS (by decide) (F.typeCall_enumerate_1 _) (F.newCall_enumerate_1 _) (fun obj=>F.args_object_init_2 obj _) F.entry_enumerate_new (jE l items n dct sl) ⟨hl,?_⟩
 have hz:(s.heap.push {cls:=.type "tuple_iterator",data:=.fields #[.ref l,.int 0 0]}).objs.size=s.heap.objs.size+1:=Kn ..;show _/\_;rw[hz];have he:IsEnum ((s.heap.push {cls:=.type "tuple_iterator",data:=.fields #[.ref l,.int 0 0]}).push {cls:=.type "enumerate",data:=.fields #[.none,.bool false,.ref s.heap.objs.size,rawInt 0,.none,.none]}) (s.heap.objs.size+1) s.heap.objs.size 0 .none:=by
  have:=Je (s.heap.push {cls:=.type "tuple_iterator",data:=.fields #[.ref l,.int 0 0]}) (o:={cls:=.type "enumerate",data:=.fields #[.none,.bool false,.ref s.heap.objs.size,rawInt 0,.none,.none]}) rfl;rw[hz] at this;exact this
 refine⟨⟨_,he,rfl⟩,h _ he ⟨_,IU _ (Je _ rfl),rfl,rfl⟩ (by rw[Kn,hz]) fun b o x=>IU _ (IU _ x)⟩
end
section
variable {X:Cx} {pins:List (Addr×Obj)} {σ:St} {H:Hp} {s:Shared} {h':Heap}
theorem Inv.turns{t':Nat}(I:Inv X pins σ H s)(hf:∀ b∈fp,jc X pins H b)(k:∀ b o,b∉fp->s.heap.get? b=some o->h'.get? b=some o):Inv X pins σ H {s with heap:=h',toks:=t'}:=by
 have nf:∀ b u,H b=some u->b∉fp:=fun b u e z=>by rw[(hf b z).1] at e;cases e
 refine I.step (g':=s.gens) (d':=s.drawn) (ch:=fp) (fun b hb=>?_) (fun b o _ _ hc e _=>k b o hc e) (fun b o _ _ hc e _=>⟨o.slots,k b o hc e⟩) (fun _ _ _ _ n=>n)
  (fun b o hc e=>⟨o,k b o hc e⟩) (fun _ _ e=>e) (fun _ _ _ e=>e) (fun b ps e=>⟨#[],by rw[e];simp⟩) (fun m hm=>?_) (fun b u e=>?_) I.bare
 ·obtain⟨_,g1,g2,g3,g4,g5⟩:=hf b hb;exact⟨g3,g1,g4,g5⟩
 ·obtain⟨o,es,ep,ho,r⟩:=hm;exact⟨o,es,ep,k _ o (fun z=>(hf _ z).2.1 rfl) ho,r⟩
 ·refine (I.aO b u e).iL (fun c v hc q=>k c v ?_ q) (fun _ q=>q) (fun _ _ q=>q) fun _ _ _ q=>q;rcases hc with z|z
  ·rw[z];exact nf b u e
  ·exact nf c _ z
theorem Inv.iy{t':Nat}(I:Inv X pins σ H s)(hf:∀ b∈fp,jc X pins H b)(hp:s.heap.objs.size<=p)(k:∀ b o,b∉fp->s.heap.get? b=some o->h'.get? b=some o)
  (new:aJ X.prog X.w (upd H p o) h' p o):Inv X pins σ (upd H p o) {s with heap:=h',toks:=t'}:=by
 have nf:∀ b u,H b=some u->b∉fp:=fun b u e z=>by rw[(hf b z).1] at e;cases e
 have fr:H p=none:=I.aO.fresh hp;have np:∀ b u,H b=some u->b≠p:=fun b u e=>ax e fr;have ne:∀ b o,s.heap.get? b=some o->b≠p:=fun b o e z=>by rw[z] at e;exact absurd (Ju (Jc e) hp) (Ku _)
 refine I.step (g':=s.gens) (d':=s.drawn) (ch:=fp) (fun b hb=>?_) (fun b o _ _ hc e _=>k b o hc e) (fun b o _ _ hc e _=>⟨o.slots,k b o hc e⟩) (fun b o _ e n=>by rw[af (ne b o e)];exact n)
  (fun b o hc e=>⟨o,k b o hc e⟩) (fun b xs e=>by rw[af (np b _ e)];exact e) (fun b o u e=>by rw[af (np b _ e)];exact e) (fun b ps e=>⟨#[],by rw[af (np b _ e),e];simp⟩) (fun m hm=>?_) (fun b u e=>?_) I.bare
 ·obtain⟨_,g1,g2,g3,g4,g5⟩:=hf b hb;exact⟨g3,g1,g4,g5⟩
 ·obtain⟨o,es,ep,ho,r⟩:=hm;exact⟨o,es,ep,k _ o (fun z=>(hf _ z).2.1 rfl) ho,r⟩
 ·by_cases hb:b=p
  ·subst hb;rw[ai] at e;cases e;exact new
  ·rw[af hb] at e;refine (I.aO b u e).iL (fun c v hc q=>k c v ?_ q) (fun c q=>by rw[af (np c _ q)];exact q) (fun c xs q=>by rw[af (np c _ q)];exact q) fun c _ _ q=>by rw[af (np c _ q)];exact q
   rcases hc with z|z
   ·rw[z];exact nf b u e
   ·exact nf c _ z
end
def ER(K:Oe)(a:Addr):Nat->Hp->V->Prop:=fun i H x=>∃ xs,b8 K H a xs/\xs[i]?=some x
def Fu(K:Oe)(a:Addr):Nat->Hp->Prop:=fun i H=>∃ xs,b8 K H a xs/\xs.length=i
def yA(K:Oe)(a:Addr):It:=
 ⟨fun i H=>∃ x,ER K a i H x,fun i H x H'=>∃ p y,(∀ xs,b8 K H a xs->xs[i]?=some y)/\H p=none/\x=.ref p/\H'=upd H p (.tup [.int i,y]),Fu K a⟩
theorem qp{tk:Nat}(a it e:Addr)(hne:e≠it):Turn P w K (.Tuple es tk tp) (yA K a) [e,it] e (fun i h=>(∃ old,IsEnum h e it i old)/\h.IsTupleIter it a i) where
 mem:=by simp
 obj:=fun i h st b hb=>by
  obtain⟨⟨old,he⟩,o,eo,c,d⟩:=st;rcases Jg.mp hb with z|z
  ·subst z;exact⟨_,he,fun v z=>by cases z⟩
  ·have z:b=it:=by simpa using z
   subst z;exact⟨o,eo,fun v z=>by rw[d] at z;cases z⟩
 keep:=fun i h h' st k=>by
  obtain⟨⟨old,he⟩,o,eo,r⟩:=st;exact⟨⟨old,k e (by simp) _ he⟩,o,k it (by simp) o eo,r⟩
 item:=by
  intro X hP hw hK hc i pins s σ H E I hf st hg;subst hP hw hK;obtain⟨x,xs,hq,hx⟩:=hg;obtain⟨⟨old,he⟩,hit⟩:=st;obtain⟨its,rv,p,hz⟩:=I.tuple hq;obtain⟨u,hu,ru⟩:=rv.get hx;obtain⟨g0,g1,g2,g3,g4,g5⟩:=hf e (by simp)
  obtain⟨f0,f1,f2,f3,f4,f5⟩:=hf it (by simp)
  have ht:s.heap.IsTuple a its.toArray:=p;have ha:a≠it:=by
   rintro rfl;obtain⟨o,e1,c1,_⟩:=hit;obtain⟨o',e2,c2,_⟩:=ht;rw[e1] at e2;cases e2;rw[c1] at c2;exact absurd (Value.type.inj c2) (by decide)
  have hea:e≠a:=by
   rintro rfl;obtain⟨o',e2,c2,_⟩:=ht;have e1:s.heap.get? e=some _:=he;rw[e1] at e2;cases e2;exact absurd (Value.type.inj c2) (by decide)
  have hi:i<its.toArray.size:=by
   have:=(Ji.mp hu).1
   simpa using this
  refine Ny (d6 (A:=X.A.in1) (I.ok.hd hc) it a ha its.toArray) he ⟨hit,ht⟩ hi hne (by simp[hne,hea]) fun x' h' tk' hP ho hs' hT hsz hk=>?_
  have ex:x'=u:=by
   have hP':its.toArray[i]?=some x':=hP;rw[Ko,hu] at hP';exact (Option.some.inj hP').symm
  subst ex;refine⟨.ref s.heap.objs.size,rfl,MO ho fun h2 he2 hs2=>?_⟩;have fr:H s.heap.objs.size=none:=I.aO.fresh (Jb _);have hle:e≠s.heap.objs.size:=Jq (Jc he);have hT2:h2.get? s.heap.objs.size=some {cls:=.type "tuple",data:=.seq #[.int i tk',x']}:=(hs2.2 _ (Ne.symm hle)).trans hT;have I2:Inv X pins σ (upd H s.heap.objs.size (.tup [.int i,x])) {s with heap:=h2,toks:=tk'+1}:=by
   refine I.iy (fp:=[e,it]) hf (Jb _) (fun b o hb eb=>?_) ⟨by show 2<=sizeLine;decide,[.int i tk',x'],.cons ⟨_,rfl⟩ (.cons ru .nil),⟨_,hT2,rfl,_,rfl,rfl⟩⟩
   have n1:b≠e:=fun z=>hb (by simp[z])
   have n2:b≠it:=fun z=>hb (by simp[z])
   exact (hs2.2 b n1).trans (hk b o n1 n2 eb)
  refine⟨.ref s.heap.objs.size,_,I2,rfl,⟨s.heap.objs.size,x,fun ys hy=>by rw[I.eV hy hq];exact hx,fr,rfl,rfl⟩,⟨⟨x',?_⟩,?_⟩,fun b hb=>?_⟩
  ·have e:(((i+1:Nat)):Int)=(i:Int)+1:=by lia
   rw[e];exact he2
  ·obtain⟨o,e1,r⟩:=hs'.1;exact⟨o,(hs2.2 it (Ne.symm hne)).trans e1,r⟩
  ·have n:b≠s.heap.objs.size:=by
    rcases Jg.mp hb with z|z
    ·subst z;exact hle
    ·have z:b=it:=by simpa using z
     subst z;obtain⟨o,e1,_⟩:=hit;exact Jq (Jc e1)
   rw[af n];exact (hf b hb).1
 done:=by
  intro X hP hw hK hc i pins s σ H E I hf st hg;subst hP hw hK;obtain⟨xs,hq,hx⟩:=hg;obtain⟨⟨old,he⟩,hit⟩:=st;obtain⟨its,rv,p,hz⟩:=I.tuple hq;have ht:s.heap.IsTuple a its.toArray:=p;have ha:a≠it:=by
   rintro rfl;obtain⟨o,e1,c1,_⟩:=hit;obtain⟨o',e2,c2,_⟩:=ht;rw[e1] at e2;cases e2;rw[c1] at c2;exact absurd (Value.type.inj c2) (by decide)
  have hl:=rv.length;have hsz:its.toArray.size=i:=by simp;lia
  refine NC (d6 (A:=X.A.in1) (I.ok.hd hc) it a ha its.toArray) he (by rw[hsz];exact⟨hit,ht⟩) fun h' eb=>⟨rfl,?_⟩
  exact I.turns (t':=s.toks) hf fun b o hb e1=>eb b o (fun z=>hb (by simp[z])) e1
 self:=fun A i s Q E st h=>by
  obtain⟨⟨old,he⟩,_⟩:=st;exact Ly he h
section
variable {X:Cx} {es:List Expr} {tk:Nat} {tp:Pos}
def Bm(K:Oe)(ta:TA):TI:=fun σ H R=>ta σ H fun vs H1=>∃ a,vs=[.ref a]/\(∃ xs,b8 K H1 a xs)/\R (yA K a) H1
theorem zV{p:Pos}(hg:Gl X "enumerate")(hm:X.mg "enumerate"=none)(ha:PA X [e] ta)(h1:cN e=true:=by rfl)(hv:bootBuiltins "enumerate"=some (.type "enumerate"):=by decide +kernel):
  PI X (.Tuple es tk tp) (.Call (.Name "enumerate" p) [e] [] pos) (Bm X.K ta):=by
 intro pins s σ H R I h;refine Call_ (dw I hg hm hv (JZ (b9 (ha pos pins s σ H _ I h) fun us s1 ⟨vs,H1,I1,r1,q1⟩=>?_) (cA h1) rfl));obtain⟨a,e,⟨xs,hq⟩,q⟩:=q1;subst e;obtain⟨u,rfl,ru⟩:=vals1 r1;cases ru;obtain⟨its,rv,pt,hz⟩:=I1.tuple hq;refine fh (show s1.heap.IsTuple a its.toArray from pt) fun h' he hit hsz hk=>?_;refine Ly he ?_;have I2:Inv X pins σ H1 {s1 with heap:=h'}:=I1.kept (t':=s1.toks) hk
 refine⟨s1.heap.objs.size+1,[s1.heap.objs.size+1,s1.heap.objs.size],_,_,H1,rfl,I2,qp a s1.heap.objs.size (s1.heap.objs.size+1) (Kf (Mc _)),⟨⟨_,he⟩,hit⟩,fun b hb=>?_,q⟩;have hb':s1.heap.objs.size<=b:=by
  rcases Jg.mp hb with z|z
  ·rw[z];exact Kw _
  ·have z:b=s1.heap.objs.size:=by simpa using z
   rw[z];exact Jb _
 exact I1.m_ hb' (I1.aO.fresh hb')
end
def FQ(J:It)(g:TG)(tb:TS)(D:Ends)(σ:St)(H:Hp):Prop:=∃ W:Nat->Nat->St->Hp->Prop,(∃ m,W 0 m σ H)/\∀ i m σ H,W i m σ H ->
 (J.stop i H/\D.nx σ H)\/(J.go i H/\∃ N:St->Hp->Prop,(∀ σ' H',N σ' H'->∃ m',m'<m/\W (i+1) m' σ' H')/\∀ x H',J.AX i H x H'->g x σ H' fun σ2 H2=>tb {D with nx:=N,ct:=N,bk:=D.nx} σ2 H2)
theorem yh(wi:TI)(g:TG)(tb:TS)(D:Ends)(σ:St)(H:Hp):Bs wi g tb D σ H=wi σ H fun J H1=>FQ J g tb D σ H1:=rfl
def x3(J:It)(k:Nat)(g:TG)(tc:TT)(te:TE)(Q:VK)(σ:St)(H1:Hp):Prop:=∀ D,H1 D=none ->
 ∃ W:Nat->Nat->List V->St->Hp->Prop,(∃ m,W 0 m [] (List.replicate k none++σ) (upd H1 D (.lst [])))/\∀ i m ys σ' H',W i m ys σ' H'->H' D=some (.lst ys) /\
  ((J.stop i H'/\Q (.ref D) H')\/(J.go i H'/\ys.length<sizeLine/\∀ x H2,J.AX i H' x H2->g x σ' H2 fun σ3 H3=>tc σ3 H3 fun b H4 =>
   if b=true then te σ3 H4 fun v H5=>H5 D=some (.lst ys)/\∃ m',m'<m/\W (i+1) m' (ys++[v]) σ3 (upd H5 D (.lst (ys++[v])))
   else ∃ m',m'<m/\W (i+1) m' ys σ3 H4))
theorem wM(wi:TI)(k:Nat)(g:TG)(tc:TT)(te:TE)(σ:St)(H:Hp)(Q:VK):iK wi k g tc te σ H Q=wi σ H fun J H1=>x3 J k g tc te Q σ H1:=rfl
section
variable {K:Oe} {g:TG} {tb:TS} {D:Ends} {σ:St} {H:Hp} {te:TE} {Q:VK}
end
namespace Ap
theorem gu(i:Nat)(σ:St)(H:Hp)(Q:VK):L2.gu i σ H Q=∃ v,σ[i]?=some (some v)/\Q v H:=rfl
theorem tC(v:V)(σ:St)(H:Hp)(Q:VK):L2.tC v σ H Q=Q v H:=rfl
theorem pE(r:R2)(ta tb:TE)(σ:St)(H:Hp)(Q:VK):L2.pE r ta tb σ H Q=ta σ H fun x H1=>tb σ H1 fun y H2=>r x y H2 Q:=rfl
theorem fu(t:TE)(σ:St)(H:Hp)(Q:Bool->Hp->Prop):L2.fu t σ H Q=t σ H fun x H'=>∃ k,x=.bl k/\Q k H':=rfl
theorem DW(t:TT)(ta tb:TE)(σ:St)(H:Hp)(Q:VK):L2.DW t ta tb σ H Q=t σ H fun c H1=>if c=true then ta σ H1 Q else tb σ H1 Q:=rfl
theorem mG(t u:TT)(σ:St)(H:Hp)(Q:Bool->Hp->Prop):L2.mG t u σ H Q=t σ H fun c H1=>if c=true then u σ H1 Q else Q false H1:=rfl
theorem DL(t u:TT)(σ:St)(H:Hp)(Q:Bool->Hp->Prop):L2.DL t u σ H Q=t σ H fun c H1=>if c=true then Q true H1 else u σ H1 Q:=rfl
theorem w8(t:TT)(σ:St)(H:Hp)(Q:Bool->Hp->Prop):L2.w8 t σ H Q=t σ H fun c H1=>Q (!c) H1:=rfl
theorem iI(σ:St)(H:Hp)(Q:List V->Hp->Prop):L2.iI σ H Q=Q [] H:=rfl
theorem er(ta:TE)(tr:TA)(σ:St)(H:Hp)(Q:List V->Hp->Prop):L2.er ta tr σ H Q=ta σ H fun x H1=>tr σ H1 fun xs H2=>Q (x::xs) H2:=rfl
theorem iC(sp:Sp)(dvs:List V)(E:XK)(t:TA)(σ:St)(H:Hp)(Q:VK):L2.iC sp dvs E t σ H Q=t σ H fun vs H1=>sp (vs++dvs) H1 Q E:=rfl
theorem uq(r:List V->Hp->VK->Prop)(t:TA)(σ:St)(H:Hp)(Q:VK):L2.uq r t σ H Q=t σ H fun vs H1=>r vs H1 Q:=rfl
theorem t7(t u:TS)(D:Ends)(σ:St)(H:Hp):L2.t7 t u D σ H=t {D with nx:=u D} σ H:=rfl
theorem iD(te:TE)(g:TG)(D:Ends)(σ:St)(H:Hp):L2.iD te g D σ H=te σ H fun x H1=>g x σ H1 D.nx:=rfl
theorem cD(i:Nat)(v:V)(σ:St)(H:Hp)(Q:St->Hp->Prop):L2.cD i v σ H Q=Q (σ.set i (some v)) H:=rfl
theorem mT(K:Oe)(n:Nat)(t:o_)(v:V)(σ:St)(H:Hp)(Q:St->Hp->Prop):L2.mT K n t v σ H Q=∃ a xs,v=.ref a/\b8 K H a xs/\xs.length=n/\t xs σ H Q:=rfl
theorem eG(t:TG)(u:o_)(v:V)(vs:List V)(σ:St)(H:Hp)(Q:St->Hp->Prop):L2.eG t u (v::vs) σ H Q=t v σ H fun σ' H'=>u vs σ' H' Q:=by
 refine propext ⟨fun⟨a,b,e,h⟩=>?_,fun h=>⟨v,vs,rfl,h⟩⟩
 cases e;exact h
theorem n5(σ:St)(H:Hp)(Q:St->Hp->Prop):L2.n5 [] σ H Q=Q σ H:=propext ⟨fun h=>h.2,fun h=>⟨rfl,h⟩⟩
theorem xy(te:TE)(D:Ends)(σ:St)(H:Hp):L2.xy te D σ H=te σ H D.rt:=rfl
theorem xp(c:TT)(t u:TS)(D:Ends)(σ:St)(H:Hp):L2.xp c t u D σ H=c σ H fun b H1=>if b=true then t D σ H1 else u D σ H1:=rfl
theorem nF(D:Ends)(σ:St)(H:Hp):L2.nF D σ H=D.nx σ H:=rfl
theorem qE(g:Int->Int->V)(i j:Int)(H:Hp)(Q:VK):L2.qE g (.int i) (.int j) H Q=Q (g i j) H:=by
 refine propext ⟨fun⟨a,b,e1,e2,h⟩=>?_,fun h=>⟨i,j,rfl,rfl,h⟩⟩
 cases e1;cases e2;exact h
theorem GW(i j:Int)(H:Hp)(Q:VK):DZ (.int i) (.int j) H Q=Q (.bl (decide (i=j))) H:=by
 have e:decide (V.int i=V.int j)=decide (i=j):=by rw[Kj];constructor<;>intro h<;>(try cases h)<;>(try rw[h])<;>rfl
 unfold DZ;rw[e];exact propext ⟨fun h=>h.2,fun h=>⟨rfl,h⟩⟩
theorem HW(i j:Int)(H:Hp)(Q:VK):BK (.int i) (.int j) H Q=Q (.bl (!decide (i=j))) H:=by
 have e:decide (V.int i=V.int j)=decide (i=j):=by rw[Kj];constructor<;>intro h<;>(try cases h)<;>(try rw[h])<;>rfl
 unfold BK;rw[e];exact propext ⟨fun h=>h.2,fun h=>⟨rfl,h⟩⟩
theorem Ht(K:Oe)(b:Bool)(H:Hp)(k:Bool):su K (.bl b) H k=(k=b):=rfl
theorem GS(K:Oe)(i:Int)(H:Hp)(k:Bool):su K (.int i) H k=(k=(i != 0)):=rfl
end Ap
def KB(ex:List Addr)(H H':Hp):Prop:=∀ b o,H b=some o->b∉ex->H' b=some o
theorem KB.trans{H2:Hp}(a:KB ex H H1)(b:KB ex H1 H2):KB ex H H2:=fun c o e n=>b c o (a c o e n) n
theorem KB.new(h:H p=none):KB ex H (upd H p o):=fun b u e _=>by rw[af (ax e h)];exact e
theorem EJ(x:α)(r:List α):cc (x::r) 0=some x:=cB (j:=0) rfl
theorem EG(a x:α)(r:List α):cc (a::x::r) 1=some x:=cB (j:=1) rfl
theorem EY(a b x:α)(r:List α):cc (a::b::x::r) 2=some x:=cB (j:=2) rfl
theorem Ep(a b c x:α)(r:List α):cc (a::b::c::x::r) 3=some x:=cB (j:=3) rfl
theorem Dj{i:Int}(h0:0<=i)(h:i<n):jT n i=some i.toNat:=by unfold jT;rw[Ja h0,Ja h]
namespace Ap
theorem Gj(K:Oe)(p:Addr)(i:Int)(H:Hp)(Q:VK):DJ K (.ref p) (.int i) H Q=(match sq H p with
  |some (_,xs)=>(match cc xs i with|some v=>Q v H|none=>False)
  |none=>∃ xs v,b8 K H p xs/\cc xs i=some v/\Q v H):=rfl
theorem setRef(p:Addr)(k:Int)(v:V)(H:Hp)(Q:Hp->Prop):xk (.ref p) (.int k) v H Q=(match H p with
  |some (.lst xs)=>(match jT xs.length k with|some j=>Q (upd H p (.lst (xs.set j v)))|none=>False)
  |_=>False):=rfl
theorem Cm(K:Oe)(p:Addr)(H:Hp)(Q:VK):y8 K [.ref p] H Q=(match sq H p with
  |some (_,ys)=>Q (.int ys.length) H
  |none=>∃ ys,b8 K H p ys/\Q (.int ys.length) H):=rfl
theorem FN(i j:Int)(H:Hp)(Q:VK):yN [.int i,.int j] H Q=Q (.int (if j > i then j else i)) H:=rfl
theorem zO(H:Hp)(p:Addr)(o:HO):upd H p o p=some o:=ai
end Ap
theorem vW{t u:TS}(h:∀ N,N=u D->t {D with nx:=N} σ H):t7 t u D σ H:=h _ rfl
structure QE (X:Cx) (e:Expr) (t:TE):Prop where h:PE X e t
structure QT (X:Cx) (e:Expr) (t:TT):Prop where h:PT X e t
structure QW (X:Cx) (e:Expr) (t:TT):Prop where h:PW X e t
structure QA (X:Cx) (es:List Expr) (t:TA):Prop where h:PA X es t
structure QS (X:Cx) (st:Stmt) (t:TS):Prop where h:PS X st t
structure QB (X:Cx) (sts:List Stmt) (t:TS):Prop where h:oC X sts t
structure QI (X:Cx) (tg it:Expr) (t:TI):Prop where h:PI X tg it t
structure QG (X:Cx) (e:Expr) (t:TG):Prop where h:PG X e t
structure Ef (X:Cx) (es:List Expr) (t:o_):Prop where h:DD X es t
structure QO (X:Cx) (e:Option Expr) (t:TO):Prop where h:PO X e t
structure DM (X:Cx) (es:List Expr) (t:TT):Prop where h:DF X es t
namespace Z
def sim(b:Expr):Bool:=match b with
 |.Name .. |.Constant .. |.Call .. |.BinOp .. |.Subscript .. |.Attribute .. |.UnaryOp .. |.Compare .. |.IfExp ..=>true
 |_=>false
theorem Ih(h:sim b=true):sj b:=by
 cases b<;>first | (intro _ _;rfl)|cases h
def G9(b:Expr):Bool:=match b with
 |.Name .. |.Call .. |.Subscript .. |.Attribute ..=>true
 |_=>false
theorem ptr(h:G9 b=true):∀ whole,isTrue b env whole=(do let v <- whole;standAt b.pos;holding [v] (truthy v)):=by
 cases b<;>first | (intro _;rfl)|cases h
def AR(b:Expr):Bool:=match b with
 |.ListComp .. |.SetComp .. |.DictComp ..=>false
 |_=>true
theorem Ip{tg:Option Expr}{l:Nat}(h:AR b=true):swapsWith b tg l env=pure false:=by
 cases b<;>first|rfl|cases h
section
variable {X:Cx}
theorem AI(K:Oe)(hK:X.K=K):cT X (binaryOp .Add) (gg K):=by subst hK;exact zz
theorem yT(K:Oe)(hK:X.K=K){k:Nat}(hu:k<cLine):qV X (DJ K):=by subst hK;exact IG hu
theorem EK(K:Oe)(hK:X.K=K):aT X (.builtin "len") (y8 K):=by subst hK;exact uf
theorem E1(K:Oe)(hK:X.K=K):aT X (.builtin "isinstance") (nX K):=by subst hK;exact sO
end
section
variable {X:Cx} {a b c e o:Expr} {es:List Expr} {ta tb tc te to:TE} {t:TA} {pos p p2:Pos} {tA tB':TT} {rest:List Expr} {x:Str}
theorem int{i:Int}:QE X (.Constant (.int i) j pos) (tC (.int i)):=⟨gj⟩
theorem bl{i:Bool}:QE X (.Constant (.bool i) j pos) (tC (.bl i)):=⟨vc⟩
theorem aL:QE X (.Constant .none j pos) (tC .aL):=⟨vb⟩
theorem str{i:Str}:QE X (.Constant (.str i) j pos) (tC (.str i)):=⟨vH⟩
theorem v(i:Nat)(hN:X.N[i]?=some x:=by rfl)(hv:C1 X.env.scope x:=by first|exact Or.inl rfl|exact Or.inr (Or.inl rfl)|exact Or.inr (Or.inr rfl))(hd:(x ==("__debug__":Str))=false:=by decide)
  (hcd:(x ==("__classdict__":Str))=false:=by decide):QE X (.Name x pos) (gu i):=⟨pv i hN hv hd hcd⟩
theorem op{o:Operator}{r:R2}(ho:cT X (binaryOp o) r)(ha:QE X a ta)(hb:QE X b tb):QE X (.BinOp a o b pos) (pE r ta tb):=⟨EW ho ha.h hb.h⟩
theorem un{o:UnaryOp}{r:V->Hp->VK->Prop}(ho:GI X (unaryOp o) r)(ha:QE X a ta):QE X (.UnaryOp o a pos) (Iq r ta):=⟨AK ho ha.h⟩
theorem cmp{o:CmpOp}{r:R2}(ho:cT X (compareOp o) r)(ha:QE X a ta)(hb:QE X b tb)(hm:behindInMarks o b=false:=by rfl):QE X (.Compare a [o] [b] pos) (pE r ta tb):=⟨yE ho ha.h hb.h hm⟩
theorem and(ha:QE X a ta)(hb:QE X (.BoolOp .And (b::rest) pos) tb):QE X (.BoolOp .And (a::b::rest) pos) (A2 ta tb):=⟨BU ha.h hb.h⟩
theorem one{o:BoolOp}(ha:QE X a ta):QE X (.BoolOp o [a] pos) ta:=⟨Bt ha.h⟩
theorem IM(hc:QT X c tA)(ha:QE X a ta)(hb:QE X b tb):QE X (.IfExp c a b pos) (DW tA ta tb):=⟨xw hc.h ha.h hb.h⟩
theorem slice{r:V->Option Int->Option Int->Hp->VK->Prop}{tl th:TO}(hr:uv X r)(he:QE X e te)(hl:QO X lo tl)(hu:QO X hi th):QE X (.Subscript e (.Slice lo hi none p2) pos) (Ii r te tl th):=⟨uX hr he.h hl.h hu.h⟩
theorem kN:QO X none rR:=⟨i7⟩
theorem kA(he:QE X e te):QO X (some e) (AU te):=⟨i5 he.h⟩
theorem ix{r:R2}(hr:qV X r)(ha:QE X a ta)(hb:QE X b tb)(hs:sim b=true:=by rfl):QE X (.Subscript a b pos) (pE r ta tb):=⟨AN hr ha.h hb.h (Ih hs)⟩
theorem tup{k:Nat}(h:QA X es t):QE X (.Tuple es k pos) (Gi t):=⟨CZ h.h⟩
theorem lst(h:QA X es t):QE X (.List es pos) (Fj t):=⟨C4 h.h⟩
theorem nil:QA X [] iI:=⟨vO⟩
theorem cons(ha:QE X e te)(hr:QA X es t)(h:cN e=true:=by rfl):QA X (e::es) (er te t):=⟨GY ha.h hr.h h⟩
theorem consts(h:kQ es=some vs):QA X es (tK vs):=⟨kR h⟩
theorem cb{id:String}(hc:aT X (.builtin id) r)(hg:Gl X x)(hm:X.mg x=none)(hv:bootBuiltins x=some (.builtin id))(ha:QA X (e::es) t)(h1:cN e=true:=by rfl)(h2:es.all cN=true:=by rfl)(hn:x≠"__name__":=by decide)(hdb:(x ==("__debug__":Str))=false:=by decide):
  QE X (.Call (.Name x p) (e::es) [] pos) (uq r t):=⟨FK hc hg hm hv ha.h h1 h2 hn hdb⟩
theorem ct{T:String}(hc:aT X (.type T) r)(hg:Gl X x)(hm:X.mg x=none)(hv:bootBuiltins x=some (.type T))(ha:QA X (e::es) t)(h1:cN e=true:=by rfl)(h2:es.all cN=true:=by rfl)(hn:x≠"__name__":=by decide)(hdb:(x ==("__debug__":Str))=false:=by decide):
  QE X (.Call (.Name x p) (e::es) [] pos) (uq r t):=⟨Ec hc hg hm hv ha.h h1 h2 hn hdb⟩
theorem Iw{T:String}(hg:Gl X x)(hm:X.mg x=none)(hv:bootBuiltins x=some (.type T))(hn:x≠"__name__":=by decide)(hd:(x ==("__debug__":Str))=false:=by decide):QE X (.Name x pos) (tC (.ty T)):=⟨Cp hg hm hv hn hd⟩
theorem fn{CX:mC}{k:Nat}{E:XK}(F:ah X.prog X.w X.K X.mg X.base CX k x ps sp)(hr:bU k X.A)(hg:Gl X x)(hx:Passes CX X E)(ha:QA X (e::es) t)(h1:cN e=true:=by rfl)(h2:es.all cN=true:=by rfl)(hdb:(x ==("__debug__":Str))=false:=by decide):
  QE X (.Call (.Name x p) (e::es) [] pos) (iC sp [] E t):=⟨Ea F hr hg hx ha.h h1 h2 hdb⟩
theorem bm(K:Oe)(hK:X.K=K){apos:Pos}{T id:String}{r:V->List V->Hp->VK->Prop}(pa:PlainAttrs T)(slot:Slot T name id)(hty:typeOf (.builtin id)=pure (.type "method_descriptor"))(hm:FH X id r)(ho:QE X o to)(ha:QA X (e::es) t)
  (hbase:attributeBase o name X.env (eval o X.env)=eval o X.env:=by rfl) (hline:(apos.endLine == pos.line)=true:=by rfl) (h:(e::es).all cN=true:=by rfl) (hl:(e::es).length<30:=by decide):QE X (.Call (.Attribute o name apos) (e::es) [] pos) (HQ K T r to t):=by
 subst hK;exact⟨B8 pa slot hty hm ho.h ha.h hbase hline h hl⟩
theorem comp{own:List Str}{g:TG}{tc:TT}(S:cI osc ON scope own N)(hosc:X.env.scope=osc)(hON:X.N=ON)(hc:X.calm=true)(hi:QI X tg iter wi)
  (hg:∀ C s H fp,QG (aM X scope N C s H fp) tg g) (ht:∀ C s H fp,DM (aM X scope N C s H fp) ifs tc) (he:∀ C s H fp,QE (aM X scope N C s H fp) elt te) (hs:∀ x,foldedSetIterable iter X.env x=pure x:=by intro _;rfl) :
  QE X (.ListComp elt [⟨tg,iter,ifs,0⟩] scope pos) (iK wi own.length g tc te):=⟨yi S hosc hON hc hi.h (fun C s H fp=>(hg C s H fp).h) (fun C s H fp=>(ht C s H fp).h) (fun C s H fp=>(he C s H fp).h) hs⟩
theorem cx{o:CmpOp}{r:R2}(ho:cT X (compareOp o) r)(ha:QE X a ta)(hb:QE X b tb)(hm:behindInMarks o b=false:=by rfl):QT X (.Compare a [o] [b] pos) (fu (pE r ta tb)):=⟨zP ho ha.h hb.h hm⟩
theorem mh{o o':CmpOp}{r:R2}(ho:cT X (compareOp o) r)(ho':cT X (compareOp o') r')(ha:QE X a ta)(hb:QE X b tb)(hc:QE X c tc)(hm:lastMarks [o,o'] [b,c]=false:=by with_unfolding_all rfl):QT X (.Compare a [o,o'] [b,c] pos) (fu (oF r r' ta tb tc)):=⟨w4 ho ho' ha.h hb.h hc.h hm⟩
theorem tw(h:QW X e tA):QT X e tA:=⟨h.h.pt⟩
theorem lu(ha:QT X a tA):QT X (.UnaryOp .Not a pos) (w8 tA):=⟨Cy ha.h⟩
def yr(K:Oe)(ta:TE):TT:=fun σ H Q=>ta σ H fun x H'=>∃ k,su K x H' k/\Q k H'
theorem yw(K:Oe)(hK:X.K=K)(ha:QE X a ta)(he:G9 a=true:=by rfl):QT X a (yr K ta):=by subst hK;exact⟨vd ha.h (ptr he)⟩
theorem kB(ha:QT X a tA):QW X (.BoolOp .And [a] pos) tA:=⟨zp ha.h⟩
theorem p0(ha:QT X a tA):QW X (.BoolOp .Or [a] pos) tA:=⟨Cf ha.h⟩
theorem mQ(ha:QT X a tA)(hb:QW X (.BoolOp .And (b::rest) pos) tB'):QW X (.BoolOp .And (a::b::rest) pos) (mG tA tB'):=⟨CP ha.h hb.h⟩
theorem An(ha:QT X a tA)(hb:QW X (.BoolOp .Or (b::rest) pos) tB'):QW X (.BoolOp .Or (a::b::rest) pos) (DL tA tB'):=⟨Fb ha.h hb.h⟩
theorem aP(hN:X.N.Nodup)(hi:X.N[i]?=some x)(hx:Loc X.env.scope x)(hf:X.fn x=true\/X.env.scope.names.lookup x=some .local:=by first|exact .inl rfl|exact .inr rfl|assumption):QG X (.Name x pos) (cD i):=⟨yy hN hi hx hf⟩
theorem nR(K:Oe)(hK:X.K=K){k:Nat}{tg:o_}(hc:X.calm=true)(h:Ef X es tg)(hn:(assignEach es X.env).length=n:=by rfl)(hst:(assignEach es X.env).findIdx? (·.1)=none:=by rfl):QG X (.Tuple es k pos) (mT K n tg):=by subst hK;exact⟨yc hc h.h hn hst⟩
theorem d9:Ef X [] n5:=⟨zH⟩
theorem bg{g:TG}{u:o_}(h1:QG X e g)(h2:Ef X es u)(hs:(assignEach (e::es) X.env).map (·.2)=assign e X.env::(assignEach es X.env).map (·.2):=by rfl):Ef X (e::es) (eG g u):=⟨vR h1.h h2.h hs⟩
theorem gG{i:Expr}{ti:TE}(ho:QE X o to)(hi:QE X i ti)
  (ha:∀ v,assign (.Subscript o i pos) X.env v=(do
   let ov <- holding [v] (eval o X.env)
   let iv <- holding [v,ov] (eval i X.env)
   standAt pos
   holding [v,ov,iv] (setItem ov iv v)
   release [v,ov,iv] []):=by intro _;rfl):QG X (.Subscript o i pos) (Ei to ti xk):=⟨BF ho.h hi.h uset ha⟩
theorem pA{ta:TA}(hg:Gl X "range")(hm:X.mg "range"=none)(ha:QA X [a] ta)(h:cN a=true:=by rfl):QI X tg (.Call (.Name "range" p) [a] [] pos) (xX ta):=⟨oJ hg hm ha.h h⟩
theorem CI{ta:TA}(hg:Gl X "range")(hm:X.mg "range"=none)(ha:QA X [a,b] ta)(h:cN a=true:=by rfl)(h2:cN b=true:=by rfl):QI X tg (.Call (.Name "range" p) [a,b] [] pos) (xO ta):=⟨pM hg hm ha.h h h2⟩
theorem enum(K:Oe)(hK:X.K=K){k:Nat}{ta:TA}(hg:Gl X "enumerate")(hm:X.mg "enumerate"=none)(ha:QA X [e] ta)(h1:cN e=true:=by rfl):QI X (.Tuple es k tp) (.Call (.Name "enumerate" p) [e] [] pos) (Bm K ta):=by subst hK;exact⟨zV hg hm ha.h h1⟩
theorem tG:DM X [] A6:=⟨Aq⟩
theorem Gy(h:QT X c tA):DM X [c] tA:=⟨y3 h.h⟩
end
section
variable {X:Cx} {e o tg:Expr} {te to:TE} {st:Stmt} {sts xs ys:List Stmt} {t u:TS} {pos pos':Pos} {x:Str}
theorem dm:QB X [] nF:=⟨yp⟩
theorem aQ(h:QS X st t):QB X [st] t:=⟨yz h.h⟩
theorem ae(h:QS X st t)(h2:QB X sts u):QB X (st::sts) (t7 t u):=⟨xB h.h h2.h⟩
theorem set(hN:X.N.Nodup)(hi:X.N[i]?=some x)(hx:Loc X.env.scope x)(he:QE X e te)(hs:AR e=true:=by rfl)(hf:X.fn x=true\/X.env.scope.names.lookup x=some .local:=by first|exact .inl rfl|exact .inr rfl|assumption):
  QS X (.Assign [.Name x pos'] e pos) (iD te (cD i)):=⟨C9 hN hi hx he.h (Ip hs) hf⟩
theorem setC{own:List Str}{g:TG}(hN:X.N.Nodup)(hj:X.N[j]?=some x)(hx:Loc X.env.scope x)(S:cI osc ON scope own N)(hosc:X.env.scope=osc)(hON:X.N=ON)(hc:X.calm=true)(hi:QI X tg iter wi)
  (hg:∀ C s H fp,QG (aM X scope N C s H fp) tg g) (ht:∀ C s H fp,DM (aM X scope N C s H fp) ifs tc) (he:∀ C s H fp,QE (aM X scope N C s H fp) elt te)
  (hsw:swapsWith (.ListComp elt [⟨tg,iter,ifs,0⟩] scope p2) (some (.Name x pos')) pos.line X.env=pure true:=by rfl)
  (hf:X.fn x=true\/X.env.scope.names.lookup x=some .local:=by first|exact .inl rfl|exact .inr rfl|assumption) (hs:∀ x,foldedSetIterable iter X.env x=pure x:=by intro _;rfl) :
  QS X (.Assign [.Name x pos'] (.ListComp elt [⟨tg,iter,ifs,0⟩] scope p2) pos) (iD (iK wi own.length g tc te) (cD j)):=⟨pP hN hj hx S hosc hON hc hi.h (fun C s H fp=>(hg C s H fp).h) (fun C s H fp=>(ht C s H fp).h) (fun C s H fp=>(he C s H fp).h) hsw hf hs⟩
theorem asg{g:TG}(he:QE X e te)(hg:QG X tg g)(hs:swapsWithSole [tg] e pos.line X.env=pure false:=by rfl)(hw:swappedStores [tg] e X.env=pure none:=by rfl)
  (h1:(assignEach [tg] X.env).map (·.2)=[assign tg X.env]:=by rfl):QS X (.Assign [tg] e pos) (iD te g):=⟨D6 he.h hg.h hs hw h1⟩
theorem ret(he:QE X e te):QS X (.Return (some e) pos) (xy te):=⟨Dd he.h⟩
theorem expr(he:QE X e te)(hs:AR e=true:=by rfl):QS X (.Expr e pos) (Bf te):=⟨zY he.h (Ip hs)⟩
theorem gZ{c:Expr}(hc:QT X c tc)(ha:QB X xs t)(hb:QB X ys u):QS X (.If c xs ys pos) (xp tc t u):=⟨EF hc.h ha.h hb.h⟩
theorem eY{g:TG}(hp:PassesOwn (model X.prog X.w) X.A X.env X.xe)(hc:X.calm=true)(hi:QI X tg iter wi)(hg:QG X tg g)(hb:QB X xs t)(hs:∀ x,foldedSetIterable iter X.env x=pure x:=by intro _;rfl):QS X (.For tg iter xs [] pos) (Bs wi g t):=⟨Dy hp hc hi.h hg.h hb.h hs⟩
theorem gw{c:Expr}(hp:PassesOwn (model X.prog X.w) X.A X.env X.xe)(hc:QT X c tc)(hb:QB X xs t):QS X (.While c xs [] pos) (vJ tc t):=⟨xA hp hc.h hb.h⟩
end
end Z
namespace Ap
theorem yr(K:Oe)(ta:TE)(σ:St)(H:Hp)(Q:Bool->Hp->Prop):L2.Z.yr K ta σ H Q=ta σ H fun x H'=>∃ k,su K x H' k/\Q k H':=rfl
end Ap
theorem HasFn.HD{k:Nat}(F:HasFn K mg x st ps)(S:az N ps (aa st))(len:∀ vs H Q E,sp vs H Q E->vs.length=ps.length)
  (hbody:∀(f:Addr) (cdv:Value) (A:Around) (outer:List Env) (s:Shared) (H:Hp) (vs:List V) (Q:VK) (E:XK),bU k (A.deeper (envOfC x (aa st) s.heap.objs.size f cdv))->sp vs H Q E ->
   ∃ t,QB (fR cF P w K mg base N x (aa st) f cdv A outer s H E).yR (aw st) t/\t {nx:=fun _ H'=>Q .aL H',rt:=Q} (start N vs) H):ah P w K mg base cF (k+1) x ps sp:=
 F.ok S len fun f cdv A outer s H vs Q E hr h=>let ⟨t,q,r⟩:=hbody f cdv A outer s H vs Q E hr h;⟨t,q.h,r⟩
theorem zK{k:Nat}(F:yd K x x st f fd)(S:az N ps (aa st))(len:∀ vs H Q E,sp vs H Q E->vs.length=ps.length)
  (hbody:∀(cdv:Value) (A:Around) (outer:List Env) (s:Shared) (H:Hp) (vs:List V) (Q:VK) (E:XK),bU k (A.deeper (envOfC x (aa st) s.heap.objs.size f cdv))->sp vs H Q E ->
   ∃ t,QB (fR cF P w K mg base N x (aa st) f cdv A outer s H E).yR (aw st) t/\t {nx:=fun _ H'=>Q .aL H',rt:=Q} (start N vs) H):dJ P w K mg base cF (k+1) f fd ps sp:=
 F.ok S len fun cdv A outer s H vs Q E hr h=>let ⟨t,q,r⟩:=hbody cdv A outer s H vs Q E hr h;⟨t,q.h,r⟩
def jK(e:Addr)(cls:Value)(d:Option Addr)(h:Heap):Prop:=∃ o vs,h.get? e=some o/\o.cls=cls/\o.dict=d/\o.data=.fields vs
inductive T where
 |aL|bl (b:Bool)|int (i:Int)|str (x:Str)|tup (ts:List T)|lst (ts:List T)|dM (ts:List T)|dN (lo hi:Int)|gE (ts:List T)|km (ks:List Key) (ts:List T)|exc (c:Value) (f:Option (Str×Int))
variable{c t:T}{args ts:List T}
abbrev bf:=Addr->Prop
variable{B B' B1:bf}{Src:Hp->bf->Prop}
def Il(K:Oe)(a:Addr)(xs:List V):Prop:=∃(o:Obj) (its:Array Value) (n:Nat),K.lookup a=some o/\o.cls=.type "tuple"/\o.data=.seq its n/\its.size<=sizeLine/\Vals xs its.toList
def II(K:Oe)(a:Addr)(xs:List V):Prop:=∃(o:Obj) (its:Array Value) (n:Nat),K.lookup a=some o/\o.cls=.type "list"/\o.dict=none/\o.data=.seq its n/\its.size<=sizeLine/\Vals xs its.toList
def LB(K:Oe)(H:Hp)(B:bf)(a:Addr)(xs:List V):Prop:=(¬ B a/\Rd H a (.lst xs))\/II K a xs
mutual
inductive Rep (K:Oe) (H:Hp) (B:bf):V->T->Prop
 |aL:Rep K H B .aL .aL
 |bl (b:Bool):Rep K H B (.bl b) (.bl b)
 |int (i:Int):Rep K H B (.int i) (.int i)
 |str (x:Str):Rep K H B (.str x) (.str x)
 |tup {a:Addr} {vs:List V} {ts:List T} (n:¬ B a) (h:H a=some (.tup vs)) (r:ao K H B vs ts):Rep K H B (.ref a) (.tup ts)
 |gE {a:Addr} {vs:List V} {ts:List T} (h:Il K a vs) (r:ao K H B vs ts):Rep K H B (.ref a) (.gE ts)
 |lst {a:Addr} {vs:List V} {ts:List T} (n:¬ B a) (h:H a=some (.lst vs)) (r:ao K H B vs ts):Rep K H B (.ref a) (.lst ts)
 |dM {a:Addr} {vs:List V} {ts:List T} (h:LB K H B a vs) (r:ao K H B vs ts):Rep K H B (.ref a) (.dM ts)
 |dN {a:Addr} {lo hi:Int} (n:¬ B a) (h:H a=some (.dN lo hi)):Rep K H B (.ref a) (.dN lo hi)
 |km {a:Addr} {ks:List Key} {vs:List V} {ts:List T} (n:¬ B a) (h:Rd H a (.dK (ks.zip vs))) (l:ks.length=vs.length) (r:ao K H B vs ts):Rep K H B (.ref a) (.km ks ts)
 |exc {a:Addr} {c:Value} (n:¬ B a) (h:H a=some (.ext (jK a c none))):Rep K H B (.ref a) (.exc c none)
 |Bo {a d:Addr} {c:Value} {x:Str} {i:Int} (n:¬ B a) (h:H a=some (.ext (jK a c (some d)))) (m:¬ B d) (g:H d=some (.xd [(x,.int i)])):Rep K H B (.ref a) (.exc c (some (x,i)))
inductive ao (K:Oe) (H:Hp) (B:bf):List V->List T->Prop
 |nil:ao K H B [] []
 |cons {v:V} {t:T} {vs:List V} {ts:List T} (h:Rep K H B v t) (r:ao K H B vs ts):ao K H B (v::vs) (t::ts)
end
def Fr(B:bf)(H:Hp)(B':bf)(H':Hp):Prop:=∀ b o,H b=some o->¬ B b->H' b=some o/\¬ B' b
theorem Fr.refl:Fr B H B H:=fun _ _ h n=>⟨h,n⟩
theorem Fr.trans{B2:bf}{H2:Hp}(a:Fr B H B1 H1)(b:Fr B1 H1 B2 H2):Fr B H B2 H2:=fun c o h n=>let ⟨h1,n1⟩:=a c o h n;b c o h1 n1
theorem Fr.same(s:cq H H'):Fr B H B H':=fun b o h n=>⟨s b o h,n⟩
theorem Fr.less(s:∀ b,B' b->B b):Fr B H B' H:=fun b o h n=>⟨h,fun z=>n (s b z)⟩
theorem Fr.set(h:B a):Fr B H B (upd H a o):=fun b u e n=>⟨by rw[af (by rintro rfl;exact n h)];exact e,n⟩
theorem cq.new(h:H p=none):cq H (upd H p o):=fun b u e=>by rw[af (ax e h)];exact e
theorem Fr.more(h:H p=none):Fr B H (fun b=>b=p\/B b) (upd H p o):=fun b u e n=>⟨cq.new h b u e,fun z=>z.elim (ax e h) n⟩
theorem Rd.fr{u:HO}(f:Fr B H B' H')(n:¬ B a)(h:Rd H a u):¬ B' a/\Rd H' a u:=by
 rcases h with h|⟨o,h⟩
 ·exact⟨(f a _ h n).2,.inl (f a _ h n).1⟩
 ·exact⟨(f a _ h n).2,.inr ⟨o,(f a _ h n).1⟩⟩
section
variable {K:Oe} {H H':Hp} {B B':bf}
theorem LB.fr(f:Fr B H B' H')(h:LB K H B a xs):LB K H' B' a xs:=h.elim (fun z=>.inl (z.2.fr f z.1)) .inr
theorem LB.sq(h:LB K H B a xs):bS K H a xs:=h.elim (fun z=>.inl z.2) .inr
mutual
theorem Rep.fr(f:Fr B H B' H'):∀{v:V} {t:T},Rep K H B v t->Rep K H' B' v t
 |_,_,.aL=>.aL
 |_,_,.bl b=>.bl b
 |_,_,.int i=>.int i
 |_,_,.str x=>.str x
 |_,_,.tup n h r=>.tup (f _ _ h n).2 (f _ _ h n).1 (ao.fr f r)
 |_,_,.gE h r=>.gE h (ao.fr f r)
 |_,_,.lst n h r=>.lst (f _ _ h n).2 (f _ _ h n).1 (ao.fr f r)
 |_,_,.dM h r=>.dM (h.fr f) (ao.fr f r)
 |_,_,.dN n h=>.dN (f _ _ h n).2 (f _ _ h n).1
 |_,_,.km n h l r=>.km (Rd.fr f n h).1 (Rd.fr f n h).2 l (ao.fr f r)
 |_,_,.exc n h=>.exc (f _ _ h n).2 (f _ _ h n).1
 |_,_,.Bo n h m g=>.Bo (f _ _ h n).2 (f _ _ h n).1 (f _ _ g m).2 (f _ _ g m).1
theorem ao.fr(f:Fr B H B' H'):∀{vs:List V} {ts:List T},ao K H B vs ts->ao K H' B' vs ts
 |_,_,.nil=>.nil
 |_,_,.cons h r=>.cons (Rep.fr f h) (ao.fr f r)
end
theorem ao.length:∀{vs:List V} {ts:List T},ao K H B vs ts->vs.length=ts.length
 |_,_,.nil=>rfl
 |_,_,.cons _ r=>Jv (·+1) (ao.length r)
theorem ao.get:∀{vs:List V} {ts:List T} {i:Nat} {t:T},ao K H B vs ts->ts[i]?=some t->∃ v,vs[i]?=some v/\Rep K H B v t
 |_,_,_,_,.nil,e=>by simp at e
 |_,_,0,_,.cons h _,e=>by simp at e;subst e;exact⟨_,rfl,h⟩
 |_,_,i+1,_,.cons _ r,e=>by
  obtain⟨v,e1,h⟩:=ao.get r (by simpa using e)
  exact⟨v,by simpa using e1,h⟩
theorem ao.append:∀{vs ws:List V} {ts us:List T},ao K H B vs ts->ao K H B ws us->ao K H B (vs++ws) (ts++us)
 |_,_,_,_,.nil,s=>s
 |_,_,_,_,.cons h r,s=>.cons h (ao.append r s)
theorem ao.take:∀{vs:List V} {ts:List T} (n:Nat),ao K H B vs ts->ao K H B (vs.take n) (ts.take n)
 |_,_,0,_=>.nil
 |_,_,_+1,.nil=>.nil
 |_,_,n+1,.cons h r=>.cons h (ao.take n r)
theorem ao.drop:∀{vs:List V} {ts:List T} (n:Nat),ao K H B vs ts->ao K H B (vs.drop n) (ts.drop n)
 |_,_,0,r=>r
 |_,_,_+1,.nil=>.nil
 |_,_,n+1,.cons _ r=>ao.drop n r
theorem ao.set:∀{vs:List V} {ts:List T} {v:V} {t:T} (i:Nat),Rep K H B v t->ao K H B vs ts->ao K H B (vs.set i v) (ts.set i t)
 |_,_,_,_,_,_,.nil=>.nil
 |_,_,_,_,0,h,.cons _ r=>.cons h r
 |_,_,_,_,i+1,h,.cons q r=>.cons q (ao.set i h r)
theorem ao.rev:∀{vs:List V} {ts:List T},ao K H B vs ts->ao K H B vs.reverse ts.reverse
 |_,_,.nil=>.nil
 |_,_,.cons h r=>by rw[Lx,Lx];exact (ao.rev r).append (.cons h .nil)
theorem ao.rep(r:ao K H B vs ts):∀ n:Nat,ao K H B (List.replicate n vs).flatten (List.replicate n ts).flatten
 |0=>.nil
 |n+1=>by rw[JI,JI,JQ,JQ];exact r.append (ao.rep r n)
theorem ao.erase:∀{vs:List V} {ts:List T} (i:Nat),ao K H B vs ts->ao K H B (vs.eraseIdx i) (ts.eraseIdx i)
 |_,_,_,.nil=>.nil
 |_,_,0,.cons _ r=>r
 |_,_,i+1,.cons h r=>.cons h (ao.erase i r)
theorem ao.cc{i:Int}(r:ao K H B vs ts)(e:L2.cc ts i=some t):∃ v,L2.cc vs i=some v/\Rep K H B v t:=by
 unfold L2.cc at e ⊢;rw[r.length]
 cases q:jT ts.length i with
 |none=>rw[q] at e;cases e
 |some j=>rw[q] at e;exact r.get e
end
def cp:T->Bool
 |.aL|.bl _|.int _|.str _=>true
 |_=>false
theorem Rep.flat{v:V}(h:Rep K H B v t)(f:cp t=true):Rep K H' B' v t:=by
 cases h with
 |aL=>exact .aL
 |bl b=>exact .bl b
 |int i=>exact .int i
 |str x=>exact .str x
 |tup=>cases f
 |gE=>cases f
 |lst=>cases f
 |dM=>cases f
 |dN=>cases f
 |km=>cases f
 |exc=>cases f
 |Bo=>cases f
theorem ao.flat:∀{vs:List V} {ts:List T},ao K H B vs ts->ts.all cp=true->ao K H' B' vs ts
 |_,_,.nil,_=>.nil
 |_,_,.cons h r,f=>by
  rw[KU,K4] at f;exact .cons (h.flat f.1) (ao.flat r f.2)
def Bx(K:Oe)(H:Hp)(B:bf)(a:Addr)(c:T):Prop:=match c with
 |.lst ts=>∃ vs,H a=some (.lst vs)/\ao K H B vs ts
 |.km ks ts=>∃ vs,H a=some (.dK (ks.zip vs))/\ks.length=vs.length/\ao K H B vs ts
 |_=>False
theorem Bx.eR(h:Bx K H B a c):∃ o,H a=some o:=by
 unfold Bx at h
 split at h
 ·obtain⟨vs,e,_⟩:=h;exact⟨_,e⟩
 ·obtain⟨vs,e,_⟩:=h;exact⟨_,e⟩
 ·exact h.elim
theorem Bx.of(h:Bx K H B a c)(e:H' a=H a)(f:Fr B H B' H'):Bx K H' B' a c:=by
 unfold Bx at h ⊢
 split at h
 ·obtain⟨vs,q,r⟩:=h;exact⟨vs,e.trans q,r.fr f⟩
 ·obtain⟨vs,q,l,r⟩:=h;exact⟨vs,e.trans q,l,r.fr f⟩
 ·exact h.elim
theorem Bx.is(h:Bx K H B a c):(∃ ts vs,c=.lst ts/\H a=some (.lst vs)/\ao K H B vs ts)\/∃ ks ts vs,c=.km ks ts/\H a=some (.dK (ks.zip vs))/\ks.length=vs.length/\ao K H B vs ts:=by
 unfold Bx at h
 split at h
 ·obtain⟨vs,q,r⟩:=h;exact .inl ⟨_,vs,rfl,q,r⟩
 ·obtain⟨vs,q,l,r⟩:=h;exact .inr ⟨_,_,vs,rfl,q,l,r⟩
 ·exact h.elim
theorem Bx.rep(h:Bx K H B a c)(n:¬ B a):Rep K H B (.ref a) c:=by
 rcases h.is with ⟨ts,vs,rfl,e,r⟩|⟨ks,ts,vs,rfl,e,l,r⟩
 ·exact .lst n e r
 ·exact .km n (.inl e) l r
inductive Sl where
 |un|tr (t:T)|bx (c:T)|pb (c:T)
abbrev Mu:=List Sl
variable{μ μ' μ1:Mu}{dr:Mu->Mu}
inductive R where
 |tr (t:T)|br (i:Nat)|fr (c:T)
structure Fx where
 K:Oe
 H0:Hp
 P:Nat->Option Addr
 Bc:bf
 bh:∀ b,Bc b->∃ o,H0 b=some o
 G:Addr->Option (List V)
variable{F:Fx}
def ia(F:Fx)(ad:Nat->Addr)(B:bf)(H:Hp)(i:Nat)(s:Sl)(x:Option (Option V)):Prop:=match s with
 |.un=>True
 |.tr t=>∃ v,x=some (some v)/\Rep F.K H B v t
 |.bx c=>x=some (some (.ref (ad i)))/\B (ad i)/\F.H0 (ad i)=none/\F.P i=none/\Bx F.K H B (ad i) c
 |.pb c=>x=some (some (.ref (ad i)))/\B (ad i)/\F.P i=some (ad i)/\Bx F.K H B (ad i) c
def Sl.box:Sl->Option T
 |.bx c=>some c
 |.pb c=>some c
 |_=>none
structure Rl (F:Fx) (ad:Nat->Addr) (B:bf) (σ:St) (H:Hp) (μ:Mu):Prop where
 len:μ.length=σ.length
 slot:∀ i s,μ[i]?=some s->ia F ad B H i s σ[i]?
 inj:∀ i j s u c d,μ[i]?=some s->μ[j]?=some u->s.box=some c->u.box=some d->ad i=ad j->i=j
 par:∀ i a,F.P i=some a->(∃ c,μ[i]?=some (.pb c))/\ad i=a
 bc:∀ b,F.Bc b->B b
 eR:∀ b,B b->∃ o,H b=some o
 old:∀ b o,F.H0 b=some o->(∀ i,F.P i≠some b)->H b=some o
 gh:∀ a vs,F.G a=some vs->H a=some (.lst vs)/\B a/\∀(i:Nat) (s:Sl) (c:T),μ[i]?=some s->s.box=some c->ad i≠a
theorem ia.boxed{s:Sl}{x:Option (Option V)}(h:ia F ad B H i s x)(e:s.box=some c):x=some (some (.ref (ad i)))/\B (ad i)/\Bx F.K H B (ad i) c/\(F.P i=some (ad i)\/F.H0 (ad i)=none):=by
 unfold ia at h
 split at h
 ·cases e
 ·cases e
 ·cases e;exact⟨h.1,h.2.1,h.2.2.2.2,.inr h.2.2.1⟩
 ·cases e;exact⟨h.1,h.2.1,h.2.2.2,.inl h.2.2.1⟩
def Hv(F:Fx)(ad:Nat->Addr)(B:bf)(H:Hp)(μ:Mu)(v:V)(r:R):Prop:=match r with
 |.tr t=>Rep F.K H B v t
 |.br i=>v=.ref (ad i)/\∃ s c,μ[i]?=some s/\s.box=some c
 |.fr _=>False
def more(B:bf)(a:Addr):bf:=fun b=>b=a\/B b
def Vr(F:Fx)(ad:Nat->Addr)(B:bf)(σ:St)(H:Hp)(μ:Mu)(v:V)(r:R):Prop:=match r with
 |.fr c=>Rl F ad B σ H μ/\∃ a,v=.ref a/\¬ B a/\F.H0 a=none/\Rl F ad (more B a) σ H μ/\Bx F.K H (more B a) a c
 |r=>Rl F ad B σ H μ/\Hv F ad B H μ v r
def R.d:R->R
 |.fr c=>.tr c
 |r=>r
section
variable {F:Fx} {ad:Nat->Addr} {B B':bf} {σ:St} {H H':Hp} {μ:Mu} {v:V} {r:R}
theorem Rl.zZ(h:Rl F ad B σ H μ)(e:H p=none):F.H0 p=none:=by
 cases q:F.H0 p with
 |none=>rfl
 |some o =>
  by_cases z:∃ i,F.P i=some p
  ·obtain⟨i,z⟩:=z;obtain⟨⟨c,hc⟩,ha⟩:=h.par i p z;have:=(h.slot i _ hc).boxed (c:=c) rfl;obtain⟨o',e'⟩:=h.eR _ this.2.1;rw[ha,e] at e';cases e'
  ·have:=h.old p o q fun i zi=>z ⟨i,zi⟩;rw[e] at this;cases this
theorem Rl.lZ(h:Rl F ad B σ H μ)(e:H p=none):¬ B p:=fun z=>by
 obtain⟨o,q⟩:=h.eR p z;rw[e] at q;cases q
theorem Rl.fr(h:Rl F ad B σ H μ)(s:cq H H')(hB:∀ b,B b->B' b)(hT:∀ b,B' b->∃ o,H' b=some o)(f:Fr B H B' H'):Rl F ad B' σ H' μ:=by
 refine⟨h.len,fun i s' e=>?_,h.inj,h.par,fun b z=>hB b (h.bc b z),hT,fun b o e n=>s b o (h.old b o e n),fun a vs e=>let ⟨g1,g2,g3⟩:=h.gh a vs e;⟨s a _ g1,hB a g2,g3⟩⟩
 have k:=h.slot i s' e;unfold ia at k ⊢
 split at k
 ·trivial
 ·obtain⟨v,e1,r⟩:=k;exact⟨v,e1,r.fr f⟩
 ·obtain⟨e1,b,z,p,x⟩:=k;obtain⟨o,q⟩:=x.eR;exact⟨e1,hB _ b,z,p,x.of ((s _ _ q).trans q.symm) f⟩
 ·obtain⟨e1,b,p,x⟩:=k;obtain⟨o,q⟩:=x.eR;exact⟨e1,hB _ b,p,x.of ((s _ _ q).trans q.symm) f⟩
theorem Rl.same(h:Rl F ad B σ H μ)(s:cq H H'):Rl F ad B σ H' μ:=h.fr s (fun _ z=>z) (fun b z=>let ⟨o,e⟩:=h.eR b z;⟨o,s b o e⟩) (Fr.same s)
theorem Rl.new(h:Rl F ad B σ H μ)(e:H p=none):Rl F ad (more B p) σ (upd H p o) μ:=
 h.fr (cq.new e) (fun _ z=>.inr z) (fun b z=>z.elim (fun q=>by subst q;exact⟨o,ai⟩) fun q=>let ⟨u,w⟩:=h.eR b q;⟨u,cq.new e b u w⟩) (Fr.more e)
theorem Rl.less(h:Rl F ad B σ H μ)(s:∀ b,B' b->B b)(hb:∀ b,F.Bc b->B' b)(own:∀ i s' c,μ[i]?=some s'->s'.box=some c->B' (ad i))(hg:∀ a vs,F.G a=some vs->B' a):Rl F ad B' σ H μ:=by
 refine⟨h.len,fun i s' e=>?_,h.inj,h.par,hb,fun b z=>h.eR b (s b z),h.old,fun a vs e=>let ⟨g1,g2,g3⟩:=h.gh a vs e;⟨g1,hg a vs e,g3⟩⟩
 have k:=h.slot i s' e;unfold ia at k ⊢
 split at k
 ·trivial
 ·obtain⟨v,e1,r⟩:=k;exact⟨v,e1,r.fr (Fr.less s)⟩
 ·obtain⟨e1,b,z,p,x⟩:=k;exact⟨e1,own i _ _ e rfl,z,p,x.of rfl (Fr.less s)⟩
 ·obtain⟨e1,b,p,x⟩:=k;exact⟨e1,own i _ _ e rfl,p,x.of rfl (Fr.less s)⟩
theorem Vr.rl(h:Vr F ad B σ H μ v r):Rl F ad B σ H μ:=by
 cases r with
 |tr t=>exact h.1
 |br i=>exact h.1
 |fr c=>exact h.1
theorem Vr.hv(h:Vr F ad B σ H μ v r):Hv F ad B H μ v r.d:=by
 cases r with
 |tr t=>exact h.2
 |br i=>exact h.2
 |fr c =>
  obtain⟨_,a,rfl,n,_,_,x⟩:=h;exact (x.of rfl (Fr.less fun _ z=>.inr z)).rep n
def Kp(μ μ':Mu):Prop:=∀ i:Nat,((μ[i]?).bind Sl.box).isSome=((μ'[i]?).bind Sl.box).isSome
theorem Kp.refl(μ:Mu):Kp μ μ:=fun i=>rfl
theorem Kp.trans{μ2:Mu}(a:Kp μ μ1)(b:Kp μ1 μ2):Kp μ μ2:=fun i=>(a i).trans (b i)
theorem Kp.symm(a:Kp μ μ1):Kp μ1 μ:=fun i=>(a i).symm
theorem Kp.fwd(k:Kp μ μ'):∀(i:Nat) (s:Sl) (c:T),μ[i]?=some s->s.box=some c->∃(s':Sl) (c':T),μ'[i]?=some s'/\s'.box=some c':=fun i s c e b=>by
 have h:=k i;rw[e] at h;have h1:(s.box).isSome=((μ'[i]?).bind Sl.box).isSome:=h;rw[b] at h1
 cases q:μ'[i]? with
 |none=>rw[q] at h1;cases h1
 |some s' =>
  rw[q] at h1;have h2:true=(s'.box).isSome:=h1
  cases q2:s'.box with
  |none=>rw[q2] at h2;cases h2
  |some c'=>exact⟨s',c',rfl,q2⟩
theorem Kp.set{s s':Sl}{d:T}(e:μ[i]?=some s)(b:s.box=some c)(b':s'.box=some d):Kp μ (μ.set i s'):=fun j=>by
 have hi:i<μ.length:=(Ji.mp e).1;by_cases z:i=j
 ·subst z;rw[K2 hi,e];show (s.box).isSome=(s'.box).isSome;rw[b,b'];rfl
 ·rw[Kx z]
theorem Hv.fr(h:Hv F ad B H μ v r)(f:Fr B H B' H')(k:Kp μ μ'):Hv F ad B' H' μ' v r:=by
 cases r with
 |tr t=>exact Rep.fr f h
 |br i=>obtain⟨e,s,c,h1,h2⟩:=h;exact⟨e,k.fwd i s c h1 h2⟩
 |fr c=>exact h.elim
def cont(μ:Mu):R->Option T
 |.tr t=>some t
 |.br i=>(μ[i]?).bind Sl.box
 |.fr c=>some c
inductive Vw (K:Oe) (H:Hp) (B:bf):V->T->Prop
 |aL:Vw K H B .aL .aL
 |bl (b:Bool):Vw K H B (.bl b) (.bl b)
 |int (i:Int):Vw K H B (.int i) (.int i)
 |str (x:Str):Vw K H B (.str x) (.str x)
 |tup {a:Addr} {vs:List V} {ts:List T} (h:H a=some (.tup vs)) (r:ao K H B vs ts):Vw K H B (.ref a) (.tup ts)
 |gE {a:Addr} {vs:List V} {ts:List T} (h:Il K a vs) (r:ao K H B vs ts):Vw K H B (.ref a) (.gE ts)
 |lst {a:Addr} {vs:List V} {ts:List T} (h:H a=some (.lst vs)) (r:ao K H B vs ts):Vw K H B (.ref a) (.lst ts)
 |dM {a:Addr} {vs:List V} {ts:List T} (h:bS K H a vs) (r:ao K H B vs ts):Vw K H B (.ref a) (.dM ts)
 |dN {a:Addr} {lo hi:Int} (h:H a=some (.dN lo hi)):Vw K H B (.ref a) (.dN lo hi)
 |km {a:Addr} {ks:List Key} {vs:List V} {ts:List T} (h:Rd H a (.dK (ks.zip vs))) (l:ks.length=vs.length) (r:ao K H B vs ts):Vw K H B (.ref a) (.km ks ts)
 |exc {a:Addr} {c:Value} (h:H a=some (.ext (jK a c none))):Vw K H B (.ref a) (.exc c none)
 |Bo {a d:Addr} {c:Value} {x:Str} {i:Int} (h:H a=some (.ext (jK a c (some d)))) (g:H d=some (.xd [(x,.int i)])):Vw K H B (.ref a) (.exc c (some (x,i)))
theorem Rep.vw(h:Rep K H B v t):Vw K H B v t:=by
 cases h with
 |aL=>exact .aL
 |bl b=>exact .bl b
 |int i=>exact .int i
 |str x=>exact .str x
 |tup n h r=>exact .tup h r
 |gE h r=>exact .gE h r
 |lst n h r=>exact .lst h r
 |dM h r=>exact .dM h.sq r
 |dN n h=>exact .dN h
 |km n h l r=>exact .km h l r
 |exc n h=>exact .exc h
 |Bo n h m g=>exact .Bo h g
theorem Hv.vw(l:Rl F ad B σ H μ)(h:Hv F ad B H μ v r)(e:cont μ r=some t):Vw F.K H B v t:=by
 cases r with
 |tr u=>cases e;exact Rep.vw h
 |br i =>
  obtain⟨rfl,s,c,h1,h2⟩:=h;have e2:(μ[i]?).bind Sl.box=some t:=e;rw[h1] at e2;have e':s.box=some t:=e2;rcases ((l.slot i s h1).boxed e').2.2.1.is with ⟨ts,vs,rfl,q,rr⟩|⟨ks,ts,vs,rfl,q,ll,rr⟩
  ·exact .lst q rr
  ·exact .km (.inl q) ll rr
 |fr c=>exact h.elim
def Sl.put:Sl->T->Sl
 |.bx _,c=>.bx c
 |.pb _,c=>.pb c
 |s,_=>s
theorem Sl.i8{s:Sl}{d:T}(e:s.box=some c):(s.put d).box=some d:=by
 cases s<;>first|rfl|cases e
theorem Rl.put{s:Sl}(l:Rl F ad B σ H μ)(e:μ[i]?=some s)(hb:s.box=some c)(r:ao F.K H B vs ts):Rl F ad B σ (upd H (ad i) (.lst vs)) (μ.set i (s.put (.lst ts))):=by
 have k0:=(l.slot i s e).boxed hb;have hi:i<μ.length:=(Ji.mp e).1;have f:Fr B H B (upd H (ad i) (.lst vs)):=Fr.set k0.2.1;have get:∀ j,(μ.set i (s.put (.lst ts)))[j]?=if j=i then some (s.put (.lst ts)) else μ[j]?:=fun j=>by
  rw[LX];by_cases z:i=j
  ·subst z;simp[hi]
  ·rw[IY z,IY (fun q=>z q.symm)]
 refine⟨by rw[JE];exact l.len,fun j s' e'=>?_,fun j k s1 s2 c1 c2 e1 e2 b1 b2 q=>?_,fun j a p=>?_,l.bc,fun b z=>?_,fun b o e' n=>?_,fun a ws ga=>?_⟩
 ·rw[get] at e';by_cases z:j=i
  ·subst z;rw[Ja rfl] at e';cases e';have k:=l.slot j s e
   cases s with
   |un=>cases hb
   |tr t=>cases hb
   |bx d=>exact⟨k.1,k.2.1,k.2.2.1,k.2.2.2.1,vs,ai,r.fr f⟩
   |pb d=>exact⟨k.1,k.2.1,k.2.2.1,vs,ai,r.fr f⟩
  ·rw[IY z] at e';have k:=l.slot j s' e';have ne:∀ d,s'.box=some d->ad j≠ad i:=fun d hd q=>z (l.inj j i s' s d c e' e hd hb q);unfold ia at k ⊢
   split at k
   ·trivial
   ·obtain⟨v,e1,r1⟩:=k;exact⟨v,e1,r1.fr f⟩
   ·obtain⟨e1,b,z0,p,x⟩:=k;exact⟨e1,b,z0,p,x.of (af (ne _ rfl)) f⟩
   ·obtain⟨e1,b,p,x⟩:=k;exact⟨e1,b,p,x.of (af (ne _ rfl)) f⟩
 ·rw[get] at e1 e2;have h1:∃ u d,μ[j]?=some u/\u.box=some d:=by
   by_cases z:j=i
   ·subst z;exact⟨s,c,e,hb⟩
   ·rw[IY z] at e1;exact⟨_,_,e1,b1⟩
  have h2:∃ u d,μ[k]?=some u/\u.box=some d:=by
   by_cases z:k=i
   ·subst z;exact⟨s,c,e,hb⟩
   ·rw[IY z] at e2;exact⟨_,_,e2,b2⟩
  obtain⟨u1,d1,g1,g2⟩:=h1;obtain⟨u2,d2,g3,g4⟩:=h2;exact l.inj j k u1 u2 d1 d2 g1 g3 g2 g4 q
 ·obtain⟨⟨d,hd⟩,ha⟩:=l.par j a p;refine⟨?_,ha⟩;rw[get];by_cases z:j=i
  ·subst z;rw[e] at hd;cases hd;rw[Ja rfl];exact⟨_,rfl⟩
  ·rw[IY z];exact⟨d,hd⟩
 ·by_cases z':b=ad i
  ·subst z';exact⟨_,ai⟩
  ·rw[af z'];exact l.eR b z
 ·have ne:b≠ad i:=by
   rintro rfl;rcases k0.2.2.2 with z|z
   ·exact n i z
   ·rw[z] at e';cases e'
  rw[af ne];exact l.old b o e' n
 ·obtain⟨g1,g2,g3⟩:=l.gh a ws ga;refine⟨by rw[af (fun z=>g3 i s c e hb z.symm)];exact g1,g2,fun j s' d e' b'=>?_⟩
  rw[get] at e';by_cases z:j=i
  ·subst z;exact g3 j s c e hb
  ·rw[IY z] at e';exact g3 j s' d e' b'
theorem Rl.u6(l:Rl F ad B σ H μ)(hp:∀ c,μ[i]?≠some (.pb c))(h:Rep F.K H B v t):Rl F ad B (σ.set i (some v)) H (μ.set i (.tr t)):=by
 have get:∀ j,i<μ.length->(μ.set i (.tr t))[j]?=if j=i then some (.tr t) else μ[j]?:=fun j hi=>by
  rw[LX];by_cases z:i=j
  ·subst z;simp[hi]
  ·rw[IY z,IY (fun q=>z q.symm)]
 by_cases hi:i<μ.length
 ·refine⟨by rw[JE,JE];exact l.len,fun j s' e'=>?_,fun j k s1 s2 c1 c2 e1 e2 b1 b2 q=>?_,fun j a p=>?_,l.bc,l.eR,l.old,fun a ws ga=>?_⟩
  ·rw[get j hi] at e';by_cases z:j=i
   ·subst z;rw[Ja rfl] at e';cases e';exact⟨v,by rw[K2 (by rw[<- l.len];exact hi)],h⟩
   ·rw[IY z] at e';rw[Kx (Ne.symm z)];exact l.slot j s' e'
  ·rw[get j hi] at e1;rw[get k hi] at e2;by_cases z:j=i
   ·rw[Ja z] at e1;cases e1;cases b1
   ·by_cases z2:k=i
    ·rw[Ja z2] at e2;cases e2;cases b2
    ·rw[IY z] at e1;rw[IY z2] at e2;exact l.inj j k _ _ _ _ e1 e2 b1 b2 q
  ·obtain⟨⟨d,hd⟩,ha⟩:=l.par j a p;refine⟨⟨d,?_⟩,ha⟩;rw[get j hi];by_cases z:j=i
   ·subst z;exact absurd hd (hp d)
   ·rw[IY z];exact hd
  ·obtain⟨g1,g2,g3⟩:=l.gh a ws ga;refine⟨g1,g2,fun j s' d e' b'=>?_⟩;rw[get j hi] at e';by_cases z:j=i
   ·rw[Ja z] at e';cases e';cases b'
   ·rw[IY z] at e';exact g3 j s' d e' b'
 ·have hs:σ.length<=i:=by rw[<- l.len];lia
  rw[Le (show μ.length<=i by lia),Le hs]
  exact l
theorem Rl.setB(l:Rl F ad (more B a) σ H μ)(hp:∀ c,μ[i]?≠some (.pb c))(h0:F.H0 a=none)(n:¬ B a)(own:∀ j s c,μ[j]?=some s->s.box=some c->B (ad j))(gB:∀ b vs,F.G b=some vs->B b)(x:Bx F.K H (more B a) a c):
  Rl F (fun j=>if j=i then a else ad j) (more B a) (σ.set i (some (.ref a))) H (μ.set i (.bx c)):=by
 have get:∀ j,i<μ.length->(μ.set i (.bx c))[j]?=if j=i then some (.bx c) else μ[j]?:=fun j hi=>by
  rw[LX];by_cases z:i=j
  ·subst z;simp[hi]
  ·rw[IY z,IY (fun q=>z q.symm)]
 have pi:F.P i=none:=by
  cases q:F.P i with
  |none=>rfl
  |some b =>
   obtain⟨⟨d,hd⟩,_⟩:=l.par i b q;exact absurd hd (hp d)
 by_cases hi:i<μ.length
 ·refine⟨by rw[JE,JE];exact l.len,fun j s' e'=>?_,fun j k s1 s2 c1 c2 e1 e2 b1 b2 q=>?_,fun j a' p=>?_,l.bc,l.eR,l.old,fun b ws ga=>?_⟩
  ·rw[get j hi] at e';by_cases z:j=i
   ·subst z;rw[Ja rfl] at e';cases e';show _/\_;simp only[Ja];exact⟨by rw[K2 (by rw[<- l.len];exact hi)],.inl rfl,h0,pi,x⟩
   ·rw[IY z] at e';rw[Kx (Ne.symm z)];have k:=l.slot j s' e';unfold ia at k ⊢;simp only[IY z];exact k
  ·rw[get j hi] at e1;rw[get k hi] at e2;by_cases z:j=i
   ·by_cases z2:k=i
    ·rw[z,z2]
    ·rw[Ja z,IY z2] at q;rw[IY z2] at e2;exact absurd (own k _ _ e2 b2) (by rw[<- q];exact n)
   ·by_cases z2:k=i
    ·rw[Ja z2,IY z] at q;rw[IY z] at e1;exact absurd (own j _ _ e1 b1) (by rw[q];exact n)
    ·rw[IY z] at e1;rw[IY z2] at e2;rw[IY z,IY z2] at q;exact l.inj j k _ _ _ _ e1 e2 b1 b2 q
  ·obtain⟨⟨d,hd⟩,ha⟩:=l.par j a' p;have z:j≠i:=by rintro rfl;exact hp d hd
   rw[get j hi,IY z];exact⟨⟨d,hd⟩,by simp only[IY z];exact ha⟩
  ·obtain⟨g1,g2,g3⟩:=l.gh b ws ga;refine⟨g1,g2,fun j s' d e' b'=>?_⟩;rw[get j hi] at e';by_cases z:j=i
   ·simp only[Ja z];rintro rfl;exact n (gB _ ws ga)
   ·rw[IY z] at e';simp only[IY z];exact g3 j s' d e' b'
 ·have hs:σ.length<=i:=by rw[<- l.len];lia
  rw[Le (show μ.length<=i by lia),Le hs]
  have ne:∀ j s,μ[j]?=some s->j≠i:=fun j s e q=>by
   have:=(Ji.mp e).1;lia
  refine⟨l.len,fun j s' e'=>?_,fun j k s1 s2 c1 c2 e1 e2 b1 b2 q=>?_,fun j a' p=>?_,l.bc,l.eR,l.old,fun b ws ga=>?_⟩
  ·have k:=l.slot j s' e';unfold ia at k ⊢;simp only[IY (ne j s' e')];exact k
  ·simp only[IY (ne j _ e1),IY (ne k _ e2)] at q;exact l.inj j k _ _ _ _ e1 e2 b1 b2 q
  ·obtain⟨⟨d,hd⟩,ha⟩:=l.par j a' p;exact⟨⟨d,hd⟩,by simp only[IY (ne j _ hd)];exact ha⟩
  ·obtain⟨g1,g2,g3⟩:=l.gh b ws ga;refine⟨g1,g2,fun j s' d e' b'=>?_⟩;simp only[IY (ne j _ e')];exact g3 j s' d e' b'
theorem Rl.gB(l:Rl F ad B σ H μ):∀ b vs,F.G b=some vs->B b:=fun b vs e=>(l.gh b vs e).2.1
theorem Rl.own(l:Rl F ad B σ H μ):∀ j s c,μ[j]?=some s->s.box=some c->B (ad j):=fun j s c e b=>((l.slot j s e).boxed b).2.1
theorem Rl.freeze(l:Rl F ad B σ H μ)(e:μ[i]?=some (.bx c))(hc:¬ F.Bc (ad i)):Rl F ad (fun b=>B b/\b≠ad i) σ H (μ.set i (.tr c))/\Rep F.K H (fun b=>B b/\b≠ad i) (.ref (ad i)) c:=by
 have k0:=l.slot i _ e;have hi:i<μ.length:=(Ji.mp e).1;have rp:Rep F.K H (fun b=>B b/\b≠ad i) (.ref (ad i)) c:=((k0.2.2.2.2).of rfl (Fr.less fun _ z=>z.1)).rep (fun z=>z.2 rfl);have get:∀ j,(μ.set i (.tr c))[j]?=if j=i then some (.tr c) else μ[j]?:=fun j=>by
  rw[LX];by_cases z:i=j
  ·subst z;simp[hi]
  ·rw[IY z,IY (fun q=>z q.symm)]
 have pi:F.P i=none:=k0.2.2.2.1;refine⟨⟨by rw[JE];exact l.len,fun j s' e'=>?_,fun j k s1 s2 c1 c2 e1 e2 b1 b2 q=>?_,fun j a p=>?_,fun b z=>⟨l.bc b z,by rintro rfl;exact hc z⟩,fun b z=>l.eR b z.1,l.old,fun a ws ga=>?_⟩,rp⟩
 ·rw[get] at e';by_cases z:j=i
  ·subst z;rw[Ja rfl] at e';cases e';exact⟨_,k0.1,rp⟩
  ·rw[IY z] at e';have k:=l.slot j s' e';have ne:∀ d,s'.box=some d->ad j≠ad i:=fun d hd q=>z (l.inj j i s' _ d c e' e hd rfl q);unfold ia at k ⊢
   split at k
   ·trivial
   ·obtain⟨v,e1,r1⟩:=k;exact⟨v,e1,r1.fr (Fr.less fun _ z=>z.1)⟩
   ·obtain⟨e1,b,z0,p,x⟩:=k;exact⟨e1,⟨b,ne _ rfl⟩,z0,p,x.of rfl (Fr.less fun _ z=>z.1)⟩
   ·obtain⟨e1,b,p,x⟩:=k;exact⟨e1,⟨b,ne _ rfl⟩,p,x.of rfl (Fr.less fun _ z=>z.1)⟩
 ·rw[get] at e1 e2;by_cases z:j=i
  ·rw[Ja z] at e1;cases e1;cases b1
  ·by_cases z2:k=i
   ·rw[Ja z2] at e2;cases e2;cases b2
   ·rw[IY z] at e1;rw[IY z2] at e2;exact l.inj j k _ _ _ _ e1 e2 b1 b2 q
 ·obtain⟨⟨d,hd⟩,ha⟩:=l.par j a p;refine⟨⟨d,?_⟩,ha⟩;rw[get];by_cases z:j=i
  ·subst z;rw[pi] at p;cases p
  ·rw[IY z];exact hd
 ·obtain⟨g1,g2,g3⟩:=l.gh a ws ga;refine⟨g1,⟨g2,(g3 i _ c e rfl).symm⟩,fun j s' d e' b'=>?_⟩;rw[get] at e';by_cases z:j=i
  ·rw[Ja z] at e';cases e';cases b'
  ·rw[IY z] at e';exact g3 j s' d e' b'
end
abbrev UE:=Mu->(R->Mu->Prop)->Prop
variable{ue:UE}
abbrev UT:=Mu->(Bool->Mu->Prop)->Prop
abbrev UA:=Mu->(List R->Mu->Prop)->Prop
variable{us:UA}
abbrev UO:=Mu->(Option Int->Mu->Prop)->Prop
abbrev U2:=R->R->Mu->(R->Mu->Prop)->Prop
variable{u:U2}
abbrev UC:=List R->Mu->(R->Mu->Prop)->Prop
structure Ed where
 nx:Mu->Prop
 rt:R->Mu->Prop
 bk:Mu->Prop:=fun _=>False
 ct:Mu->Prop:=fun _=>False
abbrev US:=Ed->Mu->Prop
def Bv(B:bf)(v:V):R->bf
 |.fr _=>(match v with|.ref a=>more B a|_=>B)
 |_=>B
theorem Fr.d{v:V}{r:R}(f:Fr B H (Bv B v r) H'):Fr B H B H':=fun b o h n=>⟨(f b o h n).1,n⟩
def RE(K:Oe)(te:TE)(ue:UE):Prop:=∀(F:Fx) (ad:Nat->Addr) (B:bf) (σ:St) (H:Hp) (μ:Mu) (Q:VK) (Qt:R->Mu->Prop),F.K=K->Rl F ad B σ H μ->ue μ Qt ->
 (∀ v H' r μ',Vr F ad B σ H' μ' v r->Fr B H (Bv B v r) H'->Kp μ μ'->Qt r μ'->Q v H')->te σ H Q
def RT(K:Oe)(tt:TT)(ut:UT):Prop:=∀(F:Fx) (ad:Nat->Addr) (B:bf) (σ:St) (H:Hp) (μ:Mu) (Q:Bool->Hp->Prop) (Qt:Bool->Mu->Prop),F.K=K->Rl F ad B σ H μ->ut μ Qt ->
 (∀ b H' μ',Rl F ad B σ H' μ'->Fr B H B H'->Kp μ μ'->Qt b μ'->Q b H')->tt σ H Q
def RA(K:Oe)(ta:TA)(ua:UA):Prop:=∀(F:Fx) (ad:Nat->Addr) (B:bf) (σ:St) (H:Hp) (μ:Mu) (Q:List V->Hp->Prop) (Qt:List R->Mu->Prop),F.K=K->Rl F ad B σ H μ->ua μ Qt ->
 (∀ vs H' rs μ',Rl F ad B σ H' μ'->Paired (Hv F ad B H' μ') vs rs->Fr B H B H'->Kp μ μ'->Qt rs μ'->Q vs H')->ta σ H Q
def RO(K:Oe)(tt:TO)(ut:UO):Prop:=∀(F:Fx) (ad:Nat->Addr) (B:bf) (σ:St) (H:Hp) (μ:Mu) (Q:Option Int->Hp->Prop) (Qt:Option Int->Mu->Prop),F.K=K->Rl F ad B σ H μ->ut μ Qt ->
 (∀ b H' μ',Rl F ad B σ H' μ'->Fr B H B H'->Kp μ μ'->Qt b μ'->Q b H')->tt σ H Q
def jw(K:Oe)(r:R2)(u:U2):Prop:=∀(F:Fx) (ad:Nat->Addr) (B:bf) (σ:St) (H:Hp) (μ:Mu) (Q:VK) (Qt:R->Mu->Prop) (x y:V) (r1 r2:R),F.K=K->Rl F ad B σ H μ->Hv F ad B H μ x r1->Hv F ad B H μ y r2->u r1 r2 μ Qt ->
 (∀ v H' r μ',Vr F ad B σ H' μ' v r->Fr B H (Bv B v r) H'->Kp μ μ'->Qt r μ'->Q v H')->r x y H Q
def RC(K:Oe)(r:List V->Hp->VK->Prop)(u:UC):Prop:=∀(F:Fx) (ad:Nat->Addr) (B:bf) (σ:St) (H:Hp) (μ:Mu) (Q:VK) (Qt:R->Mu->Prop) (xs:List V) (rs:List R),F.K=K->Rl F ad B σ H μ->Paired (Hv F ad B H μ) xs rs->u rs μ Qt ->
 (∀ v H' r μ',Vr F ad B σ H' μ' v r->Fr B H (Bv B v r) H'->Kp μ μ'->Qt r μ'->Q v H')->r xs H Q
section
variable {F:Fx} {ad:Nat->Addr} {B:bf} {σ:St} {H:Hp} {μ:Mu} {Q:VK} {Qt:R->Mu->Prop}
theorem Vr.flat{v:V}(l:Rl F ad B σ H μ)(r:Rep F.K H B v t):Vr F ad B σ H μ v (.tr t):=⟨l,r⟩
theorem Vr.eX(l:Rl F ad B σ H μ)(r:ao F.K H B vs ts)(e:H p=none):Vr F ad B σ (upd H p (.lst vs)) μ (.ref p) (.fr (.lst ts)):=
 ⟨l.same (cq.new e),p,rfl,l.lZ e,l.zZ e,l.new e,vs,ai,r.fr (Fr.more e)⟩
theorem Vr.tW(l:Rl F ad B σ H μ)(r:ao F.K H B vs ts)(e:H p=none):Vr F ad B σ (upd H p (.tup vs)) μ (.ref p) (.tr (.tup ts)):=
 ⟨l.same (cq.new e),.tup (l.lZ e) ai (r.fr (Fr.same (cq.new e)))⟩
end
structure YE (X:Cx) (e:Expr) (u:UE):Prop where
 ex:∃ t,QE X e t/\RE X.K t u
structure YT (X:Cx) (e:Expr) (u:UT):Prop where
 ex:∃ t,QT X e t/\RT X.K t u
structure YW (X:Cx) (e:Expr) (u:UT):Prop where
 ex:∃ t,QW X e t/\RT X.K t u
structure YA (X:Cx) (es:List Expr) (u:UA):Prop where
 ex:∃ t,QA X es t/\RA X.K t u
structure YO (X:Cx) (e:Option Expr) (u:UO):Prop where
 ex:∃ t,QO X e t/\RO X.K t u
structure AB (X:Cx) (es:List Expr) (u:UT):Prop where
 ex:∃ t,DM X es t/\RT X.K t u
namespace Y
def uC(t:T):UE:=fun μ Q=>Q (.tr t) μ
def jS(i:Nat):UE:=fun μ Q=>match μ[i]? with
 |some (.tr t)=>Q (.tr t) μ
 |some (.bx _)=>Q (.br i) μ
 |some (.pb _)=>Q (.br i) μ
 |_=>False
def gA(u:U2)(ua ub:UE):UE:=fun μ Q=>ua μ fun r1 μ1=>ub μ1 fun r2 μ2=>u r1.d r2.d μ2 Q
section
variable {X:Cx} {a b c e o:Expr} {es rest:List Expr} {ua ub uc ue uo:UE} {uA uB:UT} {us:UA} {pos p p2:Pos} {x:Str}
theorem D7{v:V}(h:∀ H B,Rep K H B v t):RE K (tC v) (uC t):=fun F ad B σ H μ Q Qt hK l q k=>k v H (.tr t) μ ⟨l,show Rep F.K H B v t from hK ▸ h H B⟩ Fr.refl (Kp.refl μ) q
theorem int{i:Int}:YE X (.Constant (.int i) j pos) (uC (.int i)):=⟨_,Z.int,D7 fun _ _=>.int i⟩
theorem bl{i:Bool}:YE X (.Constant (.bool i) j pos) (uC (.bl i)):=⟨_,Z.bl,D7 fun _ _=>.bl i⟩
theorem aL:YE X (.Constant .none j pos) (uC .aL):=⟨_,Z.aL,D7 fun _ _=>.aL⟩
theorem v(i:Nat)(hN:X.N[i]?=some x:=by rfl)(hv:C1 X.env.scope x:=by first|exact Or.inl rfl|exact Or.inr (Or.inl rfl)|exact Or.inr (Or.inr rfl))(hd:(x ==("__debug__":Str))=false:=by decide)
  (hcd:(x ==("__classdict__":Str))=false:=by decide):YE X (.Name x pos) (jS i):=by
 refine⟨_,Z.v i hN hv hd hcd,fun F ad B σ H μ Q Qt hK l q k=>?_⟩;unfold jS at q
 split at q
 ·rename_i t e;obtain⟨v,e1,r⟩:=l.slot i _ e;exact⟨v,e1,k v H (.tr t) μ ⟨l,r⟩ Fr.refl (Kp.refl μ) q⟩
 ·rename_i t e;have r:=l.slot i _ e;exact⟨_,r.1,k _ H (.br i) μ ⟨l,rfl,_,_,e,rfl⟩ Fr.refl (Kp.refl μ) q⟩
 ·rename_i t e;have r:=l.slot i _ e;exact⟨_,r.1,k _ H (.br i) μ ⟨l,rfl,_,_,e,rfl⟩ Fr.refl (Kp.refl μ) q⟩
 ·exact q.elim
theorem rP{r:R2}{ta tb:TE}(h:jw K r u)(ha:RE K ta ua)(hb:RE K tb ub):RE K (pE r ta tb) (gA u ua ub):=fun F ad B σ H μ Q Qt hK l q k =>
 ha F ad B σ H μ _ _ hK l q fun x H1 r1 μ1 v1 f1 k1 q1=>hb F ad B σ H1 μ1 _ _ hK v1.rl q1 fun y H2 r2 μ2 v2 f2 k2 q2 =>
  h F ad B σ H2 μ2 _ _ x y r1.d r2.d hK v2.rl (v1.hv.fr f2.d k2) v2.hv q2 fun v H' r μ' v3 f3 k3 q3=>k v H' r μ' v3 ((f1.d.trans f2.d).trans f3) ((k1.trans k2).trans k3) q3
theorem op{o:Operator}{r:R2}(ho:cT X (binaryOp o) r)(h:jw X.K r u)(ha:YE X a ua)(hb:YE X b ub):YE X (.BinOp a o b pos) (gA u ua ub):=by
 obtain⟨ta,qa,ra⟩:=ha;obtain⟨tb,qb,rb⟩:=hb;exact⟨_,Z.op ho qa qb,rP h ra rb⟩
theorem cmp{o:CmpOp}{r:R2}(ho:cT X (compareOp o) r)(h:jw X.K r u)(ha:YE X a ua)(hb:YE X b ub)(hm:behindInMarks o b=false:=by rfl):YE X (.Compare a [o] [b] pos) (gA u ua ub):=by
 obtain⟨ta,qa,ra⟩:=ha;obtain⟨tb,qb,rb⟩:=hb;exact⟨_,Z.cmp ho qa qb hm,rP h ra rb⟩
theorem ix{r:R2}(hr:qV X r)(h:jw X.K r u)(ha:YE X a ua)(hb:YE X b ub)(hs:Z.sim b=true:=by rfl):YE X (.Subscript a b pos) (gA u ua ub):=by
 obtain⟨ta,qa,ra⟩:=ha;obtain⟨tb,qb,rb⟩:=hb;exact⟨_,Z.ix hr qa qb hs,rP h ra rb⟩
def kh(ue:UE):UT:=fun μ Q=>ue μ fun r μ'=>match r with
 |.tr (.bl b)=>Q b μ'
 |_=>False
theorem qJ{t:TE}(h:RE K t ue):RT K (fu t) (kh ue):=fun F ad B σ H μ Q Qt hK l q k =>
 h F ad B σ H μ _ _ hK l q fun v H' r μ' v1 f k1 q1=>by
  split at q1
  ·rename_i b;have rp:=v1.2;cases rp;exact⟨b,rfl,k b H' μ' v1.rl f.d k1 q1⟩
  ·exact q1.elim
theorem cx{o:CmpOp}{r:R2}(ho:cT X (compareOp o) r)(h:jw X.K r u)(ha:YE X a ua)(hb:YE X b ub)(hm:behindInMarks o b=false:=by rfl):YT X (.Compare a [o] [b] pos) (kh (gA u ua ub)):=by
 obtain⟨ta,qa,ra⟩:=ha;obtain⟨tb,qb,rb⟩:=hb;exact⟨_,Z.cx ho qa qb hm,qJ (rP h ra rb)⟩
def jx(u u':U2)(ua ub uc:UE):UE:=fun μ Q=>ua μ fun r1 μ1=>ub μ1 fun r2 μ2=>u r1.d r2.d μ2 fun z μ3=>match z with
 |.tr (.bl true)=>uc μ3 fun r3 μ4=>u' r2.d r3.d μ4 Q
 |.tr (.bl false)=>Q (.tr (.bl false)) μ3
 |_=>False
theorem ya{r:R2}{u':U2}{ta tb tc:TE}(h:jw K r u)(h':jw K r' u')(ha:RE K ta ua)(hb:RE K tb ub)(hc:RE K tc uc):RE K (oF r r' ta tb tc) (jx u u' ua ub uc):=fun F ad B σ H μ Q Qt hK l q k =>
 ha F ad B σ H μ _ _ hK l q fun x H1 r1 μ1 v1 f1 k1 q1=>hb F ad B σ H1 μ1 _ _ hK v1.rl q1 fun y H2 r2 μ2 v2 f2 k2 q2 =>
  h F ad B σ H2 μ2 _ _ x y r1.d r2.d hK v2.rl (v1.hv.fr f2.d k2) v2.hv q2 fun v H3 r3 μ3 v3 f3 k3 q3=>by
   split at q3
   ·have rp:=v3.2;cases rp;refine⟨true,rfl,?_⟩;rw[Ja rfl];exact hc F ad B σ H3 μ3 _ _ hK v3.rl q3 fun w' H4 r4 μ4 v4 f4 k4 q4=>h' F ad B σ H4 μ4 _ _ y w' r2.d r4.d hK v4.rl (v2.hv.fr (f3.d.trans f4.d) (k3.trans k4)) v4.hv q4 fun v5 H5 r5 μ5 v6 f5 k5 q5 =>
     k v5 H5 r5 μ5 v6 ((((f1.d.trans f2.d).trans f3.d).trans f4.d).trans f5) ((((k1.trans k2).trans k3).trans k4).trans k5) q5
   ·have rp:=v3.2;cases rp;refine⟨false,rfl,?_⟩;rw[IY Jd];exact k _ H3 _ μ3 (Vr.flat v3.rl (.bl false)) ((f1.d.trans f2.d).trans f3.d) ((k1.trans k2).trans k3) q3
   ·exact q3.elim
theorem mh{o o':CmpOp}{r:R2}{u':U2}(ho:cT X (compareOp o) r)(h:jw X.K r u)(ho':cT X (compareOp o') r')(h':jw X.K r' u')(ha:YE X a ua)(hb:YE X b ub)(hc:YE X c uc)(hm:lastMarks [o,o'] [b,c]=false:=by with_unfolding_all rfl):YT X (.Compare a [o,o'] [b,c] pos) (kh (jx u u' ua ub uc)):=by
 obtain⟨ta,qa,ra⟩:=ha;obtain⟨tb,qb,rb⟩:=hb;obtain⟨tc,qc,rc⟩:=hc;exact⟨_,Z.mh ho ho' qa qb qc hm,qJ (ya h h' ra rb rc)⟩
def Ax(ut:UT):UT:=fun μ Q=>ut μ fun b μ'=>Q (!b) μ'
theorem lu(ha:YT X a uA):YT X (.UnaryOp .Not a pos) (Ax uA):=by
 obtain⟨ta,qa,ra⟩:=ha;exact⟨_,Z.lu qa,fun F ad B σ H μ Q Qt hK l q k=>ra F ad B σ H μ _ _ hK l q fun b H' μ' l' f k1 q1=>k _ H' μ' l' f k1 q1⟩
theorem tw(h:YW X e uA):YT X e uA:=by
 obtain⟨t,q,r⟩:=h;exact⟨t,Z.tw q,r⟩
theorem kB(ha:YT X a uA):YW X (.BoolOp .And [a] pos) uA:=by obtain⟨t,q,r⟩:=ha;exact⟨t,Z.kB q,r⟩
theorem p0(ha:YT X a uA):YW X (.BoolOp .Or [a] pos) uA:=by obtain⟨t,q,r⟩:=ha;exact⟨t,Z.p0 q,r⟩
def vT(u w:UT):UT:=fun μ Q=>u μ fun b μ'=>if b=true then w μ' Q else Q false μ'
def EL(u w:UT):UT:=fun μ Q=>u μ fun b μ'=>if b=true then Q true μ' else w μ' Q
theorem Dc{t u:TT}(ha:RT K t uA)(hb:RT K u uB):RT K (mG t u) (vT uA uB):=fun F ad B σ H μ Q Qt hK l q k=>ha F ad B σ H μ _ _ hK l q fun b H' μ' l' f k1 q1=>by
 cases b with
 |true=>rw[Ja rfl] at q1 ⊢;exact hb F ad B σ H' μ' _ _ hK l' q1 fun b2 H2 μ2 l2 f2 k2 q2=>k b2 H2 μ2 l2 (f.trans f2) (k1.trans k2) q2
 |false=>rw[IY Jd] at q1 ⊢;exact k _ H' μ' l' f k1 q1
theorem Fy{t u:TT}(ha:RT K t uA)(hb:RT K u uB):RT K (DL t u) (EL uA uB):=fun F ad B σ H μ Q Qt hK l q k=>ha F ad B σ H μ _ _ hK l q fun b H' μ' l' f k1 q1=>by
 cases b with
 |false=>rw[IY Jd] at q1 ⊢;exact hb F ad B σ H' μ' _ _ hK l' q1 fun b2 H2 μ2 l2 f2 k2 q2=>k b2 H2 μ2 l2 (f.trans f2) (k1.trans k2) q2
 |true=>rw[Ja rfl] at q1 ⊢;exact k _ H' μ' l' f k1 q1
theorem mQ(ha:YT X a uA)(hb:YW X (.BoolOp .And (b::rest) pos) uB):YW X (.BoolOp .And (a::b::rest) pos) (vT uA uB):=by
 obtain⟨t,q,r⟩:=ha;obtain⟨t',q',r'⟩:=hb;exact⟨_,Z.mQ q q',Dc r r'⟩
theorem An(ha:YT X a uA)(hb:YW X (.BoolOp .Or (b::rest) pos) uB):YW X (.BoolOp .Or (a::b::rest) pos) (EL uA uB):=by
 obtain⟨t,q,r⟩:=ha;obtain⟨t',q',r'⟩:=hb;exact⟨_,Z.An q q',Fy r r'⟩
def mV(ue:UE):UT:=fun μ Q=>ue μ fun r μ'=>match r with
 |.tr (.bl b)=>Q b μ'
 |.tr (.int i)=>Q (i != 0) μ'
 |_=>False
theorem yw(K:Oe)(hK:X.K=K)(ha:YE X a ua)(he:Z.G9 a=true:=by rfl):YT X a (mV ua):=by
 obtain⟨t,q,r⟩:=ha;refine⟨_,Z.yw K hK q he,fun F ad B σ H μ Q Qt hK l q k=>r F ad B σ H μ _ _ hK l q fun v H' r1 μ' v1 f k1 q1=>?_⟩
 split at q1
 ·have rp:=v1.2;cases rp;exact⟨_,(Ap.Ht ..).symm ▸ rfl,k _ H' μ' v1.rl f.d k1 q1⟩
 ·have rp:=v1.2;cases rp;exact⟨_,(Ap.GS ..).symm ▸ rfl,k _ H' μ' v1.rl f.d k1 q1⟩
 ·exact q1.elim
def qW(ua ub:UE):UE:=fun μ Q=>ua μ fun r μ'=>match r with
 |.tr (.bl true)=>ub μ' Q
 |.tr (.bl false)=>Q (.tr (.bl false)) μ'
 |_=>False
theorem and(ha:YE X a ua)(hb:YE X (.BoolOp .And (b::rest) pos) ub):YE X (.BoolOp .And (a::b::rest) pos) (qW ua ub):=by
 obtain⟨t,q,r⟩:=ha;obtain⟨t',q',r'⟩:=hb;refine⟨_,Z.and q q',fun F ad B σ H μ Q Qt hK l q k=>r F ad B σ H μ _ _ hK l q fun v H' r1 μ' v1 f k1 q1=>?_⟩
 split at q1
 ·have rp:=v1.2;cases rp;refine⟨_,rfl,?_⟩;rw[Ja rfl];exact r' F ad B σ H' μ' _ _ hK v1.rl q1 fun v2 H2 r2 μ2 v3 f2 k2 q2=>k v2 H2 r2 μ2 v3 (f.d.trans f2) (k1.trans k2) q2
 ·have rp:=v1.2;cases rp;refine⟨_,rfl,?_⟩;rw[IY Jd];exact k _ H' _ μ' (Vr.flat v1.rl (.bl _)) f.d k1 q1
 ·exact q1.elim
theorem one{o:BoolOp}(ha:YE X a ua):YE X (.BoolOp o [a] pos) ua:=by obtain⟨t,q,r⟩:=ha;exact⟨t,Z.one q,r⟩
def yj(ue:UE):UE:=fun μ Q=>ue μ fun r μ'=>match r with
 |.tr (.int i)=>Q (.tr (.int (-i))) μ'
 |_=>False
theorem neg(ha:YE X a ua):YE X (.UnaryOp .USub a pos) (yj ua):=by
 obtain⟨t,q,r⟩:=ha;refine⟨_,Z.un u7 q,fun F ad B σ H μ Q Qt hK l q k=>r F ad B σ H μ _ _ hK l q fun v H' r1 μ' v1 f k1 q1=>?_⟩
 split at q1
 ·have rp:=v1.2;cases rp;exact⟨_,rfl,k _ H' _ μ' (Vr.flat v1.rl (.int _)) f.d k1 q1⟩
 ·exact q1.elim
def pH:UA:=fun μ Q=>Q [] μ
def fk(ue:UE)(us:UA):UA:=fun μ Q=>ue μ fun r μ1=>us μ1 fun rs μ2=>Q (r.d::rs) μ2
def uK(ts:List T):UA:=fun μ Q=>Q (ts.map R.tr) μ
theorem nil:YA X [] pH:=⟨_,Z.nil,fun F ad B σ H μ Q Qt hK l q k=>k [] H [] μ l .nil Fr.refl (Kp.refl μ) q⟩
theorem cons(ha:YE X e ue)(hr:YA X es us)(h:cN e=true:=by rfl):YA X (e::es) (fk ue us):=by
 obtain⟨t,q,r⟩:=ha;obtain⟨t',q',r'⟩:=hr;exact⟨_,Z.cons q q' h,fun F ad B σ H μ Q Qt hK l q k=>r F ad B σ H μ _ _ hK l q fun v H' r1 μ' v1 f k1 q1=>r' F ad B σ H' μ' _ _ hK v1.rl q1 fun vs H2 rs μ2 l2 ps f2 k2 q2 =>
  k (v::vs) H2 (r1.d::rs) μ2 l2 (.cons (v1.hv.fr f2 k2) ps) (f.d.trans f2) (k1.trans k2) q2⟩
def xZ:V->Option T
 |.aL=>some .aL
 |.bl b=>some (.bl b)
 |.int i=>some (.int i)
 |.str x=>some (.str x)
 |_=>none
theorem wV{v:V}(h:xZ v=some t):Rep K H B v t:=by
 unfold xZ at h
 split at h
 ·cases h;exact .aL
 ·cases h;exact .bl _
 ·cases h;exact .int _
 ·cases h;exact .str _
 ·cases h
theorem consts(h:kQ es=some vs)(h2:vs.map xZ=ts.map some):YA X es (uK ts):=by
 refine⟨_,Z.consts h,fun F ad B σ H μ Q Qt hK l q k=>k vs H _ μ l ?_ Fr.refl (Kp.refl μ) q⟩;clear h q k
 induction vs generalizing ts with
 |nil=>cases ts with
  |nil=>exact .nil
  |cons t ts=>cases h2
 |cons v vs ih=>cases ts with
  |nil=>cases h2
  |cons t ts =>
   rw[Jm,Jm] at h2
   injection h2 with e1 e2
   exact .cons (wV e1) (ih e2)
def trees:List R->Option (List T)
 |[]=>some []
 |.tr t::rs=>(trees rs).map (t::·)
 |_=>none
theorem i3:∀{vs:List V} {rs:List R} {ts:List T},Paired (Hv F ad B H μ) vs rs->trees rs=some ts->ao F.K H B vs ts
 |_,_,_,.nil,e=>by cases e;exact .nil
 |_,r::rs,ts,.cons h p,e=>by
  cases r with
  |tr t =>
   unfold trees at e
   cases q:trees rs with
   |none=>rw[q] at e;cases e
   |some us=>rw[q] at e;cases e;exact .cons h (i3 p q)
  |br i=>cases e
  |fr c=>cases e
def t4(us:UA):UE:=fun μ Q=>us μ fun rs μ'=>match trees rs with
 |some ts=>ts.length<=sizeLine/\Q (.tr (.tup ts)) μ'
 |none=>False
def xS(us:UA):UE:=fun μ Q=>us μ fun rs μ'=>match trees rs with
 |some ts=>ts.length<=sizeLine/\Q (.fr (.lst ts)) μ'
 |none=>False
theorem tup{k:Nat}(h:YA X es us):YE X (.Tuple es k pos) (t4 us):=by
 obtain⟨t,q,r⟩:=h;refine⟨_,Z.tup q,fun F ad B σ H μ Q Qt hK l q k=>r F ad B σ H μ _ _ hK l q fun vs H' rs μ' l1 ps f k1 q1=>?_⟩
 split at q1
 ·rename_i ts e;have rp:=i3 ps e;exact⟨by rw[rp.length];exact q1.1,fun p hp=>k _ _ _ μ' (Vr.tW l1 rp hp) (f.trans (Fr.same (cq.new hp))) k1 q1.2⟩
 ·exact q1.elim
theorem lst(h:YA X es us):YE X (.List es pos) (xS us):=by
 obtain⟨t,q,r⟩:=h;refine⟨_,Z.lst q,fun F ad B σ H μ Q Qt hK l q k=>r F ad B σ H μ _ _ hK l q fun vs H' rs μ' l1 ps f k1 q1=>?_⟩
 split at q1
 ·rename_i ts e;have rp:=i3 ps e;exact⟨by rw[rp.length];exact q1.1,fun p hp=>k _ _ _ μ' (Vr.eX l1 rp hp) (f.trans (Fr.more hp)) k1 q1.2⟩
 ·exact q1.elim
def AV(u:UC)(us:UA):UE:=fun μ Q=>us μ fun rs μ'=>u rs μ' Q
theorem rE{u:UC}{t:TA}(h:RC K r u)(ha:RA K t us):RE K (uq r t) (AV u us):=fun F ad B σ H μ Q Qt hK l q k =>
 ha F ad B σ H μ _ _ hK l q fun vs H' rs μ' l1 ps f k1 q1=>h F ad B σ H' μ' _ _ vs rs hK l1 ps q1 fun v H2 r2 μ2 v2 f2 k2 q2=>k v H2 r2 μ2 v2 (f.trans f2) (k1.trans k2) q2
theorem cb{id:String}{u:UC}(hc:aT X (.builtin id) r)(h:RC X.K r u)(hg:Gl X x)(hm:X.mg x=none)(hv:bootBuiltins x=some (.builtin id))(ha:YA X (e::es) us)(h1:cN e=true:=by rfl)(h2:es.all cN=true:=by rfl)(hn:x≠"__name__":=by decide)(hdb:(x ==("__debug__":Str))=false:=by decide):
  YE X (.Call (.Name x p) (e::es) [] pos) (AV u us):=by
 obtain⟨t,q,rr⟩:=ha;exact⟨_,Z.cb hc hg hm hv q h1 h2 hn hdb,rE h rr⟩
theorem ct{T:String}{u:UC}(hc:aT X (.type T) r)(h:RC X.K r u)(hg:Gl X x)(hm:X.mg x=none)(hv:bootBuiltins x=some (.type T))(ha:YA X (e::es) us)(h1:cN e=true:=by rfl)(h2:es.all cN=true:=by rfl)(hn:x≠"__name__":=by decide)(hdb:(x ==("__debug__":Str))=false:=by decide):
  YE X (.Call (.Name x p) (e::es) [] pos) (AV u us):=by
 obtain⟨t,q,rr⟩:=ha;exact⟨_,Z.ct hc hg hm hv q h1 h2 hn hdb,rE h rr⟩
def ip:UO:=fun μ Q=>Q none μ
def qu(ue:UE):UO:=fun μ Q=>ue μ fun r μ'=>match r with
 |.tr (.int i)=>Q (some i) μ'
 |_=>False
theorem kN:YO X none ip:=⟨_,Z.kN,fun F ad B σ H μ Q Qt hK l q k=>k none H μ l Fr.refl (Kp.refl μ) q⟩
theorem kA(he:YE X e ue):YO X (some e) (qu ue):=by
 obtain⟨t,q,r⟩:=he;refine⟨_,Z.kA q,fun F ad B σ H μ Q Qt hK l q k=>r F ad B σ H μ _ _ hK l q fun v H' r1 μ' v1 f k1 q1=>?_⟩
 split at q1
 ·have rp:=v1.2;cases rp;exact⟨_,rfl,k _ H' μ' v1.rl f.d k1 q1⟩
 ·exact q1.elim
end
end Y
namespace Y
def uu(f:T->T->Mu->(R->Mu->Prop)->Prop):U2:=fun r1 r2 μ Q=>match cont μ r1,cont μ r2 with
 |some t,some u=>f t u μ Q
 |_,_=>False
theorem fw{r:R2}{f:T->T->Mu->(R->Mu->Prop)->Prop}
  (h:∀(F:Fx) (ad:Nat->Addr) (B:bf) (σ:St) (H:Hp) (μ:Mu) (Q:VK) (Qt:R->Mu->Prop) (x y:V) (t u:T),F.K=K->Rl F ad B σ H μ->Vw F.K H B x t->Vw F.K H B y u->f t u μ Qt ->
   (∀ v H' r,Vr F ad B σ H' μ v r->Fr B H (Bv B v r) H'->Qt r μ->Q v H')->r x y H Q):jw K r (uu f):=by
 intro F ad B σ H μ Q Qt x y r1 r2 hK l h1 h2 q k;unfold uu at q
 split at q
 ·rename_i t u e1 e2;exact h F ad B σ H μ Q Qt x y t u hK l (h1.vw l e1) (h2.vw l e2) q fun v H' r v1 s q1=>k v H' r μ v1 s (Kp.refl μ) q1
 ·exact q.elim
def vj(C:Int->Int->Prop)(g:Int->Int->Int):T->T->Mu->(R->Mu->Prop)->Prop:=fun t u μ Q=>match t,u with
 |.int i,.int j=>C i j/\Q (.tr (.int (g i j))) μ
 |_,_=>False
theorem bK{C:Int->Int->Prop}{g:Int->Int->Int}:jw K (rI C fun i j=>.int (g i j)) (uu (vj C g)):=fw fun F ad B σ H μ Q Qt x y t u hK l v1 v2 q k=>by
 unfold vj at q
 split at q
 ·cases v1;cases v2
  exact⟨_,_,rfl,rfl,q.1,k _ H _ (Vr.flat l (.int _)) Fr.refl q.2⟩
 ·exact q.elim
theorem bM{g:Int->Int->Int}:jw K (qE fun i j=>.int (g i j)) (uu (vj (fun _ _=>True) g)):=fw fun F ad B σ H μ Q Qt x y t u hK l v1 v2 q k=>by
 unfold vj at q
 split at q
 ·cases v1;cases v2
  exact⟨_,_,rfl,rfl,k _ H _ (Vr.flat l (.int _)) Fr.refl q.2⟩
 ·exact q.elim
def GU(g:Int->Int->Bool):T->T->Mu->(R->Mu->Prop)->Prop:=fun t u μ Q=>match t,u with
 |.int i,.int j=>Q (.tr (.bl (g i j))) μ
 |_,_=>False
theorem d8{g:Int->Int->Bool}:jw K (qE fun i j=>.bl (g i j)) (uu (GU g)):=fw fun F ad B σ H μ Q Qt x y t u hK l v1 v2 q k=>by
 unfold GU at q
 split at q
 ·cases v1;cases v2
  exact⟨_,_,rfl,rfl,k _ H _ (Vr.flat l (.bl _)) Fr.refl q⟩
 ·exact q.elim
def AZ(K:Oe):R2:=fun x y H Q=>∃ a b xs ys,x=.ref a/\y=.ref b/\b8 K H a xs/\b8 K H b ys/\xs.length+ys.length<=sizeLine /\
 (xs=[]->Q (.ref b) H)/\(xs≠[]->ys=[]->Q (.ref a) H)/\(xs≠[]->ys≠[]->∀ p,H p=none->Q (.ref p) (upd H p (.tup (xs++ys))))
theorem vI{t b:Addr}{ws:List Value}(ht:IsTup s.heap t ([]:List Value).toArray)(hb:IsTup s.heap b ws.toArray)(h0:Q (.ref b) s):wpAny (model prog w) A (binaryOp .Add (.ref t) (.ref b)) Q E s:=by
 obtain⟨⟨cls,dd,data,sl⟩,ho,hc,n,hd⟩:=id ht;obtain⟨⟨cls2,dd2,data2,sl2⟩,ho2,hc2,n2,hd2⟩:=id hb;simp only at hc hd hc2 hd2;subst hc hd hc2 hd2;exact concat_meets ⟨_,ho,rfl⟩ ⟨_,ho2,rfl⟩ noFill_tuple_add seq_tuple_add PySem.F.slot_tuple_add PySem.F.entry_tuple_add (PySem.F.args_tuple_add_2 _ _)
   (tuple_addW0 t b _ ws.toArray n n2 dd dd2 sl sl2 (by simp)) ⟨ho,ho2,h0⟩
theorem zT:cT X (binaryOp .Add) (AZ X.K):=by
 intro pins s σ H x y v u Q I rx ry h;obtain⟨a,b,xs,ys,rfl,rfl,ha,hb,hz,q0,q1,q2⟩:=h;by_cases hx:xs=[]
 ·subst hx
  cases rx;cases ry
  obtain⟨its,r1,p1,_⟩:=I.tuple ha;obtain⟨its2,r2,p2,_⟩:=I.tuple hb;cases r1;exact vI p1 p2 ⟨.ref b,H,I,rfl,q0 rfl⟩
 ·exact rM pins s σ H _ _ v u Q I rx ry ⟨a,b,xs,ys,rfl,rfl,ha,hb,hx,hz,q1 hx,q2 hx⟩
def wX(K:Oe):R2:=fun x y H Q=>(∃ i j,x=.int i/\y=.int j/\Q (.int (i+j)) H)\/(∃ i j,x=.str i/\y=.str j/\i.length+j.length<=sizeLine/\Q (.str (i++j)) H)\/E7 x y H Q\/AZ K x y H Q
theorem ak(K:Oe)(hK:X.K=K):cT X (binaryOp .Add) (wX K):=by subst hK;exact wI.or (iR.or (x5.or zT))
def cE{v:V}(h:Hv F ad B H μ v (.tr t)):Rep F.K H B v t:=h
def gg:U2:=fun r1 r2 μ Q=>match cont μ r1,cont μ r2 with
 |some (.int i),some (.int j)=>Q (.tr (.int (i+j))) μ
 |some (.str i),some (.str j)=>i.length+j.length<=sizeLine/\Q (.tr (.str (i++j))) μ
 |some (.lst xs),some (.lst ys)=>xs.length+ys.length<=sizeLine/\Q (.fr (.lst (xs++ys))) μ
 |some (.tup xs),some (.tup ys)=>xs.length+ys.length<=sizeLine/\Q (.tr (.tup (xs++ys))) μ
 |_,_=>False
theorem Hv.yV{v:V}{r:R}{xs:List T}(l:Rl F ad B σ H μ)(h:Hv F ad B H μ v r)(e:cont μ r=some (.tup xs)):Rep F.K H B v (.tup xs):=by
 cases r with
 |tr t=>cases e;exact h
 |br i =>
  obtain⟨rfl,s,c,h1,h2⟩:=h;have e2:(μ[i]?).bind Sl.box=some (.tup xs):=e;rw[h1] at e2;have e':s.box=some (.tup xs):=e2;rcases ((l.slot i s h1).boxed e').2.2.1.is with ⟨ts,vs,z,_⟩|⟨ks,ts,vs,z,_⟩<;>cases z
 |fr c=>exact h.elim
theorem BD:jw K (wX K) gg:=by
 intro F ad B σ H μ Q Qt x y r1 r2 hK l h1 h2 q k;subst hK;unfold gg at q
 split at q
 ·rename_i i j e1 e2;have a:=h1.vw l e1;have b:=h2.vw l e2
  cases a;cases b
  exact .inl ⟨_,_,rfl,rfl,k _ H _ μ (Vr.flat l (.int _)) Fr.refl (Kp.refl μ) q⟩
 ·rename_i i j e1 e2;have a:=h1.vw l e1;have b:=h2.vw l e2
  cases a;cases b
  exact .inr (.inl ⟨_,_,rfl,rfl,q.1,k _ H _ μ (Vr.flat l (.str _)) Fr.refl (Kp.refl μ) q.2⟩)
 ·rename_i xs ys e1 e2;have a:=h1.vw l e1;have b:=h2.vw l e2
  cases a with
  |lst ha ra=>cases b with
   |lst hb rb=>exact .inr (.inr (.inl ⟨_,_,_,_,rfl,rfl,ha,hb,by rw[ra.length,rb.length];exact q.1,fun p hp=>k _ _ _ μ (Vr.eX l (ra.append rb) hp) (Fr.more hp) (Kp.refl μ) q.2⟩))
 ·rename_i xs ys e1 e2;have a:=Hv.yV l h1 e1;have b:=Hv.yV l h2 e2;have a':=a;have b':=b
  cases a with
  |tup na ha ra=>cases b with
   |tup nb hb rb =>
    refine .inr (.inr (.inr ⟨_,_,_,_,rfl,rfl,b8.of ha,b8.of hb,by rw[ra.length,rb.length];exact q.1,fun z=>?_,fun z1 z2=>?_,fun z1 z2 p hp=>k _ _ _ μ (Vr.tW l (ra.append rb) hp) (Fr.same (cq.new hp)) (Kp.refl μ) q.2⟩))
    ·subst z;cases ra;exact k _ H _ μ (Vr.flat l b') Fr.refl (Kp.refl μ) q.2
    ·subst z2;cases rb;have q2:=q.2;rw[J7] at q2;exact k _ H _ μ (Vr.flat l a') Fr.refl (Kp.refl μ) q2
 ·exact q.elim
def rO:U2:=fun r1 r2 μ Q=>match cont μ r1,cont μ r2 with
 |some (.int i),some (.int j)=>pR i j/\Q (.tr (.int (i*j))) μ
 |some (.lst xs),some (.int k)=>-(2^63)<=k/\k<2^63/\xs.length*k.toNat<=sizeLine/\Q (.fr (.lst (List.replicate k.toNat xs).flatten)) μ
 |_,_=>False
theorem wW:jw K CT rO:=by
 intro F ad B σ H μ Q Qt x y r1 r2 hK l h1 h2 q k;unfold rO at q
 split at q
 ·rename_i i j e1 e2;have a:=h1.vw l e1;have b:=h2.vw l e2
  cases a;cases b
  exact⟨q.1,k _ H _ μ (Vr.flat l (.int _)) Fr.refl (Kp.refl μ) q.2⟩
 ·rename_i xs j e1 e2;have a:=h1.vw l e1;have b:=h2.vw l e2;cases b
  cases a with
  |lst ha ra=>exact⟨_,_,_,rfl,rfl,ha,q.1,q.2.1,by rw[ra.length];exact q.2.2.1,fun p hp=>k _ _ _ μ (Vr.eX l (ra.rep _) hp) (Fr.more hp) (Kp.refl μ) q.2.2.2⟩
 ·exact q.elim
def oX:U2:=fun r1 r2 μ Q=>match cont μ r1,cont μ r2 with
 |some (.lst xs),some (.int i)=>(match cc xs i with|some t=>Q (.tr t) μ|none=>False)
 |some (.tup xs),some (.int i)=>(match cc xs i with|some t=>Q (.tr t) μ|none=>False)
 |some (.gE xs),some (.int i)=>(match cc xs i with|some t=>Q (.tr t) μ|none=>False)
 |some (.str z),some (.int i)=>z.length<=sizeLine/\(match cc z.cps.toList i with|some c=>Q (.tr (.str ⟨#[c]⟩)) μ|none=>False)
 |_,_=>False
theorem a_(K:Oe)(hK:X.K=K):qV X (G1 K):=by subst hK;exact uH
theorem EA:jw K (G1 K) oX:=by
 intro F ad B σ H μ Q Qt x y r1 r2 hK l h1 h2 q k;subst hK;unfold oX at q
 split at q
 ·rename_i xs j e1 e2;have a:=h1.vw l e1;have b:=h2.vw l e2;cases b
  split at q
  ·rename_i t e3
   cases a with
   |lst ha ra =>
    obtain⟨v,e4,rv⟩:=ra.cc e3;exact .inl ⟨_,_,_,v,rfl,rfl,bS.of ha,e4,k _ H _ μ (Vr.flat l rv) Fr.refl (Kp.refl μ) q⟩
  ·exact q.elim
 ·rename_i xs j e1 e2;have a:=h1.vw l e1;have b:=h2.vw l e2;cases b
  split at q
  ·rename_i t e3
   cases a with
   |tup ha ra =>
    obtain⟨v,e4,rv⟩:=ra.cc e3;exact .inr (.inl ⟨_,_,_,v,rfl,rfl,b8.of ha,e4,k _ H _ μ (Vr.flat l rv) Fr.refl (Kp.refl μ) q⟩)
  ·exact q.elim
 ·rename_i xs j e1 e2;have a:=h1.vw l e1;have b:=h2.vw l e2;cases b
  split at q
  ·rename_i t e3
   cases a with
   |gE ha ra =>
    obtain⟨v,e4,rv⟩:=ra.cc e3;exact .inr (.inl ⟨_,_,_,v,rfl,rfl,.inr ha,e4,k _ H _ μ (Vr.flat l rv) Fr.refl (Kp.refl μ) q⟩)
  ·exact q.elim
 ·rename_i xs j e1 e2;have a:=h1.vw l e1;have b:=h2.vw l e2;cases b;cases a;obtain⟨q0,q⟩:=q
  split at q
  ·rename_i t e3;exact .inr (.inr ⟨_,_,_,rfl,rfl,q0,e3,k _ H _ μ (Vr.flat l (.str _)) Fr.refl (Kp.refl μ) q⟩)
  ·exact q.elim
 ·exact q.elim
def tQ(neg:Bool):T->T->Mu->(R->Mu->Prop)->Prop:=fun t u μ Q=>match u with
 |.aL=>Q (.tr (.bl (match t with|.aL=>!neg|_=>neg))) μ
 |_=>False
theorem qD:jw K (fun x y H Q=>y=.aL/\Q (.bl (!decide (x=.aL))) H) (uu (tQ true)):=fw fun F ad B σ H μ Q Qt x y t u hK l v1 v2 q k=>by
 unfold tQ at q
 split at q
 ·cases v2;refine⟨rfl,?_⟩
  cases v1<;>exact k _ H _ (Vr.flat l (.bl _)) Fr.refl q
 ·exact q.elim
def Fn:T->T->Bool
 |.aL,.aL=>true
 |.bl a,.bl b=>a == b
 |.bl a,.int b=>(if a then 1 else 0) == b
 |.int a,.bl b=>a ==(if b then 1 else 0)
 |.int a,.int b=>a == b
 |.str a,.str b=>a == b
 |_,_=>false
def qf(xs ys:List T):Bool:=xs.length == ys.length && (List.range (min xs.length ys.length)).all fun j=>match xs[j]?,ys[j]? with
 |some x,some y=>Fn x y
 |_,_=>true
theorem AQ{x y:V}{u:T}(h1:Rep K H B x t)(h2:Rep K H B y u)(f1:cp t=true)(f2:cp u=true):iH x=true/\iH y=true/\DB x y=Fn t u:=by
 cases h1<;>first | (cases f1;done) | (cases h2<;>first | (cases f2;done)|exact⟨rfl,rfl,rfl⟩)
def yk(K:Oe)(neg:Bool):R2:=fun x y H Q=>∃ a b xs ys,x=.ref a/\y=.ref b/\((bS K H a xs/\bS K H b ys)\/(b8 K H a xs/\b8 K H b ys))/\xs.all iH=true/\ys.all iH=true /\
 ∀ c,c=(xs.length == ys.length && (List.range (min xs.length ys.length)).all fun j=>match xs[j]?,ys[j]? with|some x,some y=>DB x y|_,_=>true)->Q (.bl (if neg then !c else c)) H
theorem D4(hu:X.A.units<cLine):cT X (compareOp .Eq) (yk X.K false):=by
 intro pins s σ H x y v u Q I rx ry h;obtain⟨a,b,xs,ys,rfl,rfl,hq,fx,fy,q⟩:=h
 cases rx;cases ry
 have item:∀(its its2:List Value),Vals xs its->Vals ys its2->∀ j (h1:j<its.toArray.size) (h2:j<its2.toArray.size),SeqAt.EqAt X.A.in1 s its.toArray[j] its2.toArray[j] (match xs[j]?,ys[j]? with|some x,some y=>DB x y|_,_=>true):=fun its its2 r1 r2 j h1 h2=>by
  have l1:=r1.length;have l2:=r2.length;rw[I_] at h1 h2;obtain⟨u1,e1,g1⟩:=r1.get (i:=j) (x:=xs[j]) (IV (by lia))
  obtain⟨u2,e2,g2⟩:=r2.get (i:=j) (x:=ys[j]) (IV (by lia))
  rw[IV (show j<xs.length by lia),IV (show j<ys.length by lia)]
  have z1:its.toArray[j]=u1:=by
   rw[IV h1] at e1;simpa using e1
  have z2:its2.toArray[j]=u2:=by
   rw[IV h2] at e2;simpa using e2
  rw[z1,z2];exact p7 g1 g2 (Ks.mp fx _ (JV _)) (Ks.mp fy _ (JV _))
 rcases hq with ⟨ha,hb⟩|⟨ha,hb⟩
 ·obtain⟨its,r1,p1,_⟩:=I.list ha;obtain⟨its2,r2,p2,_⟩:=I.list hb;have l1:=r1.length;have l2:=r2.length;by_cases e:xs.length=ys.length
  ·refine SeqAt.eq_listAt p1.isList p2.isList (by rw[I_,I_];lia) hu (item its its2 r1 r2) ⟨.bl _,H,I,rfl,q _ ?_⟩
   rw[I_,<- l1,<- e,Lg,K3,Bool.true_and]
  ·refine Nz p1.isList p2.isList (by rw[I_,I_,NW];lia) hu ⟨.bl _,H,I,rfl,q _ ?_⟩
   rw[Kd.mpr e,NM]
 ·obtain⟨its,r1,p1,_⟩:=I.tuple ha;obtain⟨its2,r2,p2,_⟩:=I.tuple hb;have l1:=r1.length;have l2:=r2.length;refine SeqAt.eq_tupleAt p1 p2 hu (item its its2 r1 r2) ⟨.bl _,H,I,rfl,q _ ?_⟩;rw[I_,I_,<- l1,<- l2,MP];rfl
theorem cG:∀{xs:List V} {ts:List T},ao K H B xs ts->ts.all cp=true->xs.all iH=true
 |_,_,.nil,_=>rfl
 |_,_,.cons h r,f=>by
  rw[KU,K4] at f ⊢;refine⟨?_,cG r f.2⟩;have f1:=f.1
  cases h<;>first|rfl|cases f1
theorem lX{us:List T}(h1:ao K H B xs ts)(h2:ao K H B ys us)(f1:ts.all cp=true)(f2:us.all cp=true):
  qf ts us=(xs.length == ys.length && (List.range (min xs.length ys.length)).all fun j=>match xs[j]?,ys[j]? with|some x,some y=>DB x y|_,_=>true):=by
 unfold qf;have l1:=h1.length;have l2:=h2.length;rw[l1,l2];congr 1;refine List.all_congr rfl ?_ |>.symm;intro j
 cases a1:ts[j]? with
 |none =>
  have:xs[j]?=none:=Jx.mpr (by have:=Jx.mp a1;lia)
  rw[this]
 |some t =>
  obtain⟨v1,e1,r1⟩:=h1.get a1;rw[e1]
  cases a2:us[j]? with
  |none =>
   have:ys[j]?=none:=Jx.mpr (by have:=Jx.mp a2;lia)
   rw[this]
  |some u =>
   obtain⟨v2,e2,r2⟩:=h2.get a2;rw[e2];exact (AQ r1 r2 (Ks.mp f1 _ (KA a1)) (Ks.mp f2 _ (KA a2))).2.2
def B7(K:Oe):R2:=fun x y H Q=>DZ x y H Q\/yk K false x y H Q
theorem cy(K:Oe)(hK:X.K=K)(hu:X.A.units<cLine):cT X (compareOp .Eq) (B7 K):=by subst hK;exact AD.or (D4 hu)
def DC(neg:Bool):T->T->Mu->(R->Mu->Prop)->Prop:=fun t u μ Q=>match t,u with
 |.int i,.int j=>Q (.tr (.bl (if neg then !decide (i=j) else decide (i=j)))) μ
 |.str i,.str j=>Q (.tr (.bl (if neg then !decide (i=j) else decide (i=j)))) μ
 |.bl i,.bl j=>Q (.tr (.bl (if neg then !decide (i=j) else decide (i=j)))) μ
 |.lst xs,.lst ys=>neg=false/\xs.all cp=true/\ys.all cp=true/\Q (.tr (.bl (qf xs ys))) μ
 |.tup xs,.tup ys=>neg=false/\xs.all cp=true/\ys.all cp=true/\Q (.tr (.bl (qf xs ys))) μ
 |_,_=>False
theorem dV[DecidableEq α]{f:α->V}(hf:∀ a b,f a=f b->a=b)(a b:α):decide (f a=f b)=decide (a=b):=by
 rw[Kj];exact⟨hf a b,fun h=>by rw[h]⟩
theorem di:jw K (B7 K) (uu (DC false)):=fw fun F ad B σ H μ Q Qt x y t u hK l v1 v2 q k=>by
 subst hK;unfold DC at q
 split at q
 ·cases v1;cases v2
  refine .inl ⟨rfl,?_⟩;rw[dV (f:=V.int) (fun a b h=>by injection h)]
  exact k _ H _ (Vr.flat l (.bl _)) Fr.refl q
 ·cases v1;cases v2
  refine .inl ⟨rfl,?_⟩;rw[dV (f:=V.str) (fun a b h=>by injection h)]
  exact k _ H _ (Vr.flat l (.bl _)) Fr.refl q
 ·cases v1;cases v2
  refine .inl ⟨rfl,?_⟩;rw[dV (f:=V.bl) (fun a b h=>by injection h)]
  exact k _ H _ (Vr.flat l (.bl _)) Fr.refl q
 ·cases v1 with
  |lst ha ra=>cases v2 with
   |lst hb rb=>exact .inr ⟨_,_,_,_,rfl,rfl,.inl ⟨bS.of ha,bS.of hb⟩,cG ra q.2.1,cG rb q.2.2.1,fun c hc=>by
     rw[<- lX ra rb q.2.1 q.2.2.1] at hc;subst hc;exact k _ H _ (Vr.flat l (.bl _)) Fr.refl q.2.2.2⟩
 ·cases v1 with
  |tup ha ra=>cases v2 with
   |tup hb rb=>exact .inr ⟨_,_,_,_,rfl,rfl,.inr ⟨b8.of ha,b8.of hb⟩,cG ra q.2.1,cG rb q.2.2.1,fun c hc=>by
     rw[<- lX ra rb q.2.1 q.2.2.1] at hc;subst hc;exact k _ H _ (Vr.flat l (.bl _)) Fr.refl q.2.2.2⟩
 ·exact q.elim
def pQ(f:T->Mu->(R->Mu->Prop)->Prop):UC:=fun rs μ Q=>match rs with
 |[r]=>(match cont μ r with|some t=>f t μ Q|none=>False)
 |_=>False
theorem fz{f:T->Mu->(R->Mu->Prop)->Prop}
  (h:∀(F:Fx) (ad:Nat->Addr) (B:bf) (σ:St) (H:Hp) (μ:Mu) (Q:VK) (Qt:R->Mu->Prop) (x:V) (t:T),F.K=K->Rl F ad B σ H μ->Vw F.K H B x t->f t μ Qt ->
   (∀ v H' r,Vr F ad B σ H' μ v r->Fr B H (Bv B v r) H'->Qt r μ->Q v H')->r [x] H Q):RC K r (pQ f):=by
 intro F ad B σ H μ Q Qt xs rs hK l p q k;unfold pQ at q
 split at q
 ·split at q
  ·rename_i r0 _ t e
   cases p with
   |cons h1 p=>cases p;exact h F ad B σ H μ Q Qt _ t hK l (h1.vw l e) q fun v H' r v1 s q1=>k v H' r μ v1 s (Kp.refl μ) q1
  ·exact q.elim
 ·exact q.elim
def nO:T->Mu->(R->Mu->Prop)->Prop:=fun t μ Q=>match t with
 |.lst xs=>Q (.tr (.int xs.length)) μ
 |.tup xs=>Q (.tr (.int xs.length)) μ
 |.dM xs=>Q (.tr (.int xs.length)) μ
 |.gE xs=>Q (.tr (.int xs.length)) μ
 |.str z=>z.length<=sizeLine/\Q (.tr (.int z.length)) μ
 |_=>False
def x9(K:Oe):List V->Hp->VK->Prop:=fun xs H Q=>(∃ p ys,xs=[.ref p]/\(bS K H p ys\/b8 K H p ys)/\Q (.int ys.length) H)\/(∃ z,xs=[.str z]/\z.length<=sizeLine/\Q (.int z.length) H)
theorem ar(K:Oe)(hK:X.K=K):aT X (.builtin "len") (x9 K):=by subst hK;exact lE.or lA
theorem CJ:RC K (x9 K) (pQ nO):=fz fun F ad B σ H μ Q Qt x t hK l v1 q k=>by
 subst hK;unfold nO at q
 split at q
 ·cases v1 with
  |lst ha ra=>exact .inl ⟨_,_,rfl,.inl (bS.of ha),by rw[ra.length];exact k _ H _ (Vr.flat l (.int _)) Fr.refl q⟩
 ·cases v1 with
  |tup ha ra=>exact .inl ⟨_,_,rfl,.inr (b8.of ha),by rw[ra.length];exact k _ H _ (Vr.flat l (.int _)) Fr.refl q⟩
 ·cases v1 with
  |dM ha ra=>exact .inl ⟨_,_,rfl,.inl ha,by rw[ra.length];exact k _ H _ (Vr.flat l (.int _)) Fr.refl q⟩
 ·cases v1 with
  |gE ha ra=>exact .inl ⟨_,_,rfl,.inr (.inr ha),by rw[ra.length];exact k _ H _ (Vr.flat l (.int _)) Fr.refl q⟩
 ·cases v1;exact .inr ⟨_,rfl,q.1,k _ H _ (Vr.flat l (.int _)) Fr.refl q.2⟩
 ·exact q.elim
def gD:UC:=fun rs μ Q=>match rs with
 |[r]=>(match cont μ r with
  |some (.lst xs)=>Q (.tr (.tup xs)) μ
  |some (.tup xs)=>Q (.tr (.tup xs)) μ
  |_=>False)
 |_=>False
def AO(K:Oe):List V->Hp->VK->Prop:=fun xs H Q=>∃ p ys,xs=[.ref p]/\((bS K H p ys/\∀ l,H l=none->Q (.ref l) (upd H l (.tup ys)))\/(b8 K H p ys/\Q (.ref p) H))
theorem cw(K:Oe)(hK:X.K=K):aT X (.type "tuple") (AO K):=by subst hK;exact jQ
theorem cK:RC K (AO K) gD:=by
 intro F ad B σ H μ Q Qt xs rs hK l p q k;subst hK;unfold gD at q
 split at q
 ·cases p with
  |cons h1 p =>
   cases p
   split at q
   ·rename_i e;have v1:=h1.vw l e
    cases v1 with
    |lst ha ra=>exact⟨_,_,rfl,.inl ⟨bS.of ha,fun p hp=>k _ _ _ μ (Vr.tW l ra hp) (Fr.same (cq.new hp)) (Kp.refl μ) q⟩⟩
   ·rename_i e;have rp:=Hv.yV l h1 e;have rp':=rp
    cases rp with
    |tup na ha ra=>exact⟨_,_,rfl,.inr ⟨b8.of ha,k _ H _ μ (Vr.flat l rp') Fr.refl (Kp.refl μ) q⟩⟩
   ·exact q.elim
 ·exact q.elim
def nW:T->Mu->(R->Mu->Prop)->Prop:=fun t μ Q=>match t with
 |.lst xs=>Q (.fr (.lst xs)) μ
 |.tup xs=>Q (.fr (.lst xs)) μ
 |.dM xs=>Q (.fr (.lst xs)) μ
 |.dN lo hi=>(hi-lo).toNat<=65536/\-(2^62)<=lo/\lo<2^62/\-(2^62)<=hi/\hi<2^62/\Q (.fr (.lst ((List.range (hi-lo).toNat).map fun k=>T.int (lo+(k:Nat))))) μ
 |_=>False
def xi(K:Oe):List V->Hp->VK->Prop:=fun xs H Q=>(∃ p ys,xs=[.ref p]/\(bS K H p ys\/b8 K H p ys)/\∀ l,H l=none->Q (.ref l) (upd H l (.lst ys))) \/
 (∃ p lo hi,xs=[.ref p]/\H p=some (.dN lo hi)/\(hi-lo).toNat<=65536/\-(2^62)<=lo/\lo<2^62/\-(2^62)<=hi/\hi<2^62/\∀ l,H l=none->Q (.ref l) (upd H l (.lst ((List.range (hi-lo).toNat).map fun k=>V.int (lo+(k:Nat))))))
theorem fo{lo:Int}:∀(n:Nat) (acc:List Value) (k:Nat),acc.length=n->(∀ j v,acc[j]?=some v->∃ t,v=Value.int (lo+((k+j:Nat):Int)) t)->Vals ((List.range' k n).map fun k=>V.int (lo+(k:Nat))) acc
 |0,acc,k,h,_=>by cases acc with|nil=>exact .nil|cons a b=>cases h
 |n+1,[],k,h,_=>by cases h
 |n+1,a::acc,k,h,g=>by
  rw[Kb,Jm];refine .cons ?_ (fo n acc (k+1) (by simpa using h) fun j v e=>?_)
  ·obtain⟨t,e⟩:=g 0 a rfl;exact⟨t,by simpa using e⟩
  ·obtain⟨t,e2⟩:=g (j+1) v (by simpa using e)
   exact⟨t,by rw[e2];congr 2;lia⟩
theorem oA(hc:X.calm=true):aT X (.type "list") (fun xs H Q=>∃ p lo hi,xs=[.ref p]/\H p=some (.dN lo hi)/\(hi-lo).toNat<=65536/\-(2^62)<=lo/\lo<2^62/\-(2^62)<=hi/\hi<2^62/\∀ l,H l=none->Q (.ref l) (upd H l (.lst ((List.range (hi-lo).toNat).map fun k=>V.int (lo+(k:Nat)))))):=by
 intro pins s σ H xs us Q I r h;obtain⟨p,lo,hi,rfl,hp,hn,h1,h2,h3,h4,q⟩:=h;obtain⟨u,rfl,rx⟩:=vals1 r;cases rx;obtain⟨t,u,v,e⟩:=I.aO p _ hp;have hn2:Builtin.Range.rangeSize lo hi 1=((hi-lo).toNat:Nat):=by rw[rangeSize_one];split<;>lia
 refine call_list_range (n:=(hi-lo).toNat) (I.ok.hd hc) e (small_one h1 h2 h3 h4) hn2 (by lia) fun h' tk acc c' hk hS hI=>?_
 have hv:Vals ((List.range (hi-lo).toNat).map fun k=>V.int (lo+(k:Nat))) acc.toList:=by
  rw[Ky];refine fo _ _ 0 (by simpa using hI.1) fun j v e=>?_
  obtain⟨t,e2⟩:=hI.2 j v (by simpa using e)
  exact⟨t,by rw[e2];simp⟩
 refine⟨.ref s.heap.objs.size,_,I.laid (t':=tk) hk (Jb _) (show aJ X.prog X.w _ h' _ (.lst _) from⟨?_,acc.toList,c',hv,by simpa using hS⟩),rfl,q _ (I.aO.fresh (Jb _))⟩
 rw[IW,Js];exact Jj hn (by decide)
theorem fG(K:Oe)(hK:X.K=K)(hc:X.calm=true):aT X (.type "list") (xi K):=by subst hK;exact m8.or (oA hc)
theorem iX{lo:Int}:∀ l:List Nat,ao K H B (l.map fun k=>V.int (lo+(k:Nat))) (l.map fun k=>T.int (lo+(k:Nat)))
 |[]=>.nil
 |k::l=>.cons (.int _) (iX l)
theorem lr:RC K (xi K) (pQ nW):=fz fun F ad B σ H μ Q Qt x t hK l v1 q k=>by
 subst hK;unfold nW at q
 split at q
 ·cases v1 with
  |lst ha ra=>exact .inl ⟨_,_,rfl,.inl (bS.of ha),fun p hp=>k _ _ _ (Vr.eX l ra hp) (Fr.more hp) q⟩
 ·cases v1 with
  |tup ha ra=>exact .inl ⟨_,_,rfl,.inr (b8.of ha),fun p hp=>k _ _ _ (Vr.eX l ra hp) (Fr.more hp) q⟩
 ·cases v1 with
  |dM ha ra=>exact .inl ⟨_,_,rfl,.inl ha,fun p hp=>k _ _ _ (Vr.eX l ra hp) (Fr.more hp) q⟩
 ·cases v1 with
  |dN ha=>exact .inr ⟨_,_,_,rfl,ha,q.1,q.2.1,q.2.2.1,q.2.2.2.1,q.2.2.2.2.1,fun p hp=>k _ _ _ (Vr.eX l (iX _) hp) (Fr.more hp) q.2.2.2.2.2⟩
 ·exact q.elim
def pW:UC:=fun rs μ Q=>match rs with
 |[.tr (.int j)]=>Q (.tr (.dN 0 j)) μ
 |[.tr (.int i),.tr (.int j)]=>Q (.tr (.dN i j)) μ
 |_=>False
def sk:List V->Hp->VK->Prop:=fun xs H Q=>(∃ j,xs=[.int j]/\∀ p,H p=none->Q (.ref p) (upd H p (.dN 0 j)))\/(∃ i j,xs=[.int i,.int j]/\∀ p,H p=none->Q (.ref p) (upd H p (.dN i j)))
theorem og:aT X (.type "range") sk:=by
 intro pins s σ H xs us Q I r h;rcases h with ⟨j,rfl,q⟩|⟨i,j,rfl,q⟩
 ·obtain⟨u,rfl,t,rfl⟩:=vals1 r;refine call_range_1 ?_;exact⟨.ref s.heap.objs.size,_,I.laid (o:=.dN 0 j) (fun b ob q=>IU _ q) (Jb _) (show aJ X.prog X.w _ _ _ (.dN 0 j) from⟨_,_,_,Je _ rfl⟩),rfl,q _ (I.aO.fresh (Jb _))⟩
 ·obtain⟨u,w',rfl,⟨t,rfl⟩,⟨t',rfl⟩⟩:=vals2 r;refine call_range_2 ?_;exact⟨.ref s.heap.objs.size,_,I.laid (o:=.dN i j) (fun b ob q=>IU _ q) (Jb _) (show aJ X.prog X.w _ _ _ (.dN i j) from⟨_,_,_,Je _ rfl⟩),rfl,q _ (I.aO.fresh (Jb _))⟩
theorem yb:RC K sk pW:=by
 intro F ad B σ H μ Q Qt xs rs hK l p q k;have fin:∀ lo hi p,H p=none->Vr F ad B σ (upd H p (.dN lo hi)) μ (.ref p) (.tr (.dN lo hi)):=fun lo hi p hp=>⟨l.same (cq.new hp),.dN (l.lZ hp) ai⟩;unfold pW at q
 split at q
 ·cases p with
  |cons h1 p=>cases p;cases cE h1;exact .inl ⟨_,rfl,fun p hp=>k _ _ _ μ (fin _ _ p hp) (Fr.same (cq.new hp)) (Kp.refl μ) q⟩
 ·cases p with
  |cons h1 p=>cases p with
   |cons h2 p=>cases p;cases cE h1;cases cE h2;exact .inr ⟨_,_,rfl,fun p hp=>k _ _ _ μ (fin _ _ p hp) (Fr.same (cq.new hp)) (Kp.refl μ) q⟩
 ·exact q.elim
def CW(g:Int->Int->Int):UC:=fun rs μ Q=>match rs with
 |[.tr (.int i),.tr (.int j)]=>Q (.tr (.int (g i j))) μ
 |_=>False
theorem AG{g:Int->Int->Int}(h:∀ i j H Q,Q (.int (g i j)) H->r [.int i,.int j] H Q):RC K r (CW g):=by
 intro F ad B σ H μ Q Qt xs rs hK l p q k;unfold CW at q
 split at q
 ·cases p with
  |cons h1 p=>cases p with
   |cons h2 p=>cases p;cases cE h1;cases cE h2;exact h _ _ _ _ (k _ H _ μ (Vr.flat l (.int _)) Fr.refl (Kp.refl μ) q)
 ·exact q.elim
theorem gC:RC K yN (CW fun i j=>if j > i then j else i):=AG fun i j H Q q=>q
theorem lV:RC K F_ (CW fun i j=>if j<i then j else i):=AG fun i j H Q q=>q
def vh:UC:=fun rs μ Q=>match rs with
 |[.tr (.int i)]=>Q (.tr (.int i)) μ
 |[.tr (.bl k)]=>Q (.tr (.int (if k=true then 1 else 0))) μ
 |_=>False
theorem BI:RC K Gk vh:=by
 intro F ad B σ H μ Q Qt xs rs hK l p q k;unfold vh at q
 split at q
 ·cases p with
  |cons h1 p=>cases p;cases cE h1;exact k _ H _ μ (Vr.flat l (.int _)) Fr.refl (Kp.refl μ) q
 ·cases p with
  |cons h1 p=>cases p;cases cE h1;exact k _ H _ μ (Vr.flat l (.int _)) Fr.refl (Kp.refl μ) q
 ·exact q.elim
end Y
namespace Y
def yo:T->String->Option Bool
 |.aL,c=>some (jV "NoneType" c)
 |.bl _,c=>some (jV "bool" c)
 |.int _,c=>some (jV "int" c)
 |.str _,c=>some (jV "str" c)
 |.lst _,c=>some (jV "list" c)
 |.tup _,c=>some (jV "tuple" c)
 |_,_=>none
def nX(ue:UE)(c:String):UE:=fun μ Q=>ue μ fun r μ'=>match cont μ' r with
 |some t=>(match yo t c with|some b=>Q (.tr (.bl b)) μ'|none=>False)
 |none=>False
theorem Vw.ty{v:V}{c:String}{b:Bool}(h:Vw K H B v t)(e:yo t c=some b):∃ s,Bl H v=some s/\jV s c=b:=by
 cases h with
 |aL=>cases e;exact⟨_,rfl,rfl⟩
 |bl=>cases e;exact⟨_,rfl,rfl⟩
 |int=>cases e;exact⟨_,rfl,rfl⟩
 |str=>cases e;exact⟨_,rfl,rfl⟩
 |tup h r=>cases e;exact⟨_,by unfold Bl;simp only[h],rfl⟩
 |lst h r=>cases e;exact⟨_,by unfold Bl;simp only[h],rfl⟩
 |dM=>cases e
 |dN=>cases e
 |km=>cases e
 |exc=>cases e
 |Bo=>cases e
 |gE=>cases e
theorem Vr.vw{v:V}{r:R}(h:Vr F ad B σ H μ v r)(e:cont μ r=some t):Vw F.K H B v t:=by
 have e':cont μ r.d=some t:=by cases r<;>exact e
 exact h.hv.vw h.rl e'
section
variable {X:Cx} {a b c e o:Expr} {es rest:List Expr} {ua ub uc ue uo:UE} {uA uB:UT} {us:UA} {pos p p2 p3:Pos} {x:Str}
theorem IJ{C:String}(K:Oe)(hK:X.K=K)(hg:Gl X "isinstance")(hm:X.mg "isinstance"=none)(ha:YE X a ua)(hgc:Gl X x)(hmc:X.mg x=none)(hvc:bootBuiltins x=some (.type C))(hc:C∈["bool","int","str","list","tuple","dict"]:=by decide)(h1:cN a=true:=by rfl)
  (hnx:x≠"__name__":=by decide) (hdx:(x ==("__debug__":Str))=false:=by decide):YE X (.Call (.Name "isinstance" p) [a,.Name x p3] [] pos) (nX ua C):=by
 obtain⟨t,q,r⟩:=ha;refine⟨_,Z.cb (Z.E1 K hK) hg hm PyProof.Rows.boot_isinstance (Z.cons q (Z.cons (Z.Iw hgc hmc hvc hnx hdx) Z.nil) h1) h1,fun F ad B σ H μ Q Qt hK l q k=>r F ad B σ H μ _ _ hK l q fun v H' r1 μ' v1 f k1 q1=>?_⟩;show L2.nX K [v,.ty C] H' Q;refine⟨hc,?_⟩
 split at q1
 ·rename_i t e
  split at q1
  ·rename_i b e2;obtain⟨s,e3,e4⟩:=Vw.ty (Vr.vw v1 e) e2;rw[e3];subst e4;exact k _ H' (.tr (.bl _)) μ' (Vr.flat v1.rl (.bl _)) f.d k1 q1
  ·exact q1.elim
 ·exact q1.elim
def bJ(xs:List α)(lo hi:Option Int):List α:=(xs.drop (HT.bL xs.length 0 lo)).take (HT.bL xs.length xs.length hi-HT.bL xs.length 0 lo)
theorem ao.cut(r:ao K H B vs ts)(lo hi:Option Int):ao K H B (mf vs lo hi) (bJ ts lo hi):=by
 unfold mf bJ;rw[r.length];exact (r.drop _).take _
def FY(K:Oe):V->Option Int->Option Int->Hp->VK->Prop:=fun x lo hi H Q=>∃ a xs,x=.ref a/\b8 K H a xs/\HT.bL xs.length 0 lo=0/\HT.bL xs.length xs.length hi=xs.length/\Q (.ref a) H
theorem fU{t sl:Addr}{lo hi:Option Int}(ht:IsTup s.heap t items)(hs:s.heap.IsSliceOf sl vl vu .none)(pl:IsPart vl lo)(pu:IsPart vu hi)
  (h1:HT.bL items.size 0 lo=0) (h2:HT.bL items.size items.size hi=items.size) (h:Q (.ref t) s):wpAny (model prog w) A (getItem (.ref t) (.ref sl)) Q E s:=by
 obtain⟨os,hos,hcs,hds⟩:=id hs;have hTs:s.TypeIs (.ref sl) "slice":=⟨os,hos,hcs⟩;unfold getItem
 try with_reducible refine J9 ?_
 first|refine IT (IZ ?_)|skip
 refine IT (wpAny_sequenceKey ht.typeIs (by decide) ?_)
 refine IT (JL (name:=Str.ofString "__getitem__") ht.typeIs JR
  (JU JR ht.typeIs entry_tuple_getitem ?_ (args_tuple_getitem _ _)))
 show wpAny _ _ (Builtin.Tuple.tupleItemsOf (.ref t) >>= _) _ _ s;refine IT (tupleItemsOf_ ht ?_);refine IT (LU hTs ?_);rw[Ja (by decide)]
 refine IT (HT.dS hs pl pu ?_);show wpAny _ _ (if (((HT.bL items.size 0 lo:Nat):Int) == 0 && (1:Int) == 1 && (HT.bL items.size items.size hi-HT.bL items.size 0 lo) == items.size)=true then _ else _) _ _ s
 rw[Ja (by rw[h1,h2];simp)]
 unfold Builtin.Tuple.tupleIsExact;refine IT ?_;refine IT (LU ht.typeIs (IZ ?_));rw[Ja (by decide)]
 exact IT (Lp (IZ ⟨_,rfl,IZ h⟩))
theorem Dh:uv X (FY X.K):=by
 intro pins s σ H x v vl vu lo hi sl Q I rx hs pl pu h;obtain⟨a,xs,rfl,hx,h1,h2,q⟩:=h;cases rx;obtain⟨its,r,ht,hz⟩:=I.tuple hx;have hlen:its.toArray.size=xs.length:=by rw[I_];exact r.length.symm
 exact⟨"tuple",_,JR.lookup,ht.typeIs,fU ht hs pl pu (by rw[hlen];exact h1) (by rw[hlen];exact h2) ⟨.ref a,H,I,rfl,q⟩⟩
def Fs(K:Oe):V->Option Int->Option Int->Hp->VK->Prop:=fun x lo hi H Q=>E8 K x lo hi H Q\/yX K x lo hi H Q\/FY K x lo hi H Q
theorem Hx(K:Oe)(hK:X.K=K):uv X (Fs K):=by subst hK;exact yG.or (BE.or Dh)
def GV(ue:UE)(ul uh:UO):UE:=fun μ Q=>ue μ fun r μ1=>ul μ1 fun lo μ2=>uh μ2 fun hi μ3=>match cont μ3 r.d with
 |some (.lst xs)=>Q (.fr (.lst (bJ xs lo hi))) μ3
 |some (.dM xs)=>Q (.fr (.lst (bJ xs lo hi))) μ3
 |some (.tup xs)=>Q (.tr (.tup (bJ xs lo hi))) μ3
 |_=>False
end
end Y
structure pZ (F:Fx) (B:bf) (H:Hp) (D:Ends) (E:Ed):Prop where
 nx:∀ ad' B' σ' H' μ',Rl F ad' B' σ' H' μ'->Fr B H B' H'->E.nx μ'->D.nx σ' H'
 rt:∀ ad' B' σ' H' μ' v r,Vr F ad' B' σ' H' μ' v r->E.rt r μ'->D.rt v H'
 bk:∀ ad' B' σ' H' μ',Rl F ad' B' σ' H' μ'->Fr B H B' H'->E.bk μ'->D.bk σ' H'
 ct:∀ ad' B' σ' H' μ',Rl F ad' B' σ' H' μ'->Fr B H B' H'->E.ct μ'->D.ct σ' H'
theorem pZ.step{E:Ed}(h:pZ F B H D E)(f:Fr B H B1 H1):pZ F B1 H1 D E:=
 ⟨fun ad' B' σ' H' μ' l g q=>h.nx ad' B' σ' H' μ' l (f.trans g) q,h.rt,fun ad' B' σ' H' μ' l g q=>h.bk ad' B' σ' H' μ' l (f.trans g) q,fun ad' B' σ' H' μ' l g q=>h.ct ad' B' σ' H' μ' l (f.trans g) q⟩
def RS(K:Oe)(ts:TS)(us:US):Prop:=∀(F:Fx) (D:Ends) (E:Ed) (ad:Nat->Addr) (B:bf) (σ:St) (H:Hp) (μ:Mu),F.K=K->Rl F ad B σ H μ->us E μ->pZ F B H D E->ts D σ H
abbrev UG:=R->Mu->(Mu->Prop)->Prop
abbrev ph:=List T->Mu->(Mu->Prop)->Prop
def RG(K:Oe)(g:TG)(ug:UG):Prop:=∀(F:Fx) (ad:Nat->Addr) (B:bf) (σ:St) (H:Hp) (μ:Mu) (v:V) (r:R) (B0:bf) (H0:Hp) (Q:St->Hp->Prop) (Qt:Mu->Prop),F.K=K->Vr F ad B σ H μ v r->Fr B0 H0 (Bv B v r) H->ug r μ Qt ->
 (∀ ad' B' σ' H' μ',Rl F ad' B' σ' H' μ'->Fr B0 H0 B' H'->Qt μ'->Q σ' H')->g v σ H Q
def IB(K:Oe)(g:o_)(ug:ph):Prop:=∀(F:Fx) (ad:Nat->Addr) (B:bf) (σ:St) (H:Hp) (μ:Mu) (vs:List V) (ts:List T) (B0:bf) (H0:Hp) (Q:St->Hp->Prop) (Qt:Mu->Prop),F.K=K->Rl F ad B σ H μ->ao F.K H B vs ts->Fr B0 H0 B H->ug ts μ Qt ->
 (∀ ad' B' σ' H' μ',Rl F ad' B' σ' H' μ'->Fr B0 H0 B' H'->Qt μ'->Q σ' H')->g vs σ H Q
structure YG (X:Cx) (e:Expr) (u:UG):Prop where
 ex:∃ t,QG X e t/\RG X.K t u
structure Eu (X:Cx) (es:List Expr) (u:ph):Prop where
 ex:∃ t,Ef X es t/\IB X.K t u
structure YS (X:Cx) (st:Stmt) (u:US):Prop where
 ex:∃ t,QS X st t/\RS X.K t u
structure YB (X:Cx) (sts:List Stmt) (u:US):Prop where
 ex:∃ t,QB X sts t/\RS X.K t u
namespace Y
def ou(μ:Mu)(i:Nat):Prop:=match μ[i]? with
 |some (.pb _)=>False
 |_=>True
theorem gF(h:ou μ i):∀ c,μ[i]?≠some (.pb c):=fun c e=>by unfold ou at h;rw[e] at h;exact h
def gN(i:Nat):UG:=fun r μ Q=>match r with
 |.tr t=>ou μ i/\Q (μ.set i (.tr t))
 |.fr c=>ou μ i/\Q (μ.set i (.bx c))
 |.br _=>False
section
variable {X:Cx} {a b c e o tg:Expr} {es rest:List Expr} {ua ub uc ue uo:UE} {uA uB:UT} {us:UA} {pos pos' p p2 p3:Pos} {x:Str} {st:Stmt} {sts xs ys:List Stmt} {u w:US}
theorem i9:RG K (cD i) (gN i):=fun F ad B σ H μ v r B0 H0 Q Qt hK h f q k=>by
 cases r with
 |tr t=>exact k ad B _ H _ (h.1.u6 (gF q.1) h.2) f q.2
 |br i=>exact q.elim
 |fr c =>
  obtain⟨l,a,rfl,n,h0,l2,x⟩:=h;exact k _ _ _ H _ (l2.setB (gF q.1) h0 n l.own l.gB x) f q.2
theorem aP(hN:X.N.Nodup)(hi:X.N[i]?=some x)(hx:Loc X.env.scope x)(hf:X.fn x=true\/X.env.scope.names.lookup x=some .local:=by first|exact .inl rfl|exact .inr rfl|assumption):YG X (.Name x pos) (gN i):=⟨_,Z.aP hN hi hx hf,i9⟩
def GJ:ph:=fun ts μ Q=>match ts with
 |[]=>Q μ
 |_=>False
def Gv(g:UG)(gs:ph):ph:=fun ts μ Q=>match ts with
 |[]=>False
 |t::ts=>g (.tr t) μ fun μ'=>gs ts μ' Q
theorem d9:Eu X [] GJ:=⟨_,Z.d9,fun F ad B σ H μ vs ts B0 H0 Q Qt hK l r f q k=>by
 cases r with
 |nil=>exact⟨rfl,k ad B σ H μ l f q⟩
 |cons=>exact q.elim⟩
theorem bg{g:UG}{gs:ph}(h1:YG X e g)(h2:Eu X es gs)(hs:(assignEach (e::es) X.env).map (·.2)=assign e X.env::(assignEach es X.env).map (·.2):=by rfl):Eu X (e::es) (Gv g gs):=by
 obtain⟨t,q,r⟩:=h1;obtain⟨t',q',r'⟩:=h2;refine⟨_,Z.bg q q' hs,fun F ad B σ H μ vs ts B0 H0 Q Qt hK l rs f q k=>?_⟩
 cases rs with
 |nil=>exact q.elim
 |cons h hr=>exact⟨_,_,rfl,r F ad B σ H μ _ (.tr _) B H _ _ hK ⟨l,h⟩ Fr.refl q fun ad' B' σ' H' μ' l' f' q'=>r' F ad' B' σ' H' μ' _ _ B0 H0 _ _ hK l' (hr.fr f') (f.trans f') q' k⟩
def gT(n:Nat)(gs:ph):UG:=fun r μ Q=>match cont μ r.d with
 |some (.tup ts)=>ts.length=n/\gs ts μ Q
 |some (.lst ts)=>ts.length=n/\gs ts μ Q
 |_=>False
def Ge(K:Oe)(n:Nat)(t:o_):TG:=fun v σ H Q=>∃ a xs,v=.ref a/\(b8 K H a xs\/bS K H a xs)/\xs.length=n/\t xs σ H Q
theorem jX{prog:Program}{w:World}{A:Around}{E:Value->Shared->Prop}{t:Addr}(hne:t≠it):∀(n i:Nat) (s:Shared) (Q:List Value->Shared->Prop),s.heap.IsListIter it t i->s.heap.IsList t items->i+n<=items.size ->
  (∀ h',h'.IsListIter it t (i+n)->Heap.SameBut it s.heap h'->Q ((items.toList.drop i).take n) {s with heap:=h'})->wpAny (model prog w) A (draw (.ref it) n) Q E s
 |0,i,s,Q,hit,_,_,hQ=>by
  show wpAny _ _ (pure []) Q E s;exact IZ (by simpa using hQ s.heap hit (Heap.SameBut.refl ..))
 |n+1,i,s,Q,hit,ht,hle,hQ=>by
  have hlt:i<items.size:=by lia
  show wpAny _ _ (pyNext (.ref it) >>= _) Q E s;refine IT (N8 hit ht (x:=items[i]) (by simp[hlt]) fun h₁ hit₁ hs₁=>?_)
  refine IT (J9 (jX hne n (i+1) _ _ hit₁ (ht.extBut hs₁.extBut hne) (by lia) fun h₂ hit₂ hs₂=>IZ ?_))
  have hd:items.toList.drop i=items[i]::items.toList.drop (i+1):=by simp[Kc,hlt]
  have:=hQ h₂ (by rw[show i+(n+1)=i+1+n by lia];exact hit₂) (hs₁.trans hs₂)
  rw[hd,List.take_succ_cons] at this;exact this
theorem gy{w:World}{t:Addr}{Q:List Value->Shared->Prop}(hh:A.handled=none)(ht:s.heap.IsList t items)
  (hQ:∀ h',Heap.ExtBut s.heap.objs.size s.heap h'->Q items.toList {s with heap:=h'}):wpAny (model prog w) A (unpackItems (.ref t) items.size none) Q E s:=by
 have hlt:t≠s.heap.objs.size:=by obtain⟨o,ho,_⟩:=ht;exact Jq (Jc ho)
 unfold unpackItems;refine IT ?_
 ·unfold notIterableAtAll;refine IT (wpAny_specialOf ht.typeIs F.slot_list_iter.lookup ?_);refine IZ ?_;simp only[Ki,KC];refine IT (J9 (KH ht ?_));refine IT (J9 (jX hlt items.size 0 _ _ ⟨_,Je _ rfl,rfl,rfl⟩ (ht.push _) (by lia) fun h₁ hit₁ hs₁=>?_))
  have hall:List.take items.size (List.drop 0 items.toList)=items.toList:=by
   rw[Lc];exact JX (by simp)
  rw[hall];rw[IY (by simp)]
  have ht₁:h₁.IsList t items:=(ht.push _).extBut hs₁.extBut hlt;refine IT (J9 (wpAny_pyNext_list_end hh hit₁ ht₁ (by simp) fun h₂ he₂=>?_))
  simp only[Option.isSome_none,Ki,KC];refine IZ (hQ h₂ fun b o hb e=>he₂ b o hb (hs₁.extBut b o hb (IU _ e)))
theorem zr{k:Nat}{t:o_}(hc:X.calm=true)(h:DD X es t)
  (hn:(assignEach es X.env).length=n:=by rfl) (hst:(assignEach es X.env).findIdx? (·.1)=none:=by rfl):PG X (.Tuple es k pos) (Ge X.K n t):=by
 intro pins s σ H v u Q I r hw;obtain⟨a,xs,e1,hq,hl,hw⟩:=hw;rcases hq with hq|hq
 ·exact yc hc h hn hst pins s σ H v u Q I r ⟨a,xs,e1,hq,hl,hw⟩
 ·subst e1;cases r;obtain⟨its,rv,ht,hz⟩:=I.list hq;rw[assign_Tuple];refine IT (Ll ?_);unfold unpack;have hsz:(assignEach es X.env).length=its.toArray.size:=by rw[hn,<- hl,rv.length];simp
  rw[hsz,hst];refine IT (J9 (gy (I.ok.hd hc) ht.isList fun h' hx=>?_));have I1:Inv X pins σ H {s with heap:=h'}:=I.kept (t':=s.toks) fun b o e=>hx b o (Jq (Jc e)) e
  exact h pins _ σ H xs _ Q I1 (by simpa using rv) hw
theorem nR(K:Oe)(hK:X.K=K){k:Nat}{gs:ph}(hc:X.calm=true)(h:Eu X es gs)(hn:(assignEach es X.env).length=n:=by rfl)(hst:(assignEach es X.env).findIdx? (·.1)=none:=by rfl):YG X (.Tuple es k pos) (gT n gs):=by
 obtain⟨t,q,r⟩:=h;subst hK;refine⟨_,⟨zr hc q.h hn hst⟩,fun F ad B σ H μ v rr B0 H0 Q Qt hF h f q k=>?_⟩;have l:=h.rl;have f':Fr B0 H0 B H:=fun b o h n=>⟨(f b o h n).1,fun z=>(f b o h n).2 (by cases rr<;>first|exact z | (cases v<;>first|exact z|exact .inr z))⟩
 unfold gT at q
 split at q
 ·rename_i ts e;have w:=h.hv.vw l e;rw[hF] at w
  cases w with
  |tup ha ra=>exact⟨_,_,rfl,.inl (b8.of ha),by rw[ra.length];exact q.1,r F ad B σ H μ _ ts B0 H0 Q Qt hF l (by rw[hF];exact ra) f' q.2 k⟩
 ·rename_i ts e;have w:=h.hv.vw l e;rw[hF] at w
  cases w with
  |lst ha ra=>exact⟨_,_,rfl,.inr (bS.of ha),by rw[ra.length];exact q.1,r F ad B σ H μ _ ts B0 H0 Q Qt hF l (by rw[hF];exact ra) f' q.2 k⟩
 ·exact q.elim
theorem dm:YB X [] (fun E μ=>E.nx μ):=⟨_,Z.dm,fun F D E ad B σ H μ hK l q h=>h.nx ad B σ H μ l Fr.refl q⟩
theorem aQ(h:YS X st u):YB X [st] u:=by obtain⟨t,q,r⟩:=h;exact⟨t,Z.aQ q,r⟩
def Ca(u w:US):US:=fun E μ=>u {E with nx:=w E} μ
theorem ae(h:YS X st u)(h2:YB X sts w):YB X (st::sts) (Ca u w):=by
 obtain⟨t,q,r⟩:=h;obtain⟨t',q',r'⟩:=h2;exact⟨_,Z.ae q q',fun F D E ad B σ H μ hK l q h=>r F {D with nx:=t' D} {E with nx:=w E} ad B σ H μ hK l q
  ⟨fun ad1 B1 σ1 H1 μ1 l1 f1 q1=>r' F D E ad1 B1 σ1 H1 μ1 hK l1 q1 (h.step f1),h.rt,h.bk,h.ct⟩⟩
def jO(ue:UE)(g:UG):US:=fun E μ=>ue μ fun r μ'=>g r μ' E.nx
theorem j9{tg:TG}{g:UG}(he:RE K te ue)(hg:RG K tg g):RS K (iD te tg) (jO ue g):=fun F D E ad B σ H μ hK l q h =>
 he F ad B σ H μ _ _ hK l q fun v H' r μ' v1 f k1 q1=>hg F ad B σ H' μ' v r B H _ _ hK v1 f q1 fun ad' B' σ' H2 μ2 l2 f2 q2=>h.nx ad' B' σ' H2 μ2 l2 f2 q2
theorem set(hN:X.N.Nodup)(hi:X.N[i]?=some x)(hx:Loc X.env.scope x)(he:YE X e ue)(hs:Z.AR e=true:=by rfl)(hf:X.fn x=true\/X.env.scope.names.lookup x=some .local:=by first|exact .inl rfl|exact .inr rfl|assumption):
  YS X (.Assign [.Name x pos'] e pos) (jO ue (gN i)):=by
 obtain⟨t,q,r⟩:=he;exact⟨_,Z.set hN hi hx q hs hf,j9 r i9⟩
theorem asg{g:UG}(he:YE X e ue)(hg:YG X tg g)(hs:swapsWithSole [tg] e pos.line X.env=pure false:=by rfl)(hw:swappedStores [tg] e X.env=pure none:=by rfl)
  (h1:(assignEach [tg] X.env).map (·.2)=[assign tg X.env]:=by rfl):YS X (.Assign [tg] e pos) (jO ue g):=by
 obtain⟨t,q,r⟩:=he;obtain⟨t',q',r'⟩:=hg;exact⟨_,Z.asg q q' hs hw h1,j9 r r'⟩
def Ac(ue:UE):US:=fun E μ=>ue μ E.rt
theorem ret(he:YE X e ue):YS X (.Return (some e) pos) (Ac ue):=by
 obtain⟨t,q,r⟩:=he;exact⟨_,Z.ret q,fun F D E ad B σ H μ hK l q h=>r F ad B σ H μ _ _ hK l q fun v H' r1 μ' v1 f k1 q1=>h.rt ad B σ H' μ' v r1 v1 q1⟩
def qH(ue:UE):US:=fun E μ=>ue μ fun _ μ'=>E.nx μ'
theorem expr(he:YE X e ue)(hs:Z.AR e=true:=by rfl):YS X (.Expr e pos) (qH ue):=by
 obtain⟨t,q,r⟩:=he;exact⟨_,Z.expr q hs,fun F D E ad B σ H μ hK l q h=>r F ad B σ H μ _ _ hK l q fun v H' r1 μ' v1 f k1 q1=>h.nx ad B σ H' μ' v1.rl f.d q1⟩
def yt(c:UT)(u w:US):US:=fun E μ=>c μ fun b μ'=>if b=true then u E μ' else w E μ'
theorem gZ(hc:YT X c uA)(ha:YB X xs u)(hb:YB X ys w):YS X (.If c xs ys pos) (yt uA u w):=by
 obtain⟨tc,qc,rc⟩:=hc;obtain⟨t,q,r⟩:=ha;obtain⟨t',q',r'⟩:=hb;refine⟨_,Z.gZ qc q q',fun F D E ad B σ H μ hK l q h=>rc F ad B σ H μ _ _ hK l q fun b H' μ' l1 f k1 q1=>?_⟩
 cases b with
 |true=>rw[Ja rfl] at q1 ⊢;exact r F D E ad B σ H' μ' hK l1 q1 (h.step f)
 |false=>rw[IY Jd] at q1 ⊢;exact r' F D E ad B σ H' μ' hK l1 q1 (h.step f)
end
end Y
structure jf (K:Oe) (J:It) (Src:Hp->bf->Prop) (items:List T):Prop where
 step:∀ H B i t,(∀ b,B b->∃ o,H b=some o)->Src H B->items[i]?=some t->J.go i H/\∀ x H2,J.AX i H x H2->cq H H2/\Rep K H2 B x t
 stop:∀ H B,Src H B->J.stop items.length H
theorem jf.imp{J:It}{Src':Hp->bf->Prop}{items:List T}(h:jf K J Src items)(f:∀ H B,Src' H B->Src H B):jf K J Src' items:=⟨fun H B i t hb s e=>h.step H B i t hb (f H B s) e,fun H B s=>h.stop H B (f H B s)⟩
def FR(F:Fx)(ad:Nat->Addr)(Src:Hp->bf->Prop):Option (Nat×List T)->Prop
 |none=>∀ B1 H1 B2 H2,Fr B1 H1 B2 H2->Src H1 B1->Src H2 B2
 |some (j,ls)=>(∀ B' σ' H' μ',Rl F ad B' σ' H' μ'->cont μ' (.br j)=some (.lst ls)->Src H' B')/\∀ B' H',Rep F.K H' B' (.ref (ad j)) (.lst ls)->Src H' B'
abbrev UI:=Mu->(List T->Option (Nat×List T)->Mu->Prop)->Prop
def RI(K:Oe)(wi:TI)(ui:UI):Prop:=∀(F:Fx) (ad:Nat->Addr) (B:bf) (σ:St) (H:Hp) (μ:Mu) (R:It->Hp->Prop) (Rt:List T->Option (Nat×List T)->Mu->Prop),F.K=K->Rl F ad B σ H μ->ui μ Rt ->
 (∀ J H' μ' items gd Src,Rl F ad B σ H' μ'->Fr B H B H'->Kp μ μ'->jf K J Src items->Src H' B->FR F ad Src gd->(∀ j ls,gd=some (j,ls)->cont μ' (.br j)=some (.lst ls))->Rt items gd μ'->R J H')->wi σ H R
structure YI (X:Cx) (tg it:Expr) (u:UI):Prop where
 ex:∃ t,QI X tg it t/\RI X.K t u
theorem vP:jf K (Fd K a) (fun H B=>∃ vs,bS K H a vs/\ao K H B vs ts) ts:=
 ⟨fun H B i t hb ⟨vs,h,r⟩ e=>by
  obtain⟨v,e1,rv⟩:=r.get e;refine⟨⟨vs,v,h,e1⟩,fun x H2 y=>?_⟩;obtain⟨rfl,y⟩:=y;have:=y vs h;rw[e1] at this;cases this;exact⟨cq.refl _,rv⟩,fun H B ⟨vs,h,r⟩=>⟨vs,h,by rw[r.length];exact Jb _⟩⟩
theorem BR:jf K (Gb K a) (fun H B=>∃ vs,b8 K H a vs/\ao K H B vs ts) ts:=
 ⟨fun H B i t hb ⟨vs,h,r⟩ e=>by
  obtain⟨v,e1,rv⟩:=r.get e;refine⟨⟨vs,v,h,e1⟩,fun x H2 y=>?_⟩;obtain⟨rfl,y⟩:=y;have:=y vs h;rw[e1] at this;cases this;exact⟨cq.refl _,rv⟩,fun H B ⟨vs,h,r⟩=>⟨vs,h,by rw[r.length];exact Jb _⟩⟩
def pairs(ts:List T):List T:=(List.range ts.length).map fun i=>.tup [.int (i:Nat),(ts[i]?).getD .aL]
theorem Bz:jf K (yA K a) (fun H B=>∃ vs,b8 K H a vs/\ao K H B vs ts) (pairs ts):=by
 refine⟨fun H B i t hb ⟨vs,h,r⟩ e=>?_,fun H B ⟨vs,h,r⟩=>⟨vs,h,by rw[r.length];simp[pairs]⟩⟩
 unfold pairs at e;rw[Jy] at e;have hi:i<ts.length:=by
  rcases KP i ts.length with z|z
  ·exact z
  ·rw[Jx.mpr (by simpa using z)] at e;cases e
 rw[LD hi] at e;have e':T.tup [.int (i:Nat),(ts[i]?).getD .aL]=t:=Option.some.inj e;have et:ts[i]?=some ts[i]:=IV hi;obtain⟨v,e1,rv⟩:=r.get et;refine⟨⟨v,vs,h,e1⟩,fun x H2 y=>?_⟩;obtain⟨p,y,hy,hp,rfl,rfl⟩:=y;have:=hy vs h;rw[e1] at this;cases this;subst e';rw[et];refine⟨cq.new hp,.tup (fun z=>?_) ai (.cons (.int _) (.cons (rv.fr (Fr.same (cq.new hp))) .nil))⟩;obtain⟨o,q⟩:=hb p z;rw[hp] at q;cases q
theorem xv{lo:Int}:jf K (DN lo n) (fun _ _=>True) ((List.range n).map fun k=>T.int (lo+(k:Nat))):=
 ⟨fun H B i t hb _ e=>by
  rw[Jy] at e;have hi:i<n:=by
   rcases KP i n with z|z
   ·exact z
   ·rw[Jx.mpr (by simpa using z)] at e;cases e
  rw[LD hi] at e;refine⟨hi,fun x H2 y=>?_⟩;obtain⟨rfl,rfl⟩:=y;cases e;exact⟨cq.refl _,.int _⟩,fun H B _=>by simp[DN]⟩
def Hs(K:Oe)(tl:TE):TI:=fun σ H R=>tl σ H fun x H1=>∃ a,x=V.ref a/\(((∃ xs,bS K H1 a xs)/\R (Fd K a) H1)\/((∃ xs,b8 K H1 a xs)/\R (Gb K a) H1))
theorem D3{l:Expr}{tl:TE}(hl:PE X l tl):PI X tg l (Hs X.K tl):=by
 intro pins s σ H R I h;refine b9 (hl pins s σ H _ I h) fun v s1 ⟨x,H1,I1,r1,q1⟩=>?_;obtain⟨a,rfl,q⟩:=q1;cases r1;rcases q with ⟨⟨xs,hq⟩,q⟩|⟨⟨xs,hq⟩,q⟩
 ·obtain⟨its,rv,p,hz⟩:=I1.list hq;refine KH p.isList ?_;refine⟨s1.heap.objs.size,[s1.heap.objs.size],_,_,H1,rfl,I1.kept (t':=s1.toks) fun b o e=>IU _ e,sQ a _,⟨_,Je _ rfl,rfl,rfl⟩,fun b hb=>?_,q⟩;have e:b=s1.heap.objs.size:=by simpa using hb
  subst e;exact I1.m_ (Jb _) (I1.aO.fresh (Jb _))
 ·obtain⟨its,rv,p,hz⟩:=I1.tuple hq;refine Ka (show s1.heap.IsTuple a its.toArray from p) ?_;refine⟨s1.heap.objs.size,[s1.heap.objs.size],_,_,H1,rfl,I1.kept (t':=s1.toks) fun b o e=>IU _ e,oV a _,⟨_,Je _ rfl,rfl,rfl⟩,fun b hb=>?_,q⟩;have e:b=s1.heap.objs.size:=by simpa using hb
  subst e;exact I1.m_ (Jb _) (I1.aO.fresh (Jb _))
namespace Y
section
variable {X:Cx} {a b c e o tg it:Expr} {es rest:List Expr} {ua ub uc ue uo:UE} {uA uB:UT} {us:UA} {pos pos' p p2 p3:Pos} {x:Str} {st:Stmt} {sts xs ys:List Stmt} {u w:US}
def Bk(ue:UE):UI:=fun μ Rt=>ue μ fun r μ'=>match r with
 |.br j=>(match cont μ' (.br j) with|some (.lst ts)=>Rt ts (some (j,ts)) μ'|_=>False)
 |.tr (.lst ts)=>Rt ts none μ'
 |.fr (.lst ts)=>Rt ts none μ'
 |.tr (.tup ts)=>Rt ts none μ'
 |.tr (.dM ts)=>Rt ts none μ'
 |.tr (.gE ts)=>Rt ts none μ'
 |_=>False
theorem any(K:Oe)(hK:X.K=K)(he:YE X e ue):YI X tg e (Bk ue):=by
 obtain⟨t,q,r⟩:=he;subst hK;refine⟨_,⟨D3 q.h⟩,fun F ad B σ H μ R Rt hF l q k=>r F ad B σ H μ _ _ hF l q fun v H' r1 μ' v1 f k1 q1=>?_⟩;have hv:=v1.hv;have l1:=v1.rl;have go:∀(ts:List T) (a:Addr) (t:T),v=.ref a->Rep F.K H' B (.ref a) t->(t=.lst ts\/t=.dM ts)->Rt ts none μ'->∃ a,v=V.ref a/\(((∃ xs,bS X.K H' a xs)/\R (Fd X.K a) H')\/((∃ xs,b8 X.K H' a xs)/\R (Gb X.K a) H')):=fun ts a t ev rp et q=>by
  have sr:∀ H B,Rep F.K H B (.ref a) t->∃ vs,bS X.K H a vs/\ao X.K H B vs ts:=fun H B h=>by
   rw[hF] at h;rcases et with rfl|rfl
   ·cases h with|lst n h r=>exact⟨_,bS.of h,r⟩
   ·cases h with|dM h r=>exact⟨_,h.sq,r⟩
  obtain⟨vs,h1,_⟩:=sr _ _ rp;exact⟨a,ev,.inl ⟨⟨vs,h1⟩,k _ H' μ' ts none (fun H B=>Rep F.K H B (.ref a) t) l1 f.d k1 (vP.imp sr) rp (fun B1 H1 B2 H2 f h=>h.fr f) (fun j ls z=>by cases z) q⟩⟩
 have goT:∀(ts:List T) (a:Addr) (t:T),v=.ref a->Rep F.K H' B (.ref a) t->(t=.tup ts\/t=.gE ts)->Rt ts none μ'->∃ a,v=V.ref a/\(((∃ xs,bS X.K H' a xs)/\R (Fd X.K a) H')\/((∃ xs,b8 X.K H' a xs)/\R (Gb X.K a) H')):=fun ts a t ev rp et q=>by
  have sr:∀ H B,Rep F.K H B (.ref a) t->∃ vs,b8 X.K H a vs/\ao X.K H B vs ts:=fun H B h=>by
   rw[hF] at h;rcases et with rfl|rfl
   ·cases h with|tup n h r=>exact⟨_,b8.of h,r⟩
   ·cases h with|gE h r=>exact⟨_,.inr h,r⟩
  obtain⟨vs,h1,_⟩:=sr _ _ rp;exact⟨a,ev,.inr ⟨⟨vs,h1⟩,k _ H' μ' ts none (fun H B=>Rep F.K H B (.ref a) t) l1 f.d k1 (BR.imp sr) rp (fun B1 H1 B2 H2 f h=>h.fr f) (fun j ls z=>by cases z) q⟩⟩
 split at q1
 ·rename_i j
  split at q1
  ·rename_i ts e;obtain⟨ev,s,c,e1,e2⟩:=hv;have src:∀ B' σ' H' μ',Rl F ad B' σ' H' μ'->cont μ' (.br j)=some (.lst ts)->∃ vs,bS X.K H' (ad j) vs/\ao X.K H' B' vs ts:=fun B' σ' H' μ' l e=>by
    have e3:(μ'[j]?).bind Sl.box=some (.lst ts):=e
    cases q:μ'[j]? with
    |none=>rw[q] at e3;cases e3
    |some s' =>
     rw[q] at e3;have bx:=((l.slot j s' q).boxed (c:=.lst ts) e3).2.2.1;rw[hF] at bx;obtain⟨vs,h1,h2⟩:=bx;exact⟨vs,bS.of h1,h2⟩
   obtain⟨vs,h1,h2⟩:=src _ _ _ _ l1 e;refine⟨ad j,ev,.inl ⟨⟨vs,h1⟩,k _ H' μ' ts (some (j,ts)) _ l1 f.d k1 vP ⟨vs,h1,h2⟩ ⟨src,fun B' H' h=>?_⟩ (fun j' ls z=>by cases z;exact e) q1⟩⟩
   rw[hF] at h
   cases h with|lst n h r=>exact⟨_,bS.of h,r⟩
  ·exact q1.elim
 ·have rp:Rep F.K H' B v _:=hv
  cases rp with|lst n h r=>exact go _ _ _ rfl (.lst n h r) (.inl rfl) q1
 ·have rp:Rep F.K H' B v _:=hv
  cases rp with|lst n h r=>exact go _ _ _ rfl (.lst n h r) (.inl rfl) q1
 ·have rp:Rep F.K H' B v _:=hv
  cases rp with|tup n h r=>exact goT _ _ _ rfl (.tup n h r) (.inl rfl) q1
 ·have rp:Rep F.K H' B v _:=hv
  cases rp with|dM h r=>exact go _ _ _ rfl (.dM h r) (.inr rfl) q1
 ·have rp:Rep F.K H' B v _:=hv
  cases rp with|gE h r=>exact goT _ _ _ rfl (.gE h r) (.inr rfl) q1
 ·exact q1.elim
def Gr(us:UA):UI:=fun μ Rt=>us μ fun rs μ'=>match rs with
 |[.tr (.int j)]=>-(2^62)<=j/\j<2^62/\Rt ((List.range j.toNat).map fun k=>T.int (0+(k:Nat))) none μ'
 |_=>False
def GG(us:UA):UI:=fun μ Rt=>us μ fun rs μ'=>match rs with
 |[.tr (.int i),.tr (.int j)]=>(-(2^62)<=i/\i<2^62/\-(2^62)<=j/\j<2^62)/\Rt ((List.range (j-i).toNat).map fun k=>T.int (i+(k:Nat))) none μ'
 |_=>False
theorem pA(hg:Gl X "range")(hm:X.mg "range"=none)(ha:YA X [a] us)(h:cN a=true:=by rfl):YI X tg (.Call (.Name "range" p) [a] [] pos) (Gr us):=by
 obtain⟨t,q,r⟩:=ha;refine⟨_,Z.pA hg hm q h,fun F ad B σ H μ R Rt hF l q k=>r F ad B σ H μ _ _ hF l q fun vs H' rs μ' l1 ps f k1 q1=>?_⟩
 split at q1
 ·cases ps with
  |cons h1 ps=>cases ps;cases cE h1;exact⟨_,rfl,q1.1,q1.2.1,k _ H' μ' _ none _ l1 f k1 xv trivial (fun _ _ _ _ _ _=>trivial) (fun j ls z=>by cases z) q1.2.2⟩
 ·exact q1.elim
theorem CI(hg:Gl X "range")(hm:X.mg "range"=none)(ha:YA X [a,b] us)(h:cN a=true:=by rfl)(h2:cN b=true:=by rfl):YI X tg (.Call (.Name "range" p) [a,b] [] pos) (GG us):=by
 obtain⟨t,q,r⟩:=ha;refine⟨_,Z.CI hg hm q h h2,fun F ad B σ H μ R Rt hF l q k=>r F ad B σ H μ _ _ hF l q fun vs H' rs μ' l1 ps f k1 q1=>?_⟩
 split at q1
 ·cases ps with
  |cons h1 ps=>cases ps with
   |cons h2 ps=>cases ps;cases cE h1;cases cE h2;exact⟨_,_,rfl,q1.1,k _ H' μ' _ none _ l1 f k1 xv trivial (fun _ _ _ _ _ _=>trivial) (fun j ls z=>by cases z) q1.2⟩
 ·exact q1.elim
def G7(us:UA):UI:=fun μ Rt=>us μ fun rs μ'=>match rs with
 |[.tr (.tup ts)]=>Rt (pairs ts) none μ'
 |_=>False
theorem enum(K:Oe)(hK:X.K=K){k:Nat}(hg:Gl X "enumerate")(hm:X.mg "enumerate"=none)(ha:YA X [e] us)(h1:cN e=true:=by rfl):YI X (.Tuple es k tp) (.Call (.Name "enumerate" p) [e] [] pos) (G7 us):=by
 obtain⟨t,q,r⟩:=ha;refine⟨_,Z.enum K hK hg hm q h1,fun F ad B σ H μ R Rt hF l q k=>r F ad B σ H μ _ _ hF l q fun vs H' rs μ' l1 ps f k1 q1=>?_⟩;have hF':F.K=K:=hF.trans hK
 split at q1
 ·rename_i ts
  cases ps with
  |cons h1 ps =>
   cases ps;have rp:=cE h1
   cases rp with
   |@tup a vs _ n h rr =>
    have sr:∀ H B,Rep F.K H B (.ref a) (.tup ts)->∃ vs,b8 X.K H a vs/\ao X.K H B vs ts:=fun H B h=>by
     rw[hF] at h
     cases h with|tup n h r=>exact⟨_,b8.of h,r⟩
    refine⟨a,rfl,⟨vs,b8.of h⟩,?_⟩;have:=k (yA X.K a) H' μ' (pairs ts) none (fun H B=>Rep F.K H B (.ref a) (.tup ts)) l1 f k1 (Bz.imp sr) (.tup n h rr) (fun B1 H1 B2 H2 f h=>h.fr f) (fun j ls z=>by cases z) q1
    rw[hK] at this;exact this
 ·exact q1.elim
def fj(g:UG)(body:US)(E:Ed):List T->Mu->Prop
 |[],μ=>E.nx μ
 |t::ts,μ=>g (.tr t) μ fun μ1=>body {E with nx:=fj g body E ts,ct:=fj g body E ts,bk:=E.nx} μ1
def xY(ui:UI)(g:UG)(body:US):US:=fun E μ=>ui μ fun items gd μ'=>match gd with
 |none=>fj g body E items μ'
 |some (j,_)=>(match μ'[j]? with
  |some (.bx c)=>fj g body E items (μ'.set j (.tr c))
  |_=>False)
theorem n6{g:TG}{ug:UG}{tb:TS}{body:US}{E:Ed}{J:It}{items:List T}{B0:bf}{H0:Hp}(hF:F.K=K)(hg:RG K g ug)(hb:RS K tb body)(it:jf K J Src items)
  (pe:∀ B1 H1 B2 H2,Fr B1 H1 B2 H2->Src H1 B1->Src H2 B2) (hE:pZ F B0 H0 D E)      (l:Rl F ad B σ H μ) (f:Fr B0 H0 B H) (sr:Src H B) (q:fj ug body E items μ) :
  ∃ W:Nat->Nat->St->Hp->Prop,(∃ m,W 0 m σ H)/\∀ i m σ H,W i m σ H ->
   (J.stop i H/\D.nx σ H)\/(J.go i H/\∃ N:St->Hp->Prop,(∀ σ' H',N σ' H'->∃ m',m'<m/\W (i+1) m' σ' H')/\∀ x H',J.AX i H x H'->g x σ H' fun σ2 H2=>tb {D with nx:=N,ct:=N,bk:=D.nx} σ2 H2):=by
 refine⟨fun i m σ H=>m=items.length-i/\i<=items.length/\∃ ad B μ,Rl F ad B σ H μ/\Fr B0 H0 B H/\Src H B/\fj ug body E (items.drop i) μ,⟨items.length,by simp,JC _,ad,B,μ,l,f,sr,q⟩,?_⟩
 rintro i m σ H ⟨rfl,hi,ad,B,μ,l,f,sr,q⟩;by_cases hlt:i<items.length
 ·have ei:items[i]?=some items[i]:=IV hlt;rw[Kc hlt] at q;obtain⟨go,yl⟩:=it.step H B i _ l.eR sr ei;refine .inr ⟨go,fun σ' H'=>∃ ad' B' μ',Rl F ad' B' σ' H' μ'/\Fr B0 H0 B' H'/\Src H' B'/\fj ug body E (items.drop (i+1)) μ',fun σ' H' h=>⟨items.length-(i+1),by lia,rfl,hlt,h⟩,fun x H2 y=>?_⟩
  obtain⟨sm,rp⟩:=yl x H2 y;refine hg F ad B σ H2 μ x (.tr _) B H2 _ _ hF ⟨l.same sm,by show Rep F.K H2 B x _;rw[hF];exact rp⟩ Fr.refl q fun ad3 B3 σ3 H3 μ3 l3 f3 q3=>?_
  have f03:Fr B0 H0 B3 H3:=(f.trans (Fr.same sm)).trans f3;have s3:Src H3 B3:=pe _ _ _ _ ((Fr.same sm).trans f3) sr;exact hb F _ _ ad3 B3 σ3 H3 μ3 hF l3 q3 ⟨fun ad' B' σ' H' μ' l' f' q'=>⟨ad',B',μ',l',f03.trans f',pe _ _ _ _ f' s3,q'⟩,hE.rt,fun ad' B' σ' H' μ' l' f' q'=>hE.nx ad' B' σ' H' μ' l' (f03.trans f') q',fun ad' B' σ' H' μ' l' f' q'=>⟨ad',B',μ',l',f03.trans f',pe _ _ _ _ f' s3,q'⟩⟩
 ·have e:i=items.length:=by lia
  subst e;rw[Md] at q;exact .inl ⟨it.stop H B sr,hE.nx ad B σ H μ l f q⟩
theorem eY{ui:UI}{g:UG}(hp:PassesOwn (model X.prog X.w) X.A X.env X.xe)(hc:X.calm=true)(hi:YI X tg it ui)(hg:YG X tg g)(hb:YB X xs u)(hs:∀ x,foldedSetIterable it X.env x=pure x:=by intro _;rfl):YS X (.For tg it xs [] pos) (xY ui g u):=by
 obtain⟨ti,qi,ri⟩:=hi;obtain⟨tg',qg,rg⟩:=hg;obtain⟨t,q,r⟩:=hb;refine⟨_,Z.eY hp hc qi qg q hs,fun F D E ad B σ H μ hF l q h=>ri F ad B σ H μ _ _ hF l q fun J H' μ' items gd Src l1 f1 k1 it sr so gok q1=>?_⟩
 split at q1
 ·exact n6 hF rg r it so h l1 f1 sr q1
 ·rename_i j ls
  split at q1
  ·rename_i c ej;have bx:=l1.slot j _ ej;have hc:¬ F.Bc (ad j):=fun z=>by
    obtain⟨o,e⟩:=F.bh _ z;rw[bx.2.2.1] at e;cases e
   obtain⟨l2,rp⟩:=l1.freeze ej hc;have ec:c=.lst ls:=by
    have:=gok j ls rfl;have e2:(μ'[j]?).bind Sl.box=some (.lst ls):=this;rw[ej] at e2;exact Option.some.inj e2
   subst ec;exact n6 (Src:=fun H B=>Rep F.K H B (.ref (ad j)) (.lst ls)) hF rg r (it.imp fun H B h=>so.2 B H h) (fun B1 H1 B2 H2 f h=>h.fr f) h l2 (f1.trans (Fr.less fun b z=>z.1)) rp q1
  ·exact q1.elim
def B4(c:UT)(body:US):US:=fun E μ=>∃ I:Nat->Mu->Prop,(∃ m,I m μ)/\∀ m μ,I m μ->c μ fun b μ'=>if b=true then body {E with nx:=fun μ2=>∃ m',m'<m/\I m' μ2,ct:=fun μ2=>∃ m',m'<m/\I m' μ2,bk:=E.nx} μ' else E.nx μ'
theorem gw(hp:PassesOwn (model X.prog X.w) X.A X.env X.xe)(hc:YT X c uA)(hb:YB X xs u):YS X (.While c xs [] pos) (B4 uA u):=by
 obtain⟨tc,qc,rc⟩:=hc;obtain⟨t,q,r⟩:=hb;refine⟨_,Z.gw hp qc q,fun F D E ad B σ H μ hF l q h=>?_⟩;obtain⟨I,⟨m0,i0⟩,turn⟩:=q;refine⟨fun m σ' H'=>∃ ad' B' μ',Rl F ad' B' σ' H' μ'/\Fr B H B' H'/\I m μ',⟨m0,ad,B,μ,l,Fr.refl,i0⟩,?_⟩;rintro m σ1 H1 ⟨ad1,B1,μ1,l1,f1,i1⟩;refine rc F ad1 B1 σ1 H1 μ1 _ _ hF l1 (turn m μ1 i1) fun b H2 μ2 l2 f2 k2 q2=>?_
 cases b with
 |true =>
  rw[Ja rfl] at q2 ⊢;refine⟨fun σ' H'=>∃ m',m'<m/\∃ ad' B' μ',Rl F ad' B' σ' H' μ'/\Fr B H B' H'/\I m' μ',fun σ' H' h=>h,?_⟩;have hn:∀ ad' B' σ' H' μ',Rl F ad' B' σ' H' μ'->Fr B1 H2 B' H'->(∃ m',m'<m/\I m' μ')->∃ m',m'<m/\∃ ad' B' μ',Rl F ad' B' σ' H' μ'/\Fr B H B' H'/\I m' μ':=fun ad' B' σ' H' μ' l' f' ⟨m',hm,i'⟩=>⟨m',hm,ad',B',μ',l',(f1.trans f2).trans f',i'⟩;exact r F _ _ ad1 B1 σ1 H2 μ2 hF l2 q2 ⟨hn,h.rt,fun ad' B' σ' H' μ' l' f' q'=>h.nx ad' B' σ' H' μ' l' ((f1.trans f2).trans f') q',hn⟩
 |false =>
  rw[IY Jd] at q2 ⊢;exact h.nx ad1 B1 σ1 H2 μ2 l2 (f1.trans f2) q2
end
end Y
def sL(K:Oe)(u:UE):TE:=fun σ H Q=>∃(F:Fx) (ad:Nat->Addr) (B:bf) (μ:Mu) (Qt:R->Mu->Prop),F.K=K/\Rl F ad B σ H μ/\u μ Qt/\∀ v H' r μ',Vr F ad B σ H' μ' v r->Fr B H (Bv B v r) H'->Kp μ μ'->Qt r μ'->Q v H'
def tO(K:Oe)(u:UT):TT:=fun σ H Q=>∃(F:Fx) (ad:Nat->Addr) (B:bf) (μ:Mu) (Qt:Bool->Mu->Prop),F.K=K/\Rl F ad B σ H μ/\u μ Qt/\∀ b H' μ',Rl F ad B σ H' μ'->Fr B H B H'->Kp μ μ'->Qt b μ'->Q b H'
theorem YE.yv{u:UE}(h:YE X e u):QE X e (sL X.K u):=⟨fun pins s σ H Q I hh=>by
 obtain⟨F,ad,B,μ,Qt,hF,l,q,k⟩:=hh;obtain⟨t,qe,r⟩:=h;exact qe.h pins s σ H Q I (r F ad B σ H μ Q Qt hF l q k)⟩
theorem AB.yv{e:List Expr}{u:UT}(h:AB X e u):DM X e (tO X.K u):=⟨fun pins s σ H Q I hh=>by
 obtain⟨F,ad,B,μ,Qt,hF,l,q,k⟩:=hh;obtain⟨t,qe,r⟩:=h;exact qe.h pins s σ H Q I (r F ad B σ H μ Q Qt hF l q k)⟩
theorem qA{u:UE}:RE K (sL K u) u:=fun F ad B σ H μ Q Qt hF l q k=>⟨F,ad,B,μ,Qt,hF,l,q,k⟩
theorem rV{u:UT}:RT K (tO K u) u:=fun F ad B σ H μ Q Qt hF l q k=>⟨F,ad,B,μ,Qt,hF,l,q,k⟩
def Fx.sh(F:Fx):Fx:={F with P:=fun i=>match i with|0=>none|i+1=>F.P i}
def EB(ad:Nat->Addr):Nat->Addr:=fun i=>match i with|0=>0|i+1=>ad i
theorem Rl.push{x:V}(l:Rl F ad B σ H μ)(h:Rep F.K H B x t):Rl F.sh (EB ad) B (some x::σ) H (.tr t::μ):=by
 refine⟨Jv (·+1) l.len,fun i s e=>?_,fun i j s u c d e1 e2 b1 b2 q=>?_,fun i a p=>?_,l.bc,l.eR,fun b o e n=>l.old b o e fun i z=>n (i+1) z,fun a ws ga=>?_⟩
 ·cases i with
  |zero =>
   have e':Sl.tr t=s:=by simpa using e
   subst e';exact⟨x,rfl,h⟩
  |succ i=>exact l.slot i s (by simpa using e)
 ·cases i with
  |zero =>
   have e':Sl.tr t=s:=by simpa using e1
   subst e';cases b1
  |succ i=>cases j with
   |zero =>
    have e':Sl.tr t=u:=by simpa using e2
    subst e';cases b2
   |succ j=>exact Jv (·+1) (l.inj i j s u c d (by simpa using e1) (by simpa using e2) b1 b2 q)
 ·cases i with
  |zero=>cases p
  |succ i=>obtain⟨⟨c,e⟩,z⟩:=l.par i a p;exact⟨⟨c,by simpa using e⟩,z⟩
 ·obtain⟨g1,g2,g3⟩:=l.gh a ws ga;refine⟨g1,g2,fun i s c e b=>?_⟩
  cases i with
  |zero =>
   have e':Sl.tr t=s:=by simpa using e
   subst e';cases b
  |succ i=>exact g3 i s c (by simpa using e) b
theorem Rl.C5{y:Option V}(l:Rl F.sh (EB ad) B (y::σ) H μ):Rl F ad B σ H μ.tail:=by
 have get:∀ i,μ.tail[i]?=μ[i+1]?:=fun i=>by cases μ<;>simp
 refine⟨?_,fun i s e=>?_,fun i j s u c d e1 e2 b1 b2 q=>?_,fun i a p=>?_,l.bc,l.eR,fun b o e n=>l.old b o e fun i z=>?_,fun a ws ga=>let ⟨g1,g2,g3⟩:=l.gh a ws ga;⟨g1,g2,fun i s c e b=>g3 (i+1) s c (by rw[<- get];exact e) b⟩⟩
 ·have:=l.len;rw[List.length_tail,this];rfl
 ·rw[get] at e;exact l.slot (i+1) s e
 ·rw[get] at e1 e2;exact Nat.succ.inj (l.inj (i+1) (j+1) s u c d e1 e2 b1 b2 q)
 ·obtain⟨⟨c,e⟩,z⟩:=l.par (i+1) a p;exact⟨⟨c,by rw[get];exact e⟩,z⟩
 ·cases i with
  |zero=>cases z
  |succ i=>exact n i z
theorem Kp.tail{s:Sl}(k:Kp (s::μ) μ'):Kp μ μ'.tail:=fun i=>by
 have:=k (i+1);rw[N0] at this;rw[this]
 cases μ'<;>simp
def Fx.g(F:Fx)(D:Addr)(ys:List V):Fx:={F with G:=fun b=>if b=D then some ys else F.G b}
section
variable {F:Fx} {ad:Nat->Addr} {B:bf} {σ:St} {H:Hp} {μ:Mu} {D:Addr} {ys zs:List V}
theorem Rl.Hk(l:Rl F ad B σ H μ)(h:H D=some (.lst ys))(hb:B D)(n:∀(i:Nat) (s:Sl) (c:T),μ[i]?=some s->s.box=some c->ad i≠D):Rl (F.g D ys) ad B σ H μ:=by
 refine⟨l.len,l.slot,l.inj,l.par,l.bc,l.eR,l.old,fun a vs e=>?_⟩;have e':(if a=D then some ys else F.G a)=some vs:=e
 by_cases z:a=D
 ·rw[Ja z] at e';cases e';subst z;exact⟨h,hb,n⟩
 ·rw[IY z] at e';exact l.gh a vs e'
theorem Rl.Hu(l:Rl (F.g D ys) ad B σ H μ):H D=some (.lst ys)/\B D/\∀(i:Nat) (s:Sl) (c:T),μ[i]?=some s->s.box=some c->ad i≠D:=l.gh D ys (show (if D=D then some ys else F.G D)=some ys from Ja rfl)
theorem Rl.AA(l:Rl (F.g D ys) ad B σ H μ)(hg:F.G D=none):Rl F ad B σ H μ:=by
 refine⟨l.len,l.slot,l.inj,l.par,l.bc,l.eR,l.old,fun a vs e=>l.gh a vs ?_⟩;show (if a=D then some ys else F.G a)=some vs
 rw[IY (by rintro rfl;rw[hg] at e;cases e)]
 exact e
theorem Rl.setG(l:Rl (F.g D ys) ad B σ H μ)(h0:F.H0 D=none):Rl (F.g D zs) ad B σ (upd H D (.lst zs)) μ:=by
 obtain⟨g1,g2,g3⟩:=l.Hu;have f:Fr B H B (upd H D (.lst zs)):=Fr.set g2;refine⟨l.len,fun i s e=>?_,l.inj,l.par,l.bc,fun b z=>?_,fun b o e n=>?_,fun a vs e=>?_⟩
 ·have k:=l.slot i s e;unfold ia at k ⊢
  split at k
  ·trivial
  ·obtain⟨v,e1,r1⟩:=k;exact⟨v,e1,r1.fr f⟩
  ·obtain⟨e1,b,z0,p,x⟩:=k;exact⟨e1,b,z0,p,x.of (af (g3 i _ _ e rfl)) f⟩
  ·obtain⟨e1,b,p,x⟩:=k;exact⟨e1,b,p,x.of (af (g3 i _ _ e rfl)) f⟩
 ·by_cases z':b=D
  ·subst z';exact⟨_,ai⟩
  ·rw[af z'];exact l.eR b z
 ·rw[af (by rintro rfl;have e':F.H0 _=some o:=e;rw[h0] at e';cases e')]
  exact l.old b o e n
 ·have e':(if a=D then some zs else F.G a)=some vs:=e
  by_cases z:a=D
  ·rw[Ja z] at e';cases e';subst z;exact⟨ai,g2,g3⟩
  ·rw[IY z] at e';obtain⟨a1,a2,a3⟩:=l.gh a vs (show (if a=D then some ys else F.G a)=some vs by rw[IY z];exact e')
   exact⟨by rw[af z];exact a1,a2,a3⟩
end
namespace Y
def Gf:Option (Nat×List T)->Mu->Prop
 |none,_=>True
 |some (j,ls),μ=>cont μ (.br j)=some (.lst ls)
def oR(gd:Option (Nat×List T))(own:T->Mu->Option Mu)(dr:Mu->Mu)(ut:UT)(ue:UE)(Q:R->Mu->Prop):List T->List T->Mu->Prop
 |[],acc,μ=>Gf gd μ/\Q (.fr (.lst acc)) μ
 |t::r,acc,μ=>Gf gd μ/\acc.length<sizeLine/\(match own t μ with
  |none=>False
  |some μ1=>ut μ1 fun b μ2=>if b=true then ue μ2 fun rr μ3=>(match rr.d with
    |.tr t'=>oR gd own dr ut ue Q r (acc++[t']) (dr μ3)
    |_=>False) else oR gd own dr ut ue Q r acc (dr μ2))
def yO(t:T)(μ:Mu):Option Mu:=some (.tr t::μ)
def t8(t:T)(μ:Mu):Option Mu:=match t with
 |.tup [a,b]=>some (.tr a::.tr b::μ)
 |_=>none
def G8(μ:Mu):Mu:=μ.tail
def GF(μ:Mu):Mu:=μ.tail.tail
def gX(own:T->Mu->Option Mu)(dr:Mu->Mu)(ui:UI)(ut:UT)(ue:UE):UE:=fun μ Q=>ui μ fun items gd μ'=>oR gd own dr ut ue Q items [] μ'
structure vK (K:Oe) (k:Nat) (g:TG) (own:T->Mu->Option Mu) (dr:Mu->Mu) (shF:Fx->Fx) (shA:(Nat->Addr)->Nat->Addr):Prop where
 fK:∀ F,(shF F).K=F.K
 step:∀(F:Fx) (ad:Nat->Addr) (B:bf) (σ:St) (H:Hp) (μ μ1:Mu) (x:V) (t:T) (σ':St) (Q:St->Hp->Prop),F.K=K->Rl F ad B σ H μ->Rep F.K H B x t->own t μ=some μ1->σ'.length=k->(∀ σ1,σ1.length=k->Rl (shF F) (shA ad) B (σ1++σ) H μ1->Q (σ1++σ) H)->g x (σ'++σ) H Q
 back:∀(F:Fx) (ad:Nat->Addr) (B:bf) (σ σ1:St) (H:Hp) (μ:Mu),σ1.length=k->Rl (shF F) (shA ad) B (σ1++σ) H μ->Rl F ad B σ H (dr μ)
 kp:∀(μ μ1 μ2:Mu) (t:T),own t μ=some μ1->Kp μ1 μ2->Kp μ (dr μ2)
theorem h_{α:Type _}{l:List α}(h:l.length=1):∃ y,l=[y]:=by
 rcases l with _|⟨a,_|⟨b,t⟩⟩
 ·cases h
 ·exact⟨a,rfl⟩
 ·cases h
theorem fF{α:Type _}{l:List α}(h:l.length=2):∃ y z,l=[y,z]:=by
 rcases l with _|⟨a,t⟩
 ·cases h
 ·obtain⟨b,rfl⟩:=h_ (Nat.succ.inj h);exact⟨a,b,rfl⟩
theorem uN{α:Type _}{l:List α}(h:l.length=3):∃ x y z,l=[x,y,z]:=by
 rcases l with _|⟨a,t⟩
 ·cases h
 ·obtain⟨b,c,rfl⟩:=fF (Nat.succ.inj h);exact⟨a,b,c,rfl⟩
theorem qZ:vK K 1 (cD 0) yO G8 Fx.sh EB where
 fK:=fun F=>rfl
 step:=fun F ad B σ H μ μ1 x t σ' Q hF l r e hk h=>by
  cases e;obtain⟨y,rfl⟩:∃ y,σ'=[y]:=by
   exact h_ hk
  exact h [some x] rfl (l.push r)
 back:=fun F ad B σ σ1 H μ hk l=>by
  obtain⟨y,rfl⟩:∃ y,σ1=[y]:=by
   exact h_ hk
  exact l.C5
 kp:=fun μ μ1 μ2 t e k=>by cases e;exact k.tail
theorem q_:vK K 2 (mT K 2 (eG (cD 0) (eG (cD 1) n5))) t8 GF (fun F=>F.sh.sh) (fun ad=>EB (EB ad)) where
 fK:=fun F=>rfl
 step:=fun F ad B σ H μ μ1 x t σ' Q hF l r e hk h=>by
  unfold t8 at e
  split at e
  ·rename_i a b;cases e;obtain⟨y,z,rfl⟩:∃ y z,σ'=[y,z]:=by
    exact fF hk
   cases r with
   |tup n hh rr =>
    cases rr with
    |cons r1 rr=>cases rr with
     |cons r2 rr =>
      cases rr;exact⟨_,_,rfl,b8.of hh,rfl,_,_,rfl,_,_,rfl,rfl,h [some _,some _] rfl ((l.push r2).push (F:=F.sh) r1)⟩
  ·cases e
 back:=fun F ad B σ σ1 H μ hk l=>by
  obtain⟨y,z,rfl⟩:∃ y z,σ1=[y,z]:=by
   exact fF hk
  exact (Rl.C5 (F:=F.sh) l).C5
 kp:=fun μ μ1 μ2 t e k=>by
  unfold t8 at e
  split at e
  ·cases e;exact k.tail.tail
  ·cases e
theorem iw{k:Nat}{g:TG}{own:T->Mu->Option Mu}{shF:Fx->Fx}{shA:(Nat->Addr)->Nat->Addr}{ui:UI}{ut:UT}(O:vK K k g own dr shF shA)(hi:RI K wi ui)(ht:RT K tc ut)(he:RE K te ue):RE K (iK wi k g tc te) (gX own dr ui ut ue):=by
 intro F ad B σ H μ Q Qt hF l q kk;refine hi F ad B σ H μ _ _ hF l q fun J H1 μ1 items gd Src l1 f1 k1 it sr so gk q1=>?_;intro D hD;have hnB:=l1.lZ hD;have h0D:=l1.zZ hD;have hGD:F.G D=none:=by
  cases q:F.G D with
  |none=>rfl
  |some vs=>have:=(l1.gh D vs q).1;rw[hD] at this;cases this
 have nbx:∀(μ':Mu),Kp μ μ'->∀(i:Nat) (s:Sl) (c:T),μ'[i]?=some s->s.box=some c->B (ad i):=fun μ' k i s c e b=>by
  obtain⟨s',c',e',b'⟩:=k.symm.fwd i s c e b;exact l.own i s' c' e' b'
 refine⟨fun i m ys σ' H'=>m=items.length-i/\i<=items.length/\∃ σ1 μ' acc,σ'=σ1++σ/\σ1.length=k/\Rl (F.g D ys) ad (more B D) σ H' μ'/\ao F.K H' (more B D) ys acc/\Fr B H (more B D) H'/\Kp μ μ'/\(gd=none->Src H' (more B D))/\oR gd own dr ut ue Qt (items.drop i) acc μ',
  ⟨items.length,by simp,JC _,_,μ1,[],rfl,JH,(l1.new hD).Hk ai (.inl rfl) (fun i s c e b z=>hnB (z ▸ nbx μ1 k1 i s c e b)),.nil,f1.trans (Fr.more hD),k1,fun z=>?_,q1⟩,?_⟩
 ·subst z;exact so _ _ _ _ (Fr.more hD) sr
 rintro i m ys σ' H' ⟨rfl,hi',σ1,μ',acc,rfl,hk,l2,ra,f2,k2,s2,q2⟩;have hD2:=l2.Hu.1;refine⟨hD2,?_⟩;have src:Gf gd μ'->Src H' (more B D):=fun hg=>by
  cases gd with
  |none=>exact s2 rfl
  |some jl=>obtain⟨j,ls⟩:=jl;exact so.1 _ _ _ _ (l2.AA hGD) hg
 by_cases hlt:i<items.length
 ·have ei:items[i]?=some items[i]:=IV hlt;rw[Kc hlt] at q2;obtain⟨hg,hz,q2⟩:=q2;have sr2:=src hg;obtain⟨go,yl⟩:=it.step H' (more B D) i _ l2.eR sr2 ei;refine .inr ⟨go,by rw[ra.length];exact hz,fun x H3 y=>?_⟩
  obtain⟨sm,rp⟩:=yl x H3 y
  split at q2
  ·exact q2.elim
  ·rename_i μ3 eo;have f3:Fr (more B D) H' (more B D) H3:=Fr.same sm;have hF2:(F.g D ys).K=K:=hF;refine O.step (F.g D ys) ad (more B D) σ H3 μ' μ3 x _ σ1 _ hF2 (l2.same sm) (by rw[hF2];exact rp) eo hk fun σ4 hk4 l4=>?_
   refine ht (shF (F.g D ys)) (shA ad) (more B D) _ H3 μ3 _ _ ((O.fK _).trans hF2) l4 q2 fun b H5 μ5 l5 f5 k5 q5=>?_
   cases b with
   |true =>
    rw[Ja rfl] at q5 ⊢;refine he (shF (F.g D ys)) (shA ad) (more B D) _ H5 μ5 _ _ ((O.fK _).trans hF2) l5 q5 fun v H6 r6 μ6 v6 f6 k6 q6=>?_;have l6:=O.back (F.g D ys) ad (more B D) σ σ4 H6 μ6 hk4 v6.rl;refine⟨l6.Hu.1,?_⟩;have hv:=v6.hv
    split at q6
    ·rename_i t' e6;rw[e6] at hv;have rv:Rep F.K H6 (more B D) v t':=by have:=hv;unfold Hv at this;rw[O.fK] at this;exact this
     have fa:=(f3.trans f5).trans f6.d;have fs:Fr (more B D) H6 (more B D) (upd H6 D (.lst (ys++[v]))):=Fr.set (.inl rfl);refine⟨items.length-(i+1),by lia,rfl,hlt,σ4,dr μ6,acc++[t'],rfl,hk4,l6.setG h0D,((ra.fr fa).append (.cons rv .nil)).fr fs,(f2.trans fa).trans fs,k2.trans (O.kp μ' μ3 μ6 _ eo (k5.trans k6)),fun z=>?_,q6⟩
     subst z;exact so _ _ _ _ (fa.trans fs) (s2 rfl)
    ·exact q6.elim
   |false =>
    rw[IY Jd] at q5 ⊢;have l6:=O.back (F.g D ys) ad (more B D) σ σ4 H5 μ5 hk4 l5;have fa:=f3.trans f5;refine⟨items.length-(i+1),by lia,rfl,hlt,σ4,dr μ5,acc,rfl,hk4,l6,ra.fr fa,f2.trans fa,k2.trans (O.kp μ' μ3 μ5 _ eo k5),fun z=>?_,q5⟩
    subst z;exact so _ _ _ _ fa (s2 rfl)
 ·have e:i=items.length:=by lia
  subst e;rw[Md] at q2;obtain⟨hg,q2⟩:=q2;have l3:=l2.AA hGD;refine .inl ⟨it.stop H' (more B D) (src hg),kk (.ref D) H' (.fr (.lst acc)) μ' ⟨l3.less (fun b z=>.inr z) l.bc (nbx μ' k2) (fun a vs ga=>?_),D,rfl,hnB,h0D,l3,ys,hD2,ra⟩ f2 k2 q2⟩;exact l.gB a vs ga
section
variable {X:Cx} {elt tg iter:Expr} {ifs:List Expr} {ue:UE} {ut:UT} {ui:UI} {pos pos' p2:Pos} {x:Str} {osc scope:Scope} {ON own N:List Str}
theorem kZ(S:cI osc ON scope own N)(hosc:X.env.scope=osc)(hON:X.N=ON)(hc:X.calm=true)(ho:own.length=1)(hi:YI X tg iter ui)
  (hg:∀ C s H fp,QG (aM X scope N C s H fp) tg (cD 0)) (ht:∀ C s H fp,AB (aM X scope N C s H fp) ifs ut) (he:∀ C s H fp,YE (aM X scope N C s H fp) elt ue) (hs:∀ x,foldedSetIterable iter X.env x=pure x:=by intro _;rfl) :
  YE X (.ListComp elt [⟨tg,iter,ifs,0⟩] scope pos) (gX yO G8 ui ut ue):=by
 obtain⟨t,q,r⟩:=hi;have h:=Z.comp (pos:=pos) (tc:=tO X.K ut) (te:=sL X.K ue) S hosc hON hc q hg (fun C s H fp=>(ht C s H fp).yv) (fun C s H fp=>(he C s H fp).yv) hs;rw[ho] at h;exact⟨_,h,iw qZ r rV qA⟩
theorem u3(K:Oe)(hK:X.K=K)(S:cI osc ON scope own N)(hosc:X.env.scope=osc)(hON:X.N=ON)(hc:X.calm=true)(ho:own.length=2)(hi:YI X tg iter ui)
  (hg:∀ C s H fp,QG (aM X scope N C s H fp) tg (mT K 2 (eG (cD 0) (eG (cD 1) n5)))) (ht:∀ C s H fp,AB (aM X scope N C s H fp) ifs ut) (he:∀ C s H fp,YE (aM X scope N C s H fp) elt ue) (hs:∀ x,foldedSetIterable iter X.env x=pure x:=by intro _;rfl) :
  YE X (.ListComp elt [⟨tg,iter,ifs,0⟩] scope pos) (gX t8 GF ui ut ue):=by
 obtain⟨t,q,r⟩:=hi;subst hK;have h:=Z.comp (pos:=pos) (tc:=tO X.K ut) (te:=sL X.K ue) S hosc hON hc q hg (fun C s H fp=>(ht C s H fp).yv) (fun C s H fp=>(he C s H fp).yv) hs;rw[ho] at h;exact⟨_,h,iw q_ r rV qA⟩
theorem FF(hN:X.N.Nodup)(hj:X.N[j]?=some x)(hx:Loc X.env.scope x)(S:cI osc ON scope own N)(hosc:X.env.scope=osc)(hON:X.N=ON)(hc:X.calm=true)(ho:own.length=1)(hi:YI X tg iter ui)
  (hg:∀ C s H fp,QG (aM X scope N C s H fp) tg (cD 0)) (ht:∀ C s H fp,AB (aM X scope N C s H fp) ifs ut) (he:∀ C s H fp,YE (aM X scope N C s H fp) elt ue)
  (hsw:swapsWith (.ListComp elt [⟨tg,iter,ifs,0⟩] scope p2) (some (.Name x pos')) pos.line X.env=pure true:=by rfl)
  (hf:X.fn x=true\/X.env.scope.names.lookup x=some .local:=by first|exact .inl rfl|exact .inr rfl|assumption) (hs:∀ x,foldedSetIterable iter X.env x=pure x:=by intro _;rfl) :
  YS X (.Assign [.Name x pos'] (.ListComp elt [⟨tg,iter,ifs,0⟩] scope p2) pos) (jO (gX yO G8 ui ut ue) (gN j)):=by
 obtain⟨t,q,r⟩:=hi;have h:=Z.setC (tc:=tO X.K ut) (te:=sL X.K ue) hN hj hx S hosc hON hc q hg (fun C s H fp=>(ht C s H fp).yv) (fun C s H fp=>(he C s H fp).yv) hsw hf hs;rw[ho] at h;exact⟨_,h,j9 (iw qZ r rV qA) i9⟩
theorem tG:AB X [] (fun μ Q=>Q true μ):=⟨_,Z.tG,fun F ad B σ H μ Q Qt hK l q k=>k true H μ l Fr.refl (Kp.refl μ) q⟩
theorem Gy{c:Expr}(h:YT X c ut):AB X [c] ut:=by obtain⟨t,q,r⟩:=h;exact⟨t,Z.Gy q,r⟩
end
end Y
def dz(μ:Mu)(j:Nat)(c:T):Mu:=match μ[j]? with
 |some s=>μ.set j (s.put c)
 |none=>μ
namespace Y
section
variable {X:Cx} {a b c e o tg it i:Expr} {es rest:List Expr} {ua ub uc ue uo ui:UE} {uA uB:UT} {us:UA} {pos pos' p p2 p3 apos:Pos} {x:Str} {st:Stmt} {sts xs ys:List Stmt} {u w:US}
def gS(uo ui:UE):UG:=fun r μ Q=>match r.d with
 |.tr t=>uo μ fun ro μ1=>ui μ1 fun ri μ2=>(match ro,ri with
  |.br j,.tr (.int k)=>(match (μ2[j]?).bind Sl.box with
   |some (.lst ts)=>(match jT ts.length k with
    |some n=>Q (dz μ2 j (.lst (ts.set n t)))
    |none=>False)
   |_=>False)
  |_,_=>False)
 |_=>False
theorem gG(ho:YE X o uo)(hi:YE X i ui)
  (ha:∀ v,assign (.Subscript o i pos) X.env v=(do
   let ov <- holding [v] (eval o X.env)
   let iv <- holding [v,ov] (eval i X.env)
   standAt pos
   holding [v,ov,iv] (setItem ov iv v)
   release [v,ov,iv] []):=by intro _;rfl):YG X (.Subscript o i pos) (gS uo ui):=by
 obtain⟨t,q,r⟩:=ho;obtain⟨t',q',r'⟩:=hi;refine⟨_,Z.gG q q' ha,fun F ad B σ H μ v rr B0 H0 Q Qt hF h f q k=>?_⟩;unfold gS at q;have f0:Fr B0 H0 B H:=fun b o h n=>⟨(f b o h n).1,fun z=>(f b o h n).2 (by cases rr<;>first|exact z | (cases v<;>first|exact z|exact .inr z))⟩
 have hv:=h.hv
 split at q
 ·rename_i t0 e0;rw[e0] at hv;refine r F ad B σ H μ _ _ hF h.rl q fun ov H1 r1 μ1 v1 f1 k1 q1=>r' F ad B σ H1 μ1 _ _ hF v1.rl q1 fun iv H2 r2 μ2 v2 f2 k2 q2=>?_
  split at q2
  ·rename_i j kk;have rp:=v2.2;cases rp;obtain⟨rfl,_⟩:=(v1.hv.fr f2.d k2)
   split at q2
   ·rename_i ts e
    split at q2
    ·rename_i n en
     cases ej:μ2[j]? with
     |none=>rw[ej] at e;cases e
     |some s =>
      rw[ej] at e;have e':s.box=some (.lst ts):=e;have l2:=v2.rl;obtain⟨vs,hl,rs⟩:=((l2.slot j s ej).boxed e').2.2.1;have rv:Rep F.K H2 B v t0:=(show Rep F.K H B v t0 from hv).fr (f1.d.trans f2.d);have l3:=l2.put ej e' (rs.set n rv);show xk (.ref (ad j)) (.int kk) v H2 _;rw[Ap.setRef,hl];simp only;rw[rs.length,en];simp only;unfold dz at q2;rw[ej] at q2;exact k ad B σ _ _ l3 ((f0.trans (f1.d.trans f2.d)).trans (Fr.set ((l2.slot j s ej).boxed e').2.1)) q2
    ·exact q2.elim
   ·exact q2.elim
  ·exact q2.elim
 ·exact q.elim
abbrev UM:=Nat->List R->Mu->(R->Mu->Prop)->Prop
def GB:Option T->Prop->Prop
 |some (.lst _),p=>p
 |_,_=>False
def GD(um:UM)(uo:UE)(us:UA):UE:=fun μ Q=>uo μ fun ro μ1=>match ro with
 |.br j=>GB ((μ1[j]?).bind Sl.box) (us μ1 fun rs μ2=>um j rs μ2 Q)
 |_=>False
def RM(K:Oe)(r:V->List V->Hp->VK->Prop)(um:UM):Prop:=∀(F:Fx) (ad:Nat->Addr) (B:bf) (σ:St) (H:Hp) (μ:Mu) (Q:VK) (Qt:R->Mu->Prop) (j:Nat) (s:Sl) (c:T) (xs:List V) (rs:List R),F.K=K->Rl F ad B σ H μ->μ[j]?=some s->s.box=some c->Paired (Hv F ad B H μ) xs rs->um j rs μ Qt ->
 (∀ v H' r μ',Vr F ad B σ H' μ' v r->Fr B H (Bv B v r) H'->Kp μ μ'->Qt r μ'->Q v H')->r (.ref (ad j)) xs H Q
theorem bm(K:Oe)(hK:X.K=K){id:String}{r:V->List V->Hp->VK->Prop}{um:UM}(slot:Slot "list" name id)(hty:typeOf (.builtin id)=pure (.type "method_descriptor"))(hm:FH X id r)(hr:RM X.K r um)(ho:YE X o uo)(ha:YA X (e::es) us)
  (hbase:attributeBase o name X.env (eval o X.env)=eval o X.env:=by rfl) (hline:(apos.endLine == pos.line)=true:=by rfl) (h:(e::es).all cN=true:=by rfl) (hl:(e::es).length<30:=by decide):YE X (.Call (.Attribute o name apos) (e::es) [] pos) (GD um uo us):=by
 obtain⟨t,q,rr⟩:=ho;obtain⟨t',q',r'⟩:=ha;refine⟨_,Z.bm K hK PySem.F.plainAttrs_list slot hty hm q q' hbase hline h hl,fun F ad B σ H μ Q Qt hF l q k=>rr F ad B σ H μ _ _ hF l q fun v H1 r1 μ1 v1 f1 k1 q1=>?_⟩
 split at q1
 ·rename_i j;obtain⟨l1,rfl,s,c,e1,e2⟩:=v1;rw[e1] at q1;have q1':GB s.box _:=q1;rw[e2] at q1';rcases ((l1.slot j s e1).boxed e2).2.2.1.is with ⟨ts,vs,rfl,hl,_⟩|⟨_,_,_,rfl,_⟩
  case inr=>exact q1'.elim
  have q1:=(show us μ1 _ from q1');refine⟨.inl ⟨rfl,vs,bS.of hl⟩,?_⟩;refine r' F ad B σ H1 μ1 _ _ hF l1 q1 fun xs H2 rs μ2 l2 ps f2 k2 q2=>?_;obtain⟨s',c',e3,e4⟩:=k2.fwd j s _ e1 e2;exact hr F ad B σ H2 μ2 _ _ j s' c' xs rs hF l2 e3 e4 ps q2 fun v H3 r3 μ3 v3 f3 k3 q3=>k v H3 r3 μ3 v3 ((f1.d.trans f2).trans f3) ((k1.trans k2).trans k3) q3
 ·exact q1.elim
def fW:UM:=fun j rs μ Q=>match rs with
 |[.tr t]=>(match (μ[j]?).bind Sl.box with
  |some (.lst ts)=>ts.length<sizeLine/\Q (.tr .aL) (dz μ j (.lst (ts++[t])))
  |_=>False)
 |_=>False
theorem bQ:RM K qX fW:=by
 intro F ad B σ H μ Q Qt j s c xs rs hF l e b ps q k;unfold fW at q
 split at q
 ·cases ps with
  |cons h ps =>
   cases ps;rw[e] at q;have q':(match s.box with|some (.lst ts)=>ts.length<sizeLine/\Qt (.tr .aL) (dz μ j (.lst (ts++[_])))|_=>False):=q
   rw[b] at q';rcases ((l.slot j s e).boxed b).2.2.1.is with ⟨ts,vs,rfl,hl,rv⟩|⟨_,_,_,rfl,_⟩
   case inr=>exact q'.elim
   simp only at q';refine⟨_,_,_,rfl,rfl,hl,by rw[rv.length];exact q'.1,?_⟩
   have l3:=l.put e b (rv.append (.cons (cE h) .nil));have q2:=q'.2;unfold dz at q2;rw[e] at q2;exact k _ _ (.tr .aL) _ (Vr.flat l3 .aL) (Fr.set ((l.slot j s e).boxed b).2.1) (Kp.set e b (Sl.i8 b)) q2
 ·exact q.elim
end
end Y
def jR:List Bool->List V->List Addr
 |true::md,.ref a::vs=>a::jR md vs
 |_::md,_::vs=>jR md vs
 |_,_=>[]
def fE(K:Oe)(H:Hp)(B:bf):List Bool->List V->List T->Prop
 |[],[],[]=>True
 |false::md,v::vs,t::ts=>Rep K H B v t/\fE K H B md vs ts
 |true::md,v::vs,t::ts=>(∃ a,v=.ref a/\B a/\Bx K H B a t)/\fE K H B md vs ts
 |_,_,_=>False
abbrev fA:=List T->(R->List T->Prop)->Prop
variable{tsp:fA}
def EU(K:Oe)(H H':Hp)(B:bf)(as:List Addr)(v:V)(outs:List T):R->Prop
 |.tr t=>Rep K H' B v t/\Paired (Bx K H' B) as outs
 |.fr c=>∃ a,v=.ref a/\H a=none/\¬ B a/\Bx K H' (more B a) a c/\Paired (Bx K H' (more B a)) as outs
 |.br _=>False
def spT(K:Oe)(md:List Bool)(tsp:fA):Sp:=fun vs H Q _=>∃(B:bf) (args:List T) (Qt:R->List T->Prop),fE K H B md vs args/\(∀ b,B b->∃ o,H b=some o)/\(jR md vs).Nodup/\tsp args Qt /\
 ∀ v H' r outs,Qt r outs->(∀ b o,H b=some o->b∉jR md vs->H' b=some o)->EU K H H' B (jR md vs) v outs r->Q v H'
theorem fE.len:∀{md:List Bool} {vs:List V} {ts:List T},fE K H B md vs ts->vs.length=md.length/\ts.length=md.length
 |[],[],[],_=>⟨rfl,rfl⟩
 |false::md,v::vs,t::ts,h=>⟨Jv (·+1) (fE.len h.2).1,Jv (·+1) (fE.len h.2).2⟩
 |true::md,v::vs,t::ts,h=>⟨Jv (·+1) (fE.len h.2).1,Jv (·+1) (fE.len h.2).2⟩
theorem fE.get:∀{md:List Bool} {vs:List V} {ts:List T} {i:Nat} {b:Bool},fE K H B md vs ts->md[i]?=some b->∃ v t,vs[i]?=some v/\ts[i]?=some t/\(if b=true then ∃ a,v=.ref a/\B a/\Bx K H B a t else Rep K H B v t)
 |[],[],[],i,b,_,e=>by simp at e
 |c::md,[],_,_,_,h,_=>by cases c<;>exact h.elim
 |c::md,v::vs,[],_,_,h,_=>by cases c<;>exact h.elim
 |c::md,v::vs,t::ts,0,b,h,e=>by
  have e':c=b:=by simpa using e
  subst e'
  cases c with
  |false=>exact⟨v,t,rfl,rfl,by rw[IY Jd];exact h.1⟩
  |true=>exact⟨v,t,rfl,rfl,by rw[Ja rfl];exact h.1⟩
 |c::md,v::vs,t::ts,i+1,b,h,e=>by
  have h2:fE K H B md vs ts:=by cases c<;>exact h.2
  obtain⟨v',t',e1,e2,q⟩:=fE.get h2 (show md[i]?=some b by simpa using e)
  exact⟨v',t',by simpa using e1,by simpa using e2,q⟩
theorem eU:∀{md:List Bool} {vs:List V} {i:Nat} {a:Addr},md[i]?=some true->vs[i]?=some (.ref a)->a∈jR md vs
 |[],_,_,_,e,_=>by simp at e
 |c::md,[],_,_,_,e=>by simp at e
 |c::md,v::vs,0,a,e1,e2=>by
  have e1':c=true:=by simpa using e1
  have e2':v=.ref a:=by simpa using e2
  subst e1' e2';exact Jl
 |c::md,v::vs,i+1,a,e1,e2=>by
  have:=eU (md:=md) (vs:=vs) (i:=i) (a:=a) (by simpa using e1) (by simpa using e2)
  cases c with
  |false=>exact this
  |true=>cases v<;>first|exact Jk _ this|exact this
theorem qR:∀{md:List Bool} {vs:List V} {i j:Nat} {a:Addr},(jR md vs).Nodup->md[i]?=some true->md[j]?=some true->vs[i]?=some (.ref a)->vs[j]?=some (.ref a)->i=j
 |[],_,_,_,_,_,e,_,_,_=>by simp at e
 |c::md,[],_,_,_,_,_,_,e,_=>by simp at e
 |c::md,v::vs,i,j,a,nd,e1,e2,e3,e4=>by
  have tl:(jR md vs).Nodup:=by
   cases c with
   |false=>exact nd
   |true=>cases v<;>first|exact (JD.mp nd).2|exact nd
  cases i with
  |zero =>
   have e1':c=true:=by simpa using e1
   have e3':v=.ref a:=by simpa using e3
   subst e1' e3'
   cases j with
   |zero=>rfl
   |succ j=>exact absurd (eU (md:=md) (vs:=vs) (i:=j) (a:=a) (by simpa using e2) (by simpa using e4)) (JD.mp nd).1
  |succ i=>cases j with
   |zero =>
    have e1':c=true:=by simpa using e2
    have e3':v=.ref a:=by simpa using e4
    subst e1' e3';exact absurd (eU (md:=md) (vs:=vs) (i:=i) (a:=a) (by simpa using e1) (by simpa using e3)) (JD.mp nd).1
   |succ j=>exact Jv (·+1) (qR tl (by simpa using e1) (by simpa using e2) (by simpa using e3) (by simpa using e4))
def cC:List Bool->Nat->Mu->List T
 |[],_,_=>[]
 |true::md,i,μ=>(match μ[i]? with
  |some (.pb c)=>c::cC md (i+1) μ
  |_=>cC md (i+1) μ)
 |false::md,i,μ=>cC md (i+1) μ
theorem m7{P:Addr->T->Prop}:∀{md:List Bool} {vs:List V} {i:Nat},vs.length=md.length->(∀ n,md[n]?=some true->∃ a c,vs[n]?=some (.ref a)/\μ[i+n]?=some (.pb c)/\P a c)->Paired P (jR md vs) (cC md i μ)
 :=by
  intro md
  induction md with
  |nil =>
    intro vs i hl h
    cases vs with
    |nil=>exact .nil
    |cons v vs=>cases hl
  |cons b md ih =>
    intro vs i hl h
    cases vs with
    |nil=>cases hl
    |cons v vs =>
      have rest:=ih (vs:=vs) (i:=i+1) (Nat.succ.inj hl) fun n e=>by
        obtain⟨a,c,e1,e2,p⟩:=h (n+1) e;exact⟨a,c,e1,by rw[MQ,Ob 1 n];exact e2,p⟩
      cases b with
      |false=>exact rest
      |true =>
        obtain⟨a,c,e1,e2,p⟩:=h 0 rfl;have e1':v=.ref a:=Option.some.inj e1;subst e1';rw[Nat.add_zero] at e2;show Paired P (a::jR md vs) (match μ[i]? with|some (.pb c)=>c::cC md (i+1) μ|_=>cC md (i+1) μ)
        rw[e2];exact .cons p rest
def startM:List Bool->List T->Nat->Mu
 |b::md,t::ts,n=>(if b=true then .pb t else .tr t)::startM md ts (n-1)
 |_,_,n=>List.replicate n .un
def uJ(md:List Bool)(Qt:R->List T->Prop):Ed where
 nx:=fun μ=>Qt (.tr .aL) (cC md 0 μ)
 rt:=fun r μ=>match r with
  |.tr t=>Qt (.tr t) (cC md 0 μ)
  |.fr c=>Qt (.fr c) (cC md 0 μ)
  |.br i=>(match μ[i]? with
   |some (.bx c)=>Qt (.fr c) (cC md 0 μ)
   |_=>False)
theorem jr:∀{md:List Bool} {ts:List T} {n:Nat},ts.length=md.length->md.length<=n->(startM md ts n).length=n
 |[],[],n,_,_=>JH
 |b::md,t::ts,n,h,hn=>by
  cases n with
  |zero=>simp at hn
  |succ n=>exact Jv (·+1) (jr (by simpa using h) (by simpa using hn))
theorem fB:∀{md:List Bool} {ts:List T} {n i:Nat} {s:Sl},(startM md ts n)[i]?=some s->s=.un\/∃ b t,md[i]?=some b/\ts[i]?=some t/\s=(if b=true then .pb t else .tr t)
 |[],ts,n,i,s,e=>by
  have e':(List.replicate n Sl.un)[i]?=some s:=by cases ts<;>exact e
  rw[Li] at e'
  split at e'
  ·exact .inl (Option.some.inj e').symm
  ·cases e'
 |b::md,[],n,i,s,e=>by
  have e':(List.replicate n Sl.un)[i]?=some s:=e;rw[Li] at e'
  split at e'
  ·exact .inl (Option.some.inj e').symm
  ·cases e'
 |b::md,t::ts,n,0,s,e=>.inr ⟨b,t,rfl,rfl,by have e':some (if b=true then Sl.pb t else .tr t)=some s:=e;exact (Option.some.inj e').symm⟩
 |b::md,t::ts,n,i+1,s,e=>by
  rcases fB (md:=md) (ts:=ts) (n:=n-1) (i:=i) (s:=s) (by simpa[startM] using e) with h|⟨b',t',h1,h2,h3⟩
  ·exact .inl h
  ·exact .inr ⟨b',t',by simpa using h1,by simpa using h2,h3⟩
theorem kO:∀{md:List Bool} {ts:List T} {n i:Nat} {b:Bool} {t:T},md[i]?=some b->ts[i]?=some t->(startM md ts n)[i]?=some (if b=true then .pb t else .tr t)
 |[],_,_,_,_,_,e,_=>by simp at e
 |b::md,[],_,_,_,_,_,e=>by simp at e
 |b::md,t::ts,n,0,b',t',e1,e2=>by
  have e1':b=b':=by simpa using e1
  have e2':t=t':=by simpa using e2
  subst e1' e2';rfl
 |b::md,t::ts,n,i+1,b',t',e1,e2=>by
  have:=kO (md:=md) (ts:=ts) (n:=n-1) (i:=i) (b:=b') (t:=t') (by simpa using e1) (by simpa using e2)
  simpa[startM] using this
def lM(vs:List V)(i:Nat):Addr:=match vs[i]? with
 |some (.ref a)=>a
 |_=>0
def FT(md:List Bool)(vs:List V)(i:Nat):Option Addr:=match md[i]?,vs[i]? with
 |some true,some (.ref a)=>some a
 |_,_=>none
theorem fC(h:FT md vs i=some a):md[i]?=some true/\vs[i]?=some (.ref a):=by
 unfold FT at h
 split at h
 ·rename_i e1 e2;cases h;exact⟨e1,e2⟩
 ·cases h
theorem m9(h1:md[i]?=some true)(h2:vs[i]?=some (.ref a)):FT md vs i=some a:=by
 unfold FT;rw[h1,h2]
def jU(K:Oe)(H:Hp)(md:List Bool)(vs:List V)(B:bf)(bh:∀ b,B b->∃ o,H b=some o):Fx:=⟨K,H,FT md vs,B,bh,fun _=>none⟩
theorem iP(ag:fE K H B md vs args)(bh:∀ b,B b->∃ o,H b=some o)(nd:(jR md vs).Nodup)(hN:md.length<=N.length):
  Rl (jU K H md vs B bh) (lM vs) B (start N vs) H (startM md args N.length):=by
 obtain⟨l1,l2⟩:=ag.len;have sget:∀ i v,vs[i]?=some v->(start N vs)[i]?=some (some v):=fun i v e=>by
  have hi:=(Ji.mp e).1;unfold start;rw[Lb (by simpa using hi),Jy,e];rfl
 refine⟨?_,fun i s e=>?_,fun i j s u c d e1 e2 b1 b2 q=>?_,fun i a p=>?_,fun b z=>z,bh,fun b o e n=>e,fun a ws ga=>by cases ga⟩
 ·rw[jr l2 hN];unfold start;rw[IX,IW,JH];lia
 ·rcases fB e with rfl|⟨b,t,h1,h2,rfl⟩
  ·trivial
  ·obtain⟨v,t',e1,e2,q⟩:=ag.get h1;rw[h2] at e2;cases e2
   cases b with
   |false =>
    rw[IY Jd] at q;rw[IY Jd];exact⟨v,sget i v e1,q⟩
   |true =>
    rw[Ja rfl] at q;rw[Ja rfl];obtain⟨a,rfl,hb,x⟩:=q;have ea:lM vs i=a:=by unfold lM;rw[e1]
    show _/\_/\_/\_;rw[ea];exact⟨sget i _ e1,hb,m9 h1 e1,x⟩
 ·have one:∀{i:Nat} {s:Sl} {c:T},(startM md args N.length)[i]?=some s->s.box=some c->md[i]?=some true/\∃ a,vs[i]?=some (.ref a)/\lM vs i=a:=fun {i s c} e b=>by
   rcases fB e with rfl|⟨b',t,h1,h2,rfl⟩
   ·cases b
   ·cases b' with
    |false=>rw[IY Jd] at b;cases b
    |true =>
     obtain⟨v,t',e1,e2,q⟩:=ag.get h1;rw[Ja rfl] at q;obtain⟨a,rfl,_⟩:=q;exact⟨h1,a,e1,by unfold lM;rw[e1]⟩
  obtain⟨m1,a1,v1,z1⟩:=one e1 b1;obtain⟨m2,a2,v2,z2⟩:=one e2 b2;rw[z1,z2] at q;subst q;exact qR nd m1 m2 v1 v2
 ·obtain⟨h1,h2⟩:=fC p;obtain⟨v,t',e1,e2,q⟩:=ag.get h1;refine⟨⟨t',?_⟩,by unfold lM;rw[h2]⟩
  have:=kO (n:=N.length) h1 e2;rw[Ja rfl] at this;exact this
theorem HasFn.mD{N:List Str}{k:Nat}(F:HasFn K mg x st ps)(S:az N ps (aa st))(md:List Bool)(hm:md.length=ps.length)(hN:md.length<=N.length)
  (hbody:∀(args:List T) (Qt:R->List T->Prop),args.length=ps.length->tsp args Qt->∀(f:Addr) (cdv:Value) (A:Around) (outer:List Env) (s:Shared) (H:Hp) (E:XK),bU k (A.deeper (envOfC x (aa st) s.heap.objs.size f cdv)) ->
   ∃ us,YB (fR cF P w K mg base N x (aa st) f cdv A outer s H E).yR (aw st) us/\us (uJ md Qt) (startM md args N.length)):ah P w K mg base cF (k+1) x ps (spT K md tsp):=by
 refine F.HD S (fun vs H Q E h=>?_) (fun f cdv A outer s H vs Q E hr h=>?_)
 ·obtain⟨B,args,Qt,ag,_⟩:=h;rw[ag.len.1,hm]
 ·obtain⟨B,args,Qt,ag,bh,nd,ht,fin⟩:=h;obtain⟨us,⟨t,q,r⟩,hu⟩:=hbody args Qt (by rw[ag.len.2,hm]) ht f cdv A outer s H E hr
  refine⟨t,q,?_⟩;have l0:=iP (N:=N) ag bh nd hN;have outs:∀ ad' B' σ' H' μ' (B2:bf),Rl (jU K H md vs B bh) ad' B' σ' H' μ'->(∀ b,B2 b->B' b)->Paired (Bx K H' B2) (jR md vs) (cC md 0 μ'):=fun ad' B' σ' H' μ' B2 l hB=>by
   refine m7 (ag.len.1) fun n e=>?_;obtain⟨v,t',e1,e2,q⟩:=ag.get e;rw[Ja rfl] at q;obtain⟨a,rfl,_⟩:=q;obtain⟨⟨c,hc⟩,ha⟩:=l.par n a (m9 e e1);have sl:=l.slot n _ hc;refine⟨a,c,e1,by rw[Kg];exact hc,?_⟩
   rw[<- ha];exact (sl.2.2.2).of rfl (Fr.less hB)
  have keep:∀ ad' B' σ' H' μ',Rl (jU K H md vs B bh) ad' B' σ' H' μ'->∀ b o,H b=some o->b∉jR md vs->H' b=some o:=fun ad' B' σ' H' μ' l b o e n=>l.old b o e fun i z=>n (eU (fC z).1 (fC z).2);refine r (jU K H md vs B bh) _ _ (lM vs) B (start N vs) H _ rfl l0 hu ⟨fun ad' B' σ' H' μ' l _ q=>?_,fun ad' B' σ' H' μ' v rr h q=>?_,fun _ _ _ _ _ _ _ z=>z.elim,fun _ _ _ _ _ _ _ z=>z.elim⟩
  ·exact fin .aL H' (.tr .aL) _ q (keep _ _ _ _ _ l) ⟨.aL,outs _ _ _ _ _ _ l l.bc⟩
  ·cases rr with
   |tr t=>exact fin v H' (.tr t) _ q (keep _ _ _ _ _ h.1) ⟨(show Rep K H' B' v t from h.2).fr (Fr.less h.1.bc),outs _ _ _ _ _ _ h.1 h.1.bc⟩
   |fr c =>
    obtain⟨l,a,rfl,n,h0,l2,x⟩:=h;have sub:∀ b,more B a b->more B' a b:=fun b z=>z.imp id (l.bc b);exact fin _ H' (.fr c) _ q (keep _ _ _ _ _ l) ⟨a,rfl,h0,fun z=>n (l.bc a z),x.of rfl (Fr.less sub),outs _ _ _ _ _ _ l2 sub⟩
   |br i =>
    have q':(match μ'[i]? with|some (.bx c)=>Qt (.fr c) (cC md 0 μ')|_=>False):=q
    obtain⟨l,rfl,s',c',e1,e2⟩:=h
    split at q'
    ·rename_i c ec;have sl:=l.slot i _ ec;have sub:∀ b,more B (ad' i) b->B' b:=fun b z=>z.elim (fun z=>by rw[z];exact sl.2.1) (l.bc b)
     refine fin _ H' (.fr c) _ q' (keep _ _ _ _ _ l) ⟨ad' i,rfl,sl.2.2.1,fun z=>?_,(sl.2.2.2.2).of rfl (Fr.less sub),outs _ _ _ _ _ _ l sub⟩;obtain⟨o,e⟩:=bh _ z;have:H (ad' i)=none:=sl.2.2.1;rw[this] at e;cases e
    ·exact q'.elim
def vo(μ:Mu):List Bool->List R->Option (List T)
 |[],[]=>some []
 |false::md,r::rs=>(match cont μ r,vo μ md rs with
  |some t,some ts=>some (t::ts)
  |_,_=>none)
 |true::md,.br j::rs=>(match cont μ (.br j),vo μ md rs with
  |some t,some ts=>some (t::ts)
  |_,_=>none)
 |_,_=>none
def gb:List Bool->List R->List Nat
 |true::md,.br j::rs=>j::gb md rs
 |_::md,_::rs=>gb md rs
 |_,_=>[]
def gM:List Bool->List R->List Nat
 |false::md,.br j::rs=>j::gM md rs
 |_::md,_::rs=>gM md rs
 |_,_=>[]
def fZ:T->Bool
 |.lst ts=>ts.all cp
 |.km _ ts=>ts.all cp
 |t=>cp t
def nv:R->Bool
 |.tr t=>cp t
 |.fr c=>fZ c
 |.br _=>false
def putAll:List Nat->List T->Mu->Mu
 |j::js,c::cs,μ=>putAll js cs (dz μ j c)
 |_,_,μ=>μ
theorem qF(h:i≠j):(dz μ j c)[i]?=μ[i]?:=by
 unfold dz;split
 ·rw[Kx (Ne.symm h)]
 ·rfl
theorem As{s:Sl}(e:μ[j]?=some s):(dz μ j c)[j]?=some (s.put c):=by
 unfold dz;rw[e];exact K2 (Ji.mp e).1
theorem vy:(dz μ j c).length=μ.length:=by
 unfold dz;split
 ·exact JE
 ·rfl
theorem iJ:∀{js:List Nat} {cs:List T} {μ:Mu},(putAll js cs μ).length=μ.length
 |[],_,_=>rfl
 |_::_,[],_=>rfl
 |j::js,c::cs,μ=>(iJ (js:=js)).trans vy
theorem dQ:∀{js:List Nat} {cs:List T} {μ:Mu} {i:Nat},i∉js->(putAll js cs μ)[i]?=μ[i]?
 |[],_,_,_,_=>rfl
 |_::_,[],_,_,_=>rfl
 |j::js,c::cs,μ,i,h=>(dQ (js:=js) (fun z=>h (Jk _ z))).trans (qF fun z=>h (z ▸ Jl))
theorem dA{P:Addr->T->Prop}:∀{js:List Nat} {cs:List T} {μ:Mu} {i:Nat} {s:Sl},js.Nodup->Paired P (js.map ad) cs->i∈js->μ[i]?=some s->∃ c,(putAll js cs μ)[i]?=some (s.put c)/\P (ad i) c
 |[],_,_,_,_,_,_,h,_=>by cases h
 |j::js,c::cs,μ,i,s,nd,.cons p ps,h,e=>by
  rw[JD] at nd;by_cases z:i=j
  ·subst z;refine⟨c,?_,p⟩;show (putAll js cs (dz μ i c))[i]?=_;rw[dQ nd.1];exact As e
  ·rcases Jg.mp h with z'|z'
   ·exact absurd z' z
   ·exact dA (js:=js) nd.2 ps z' (by rw[qF z];exact e)
theorem Rl.call{B2:bf}{js:List Nat}{outs:List T}(l:Rl F ad B σ H μ)(hb:∀ j∈js,∃(s:Sl) (c:T),μ[j]?=some s/\s.box=some c)(nd:js.Nodup)
  (keep:∀ b o,H b=some o->b∉js.map ad->H' b=some o) (sB:∀ b,B b->B2 b) (nB:∀ b o,H b=some o->¬ B b->¬ B2 b) (tB:∀ b,B2 b->¬ B b->∃ o,H' b=some o) (ps:Paired (Bx F.K H' B2) (js.map ad) outs) :
  Rl F ad B2 σ H' (putAll js outs μ)/\Kp μ (putAll js outs μ)/\Fr B H B2 H':=by
 have inB:∀ b∈js.map ad,B b:=fun b hb'=>by
  obtain⟨j,hj,rfl⟩:=JM.mp hb';obtain⟨s,c,e,q⟩:=hb j hj;exact l.own j s c e q
 have f:Fr B H B2 H':=fun b o e n=>⟨keep b o e fun z=>n (inB b z),nB b o e n⟩;have cases':∀ i s,(putAll js outs μ)[i]?=some s->(i∉js/\μ[i]?=some s)\/(i∈js/\∃ s0 c0 c,μ[i]?=some s0/\s0.box=some c0/\s=s0.put c/\Bx F.K H' B2 (ad i) c):=fun i s e=>by
  by_cases z:i∈js
  ·obtain⟨s0,c0,e0,q0⟩:=hb i z;obtain⟨c,e1,p⟩:=dA nd ps z e0;rw[e1] at e;exact .inr ⟨z,s0,c0,c,e0,q0,(Option.some.inj e).symm,p⟩
  ·rw[dQ z] at e;exact .inl ⟨z,e⟩
 have boxOld:∀(i:Nat) (s:Sl) (c:T),(putAll js outs μ)[i]?=some s->s.box=some c->∃(s0:Sl) (c0:T),μ[i]?=some s0/\s0.box=some c0:=fun i s c e b=>by
  rcases cases' i s e with ⟨_,e'⟩|⟨_,s0,c0,_,e0,q0,_⟩
  ·exact⟨s,c,e',b⟩
  ·exact⟨s0,c0,e0,q0⟩
 have ne:∀(i:Nat) (s:Sl) (c:T),i∉js->μ[i]?=some s->s.box=some c->ad i∉js.map ad:=fun i s c z e b hm=>by
  obtain⟨j,hj,q⟩:=JM.mp hm;obtain⟨s0,c0,e0,q0⟩:=hb j hj;exact z (l.inj i j s s0 c c0 e e0 b q0 q.symm ▸ hj)
 refine⟨⟨by rw[iJ];exact l.len,fun i s e=>?_,fun i j s u c d e1 e2 b1 b2 q=>?_,fun i a p=>?_,fun b z=>sB b (l.bc b z),fun b z=>?_,fun b o e n=>?_,fun a ws ga=>?_⟩,fun i=>?_,f⟩
 ·rcases cases' i s e with ⟨z,e'⟩|⟨z,s0,c0,c,e0,q0,rfl,x⟩
  ·have k:=l.slot i s e';unfold ia at k ⊢
   split at k
   ·trivial
   ·obtain⟨v,e1,r1⟩:=k;exact⟨v,e1,r1.fr f⟩
   ·obtain⟨e1,b,z0,p,x⟩:=k;obtain⟨o,eo⟩:=x.eR;exact⟨e1,sB _ b,z0,p,x.of ((keep _ o eo (ne i _ _ z e' rfl)).trans eo.symm) f⟩
   ·obtain⟨e1,b,p,x⟩:=k;obtain⟨o,eo⟩:=x.eR;exact⟨e1,sB _ b,p,x.of ((keep _ o eo (ne i _ _ z e' rfl)).trans eo.symm) f⟩
  ·have k:=l.slot i s0 e0
   cases s0 with
   |un=>cases q0
   |tr t=>cases q0
   |bx d=>exact⟨k.1,sB _ k.2.1,k.2.2.1,k.2.2.2.1,x⟩
   |pb d=>exact⟨k.1,sB _ k.2.1,k.2.2.1,x⟩
 ·obtain⟨s1,c1,g1,g2⟩:=boxOld i s c e1 b1;obtain⟨s2,c2,g3,g4⟩:=boxOld j u d e2 b2;exact l.inj i j s1 s2 c1 c2 g1 g3 g2 g4 q
 ·obtain⟨⟨c,e⟩,ha⟩:=l.par i a p;refine⟨?_,ha⟩;by_cases z:i∈js
  ·obtain⟨c',e1,_⟩:=dA nd ps z e;exact⟨c',e1⟩
  ·exact⟨c,by rw[dQ z];exact e⟩
 ·by_cases zb:B b
  ·obtain⟨o,e⟩:=l.eR b zb;by_cases z2:b∈js.map ad
   ·obtain⟨j,hj,rfl⟩:=JM.mp z2;obtain⟨s0,c0,e0,q0⟩:=hb j hj;obtain⟨c,_,x⟩:=dA nd ps hj e0;exact x.eR
   ·exact⟨o,keep b o e z2⟩
  ·exact tB b z zb
 ·have e2:=l.old b o e n;refine keep b o e2 fun hm=>?_;obtain⟨j,hj,rfl⟩:=JM.mp hm;obtain⟨s0,c0,e0,q0⟩:=hb j hj;rcases ((l.slot j s0 e0).boxed q0).2.2.2 with z|z
  ·exact n j z
  ·rw[z] at e;cases e
 ·obtain⟨g1,g2,g3⟩:=l.gh a ws ga;refine⟨keep a _ g1 fun hm=>?_,sB a g2,fun i s c e b=>?_⟩
  ·obtain⟨j,hj,q⟩:=JM.mp hm;obtain⟨s0,c0,e0,q0⟩:=hb j hj;exact g3 j s0 c0 e0 q0 q
  ·obtain⟨s0,c0,e0,q0⟩:=boxOld i s c e b;exact g3 i s0 c0 e0 q0
 ·by_cases z:i∈js
  ·obtain⟨s0,c0,e0,q0⟩:=hb i z;obtain⟨c,e1,_⟩:=dA nd ps z e0;rw[e0,e1];show (s0.box).isSome=((s0.put c).box).isSome;rw[q0,Sl.i8 q0];rfl
  ·rw[dQ z]
theorem Ba(l:Rl F ad B σ H μ)(ro:List Nat):∀{md:List Bool} {xs:List V} {rs:List R} {args:List T},Paired (Hv F ad B H μ) xs rs->vo μ md rs=some args->(∀ j∈gM md rs,j∈ro)->(∀ j∈gb md rs,j∉ro) ->
  (∀ j∈ro,∃(s:Sl) (c:T),μ[j]?=some s/\s.box=some c) ->
  fE F.K H (fun b=>B b/\∀ j∈ro,b≠ad j) md xs args/\jR md xs=(gb md rs).map ad/\∀ j∈gb md rs,∃(s:Sl) (c:T),μ[j]?=some s/\s.box=some c:=by
 intro md
 induction md with
 |nil =>
  intro xs rs args p e _ _ _
  cases p with
  |nil=>cases e;exact⟨trivial,rfl,fun j h=>by cases h⟩
  |cons h p=>cases e
 |cons bb md ih =>
  intro xs rs args pp e h1 h2 h3
  cases pp with
  |nil=>cases bb<;>cases e
  |cons h p =>
   rename_i x r xs2 rs
   cases bb with
   |false =>
    unfold vo at e
    split at e
    ·rename_i t ts e1 e2;cases e;have sub:∀ j∈gM md rs,j∈ro:=fun j hj=>h1 j (by cases r<;>first|exact hj|exact Jk _ hj)
     obtain⟨g1,g2,g3⟩:=ih p e2 sub h2 h3;refine⟨⟨?_,g1⟩,?_,g3⟩
     ·cases r with
      |tr t' =>
       have e1':t'=t:=Option.some.inj e1;subst e1';exact (show Rep F.K H B x t' from h).fr (Fr.less fun _ z=>z.1)
      |br j =>
       obtain⟨rfl,s,c,q1,q2⟩:=h;have e1':(μ[j]?).bind Sl.box=some t:=e1;rw[q1] at e1';have bx:=((l.slot j s q1).boxed (c:=t) e1').2.2.1;exact (bx.of rfl (Fr.less fun _ z=>z.1)).rep fun z=>z.2 j (h1 j Jl) rfl
      |fr c=>exact h.elim
     ·show jR (false::md) (_::_)=_;rw[show gb (false::md) (r::rs)=gb md rs by cases r<;>rfl]
      exact g2
    ·cases e
   |true =>
    cases r with
    |tr t=>cases e
    |fr c=>cases e
    |br j =>
     unfold vo at e
     split at e
     ·rename_i t ts e1 e2;cases e;obtain⟨g1,g2,g3⟩:=ih p e2 h1 (fun i hi=>h2 i (Jk _ hi)) h3;obtain⟨rfl,s,c,q1,q2⟩:=h;have e1':(μ[j]?).bind Sl.box=some t:=e1;rw[q1] at e1';have bx:=(l.slot j s q1).boxed (c:=t) e1';refine⟨⟨⟨ad j,rfl,⟨bx.2.1,fun i hi z=>?_⟩,bx.2.2.1.of rfl (Fr.less fun _ z=>z.1)⟩,g1⟩,Jv (ad j::·) g2,fun i hi=>?_⟩
      ·obtain⟨s',c',q3,q4⟩:=h3 i hi;have:=l.inj j i s s' t c' q1 q3 e1' q4 z;subst this;exact h2 j Jl hi
      ·rcases Jg.mp hi with z|z
       ·subst z;exact⟨s,t,q1,e1'⟩
       ·exact g3 i z
     ·cases e
theorem iE:∀{md:List Bool} {xs:List V} {rs:List R},Paired (Hv F ad B H μ) xs rs->∀ j∈gM md rs,∃(s:Sl) (c:T),μ[j]?=some s/\s.box=some c
 |[],_,_,_,j,h=>by cases h
 |b::md,_,_,.nil,j,h=>by cases b<;>cases h
 |b::md,_,r::rs,.cons h p,j,hj=>by
  cases b with
  |true=>exact iE (md:=md) p j (by cases r<;>exact hj)
  |false =>
   cases r with
   |tr t=>exact iE (md:=md) p j hj
   |fr c=>exact h.elim
   |br i =>
    rcases Jg.mp hj with z|z
    ·subst z;exact h.2
    ·exact iE (md:=md) p j z
theorem Bx.flat(h:Bx K H B a c)(f:fZ c=true):Bx K H B' a c:=by
 rcases h.is with ⟨ts,vs,rfl,e,r⟩|⟨ks,ts,vs,rfl,e,l,r⟩
 ·exact⟨vs,e,r.flat f⟩
 ·exact⟨vs,e,l,r.flat f⟩
theorem Paired.nJ:∀{as:List Addr} {outs:List T},Paired (Bx K H B) as outs->outs.all fZ=true->Paired (Bx K H B') as outs
 |_,_,.nil,_=>.nil
 |_,_,.cons h p,f=>by
  rw[KU,K4] at f;exact .cons (h.flat f.1) (Paired.nJ p f.2)
namespace Y
def Gm(md:List Bool)(tsp:fA)(us:UA):UE:=fun μ Q=>us μ fun rs μ1=>match vo μ1 md rs with
 |some args=>(gb md rs).Nodup/\(∀ j∈gb md rs,j∉gM md rs)/\tsp args fun r outs=>(gM md rs=[]\/(nv r=true/\outs.all fZ=true))/\Q r (putAll (gb md rs) outs μ1)
 |none=>False
theorem Eb{md:List Bool}{E:XK}{t:TA}(ha:RA K t us):RE K (iC (spT K md tsp) [] E t) (Gm md tsp us):=by
 intro F ad B σ H μ Q Qt hF l q k;refine ha F ad B σ H μ _ _ hF l q fun vs H1 rs μ1 l1 ps f1 k1 q1=>?_
 split at q1
 ·rename_i args ea;obtain⟨nd,dj,q1⟩:=q1;have hro:=iE (md:=md) ps;obtain⟨ag,eb,hb⟩:=Ba l1 (gM md rs) ps ea (fun j h=>h) dj hro;rw[hF] at ag;show spT K md tsp (vs++[]) H1 Q E;rw[J7];have inj:∀{js:List Nat},js.Nodup->(∀ j∈js,∃(s:Sl) (c:T),μ1[j]?=some s/\s.box=some c)->(js.map ad).Nodup:=fun {js}=>by
   induction js with
   |nil=>exact fun _ _=>Ld
   |cons j js ih =>
    intro nd hb;rw[JD] at nd;rw[Jm,JD];refine⟨fun hm=>?_,ih nd.2 fun i hi=>hb i (Jk _ hi)⟩;obtain⟨i,hi,z⟩:=JM.mp hm;obtain⟨s1,c1,e1,b1⟩:=hb j Jl;obtain⟨s2,c2,e2,b2⟩:=hb i (Jk _ hi);exact nd.1 (l1.inj i j s2 s1 c2 c1 e2 e1 b2 b1 z ▸ hi)
  refine⟨_,args,_,ag,fun b z=>l1.eR b z.1,by rw[eb];exact inj nd hb,q1,fun v H2 r outs hq keep res=>?_⟩
  rw[eb] at keep res;obtain⟨hfl,hq⟩:=hq;have nro:∀{b:Addr},gM md rs=[]->B b->B b/\∀ j∈gM md rs,b≠ad j:=fun {b} z h=>⟨h,fun j hj=>by rw[z] at hj;cases hj⟩
  cases r with
  |br i=>exact res.elim
  |tr t =>
   obtain⟨rv,po⟩:=res;have rv':Rep F.K H2 B v t:=by
    rw[hF];rcases hfl with z|z
    ·exact rv.fr (Fr.less fun b h=>nro z h)
    ·exact rv.flat z.1
   have po':Paired (Bx F.K H2 B) ((gb md rs).map ad) outs:=by
    rw[hF];rcases hfl with z|z
    ·exact Paired.j0 po fun a c h=>h.of rfl (Fr.less fun b h=>nro z h)
    ·exact Paired.nJ po z.2
   obtain⟨l2,k2,f2⟩:=l1.call hb nd keep (fun _ z=>z) (fun _ _ _ z=>z) (fun b z n=>absurd z n) po';exact k v H2 (.tr t) _ ⟨l2,rv'⟩ (f1.trans f2) (k1.trans k2) hq
  |fr c =>
   obtain⟨a,rfl,ha0,nBa,x,po⟩:=res;have nBa':¬ B a:=l1.lZ ha0;have sub:gM md rs=[]->∀ b,more B a b->more (fun b=>B b/\∀ j∈gM md rs,b≠ad j) a b:=fun z b h=>h.imp id fun h=>nro z h;have x':Bx F.K H2 (more B a) a c:=by
    rw[hF];rcases hfl with z|z
    ·exact x.of rfl (Fr.less (sub z))
    ·exact x.flat z.1
   have po':Paired (Bx F.K H2 (more B a)) ((gb md rs).map ad) outs:=by
    rw[hF];rcases hfl with z|z
    ·exact Paired.j0 po fun a' c h=>h.of rfl (Fr.less (sub z))
    ·exact Paired.nJ po z.2
   have po2:Paired (Bx F.K H2 B) ((gb md rs).map ad) outs:=Paired.j0 po' fun a' c h=>h.of rfl (Fr.less fun _ z=>.inr z);obtain⟨l2,k2,f2⟩:=l1.call hb nd keep (fun _ z=>z) (fun _ _ _ z=>z) (fun b z n=>absurd z n) po2;obtain⟨l3,_,f3⟩:=l1.call (B2:=more B a) hb nd keep (fun _ z=>.inr z) (fun b o e n z=>z.elim (fun z=>by rw[z,ha0] at e;cases e) n) (fun b z n=>z.elim (fun z=>by rw[z];exact x'.eR) fun z=>absurd z n) po'
   exact k _ H2 (.fr c) _ ⟨l2,a,rfl,nBa',l1.zZ ha0,l3,x'⟩ (f1.trans f3) (k1.trans k2) hq
 ·exact q1.elim
section
variable {X:Cx} {e:Expr} {es:List Expr} {us:UA} {pos p:Pos} {x:Str} {k:Nat} {ps:List Str} {md:List Bool} {tsp:fA} {E:XK}
theorem fn(K:Oe)(hK:X.K=K)(F:ah X.prog X.w X.K X.mg X.base cF k x ps (spT K md tsp))(hr:bU k X.A)(hg:Gl X x)(hx:Passes cF X E)(ha:YA X (e::es) us)(h1:cN e=true:=by rfl)(h2:es.all cN=true:=by rfl)(hdb:(x ==("__debug__":Str))=false:=by decide):
  YE X (.Call (.Name x p) (e::es) [] pos) (Gm md tsp us):=by
 obtain⟨t,q,r⟩:=ha;subst hK;exact⟨_,Z.fn F hr hg hx q h1 h2 hdb,Eb r⟩
end
end Y
def CL:fA:=fun args Q=>∃ ns:List Int,args=[.dM (ns.map T.int)]/\ns.length<=63/\Q (.tr (.bl true)) []
section
variable {prog:Program} {w:World} {A:Around} {E:Value->Shared->Prop} {s:Shared}
structure ZA (z TI TO i1 i2 l1 l2:Addr):Prop where
 a1:TI≠z
 a2:TO≠z
 a3:i1≠z
 a4:i2≠z
 a5:TO≠i1
 a6:TO≠i2
 a7:i1≠i2
 a8:l1≠z/\l1≠TO/\l1≠i1/\l1≠i2
 a9:l2≠z/\l2≠TO/\l2≠i1/\l2≠i2
 b1:TI≠TO/\TI≠i1/\TI≠i2
theorem ZA.f1{TI TO:Addr}(D:ZA z TI TO i1 i2 l1 l2){e:Addr}(he:e=z\/e=TO\/e=i2):∀ b∈[i1,l1],b≠e:=fun b hb=>by
 rcases Jg.mp hb with rfl|hb
 ·rcases he with rfl|rfl|rfl
  ·exact D.a3
  ·exact D.a5.symm
  ·exact D.a7
 ·have hb:b=l1:=by simpa using hb
  subst hb;rcases he with rfl|rfl|rfl
  ·exact D.a8.1
  ·exact D.a8.2.1
  ·exact D.a8.2.2.2
theorem ZA.f2{TI TO:Addr}(D:ZA z TI TO i1 i2 l1 l2){e:Addr}(he:e=z\/e=TO\/e=i1):∀ b∈[i2,l2],b≠e:=fun b hb=>by
 rcases Jg.mp hb with rfl|hb
 ·rcases he with rfl|rfl|rfl
  ·exact D.a4
  ·exact D.a6.symm
  ·exact D.a7.symm
 ·have hb:b=l2:=by simpa using hb
  subst hb;rcases he with rfl|rfl|rfl
  ·exact D.a9.1
  ·exact D.a9.2.1
  ·exact D.a9.2.2.1
theorem dP{P:Nat->Value->Prop}{S:Nat->Heap->Prop}{A':Around}(D:Draws prog w A' it [it,l] n P S){e:Addr}(st:S i h)(hs:Heap.ExtBut e h h')(ne:∀ b∈[it,l],b≠e):S i h':=D.frame i h h' st fun b hb o q=>hs b o (ne b hb) q
theorem tX{TI TO:Addr}{k n1 n2:Nat}{a b:Value}(D:ZA z TI TO i1 i2 l1 l2)(D1:Draws prog w A i1 [i1,l1] n1 P1 S1)(D2:Draws prog w A i2 [i2,l2] n2 P2 S2)
  (hz:IsZip s.heap z TI TO .none) (hTI:IsPair s.heap TI (.ref i1) (.ref i2)) (hTO:IsPair s.heap TO a b) (st1:S1 k s.heap) (oI:S2 k s.heap) (hk1:k<n1) (hk2:k<n2)
  (hQ:∀ x y h' tk,P1 k x->P2 k y->IsZip h' z TI TO (rawInt s.heap.objs.size)->IsPair h' TO x y->S1 (k+1) h'->S2 (k+1) h'->IsPair h' s.heap.objs.size x y ->
   (∀ c o,c≠z->c≠TO->c≠i1->c≠i2->s.heap.get? c=some o->h'.get? c=some o)->Q (.ref s.heap.objs.size) {s with heap:=h',toks:=tk}) :
  wpAny (model prog w) A (Builtin.«zip.__next__» ⟨[.ref z],[]⟩) (fun fin s'=>∃ v,fin=.done (.ret v)/\Q v s') E s:=by
 have zrec:=hz;show wpAny _ _ (field (.ref z) 2 >>= _) _ _ _;refine IT (JA zrec rfl (x:=.bool false) rfl ?_);show wpAny _ _ (field (.ref z) 3 >>= _) _ _ _;refine IT (JA zrec rfl (x:=.ref TI) rfl ?_);have tirec:=hTI;refine IT (K8 tirec rfl ?_);show wpAny _ _ (Builtin.SmallTypes.ownedTupleIsFree (.ref z) >>= _) _ _ _;refine IT ?_;unfold Builtin.SmallTypes.ownedTupleIsFree;refine IT (JA zrec rfl (x:=.none) rfl (IZ ?_));simp only[L0];refine IT (Lp ?_);refine IT (JA zrec rfl (x:=.ref TO) rfl ?_);refine IT (JS zrec (by simp) fun g1 zr1 sb1=>?_)
 replace zr1:IsZip g1 z TI TO .ellipsis:=zr1
 refine IT ?_;simp only[List.zipIdx_cons,List.zipIdx_nil,N3,List.forIn_nil];refine IT (IT (MR ?_));show wpAny _ _ (Builtin.SmallTypes.nextOf (.ref i1) >>= _) _ _ _;refine IT (D1.item k _ _ _ hk1 (dP D1 st1 sb1.extBut (D.f1 (.inl rfl))) fun x g2 tk2 px st1b sb2=>IZ ?_);have to2:IsPair g2 TO a b:=sb2.extBut _ _ D.a5 (sb1.extBut _ _ D.a2 hTO);refine IT (K8 to2 rfl ?_);refine IT (Mp to2 fun g3 to3 sb3=>?_)
 replace to3:IsPair g3 TO x b:=to3
 refine IT (ND (IZ ?_));refine IT (IT (MR ?_));show wpAny _ _ (Builtin.SmallTypes.nextOf (.ref i2) >>= _) _ _ _;have st2c:S2 k g3:=dP D2 (dP D2 (dP D2 oI sb1.extBut (D.f2 (.inl rfl))) sb2.extBut (D.f2 (.inr (.inr rfl)))) sb3.extBut (D.f2 (.inr (.inl rfl)));refine IT (D2.item k _ _ _ hk2 st2c fun y g4 tk4 py st2d sb4=>IZ ?_);have to4:IsPair g4 TO x b:=sb4.extBut _ _ D.a6 to3;refine IT (K8 to4 rfl ?_);refine IT (Mp to4 fun g5 to5 sb5=>?_)
 replace to5:IsPair g5 TO x y:=to5
 refine IT (ND (IZ (IZ ?_)));refine IT (K8 to5 rfl ?_);refine IT (M8 ?_);have size5:g5.objs.size=s.heap.objs.size:=by rw[sb5.1,sb4.1,sb3.1,sb2.1,sb1.1]
 have zr5:IsZip g5 z TI TO .ellipsis:=sb5.extBut _ _ D.a2.symm (sb4.extBut _ _ D.a4.symm (sb3.extBut _ _ D.a2.symm (sb2.extBut _ _ D.a3.symm zr1)));have keep5:∀ c o,c≠z->c≠TO->c≠i1->c≠i2->s.heap.get? c=some o->g5.get? c=some o:=fun c o e1 e2 e3 e4 q =>
  sb5.extBut _ _ e2 (sb4.extBut _ _ e4 (sb3.extBut _ _ e2 (sb2.extBut _ _ e3 (sb1.extBut _ _ e1 q))))
 have s1e:S1 (k+1) g5:=dP D1 (dP D1 (dP D1 st1b sb3.extBut (D.f1 (.inr (.inl rfl)))) sb4.extBut (D.f1 (.inr (.inr rfl)))) sb5.extBut (D.f1 (.inr (.inl rfl)));have s2e:S2 (k+1) g5:=dP D2 st2d sb5.extBut (D.f2 (.inr (.inl rfl)));have zlt:z<g5.objs.size:=Jc zr5;show wpAny _ _ (Builtin.SmallTypes.ownedTupleHandOut (.ref z) (.ref g5.objs.size) >>= _) _ _ _;refine IT ?_;unfold Builtin.SmallTypes.ownedTupleHandOut;have zr6:IsZip (g5.push {cls:=.type "tuple",data:=.seq #[x,y]}) z TI TO .ellipsis:=IU _ zr5;refine IT (JS zr6 (by simp) fun g7 zr7 sb7=>?_)
 replace zr7:IsZip g7 z TI TO (rawInt g5.objs.size):=zr7
 refine JS zr7 (by simp) fun g8 zr8 sb8=>?_
 replace zr8:IsZip g8 z TI TO (rawInt g5.objs.size):=zr8
 have up:∀ c o,c≠z->g5.get? c=some o->g8.get? c=some o:=fun c o e1 q=>sb8.extBut _ _ e1 (sb7.extBut _ _ e1 (IU _ q));have pr8:IsPair g8 g5.objs.size x y:=sb8.extBut _ _ (Kf zlt) (sb7.extBut _ _ (Kf zlt) (Je _ rfl));rw[size5] at zr8 pr8;refine IZ ⟨_,rfl,?_⟩;show Q (.ref g5.objs.size) _;rw[size5];exact hQ x y g8 _ px py zr8 (up _ _ D.a2 to5) (D1.frame _ _ _ s1e fun b hb o q=>up b o (D.f1 (.inl rfl) b hb) q) (D2.frame _ _ _ s2e fun b hb o q=>up b o (D.f2 (.inl rfl) b hb) q) pr8 fun c o e1 e2 e3 e4 q=>up c o e1 (keep5 c o e1 e2 e3 e4 q)
theorem xl{TI TO:Addr}{k n1 n2:Nat}{a b:Value}{Q:Fin->Shared->Prop}(D:ZA z TI TO i1 i2 l1 l2)(D1:Draws prog w A i1 [i1,l1] n1 P1 S1)(D2:Draws prog w A i2 [i2,l2] n2 P2 S2)
  (hz:IsZip s.heap z TI TO .none) (hTI:IsPair s.heap TI (.ref i1) (.ref i2)) (hTO:IsPair s.heap TO a b) (st1:S1 k s.heap) (oI:S2 k s.heap) (hk:k=n1\/(k<n1/\k=n2))
  (hE:∀ h' e tk,(∀ c o,c≠z->c≠TO->c≠i1->c≠i2->s.heap.get? c=some o->h'.get? c=some o)->(∃ o,h'.get? e=some o/\o.cls=.type "StopIteration")->E (.ref e) {s with heap:=h',toks:=tk}) :
  wpAny (model prog w) A (Builtin.«zip.__next__» ⟨[.ref z],[]⟩) Q E s:=by
 have zrec:=hz;show wpAny _ _ (field (.ref z) 2 >>= _) _ _ _;refine IT (JA zrec rfl (x:=.bool false) rfl ?_);show wpAny _ _ (field (.ref z) 3 >>= _) _ _ _;refine IT (JA zrec rfl (x:=.ref TI) rfl ?_);have tirec:=hTI;refine IT (K8 tirec rfl ?_);show wpAny _ _ (Builtin.SmallTypes.ownedTupleIsFree (.ref z) >>= _) _ _ _;refine IT ?_;unfold Builtin.SmallTypes.ownedTupleIsFree;refine IT (JA zrec rfl (x:=.none) rfl (IZ ?_));simp only[L0];refine IT (Lp ?_);refine IT (JA zrec rfl (x:=.ref TO) rfl ?_);refine IT (JS zrec (by simp) fun g1 zr1 sb1=>?_)
 replace zr1:IsZip g1 z TI TO .ellipsis:=zr1
 refine IT ?_;simp only[List.zipIdx_cons,List.zipIdx_nil,N3,List.forIn_nil];refine IT (IT (MR ?_));show wpAny _ _ (Builtin.SmallTypes.nextOf (.ref i1) >>= _) _ _ _;rcases hk with hk|⟨hk1,hk2⟩
 ·subst hk;refine IT (D1.done _ _ _ (dP D1 st1 sb1.extBut (D.f1 (.inl rfl))) fun g2 e sb2 he=>?_);obtain⟨oe,hoe,hce⟩:=he;have zr2:IsZip g2 z TI TO .ellipsis:=sb2 _ _ D.a3.symm zr1;have nez:e≠z:=fun q=>by subst q;rw[zr2] at hoe;cases hoe;simp at hce
  refine JS zr2 (by simp) fun g3 _ sb3=>hE g3 e _ (fun c o e1 _ e3 _ q=>sb3.extBut _ _ e1 (sb2 _ _ e3 (sb1.extBut _ _ e1 q))) ⟨oe,sb3.extBut _ _ nez hoe,hce⟩
 ·subst hk2;refine IT (D1.item k _ _ _ hk1 (dP D1 st1 sb1.extBut (D.f1 (.inl rfl))) fun x g2 tk2 px st1b sb2=>IZ ?_);have to2:IsPair g2 TO a b:=sb2.extBut _ _ D.a5 (sb1.extBut _ _ D.a2 hTO);refine IT (K8 to2 rfl ?_);refine IT (Mp to2 fun g3 to3 sb3=>?_);refine IT (ND (IZ ?_));refine IT (IT (MR ?_));show wpAny _ _ (Builtin.SmallTypes.nextOf (.ref i2) >>= _) _ _ _;have st2c:S2 k g3:=dP D2 (dP D2 (dP D2 oI sb1.extBut (D.f2 (.inl rfl))) sb2.extBut (D.f2 (.inr (.inr rfl)))) sb3.extBut (D.f2 (.inr (.inl rfl)));refine IT (D2.done _ _ _ st2c fun g4 e sb4 he=>?_);obtain⟨oe,hoe,hce⟩:=he;have zr4:IsZip g4 z TI TO .ellipsis:=sb4 _ _ D.a4.symm (sb3.extBut _ _ D.a2.symm (sb2.extBut _ _ D.a3.symm zr1));have nez:e≠z:=fun q=>by subst q;rw[zr4] at hoe;cases hoe;simp at hce
  refine JS zr4 (by simp) fun g5 _ sb5=>hE g5 e _ (fun c o e1 e2 e3 e4 q=>sb5.extBut _ _ e1 (sb4 _ _ e4 (sb3.extBut _ _ e2 (sb2.extBut _ _ e3 (sb1.extBut _ _ e1 q))))) ⟨oe,sb5.extBut _ _ nez hoe,hce⟩
end
def rd(K:Oe)(k:Bool)(H:Hp)(a:Addr)(xs:List V):Prop:=if k=true then bS K H a xs else b8 K H a xs
def h9(k:Bool)(h:Heap)(it a:Addr)(i:Nat):Prop:=if k=true then h.IsListIter it a i else h.IsTupleIter it a i
def hU(k:Bool)(h:Heap)(a:Addr)(items:Array Value):Prop:=if k=true then h.IsList a items else h.IsTuple a items
theorem iB(k:Bool)(hh:A.handled=none)(it l:Addr)(hne:l≠it)(items:Array Value):Draws prog w A it [it,l] items.size (fun i v=>items[i]?=some v) (fun i h=>h9 k h it l i/\hU k h l items):=by
 cases k with
 |true=>exact Draws.list hh it l hne items
 |false=>exact d6 hh it l hne items
theorem Inv.sE{k:Bool}(I:Inv X pins σ H s)(h:rd X.K k H a xs):∃ its:List Value,Vals xs its/\hU k s.heap a its.toArray:=by
 cases k with
 |true=>obtain⟨its,r,p,_⟩:=I.list h;exact⟨its,r,p.isList⟩
 |false=>obtain⟨its,r,p,_⟩:=I.tuple h;exact⟨its,r,p⟩
theorem Inv.oh{k:Bool}(I:Inv X pins σ H s)(h:rd X.K k H a xs)(h':rd X.K k H a ys):xs=ys:=by
 cases k with
 |true=>exact I.nu h h'
 |false=>exact I.eV h h'
def Cb(K:Oe)(k1 k2:Bool)(a b:Addr):It:=
  ⟨fun i H=>∃ xs ys x y,rd K k1 H a xs/\rd K k2 H b ys/\xs[i]?=some x/\ys[i]?=some y,
   fun i H v H'=>∃ p x y,(∀ xs,rd K k1 H a xs->xs[i]?=some x)/\(∀ ys,rd K k2 H b ys->ys[i]?=some y)/\H p=none/\v=.ref p/\H'=upd H p (.tup [x,y]),
   fun i H=>∃ xs ys,rd K k1 H a xs/\rd K k2 H b ys/\i=min xs.length ys.length⟩
theorem hU.ty{k:Bool}(x:hU k h a items):∃ o,h.get? a=some o/\(o.cls=.type "list"\/o.cls=.type "tuple")/\∃ n,o.data=.seq items n:=by
 cases k with
 |true=>obtain⟨o,e,c,n,d⟩:=(show h.IsList a items from x);exact⟨o,e,.inl c,n,d⟩
 |false=>obtain⟨o,e,c,n,d⟩:=(show h.IsTuple a items from x);exact⟨o,e,.inr c,n,d⟩
theorem h9.ty{k:Bool}(x:h9 k h it a i):∃ o,h.get? it=some o/\(o.cls=.type "list_iterator"\/o.cls=.type "tuple_iterator")/\o.data=.fields #[.ref a,.int i 0]:=by
 cases k with
 |true=>obtain⟨o,e,c,d⟩:=(show h.IsListIter it a i from x);exact⟨o,e,.inl c,d⟩
 |false=>obtain⟨o,e,c,d⟩:=(show h.IsTupleIter it a i from x);exact⟨o,e,.inr c,d⟩
def HU(k:Bool):String:=if k=true then "list_iterator" else "tuple_iterator"
abbrev G4(h:Heap)(k1:Bool)(a:Addr):Heap:=h.push {cls:=.type (HU k1),data:=.fields #[.ref a,.int 0 0]}
abbrev Gs(h:Heap)(k1 k2:Bool)(a b:Addr):Heap:=(G4 h k1 a).push {cls:=.type (HU k2),data:=.fields #[.ref b,.int 0 0]}
abbrev G6(h:Heap)(k1 k2:Bool)(a b:Addr):Heap:=(Gs h k1 k2 a b).push {cls:=.type "tuple",data:=.seq #[.ref h.objs.size,.ref (G4 h k1 a).objs.size]}
abbrev G3(h:Heap)(k1 k2:Bool)(a b:Addr):Heap:=(G6 h k1 k2 a b).push {cls:=.type "tuple",data:=.seq #[.none,.none]}
abbrev DA(h:Heap)(k1 k2:Bool)(a b:Addr):Heap:=(G3 h k1 k2 a b).push {cls:=.type "zip",data:=.fields #[.none,.bool false,.bool false,.ref (Gs h k1 k2 a b).objs.size,.ref (G6 h k1 k2 a b).objs.size]}
theorem nE(x:h.IsTuple a items)(o:Obj):(h.push o).IsTuple a items:=by
 obtain⟨ob,e,r⟩:=x;exact⟨ob,IU _ e,r⟩
theorem qd(k1 k2:Bool)(a b:Addr)(xs ys:Array Value):
  Meets (Builtin.«zip.__new__» ⟨[.type "zip",.ref a,.ref b],[]⟩) (fun _ R s=>hU k1 s.heap a xs/\hU k2 s.heap b ys /\
   R (.ok (.ret (.ref (G3 s.heap k1 k2 a b).objs.size))) {s with heap:=DA s.heap k1 k2 a b}):=
 .of_wp fun prog w A R s h=>by
  obtain⟨hp,g,d,tk,os⟩:=s;obtain⟨q1,q2,h⟩:=h;have hsub:=sub_zip
  cases k1 with
  |true =>
   have w1:Heap.IsList (Shared.heap ⟨hp,g,d,tk,os⟩) a xs:=q1
   cases k2 with
   |true =>
    have w2:Heap.IsList (Shared.heap ⟨hp.push {cls:=.type "list_iterator",data:=.fields #[.ref a,.int 0 0]},g,d,tk,os⟩) b ys:=Heap.IsList.push q2 _;wp_walk using KH w1,KH w2;exact⟨_,rfl,h⟩
   |false =>
    have w2:Heap.IsTuple (Shared.heap ⟨hp.push {cls:=.type "list_iterator",data:=.fields #[.ref a,.int 0 0]},g,d,tk,os⟩) b ys:=nE q2 _;wp_walk using KH w1,Ka w2;exact⟨_,rfl,h⟩
  |false =>
   have w1:Heap.IsTuple (Shared.heap ⟨hp,g,d,tk,os⟩) a xs:=q1
   cases k2 with
   |true =>
    have w2:Heap.IsList (Shared.heap ⟨hp.push {cls:=.type "tuple_iterator",data:=.fields #[.ref a,.int 0 0]},g,d,tk,os⟩) b ys:=Heap.IsList.push q2 _;wp_walk using Ka w1,KH w2;exact⟨_,rfl,h⟩
   |false =>
    have w2:Heap.IsTuple (Shared.heap ⟨hp.push {cls:=.type "tuple_iterator",data:=.fields #[.ref a,.int 0 0]},g,d,tk,os⟩) b ys:=nE q2 _;wp_walk using Ka w1,Ka w2;exact⟨_,rfl,h⟩
theorem AE{k:Bool}(e:h.get? it=some {cls:=.type (HU k),data:=.fields #[.ref a,.int 0 0]}):h9 k h it a 0:=by
 cases k with
 |true=>exact⟨_,e,rfl,rfl⟩
 |false=>exact⟨_,e,rfl,rfl⟩
section
variable {prog:Program} {w:World} {A:Around} {E:Value->Shared->Prop} {s:Shared}
theorem sC{k1 k2:Bool}{b:Addr}{xs ys:Array Value}(h1:hU k1 s.heap a xs)(h2:hU k2 s.heap b ys)
  (h:∀ h',IsZip h' (s.heap.objs.size+4) (s.heap.objs.size+2) (s.heap.objs.size+3) .none->IsPair h' (s.heap.objs.size+2) (.ref s.heap.objs.size) (.ref (s.heap.objs.size+1))->IsPair h' (s.heap.objs.size+3) .none .none ->
   h9 k1 h' s.heap.objs.size a 0->h9 k2 h' (s.heap.objs.size+1) b 0->(∀ c o,s.heap.get? c=some o->h'.get? c=some o)->Q (.ref (s.heap.objs.size+4)) {s with heap:=h'}) :
  wpAny (model prog w) A (call (.type "zip") [.ref a,.ref b]) Q E s:=by
 refine callType_new F.called_zip (by decide) (F.typeCall_zip_2 _ _) (F.newCall_zip_2 _ _) (fun obj=>F.args_object_init_3 obj _ _) F.entry_zip_new (qd k1 k2 a b xs ys) ⟨h1,h2,?_⟩
 have e1:(G4 s.heap k1 a).objs.size=s.heap.objs.size+1:=Kn ..;have e2:(Gs s.heap k1 k2 a b).objs.size=s.heap.objs.size+2:=by rw[Kn,e1]
 have e3:(G6 s.heap k1 k2 a b).objs.size=s.heap.objs.size+3:=by rw[Kn,e2]
 have e4:(G3 s.heap k1 k2 a b).objs.size=s.heap.objs.size+4:=by rw[Kn,e3]
 have p5:(DA s.heap k1 k2 a b).get? (G3 s.heap k1 k2 a b).objs.size=some _:=Je _ rfl;have p4:(DA s.heap k1 k2 a b).get? (G6 s.heap k1 k2 a b).objs.size=some _:=IU _ (Je _ rfl);have p3:(DA s.heap k1 k2 a b).get? (Gs s.heap k1 k2 a b).objs.size=some _:=IU _ (IU _ (Je _ rfl));have p2:(DA s.heap k1 k2 a b).get? (G4 s.heap k1 a).objs.size=some _:=IU _ (IU _ (IU _ (Je _ rfl)));have p1:(DA s.heap k1 k2 a b).get? s.heap.objs.size=some _:=IU _ (IU _ (IU _ (IU _ (Je _ rfl))));show _/\_;rw[e2,e3,e4] at p5;rw[e1,e2] at p3;rw[e3] at p4;rw[e1] at p2;rw[e4];exact⟨⟨_,p5,rfl⟩,h _ p5 p3 p4 (AE p1) (AE p2) fun c o x=>IU _ (IU _ (IU _ (IU _ (IU _ x))))⟩
end
theorem sF{w:World}{tk:Nat}(k1 k2:Bool)(a b z TI TO i1 i2:Addr)(D:ZA z TI TO i1 i2 a b):
  Turn P w K (.Tuple es tk tp) (Cb K k1 k2 a b) [z,TI,TO,i1,i2] z (fun i h=>IsZip h z TI TO .none/\IsPair h TI (.ref i1) (.ref i2)/\(∃ x y,IsPair h TO x y)/\h9 k1 h i1 a i/\h9 k2 h i2 b i) where
 mem:=by simp
 obj:=fun i h st c hc=>by
  obtain⟨s1,s2,⟨x,y,s3⟩,s4,s5⟩:=st;simp only[Jg,KN,M6] at hc;rcases hc with rfl|rfl|rfl|rfl|rfl
  ·exact⟨_,s1,fun v q=>by cases q⟩
  ·exact⟨_,s2,fun v q=>by cases q⟩
  ·exact⟨_,s3,fun v q=>by cases q⟩
  ·obtain⟨o,e,_,d⟩:=s4.ty;exact⟨o,e,fun v q=>by rw[d] at q;cases q⟩
  ·obtain⟨o,e,_,d⟩:=s5.ty;exact⟨o,e,fun v q=>by rw[d] at q;cases q⟩
 keep:=fun i h h' st k=>by
  obtain⟨s1,s2,⟨x,y,s3⟩,s4,s5⟩:=st;refine⟨k z (by simp) _ s1,k TI (by simp) _ s2,⟨x,y,k TO (by simp) _ s3⟩,?_,?_⟩
  ·cases k1 with
   |true=>obtain⟨o,e,r⟩:=(show h.IsListIter i1 a i from s4);exact⟨o,k i1 (by simp) o e,r⟩
   |false=>obtain⟨o,e,r⟩:=(show h.IsTupleIter i1 a i from s4);exact⟨o,k i1 (by simp) o e,r⟩
  ·cases k2 with
   |true=>obtain⟨o,e,r⟩:=(show h.IsListIter i2 b i from s5);exact⟨o,k i2 (by simp) o e,r⟩
   |false=>obtain⟨o,e,r⟩:=(show h.IsTupleIter i2 b i from s5);exact⟨o,k i2 (by simp) o e,r⟩
 item:=by
  intro X hP hw hK hc i pins s σ H E I hf st hg;subst hP hw hK;obtain⟨xs,ys,x,y,q1,q2,ex,ey⟩:=hg;obtain⟨s1,s2,⟨x0,y0,s3⟩,s4,s5⟩:=st;obtain⟨its1,rv1,p1⟩:=I.sE q1;obtain⟨its2,rv2,p2⟩:=I.sE q2;obtain⟨u1,hu1,ru1⟩:=rv1.get ex;obtain⟨u2,hu2,ru2⟩:=rv2.get ey;have lt1:i<its1.toArray.size:=by have:=(Ji.mp hu1).1;simpa using this
  have lt2:i<its2.toArray.size:=by have:=(Ji.mp hu2).1;simpa using this
  have hT:s.TypeIs (.ref z) "zip":=⟨_,s1,rfl⟩;have D1:=iB (prog:=X.prog) (w:=X.w) (A:=X.A.in1) k1 (I.ok.hd hc) i1 a D.a8.2.2.1 its1.toArray;have D2:=iB (prog:=X.prog) (w:=X.w) (A:=X.A.in1) k2 (I.ok.hd hc) i2 b D.a9.2.2.2 its2.toArray;unfold pyNext;refine IT (Lm (JL (name:=Str.ofString "__next__") hT PySem.F.slot_zip_next (JU PySem.F.slot_zip_next hT PySem.F.entry_zip_next
   (tX D D1 D2 s1 s2 s3 ⟨s4,p1⟩ ⟨s5,p2⟩ lt1 lt2 fun v1 v2 h' tk' px py z1 t1 w1 w2 pr kp=>IZ ?_) (PySem.F.args_zip_next_1 _))))
  have fr:H s.heap.objs.size=none:=I.aO.fresh (Jb _);have ev1:v1=u1:=by rw[Ko,hu1] at px;exact (Option.some.inj px).symm
  have ev2:v2=u2:=by rw[Ko,hu2] at py;exact (Option.some.inj py).symm
  subst ev1 ev2;have lt:∀{c o},s.heap.get? c=some o->s.heap.objs.size≠c:=fun e=>Kf (Jc e);refine⟨.ref s.heap.objs.size,rfl,wpAny_letOwnedTupleGo_zip z1 fun h2 z2 sb2=>?_⟩;have pr2:IsPair h2 s.heap.objs.size v1 v2:=sb2.extBut _ _ (lt s1) pr;have I2:Inv X pins σ (upd H s.heap.objs.size (.tup [x,y])) {s with heap:=h2,toks:=tk'}:=by
   refine I.iy (fp:=[z,TI,TO,i1,i2]) hf (Jb _) (fun c o hcm ec=>?_) ⟨by show 2<=sizeLine;decide,[v1,v2],.cons ru1 (.cons ru2 .nil),⟨_,pr2,rfl,_,rfl,rfl⟩⟩
   simp only[Jg,KN,M6,not_or] at hcm;exact sb2.extBut _ _ hcm.1 (kp c o hcm.1 hcm.2.2.1 hcm.2.2.2.1 hcm.2.2.2.2 ec)
  refine⟨.ref s.heap.objs.size,_,I2,rfl,⟨s.heap.objs.size,x,y,fun zs hz=>by rw[I.oh hz q1];exact ex,fun zs hz=>by rw[I.oh hz q2];exact ey,fr,rfl,rfl⟩,⟨z2,?_,⟨v1,v2,?_⟩,?_,?_⟩,fun c hcm=>?_⟩
  ·exact sb2.extBut _ _ D.a1 (kp _ _ D.a1 D.b1.1 D.b1.2.1 D.b1.2.2 s2)
  ·exact sb2.extBut _ _ D.a2 t1
  ·have:=D1.frame (i+1) h' h2 w1 fun c hcm o q=>sb2.extBut _ _ (D.f1 (.inl rfl) c hcm) q;exact this.1
  ·have:=D2.frame (i+1) h' h2 w2 fun c hcm o q=>sb2.extBut _ _ (D.f2 (.inl rfl) c hcm) q;exact this.1
  ·have hn:=(hf c hcm).1;rw[af]
   ·exact hn
   ·simp only[Jg,KN,M6] at hcm;rcases hcm with rfl|rfl|rfl|rfl|rfl
    ·exact (lt s1).symm
    ·exact (lt s2).symm
    ·exact (lt s3).symm
    ·obtain⟨o,e,_⟩:=s4.ty;exact (lt e).symm
    ·obtain⟨o,e,_⟩:=s5.ty;exact (lt e).symm
 done:=by
  intro X hP hw hK hc i pins s σ H E I hf st hg;subst hP hw hK;obtain⟨xs,ys,q1,q2,hi⟩:=hg;obtain⟨s1,s2,⟨x0,y0,s3⟩,s4,s5⟩:=st;obtain⟨its1,rv1,p1⟩:=I.sE q1;obtain⟨its2,rv2,p2⟩:=I.sE q2;have n1:its1.toArray.size=xs.length:=by rw[I_];exact rv1.length.symm
  have n2:its2.toArray.size=ys.length:=by rw[I_];exact rv2.length.symm
  have hT:s.TypeIs (.ref z) "zip":=⟨_,s1,rfl⟩;have D1:=iB (prog:=X.prog) (w:=X.w) (A:=X.A.in1) k1 (I.ok.hd hc) i1 a D.a8.2.2.1 its1.toArray;have D2:=iB (prog:=X.prog) (w:=X.w) (A:=X.A.in1) k2 (I.ok.hd hc) i2 b D.a9.2.2.2 its2.toArray;unfold pyNext;refine IT (Lm (JL (name:=Str.ofString "__next__") hT PySem.F.slot_zip_next (JU PySem.F.slot_zip_next hT PySem.F.entry_zip_next
   (xl D D1 D2 s1 s2 s3 ⟨s4,p1⟩ ⟨s5,p2⟩ (by rw[n1,n2];lia) fun h' e tk' kp he=>?_) (PySem.F.args_zip_next_1 _))))
  obtain⟨o,ho,hcl⟩:=he;refine IT (Nn (T:="StopIteration") (b:=true) ⟨o,ho,hcl⟩ NP (IZ ⟨rfl,?_⟩));refine I.turns (t':=tk') hf fun c o hcm ec=>?_;simp only[Jg,KN,M6,not_or] at hcm;exact kp c o hcm.1 hcm.2.2.1 hcm.2.2.2.1 hcm.2.2.2.2 ec
 self:=fun A i s Q E st h=>wpAny_pyIter_zip st.1 h
section
variable {X:Cx} {es:List Expr} {tk:Nat} {tp:Pos}
def Fi(K:Oe)(ta:TA):TI:=fun σ H R=>ta σ H fun vs H1=>∃ a b k1 k2,vs=[.ref a,.ref b]/\(∃ xs,rd K k1 H1 a xs)/\(∃ ys,rd K k2 H1 b ys)/\R (Cb K k1 k2 a b) H1
theorem zk{e1 e2:Expr}{p:Pos}(hg:Gl X "zip")(hm:X.mg "zip"=none)(ha:PA X [e1,e2] ta)(h1:cN e1=true:=by rfl)(h2:cN e2=true:=by rfl)(hv:bootBuiltins "zip"=some (.type "zip"):=by decide +kernel):
  PI X (.Tuple es tk tp) (.Call (.Name "zip" p) [e1,e2] [] pos) (Fi X.K ta):=by
 intro pins s σ H R I h;refine Call_ (dw I hg hm hv (JZ (b9 (ha pos pins s σ H _ I h) fun us s1 ⟨vs,H1,I1,r1,q1⟩=>?_) (by rw[cA h1,cA h2]) (by rw[cA h2];rfl)))
 obtain⟨a,b,k1,k2,e,⟨xs,hx⟩,⟨ys,hy⟩,q⟩:=q1;subst e;obtain⟨u,w',rfl,ru,rw'⟩:=vals2 r1
 cases ru;cases rw'
 obtain⟨its1,rv1,p1⟩:=I1.sE hx;obtain⟨its2,rv2,p2⟩:=I1.sE hy;obtain⟨o1,eo1,_⟩:=p1.ty;obtain⟨o2,eo2,_⟩:=p2.ty;have l1:a<s1.heap.objs.size:=Jc eo1;have l2:b<s1.heap.objs.size:=Jc eo2;refine sC p1 p2 fun h' z1 z2 z3 z4 z5 kp=>wpAny_pyIter_zip z1 ?_;have I2:Inv X pins σ H1 {s1 with heap:=h'}:=I1.kept (t':=s1.toks) kp
 have ne:∀(m n c:Nat),m≠n->c+m≠c+n:=fun m n c h=>by lia
 have nl:∀(x c m:Nat),x<c->x≠c+m:=fun x c m h=>by lia
 have D:ZA (s1.heap.objs.size+4) (s1.heap.objs.size+2) (s1.heap.objs.size+3) s1.heap.objs.size (s1.heap.objs.size+1) a b:=
  ⟨ne 2 4 _ (by decide),ne 3 4 _ (by decide),ne 0 4 _ (by decide),ne 1 4 _ (by decide),ne 3 0 _ (by decide),ne 3 1 _ (by decide),ne 0 1 _ (by decide),⟨nl _ _ 4 l1,nl _ _ 3 l1,nl _ _ 0 l1,nl _ _ 1 l1⟩,⟨nl _ _ 4 l2,nl _ _ 3 l2,nl _ _ 0 l2,nl _ _ 1 l2⟩,ne 2 3 _ (by decide),ne 2 0 _ (by decide),ne 2 1 _ (by decide)⟩
 refine⟨s1.heap.objs.size+4,[s1.heap.objs.size+4,s1.heap.objs.size+2,s1.heap.objs.size+3,s1.heap.objs.size,s1.heap.objs.size+1],_,_,H1,rfl,I2,sF k1 k2 a b _ _ _ _ _ D,⟨z1,z2,⟨_,_,z3⟩,z4,z5⟩,fun c hc=>?_,q⟩;have hc':s1.heap.objs.size<=c:=by
  simp only[Jg,KN,M6] at hc;rcases hc with rfl|rfl|rfl|rfl|rfl
  ·exact K5 _ _
  ·exact K5 _ _
  ·exact K5 _ _
  ·exact Jb _
  ·exact K5 _ _
 exact I1.m_ hc' (I1.aO.fresh hc')
end
def lJ(ts us:List T):List T:=List.zipWith (fun t u=>.tup [t,u]) ts us
def om:T->Option (List T)
 |.lst ts=>some ts
 |.tup ts=>some ts
 |.dM ts=>some ts
 |.gE ts=>some ts
 |_=>none
def kdOf:T->Bool
 |.lst _=>true
 |.dM _=>true
 |_=>false
theorem Vw.sq{v:V}(h:Vw K H B v t)(e:om t=some ts):∃ a vs,v=.ref a/\rd K (kdOf t) H a vs/\ao K H B vs ts:=by
 cases h with
 |aL=>cases e
 |bl=>cases e
 |int=>cases e
 |str=>cases e
 |dN=>cases e
 |km=>cases e
 |exc=>cases e
 |Bo=>cases e
 |tup h r=>cases e;exact⟨_,_,rfl,b8.of h,r⟩
 |gE h r=>cases e;exact⟨_,_,rfl,.inr h,r⟩
 |lst h r=>cases e;exact⟨_,_,rfl,bS.of h,r⟩
 |dM h r=>cases e;exact⟨_,_,rfl,h,r⟩
theorem Df{k1 k2:Bool}{b:Addr}{us:List T}:jf K (Cb K k1 k2 a b) (fun H B=>(∃ vs,rd K k1 H a vs/\ao K H B vs ts)/\∃ ws,rd K k2 H b ws/\ao K H B ws us) (lJ ts us):=by
 refine⟨fun H B i t hb ⟨⟨vs,h1,r1⟩,ws,h2,r2⟩ e=>?_,fun H B ⟨⟨vs,h1,r1⟩,ws,h2,r2⟩=>⟨vs,ws,h1,h2,by rw[r1.length,r2.length];simp[lJ]⟩⟩
 unfold lJ at e;rw[List.getElem?_zipWith] at e
 cases e1:ts[i]? with
 |none=>rw[e1] at e;cases e
 |some t1=>cases e2:us[i]? with
  |none=>rw[e1,e2] at e;cases e
  |some t2 =>
   rw[e1,e2] at e;have e':T.tup [t1,t2]=t:=Option.some.inj e;subst e';obtain⟨v1,g1,rv1⟩:=r1.get e1;obtain⟨v2,g2,rv2⟩:=r2.get e2;refine⟨⟨vs,ws,v1,v2,h1,h2,g1,g2⟩,fun x H2 y=>?_⟩;obtain⟨p,x',y',hx,hy,hp,rfl,rfl⟩:=y;have z1:=hx vs h1;have z2:=hy ws h2;rw[g1] at z1;rw[g2] at z2
   cases z1;cases z2
   have fs:Fr B H B (upd H p (.tup [v1,v2])):=Fr.same (cq.new hp);refine⟨cq.new hp,.tup (fun z=>?_) ai (.cons (rv1.fr fs) (.cons (rv2.fr fs) .nil))⟩;obtain⟨o,q⟩:=hb p z;rw[hp] at q;cases q
namespace Y
section
variable {X:Cx} {e1 e2:Expr} {es:List Expr} {us:UA} {pos p tp:Pos} {k:Nat}
def iZ(us:UA):UI:=fun μ Rt=>us μ fun rs μ'=>match rs with
 |[.tr t1,.tr t2]=>(match om t1,om t2 with
  |some ts,some vs=>Rt (lJ ts vs) none μ'
  |_,_=>False)
 |_=>False
theorem zip(K:Oe)(hK:X.K=K)(hg:Gl X "zip")(hm:X.mg "zip"=none)(ha:YA X [e1,e2] us)(h1:cN e1=true:=by rfl)(h2:cN e2=true:=by rfl):YI X (.Tuple es k tp) (.Call (.Name "zip" p) [e1,e2] [] pos) (iZ us):=by
 obtain⟨t,q,r⟩:=ha;subst hK;refine⟨_,⟨zk hg hm q.h h1 h2⟩,fun F ad B σ H μ R Rt hF l q k=>r F ad B σ H μ _ _ hF l q fun vs H' rs μ' l1 ps f k1 q1=>?_⟩
 split at q1
 ·rename_i t1 t2
  cases ps with
  |cons h1 ps=>cases ps with
   |cons h2 ps =>
    cases ps;have r1:=cE h1;have r2:=cE h2
    split at q1
    ·rename_i ts us e1 e2;obtain⟨a,vs,rfl,s1,_⟩:=Vw.sq r1.vw e1;obtain⟨b,ws,rfl,s2,_⟩:=Vw.sq r2.vw e2;rw[hF] at s1 s2;refine⟨a,b,kdOf t1,kdOf t2,rfl,⟨vs,s1⟩,⟨ws,s2⟩,k _ H' μ' _ none (fun H B=>Rep F.K H B (.ref a) t1/\Rep F.K H B (.ref b) t2) l1 f k1 (Df.imp fun H B h=>?_) ⟨r1,r2⟩ (fun B1 H1 B2 H2 f h=>⟨h.1.fr f,h.2.fr f⟩) (fun j ls z=>by cases z) q1⟩
     obtain⟨g1,g2⟩:=h;obtain⟨a',vs',ea,sa,ra⟩:=Vw.sq g1.vw e1;obtain⟨b',ws',eb,sb,rb⟩:=Vw.sq g2.vw e2
     cases ea;cases eb
     rw[hF] at sa sb ra rb;exact⟨⟨vs',sa,ra⟩,ws',sb,rb⟩
    ·exact q1.elim
 ·exact q1.elim
end
end Y
theorem zU{N:List Str}{k:Nat}(F:yd K x x st fa fd)(S:az N ps (aa st))(md:List Bool)(hm:md.length=ps.length)(hN:md.length<=N.length)
  (hbody:∀(args:List T) (Qt:R->List T->Prop),args.length=ps.length->tsp args Qt->∀(cdv:Value) (A:Around) (outer:List Env) (s:Shared) (H:Hp) (E:XK),bU k (A.deeper (envOfC x (aa st) s.heap.objs.size fa cdv)) ->
   ∃ us,YB (fR cF P w K mg base N x (aa st) fa cdv A outer s H E).yR (aw st) us/\us (uJ md Qt) (startM md args N.length)):dJ P w K mg base cF (k+1) fa fd ps (spT K md tsp):=by
 refine zK F S (fun vs H Q E h=>?_) (fun cdv A outer s H vs Q E hr h=>?_)
 ·obtain⟨B,args,Qt,ag,_⟩:=h;rw[ag.len.1,hm]
 ·obtain⟨B,args,Qt,ag,bh,nd,ht,fin⟩:=h;obtain⟨us,⟨t,q,r⟩,hu⟩:=hbody args Qt (by rw[ag.len.2,hm]) ht cdv A outer s H E hr
  refine⟨t,q,?_⟩;have l0:=iP (N:=N) ag bh nd hN;have outs:∀ ad' B' σ' H' μ' (B2:bf),Rl (jU K H md vs B bh) ad' B' σ' H' μ'->(∀ b,B2 b->B' b)->Paired (Bx K H' B2) (jR md vs) (cC md 0 μ'):=fun ad' B' σ' H' μ' B2 l hB=>by
   refine m7 (ag.len.1) fun n e=>?_;obtain⟨v,t',e1,e2,q⟩:=ag.get e;rw[Ja rfl] at q;obtain⟨a,rfl,_⟩:=q;obtain⟨⟨c,hc⟩,ha⟩:=l.par n a (m9 e e1);have sl:=l.slot n _ hc;refine⟨a,c,e1,by rw[Kg];exact hc,?_⟩
   rw[<- ha];exact (sl.2.2.2).of rfl (Fr.less hB)
  have keep:∀ ad' B' σ' H' μ',Rl (jU K H md vs B bh) ad' B' σ' H' μ'->∀ b o,H b=some o->b∉jR md vs->H' b=some o:=fun ad' B' σ' H' μ' l b o e n=>l.old b o e fun i z=>n (eU (fC z).1 (fC z).2);refine r (jU K H md vs B bh) _ _ (lM vs) B (start N vs) H _ rfl l0 hu ⟨fun ad' B' σ' H' μ' l _ q=>?_,fun ad' B' σ' H' μ' v rr h q=>?_,fun _ _ _ _ _ _ _ z=>z.elim,fun _ _ _ _ _ _ _ z=>z.elim⟩
  ·exact fin .aL H' (.tr .aL) _ q (keep _ _ _ _ _ l) ⟨.aL,outs _ _ _ _ _ _ l l.bc⟩
  ·cases rr with
   |tr t=>exact fin v H' (.tr t) _ q (keep _ _ _ _ _ h.1) ⟨(show Rep K H' B' v t from h.2).fr (Fr.less h.1.bc),outs _ _ _ _ _ _ h.1 h.1.bc⟩
   |fr c =>
    obtain⟨l,a,rfl,n,h0,l2,x⟩:=h;have sub:∀ b,more B a b->more B' a b:=fun b z=>z.imp id (l.bc b);exact fin _ H' (.fr c) _ q (keep _ _ _ _ _ l) ⟨a,rfl,h0,fun z=>n (l.bc a z),x.of rfl (Fr.less sub),outs _ _ _ _ _ _ l2 sub⟩
   |br i =>
    have q':(match μ'[i]? with|some (.bx c)=>Qt (.fr c) (cC md 0 μ')|_=>False):=q
    obtain⟨l,rfl,s',c',e1,e2⟩:=h
    split at q'
    ·rename_i c ec;have sl:=l.slot i _ ec;have sub:∀ b,more B (ad' i) b->B' b:=fun b z=>z.elim (fun z=>by rw[z];exact sl.2.1) (l.bc b)
     refine fin _ H' (.fr c) _ q' (keep _ _ _ _ _ l) ⟨ad' i,rfl,sl.2.2.1,fun z=>?_,(sl.2.2.2.2).of rfl (Fr.less sub),outs _ _ _ _ _ _ l sub⟩;obtain⟨o,e⟩:=bh _ z;have:H (ad' i)=none:=sl.2.2.1;rw[this] at e;cases e
    ·exact q'.elim
namespace Y
section
variable {X:Cx} {es:List Expr} {pos:Pos} {x:Str}
def rW:List V->Option (List T)
 |[]=>some []
 |v::vs=>match xZ v,rW vs with
  |some t,some ts=>some (t::ts)
  |_,_=>none
theorem kr:∀{vs:List V} {ts:List T},rW vs=some ts->vs.map xZ=ts.map some
 |[],ts,h=>by cases h;rfl
 |v::vs,ts,h=>by
  unfold rW at h
  split at h
  ·rename_i t us e1 e2;cases h;rw[Jm,Jm,e1,kr e2]
  ·cases h
theorem iz(h:kQ es=some vs)(h2:rW vs=some ts):YA X es (uK ts):=consts h (kr h2)
end
end Y
theorem oY{u w:US}{E:Ed}(h:∀ N,N=w E->u {E with nx:=N} μ):Y.Ca u w E μ:=h _ rfl
def jH(o:Option (Prop×R))(Q:R->Prop):Prop:=match o with
 |some (C,r)=>C/\Q r
 |none=>False
theorem w_(C:Prop)(r:R)(Q:R->Prop):jH (some (C,r)) Q=(C/\Q r):=rfl
def Ej(o:Option (List T×Option (Nat×List T)))(Q:List T->Option (Nat×List T)->Prop):Prop:=match o with
 |some (ts,g)=>Q ts g
 |none=>False
def nb:Option Sl->Prop
 |some (.pb _)=>False
 |_=>True
def sl:Option T->Sl
 |none=>.un
 |some t=>.tr t
def CA(o:Option Sl)(i:Nat):Option (Prop×R):=match o with
 |some (.tr t)=>some (True,.tr t)
 |some (.bx _)=>some (True,.br i)
 |some (.pb _)=>some (True,.br i)
 |_=>none
def uS:R->Option Bool
 |.tr (.bl b)=>some b
 |.tr (.int i)=>some (i != 0)
 |_=>none
def Ce(a b:Option T):Option (Prop×R):=match a,b with
 |some (.int i),some (.int j)=>some (True,.tr (.int (i+j)))
 |some (.str i),some (.str j)=>some (i.length+j.length<=sizeLine,.tr (.str (i++j)))
 |some (.lst xs),some (.lst ys)=>some (xs.length+ys.length<=sizeLine,.fr (.lst (xs++ys)))
 |some (.tup xs),some (.tup ys)=>some (xs.length+ys.length<=sizeLine,.tr (.tup (xs++ys)))
 |_,_=>none
def oT(o:Option T):Option (Prop×R):=match o with
 |some t=>some (True,.tr t)
 |none=>none
def G_(a b:Option T):Option (Prop×R):=match a,b with
 |some (.lst xs),some (.int i)=>oT (cc xs i)
 |some (.tup xs),some (.int i)=>oT (cc xs i)
 |some (.gE xs),some (.int i)=>oT (cc xs i)
 |some (.str z),some (.int i)=>(match cc z.cps.toList i with|some c=>some (z.length<=sizeLine,.tr (.str ⟨#[c]⟩))|none=>none)
 |_,_=>none
def FZ(a:T):Option (Prop×R):=match a with
 |.lst xs=>some (True,.tr (.int xs.length))
 |.tup xs=>some (True,.tr (.int xs.length))
 |.dM xs=>some (True,.tr (.int xs.length))
 |.gE xs=>some (True,.tr (.int xs.length))
 |.str z=>some (z.length<=sizeLine,.tr (.int z.length))
 |_=>none
def oE(a:Option T):Option (Prop×R):=match a with
 |some (.lst xs)=>some (True,.tr (.tup xs))
 |some (.tup xs)=>some (True,.tr (.tup xs))
 |_=>none
def xx(a:T):Option (Prop×R):=match a with
 |.lst xs=>some (True,.fr (.lst xs))
 |.tup xs=>some (True,.fr (.lst xs))
 |.dM xs=>some (True,.fr (.lst xs))
 |.dN lo hi=>some ((hi-lo).toNat<=65536/\-(2^62)<=lo/\lo<2^62/\-(2^62)<=hi/\hi<2^62,.fr (.lst ((List.range (hi-lo).toNat).map fun k=>T.int (lo+(k:Nat)))))
 |_=>none
def sZ(a:Option T):Option (List T):=match a with
 |some (.tup ts)=>some ts
 |some (.lst ts)=>some ts
 |_=>none
def Bd(r:R)(μ:Mu):Option (List T×Option (Nat×List T)):=match r with
 |.br j=>(match cont μ (.br j) with|some (.lst ts)=>some (ts,some (j,ts))|_=>none)
 |.tr (.lst ts)=>some (ts,none)
 |.fr (.lst ts)=>some (ts,none)
 |.tr (.tup ts)=>some (ts,none)
 |.tr (.dM ts)=>some (ts,none)
 |.tr (.gE ts)=>some (ts,none)
 |_=>none
namespace A
open Y
theorem uC(t:T)(μ:Mu)(Q:R->Mu->Prop):Y.uC t μ Q=Q (.tr t) μ:=rfl
theorem jS(i:Nat)(μ:Mu)(Q:R->Mu->Prop):Y.jS i μ Q=jH (CA μ[i]? i) fun r=>Q r μ:=by
 unfold Y.jS CA
 cases μ[i]? with
 |none=>rfl
 |some s=>cases s<;>exact propext ⟨fun h=>by first|exact h|exact⟨trivial,h⟩,fun h=>by first|exact h|exact h.2⟩
theorem gA(u:U2)(ua ub:UE)(μ:Mu)(Q:R->Mu->Prop):Y.gA u ua ub μ Q=ua μ fun r1 μ1=>ub μ1 fun r2 μ2=>u r1.d r2.d μ2 Q:=rfl
theorem kh(ue:UE)(μ:Mu)(Q:Bool->Mu->Prop):Y.kh ue μ Q=ue μ fun r μ'=>match r with|.tr (.bl b)=>Q b μ'|_=>False:=rfl
theorem jx(u u':U2)(ua ub uc:UE)(μ:Mu)(Q:R->Mu->Prop):Y.jx u u' ua ub uc μ Q=ua μ fun r1 μ1=>ub μ1 fun r2 μ2=>u r1.d r2.d μ2 fun z μ3=>match z with
 |.tr (.bl true)=>uc μ3 fun r3 μ4=>u' r2.d r3.d μ4 Q
 |.tr (.bl false)=>Q (.tr (.bl false)) μ3
 |_=>False:=rfl
theorem Ax(ut:UT)(μ:Mu)(Q:Bool->Mu->Prop):Y.Ax ut μ Q=ut μ fun b μ'=>Q (!b) μ':=rfl
theorem vT(u w:UT)(μ:Mu)(Q:Bool->Mu->Prop):Y.vT u w μ Q=u μ fun b μ'=>if b=true then w μ' Q else Q false μ':=rfl
theorem EL(u w:UT)(μ:Mu)(Q:Bool->Mu->Prop):Y.EL u w μ Q=u μ fun b μ'=>if b=true then Q true μ' else w μ' Q:=rfl
theorem mV(ue:UE)(μ:Mu)(Q:Bool->Mu->Prop):Y.mV ue μ Q=ue μ fun r μ'=>match uS r with|some b=>Q b μ'|none=>False:=by
 unfold Y.mV uS;congr 1
 funext r μ'
 cases r with
 |tr t=>cases t<;>rfl
 |br i=>rfl
 |fr c=>rfl
theorem qW(ua ub:UE)(μ:Mu)(Q:R->Mu->Prop):Y.qW ua ub μ Q=ua μ fun r μ'=>match r with|.tr (.bl true)=>ub μ' Q|.tr (.bl false)=>Q (.tr (.bl false)) μ'|_=>False:=rfl
theorem yj(ue:UE)(μ:Mu)(Q:R->Mu->Prop):Y.yj ue μ Q=ue μ fun r μ'=>match r with|.tr (.int i)=>Q (.tr (.int (-i))) μ'|_=>False:=rfl
theorem pH(μ:Mu)(Q:List R->Mu->Prop):Y.pH μ Q=Q [] μ:=rfl
theorem fk(ue:UE)(us:UA)(μ:Mu)(Q:List R->Mu->Prop):Y.fk ue us μ Q=ue μ fun r μ1=>us μ1 fun rs μ2=>Q (r.d::rs) μ2:=rfl
theorem uK(ts:List T)(μ:Mu)(Q:List R->Mu->Prop):Y.uK ts μ Q=Q (ts.map R.tr) μ:=rfl
theorem t4(us:UA)(μ:Mu)(Q:R->Mu->Prop):Y.t4 us μ Q=us μ fun rs μ'=>match trees rs with|some ts=>ts.length<=sizeLine/\Q (.tr (.tup ts)) μ'|none=>False:=rfl
theorem xS(us:UA)(μ:Mu)(Q:R->Mu->Prop):Y.xS us μ Q=us μ fun rs μ'=>match trees rs with|some ts=>ts.length<=sizeLine/\Q (.fr (.lst ts)) μ'|none=>False:=rfl
theorem AV(u:UC)(us:UA)(μ:Mu)(Q:R->Mu->Prop):Y.AV u us μ Q=us μ fun rs μ'=>u rs μ' Q:=rfl
theorem ip(μ:Mu)(Q:Option Int->Mu->Prop):Y.ip μ Q=Q none μ:=rfl
theorem qu(ue:UE)(μ:Mu)(Q:Option Int->Mu->Prop):Y.qu ue μ Q=ue μ fun r μ'=>match r with|.tr (.int i)=>Q (some i) μ'|_=>False:=rfl
theorem uu(f:T->T->Mu->(R->Mu->Prop)->Prop)(r1 r2:R)(μ:Mu)(Q:R->Mu->Prop):Y.uu f r1 r2 μ Q=(match cont μ r1,cont μ r2 with|some t,some u=>f t u μ Q|_,_=>False):=rfl
theorem Ey(C:Int->Int->Prop)(g:Int->Int->Int)(i j:Int)(μ:Mu)(Q:R->Mu->Prop):vj C g (.int i) (.int j) μ Q=(C i j/\Q (.tr (.int (g i j))) μ):=rfl
theorem Hm(g:Int->Int->Bool)(i j:Int)(μ:Mu)(Q:R->Mu->Prop):GU g (.int i) (.int j) μ Q=Q (.tr (.bl (g i j))) μ:=rfl
theorem gg(r1 r2:R)(μ:Mu)(Q:R->Mu->Prop):Y.gg r1 r2 μ Q=jH (Ce (cont μ r1) (cont μ r2)) fun r=>Q r μ:=by
 unfold Y.gg Ce
 cases cont μ r1 with
 |none=>rfl
 |some t=>cases cont μ r2 with
  |none=>cases t<;>rfl
  |some u=>cases t<;>cases u<;>first|rfl|exact propext ⟨fun h=>⟨trivial,h⟩,fun h=>h.2⟩
theorem oX(r1 r2:R)(μ:Mu)(Q:R->Mu->Prop):Y.oX r1 r2 μ Q=jH (G_ (cont μ r1) (cont μ r2)) fun r=>Q r μ:=by
 unfold Y.oX G_;have e:∀(xs:List T) (i:Int),(match cc xs i with|some t=>Q (.tr t) μ|none=>False)=jH (oT (cc xs i)) fun r=>Q r μ:=fun xs i=>by
  cases cc xs i with
  |none=>rfl
  |some t=>exact propext ⟨fun h=>⟨trivial,h⟩,fun h=>h.2⟩
 cases cont μ r1 with
 |none=>rfl
 |some t=>cases cont μ r2 with
  |none=>cases t<;>rfl
  |some u =>
   cases t<;>cases u<;>first|rfl|exact e _ _|skip
   rename_i z i;show (z.length<=sizeLine/\(match cc z.cps.toList i with|some c=>Q (.tr (.str ⟨#[c]⟩)) μ|none=>False))=jH (match cc z.cps.toList i with|some c=>some (z.length<=sizeLine,.tr (.str ⟨#[c]⟩))|none=>none) fun r=>Q r μ
   cases cc z.cps.toList i with
   |none=>exact propext ⟨fun h=>h.2,fun h=>h.elim⟩
   |some c=>rfl
theorem tQ(neg:Bool)(t:T)(μ:Mu)(Q:R->Mu->Prop):Y.tQ neg t .aL μ Q=Q (.tr (.bl (match t with|.aL=>!neg|_=>neg))) μ:=rfl
theorem Gh(neg:Bool)(i j:Int)(μ:Mu)(Q:R->Mu->Prop):Y.DC neg (.int i) (.int j) μ Q=Q (.tr (.bl (if neg then !decide (i=j) else decide (i=j)))) μ:=rfl
theorem HY(neg:Bool)(xs ys:List T)(μ:Mu)(Q:R->Mu->Prop):Y.DC neg (.lst xs) (.lst ys) μ Q=(neg=false/\xs.all cp=true/\ys.all cp=true/\Q (.tr (.bl (qf xs ys))) μ):=rfl
theorem pQ(f:T->Mu->(R->Mu->Prop)->Prop)(r:R)(μ:Mu)(Q:R->Mu->Prop):Y.pQ f [r] μ Q=(match cont μ r with|some t=>f t μ Q|none=>False):=rfl
theorem nO(t:T)(μ:Mu)(Q:R->Mu->Prop):Y.nO t μ Q=jH (FZ t) fun r=>Q r μ:=by
 cases t<;>first|rfl|exact propext ⟨fun h=>⟨trivial,h⟩,fun h=>h.2⟩
theorem gD(r:R)(μ:Mu)(Q:R->Mu->Prop):Y.gD [r] μ Q=jH (oE (cont μ r)) fun r=>Q r μ:=by
 show (match cont μ r with|some (.lst xs)=>Q (.tr (.tup xs)) μ|some (.tup xs)=>Q (.tr (.tup xs)) μ|_=>False)=_
 unfold oE
 cases cont μ r with
 |none=>rfl
 |some t=>cases t<;>first|rfl|exact propext ⟨fun h=>⟨trivial,h⟩,fun h=>h.2⟩
theorem nW(t:T)(μ:Mu)(Q:R->Mu->Prop):Y.nW t μ Q=jH (xx t) fun r=>Q r μ:=by
 cases t<;>first|rfl|exact propext ⟨fun h=>⟨trivial,h⟩,fun h=>h.2⟩|exact propext ⟨fun h=>⟨⟨h.1,h.2.1,h.2.2.1,h.2.2.2.1,h.2.2.2.2.1⟩,h.2.2.2.2.2⟩,fun h=>⟨h.1.1,h.1.2.1,h.1.2.2.1,h.1.2.2.2.1,h.1.2.2.2.2,h.2⟩⟩
theorem yg(j:Int)(μ:Mu)(Q:R->Mu->Prop):Y.pW [.tr (.int j)] μ Q=Q (.tr (.dN 0 j)) μ:=rfl
theorem CW(g:Int->Int->Int)(i j:Int)(μ:Mu)(Q:R->Mu->Prop):Y.CW g [.tr (.int i),.tr (.int j)] μ Q=Q (.tr (.int (g i j))) μ:=rfl
theorem EV(k:Bool)(μ:Mu)(Q:R->Mu->Prop):Y.vh [.tr (.bl k)] μ Q=Q (.tr (.int (if k=true then 1 else 0))) μ:=rfl
theorem nX(ue:UE)(c:String)(μ:Mu)(Q:R->Mu->Prop):Y.nX ue c μ Q=ue μ fun r μ'=>match cont μ' r with|some t=>(match yo t c with|some b=>Q (.tr (.bl b)) μ'|none=>False)|none=>False:=rfl
theorem jO(ue:UE)(g:UG)(E:Ed)(μ:Mu):Y.jO ue g E μ=ue μ fun r μ'=>g r μ' E.nx:=rfl
theorem IQ(i:Nat)(t:T)(μ:Mu)(Q:Mu->Prop):Y.gN i (.tr t) μ Q=(ou μ i/\Q (μ.set i (.tr t))):=rfl
theorem IP(i:Nat)(t:T)(μ:Mu)(Q:Mu->Prop):Y.gN i (.fr t) μ Q=(ou μ i/\Q (μ.set i (.bx t))):=rfl
theorem ou(μ:Mu)(i:Nat):Y.ou μ i=nb μ[i]?:=rfl
theorem ED(t:T):nb (some (.tr t))=True:=rfl
theorem Ga(t:T):nb (some (.bx t))=True:=rfl
theorem DX:nb (some .un)=True:=rfl
theorem Es(o:Option T):nb (some (sl o))=True:=by cases o<;>rfl
theorem gT(n:Nat)(gs:ph)(r:R)(μ:Mu)(Q:Mu->Prop):Y.gT n gs r μ Q=(match sZ (cont μ r.d) with|some ts=>ts.length=n/\gs ts μ Q|none=>False):=by
 unfold Y.gT sZ
 cases cont μ r.d with
 |none=>rfl
 |some t=>cases t<;>rfl
theorem Gv(g:UG)(gs:ph)(t:T)(ts:List T)(μ:Mu)(Q:Mu->Prop):Y.Gv g gs (t::ts) μ Q=g (.tr t) μ fun μ'=>gs ts μ' Q:=rfl
theorem GJ(μ:Mu)(Q:Mu->Prop):Y.GJ [] μ Q=Q μ:=rfl
theorem gS(uo ui:UE)(t:T)(μ:Mu)(Q:Mu->Prop):Y.gS uo ui (.tr t) μ Q=uo μ fun ro μ1=>ui μ1 fun ri μ2=>(match ro,ri with
  |.br j,.tr (.int k)=>(match (μ2[j]?).bind Sl.box with
   |some (.lst ts)=>(match jT ts.length k with
    |some n=>Q (dz μ2 j (.lst (ts.set n t)))
    |none=>False)
   |_=>False)
  |_,_=>False):=rfl
theorem Ac(ue:UE)(E:Ed)(μ:Mu):Y.Ac ue E μ=ue μ E.rt:=rfl
theorem qH(ue:UE)(E:Ed)(μ:Mu):Y.qH ue E μ=ue μ fun _ μ'=>E.nx μ':=rfl
theorem yt(c:UT)(u w:US)(E:Ed)(μ:Mu):Y.yt c u w E μ=c μ fun b μ'=>if b=true then u E μ' else w E μ':=rfl
theorem Bk(ue:UE)(μ:Mu)(Rt:List T->Option (Nat×List T)->Mu->Prop):Y.Bk ue μ Rt=ue μ fun r μ'=>Ej (Bd r μ') fun ts g=>Rt ts g μ':=by
 unfold Y.Bk Bd;congr 1
 funext r μ'
 cases r with
 |tr t=>cases t<;>rfl
 |br j =>
  show (match cont μ' (.br j) with|some (.lst ts)=>Rt ts (some (j,ts)) μ'|_=>False)=Ej (match cont μ' (.br j) with|some (.lst ts)=>some (ts,some (j,ts))|_=>none) fun ts g=>Rt ts g μ'
  cases cont μ' (.br j) with
  |none=>rfl
  |some t=>cases t<;>rfl
 |fr c=>cases c<;>rfl
theorem Gr(us:UA)(μ:Mu)(Rt:List T->Option (Nat×List T)->Mu->Prop):Y.Gr us μ Rt=us μ fun rs μ'=>match rs with
 |[.tr (.int j)]=>-(2^62)<=j/\j<2^62/\Rt ((List.range j.toNat).map fun k=>T.int (0+(k:Nat))) none μ'
 |_=>False:=rfl
theorem GG(us:UA)(μ:Mu)(Rt:List T->Option (Nat×List T)->Mu->Prop):Y.GG us μ Rt=us μ fun rs μ'=>match rs with
 |[.tr (.int i),.tr (.int j)]=>(-(2^62)<=i/\i<2^62/\-(2^62)<=j/\j<2^62)/\Rt ((List.range (j-i).toNat).map fun k=>T.int (i+(k:Nat))) none μ'
 |_=>False:=rfl
theorem G7(us:UA)(μ:Mu)(Rt:List T->Option (Nat×List T)->Mu->Prop):Y.G7 us μ Rt=us μ fun rs μ'=>match rs with |[.tr (.tup ts)]=>Rt (pairs ts) none μ'|_=>False:=rfl
theorem iZ(us:UA)(μ:Mu)(Rt:List T->Option (Nat×List T)->Mu->Prop):Y.iZ us μ Rt=us μ fun rs μ'=>match rs with
 |[.tr t1,.tr t2]=>(match om t1,om t2 with|some ts,some vs=>Rt (lJ ts vs) none μ'|_,_=>False)
 |_=>False:=rfl
theorem xY(ui:UI)(g:UG)(body:US)(E:Ed)(μ:Mu):Y.xY ui g body E μ=ui μ fun items gd μ'=>match gd with
 |none=>fj g body E items μ'
 |some (j,_)=>(match μ'[j]? with
  |some (.bx c)=>fj g body E items (μ'.set j (.tr c))
  |_=>False):=rfl
theorem gX(own:T->Mu->Option Mu)(dr:Mu->Mu)(ui:UI)(ut:UT)(ue:UE)(μ:Mu)(Q:R->Mu->Prop):Y.gX own dr ui ut ue μ Q=ui μ fun items gd μ'=>oR gd own dr ut ue Q items [] μ':=rfl
theorem GD(um:UM)(uo:UE)(us:UA)(μ:Mu)(Q:R->Mu->Prop):Y.GD um uo us μ Q=uo μ fun ro μ1=>match ro with|.br j=>Y.GB ((μ1[j]?).bind Sl.box) (us μ1 fun rs μ2=>um j rs μ2 Q)|_=>False:=rfl
theorem Fw(ts:List T)(p:Prop):Y.GB (some (.lst ts)) p=p:=rfl
theorem fW(j:Nat)(t:T)(μ:Mu)(Q:R->Mu->Prop):Y.fW j [.tr t] μ Q=(match (μ[j]?).bind Sl.box with|some (.lst ts)=>ts.length<sizeLine/\Q (.tr .aL) (dz μ j (.lst (ts++[t])))|_=>False):=rfl
theorem Gm(md:List Bool)(tsp:fA)(us:UA)(μ:Mu)(Q:R->Mu->Prop):Y.Gm md tsp us μ Q=us μ fun rs μ1=>match vo μ1 md rs with
 |some args=>(gb md rs).Nodup/\(∀ j∈gb md rs,j∉gM md rs)/\tsp args fun r outs=>(gM md rs=[]\/(nv r=true/\outs.all fZ=true))/\Q r (putAll (gb md rs) outs μ1)
 |none=>False:=rfl
theorem Iy(ts:List T):om (.lst ts)=some ts:=rfl
theorem IF(ts:List T):om (.tup ts)=some ts:=rfl
def GL:Option T->Nat->Option (List T×Option (Nat×List T))
 |some (.lst ts),j=>some (ts,some (j,ts))
 |_,_=>none
theorem Hw(xs:List T):oE (some (.lst xs))=some (True,.tr (.tup xs)):=rfl
theorem HL(xs:List T):xx (.tup xs)=some (True,.fr (.lst xs)):=rfl
theorem HZ(lo hi:Int):xx (.dN lo hi)=some ((hi-lo).toNat<=65536/\-(2^62)<=lo/\lo<2^62/\-(2^62)<=hi/\hi<2^62,.fr (.lst ((List.range (hi-lo).toNat).map fun k=>T.int (lo+(k:Nat))))):=rfl
theorem GO(xs:List T):sZ (some (.tup xs))=some xs:=rfl
theorem Ho(xs:List T):sZ (some (.lst xs))=some xs:=rfl
theorem Ex(ts:List T)(μ:Mu):Bd (.tr (.lst ts)) μ=some (ts,none):=rfl
theorem Ew(ts:List T)(μ:Mu):Bd (.fr (.lst ts)) μ=some (ts,none):=rfl
theorem FI(ts:List T)(μ:Mu):Bd (.tr (.tup ts)) μ=some (ts,none):=rfl
theorem FE(j:Nat)(μ:Mu):Bd (.br j) μ=GL (cont μ (.br j)) j:=by
 show (match cont μ (.br j) with|some (.lst ts)=>some (ts,some (j,ts))|_=>none)=_
 unfold GL
 cases cont μ (.br j) with
 |none=>rfl
 |some t=>cases t<;>rfl
theorem Fm(ts:List T)(j:Nat):GL (some (.lst ts)) j=some (ts,some (j,ts)):=rfl
theorem HM(μ:Mu)(t:T):cont μ (.tr t)=some t:=rfl
theorem Ib(μ:Mu)(i:Nat):cont μ (.br i)=(μ[i]?).bind Sl.box:=rfl
theorem Hd(t:T):R.d (.tr t)=.tr t:=rfl
theorem GQ(t:T):R.d (.fr t)=.tr t:=rfl
theorem Hl(i:Nat):R.d (.br i)=.br i:=rfl
theorem H_(b:Bool):uS (.tr (.bl b))=some b:=rfl
end A
theorem cM{g:UG}{body:US}{E:Ed}(I:List T->Mu->Prop){items:List T}(h0:I items μ)(hn:∀ μ,I [] μ->E.nx μ)
  (hs:∀ t ts μ (N:Mu->Prop),I (t::ts) μ->(∀ μ',I ts μ'->N μ')->g (.tr t) μ fun μ1=>body {E with nx:=N,ct:=N,bk:=E.nx} μ1):Y.fj g body E items μ:=by
 induction items generalizing μ with
 |nil=>exact hn μ h0
 |cons t ts ih=>exact hs t ts μ _ h0 fun μ' h=>ih h
theorem cO{gd:Option (Nat×List T)}{own:T->Mu->Option Mu}{ut:UT}{Q:R->Mu->Prop}(I:List T->List T->Mu->Prop){items acc:List T}(h0:I items acc μ)(hn:∀ acc μ,I [] acc μ->Y.Gf gd μ/\Q (.fr (.lst acc)) μ)
  (hs:∀ t r acc μ (N:List T->Mu->Prop),I (t::r) acc μ->(∀ acc' μ',I r acc' μ'->N acc' μ')->Y.Gf gd μ/\acc.length<sizeLine/\(match own t μ with
   |none=>False
   |some μ1=>ut μ1 fun b μ2=>if b=true then ue μ2 fun rr μ3=>(match rr.d with
     |.tr t'=>N (acc++[t']) (dr μ3)
     |_=>False) else N acc (dr μ2))):Y.oR gd own dr ut ue Q items acc μ:=by
 induction items generalizing μ acc with
 |nil=>exact hn acc μ h0
 |cons t ts ih=>exact hs t ts acc μ (fun a m=>Y.oR gd own dr ut ue Q ts a m) h0 fun a' μ' h=>ih h
def kK(K:Oe):Sp:=fun vs H Q _=>∃(a:Addr) (ns:List Int),vs=[.ref a]/\bS K H a (ns.map V.int)/\ns.length<=63/\∀ H',Q (.bl true) H'
theorem cV:∀ ns:List Int,ao K H B (ns.map V.int) (ns.map T.int)
 |[]=>.nil
 |n::ns=>.cons (.int n) (cV ns)
theorem Di{k:Nat}(h:dJ P w K mg base cF k fa fd ps (spT K [false] CL)):dJ P w K mg base cF k fa fd ps (kK K):=by
 refine h.imp fun vs H Q E ⟨a,ns,e,hs,hl,q⟩=>?_;subst e;refine⟨fun _=>False,[.dM (ns.map T.int)],fun r outs=>r=.tr (.bl true),⟨.dM ?_ (cV ns),trivial⟩,fun b z=>z.elim,Ld,⟨ns,rfl,hl,rfl⟩,fun v H' r outs hr _ res=>?_⟩
 ·rcases hs with hs|hs
  ·exact .inl ⟨fun z=>z,hs⟩
  ·exact .inr hs
 ·subst hr;have rv:=res.1;cases rv;exact q H'
namespace Y
theorem CC(hu:X.A.units<cLine):cT X (compareOp .NotEq) (yk X.K true):=by
 intro pins s σ H x y v u Q I rx ry h;obtain⟨a,b,xs,ys,rfl,rfl,hq,fx,fy,q⟩:=h
 cases rx;cases ry
 have item:∀(its its2:List Value),Vals xs its->Vals ys its2->∀ j (h1:j<its.toArray.size) (h2:j<its2.toArray.size),SeqAt.EqAt X.A.in1 s its.toArray[j] its2.toArray[j] (match xs[j]?,ys[j]? with|some x,some y=>DB x y|_,_=>true):=fun its its2 r1 r2 j h1 h2=>by
  have l1:=r1.length;have l2:=r2.length;rw[I_] at h1 h2;obtain⟨u1,e1,g1⟩:=r1.get (i:=j) (x:=xs[j]) (IV (by lia))
  obtain⟨u2,e2,g2⟩:=r2.get (i:=j) (x:=ys[j]) (IV (by lia))
  rw[IV (show j<xs.length by lia),IV (show j<ys.length by lia)]
  have z1:its.toArray[j]=u1:=by
   rw[IV h1] at e1;simpa using e1
  have z2:its2.toArray[j]=u2:=by
   rw[IV h2] at e2;simpa using e2
  rw[z1,z2];exact p7 g1 g2 (Ks.mp fx _ (JV _)) (Ks.mp fy _ (JV _))
 rcases hq with ⟨ha,hb⟩|⟨ha,hb⟩
 ·obtain⟨its,r1,p1,_⟩:=I.list ha;obtain⟨its2,r2,p2,_⟩:=I.list hb;have l1:=r1.length;have l2:=r2.length;by_cases e:xs.length=ys.length
  ·refine SeqAt.RcNeAt.lists p1.isList p2.isList (by rw[I_,I_];lia) hu (item its its2 r1 r2) X.prog X.w X.xe _ ⟨.bl _,H,I,rfl,q _ ?_⟩
   rw[I_,<- l1,<- e,Lg,K3,Bool.true_and]
   try rfl
  ·refine SeqAt.RcNeAt.lists_lengths p1.isList p2.isList (by rw[I_,I_,NW];lia) hu X.prog X.w X.xe _ ⟨.bl true,H,I,rfl,?_⟩
   exact q false (by rw[Kd.mpr e,NM])
 ·obtain⟨its,r1,p1,_⟩:=I.tuple ha;obtain⟨its2,r2,p2,_⟩:=I.tuple hb;have l1:=r1.length;have l2:=r2.length;refine SeqAt.RcNeAt.tuples p1 p2 hu (item its its2 r1 r2) X.prog X.w X.xe _ ⟨.bl _,H,I,rfl,q _ ?_⟩;rw[I_,I_,<- l1,<- l2,MP]
  try rfl
def Ee(K:Oe):R2:=fun x y H Q=>BK x y H Q\/yk K true x y H Q
theorem mw(K:Oe)(hK:X.K=K)(hu:X.A.units<cLine):cT X (compareOp .NotEq) (Ee K):=by subst hK;exact AW.or (CC hu)
def Gq:T->T->Mu->(R->Mu->Prop)->Prop:=fun t u μ Q=>match t,u with
 |.int i,.int j=>Q (.tr (.bl (!decide (i=j)))) μ
 |.str i,.str j=>Q (.tr (.bl (!decide (i=j)))) μ
 |.bl i,.bl j=>Q (.tr (.bl (!decide (i=j)))) μ
 |.lst xs,.lst ys=>xs.all cp=true/\ys.all cp=true/\Q (.tr (.bl (!qf xs ys))) μ
 |.tup xs,.tup ys=>xs.all cp=true/\ys.all cp=true/\Q (.tr (.bl (!qf xs ys))) μ
 |_,_=>False
theorem lH:jw K (Ee K) (uu Gq):=fw fun F ad B σ H μ Q Qt x y t u hK l v1 v2 q k=>by
 subst hK;unfold Gq at q
 split at q
 ·cases v1;cases v2
  refine .inl ⟨rfl,?_⟩;rw[dV (f:=V.int) (fun a b h=>by injection h)]
  exact k _ H _ (Vr.flat l (.bl _)) Fr.refl q
 ·cases v1;cases v2
  refine .inl ⟨rfl,?_⟩;rw[dV (f:=V.str) (fun a b h=>by injection h)]
  exact k _ H _ (Vr.flat l (.bl _)) Fr.refl q
 ·cases v1;cases v2
  refine .inl ⟨rfl,?_⟩;rw[dV (f:=V.bl) (fun a b h=>by injection h)]
  exact k _ H _ (Vr.flat l (.bl _)) Fr.refl q
 ·cases v1 with
  |lst ha ra=>cases v2 with
   |lst hb rb=>exact .inr ⟨_,_,_,_,rfl,rfl,.inl ⟨bS.of ha,bS.of hb⟩,cG ra q.1,cG rb q.2.1,fun c hc=>by
     rw[<- lX ra rb q.1 q.2.1] at hc;subst hc;exact k _ H _ (Vr.flat l (.bl _)) Fr.refl q.2.2⟩
 ·cases v1 with
  |tup ha ra=>cases v2 with
   |tup hb rb=>exact .inr ⟨_,_,_,_,rfl,rfl,.inr ⟨b8.of ha,b8.of hb⟩,cG ra q.1,cG rb q.2.1,fun c hc=>by
     rw[<- lX ra rb q.1 q.2.1] at hc;subst hc;exact k _ H _ (Vr.flat l (.bl _)) Fr.refl q.2.2⟩
 ·exact q.elim
theorem iM:fillsNumberSlot (.type "tuple") "mul"=pure false:=
 PySem.fillsNumberSlot_seq (id:="tuple.__mul__") (r:=some (.builtin "tuple.__rmul__")) PySem.F.slot_tuple_mul.lookup (by decide +kernel) PySem.F.slot_tuple_rmul.lookup (by decide +kernel)
theorem oB:seqRepeat? (.type "tuple")=pure (some (.builtin "tuple.__mul__")):=by
 unfold seqRepeat?;rw[PySem.seqSlot_of (T:="tuple") (name:="__mul__") (id:="tuple.__mul__") PySem.F.slot_tuple_mul.lookup (by decide +kernel),PySem.seqSlot_of (T:="tuple") (name:="__rmul__") (id:="tuple.__rmul__") PySem.F.slot_tuple_rmul.lookup (by decide +kernel)];rfl
theorem vp(a:Int)(t:Tok)(l:Addr)(ob:Obj)(items:Array Value)(n:Nat)(hc:ob.cls=.type "tuple")(hd:ob.data=.seq items n):
  Meets (Builtin.«int.__rmul__» ⟨[.int a t,.ref l],[]⟩) (fun _ R s=>s.heap.get? l=some ob/\R (.ok (.ret Value.notImplemented)) s):=
 .of_wp fun prog w A R s h=>by
  obtain⟨hp,g,d,tk,os⟩:=s;obtain⟨hl,h⟩:=h;obtain⟨c,dd,da,sl⟩:=ob;simp only at hc hd;subst hc hd
  wp_walk
  exact⟨_,rfl,h⟩
theorem Al(l:Addr)(items:Array Value)(ob:Obj)(n:Nat)(k:Int)(t:Tok)(hc:ob.cls=.type "tuple")(hd:ob.data=.seq items n)(hne:items.isEmpty=false)(h1:1<k)(h2:k<=1000)(hsz:items.size<=1000):
  Meets (Builtin.«tuple.__mul__» ⟨[.ref l,.int k t],[]⟩) (fun _ R s=>s.heap.get? l=some ob/\R (.ok (.ret (.ref s.heap.objs.size))) {s with heap:=s.heap.push {cls:=.type "tuple",data:=.seq ((List.replicate k.toNat items).foldl (·++·) #[])}}):=
 .of_wp fun prog w A R s h=>by
  obtain⟨hp,g,d,tk,os⟩:=s;obtain⟨hl,h⟩:=h;obtain⟨c,dd,da,sl⟩:=ob;simp only at hc hd;subst hc hd;have e1:(decide (k < -(2^63)) || decide (k >= 2^63))=false:=by rw[Jp (by lia),Jp (by lia)];rfl
  have e2:(items.isEmpty || k == 1)=false:=by rw[hne,Kd.mpr (by lia)];rfl
  have e3:(decide (k<=0) || items.isEmpty)=false:=by rw[hne,Jp (by lia)];rfl
  wp_walk using AutoSeq1.wpAny_loadPart' hl;rw[IY (by rw[e1];exact Jd)]
  have ht:IsTup (Shared.heap ⟨hp,g,d,tk,os⟩) l items:=⟨_,hl,rfl,n,rfl⟩;show wpAny _ _ (Builtin.Tuple.tupleItemsOf (.ref l) >>= _) _ _ _;refine IT (tupleItemsOf_ ht ?_);rw[IY (by rw[e2];exact Jd)]
  show wpAny _ _ (if (decide (k<=0) || items.isEmpty)=true then _ else _) _ _ _
  rw[IY (by rw[e3];exact Jd)]
  have hm:(items.size:Int)*k<=1000*1000:=Int.mul_le_mul (by lia) h2 (by lia) (by lia)
  show wpAny _ _ (if (items.size:Int)*k >(2^63-1) / 8 then _ else _) _ _ _
  rw[IY (by lia)]
  show wpAny _ _ (if Builtin.Tuple.tupleTooMany ((items.size:Int)*k)=true then _ else _) _ _ _
  have e4:Builtin.Tuple.tupleTooMany ((items.size:Int)*k)=false:=Jp (by
   have:((sizeLine:Nat):Int) >= 1000000:=by decide
   lia)
  rw[IY (by rw[e4];exact Jd)]
  have hl2:((List.replicate k.toNat items).foldl (·++·) #[]).size<=sizeLine:=by
   have fs:∀(m:Nat) (acc:Array Value),((List.replicate m items).foldl (·++·) acc).size=acc.size+m*items.size:=fun m=>by
    induction m with
    |zero=>intro acc;simp
    |succ m ih=>intro acc;rw[JI,List.foldl_cons,ih,MV,L1];lia
   rw[fs];have h3:k.toNat*items.size<=1000*1000:=M9 (by lia) hsz
   have h4:(1000000:Nat)<=sizeLine:=by decide
   simp;lia
  exact IT (m:=Builtin.Tuple.tupleExact _) (JP (IZ ⟨_,rfl,h⟩) hl2)
theorem sV(its:List Value):∀(m:Nat) (acc:List Value),(List.replicate m its.toArray).foldl (·++·) acc.toArray=(acc++(List.replicate m its).flatten).toArray:=fun m acc=>foldl_rep its m acc
def Bp(K:Oe):R2:=fun x y H Q=>∃ a k xs,x=.ref a/\y=.int k/\b8 K H a xs/\xs≠[]/\xs.length<=1000/\1<k/\k<=1000/\∀ p,H p=none->Q (.ref p) (upd H p (.tup (List.replicate k.toNat xs).flatten))
theorem zv:cT X (binaryOp .Mult) (Bp X.K):=by
 intro pins s σ H x y v u Q I rx ry h;obtain⟨a,k,xs,rfl,rfl,hx,hne,hsz,h1,h2,q⟩:=h;cases rx;obtain⟨t,rfl⟩:=ry;obtain⟨its,r,p,hz⟩:=I.tuple hx;obtain⟨ob,ho,hc,n,hd⟩:=id p;have hlen:=r.length;have hemp:its.toArray.isEmpty=false:=by
  cases its with
  |nil=>cases r;exact absurd rfl hne
  |cons a b=>rfl
 refine Nd (T:="tuple") (U:="int") (by decide) ⟨_,ho,hc⟩ (fun s'=>Nc s' k t) iM PySem.F.fills_int_mul PySem.F.slot_int_rmul oB PySem.F.slot_int_index.lookup
  (L5 PySem.F.slot_int_rmul (Nc s k t) PySem.F.entry_int_rmul (PySem.F.args_int_rmul_2 _ _) (vp k t a ob its.toArray n hc hd)
   ⟨ho,rfl,⟨_,ho,hc⟩,L5 PySem.F.slot_tuple_mul ⟨_,ho,hc⟩ PySem.F.entry_tuple_mul (PySem.F.args_tuple_mul_2 _ _) (Al a its.toArray ob n k t hc hd hemp h1 h2 (by rw[I_];lia)) ⟨ho,?_⟩⟩)
 have e0:=sV its k.toNat [];rw[Mo] at e0;have e0':(List.replicate k.toNat its.toArray).foldl (·++·) #[]=(List.replicate k.toNat its).flatten.toArray:=e0;rw[e0'];refine⟨.ref s.heap.objs.size,_,I.laid (t':=s.toks) (o:=.tup (List.replicate k.toNat xs).flatten) (fun b ob q=>IU _ q) (Jb _) ?_,rfl,q _ (I.aO.fresh (Jb _))⟩;refine⟨?_,_,r.rep k.toNat,dv.new _ _⟩;rw[len_rep];have h3:k.toNat*xs.length<=1000*1000:=M9 (by lia) hsz
 exact Jj h3 (by decide)
def Be(K:Oe):R2:=fun x y H Q=>CT x y H Q\/Bp K x y H Q
theorem bN(K:Oe)(hK:X.K=K):cT X (binaryOp .Mult) (Be K):=by subst hK;exact yM.or zv
def qC:U2:=fun r1 r2 μ Q=>match cont μ r1,cont μ r2 with
 |some (.int i),some (.int j)=>pR i j/\Q (.tr (.int (i*j))) μ
 |some (.lst xs),some (.int k)=>-(2^63)<=k/\k<2^63/\xs.length*k.toNat<=sizeLine/\Q (.fr (.lst (List.replicate k.toNat xs).flatten)) μ
 |some (.tup xs),some (.int k)=>(xs≠[]/\xs.length<=1000/\1<k/\k<=1000)/\Q (.tr (.tup (List.replicate k.toNat xs).flatten)) μ
 |_,_=>False
theorem bO:jw K (Be K) qC:=by
 intro F ad B σ H μ Q Qt x y r1 r2 hK l h1 h2 q k;unfold qC at q
 split at q
 ·rename_i i j e1 e2;exact .inl (wW F ad B σ H μ Q Qt x y r1 r2 hK l h1 h2 (by unfold rO;rw[e1,e2];exact q) k)
 ·rename_i xs j e1 e2;exact .inl (wW F ad B σ H μ Q Qt x y r1 r2 hK l h1 h2 (by unfold rO;rw[e1,e2];exact q) k)
 ·rename_i xs j e1 e2;have a:=h1.vw l e1;have b:=h2.vw l e2;subst hK;cases b
  cases a with
  |tup ha ra =>
   refine .inr ⟨_,_,_,rfl,rfl,b8.of ha,?_,by rw[ra.length];exact q.1.2.1,q.1.2.2.1,q.1.2.2.2,fun p hp=>k _ _ _ μ (Vr.tW l (ra.rep _) hp) (Fr.same (cq.new hp)) (Kp.refl μ) q.2⟩
   rintro rfl;cases ra;exact q.1.1 rfl
 ·exact q.elim
end Y
namespace A
theorem Bu(i j:Int)(μ:Mu)(Q:R->Mu->Prop):Y.qC (.tr (.int i)) (.tr (.int j)) μ Q=(pR i j/\Q (.tr (.int (i*j))) μ):=rfl
theorem CO(xs:List T)(k:Int)(μ:Mu)(Q:R->Mu->Prop):Y.qC (.tr (.lst xs)) (.tr (.int k)) μ Q=(-(2^63)<=k/\k<2^63/\xs.length*k.toNat<=sizeLine/\Q (.fr (.lst (List.replicate k.toNat xs).flatten)) μ):=rfl
theorem FW(i j:Int)(μ:Mu)(Q:R->Mu->Prop):Y.Gq (.int i) (.int j) μ Q=Q (.tr (.bl (!decide (i=j)))) μ:=rfl
theorem Hc(i j:Bool)(μ:Mu)(Q:R->Mu->Prop):Y.Gq (.bl i) (.bl j) μ Q=Q (.tr (.bl (!decide (i=j)))) μ:=rfl
end A
section
variable {prog:Program} {w:World} {A:Around} {E:Value->Shared->Prop} {s:Shared}
theorem oj{sl:Addr}{vk:Value}{Q:Int×Int×Nat->Shared->Prop}(hs:s.heap.IsSliceOf sl vl vu vk)(pl:IsPart vl none)(pu:IsPart vu none)(pk:IsPart vk (some (-1)))
  (h:Q ((n:Int)-1,-1,n) s):wpAny (model prog w) A (Builtin.Slice.sliceApplied (.ref sl) (pure (n:Int))) Q E s:=by
 obtain⟨os,hos,hcs,hds⟩:=id hs;unfold Builtin.Slice.sliceApplied Builtin.Slice.sliceFields;refine IT (IT (JA hos hds (x:=vl) rfl (IT (JA hos hds (x:=vu) rfl (IT (JA hos hds (x:=vk) rfl (IZ ?_)))))));refine IT (HT.dB pk ?_);show wpAny _ _ (if ((-1:Int) == 0)=true then _ else _) _ _ s
 rw[IY (by decide)]
 refine IT (HT.dB pl (IT (HT.dB pu (IT (IZ ?_)))));have e:Builtin.Slice.slicePlaces ((n:Int)-1) (-1) (-1)=n:=by
  unfold Builtin.Slice.slicePlaces;rw[IY (by decide)]
  by_cases z:n=0
  ·subst z;rfl
  ·rw[Ja (by lia)]
   have:((n:Int)-1 - -1-1) / -(-1)+1=n:=by rw[Int.neg_neg,Int.ediv_one];lia
   rw[this];rfl
 show wpAny _ _ (pure ((n:Int)-1,(-1:Int),Builtin.Slice.slicePlaces ((n:Int)-1) (-1) (-1))) _ _ s;rw[e];exact IZ h
theorem uM(xs:Array Value):((List.range xs.size).filterMap fun (m:Nat)=>xs[(((xs.size:Nat):Int)-1+(m:Int)*-1).toNat]?).toArray=xs.toList.reverse.toArray:=by
 have gen:∀(l:List Value) (k:Nat),k<=l.length->(List.range k).filterMap (fun m=>l[l.length-1-m]?)=(l.drop (l.length-k)).reverse:=fun l k=>by
  induction k with
  |zero=>intro _;simp
  |succ k ih =>
   intro hk;rw[K0,NQ,ih (by lia)]
   have h1:l.length-1-k<l.length:=by lia
   have h2:l.drop (l.length-(k+1))=l[l.length-1-k]::l.drop (l.length-k):=by
    rw[show l.length-(k+1)=l.length-1-k by lia,Kc h1]
    congr 2;lia
   rw[h2,Lx];simp[IV h1]
 have e:(fun (m:Nat)=>xs[(((xs.size:Nat):Int)-1+(m:Int)*-1).toNat]?)=fun m=>xs.toList[xs.toList.length-1-m]?:=by
  funext m
  rw[JT,show (((xs.size:Nat):Int)-1+(m:Int)*-1).toNat=xs.size-1-m by lia,J5]
 rw[e];have g:=gen xs.toList xs.size (by simp)
 rw[g];simp
theorem hZ{t sl:Addr}{vk:Value}(ht:IsTup s.heap t items)(hs:s.heap.IsSliceOf sl vl vu vk)(pl:IsPart vl none)(pu:IsPart vu none)(pk:IsPart vk (some (-1)))
  (h:Q (.ref s.heap.objs.size) {s with heap:=s.heap.push {cls:=.type "tuple",data:=.seq items.toList.reverse.toArray}}) (hsz:items.size<=sizeLine):wpAny (model prog w) A (getItem (.ref t) (.ref sl)) Q E s:=by
 obtain⟨os,hos,hcs,hds⟩:=id hs;have hTs:s.TypeIs (.ref sl) "slice":=⟨os,hos,hcs⟩;unfold getItem
 try with_reducible refine J9 ?_
 first|refine IT (IZ ?_)|skip
 refine IT (wpAny_sequenceKey ht.typeIs (by decide) ?_)
 refine IT (JL (name:=Str.ofString "__getitem__") ht.typeIs JR (JU JR ht.typeIs entry_tuple_getitem ?_ (args_tuple_getitem _ _)));show wpAny _ _ (Builtin.Tuple.tupleItemsOf (.ref t) >>= _) _ _ s;refine IT (tupleItemsOf_ ht ?_);refine IT (LU hTs ?_);rw[Ja (by decide)]
 refine IT (oj (n:=items.size) hs pl pu pk ?_);show wpAny _ _ (if (((items.size:Nat):Int)-1 == 0 && (-1:Int) == 1 && items.size == items.size)=true then _ else _) _ _ s
 rw[IY (by simp)]
 rw[uM];have hsz2:sizeOk (.seq items.toList.reverse.toArray):=by show items.toList.reverse.toArray.size<=sizeLine;simpa using hsz
 first
  |exact IT (m:=Builtin.Tuple.tupleExact _) (JP (IZ ⟨_,rfl,IZ h⟩) hsz2)
  |exact IT (m:=Builtin.Tuple.tupleExact _) (JP (IT (IZ (IZ ⟨_,rfl,IZ h⟩))) hsz2)
  |exact IT (IT (m:=Builtin.Tuple.tupleExact _) (JP (IZ (IZ ⟨_,rfl,IZ h⟩)) hsz2))
  |exact IT (IT (m:=Builtin.Tuple.tupleExact _) (JP (IZ ⟨_,rfl,IZ h⟩) hsz2))
end
section
variable {X:Cx} {e:Expr} {te:TE}
def Ft(K:Oe)(te:TE):TE:=fun σ H Q=>te σ H fun x H1=>∃ a xs,x=V.ref a/\((bS K H1 a xs/\∀ p,H1 p=none->Q (.ref p) (upd H1 p (.lst xs.reverse)))\/(b8 K H1 a xs/\∀ p,H1 p=none->Q (.ref p) (upd H1 p (.tup xs.reverse))))
theorem Ai{p3 p4:Pos}(he:PE X e te):PE X (.Subscript e (.Slice none none (some (.UnaryOp .USub (.Constant (.int 1) j p3) p4)) p2) pos) (Ft X.K te):=by
 intro pins s σ H Q I h;refine Nb (b9 (he pins s σ H _ I h) fun v s1 ⟨x,H1,I1,r1,q1⟩=>?_);refine wpAny_Slice (b9 (i7 pins s1 σ H1 (fun o H2=>o=none/\H2=H1) I1 ⟨rfl,rfl⟩) fun vl s2 ⟨l,H2,I2,pl,el,eh⟩=>?_);subst el eh;refine b9 (i7 pins s2 σ H2 (fun o H3=>o=none/\H3=H2) I2 ⟨rfl,rfl⟩) fun vu s3 ⟨u,H3,I3,pu,eu,eh⟩=>?_;subst eu eh;refine b9 (i5 (AK u7 gj) pins s3 σ H3 (fun o H4=>o=some (-1)/\H4=H3) I3 ⟨1,rfl,-1,rfl,rfl,rfl⟩) fun vk s4 ⟨k,H4,I4,pk,ek,eh⟩=>?_;subst ek eh;obtain⟨a,xs,rfl,q⟩:=q1;cases r1;have I5:Inv X pins σ H4 {s4 with heap:=s4.heap.push {cls:=.type "slice",data:=.fields #[vl,vu,vk]}}:=I4.kept (t':=s4.toks) fun b ob q=>IU _ q
 rcases q with ⟨hx,q⟩|⟨hx,q⟩
 ·obtain⟨its,r,ht,hz⟩:=I5.list hx;have hlen:=r.length;have hg:wpAny (model X.prog X.w) X.A (getItem (.ref a) (.ref s4.heap.objs.size)) (EP X pins σ Q) X.xe {s4 with heap:=s4.heap.push {cls:=.type "slice",data:=.fields #[vl,vu,vk]}}:=by
   refine LR ht.isList (Heap.IsSliceOf.new ..) pl pu pk (by simp) ?_ (by rw[I_]<;>lia)
   rw[PySem.W.krv_pick];refine⟨.ref _,_,I5.laid (t':=s4.toks) (o:=.lst xs.reverse) (fun b ob q=>IU _ q) (Jb _) ?_,rfl,q _ (I5.aO.fresh (Jb _))⟩;refine⟨by rw[LF];exact hz,its.reverse,0,r.reverse,?_⟩
   exact Je _ rfl
  show wpAny (model X.prog X.w) X.A (subscriptTail e (.Slice none none (some (.UnaryOp .USub (.Constant (.int 1) j p3) p4)) p2) (.ref a) (.ref s4.heap.objs.size)) (EP X pins σ Q) X.xe {s4 with heap:=s4.heap.push {cls:=.type "slice",data:=.fields #[vl,vu,vk]}}
  exact tail_any (ops:=[.ref a,.ref s4.heap.objs.size]) ht.isList.typeIs LW.lookup hg (by with_unfolding_all rfl)
 ·obtain⟨its,r,ht,hz⟩:=I5.tuple hx;have hlen:=r.length;have hg:wpAny (model X.prog X.w) X.A (getItem (.ref a) (.ref s4.heap.objs.size)) (EP X pins σ Q) X.xe {s4 with heap:=s4.heap.push {cls:=.type "slice",data:=.fields #[vl,vu,vk]}}:=by
   refine hZ ht (Heap.IsSliceOf.new ..) pl pu pk ?_ (by rw[I_]<;>lia)
   refine⟨.ref _,_,I5.laid (t':=s4.toks) (o:=.tup xs.reverse) (fun b ob q=>IU _ q) (Jb _) ?_,rfl,q _ (I5.aO.fresh (Jb _))⟩;exact⟨by rw[LF];exact hz,its.reverse,r.reverse,dv.new _ _⟩
  show wpAny (model X.prog X.w) X.A (subscriptTail e (.Slice none none (some (.UnaryOp .USub (.Constant (.int 1) j p3) p4)) p2) (.ref a) (.ref s4.heap.objs.size)) (EP X pins σ Q) X.xe {s4 with heap:=s4.heap.push {cls:=.type "slice",data:=.fields #[vl,vu,vk]}}
  exact tail_any (ops:=[.ref a,.ref s4.heap.objs.size]) ht.typeIs JR.lookup hg (by with_unfolding_all rfl)
end
def z_(o:Option T):Option (Prop×R):=match o with
 |some (.lst xs)=>some (True,.fr (.lst xs.reverse))
 |some (.tup xs)=>some (True,.tr (.tup xs.reverse))
 |_=>none
namespace Y
def zo(ue:UE):UE:=fun μ Q=>ue μ fun r μ'=>jH (z_ (cont μ' r.d)) fun r=>Q r μ'
theorem rev(K:Oe)(hK:X.K=K){p3 p4:Pos}(he:YE X e ue):YE X (.Subscript e (.Slice none none (some (.UnaryOp .USub (.Constant (.int 1) j p3) p4)) p2) pos) (zo ue):=by
 obtain⟨t,q,r⟩:=he;subst hK;refine⟨_,⟨Ai q.h⟩,fun F ad B σ H μ Q Qt hF l q k=>r F ad B σ H μ _ _ hF l q fun v H1 r1 μ1 v1 f1 k1 q1=>?_⟩;have w:=fun t (e:cont μ1 r1.d=some t)=>v1.hv.vw v1.rl e;revert q1 w;unfold z_
 cases cont μ1 r1.d with
 |none=>exact fun q1 _=>q1.elim
 |some t =>
  intro q1 w;have w:=w t rfl;rw[hF] at w
  cases w with
  |lst ha ra=>exact⟨_,_,rfl,.inl ⟨bS.of ha,fun p hp=>k _ _ _ μ1 (Vr.eX v1.rl (by rw[hF];exact ra.rev) hp) (f1.d.trans (Fr.more hp)) k1 q1.2⟩⟩
  |tup ha ra=>exact⟨_,_,rfl,.inr ⟨b8.of ha,fun p hp=>k _ _ _ μ1 (Vr.tW v1.rl (by rw[hF];exact ra.rev) hp) (f1.d.trans (Fr.same (cq.new hp))) k1 q1.2⟩⟩
  |_=>exact q1.elim
end Y
namespace A
theorem zo(ue:UE)(μ:Mu)(Q:R->Mu->Prop):Y.zo ue μ Q=ue μ fun r μ'=>jH (z_ (cont μ' r.d)) fun r=>Q r μ':=rfl
theorem DS(xs:List T):z_ (some (.tup xs))=some (True,.tr (.tup xs.reverse)):=rfl
end A
open PySem PySem.Spec PyProof PyProof.Rows
namespace Y
theorem d4:∀{us:List Value} {ns:List Int},IntsAre us ns->Vals (ns.map V.int) us
 |_,_,.nil=>.nil
 |_,_,.cons n t h=>.cons ⟨t,rfl⟩ (d4 h)
theorem eB:∀{us:List Value} {ns:List Int},IntsAre us ns->us.length=ns.length
 |_,_,.nil=>rfl
 |_,_,.cons n t h=>by simp[eB h]
theorem eJ:∀{us:List Value} {ns:List Int} {i:Nat} {v:Value},IntsAre us ns->us[i]?=some v->∃ t,v=.int (ns.getD i 0) t
 |_,_,_,_,.nil,e=>by simp at e
 |_,_,0,_,.cons n t h,e=>⟨t,by simpa using e.symm⟩
 |_,_,i+1,_,.cons n t h,e=>by
  obtain⟨t',e'⟩:=eJ (i:=i) h (by simpa using e)
  exact⟨t',by simpa using e'⟩
section
variable {prog:Program} {w:World} {A:Around} {E:Value->Shared->Prop} {s:Shared}
theorem gQ{vs:List Value}{Q:List Value->Shared->Prop}(hl:IsTup s.heap l vs.toArray)(hsz:vs.length<=sizeLine)
  (h:Q vs {s with heap:=(s.heap.push (seqObj "list" #[] 0)).update s.heap.objs.size (Obj.mapSeq (·++vs.toArray))}):wpAny (model prog w) A (collect (.ref l)) Q E s:=by
 obtain⟨o,ho,hc,n,hd⟩:=id hl;unfold collect;refine IT (wpAny_runValue (LK entry_proto_collect' ?_));show wpAny _ _ (do again (.builtin "list.__iadd__" ⟨[<- newList [],.ref l],[]⟩)) _ _ s
 refine IT (Lo (IZ ⟨Code.quiet_builtin _ (by decide +kernel),LK entry_list_iadd' ?_⟩))
 show wpAny _ _ (Builtin.List.listExtendWith (.ref s.heap.objs.size) (.ref l) (.ref s.heap.objs.size)) _ _ {s with heap:=s.heap.push (seqObj "list" #[] 0)}
 unfold Builtin.List.listExtendWith;have ho':(s.heap.push (seqObj "list" #[] 0)).get? l=some o:=IU _ ho;refine IT (LU (T:="tuple") ⟨o,ho',hc⟩ ?_);have ht:(Value.type "tuple" == Value.type "tuple")=true:=by rfl
 rw[Ja (by rw[ht];simp)]
 refine IT (Mq ho' hd ?_);refine IT (Mq (xs:=#[]) (n:=0) (Je _ rfl) rfl ?_);rw[IY (by simp)]
 refine IT (L_ (xs:=#[]) (n:=0) (Je _ rfl) rfl ?_ (JC _) (by show (#[]++vs.toArray).size<=sizeLine+1;simp only[MV,I_,JG];lia))
 refine IZ ?_;show wpAny (model prog w) A (load s.heap.objs.size >>= _) Q E {s with heap:=(s.heap.push (seqObj "list" #[] 0)).update s.heap.objs.size (Obj.mapSeq (·++vs.toArray))}
 refine IT (wpAny_load (LL (Je _ rfl) _) ?_);show wpAny _ _ (pure ((#[]:Array Value)++vs.toArray).toList) Q E _;rw[show ((#[]:Array Value)++vs.toArray).toList=vs by simp]
 exact IZ h
theorem oz{vs:List Value}(hl:IsTup s.heap l vs.toArray)(hI:IntsAre vs ns)(h64:vs.length<64)
  (h:∀(out:Array Value) (ns':List Int),IntsAre out.toList ns'->ns'.Perm ns->ns'.Pairwise (·<=·)->Q (.ref (s.heap.objs.size+1)) {s with heap:=sortedAll s.heap vs out}) :
  wpAny (model prog w) A (call (.builtin "sorted") [.ref l]) Q E s:=by
 have hz:vs.length<=sizeLine:=Jj (K9 h64) (by decide)
 refine Nf NF Np Nq (args_sorted1 _) ?_;unfold Builtin.«sorted»;refine IT (m:=checkCount "sorted" 1 1 _) (IZ ?_);refine IT (gQ hl hz ?_);refine IT (Lo ?_ hz);have hs:((s.heap.push (seqObj "list" #[] 0)).update s.heap.objs.size (Obj.mapSeq (·++vs.toArray))).objs.size=s.heap.objs.size+1:=by rw[L7,Ng]
 have ho:(((s.heap.push (seqObj "list" #[] 0)).update s.heap.objs.size (Obj.mapSeq (·++vs.toArray))).push (seqObj "list" vs.toArray 0)).get? (s.heap.objs.size+1)=some (seqObj "list" vs.toArray 0):=by
  rw[<- hs];exact Je _ rfl
 show wpAny _ _ _ _ _ {s with heap:=((s.heap.push (seqObj "list" #[] 0)).update s.heap.objs.size (Obj.mapSeq (·++vs.toArray))).push (seqObj "list" vs.toArray 0)}
 rw[hs];refine IT (J9 (JU MA ⟨_,ho,rfl⟩ Mr (list_sort_tree ho hI h64 fun out ns' a1 a2 a3=>⟨_,rfl,?_⟩) (args_list_sort _)));exact IZ ⟨_,rfl,h out ns' a1 a2 a3⟩
theorem jj{vs:List Value}{b:Bool}(hl:IsTup s.heap l vs.toArray)(hI:IntsAre vs ns)(h64:vs.length<64)
  (h:∀(out:Array Value) (ns':List Int),IntsAre out.toList ns'->ns'.Perm ns->Ordered b ns'->Q (.ref (s.heap.objs.size+1)) {s with heap:=sortedAll s.heap vs out}) :
  wpAny (model prog w) A (call (.builtin "sorted") [.ref l] [(Str.ofString "reverse",.bool b)]) Q E s:=by
 have hz:vs.length<=sizeLine:=Jj (K9 h64) (by decide)
 refine call_function_entry_kw NF Np Nq (args_sorted_rev _ _) ?_;unfold Builtin.«sorted»;refine IT (m:=checkCount "sorted" 1 1 _) (IZ ?_);refine IT (gQ hl hz ?_);refine IT (Lo ?_ hz);have hs:((s.heap.push (seqObj "list" #[] 0)).update s.heap.objs.size (Obj.mapSeq (·++vs.toArray))).objs.size=s.heap.objs.size+1:=by rw[L7,Ng]
 have ho:(((s.heap.push (seqObj "list" #[] 0)).update s.heap.objs.size (Obj.mapSeq (·++vs.toArray))).push (seqObj "list" vs.toArray 0)).get? (s.heap.objs.size+1)=some (seqObj "list" vs.toArray 0):=by
  rw[<- hs];exact Je _ rfl
 show wpAny _ _ _ _ _ {s with heap:=((s.heap.push (seqObj "list" #[] 0)).update s.heap.objs.size (Obj.mapSeq (·++vs.toArray))).push (seqObj "list" vs.toArray 0)}
 rw[hs];refine IT (J9 (wpAny_call_entry_kw MA ⟨_,ho,rfl⟩ Mr (list_sort_tree_rev ho hI h64 fun out ns' a1 a2 a3=>⟨_,rfl,?_⟩) (args_list_sort_rev _ _)));exact IZ ⟨_,rfl,h out ns' a1 a2 a3⟩
theorem za{vs:List Value}(hh:A.handled=none)(hl:IsTup s.heap l vs.toArray)(hI:IntsAre vs ns)(hne:0<ns.length)
  (h:∀ M h' tk t',M∈ns->(∀ a∈ns,a<=M)->(∀ b o,s.heap.get? b=some o->h'.get? b=some o)->Q (.int M t') {s with heap:=h',toks:=tk}) :
  wpAny (model prog w) A (call (.builtin "max") [.ref l]) Q E s:=by
 have ht:s.heap.IsTuple l vs.toArray:=hl;have hlt:l<s.heap.objs.size:=by obtain⟨o,ho,_⟩:=id hl;exact Jc ho
 have hlen:=eB hI;refine call_max_walk (Ka ht ?_);refine⟨_,[_,l],[_],_,_,_,_,rfl,Walks.tuple (A:=A.in1) hh _ l (Jq hlt) vs.toArray,⟨⟨_,Je _ rfl,rfl,rfl⟩,ht.push _⟩,fun c hc=>?_,by simpa[hlen] using hne,CmpOf.ints_gt (fun i=>ns.getD i 0) (fun i v e=>eJ hI (by simpa using e)),fun v h' tk hP hk=>?_⟩
 ·show c<(s.heap.push _).objs.size;rw[Kn];rcases Jg.mp hc with rfl|hc
  ·exact Mc _
  ·rcases Jg.mp hc with rfl|hc
   ·exact KG hlt
   ·cases hc
 ·obtain⟨t,rfl⟩:=eJ (i:=argBest (fun i j=>decide (ns.getD i 0 > ns.getD j 0)) (vs.toArray.size-1)) hI (by rw[<- Ko];exact hP)
  obtain⟨h1,h2⟩:=argBest_gt (fun i=>ns.getD i 0) (vs.toArray.size-1);have hsz:vs.toArray.size=ns.length:=by simpa using hlen
  refine h _ h' tk t ?_ (fun a ha=>?_) (fun b o e=>hk b o (fun hm=>?_) (IU _ e))
  ·have:argBest (fun i j=>decide (ns.getD i 0 > ns.getD j 0)) (vs.toArray.size-1)<ns.length:=by lia
   rw[JK,IV this];exact JV _
  ·obtain⟨j,hj,rfl⟩:=List.mem_iff_getElem.mp ha;have:=h2 j (by lia)
   rw[JK,IV hj] at this;exact this
  ·rcases Jg.mp hm with rfl|hm
   ·exact absurd (Jc e) (Ku _)
   ·cases hm
end
def A4(K:Oe):List V->Hp->VK->Prop:=fun xs H Q=>∃ p ns,xs=[.ref p]/\b8 K H p (ns.map V.int)/\ns.length<64/\∀ ns':List Int,ns'.Perm ns->ns'.Pairwise (·<=·)->∀ l,H l=none->Q (.ref l) (upd H l (.lst (ns'.map V.int)))
theorem sJ(K:Oe)(hK:X.K=K):aT X (.builtin "sorted") (A4 K):=by
 subst hK;intro pins s σ H xs us Q I r h;obtain⟨p,ns,rfl,hq,h64,q⟩:=h;obtain⟨u,rfl,ru⟩:=vals1 r;cases ru;obtain⟨its,rv,pl,hz⟩:=I.tuple hq;have hi:=intsAre_of rv;refine oz pl hi (by rw[eB hi];exact h64) fun out ns' a1 a2 a3=>?_
 obtain⟨e,he⟩:=Nr s.heap its out;refine⟨.ref (s.heap.objs.size+1),_,I.laid (t':=s.toks) (fun b ob q=>MS q) (Kw _) (show aJ X.prog X.w _ _ _ (.lst (ns'.map V.int)) from⟨?_,out.toList,e,d4 a1,by simpa using he⟩),rfl,q ns' a2 a3 _ (I.aO.fresh (Kw _))⟩
 rw[IW,a2.length_eq];exact Jj (K9 h64) (by decide)
def Bq(K:Oe):List V->Hp->VK->Prop:=fun xs H Q=>yN xs H Q\/∃(p:Addr) (ns:List Int),xs=[.ref p]/\b8 K H p (ns.map V.int)/\0<ns.length/\∀ M:Int,M∈ns->(∀ a∈ns,a<=M)->Q (.int M) H
theorem sy(K:Oe)(hK:X.K=K)(hc:X.calm=true):aT X (.builtin "max") (Bq K):=by
 subst hK;refine (cW hc).or ?_;intro pins s σ H xs us Q I r h;obtain⟨p,ns,rfl,hq,hne,q⟩:=h;obtain⟨u,rfl,ru⟩:=vals1 r;cases ru;obtain⟨its,rv,pl,hz⟩:=I.tuple hq;refine za (I.ok.hd hc) pl (intsAre_of rv) hne fun M h' tk t' m1 m2 hk=>?_;exact⟨.int M,H,I.kept hk,⟨_,rfl⟩,q M m1 m2⟩
theorem cV:∀ ns:List Int,ao K H B (ns.map V.int) (ns.map T.int)
 |[]=>.nil
 |n::ns=>.cons (.int _) (cV ns)
theorem cX:∀{ns:List Int} {vs:List V},ao K H B vs (ns.map T.int)->vs=ns.map V.int
 |[],_,.nil=>rfl
 |n::ns,_,.cons h r=>by cases h;rw[cX r];rfl
def xP:UC:=fun rs μ Q=>match rs with
 |[.tr (.int i),.tr (.int j)]=>Q (.tr (.int (if j > i then j else i))) μ
 |[.tr (.tup xs)]=>∃ ns:List Int,xs=ns.map T.int/\0<ns.length/\∀ M:Int,M∈ns->(∀ a∈ns,a<=M)->Q (.tr (.int M)) μ
 |_=>False
theorem zR:RC K (Bq K) xP:=by
 intro F ad B σ H μ Q Qt xs rs hK l p q k;unfold xP at q
 split at q
 ·exact .inl (gC F ad B σ H μ Q Qt xs _ hK l p q k)
 ·obtain⟨ns,rfl,hne,q⟩:=q;subst hK
  cases p with
  |cons h1 p =>
   cases p;have v1:=h1.vw l (show cont μ (.tr (.tup (ns.map T.int)))=some _ from rfl)
   cases v1 with
   |tup ha ra=>exact .inr ⟨_,ns,rfl,by rw[<- cX ra];exact b8.of ha,hne,fun M m1 m2=>k _ H _ μ (Vr.flat l (.int _)) Fr.refl (Kp.refl μ) (q M m1 m2)⟩
 ·exact q.elim
def Fz(K:Oe):List V->Hp->VK->Prop:=fun xs H Q=>∃(p:Addr) (ns:List Int),xs=[.ref p]/\bS K H p (ns.map V.int)/\Q (.int ns.sum) H
theorem kI(K:Oe)(hK:X.K=K)(hc:X.calm=true):aT X (.builtin "sum") (Fz K):=by subst hK;exact sY hc
def D5:T->Mu->(R->Mu->Prop)->Prop:=fun t μ Q=>match t with
 |.lst xs=>∃ ns:List Int,xs=ns.map T.int/\Q (.tr (.int ns.sum)) μ
 |_=>False
theorem wL:RC K (Fz K) (pQ D5):=fz fun F ad B σ H μ Q Qt x t hK l v1 q k=>by
 subst hK;unfold D5 at q
 split at q
 ·obtain⟨ns,rfl,q⟩:=q
  cases v1 with
  |lst ha ra=>exact⟨_,ns,rfl,by rw[<- cX ra];exact bS.of ha,k _ _ _ (Vr.flat l (.int _)) Fr.refl q⟩
 ·exact q.elim
def DU(i j:Int):Prop:=0<j/\j<4611686018427387904
theorem jq:cT X (binaryOp .FloorDiv) (rI DU fun i j=>.int (i / j)):=DH fun i j _ _ _ _ _ hc q=>by
 have h1:(0:Int)<j:=hc.1;have h2:j<4611686018427387904:=hc.2;exact floordiv_int (by lia) (by rw[MN i (by lia)];exact q) (.inl (PyProof.noPylong_of_log2 (Nat.lt_trans ((Nat.log2_lt (k:=62) (by lia)).mpr (by lia)) (by decide))))
def vq(K:Oe):List V->Hp->VK->Prop:=fun xs H Q=>∃ p ns,xs=[.ref p]/\b8 K H p (ns.map V.int)/\ns.length<64/\∀ ns':List Int,ns'.Perm ns->ns'.Pairwise (· >= ·)->∀ l,H l=none->Q (.ref l) (upd H l (.lst (ns'.map V.int)))
theorem vM{t:TA}{p kpos:Pos}{cj:Nat}(hg:Gl X "sorted")(hm:X.mg "sorted"=none)(ha:PA X [e] t)(h1:cN e=true):
  PE X (.Call (.Name "sorted" p) [e] [⟨some "reverse",.Constant (.bool true) cj cpos,kpos⟩] pos) (uq (vq X.K) t):=by
 intro pins s σ H Q I h;refine K6 (dw I hg hm (u:=.builtin "sorted") (by decide +kernel) ?_ (by decide) (by decide))
 have hk:PK X [⟨some "reverse",.Constant (.bool true) cj cpos,kpos⟩] (er (tC (.bl true)) iI):=lh vc oy;refine callWith_kw ?_ (by rw[cA h1];rfl) (by rw[cA h1];rfl) rfl rfl
 refine b9 (ha pos pins s σ H _ I h) fun us s1 ⟨vs,H1,I1,r1,q1⟩=>?_;refine b9 (hk pos pins s1 σ H1 (fun zs H2=>zs=[.bl true]/\H2=H1) I1 ⟨rfl,rfl⟩) fun ws s2 ⟨zs,H2,I2,rz,e1,e2⟩=>?_;subst e1 e2;obtain⟨wv,rfl,rw1⟩:=vals1 rz;cases rw1;obtain⟨p,ns,rfl,hq,h64,q⟩:=q1;obtain⟨u,rfl,ru⟩:=vals1 r1;cases ru;obtain⟨its,rv,pl,hz⟩:=I2.tuple hq;have hi:=intsAre_of rv;refine jj (b:=true) pl hi (by rw[eB hi];exact h64) fun out ns' a1 a2 a3=>?_
 obtain⟨e,he⟩:=Nr s2.heap its out;refine⟨.ref (s2.heap.objs.size+1),_,I2.laid (t':=s2.toks) (fun b ob q=>MS q) (Kw _) (show aJ X.prog X.w _ _ _ (.lst (ns'.map V.int)) from⟨?_,out.toList,e,d4 a1,by simpa using he⟩),rfl,q ns' a2 a3 _ (I2.aO.fresh (Kw _))⟩
 rw[IW,a2.length_eq];exact Jj (K9 h64) (by decide)
def m3:T->Mu->(R->Mu->Prop)->Prop:=fun t μ Q=>match t with
 |.tup xs=>∃ ns:List Int,xs=ns.map T.int/\ns.length<64/\∀ ns':List Int,ns'.Perm ns->ns'.Pairwise (· >= ·)->Q (.fr (.lst (ns'.map T.int))) μ
 |_=>False
theorem xn:RC K (vq K) (pQ m3):=fz fun F ad B σ H μ Q Qt x t hK l v1 q k=>by
 subst hK;unfold m3 at q
 split at q
 ·obtain⟨ns,rfl,h64,q⟩:=q
  cases v1 with
  |tup ha ra=>exact⟨_,ns,rfl,by rw[<- cX ra];exact b8.of ha,h64,fun ns' a2 a3 p hp=>k _ _ _ (Vr.eX l (cV _) hp) (Fr.more hp) (q ns' a2 a3)⟩
 ·exact q.elim
theorem FO{p kpos:Pos}{cj:Nat}(hg:Gl X "sorted")(hm:X.mg "sorted"=none)(ha:YA X [e] us)(h1:cN e=true:=by rfl):
  YE X (.Call (.Name "sorted" p) [e] [⟨some "reverse",.Constant (.bool true) cj cpos,kpos⟩] pos) (AV (pQ m3) us):=by
 obtain⟨t,q,rr⟩:=ha;exact⟨_,⟨vM hg hm q.h h1⟩,rE xn rr⟩
end Y
namespace A
theorem yY(xs:List T)(μ:Mu)(Q:R->Mu->Prop):Y.m3 (.tup xs) μ Q=(∃ ns:List Int,xs=ns.map T.int/\ns.length<64/\∀ ns':List Int,ns'.Perm ns->ns'.Pairwise (· >= ·)->Q (.fr (.lst (ns'.map T.int))) μ):=rfl
theorem Gd(xs:List T)(μ:Mu)(Q:R->Mu->Prop):Y.D5 (.lst xs) μ Q=(∃ ns:List Int,xs=ns.map T.int/\Q (.tr (.int ns.sum)) μ):=rfl
theorem E5(xs:List T)(μ:Mu)(Q:R->Mu->Prop):Y.xP [.tr (.tup xs)] μ Q=(∃ ns:List Int,xs=ns.map T.int/\0<ns.length/\∀ M:Int,M∈ns->(∀ a∈ns,a<=M)->Q (.tr (.int M)) μ):=rfl
end A
namespace Y
section
variable {prog:Program} {w:World} {A:Around} {E:Value->Shared->Prop} {s:Shared}
end
end Y
namespace A
end A
namespace Y
theorem uV(l:List Nat):∀(n a:Nat),((List.range n).map (fun k=>a+k)).filterMap (l[·]?)=(l.drop a).take n
 |0,_=>by simp
 |n+1,a=>by
  rw[K0,Jn,NQ,uV l n a,List.take_add_one,K7]
  cases h:l[a+n]?<;>simp[h]
theorem mO(lo hi:Option Int)(n:Nat):Builtin.Str.strSliceIndices lo hi 1 n=(List.range (HT.bL n n hi-HT.bL n 0 lo)).map (fun k=>HT.bL n 0 lo+k):=by
 have ea:∀(v:Int),max 0 (min (if v<0 then v+(n:Int) else v) (n:Int))=(((if v<0 then (v+(n:Int)).toNat else min v.toNat n):Nat):Int):=by
  intro v;split<;>lia
 have e:Builtin.Str.strSliceIndices lo hi 1 n=sliceRange (HT.bL n 0 lo) (HT.bL n n hi) 1:=by
  cases lo with
  |none=>cases hi with
   |none=>rfl
   |some j=>show sliceRange 0 (max 0 (min (if j<0 then j+(n:Int) else j) (n:Int))) 1=_;rw[ea];rfl
  |some i=>cases hi with
   |none=>show sliceRange (max 0 (min (if i<0 then i+(n:Int) else i) (n:Int))) n 1=_;rw[ea];rfl
   |some j=>show sliceRange (max 0 (min (if i<0 then i+(n:Int) else i) (n:Int))) (max 0 (min (if j<0 then j+(n:Int) else j) (n:Int))) 1=_;rw[ea,ea];rfl
 rw[e];generalize HT.bL n 0 lo=a;generalize HT.bL n n hi=b;unfold sliceRange;simp only[show ((1:Int) > 0)=True from by simp,L0,Int.one_mul]
 have c:(if (a:Int)<(b:Int) then ((b:Int)-a+1-1) / 1 else 0).toNat=b-a:=by split<;>lia
 rw[c];refine LG fun k _=>?_;lia
theorem oH(z:Str)(lo hi:Option Int):Txt.slice z lo hi=⟨((z.cps.toList.drop (HT.bL z.cps.toList.length 0 lo)).take (HT.bL z.cps.toList.length z.cps.toList.length hi-HT.bL z.cps.toList.length 0 lo)).toArray⟩:=by
 have hl:z.cps.toList.length=z.length:=JT;rw[hl];have hp:(Builtin.Str.strSliceIndices lo hi 1 z.length).filterMap (z.cps[·]?)=(z.cps.toList.drop (HT.bL z.length 0 lo)).take (HT.bL z.length z.length hi-HT.bL z.length 0 lo):=by
  rw[mO];have:=uV z.cps.toList (HT.bL z.length z.length hi-HT.bL z.length 0 lo) (HT.bL z.length 0 lo)
  simpa using this
 unfold Txt.slice;split
 ·rename_i h;rw[mO] at h;simp at h;have h2:=HT.oK z.length z.length (Jb _) hi;have h3:=HT.oK z.length 0 (JC _) lo;have a0:HT.bL z.length 0 lo=0:=by lia
  have b0:HT.bL z.length z.length hi=z.length:=by lia
  rw[a0,b0,Lc,Ms,<- hl,List.take_length]
 ·rw[hp]
def Ae(z:Str)(lo hi:Option Int):Str:=⟨(bJ z.cps.toList lo hi).toArray⟩
theorem t9(z:Str)(lo hi:Option Int):Txt.slice z lo hi=Ae z lo hi:=oH z lo hi
def DR:V->Option Int->Option Int->Hp->VK->Prop:=fun x lo hi H Q=>∃ z,x=.str z/\z.length<=sizeLine/\Q (.str (Ae z lo hi)) H
theorem C7:uv X DR:=by
 intro pins s σ H x v vl vu lo hi sl Q I rx hs pl pu h;obtain⟨z,rfl,hz,q⟩:=h;rw[<- t9] at q;obtain⟨t,rfl⟩:=rx;refine⟨"str",_,PySem.F.slot_str_getitem.lookup,typeIs_str _ _ _,?_⟩
 cases pl<;>cases pu
 ·exact Lj (l:=none) (u:=none) (st:=none) hs rfl (Mt ⟨Jj (Txt.slice_le z _ _) hz,fun t' k=>⟨.str _,H,I.tok _,⟨_,rfl⟩,q⟩⟩)
 ·exact Lj (l:=none) (u:=some (_,_)) (st:=none) hs rfl (Mt ⟨Jj (Txt.slice_le z _ _) hz,fun t' k=>⟨.str _,H,I.tok _,⟨_,rfl⟩,q⟩⟩)
 ·exact Lj (l:=some (_,_)) (u:=none) (st:=none) hs rfl (Mt ⟨Jj (Txt.slice_le z _ _) hz,fun t' k=>⟨.str _,H,I.tok _,⟨_,rfl⟩,q⟩⟩)
 ·exact Lj (l:=some (_,_)) (u:=some (_,_)) (st:=none) hs rfl (Mt ⟨Jj (Txt.slice_le z _ _) hz,fun t' k=>⟨.str _,H,I.tok _,⟨_,rfl⟩,q⟩⟩)
def HS(K:Oe):V->Option Int->Option Int->Hp->VK->Prop:=fun x lo hi H Q=>Fs K x lo hi H Q\/DR x lo hi H Q
theorem GK(K:Oe)(hK:X.K=K):uv X (HS K):=(Hx K hK).or C7
def Cz(a:Option T)(lo hi:Option Int):Option (Prop×R):=match a with
 |some (.lst xs)=>some (True,.fr (.lst (bJ xs lo hi)))
 |some (.dM xs)=>some (True,.fr (.lst (bJ xs lo hi)))
 |some (.tup xs)=>some (True,.tr (.tup (bJ xs lo hi)))
 |some (.str z)=>some (z.length<=sizeLine,.tr (.str (Ae z lo hi)))
 |_=>none
def Cs(ue:UE)(ul uh:UO):UE:=fun μ Q=>ue μ fun r μ1=>ul μ1 fun lo μ2=>uh μ2 fun hi μ3=>jH (Cz (cont μ3 r.d) lo hi) fun r=>Q r μ3
theorem Cw{ul uh:UO}(K:Oe)(hK:X.K=K)(he:YE X e ue)(hl:YO X lo ul)(hu:YO X hi uh):YE X (.Subscript e (.Slice lo hi none p2) pos) (Cs ue ul uh):=by
 obtain⟨t,q,r⟩:=he;obtain⟨tl,ql,rl⟩:=hl;obtain⟨th,qh,rh⟩:=hu;refine⟨_,Z.slice (GK K hK) q ql qh,fun F ad B σ H μ Q Qt hF l q k=>r F ad B σ H μ _ _ hF l q fun v H1 r1 μ1 v1 f1 k1 q1=>rl F ad B σ H1 μ1 _ _ hF v1.rl q1 fun i H2 μ2 l2 f2 k2 q2=>rh F ad B σ H2 μ2 _ _ hF l2 q2 fun j H3 μ3 l3 f3 k3 q3=>?_⟩;have hF':F.K=K:=hF.trans hK;clear hF;subst hF';have hv:=v1.hv.fr (f2.trans f3) (k2.trans k3);have ff:=(f1.d.trans f2).trans f3;have kk:=(k1.trans k2).trans k3;generalize eo:cont μ3 r1.d=o at q3;unfold Cz jH at q3
 cases o with
 |none=>exact q3.elim
 |some o=>cases o with
  |lst xs =>
   have w:=hv.vw l3 eo
   cases w with
   |lst ha ra=>exact .inl (.inl ⟨_,_,rfl,bS.of ha,fun p hp=>k _ _ _ μ3 (Vr.eX l3 (ao.cut ra i j) hp) (ff.trans (Fr.more hp)) kk q3.2⟩)
  |dM xs =>
   have w:=hv.vw l3 eo
   cases w with
   |dM ha ra=>exact .inl (.inl ⟨_,_,rfl,ha,fun p hp=>k _ _ _ μ3 (Vr.eX l3 (ao.cut ra i j) hp) (ff.trans (Fr.more hp)) kk q3.2⟩)
  |tup xs =>
   have w:=Hv.yV l3 hv eo;have w':=w
   cases w with
   |tup na ha ra =>
    by_cases z:HT.bL xs.length 0 i=0/\HT.bL xs.length xs.length j=xs.length
    ·have e0:bJ xs i j=xs:=by unfold bJ;rw[z.1,z.2,Ms,Lc,List.take_length]
     have q4:=q3.2;rw[e0] at q4;exact .inl (.inr (.inr ⟨_,_,rfl,b8.of ha,by rw[ra.length];exact z.1,by rw[ra.length];exact z.2,k _ H3 _ μ3 (Vr.flat l3 w') ff kk q4⟩))
    ·exact .inl (.inr (.inl ⟨_,_,rfl,b8.of ha,by rw[ra.length];exact z,fun p hp=>k _ _ _ μ3 (Vr.tW l3 (ao.cut ra i j) hp) (ff.trans (Fr.same (cq.new hp))) kk q3.2⟩))
  |str z =>
   have w:=hv.vw l3 eo;cases w;exact .inr ⟨z,rfl,q3.1,k _ H3 _ μ3 (Vr.flat l3 (.str _)) ff kk q3.2⟩
  |aL=>exact q3.elim
  |bl b=>exact q3.elim
  |int n=>exact q3.elim
  |dN a b=>exact q3.elim
  |km a b=>exact q3.elim
  |exc a b=>exact q3.elim
  |gE xs=>exact q3.elim
def jv:UM:=fun j rs μ Q=>match rs with
 |[.tr (.int i)]=>(match (μ[j]?).bind Sl.box with
  |some (.lst ts)=>-(2^63)<=i/\i<2^63/\∃ k t,seqIndex? i ts.length=some k/\ts[k]?=some t/\Q (.tr t) (dz μ j (.lst (ts.eraseIdx k)))
  |_=>False)
 |_=>False
theorem fO:RM K uW jv:=by
 intro F ad B σ H μ Q Qt j s c xs rs hF l e b ps q k;unfold jv at q
 split at q
 ·rename_i i
  cases ps with
  |cons h ps =>
   cases ps;rw[e] at q
   cases cE h
   have q':(match s.box with|some (.lst ts)=>-(2^63)<=i/\i<2^63/\∃ k t,seqIndex? i ts.length=some k/\ts[k]?=some t/\Qt (.tr t) (dz μ j (.lst (ts.eraseIdx k)))|_=>False):=q
   rw[b] at q';rcases ((l.slot j s e).boxed b).2.2.1.is with ⟨ts,vs,rfl,hl,rv⟩|⟨_,_,_,rfl,_⟩
   case inr=>exact q'.elim
   simp only at q';obtain⟨h1,h2,n,t,hk,ht,q2⟩:=q';obtain⟨y,hy,ry⟩:=rv.get ht;have fs:Fr B H B (upd H (ad j) (.lst (vs.eraseIdx n))):=Fr.set ((l.slot j s e).boxed b).2.1;refine⟨_,_,i,n,y,rfl,rfl,hl,h1,h2,by rw[rv.length];exact hk,hy,?_⟩
   have l3:=l.put e b (rv.erase n);unfold dz at q2;rw[e] at q2;exact k _ _ (.tr t) _ (Vr.flat l3 (ry.fr fs)) fs (Kp.set e b (Sl.i8 b)) q2
 ·exact q.elim
def DV(i:Nat):UG:=fun r μ Q=>match r with
 |.tr t=>ou μ i/\Q (μ.set i (.tr t))
 |.fr t=>ou μ i/\Q (μ.set i (.tr t))
 |.br _=>False
theorem j7:RG K (cD i) (DV i):=fun F ad B σ H μ v r B0 H0 Q Qt hK h f q k=>by
 cases r with
 |tr t=>exact k ad B _ H _ (h.1.u6 (gF q.1) h.2) f q.2
 |br i=>exact q.elim
 |fr c =>
  refine k ad B _ H _ (h.rl.u6 (gF q.1) h.hv) (f.trans (Fr.less fun b z=>?_)) q.2;obtain⟨_,a,rfl,_⟩:=h;exact Or.inr z
section
variable {X:Cx} {e elt tg iter:Expr} {ifs:List Expr} {ue:UE} {ut:UT} {ui:UI} {pos pos' p2:Pos} {x:Str} {osc scope:Scope} {ON own N:List Str}
theorem xq(hN:X.N.Nodup)(hi:X.N[i]?=some x)(hx:Loc X.env.scope x)(he:YE X e ue)(hs:Z.AR e=true:=by rfl)(hf:X.fn x=true\/X.env.scope.names.lookup x=some .local:=by first|exact .inl rfl|exact .inr rfl|assumption):
  YS X (.Assign [.Name x pos'] e pos) (jO ue (DV i)):=by
 obtain⟨t,q,r⟩:=he;exact⟨_,Z.set hN hi hx q hs hf,j9 r j7⟩
theorem v9(K:Oe)(hK:X.K=K)(hN:X.N.Nodup)(hj:X.N[j]?=some x)(hx:Loc X.env.scope x)(S:cI osc ON scope own N)(hosc:X.env.scope=osc)(hON:X.N=ON)(hc:X.calm=true)(ho:own.length=2)(hi:YI X tg iter ui)
  (hg:∀ C s H fp,QG (aM X scope N C s H fp) tg (mT K 2 (eG (cD 0) (eG (cD 1) n5)))) (ht:∀ C s H fp,AB (aM X scope N C s H fp) ifs ut) (he:∀ C s H fp,YE (aM X scope N C s H fp) elt ue)
  (hsw:swapsWith (.ListComp elt [⟨tg,iter,ifs,0⟩] scope p2) (some (.Name x pos')) pos.line X.env=pure true:=by rfl)
  (hf:X.fn x=true\/X.env.scope.names.lookup x=some .local:=by first|exact .inl rfl|exact .inr rfl|assumption) (hs:∀ x,foldedSetIterable iter X.env x=pure x:=by intro _;rfl) :
  YS X (.Assign [.Name x pos'] (.ListComp elt [⟨tg,iter,ifs,0⟩] scope p2) pos) (jO (gX t8 GF ui ut ue) (DV j)):=by
 obtain⟨t,q,r⟩:=hi;subst hK;have h:=Z.setC (tc:=tO X.K ut) (te:=sL X.K ue) hN hj hx S hosc hON hc q hg (fun C s H fp=>(ht C s H fp).yv) (fun C s H fp=>(he C s H fp).yv) hsw hf hs;rw[ho] at h;exact⟨_,h,j9 (iw q_ r rV qA) j7⟩
end
end Y
namespace A
theorem jv(j:Nat)(i:Int)(μ:Mu)(Q:R->Mu->Prop):Y.jv j [.tr (.int i)] μ Q=(match (μ[j]?).bind Sl.box with
  |some (.lst ts)=>-(2^63)<=i/\i<2^63/\∃ k t,seqIndex? i ts.length=some k/\ts[k]?=some t/\Q (.tr t) (dz μ j (.lst (ts.eraseIdx k)))
  |_=>False):=rfl
theorem Ha(i:Nat)(t:T)(μ:Mu)(Q:Mu->Prop):Y.DV i (.fr t) μ Q=(Y.ou μ i/\Q (μ.set i (.tr t))):=rfl
end A
namespace Y
end Y
namespace A
end A
def Fl(h:Heap)(e:Addr)(cls:Value)(d:Option Addr):Option Addr->Prop
 |none=>∃ oe vs,h.get? e=some oe/\oe.cls=cls/\oe.dict=d/\oe.data=.fields vs/\vs[1]?=some Value.none
 |some T=>∃ oe vs oT ts,h.get? e=some oe/\oe.cls=cls/\oe.dict=d/\oe.data=.fields vs/\vs[1]?=some (.ref T)/\T≠e/\h.get? T=some oT/\oT.data=.fields ts/\ts[3]?=some Value.none
theorem Fl.is{e:Addr}{d:Option Addr}(f:Fl h e cls d To):jK e cls d h:=by
 cases To with
 |none=>obtain⟨oe,vs,h1,h2,h3,h4,_⟩:=f;exact⟨oe,vs,h1,h2,h3,h4⟩
 |some T=>obtain⟨oe,vs,_,_,h1,h2,h3,h4,_⟩:=f;exact⟨oe,vs,h1,h2,h3,h4⟩
theorem jK.ok{e:Addr}{d:Option Addr}(x:jK e cls d h):aJ P w H h e (.ext (jK e cls d)):=
 ⟨x,let ⟨o,_,h1,_⟩:=x;⟨o,h1⟩,fun h1 h2 ⟨o,vs,a,b,c,d⟩ k=>⟨o,vs,k o a,b,c,d⟩⟩
theorem jK.one{e:Addr}{cls':Value}{d d':Option Addr}(x:jK e cls d h)(y:jK e cls' d' h):cls=cls'/\d=d':=by
 obtain⟨o,_,h1,h2,h3,_⟩:=x;obtain⟨o',_,g1,g2,g3,_⟩:=y;rw[h1] at g1;cases g1;exact⟨h2.symm.trans g2,h3.symm.trans g3⟩
structure Mv (h h':Heap) (e:Addr) (To:Option Addr) (fs:List Addr) (T':Addr):Prop where
 keep:∀ b o,b≠e->(∀ T,To=some T->b≠T)->b∉fs->h.get? b=some o->h'.get? b=some o
 slot:∀ b o,b∈fs->h.get? b=some o->∃ sl,h'.get? b=some {o with slots:=sl}
 new:(h.get? T'=none\/To=some T')/\T'∉fs
section
variable {h:Heap} {e:Addr} {cls:Value} {d:Option Addr} {base:Heap} {l:List Env}
theorem Fl.Az{T:Addr}(f:Fl h e cls d (some T))(hl:h.FunFrames base l):T∉ik l:=fun m=>by
 obtain⟨_,o,ho,hd⟩:=hl.mem m;obtain⟨_,_,oT,ts,_,_,_,_,_,_,hT,hdT,_⟩:=f;rw[hT] at ho;cases ho;exact hd ts hdT
theorem xW{o:Obj}{vs:Array Value}(q:o.data=.fields vs)(g:Array Value->Array Value):o.mapFields g={o with data:=.fields (g vs)}:=by
 obtain⟨c,dd,dt,sl⟩:=o;cases q;rfl
end
section
variable {M:Model} {A:Around} {E:Value->Shared->Prop} {s:Shared} {env:Env} {outer:List Env} {L e:Addr} {cls:Value} {d:Option Addr} {base:Heap}
theorem lU{o:Obj}{vs:Array Value}{x:Value}{Q:Unit->Shared->Prop}(ho:s.heap.get? a=some o)(hd:o.data=.fields vs)(hi:i<vs.size)
  (hq:∀ h':Heap,(∀ b,b≠a->h'.get? b=s.heap.get? b)->h'.get? a=some {o with data:=.fields (vs.setIfInBounds i x)}->Q () {s with heap:=h'}):wpAny M A (setField (.ref a) i x) Q E s:=by
 have hm:=xW hd (·.setIfInBounds i x);refine LV ho hd hi (hq _ (fun b n=>Lw _ _ (Ne.symm n)) ?_);have:=Lz (Obj.mapFields (·.setIfInBounds i x)) ho (Mh (Lr hd _));rw[hm] at this;exact this
theorem kg{T:Addr}{fl:Value}{oe oT:Obj}{vs ts:Array Value}{Q:Unit->Shared->Prop}(he:s.heap.get? e=some oe)(hd:oe.data=.fields vs)(h1:vs[1]?=some (.ref T))(hne:T≠e)(hT:s.heap.get? T=some oT)(hdT:oT.data=.fields ts)(h3:ts[3]?=some fl)
  (hq:∀ h':Heap,(∀ b,b≠T->h'.get? b=s.heap.get? b)->h'.get? T=some {oT with data:=.fields (ts.setIfInBounds 3 .none)}->Q () {s with heap:=h'}):wpAny M A (setFlight (.ref e) none) Q E s:=by
 unfold setFlight;refine IT (JA he hd h1 ?_);rw[Ja (by simp)]
 exact lU hT hdT (J_.mp h3).1 hq
theorem sf{oe:Obj}{vs:Array Value}{head:Value}{hn:Bool}{Q:Unit->Shared->Prop}(hfr:A.frames=some (env::outer))(hf:env.frame=some L)(hl:s.heap.FunFrames base (env::outer))(he:s.heap.get? e=some oe)(hd:oe.data=.fields vs)(hsz:1<vs.size)
  (hq:∀(h':Heap) (T':Addr) (oT:Obj) (ts:Array Value),(∀ b o,b≠e->b∉ik (env::outer)->s.heap.get? b=some o->h'.get? b=some o)->(∀ b o,b∈ik (env::outer)->s.heap.get? b=some o->∃ sl,h'.get? b=some {o with slots:=sl}) ->
   s.heap.get? T'=none->h'.get? e=some {oe with data:=.fields (vs.setIfInBounds 1 (.ref T'))}->h'.get? T'=some oT->oT.data=.fields ts->ts[3]?=some (rawInt L)->T'≠e->T'∉ik (env::outer)->Q () {s with heap:=h'}) :
  wpAny M A (frameOf env >>= fun a=>entryPlaceOf L hn >>= fun pl=>EntryCells.newEntry head a .none (rawInt L) .none pl >>= fun b=>setField (.ref e) 1 b) Q E s:=by
 have nfe:e∉ik (env::outer):=fun m=>by
  obtain⟨_,o,ho,hnf⟩:=hl.mem m;rw[he] at ho;cases ho;exact hnf vs hd
 refine IT (wpAny_frameOf_fun hfr hl hf fun h1 hs=>?_);obtain⟨hs1,hs2,hs3⟩:=hs;refine IT (wpAny_entryPlaceOf fun pl hpl=>?_);unfold EntryCells.newEntry newFields;refine IT (JP ?_ (hpl.sizeOk5 _ _ _ _ _));have e1:h1.get? e=some oe:=(hs2 e nfe).trans he;have hsize:∀ b o,h1.get? b=some o->b≠h1.objs.size:=fun b o q=>Jq (Jc q);refine lU (IU _ e1) hd hsz fun h2 k1 k2=>?_;have nfT:h1.objs.size∉ik (env::outer):=fun m=>by
  obtain⟨_,o,ho,_⟩:=hl.mem m;obtain⟨sl,q⟩:=hs3 _ o ho;exact hsize _ _ q rfl
 refine hq h2 h1.objs.size _ _ (fun b o n1 n2 q=>?_) (fun b o m q=>?_) ?_ k2 ((k1 _ (Ne.symm (hsize _ _ e1))).trans (Je h1 rfl)) rfl ?_ (Ne.symm (hsize _ _ e1)) nfT
 ·rw[k1 b n1];exact IU _ ((hs2 b n2).trans q)
 ·obtain⟨sl,q1⟩:=hs3 b o q;exact⟨sl,(k1 b fun z=>nfe (by rw[<- z];exact m)).trans (IU _ q1)⟩
 ·cases q:s.heap.get? h1.objs.size with
  |none=>rfl
  |some o =>
   obtain⟨sl,q1⟩:=hs3 _ o q;exact absurd rfl (hsize _ _ q1)
 ·rcases hpl with rfl|⟨_,_,_,_,_,_,_,rfl⟩<;>simp
theorem xR{Q:Unit->Shared->Prop}(hfr:A.frames=some (env::outer))(hf:env.frame=some L)(hl:s.heap.FunFrames base (env::outer))(f:Fl s.heap e cls d To)
  (hq:∀ h' T',Mv s.heap h' e To (ik (env::outer)) T'->Fl h' e cls d (some T')->Q () {s with heap:=h'}):wpAny M A (noteFrame (.ref e) env) (fun _ s2=>wpAny M A (setFlight (.ref e) none) Q E s2) E s:=by
 unfold noteFrame;simp only[hf]
 cases To with
 |none =>
  obtain⟨oe,vs,g1,g2,g3,g4,g5⟩:=id f;have hsz:=(J_.mp g5).1;refine IT (JA g1 g4 g5 ?_);rw[IY (by decide)]
  refine sf hfr hf hl g1 g4 hsz fun h1 T' oT ts k1 k2 k3 k4 k5 k6 k7 k8 k9=>?_;refine kg (s:={s with heap:=h1}) k4 rfl (by simp[hsz]) k8 k5 k6 k7 fun h2 j1 j2=>?_
  have nT:∀ b o,s.heap.get? b=some o->b≠T':=fun b o q z=>by rw[z,k3] at q;cases q
  refine hq h2 T' ⟨fun b o n1 _ n3 q=>?_,fun b o m q=>?_,.inl k3,k9⟩ ⟨_,_,_,_,(j1 e (Ne.symm k8)).trans k4,g2,g3,rfl,by simp[hsz],k8,j2,rfl,?_⟩
  ·exact (j1 b (nT b o q)).trans (k1 b o n1 n3 q)
  ·obtain⟨sl,q1⟩:=k2 b o m q;exact⟨sl,(j1 b (nT b o q)).trans q1⟩
  ·have:=(J_.mp k7).1;simp[this]
 |some T =>
  obtain⟨oe,vs,oT,ts,g1,g2,g3,g4,g5,g6,g7,g8,g9⟩:=id f;have hsz:=(J_.mp g5).1;have nfT:=f.Az hl;refine IT (JA g1 g4 g5 ?_);rw[Ja (by simp)]
  refine IT (JA g7 g8 g9 ?_);rw[IY (by simp[rawInt])]
  refine IT (lU g7 g8 (J_.mp g9).1 fun h0 i1 i2=>?_);have hl0:h0.FunFrames base (env::outer):=hl.of_keeps fun b o q hn=>⟨o,(i1 b fun z=>by rw[z,g7] at q;cases q;exact hn ts g8).trans q,rfl⟩
  refine sf (s:={s with heap:=h0}) hfr hf hl0 ((i1 e (Ne.symm g6)).trans g1) g4 hsz fun h1 T' oT' ts' k1 k2 k3 k4 k5 k6 k7 k8 k9=>?_
  refine kg (s:={s with heap:=h1}) k4 rfl (by simp[hsz]) k8 k5 k6 k7 fun h2 j1 j2=>?_
  have nTT:T'≠T:=fun z=>by
   have k3':h0.get? T'=none:=k3;rw[z,i2] at k3';cases k3'
  have nT:∀ b o,s.heap.get? b=some o->b≠T':=fun b o q z=>by
   have k3':h0.get? T'=none:=k3;rw[<- z] at k3';by_cases z2:b=T
   ·exact nTT (z.symm.trans z2)
   ·rw[i1 b z2,q] at k3';cases k3'
  refine hq h2 T' ⟨fun b o n1 n2 n3 q=>?_,fun b o m q=>?_,.inl ?_,k9⟩ ⟨_,_,_,_,(j1 e (Ne.symm k8)).trans k4,g2,g3,rfl,by simp[hsz],k8,j2,rfl,?_⟩
  ·exact (j1 b (nT b o q)).trans (k1 b o n1 n3 ((i1 b (n2 T rfl)).trans q))
  ·have nbT:b≠T:=fun z=>nfT (by rw[<- z];exact m)
   obtain⟨sl,q1⟩:=k2 b o m ((i1 b nbT).trans q);exact⟨sl,(j1 b (nT b o q)).trans q1⟩
  ·exact (i1 T' nTT).symm.trans k3
  ·have:=(J_.mp k7).1;simp[this]
theorem sG{Q:Unit->Shared->Prop}(hfr:A.frames=some (env::outer))(hf:env.frame=some L)(hl:s.heap.FunFrames base (env::outer))(f:Fl s.heap e cls d To)
  (hq:∀ h' T',Mv s.heap h' e To (ik (env::outer)) T'->Fl h' e cls d (some T')->Q () {s with heap:=h'}):wpAny M A (leaving env (.ref e)) Q E s:=by
 unfold leaving;exact IT (xR hfr hf hl f hq)
end
theorem dU.wQ(x:dU P w H h)(k:∀ b u,h.get? b=some u->h'.get? b=some u)(hn:H a=none)(new:aJ P w (upd H a o) h' a o):dU P w (upd H a o) h':=fun b u e=>by
 by_cases z:b=a
 ·subst z;rw[ai] at e;cases e;exact new
 ·rw[af z] at e;exact (x b u e).iL (fun c v _ q=>k c v q) (fun c q=>by rw[af (ax q hn)];exact q) (fun c xs q=>by rw[af (ax q hn)];exact q) fun c _ _ q=>by rw[af (ax q hn)];exact q
theorem Un.wQ{fs:List Addr}(k:∀ b u,h.get? b=some u->h'.get? b=some u)(h0:h.get? a=none)(hn:H a=none):Un fs ex H (upd H a o) h h' where
 keep:=fun b u q _ _ _=>k b u q
 slot:=fun b u q _ _ _=>⟨u.slots,k b u q⟩
 free:=fun b u q n _=>by rw[af (fun z=>by rw[z,h0] at q;cases q)];exact n
 there:=fun b u q _=>⟨u,k b u q⟩
 jD:=fun b xs q=>by rw[af (ax q hn)];exact q
 gq:=fun b u xs q=>by rw[af (ax q hn)];exact q
 gr:=fun b ps q=>⟨#[],by rw[af (ax q hn),q];simp⟩
theorem dU.none_of(x:dU P w H h)(e:h.get? a=none):H a=none:=by
 cases q:H a with
 |none=>rfl
 |some u =>
  have:=x a u q;obtain⟨o,ho⟩:∃ o,h.get? a=some o:=by
   clear q
   induction u with
   |lst xs=>obtain⟨_,_,_,_,z⟩:=this;exact⟨_,z⟩
   |tup xs=>obtain⟨_,_,_,o,z,_⟩:=this;exact⟨_,z⟩
   |dK kvs=>obtain⟨_,_,_,_,o,_,_,z,_⟩:=this;exact⟨_,z⟩
   |dT kvs=>obtain⟨_,_,_,_,o,_,_,z,_⟩:=this;exact⟨_,z⟩
   |set S n=>obtain⟨o,_,_,_,z,_⟩:=this;exact⟨_,z⟩
   |ins C dx fs=>obtain⟨_,_,_,z,_⟩:=this;exact⟨_,z⟩
   |own x=>exact this
   |xd fs=>obtain⟨_,⟨o,_,_,z,_⟩,_⟩:=this;exact⟨_,z⟩
   |met f x=>exact⟨_,this⟩
   |dN lo hi=>obtain⟨_,_,_,z⟩:=this;exact⟨_,z⟩
   |dk o u ih=>exact⟨_,this.1⟩
   |rY ps=>obtain⟨_,z,_⟩:=this;exact⟨_,z⟩
   |ext φ=>exact this.2.1
  rw[e] at ho;cases ho
theorem dU.moved{e T':Addr}{d:Option Addr}{fs:List Addr}(x:dU P w H h)(mv:Mv h h' e To fs T')(f':jK e cls d h')(he:H e=some (.ext (jK e cls d)))(hT:∀ T,To=some T->H T=none)(hf:∀ b∈fs,H b=none):dU P w H h':=fun b u q=>by
 by_cases z:b=e
 ·subst z;rw[he] at q;cases q;exact f'.ok
 ·refine (x b u q).iL (fun c v hc r=>?_) (fun _ q=>q) (fun _ _ q=>q) fun _ _ _ q=>q;have tr:∃ o,H c=some o:=by
   rcases hc with rfl|hc
   ·exact⟨u,q⟩
   ·exact⟨_,hc⟩
  obtain⟨o,tr⟩:=tr;refine mv.keep c v (fun z2=>?_) (fun T hT' z2=>?_) (fun m=>?_) r
  ·rcases hc with rfl|hc
   ·exact z z2
   ·rw[z2,he] at hc;cases hc
  ·rw[z2,hT T hT'] at tr;cases tr
  ·rw[hf c m] at tr;cases tr
section
variable {X:Cx} {pins:List (Addr×Obj)} {σ:St} {H H':Hp} {s:Shared} {h':Heap}
theorem Inv.Em{ch:List Addr}(I:Inv X pins σ H s)
  (hch:∀ b∈ch,X.s₀.heap.get? b=none/\b≠X.env.locals/\(∀ x c,X.env.cells.lookup x=some c->c≠b)/\∀ p∈X.pn++pins,p.1≠b)
  (keep:∀ b o,b≠X.env.locals->b∉X.fs->b∉ch->s.heap.get? b=some o->H b=none->h'.get? b=some o)
  (slot:∀ b o,b≠X.env.locals->b∈X.fs->b∉ch->s.heap.get? b=some o->H b=none->∃ sl,h'.get? b=some {o with slots:=sl})
  (there:∀ b o,b∉ch->s.heap.get? b=some o->∃ o',h'.get? b=some o')
  (ns:∀ m,s.heap.Ns X.env.locals m->h'.Ns X.env.locals m) (aO:dU X.prog X.w H h') :
  Inv X pins σ H {s with heap:=h'}:=by
 have neL:∀ b o,X.s₀.heap.get? b=some o->b≠X.env.locals:=fun b o e=>Jq (Ju (Jc e) I.ok.above);have neC:∀ b o,X.s₀.heap.get? b=some o->b∉ch:=fun b o e hb=>by rw[(hch b hb).1] at e;cases e
 have cellK:∀ x c,X.env.cells.lookup x=some c->∀ v,s.heap.IsCell c v->h'.IsCell c v:=fun x c e v ⟨o,ho,hd⟩=>by
  have nch:c∉ch:=fun z=>(hch c z).2.2.1 x c e rfl;by_cases hc:c∈X.fs
  ·obtain⟨sl,q⟩:=slot c o (I.yK x c e) hc nch ho (I.dc x c e);exact⟨_,q,hd⟩
  ·exact⟨o,keep c o (I.yK x c e) hc nch ho (I.dc x c e),hd⟩
 refine⟨I.ok,I.os,I.bare,⟨fun b o e n hb hx=>?_,fun b o e n hb hx=>?_,I.base.free,fun b o e hx=>?_,I.base.jD,I.base.gq,I.base.gr⟩,?_,fun x c e=>?_,I.free,I.dc,fun p hp=>?_,aO,I.len⟩
 ·exact keep b o (neL b o e) hb (neC b o e) (I.base.keep b o e n hb hx) (I.base.free b o e n hx)
 ·obtain⟨sl,e1⟩:=I.base.slot b o e n hb hx;obtain⟨sl',e2⟩:=slot b _ (neL b o e) hb (neC b o e) e1 (I.base.free b o e n hx);exact⟨sl',e2⟩
 ·obtain⟨o',e1⟩:=I.base.there b o e hx;exact there b o' (neC b o e) e1
 ·obtain⟨m,hn,hl⟩:=I.loc;refine⟨m,ns m hn,fun i x v e1 e2 e3=>?_⟩;obtain⟨u,r,l⟩:=hl i x v e1 e2 e3;refine⟨u,r,?_⟩;rcases l with l|⟨k,c,e,z⟩
  ·exact .inl l
  ·exact .inr ⟨k,c,e,cellK x c e _ z⟩
 ·obtain⟨v,z⟩:=I.cell x c e;exact⟨v,cellK x c e v z⟩
 ·obtain⟨e,n,ne,nf,d⟩:=I.pin p hp;have nch:p.1∉ch:=fun z=>(hch p.1 z).2.2.2 p hp rfl;exact⟨keep p.1 p.2 ne nf nch e n,n,ne,nf,d⟩
structure Nw (X:Cx) (pins:List (Addr×Obj)) (H:Hp) (e:Addr) (cls:Value) (d To:Option Addr):Prop where
 tr:H e=some (.ext (jK e cls d))
 e0:X.s₀.heap.get? e=none
 d0:∀ a,d=some a->X.s₀.heap.get? a=none
 t0:∀ T,To=some T->H T=none/\X.s₀.heap.get? T=none/\∀ p∈X.pn++pins,p.1≠T
theorem Inv.moved{e T':Addr}{d:Option Addr}(I:Inv X pins σ H s)(hex:X.ex=[])(f:Fl s.heap e cls d To)(nw:Nw X pins H e cls d To)(mv:Mv s.heap h' e To (ik X.stack) T')(f':Fl h' e cls d (some T')):
  Inv X pins σ H {s with heap:=h'}/\Nw X pins H e cls d (some T'):=by
 have hfr:=I.i4;have teT:∀ T o,To=some T->s.heap.get? T=some o->T∉ik X.stack:=fun T o hT _=>by subst hT;exact f.Az I.stack
 have hne:∀ b o,s.heap.get? b=some o->H b=none->b≠e:=fun b o _ n z=>by rw[z,nw.tr] at n;cases n
 refine⟨I.Em (ch:=To.toList) (fun b hb=>?_) (fun b o hL hb hc q n=>?_) (fun b o _ hb hc q n=>?_) (fun b o hc q=>?_) (fun m hm=>?_) (I.aO.moved mv f'.is nw.tr (fun T hT=>(nw.t0 T hT).1) hfr),nw.tr,nw.e0,nw.d0,fun T hT=>?_⟩
 ·cases To with
  |none=>cases hb
  |some T =>
   have:b=T:=by simpa using hb
   subst this;obtain⟨h1,h2,h3⟩:=nw.t0 b rfl;obtain⟨_,_,oT,ts,_,_,_,_,_,_,hT,hdT,_⟩:=f;refine⟨h2,fun z=>?_,fun x c hc z=>?_,h3⟩
   ·obtain⟨m,⟨o,es,ep,ho,hd,_⟩,_⟩:=I.loc;rw[<- z,hT] at ho;cases ho;rw[hdT] at hd;cases hd
   ·obtain⟨v,o,ho,hd⟩:=I.cell x c hc;rw[z,hT] at ho;cases ho;rw[hdT] at hd;cases hd
 ·refine mv.keep b o (hne b o q n) (fun T hT z=>hc (by rw[hT,z];simp)) (fun m=>?_) q
  exact (Jg.mp (I.j8 b m)).elim hL hb
 ·by_cases m:b∈ik X.stack
  ·exact mv.slot b o m q
  ·exact⟨o.slots,mv.keep b o (hne b o q n) (fun T hT z=>hc (by rw[hT,z];simp)) m q⟩
 ·by_cases z:b=e
  ·obtain⟨o',_,q',_⟩:=f'.is;exact⟨o',by rw[z];exact q'⟩
  ·by_cases m:b∈ik X.stack
   ·obtain⟨sl,q2⟩:=mv.slot b o m q;exact⟨_,q2⟩
   ·exact⟨o,mv.keep b o z (fun T hT z=>hc (by rw[hT,z];simp)) m q⟩
 ·obtain⟨o,es,ep,ho,r⟩:=hm;have n:=I.free;by_cases mm:X.env.locals∈ik X.stack
  ·obtain⟨sl,q2⟩:=mv.slot _ o mm ho;exact⟨_,es,ep,q2,r⟩
  ·refine⟨o,es,ep,mv.keep _ o (hne _ o ho n) (fun T hT z=>?_) mm ho,r⟩;subst hT;obtain⟨_,_,oT,ts,_,_,_,_,_,_,hT,hdT,_⟩:=f;rw[z,hT] at ho;cases ho;obtain⟨hd,_⟩:=r;rw[hdT] at hd;cases hd
 ·cases hT;rcases mv.new.1 with q|q
  ·refine⟨I.aO.none_of q,?_,fun p hp z=>?_⟩
   ·cases q2:X.s₀.heap.get? T' with
    |none=>rfl
    |some o =>
     obtain⟨o',q3⟩:=I.base.there T' o q2 (by rw[hex];simp)
     rw[q] at q3;cases q3
   ·rw[<- z,(I.pin p hp).1] at q;cases q
  ·exact nw.t0 T' q
def tm(X:Cx)(cls:Value)(d:Option Addr)(e:Addr)(σ:St)(H:Hp):Prop:=∀(pins:List (Addr×Obj)) (s:Shared) (To:Option Addr),Inv X pins σ H s->Fl s.heap e cls d To->Nw X pins H e cls d To->X.xe (.ref e) s
def mK(P:Program)(w:World):mC:=fun outer H s E x s'=>∃(e T:Addr) (cls:Value) (d:Option Addr) (H':Hp),x=.ref e/\s'.os=s.os/\AllBare s'.gens/\Un (ik outer) [] H H' s.heap s'.heap/\dU P w H' s'.heap/\Fl s'.heap e cls d (some T)/\s.heap.get? e=none/\(∀ a,d=some a->s.heap.get? a=none)/\s.heap.get? T=none/\H' e=some (.ext (jK e cls d))/\H' T=none/\E cls (some e) H'
end
theorem wy{base:Heap}{cd:Value}{outer:List Env}{s0:Shared}{H0:Hp}{E:XK}{d:Option Addr}{e:Addr}(hE:E cls (some e) H):
  tm (fR (mK P w) P w K mg base N qual scope f cd A outer s0 H0 E) cls d e σ H:=by
 intro pins s To I fl nw;refine sG (base:=base) I.ok.frames rfl I.stack fl fun h' T' mv f'=>?_;obtain⟨I2,nw2⟩:=I.moved rfl fl nw mv f';exact⟨e,T',cls,d,H,rfl,I.os,I.bare,I2.base,I2.aO,f',nw.e0,nw.d0,(nw2.t0 T' rfl).2.1,nw.tr,(nw2.t0 T' rfl).1,hE⟩
section
variable {X:Cx}
def FP(X:Cx)(σ:St)(H:Hp):XK:=fun cls de H'=>∃(e:Addr) (d:Option Addr),de=some e/\H' e=some (.ext (jK e cls d))/\(H e=none->(∀ a,d=some a->H a=none)->tm X cls d e σ H')
def Dq(X:Cx)(sp:Sp)(t:TA):TE:=fun σ H Q=>t σ H fun vs H1=>sp vs H1 Q (FP X σ H1)
theorem Cv{k:Nat}{p:Pos}{t:TA}(F:ah X.prog X.w X.K X.mg X.base (mK X.prog X.w) k x ps sp)(hr:bU k X.A)(hg:Gl X x)(hex:X.ex=[])(ha:PA X (e::es) t)(h1:cN e=true:=by rfl)(h2:es.all cN=true:=by rfl)(hdb:(x ==("__debug__":Str))=false:=by decide):
  PE X (.Call (.Name x p) (e::es) [] pos) (Dq X sp t):=by
 intro pins s σ H Q I h;obtain⟨f,fd,hm,hk,hb,G⟩:=F.ex;refine K6 (my I hg hm ?_ hdb);refine PySem.W.callWith_K (h₀:=X.base) I.ok.mod.y_ hk (b9 (ha pos pins s σ H _ I h) fun us s1 ⟨vs,H1,I1,r,q⟩=>⟨I1.hW,?_⟩) (cA h1) (plain_any h2);have hl:us.length=ps.length:=by rw[<- r.length];exact G.len _ _ _ _ q
 have hb2:=hb s1 us I1.hW (by rw[J7];exact hl)
 rw[J7] at hb2;refine NU (LP (G.run X.A X.stack s1 H1 ⟨us,[]⟩ us vs Q (FP X σ H1) hr I1.El hb2 r q) fun r s' hq=>?_)
 cases r with
 |error e =>
  obtain⟨ea,T,cls,d,H',rfl,ho,hbare,un,aO,fl,n1,n3,n2,tr,nT,ea',d',hea,tr',hd⟩:=hq;cases hea;obtain⟨_,rfl⟩:=fl.is.one (show jK ea cls d' s'.heap from (aO _ _ tr').1);have I2:=I1.A8 (ch:=[]) ho un aO hbare (fun b z=>absurd z (by simp))
  have n0:∀ b,s1.heap.get? b=none->X.s₀.heap.get? b=none:=fun b z=>by
   cases q2:X.s₀.heap.get? b with
   |none=>rfl
   |some o =>
    obtain⟨o',q3⟩:=I1.base.there b o q2 (by rw[hex];simp)
    rw[z] at q3;cases q3
  exact hd (I1.aO.none_of n1) (fun a z=>I1.aO.none_of (n3 a z)) pins s' (some T) I2 fl ⟨tr,n0 _ n1,fun a z=>n0 _ (n3 a z),fun T' hT=>by
   cases hT;exact⟨nT,n0 _ n2,fun p hp z=>by rw[<- z,(I1.pin p hp).1] at n2;cases n2⟩⟩
 |ok fl =>
  cases fl with
  |ret u=>exact I1.after hq
  |next=>exact False.elim hq
  |brk=>exact False.elim hq
  |cont=>exact False.elim hq
structure tE (K:Oe) (C:Addr):Prop where
 q:PySem.W.excIn K C [.type "ValueError",.type "Exception",.type "BaseException",.type "object"] "ValueError.__new__"=true
theorem tE.obj{C:Addr}(c:tE K C):∃ bm N nm qn bs hd sn sub ab col dd k0 k1 k2 k3 k5,K.lookup C=some (excClassObj nm qn C N bs bm hd sn sub ab col dd k0 k1 k2 k3 k5 "ValueError.__new__") /\
  (∀ h:Heap,K.In h->OwnTail h [.type "ValueError",.type "Exception",.type "BaseException",.type "object"] bm)/\(∃ oN,K.lookup N=some oN)/\∀ h:Heap,K.In h->∃ mN,h.Ns N mN/\mN "__init__"=none:=by
 have q:=c.q;unfold PySem.W.excIn at q
 split at q
 ·rename_i dd cd sl ho
  split at q
  ·rename_i C2 bm k0 k1 k2 k3 nw k5 hm hs;simp only[beq_iff_eq,Bool.not_eq_true',Bool.and_eq_true] at q;obtain⟨⟨⟨⟨⟨z1,z2⟩,z3⟩,z4⟩,z5⟩,z6⟩:=q;subst z1;subst z2;obtain⟨nm,bs,mr,ns,qn,hd,sn,sub,ab,col,dl⟩:=cd;dsimp only at hm z3 z5 z6 ho;subst hm;subst z3;obtain⟨l⟩:=sl;have hs':l=[k0,k1,k2,k3,some (.builtin "ValueError.__new__"),k5]:=hs;subst hs';refine⟨bm,ns,nm,qn,bs,hd,sn,sub,ab,col,dd,k0,k1,k2,k3,k5,ho,fun h y_=>PySem.W.tail_of_in y_ z4,?_,fun h y_=>⟨_,.of_isNs (PySem.W.isNs_of_in y_ z5),PySem.W.nsMap_none_of_in y_ z5 z6⟩⟩;unfold PySem.W.nsOkIn at z5
   split at z5
   ·rename_i hN;exact⟨_,hN⟩
   ·cases z5
  ·cases q
 ·cases q
def CF(X:Cx)(C:Addr)(t:TA):TS:=fun D σ H=>t σ H fun vs H1=>vs.length<=sizeLine/\∀ e,H1 e=none->tm X (.ref C) none e σ (upd H1 e (.ext (jK e (.ref C) none)))
theorem wm{C:Addr}{np:Pos}{t:TA}(hg:Gl X x)(hm:X.mg x=some (.ref C))(hk:tE X.K C)(hc:X.calm=true)(hex:X.ex=[])(ha:PA X (e::es) t)(h1:cN e=true:=by rfl)(h2:es.all cN=true:=by rfl)(hdb:(x ==("__debug__":Str))=false:=by decide):
  PS X (.Raise (some (.Call (.Name x np) (e::es) [] cpos)) none pos) (CF X C t):=by
 intro pins s σ H D I h;obtain⟨bm,N,nm,qn,bs,hd,sn,sub,ab,col,dd,k0,k1,k2,k3,k5,lk,tl,⟨oN,lN⟩,hns⟩:=hk.obj;obtain⟨mN,hN,hni⟩:=hns s.heap I.hW;have FB:=PySem.F.excBase_ValueError;have hstar:starEach (e::es) X.env=(false,eval e X.env)::starEach es X.env:=cA h1;refine wpAny_Raise_call_subU (C:=C) (nm:=nm) (q:=qn) (N:=N) (bs:=bs) (bm:=bm) (hdct:=hd) (sn:=sn) (sub:=sub) (ab:=ab) (col:=col) (dd:=dd) (k0:=k0) (k1:=k1) (k2:=k2) (k3:=k3) (k5:=k5) FB FB.hasB FB (mN:=mN) ((tl s.heap I.hW).hasType FB.hasBase) (I.ok.hd hc) ?_ hni (my I hg hm ⟨rfl,?_⟩ hdb)
 ·rw[hstar];show (false || (backTo cpos (starEach es X.env)).any (·.1))=false;rw[plain_any h2];rfl
 ·have hp:=ha cpos pins s σ H _ I h;rw[hstar] at hp ⊢;refine Mn (JW hp (fun us s2 ⟨vs,H1,I1,r,hl,q⟩=>?_) fun _ _ y=>y);refine⟨rfl,by rw[<- r.length];exact hl,I1.hW _ _ lk,?_,tl _ I1.hW,fun h' ea hm2=>?_⟩
  ·obtain⟨o,es',ep,ho,rr⟩:=hN;have z1:=I.hW _ _ lN;rw[ho] at z1;cases z1;exact⟨_,es',ep,I1.hW _ _ lN,rr⟩
  ·have hne:=I1.aO.none_of hm2.new;obtain⟨tt,g1,g2,g3⟩:=hm2.there;have fl:Fl h' ea (.ref C) none none:=⟨_,_,g1,rfl,rfl,rfl,rfl⟩;have I2:Inv X pins σ (upd H1 ea (.ext (jK ea (.ref C) none))) {s2 with heap:=h'}:=I1.un (t':=s2.toks) (Un.wQ hm2.keeps hm2.new hne) (I1.aO.wQ hm2.keeps hne fl.is.ok)
   refine q ea hne pins _ none I2 fl ⟨ai,?_,(fun a z=>by cases z),fun T z=>by cases z⟩
   cases q2:X.s₀.heap.get? ea with
   |none=>rfl
   |some o =>
    obtain⟨o',q3⟩:=I1.base.there ea o q2 (by rw[hex];simp)
    rw[hm2.new] at q3;cases q3
end
def XH(H:Hp)(e:Addr)(x:T)(cls:Value)(d:Option Addr):Prop:=H e=some (.ext (jK e cls d))/\match x with
 |.exc c none=>c=cls/\d=none
 |.exc c (some (n,i))=>c=cls/\∃ a,d=some a/\H a=some (.xd [(n,.int i)])
 |_=>False
abbrev Xw:=T->Mu->Prop
abbrev D9:=Value->Option Addr->Addr->St->Hp->Prop
abbrev UX:=Mu->(R->Mu->Prop)->Xw->Prop
abbrev lx:=Ed->Xw->Mu->Prop
def t6(F:Fx)(B:bf)(H:Hp)(Dx:D9)(Xt:Xw):Prop:=∀(ad:Nat->Addr) (B':bf) (σ':St) (H':Hp) (μ':Mu) (x:T) (cls:Value) (d:Option Addr) (e:Addr),Rl F ad B' σ' H' μ'->Fr B H B' H'->XH H' e x cls d->¬ B' e->(∀ a,d=some a->¬ B' a)->Xt x μ'->Dx cls d e σ' H'
theorem t6.step{Dx:D9}{Xt:Xw}(h:t6 F B H Dx Xt)(f:Fr B H B1 H1):t6 F B1 H1 Dx Xt:=fun ad B' σ' H' μ' x cls d e l f' tr n1 n2 q=>h ad B' σ' H' μ' x cls d e l (f.trans f') tr n1 n2 q
def RX(K:Oe)(Dx:D9)(te:TE)(ux:UX):Prop:=∀(F:Fx) (ad:Nat->Addr) (B:bf) (σ:St) (H:Hp) (μ:Mu) (Q:VK) (Qt:R->Mu->Prop) (Xt:Xw),F.K=K->Rl F ad B σ H μ->ux μ Qt Xt ->
 (∀ v H' r μ',Vr F ad B σ H' μ' v r->Fr B H (Bv B v r) H'->Kp μ μ'->Qt r μ'->Q v H')->t6 F B H Dx Xt->te σ H Q
def G5(K:Oe)(Dx:D9)(ts:TS)(us:lx):Prop:=∀(F:Fx) (D:Ends) (E:Ed) (Xt:Xw) (ad:Nat->Addr) (B:bf) (σ:St) (H:Hp) (μ:Mu),F.K=K->Rl F ad B σ H μ->us E Xt μ->pZ F B H D E->t6 F B H Dx Xt->ts D σ H
structure YX (X:Cx) (e:Expr) (u:UX):Prop where
 ex:∃ t,QE X e t/\RX X.K (tm X) t u
structure Bb (X:Cx) (st:Stmt) (u:lx):Prop where
 ex:∃ t,QS X st t/\G5 X.K (tm X) t u
structure yn (X:Cx) (sts:List Stmt) (u:lx):Prop where
 ex:∃ t,QB X sts t/\G5 X.K (tm X) t u
namespace Y
section
variable {X:Cx} {a b c e o tg:Expr} {es rest:List Expr} {ua ub uc ue uo:UE} {uA uB:UT} {us:UA} {pos pos' p p2 p3:Pos} {x:Str} {st:Stmt} {sts xs ys:List Stmt} {u w:US} {ux:UX} {uxs wxs:lx}
theorem Ao(h:YS X st u):Bb X st (fun E _ μ=>u E μ):=by
 obtain⟨t,q,r⟩:=h;exact⟨t,q,fun F D E Xt ad B σ H μ hF l q h _=>r F D E ad B σ H μ hF l q h⟩
def ES(u w:lx):lx:=fun E Xt μ=>u {E with nx:=w E Xt} Xt μ
theorem kL(h:Bb X st uxs):yn X [st] uxs:=by obtain⟨t,q,r⟩:=h;exact⟨t,Z.aQ q,r⟩
theorem FA:yn X [] (fun E _ μ=>E.nx μ):=⟨_,Z.dm,fun F D E Xt ad B σ H μ hK l q h _=>h.nx ad B σ H μ l Fr.refl q⟩
theorem eg(h:Bb X st uxs)(h2:yn X sts wxs):yn X (st::sts) (ES uxs wxs):=by
 obtain⟨t,q,r⟩:=h;obtain⟨t',q',r'⟩:=h2;exact⟨_,Z.ae q q',fun F D E Xt ad B σ H μ hK l q h hX=>r F {D with nx:=t' D} {E with nx:=wxs E Xt} Xt ad B σ H μ hK l q
  ⟨fun ad1 B1 σ1 H1 μ1 l1 f1 q1=>r' F D E Xt ad1 B1 σ1 H1 μ1 hK l1 q1 (h.step f1) (hX.step f1),h.rt,h.bk,h.ct⟩ hX⟩
def tF(ux:UX)(g:UG):lx:=fun E Xt μ=>ux μ (fun r μ'=>g r μ' E.nx) Xt
theorem rN{Dx:D9}{tg:TG}{g:UG}(he:RX K Dx te ux)(hg:RG K tg g):G5 K Dx (iD te tg) (tF ux g):=fun F D E Xt ad B σ H μ hK l q h hX =>
 he F ad B σ H μ _ _ Xt hK l q (fun v H' r μ' v1 f k1 q1=>hg F ad B σ H' μ' v r B H _ _ hK v1 f q1 fun ad' B' σ' H2 μ2 l2 f2 q2=>h.nx ad' B' σ' H2 μ2 l2 f2 q2) hX
theorem Ic(hN:X.N.Nodup)(hi:X.N[i]?=some x)(hx:Loc X.env.scope x)(he:YX X e ux)(hs:Z.AR e=true:=by rfl)(hf:X.fn x=true\/X.env.scope.names.lookup x=some .local:=by first|exact .inl rfl|exact .inr rfl|assumption):
  Bb X (.Assign [.Name x pos'] e pos) (tF ux (gN i)):=by
 obtain⟨t,q,r⟩:=he;exact⟨_,Z.set hN hi hx q hs hf,rN r i9⟩
theorem Bj(hN:X.N.Nodup)(hi:X.N[i]?=some x)(hx:Loc X.env.scope x)(he:YX X e ux)(hs:Z.AR e=true:=by rfl)(hf:X.fn x=true\/X.env.scope.names.lookup x=some .local:=by first|exact .inl rfl|exact .inr rfl|assumption):
  Bb X (.Assign [.Name x pos'] e pos) (tF ux (DV i)):=by
 obtain⟨t,q,r⟩:=he;exact⟨_,Z.set hN hi hx q hs hf,rN r j7⟩
def G2(c:UT)(u w:lx):lx:=fun E Xt μ=>c μ fun b μ'=>if b=true then u E Xt μ' else w E Xt μ'
theorem HG(hc:YT X c uA)(ha:yn X xs uxs)(hb:yn X ys wxs):Bb X (.If c xs ys pos) (G2 uA uxs wxs):=by
 obtain⟨t,q,r⟩:=hc;obtain⟨t1,q1,r1⟩:=ha;obtain⟨t2,q2,r2⟩:=hb;refine⟨_,Z.gZ q q1 q2,fun F D E Xt ad B σ H μ hK l q h hX=>r F ad B σ H μ _ _ hK l q fun b H' μ' l' f k1 qq=>?_⟩
 cases b with
 |true=>exact r1 F D E Xt ad B σ H' μ' hK l' (by simpa using qq) (h.step f) (hX.step f)
 |false=>exact r2 F D E Xt ad B σ H' μ' hK l' (by simpa using qq) (h.step f) (hX.step f)
end
end Y
abbrev vN:=List T->(R->List T->Prop)->(T->Prop)->Prop
def sS(K:Oe)(md:List Bool)(tsp:vN):Sp:=fun vs H Q E=>∃ Et:T->Prop,spT K md (fun args Qt=>tsp args Qt Et) vs H Q E/\∀ x cls d e H',Et x->(∀ b o,H b=some o->b∉jR md vs->H' b=some o)->XH H' e x cls d->E cls (some e) H'
theorem oo:∀{md:List Bool} {vs:List V},md.all (fun b=>!b)=true->jR md vs=[]
 |[],_,_=>rfl
 |true::_,_,h=>by simp at h
 |false::md,[],_=>rfl
 |false::md,v::vs,h=>oo (md:=md) (vs:=vs) (by simpa using h)
namespace Y
theorem zF{md:List Bool}{E:XK}{Q:VK}{Qt:R->Mu->Prop}{rs:List R}(hF:F.K=K)(l1:Rl F ad B σ H1 μ1)(ps:Paired (Hv F ad B H1 μ1) vs rs)(ea:vo μ1 md rs=some args)
  (nd:(gb md rs).Nodup) (dj:∀ j∈gb md rs,j∉gM md rs) (q1:tsp args fun r outs=>(gM md rs=[]\/(nv r=true/\outs.all fZ=true))/\Qt r (putAll (gb md rs) outs μ1))
  (k:∀ v H' r μ',Vr F ad B σ H' μ' v r->Fr B H1 (Bv B v r) H'->Kp μ1 μ'->Qt r μ'->Q v H'):spT K md tsp vs H1 Q E:=by
 have hro:=iE (md:=md) ps;obtain⟨ag,eb,hb⟩:=Ba l1 (gM md rs) ps ea (fun j h=>h) dj hro;rw[hF] at ag;have inj:∀{js:List Nat},js.Nodup->(∀ j∈js,∃(s:Sl) (c:T),μ1[j]?=some s/\s.box=some c)->(js.map ad).Nodup:=fun {js}=>by
  induction js with
  |nil=>exact fun _ _=>Ld
  |cons j js ih =>
   intro nd hb;rw[JD] at nd;rw[Jm,JD];refine⟨fun hm=>?_,ih nd.2 fun i hi=>hb i (Jk _ hi)⟩;obtain⟨i,hi,z⟩:=JM.mp hm;obtain⟨s1,c1,e1,b1⟩:=hb j Jl;obtain⟨s2,c2,e2,b2⟩:=hb i (Jk _ hi);exact nd.1 (l1.inj i j s2 s1 c2 c1 e2 e1 b2 b1 z ▸ hi)
 refine⟨_,args,_,ag,fun b z=>l1.eR b z.1,by rw[eb];exact inj nd hb,q1,fun v H2 r outs hq keep res=>?_⟩
 rw[eb] at keep res;obtain⟨hfl,hq⟩:=hq;have nro:∀{b:Addr},gM md rs=[]->B b->B b/\∀ j∈gM md rs,b≠ad j:=fun {b} z h=>⟨h,fun j hj=>by rw[z] at hj;cases hj⟩
 cases r with
 |br i=>exact res.elim
 |tr t =>
  obtain⟨rv,po⟩:=res;have rv':Rep F.K H2 B v t:=by
   rw[hF];rcases hfl with z|z
   ·exact rv.fr (Fr.less fun b h=>nro z h)
   ·exact rv.flat z.1
  have po':Paired (Bx F.K H2 B) ((gb md rs).map ad) outs:=by
   rw[hF];rcases hfl with z|z
   ·exact Paired.j0 po fun a c h=>h.of rfl (Fr.less fun b h=>nro z h)
   ·exact Paired.nJ po z.2
  obtain⟨l2,k2,f2⟩:=l1.call hb nd keep (fun _ z=>z) (fun _ _ _ z=>z) (fun b z n=>absurd z n) po';exact k v H2 (.tr t) _ ⟨l2,rv'⟩ f2 k2 hq
 |fr c =>
  obtain⟨a,rfl,ha0,nBa,x,po⟩:=res;have nBa':¬ B a:=l1.lZ ha0;have sub:gM md rs=[]->∀ b,more B a b->more (fun b=>B b/\∀ j∈gM md rs,b≠ad j) a b:=fun z b h=>h.imp id fun h=>nro z h;have x':Bx F.K H2 (more B a) a c:=by
   rw[hF];rcases hfl with z|z
   ·exact x.of rfl (Fr.less (sub z))
   ·exact x.flat z.1
  have po':Paired (Bx F.K H2 (more B a)) ((gb md rs).map ad) outs:=by
   rw[hF];rcases hfl with z|z
   ·exact Paired.j0 po fun a' c h=>h.of rfl (Fr.less (sub z))
   ·exact Paired.nJ po z.2
  have po2:Paired (Bx F.K H2 B) ((gb md rs).map ad) outs:=Paired.j0 po' fun a' c h=>h.of rfl (Fr.less fun _ z=>.inr z);obtain⟨l2,k2,f2⟩:=l1.call hb nd keep (fun _ z=>z) (fun _ _ _ z=>z) (fun b z n=>absurd z n) po2;obtain⟨l3,_,f3⟩:=l1.call (B2:=more B a) hb nd keep (fun _ z=>.inr z) (fun b o e n z=>z.elim (fun z=>by rw[z,ha0] at e;cases e) n) (fun b z n=>z.elim (fun z=>by rw[z];exact x'.eR) fun z=>absurd z n) po'
  exact k _ H2 (.fr c) _ ⟨l2,a,rfl,nBa',l1.zZ ha0,l3,x'⟩ f3 k2 hq
def Gu(md:List Bool)(tsp:vN)(us:UA):UX:=fun μ Q Xt=>us μ fun rs μ1=>match vo μ1 md rs with
 |some args=>(gb md rs).Nodup/\(∀ j∈gb md rs,j∉gM md rs)/\tsp args (fun r outs=>(gM md rs=[]\/(nv r=true/\outs.all fZ=true))/\Q r (putAll (gb md rs) outs μ1)) (fun x=>Xt x μ1)
 |none=>False
theorem Ia{p:Pos}{k:Nat}{tsp:vN}(K:Oe)(hK:X.K=K)(F:ah X.prog X.w X.K X.mg X.base (mK X.prog X.w) k x ps (sS K md tsp))(hr:bU k X.A)(hg:Gl X x)(hex:X.ex=[])(ha:YA X (e::es) us)(h1:cN e=true:=by rfl)(h2:es.all cN=true:=by rfl)(hdb:(x ==("__debug__":Str))=false:=by decide)(hmd:md.all (fun b=>!b)=true:=by rfl):
  YX X (.Call (.Name x p) (e::es) [] pos) (Gu md tsp us):=by
 obtain⟨t,q,r⟩:=ha;subst hK;refine⟨_,⟨Cv F hr hg hex q.h h1 h2 hdb⟩,fun F ad B σ H μ Q Qt Xt hF l q k hX=>?_⟩;refine r F ad B σ H μ _ _ hF l q fun vs H1 rs μ1 l1 ps f1 k1 q1=>?_
 split at q1
 ·rename_i args ea;obtain⟨nd,dj,q1⟩:=q1;refine⟨fun x=>Xt x μ1,zF (tsp:=fun args Qt=>tsp args Qt fun x=>Xt x μ1) hF l1 ps ea nd dj q1 fun v H' r μ' w f k2 q2=>k v H' r μ' w (f1.trans f) (k1.trans k2) q2,fun x cls d e H' he keep tr=>⟨e,d,rfl,tr.1,fun ne nd=>?_⟩⟩;have sm:cq H1 H':=fun b o z=>keep b o z (by rw[oo hmd];simp)
  exact hX ad B σ H' μ1 x cls d e (l1.same sm) (f1.trans (Fr.same sm)) tr (l1.lZ ne) (fun a z=>l1.lZ (nd a z)) he
 ·exact q1.elim
def me(C:Addr)(us:UA):lx:=fun _ Xt μ=>us μ fun rs μ'=>rs.length<=10/\Xt (.exc (.ref C) none) μ'
theorem Ck{C:Addr}{np:Pos}(hg:Gl X x)(hm:X.mg x=some (.ref C))(hk:tE X.K C)(hc:X.calm=true)(hex:X.ex=[])(ha:YA X (e::es) us)(h1:cN e=true:=by rfl)(h2:es.all cN=true:=by rfl)(hdb:(x ==("__debug__":Str))=false:=by decide):
  Bb X (.Raise (some (.Call (.Name x np) (e::es) [] cpos)) none pos) (me C us):=by
 obtain⟨t,q,r⟩:=ha;refine⟨_,⟨wm hg hm hk hc hex q.h h1 h2 hdb⟩,fun F D E Xt ad B σ H μ hF l q h hX=>?_⟩;refine r F ad B σ H μ _ _ hF l q fun vs H1 rs μ1 l1 ps f1 k1 q1=>⟨by rw[ps.length];exact Jj q1.1 (by decide),fun ea hn=>?_⟩
 have sm:cq H1 (upd H1 ea (.ext (jK ea (.ref C) none))):=cq.new hn;exact hX ad B σ _ μ1 (.exc (.ref C) none) (.ref C) none ea (l1.same sm) (f1.trans (Fr.same sm)) ⟨ai,rfl,rfl⟩ (l1.lZ hn) (fun a z=>by cases z) q1.2
end Y
def wu(K:Oe)(mg:Str->Option Value)(x:Str)(f:Addr)(cdv:Value):Prop:=mg x=some (.ref f)/\∃(o:Obj) (fd:FuncData),K.lookup f=some o/\o.data=.func fd/\fd.code=cdv
theorem HasFn.Cq{N:List Str}{k:Nat}{tsp:vN}(F:HasFn K mg x st ps)(S:az N ps (aa st))(md:List Bool)(hmd:md.all (fun b=>!b)=true)(hm:md.length=ps.length)(hN:md.length<=N.length)
  (hbody:∀(args:List T) (Qt:R->List T->Prop) (Et:T->Prop),args.length=ps.length->tsp args Qt Et->∀(f:Addr) (cdv:Value) (A:Around) (outer:List Env) (s:Shared) (H:Hp) (E:XK),bU k (A.deeper (envOfC x (aa st) s.heap.objs.size f cdv))->wu K mg x f cdv ->
   ∃ us,yn (fR (mK P w) P w K mg base N x (aa st) f cdv A outer s H E) (aw st) us/\us (uJ md Qt) (fun x _=>Et x) (startM md args N.length)):ah P w K mg base (mK P w) (k+1) x ps (sS K md tsp):=by
 obtain⟨f,fd,F1,bnd,m⟩:=F.ex;obtain⟨oc,od,kV,doc,pm,an,cdv,ct,osl,rfl,lk,hcd⟩:=F1.ex;refine⟨f,_,m,F1.kp,bnd,A0 (CX:=mK P w) lk hcd S (fun vs H Q E h=>?_) (fun A outer s H vs Q E hr h=>?_)⟩
 ·obtain⟨Et,⟨B,args,Qt,ag,_⟩,_⟩:=h;rw[ag.len.1,hm]
 ·obtain⟨Et,⟨B,args,Qt,ag,bh,nd,ht,fin⟩,hE⟩:=h;obtain⟨us,⟨t,q,r⟩,hu⟩:=hbody args Qt Et (by rw[ag.len.2,hm]) ht f cdv A outer s H E hr ⟨m,_,_,lk,rfl,rfl⟩
  refine⟨t,q.h,?_⟩;have l0:=iP (N:=N) ag bh nd hN;have outs:∀ ad' B' σ' H' μ' (B2:bf),Rl (jU K H md vs B bh) ad' B' σ' H' μ'->(∀ b,B2 b->B' b)->Paired (Bx K H' B2) (jR md vs) (cC md 0 μ'):=fun ad' B' σ' H' μ' B2 l hB=>by
   refine m7 (ag.len.1) fun n e=>?_;obtain⟨v,t',e1,e2,q⟩:=ag.get e;rw[Ja rfl] at q;obtain⟨a,rfl,_⟩:=q;obtain⟨⟨c,hc⟩,ha⟩:=l.par n a (m9 e e1);have sl:=l.slot n _ hc;refine⟨a,c,e1,by rw[Kg];exact hc,?_⟩
   rw[<- ha];exact (sl.2.2.2).of rfl (Fr.less hB)
  have keep:∀ ad' B' σ' H' μ',Rl (jU K H md vs B bh) ad' B' σ' H' μ'->∀ b o,H b=some o->b∉jR md vs->H' b=some o:=fun ad' B' σ' H' μ' l b o e n=>l.old b o e fun i z=>n (eU (fC z).1 (fC z).2);refine r (jU K H md vs B bh) _ _ (fun x _=>Et x) (lM vs) B (start N vs) H _ rfl l0 hu ⟨fun ad' B' σ' H' μ' l _ q=>?_,fun ad' B' σ' H' μ' v rr h q=>?_,fun _ _ _ _ _ _ _ z=>z.elim,fun _ _ _ _ _ _ _ z=>z.elim⟩ (fun ad' B' σ' H' μ' x cls d e l _ tr _ _ z=>wy (hE x cls d e H' z (keep _ _ _ _ _ l) tr))
  ·exact fin .aL H' (.tr .aL) _ q (keep _ _ _ _ _ l) ⟨.aL,outs _ _ _ _ _ _ l l.bc⟩
  ·cases rr with
   |tr t=>exact fin v H' (.tr t) _ q (keep _ _ _ _ _ h.1) ⟨(show Rep K H' B' v t from h.2).fr (Fr.less h.1.bc),outs _ _ _ _ _ _ h.1 h.1.bc⟩
   |fr c =>
    obtain⟨l,a,rfl,n,h0,l2,x⟩:=h;have sub:∀ b,more B a b->more B' a b:=fun b z=>z.imp id (l.bc b);exact fin _ H' (.fr c) _ q (keep _ _ _ _ _ l) ⟨a,rfl,h0,fun z=>n (l.bc a z),x.of rfl (Fr.less sub),outs _ _ _ _ _ _ l2 sub⟩
   |br i =>
    have q':(match μ'[i]? with|some (.bx c)=>Qt (.fr c) (cC md 0 μ')|_=>False):=q
    obtain⟨l,rfl,s',c',e1,e2⟩:=h
    split at q'
    ·rename_i c ec;have sl:=l.slot i _ ec;have sub:∀ b,more B (ad' i) b->B' b:=fun b z=>z.elim (fun z=>by rw[z];exact sl.2.1) (l.bc b)
     refine fin _ H' (.fr c) _ q' (keep _ _ _ _ _ l) ⟨ad' i,rfl,sl.2.2.1,fun z=>?_,(sl.2.2.2.2).of rfl (Fr.less sub),outs _ _ _ _ _ _ l sub⟩;obtain⟨o,e⟩:=bh _ z;have:H (ad' i)=none:=sl.2.2.1;rw[this] at e;cases e
    ·exact q'.elim
theorem HasFn.Io{k:Nat}{tsp:vN}(F:HasFn K mg x st ps)(S:az N ps (aa st))(md:List Bool)(hmd:md.all (fun b=>!b)=true)(hm:md.length=ps.length)(hN:md.length<=N.length)
  (hbody:∀(args:List T) (Qt:R->List T->Prop) (Et:T->Prop),args.length=ps.length->tsp args Qt Et->∀(f:Addr) (cdv:Value) (A:Around) (outer:List Env) (s:Shared) (H:Hp) (E:XK),bU k (A.deeper (envOfC x (aa st) s.heap.objs.size f cdv)) ->
   ∃ us,yn (fR (mK P w) P w K mg base N x (aa st) f cdv A outer s H E) (aw st) us/\us (uJ md Qt) (fun x _=>Et x) (startM md args N.length)):ah P w K mg base (mK P w) (k+1) x ps (sS K md tsp):=
 F.Cq S md hmd hm hN fun args Qt Et hl h f cdv A outer s H E hr _=>hbody args Qt Et hl h f cdv A outer s H E hr
section
variable {X:Cx} {pins pins':List (Addr×Obj)} {σ:St} {H:Hp} {s:Shared} {E:Value->Shared->Prop} {e:Addr}
end
namespace Y
end Y
abbrev UJ:=Mu->(Mu->Prop)->Prop
structure YJ (X:Cx) (vs:List Expr) (u:UJ):Prop where
 run:∀(F:Fx) (ad:Nat->Addr) (B:bf) (σ:St) (H:Hp) (μ:Mu) (Qt:Mu->Prop) (pins:List (Addr×Obj)) (s:Shared) (acc:Str) (k:Nat) (R:Str->Shared->Prop),F.K=X.K->Rl F ad B σ H μ->u μ Qt->Inv X pins σ H s->acc.length<=2000*k->k+vs.length<=20 ->
  (∀ H' μ' s' (out:Str),Rl F ad B σ H' μ'->Fr B H B H'->Kp μ μ'->Qt μ'->Inv X pins σ H' s'->out.length<=40000->R out s')->Joins (model X.prog X.w) X.A X.xe (evalEach vs X.env) acc R s
theorem j5(a b:Str):(a++b).length=a.length+b.length:=MV
theorem ml(h:n<=40000):n<=sizeLine:=Jj h (by decide)
namespace Y
section
variable {X:Cx} {e:Expr} {vs:List Expr} {ue:UE} {u:UJ} {pos p:Pos}
theorem Hg:YJ X [] (fun μ Q=>Q μ):=⟨fun F ad B σ H μ Qt pins s acc k R hF l q I ha hk h=>h H μ s acc l Fr.refl (Kp.refl μ) q I (by simp at hk;lia)⟩
theorem Cn{c:Str}{j:Nat}(h:YJ X vs u)(hc:c.length<=2000:=by decide)(he:evalEach (.Constant (.str c) j p::vs) X.env=eval (.Constant (.str c) j p) X.env::evalEach vs X.env:=by rfl):YJ X (.Constant (.str c) j p::vs) u:=by
 refine⟨fun F ad B σ H μ Qt pins s acc k R hF l q I ha hk hR=>?_⟩;rw[he];refine b9 ((Z.str (X:=X) (i:=c) (j:=j) (pos:=p)).h pins s σ H (fun v H1=>v=.str c/\H1=H) I ⟨rfl,rfl⟩) fun v s1 ⟨v',H1,I1,r1,e1,e2⟩=>?_;subst e1;subst e2;obtain⟨t,rfl⟩:=r1;have hl:(acc++c).length<=2000*(k+1):=by rw[j5];lia
 rw[Jf] at hk;exact⟨c,t,rfl,ml (by lia),h.run F ad B σ H1 μ Qt pins s1 (acc++c) (k+1) R hF l q I1 hl (by lia) hR⟩
def G0(ue:UE)(u:UJ):UJ:=fun μ Q=>ue μ fun r μ'=>match r with
 |.tr (.int i)=>i.natAbs<2^1900/\u μ' Q
 |_=>False
theorem EH(he:YE X e ue)(h:YJ X vs u)(hev:evalEach (.FormattedValue e (-1) none p::vs) X.env=eval (.FormattedValue e (-1) none p) X.env::evalEach vs X.env:=by rfl):YJ X (.FormattedValue e (-1) none p::vs) (G0 ue u):=by
 obtain⟨t,qe,r⟩:=he;refine⟨fun F ad B σ H μ Qt pins s acc k R hF l q I ha hk hR=>?_⟩;rw[hev];refine wpAny_FormattedValue_plain ?_;refine b9 (qe.h pins s σ H (fun v H1=>∃ r1 μ1,Vr F ad B σ H1 μ1 v r1/\Fr B H (Bv B v r1) H1/\Kp μ μ1/\(match r1 with
  |.tr (.int i)=>i.natAbs<2^1900/\u μ1 Qt
  |_=>False)) I (r F ad B σ H μ _ _ hF l q fun v H1 r1 μ1 w f k1 q1=>⟨r1,μ1,w,f,k1,q1⟩)) fun v s1 ⟨v',H1,I1,rv,r1,μ1,w,f,k1,q1⟩=>?_
 split at q1
 ·rename_i i;obtain⟨l1,rp⟩:=w;cases rp;obtain⟨t',rfl⟩:=rv;obtain⟨hi,q1⟩:=q1;have hlog:i.natAbs.log2<1920:=by
   by_cases z:i.natAbs=0
   ·rw[z];decide
   ·exact (Nat.log2_lt z).mpr (Ju hi (Mw (by decide) (by decide)))
  have hlen:(Str.ofString (toString i)).length<=1921:=by
   have:=int_text_length_le (k:=1920) (by decide) hlog
   rw[PySem.ofString_length];exact this
  refine wpAny_formatField_int hlog ⟨_,_,rfl,?_,?_⟩
  ·rw[j5];exact ml (by rw[Jf] at hk;lia)
  ·rw[Jf] at hk;exact h.run F ad B σ H1 μ1 Qt pins _ (acc++Str.ofString (toString i)) (k+1) R hF l1 q1 (I1.tok _) (by rw[j5];lia) (by lia) fun H' μ' s' out l' f' k'=>hR H' μ' s' out l' (f.trans f') (k1.trans k')
 ·exact q1.elim
def GC(u:UJ):UE:=fun μ Q=>u μ fun μ'=>∀ z:Str,z.length<=40000->Q (.tr (.str z)) μ'
theorem Hq{v1 v2:Expr}{rest:List Expr}(h:YJ X (v1::v2::rest) u)(hn:(v1::v2::rest).length<=20:=by decide):YE X (.JoinedStr (v1::v2::rest) pos) (GC u):=by
 refine⟨fun σ H Q=>∀ pins s,Inv X pins σ H s->wpAny (model X.prog X.w) X.A (eval (.JoinedStr (v1::v2::rest) pos) X.env) (EP X pins σ Q) X.xe s,⟨fun pins s σ H Q I h=>h pins s I⟩,?_⟩;intro F ad B σ H μ Q Qt hF l q k pins s I;refine wpAny_JoinedStr (h.run F ad B σ H μ _ pins s Str.empty 0 _ hF l q I (by decide) (by rw[Kg];exact hn) fun H' μ' s' out l' f' k' q' I' ho=>⟨ml ho,?_⟩)
 exact⟨.str out,H',I'.tok _,⟨_,rfl⟩,k _ H' (.tr (.str out)) μ' ⟨l',.str out⟩ f' k' (q' out ho)⟩
end
end Y
namespace A
theorem G0(ue:UE)(u:UJ)(μ:Mu)(Q:Mu->Prop):Y.G0 ue u μ Q=ue μ fun r μ'=>match r with
 |.tr (.int i)=>i.natAbs<2^1900/\u μ' Q
 |_=>False:=rfl
theorem GC(u:UJ)(μ:Mu)(Q:R->Mu->Prop):Y.GC u μ Q=u μ fun μ'=>∀ z:Str,z.length<=40000->Q (.tr (.str z)) μ':=rfl
theorem tF(ux:UX)(g:UG)(E:Ed)(Xt:Xw)(μ:Mu):Y.tF ux g E Xt μ=ux μ (fun r μ'=>g r μ' E.nx) Xt:=rfl
theorem G2(c:UT)(u w:lx)(E:Ed)(Xt:Xw)(μ:Mu):Y.G2 c u w E Xt μ=c μ fun b μ'=>if b=true then u E Xt μ' else w E Xt μ':=rfl
theorem Gu(md:List Bool)(tsp:vN)(us:UA)(μ:Mu)(Q:R->Mu->Prop)(Xt:Xw):Y.Gu md tsp us μ Q Xt=us μ fun rs μ1=>match vo μ1 md rs with
 |some args=>(gb md rs).Nodup/\(∀ j∈gb md rs,j∉gM md rs)/\tsp args (fun r outs=>(gM md rs=[]\/(nv r=true/\outs.all fZ=true))/\Q r (putAll (gb md rs) outs μ1)) (fun cls=>Xt cls μ1)
 |none=>False:=rfl
theorem me(C:Addr)(us:UA)(E:Ed)(Xt:Xw)(μ:Mu):Y.me C us E Xt μ=us μ fun rs μ'=>rs.length<=10/\Xt (.exc (.ref C) none) μ':=rfl
end A
namespace Y
end Y
namespace A
end A
def e7(n m:Nat)(e:Nat->Bool):Bool:=(List.range (min n m)).all e && n == m
inductive tP:Nat->T->T->Bool->Prop
 |flat {n:Nat} {t u:T} (f1:cp t=true) (f2:cp u=true):tP n t u (Y.Fn t u)
 |tup {n:Nat} {xs ys:List T} (e:Nat->Bool) (h:∀(j:Nat) (x y:T),xs[j]?=some x->ys[j]?=some y->tP n x y (e j)):tP (n+1) (.tup xs) (.tup ys) (e7 xs.length ys.length e)
 |lst {n:Nat} {xs ys:List T} (e:Nat->Bool) (h:∀(j:Nat) (x y:T),xs[j]?=some x->ys[j]?=some y->tP n x y (e j)):tP (n+1) (.lst xs) (.lst ys) (e7 xs.length ys.length e)
theorem uw{u:T}{v:V}(h1:Rep K H B v t)(h2:Rep K H B v u)(f1:cp t=true)(f2:cp u=true):Y.Fn t u=true:=by
 cases h1<;>first | (cases f1;done) | (cases h2<;>first | (cases f2;done)|simp[Y.Fn])
theorem kY{m:Nat}{e:Nat->Bool}(h:n=m)(h2:∀ j,j<n->e j=true):e7 n m e=true:=by
 subst h;unfold e7;rw[Lg,K3,Ma,Ks];intro j hj;exact h2 j (by simpa using hj)
theorem tP.same{u:T}{b:Bool}(d:tP n t u b):∀{K:Oe} {H:Hp} {B:bf} {v:V},Rep K H B v t->Rep K H B v u->b=true:=by
 induction d with
 |flat f1 f2=>exact fun h1 h2=>uw h1 h2 f1 f2
 |tup e h ih =>
  rename_i nn xs ys;intro K H B v h1 h2
  cases h1 with
  |tup n1 a1 r1=>cases h2 with
   |tup n2 a2 r2 =>
    rw[a1] at a2;cases a2;refine kY (r1.length.symm.trans r2.length) fun j hj=>?_;have hx:=IV hj;have hj2:j<ys.length:=by rw[<- r2.length,r1.length];exact hj
    have hy:=IV hj2;obtain⟨v1,g1,p1⟩:=r1.get hx;obtain⟨v2,g2,p2⟩:=r2.get hy;rw[g1] at g2;cases g2;exact ih j _ _ hx hy p1 p2
 |lst e h ih =>
  rename_i nn xs ys;intro K H B v h1 h2
  cases h1 with
  |lst n1 a1 r1=>cases h2 with
   |lst n2 a2 r2 =>
    rw[a1] at a2;cases a2;refine kY (r1.length.symm.trans r2.length) fun j hj=>?_;have hx:=IV hj;have hj2:j<ys.length:=by rw[<- r2.length,r1.length];exact hj
    have hy:=IV hj2;obtain⟨v1,g1,p1⟩:=r1.get hx;obtain⟨v2,g2,p2⟩:=r2.get hy;rw[g1] at g2;cases g2;exact ih j _ _ hx hy p1 p2
section
variable {X:Cx} {pins:List (Addr×Obj)} {σ:St} {H:Hp} {s:Shared} {B:bf}
theorem f_{n:Nat}{xs ys:List T}{e:Nat->Bool}(r1:ao X.K H B vs xs)(r2:ao X.K H B ws ys)(g1:Vals vs its)(g2:Vals ws its2)
  (ih:∀(j:Nat) (x y:T),xs[j]?=some x->ys[j]?=some y->∀(v w:V) (a b:Value),Rep X.K H B v x->Rep X.K H B w y->RelV v a->RelV w b->SeqAt.EqAt A s a b (e j)) :
  ∀ j (h1:j<its.toArray.size) (h2:j<its2.toArray.size),SeqAt.EqAt A s its.toArray[j] its2.toArray[j] (e j):=by
 intro j h1 h2;have l1:=g1.length;have l2:=g2.length;have l3:=r1.length;have l4:=r2.length;rw[I_] at h1 h2;have hx:=IV (show j<xs.length by lia)
 have hy:=IV (show j<ys.length by lia)
 obtain⟨v1,q1,p1⟩:=r1.get hx;obtain⟨v2,q2,p2⟩:=r2.get hy;obtain⟨u1,e1,f1⟩:=g1.get q1;obtain⟨u2,e2,f2⟩:=g2.get q2;have z1:its.toArray[j]=u1:=by
  rw[IV h1] at e1;simpa using e1
 have z2:its2.toArray[j]=u2:=by
  rw[IV h2] at e2;simpa using e2
 rw[z1,z2];exact ih j _ _ hx hy v1 v2 u1 u2 p1 p2 f1 f2
theorem fV{xs ys:List T}(e:Nat->Bool)(r1:ao X.K H B vs xs)(r2:ao X.K H B ws ys)(g1:Vals vs its)(g2:Vals ws its2):((List.range (min its.toArray.size its2.toArray.size)).all e && its.toArray.size == its2.toArray.size)=e7 xs.length ys.length e:=by
 have l1:=g1.length;have l2:=g2.length;have l3:=r1.length;have l4:=r2.length;unfold e7;rw[I_,I_,<- l1,<- l2,l3,l4]
theorem BB{n:Nat}{u:T}{b:Bool}(d:tP n t u b):∀(I:Inv X pins σ H s) {A:Around} (hu:A.units+n<cLine) (v w:V) (a c:Value),Rep X.K H B v t->Rep X.K H B w u->RelV v a->RelV w c->SeqAt.EqAt A s a c b:=by
 induction d with
 |flat f1 f2 =>
  intro I A hu v w a c h1 h2 r1 r2;obtain⟨z1,z2,z3⟩:=Y.AQ h1 h2 f1 f2;rw[<- z3];exact p7 r1 r2 z1 z2
 |tup e h ih =>
  intro I A hu v w a c h1 h2 r1 r2;rename_i n xs ys;have h1':=h1;have h2':=h2
  cases h1 with
  |tup n1 a1 q1=>cases h2 with
   |tup n2 a2 q2 =>
    rename_i p1 vs p2 ws
    cases r1;cases r2
    by_cases z:p1=p2
    ·subst z;rw[(tP.tup (n:=n) e h).same h1' h2'];exact SeqAt.EqAt.same _
    ·obtain⟨its,g1,pl1,_⟩:=I.tuple (b8.of a1);obtain⟨its2,g2,pl2,_⟩:=I.tuple (b8.of a2);rw[<- fV (X:=X) e q1 q2 g1 g2];exact MI z (SeqAt.RcAt.tuples pl1 pl2 (by lia) (f_ (n:=n) q1 q2 g1 g2 fun j x y hx hy v w a c=>ih j x y hx hy I (A:=A.in1) (by show A.units+1+n<cLine;lia) v w a c))
 |lst e h ih =>
  intro I A hu v w a c h1 h2 r1 r2;rename_i n xs ys;have h1':=h1;have h2':=h2
  cases h1 with
  |lst n1 a1 q1=>cases h2 with
   |lst n2 a2 q2 =>
    rename_i p1 vs p2 ws
    cases r1;cases r2
    by_cases z:p1=p2
    ·subst z;rw[(tP.lst (n:=n) e h).same h1' h2'];exact SeqAt.EqAt.same _
    ·obtain⟨its,g1,pl1,_⟩:=I.list (bS.of a1);obtain⟨its2,g2,pl2,_⟩:=I.list (bS.of a2);have sz:=fV (X:=X) e q1 q2 g1 g2;rw[<- sz];by_cases hs:its.toArray.size=its2.toArray.size
     ·rw[hs,Lg,K3,Ma,<- hs];exact MI z (SeqAt.RcAt.lists pl1.isList pl2.isList hs (by lia) (f_ (n:=n) q1 q2 g1 g2 fun j x y hx hy v w a c=>ih j x y hx hy I (A:=A.in1) (by show A.units+1+n<cLine;lia) v w a c))
     ·rw[Kd.mpr hs,Bool.and_false];exact MI z (SeqAt.RcAt.lists_lengths pl1.isList pl2.isList (NW.mpr hs) (by lia))
end
namespace Y
def Fp(K:Oe)(n:Nat)(neg:Bool):R2:=fun x y H Q=>∃(B:bf) (a b:Addr) (vs ws:List V) (xs ys:List T) (e:Nat->Bool),x=.ref a/\y=.ref b/\((b8 K H a vs/\b8 K H b ws)\/(bS K H a vs/\bS K H b ws))/\ao K H B vs xs/\ao K H B ws ys /\
 (∀(j:Nat) (x y:T),xs[j]?=some x->ys[j]?=some y->tP n x y (e j))/\Q (.bl (if neg then !e7 xs.length ys.length e else e7 xs.length ys.length e)) H
theorem Aw{X:Cx}{n:Nat}(hu:X.A.units+n+1<cLine):cT X (compareOp .Eq) (Fp X.K n false):=by
 intro pins s σ H x y v u Q I rx ry h;obtain⟨B,a,b,vs,ws,xs,ys,e,rfl,rfl,hq,r1,r2,ih,q⟩:=h
 cases rx;cases ry
 have it:∀(j:Nat) (x y:T),xs[j]?=some x->ys[j]?=some y->∀(v w:V) (a b:Value),Rep X.K H B v x->Rep X.K H B w y->RelV v a->RelV w b->SeqAt.EqAt X.A.in1 s a b (e j):=fun j x y hx hy v w a c=>BB (ih j x y hx hy) I (A:=X.A.in1) (by show X.A.units+1+n<cLine;lia) v w a c
 rcases hq with ⟨ha,hb⟩|⟨ha,hb⟩
 ·obtain⟨its,g1,p1,_⟩:=I.tuple ha;obtain⟨its2,g2,p2,_⟩:=I.tuple hb;refine SeqAt.eq_tupleAt p1 p2 (by lia) (f_ (n:=n) r1 r2 g1 g2 it) ⟨.bl _,H,I,rfl,?_⟩
  rw[fV (X:=X) e r1 r2 g1 g2];exact q
 ·obtain⟨its,g1,p1,_⟩:=I.list ha;obtain⟨its2,g2,p2,_⟩:=I.list hb;have sz:=fV (X:=X) e r1 r2 g1 g2;by_cases hs:its.toArray.size=its2.toArray.size
  ·rw[hs,Lg,K3,Ma,<- hs] at sz;refine SeqAt.eq_listAt p1.isList p2.isList hs (by lia) (f_ (n:=n) r1 r2 g1 g2 it) ⟨.bl _,H,I,rfl,?_⟩
   rw[sz];exact q
  ·rw[Kd.mpr hs,Bool.and_false] at sz;refine Nz p1.isList p2.isList (NW.mpr hs) (by lia) ⟨.bl _,H,I,rfl,?_⟩
   rw[sz];exact q
end Y
namespace Y
end Y
theorem jF{k:Nat}(hr:bU k A):A.units+4+1<cLine:=Jo (Nat.add_le_add_left (by decide:4+1<=64) _) hr.units
namespace Y
def Eo(K:Oe):R2:=fun x y H Q=>B7 K x y H Q\/Fp K 4 false x y H Q
theorem jt(K:Oe)(hK:X.K=K)(hu:X.A.units+4+1<cLine):cT X (compareOp .Eq) (Eo K):=by subst hK;exact (cy X.K rfl (by lia)).or (Aw hu)
def qP(xs ys:List T)(neg:Bool)(μ:Mu)(Q:R->Mu->Prop):Prop:=∃ e:Nat->Bool,(∀(j:Nat) (x y:T),xs[j]?=some x->ys[j]?=some y->tP 4 x y (e j))/\Q (.tr (.bl (if neg then !e7 xs.length ys.length e else e7 xs.length ys.length e))) μ
def zd:T->T->Mu->(R->Mu->Prop)->Prop:=fun t u μ Q=>match t,u with
 |.tup xs,.tup ys=>qP xs ys false μ Q
 |.lst xs,.lst ys=>qP xs ys false μ Q
 |t,u=>DC false t u μ Q
theorem jm:jw K (Eo K) (uu zd):=fw fun F ad B σ H μ Q Qt x y t u hK l v1 v2 q k=>by
 unfold zd at q
 split at q
 ·obtain⟨e,h,q⟩:=q;subst hK
  cases v1 with
  |tup ha ra=>cases v2 with
   |tup hb rb=>exact .inr ⟨B,_,_,_,_,_,_,e,rfl,rfl,.inl ⟨b8.of ha,b8.of hb⟩,ra,rb,h,k _ H _ (Vr.flat l (.bl _)) Fr.refl q⟩
 ·obtain⟨e,h,q⟩:=q;subst hK
  cases v1 with
  |lst ha ra=>cases v2 with
   |lst hb rb=>exact .inr ⟨B,_,_,_,_,_,_,e,rfl,rfl,.inr ⟨bS.of ha,bS.of hb⟩,ra,rb,h,k _ H _ (Vr.flat l (.bl _)) Fr.refl q⟩
 ·subst hK;unfold DC at q
  split at q
  ·cases v1;cases v2
   refine .inl (.inl ⟨rfl,?_⟩);rw[dV (f:=V.int) (fun a b h=>by injection h)]
   exact k _ H _ (Vr.flat l (.bl _)) Fr.refl q
  ·cases v1;cases v2
   refine .inl (.inl ⟨rfl,?_⟩);rw[dV (f:=V.str) (fun a b h=>by injection h)]
   exact k _ H _ (Vr.flat l (.bl _)) Fr.refl q
  ·cases v1;cases v2
   refine .inl (.inl ⟨rfl,?_⟩);rw[dV (f:=V.bl) (fun a b h=>by injection h)]
   exact k _ H _ (Vr.flat l (.bl _)) Fr.refl q
  ·exfalso;simp_all
  ·exfalso;simp_all
  ·exact q.elim
end Y
namespace A
theorem FC(xs ys:List T)(μ:Mu)(Q:R->Mu->Prop):Y.zd (.tup xs) (.tup ys) μ Q=Y.qP xs ys false μ Q:=rfl
theorem DY(i j:Int)(μ:Mu)(Q:R->Mu->Prop):Y.zd (.int i) (.int j) μ Q=Q (.tr (.bl (decide (i=j)))) μ:=rfl
end A
namespace Y
end Y
namespace A
end A
section
variable {prog:Program} {w:World} {A:Around} {E:Value->Shared->Prop} {s:Shared} {K:Oe} {x C:Addr} {ox:Obj}
end
section
variable {X:Cx}
end
namespace Y
section
variable {X:Cx} {a:Expr} {es:List Expr} {ua:UE} {pos p p3:Pos} {x:Str}
end
end Y
section
variable {X:Cx} {pins:List (Addr×Obj)} {σ:St} {H:Hp} {s:Shared}
end
namespace Y
end Y
namespace A
end A
section
variable {prog:Program} {w:World} {A:Around} {E:Value->Shared->Prop} {s:Shared} {K:Oe} {x C:Addr} {ox:Obj} {od:Option Obj}
end
section
variable {prog:Program} {w:World} {A:Around} {E:Value->Shared->Prop} {s:Shared} {K:Oe} {C S f:Addr} {name:Str}
end
section
variable {fs ex:List Addr} {H:Hp} {h h':Heap} {e d:Addr} {φ ψ:Heap->Prop}
end
section
variable {X:Cx} {C S f:Addr} {name:Str}
end
section
variable {X:Cx} {pins:List (Addr×Obj)} {σ:St} {H:Hp} {s:Shared} {C S f:Addr} {name:Str}
end
section
variable {X:Cx} {C S f:Addr} {name:Str}
end
namespace Y
section
variable {X:Cx} {C S f:Addr} {name x:Str} {e:Expr} {ue:UE} {p pos cpos:Pos}
end
end Y
section
variable {X:Cx}
end
namespace Y
section
variable {X:Cx} {a:Expr} {es:List Expr} {ua:UE} {pos p p3:Pos} {x:Str}
end
end Y
namespace A
end A
namespace Y
end Y
namespace A
end A
open Builtin Builtin.Str
namespace Y
theorem wB:∀(bs:List Bool),(List.range bs.length).all (fun i=>(bs[i]?).getD false)=bs.all id
 |[]=>rfl
 |b::bs=>by
  rw[Jf,NH,KU,List.all_map,KU,<- wB bs];rfl
def Gn(K:Oe):List V->Hp->VK->Prop:=fun xs H Q=>∃(p:Addr) (bs:List Bool),xs=[.ref p]/\bS K H p (bs.map V.bl)/\Q (.bl (bs.all id)) H
theorem tq(K:Oe)(hK:X.K=K)(hc:X.calm=true):aT X (.builtin "all") (Gn K):=by
 subst hK;intro pins s σ H xs us Q I r h;obtain⟨p,bs,rfl,hq,q⟩:=h;obtain⟨u,rfl,ru⟩:=vals1 r;cases ru;obtain⟨its,rv,pl,hz⟩:=I.list hq;have ht:s.heap.IsList p its.toArray:=pl.isList;have hlt:p<s.heap.objs.size:=by obtain⟨o,ho,_⟩:=id ht;exact Jc ho
 have hlen:its.length=bs.length:=by have:=rv.length;rw[IW] at this;lia
 refine call_all_walk (KH ht ?_);refine⟨_,[_,p],[_],_,_,_,fun i=>(bs[i]?).getD false,rfl,Walks.list (A:=X.A.in1) (I.ok.hd hc) _ p (Jq hlt) its.toArray,⟨⟨_,Je _ rfl,rfl,rfl⟩,ht.push _⟩,fun i v s' Q' E' hP hQ=>?_,fun h' tk hk=>?_⟩
 ·have hP':its[i]?=some v:=by rw[<- Ko];exact hP
  have hi:i<bs.length:=by have:=(Ji.mp hP').1;lia
  obtain⟨v',e',rr⟩:=rv.get (i:=i) (x:=V.bl bs[i]) (by rw[Jy,IV hi];rfl)
  have e2:its[i]?=some v':=e';rw[hP'] at e2;cases e2;cases rr;simp only[IV hi,Option.getD_some] at hQ;exact K_ hQ
 ·have e:((List.range its.toArray.size).all fun i=>(bs[i]?).getD false)=bs.all id:=by
   rw[I_,hlen];exact wB bs
  rw[e];refine⟨.bl (bs.all id),H,I.kept fun b o e=>hk b o (fun hm=>?_) (IU _ e),rfl,q⟩;rcases Jg.mp hm with rfl|hm
  ·exact absurd (Jc e) (Ku _)
  ·cases hm
end Y
namespace Y
end Y
namespace A
end A
end L2
namespace L2
open PySem PySem.Spec PyProof PyProof.Rows
section
variable {X:Cx} {es:List Expr} {tk:Nat} {tp:Pos}
end
namespace Y
end Y
namespace A
end A
section
variable {prog:Program} {w:World} {A:Around} {E:Value->Shared->Prop} {s:Shared} {K:Oe} {a:Addr} {D:List (Str×List Str)} {k:Str} {tk:Tok}
end
namespace Y
end Y
namespace A
end A
namespace Y
section
variable {prog:Program} {w:World} {A:Around} {E:Value->Shared->Prop} {s:Shared}
end
end Y
namespace A
end A
namespace Y
def gJ(g:UG)(body:lx)(E:Ed)(Xt:Xw):List T->Mu->Prop
 |[],μ=>E.nx μ
 |t::ts,μ=>g (.tr t) μ fun μ1=>body {E with nx:=gJ g body E Xt ts,ct:=gJ g body E Xt ts,bk:=E.nx} Xt μ1
def zD(ui:UI)(g:UG)(body:lx):lx:=fun E Xt μ=>ui μ fun items gd μ'=>gd=none/\gJ g body E Xt items μ'
theorem s_{K:Oe}{Dx:D9}{g:TG}{ug:UG}{tb:TS}{body:lx}{F:Fx}{D:Ends}{E:Ed}{Xt:Xw}{J:It}{Src:Hp->bf->Prop}{items:List T}{B0:bf}{H0:Hp}(hF:F.K=K)(hg:RG K g ug)(hb:G5 K Dx tb body)(it:jf K J Src items)
  (pe:∀ B1 H1 B2 H2,Fr B1 H1 B2 H2->Src H1 B1->Src H2 B2) (hE:pZ F B0 H0 D E) (hX:t6 F B0 H0 Dx Xt) {ad:Nat->Addr} {B:bf} {σ:St} {H:Hp} {μ:Mu} (l:Rl F ad B σ H μ) (f:Fr B0 H0 B H) (sr:Src H B) (q:gJ ug body E Xt items μ) :
  ∃ W:Nat->Nat->St->Hp->Prop,(∃ m,W 0 m σ H)/\∀ i m σ H,W i m σ H ->
   (J.stop i H/\D.nx σ H)\/(J.go i H/\∃ N:St->Hp->Prop,(∀ σ' H',N σ' H'->∃ m',m'<m/\W (i+1) m' σ' H')/\∀ x H',J.AX i H x H'->g x σ H' fun σ2 H2=>tb {D with nx:=N,ct:=N,bk:=D.nx} σ2 H2):=by
 refine⟨fun i m σ H=>m=items.length-i/\i<=items.length/\∃ ad B μ,Rl F ad B σ H μ/\Fr B0 H0 B H/\Src H B/\gJ ug body E Xt (items.drop i) μ,⟨items.length,by simp,JC _,ad,B,μ,l,f,sr,q⟩,?_⟩
 rintro i m σ H ⟨rfl,hi,ad,B,μ,l,f,sr,q⟩;by_cases hlt:i<items.length
 ·have ei:items[i]?=some items[i]:=IV hlt;rw[Kc hlt] at q;obtain⟨go,yl⟩:=it.step H B i _ l.eR sr ei;refine .inr ⟨go,fun σ' H'=>∃ ad' B' μ',Rl F ad' B' σ' H' μ'/\Fr B0 H0 B' H'/\Src H' B'/\gJ ug body E Xt (items.drop (i+1)) μ',fun σ' H' h=>⟨items.length-(i+1),by lia,rfl,hlt,h⟩,fun x H2 y=>?_⟩
  obtain⟨sm,rp⟩:=yl x H2 y;refine hg F ad B σ H2 μ x (.tr _) B H2 _ _ hF ⟨l.same sm,by show Rep F.K H2 B x _;rw[hF];exact rp⟩ Fr.refl q fun ad3 B3 σ3 H3 μ3 l3 f3 q3=>?_
  have f03:Fr B0 H0 B3 H3:=(f.trans (Fr.same sm)).trans f3;have s3:Src H3 B3:=pe _ _ _ _ ((Fr.same sm).trans f3) sr;exact hb F _ _ Xt ad3 B3 σ3 H3 μ3 hF l3 q3 ⟨fun ad' B' σ' H' μ' l' f' q'=>⟨ad',B',μ',l',f03.trans f',pe _ _ _ _ f' s3,q'⟩,hE.rt,fun ad' B' σ' H' μ' l' f' q'=>hE.nx ad' B' σ' H' μ' l' (f03.trans f') q',fun ad' B' σ' H' μ' l' f' q'=>⟨ad',B',μ',l',f03.trans f',pe _ _ _ _ f' s3,q'⟩⟩ (hX.step f03)
 ·have e:i=items.length:=by lia
  subst e;rw[Md] at q;exact .inl ⟨it.stop H B sr,hE.nx ad B σ H μ l f q⟩
theorem Gg{X:Cx}{tg it:Expr}{xs:List Stmt}{pos:Pos}{ui:UI}{g:UG}{u:lx}(hp:PassesOwn (model X.prog X.w) X.A X.env X.xe)(hc:X.calm=true)(hi:YI X tg it ui)(hg:YG X tg g)(hb:yn X xs u)(hs:∀ x,foldedSetIterable it X.env x=pure x:=by intro _;rfl):Bb X (.For tg it xs [] pos) (zD ui g u):=by
 obtain⟨ti,qi,ri⟩:=hi;obtain⟨tg',qg,rg⟩:=hg;obtain⟨t,q,r⟩:=hb;refine⟨_,Z.eY hp hc qi qg q hs,fun F D E Xt ad B σ H μ hF l q h hX=>ri F ad B σ H μ _ _ hF l q fun J H' μ' items gd Src l1 f1 k1 it sr so gok q1=>?_⟩;obtain⟨rfl,q1⟩:=q1;exact s_ hF rg r it so h hX l1 f1 sr q1
end Y
theorem xN{g:UG}{body:lx}{E:Ed}{Xt:Xw}(I:List T->Mu->Prop){items:List T}{μ:Mu}(h0:I items μ)(hn:∀ μ,I [] μ->E.nx μ)
  (hs:∀ t ts μ (N:Mu->Prop),I (t::ts) μ->(∀ μ',I ts μ'->N μ')->g (.tr t) μ fun μ1=>body {E with nx:=N,ct:=N,bk:=E.nx} Xt μ1):Y.gJ g body E Xt items μ:=by
 induction items generalizing μ with
 |nil=>exact hn μ h0
 |cons t ts ih=>exact hs t ts μ _ h0 fun μ' h=>ih h
namespace A
theorem zD(ui:UI)(g:UG)(body:lx)(E:Ed)(Xt:Xw)(μ:Mu):Y.zD ui g body E Xt μ=ui μ fun items gd μ'=>gd=none/\Y.gJ g body E Xt items μ':=rfl
end A
namespace Y
def FX(neg:Bool):R2:=fun x y H Q=>∃ a o,y=.ref a/\oZ H a x o/\Q (.bl (if neg then !o.isSome else o.isSome)) H
theorem nG{X:Cx}(hu:X.A.units+1<cLine):cT X (compareOp .NotIn) (FX true):=by
 intro pins s σ H x y v u Q I rx ry h;obtain⟨a,o,rfl,g,q⟩:=h;obtain rfl:u=Value.ref a:=ry;exact y2 hu I g rx fun s' I'=>⟨.bl (!o.isSome),H,I',rfl,q⟩
theorem kU:∀(more kvs:List (Key×V)),((kvs++more).map (·.1)).Nodup->dY kvs more=kvs++more
 |[],kvs,_=>by rw[J7];rfl
 |p::r,kvs,h=>by
  have hn:cZ kvs p.1=none:=by
   cases hv:cZ kvs p.1 with
   |none=>rfl
   |some v =>
    have hm:=zC hv;rw[Jn,Jm] at h;have:=LY.mp h;exact absurd rfl (this.2.2 _ hm _ Jl)
  show dY (putK kvs p.1 p.2) r=_;rw[mF p.2 hn,kU r _ (by rw[J6];exact h),J6]
  rfl
end Y
namespace A
end A
section
variable {prog:Program} {w:World} {A:Around} {E:Value->Shared->Prop} {s:Shared}
end
section
variable {X:Cx} {es:List Expr} {tk:Nat} {tp:Pos}
end
namespace Y
end Y
namespace Y
end Y
namespace A
end A
open Builtin Builtin.Str
section
variable {prog:Program} {w:World} {A:Around} {E:Value->Shared->Prop} {s:Shared} {x y:Str} {t u:Tok}
end
section
variable {X:Cx}
end
namespace Y
end Y
namespace A
end A
end L2
namespace L2
open PySem PySem.Spec PyProof PyProof.Rows
variable{X:Cx}{pos:Pos}{K:Oe}
inductive Ou where
 |no
 |ok (r:R)
 |ck (c:Prop) (r:R)
def jI(o:Ou)(Q:R->Prop):Prop:=match o with
 |.no=>False
 |.ok r=>Q r
 |.ck c r=>c/\Q r
def tu(o:Option Sl)(i:Nat):Ou:=match o with
 |some (.tr t)=>.ok (.tr t)
 |some (.bx _)=>.ok (.br i)
 |some (.pb _)=>.ok (.br i)
 |_=>.no
def tT(a b:Option T):Ou:=match a,b with
 |some (.int i),some (.int j)=>.ok (.tr (.int (i+j)))
 |some (.str i),some (.str j)=>.ck (i.length+j.length<=sizeLine) (.tr (.str (i++j)))
 |some (.lst xs),some (.lst ys)=>.ck (xs.length+ys.length<=sizeLine) (.fr (.lst (xs++ys)))
 |some (.tup xs),some (.tup ys)=>.ck (xs.length+ys.length<=sizeLine) (.tr (.tup (xs++ys)))
 |_,_=>.no
def oQ(o:Option T):Ou:=match o with
 |some t=>.ok (.tr t)
 |none=>.no
def A7(a b:Option T):Ou:=match a,b with
 |some (.lst xs),some (.int i)=>oQ (cc xs i)
 |some (.tup xs),some (.int i)=>oQ (cc xs i)
 |some (.gE xs),some (.int i)=>oQ (cc xs i)
 |some (.str z),some (.int i)=>(match cc z.cps.toList i with|some c=>.ck (z.length<=sizeLine) (.tr (.str ⟨#[c]⟩))|none=>.no)
 |_,_=>.no
def pC(a:T):Ou:=match a with
 |.lst xs=>.ok (.tr (.int xs.length))
 |.tup xs=>.ok (.tr (.int xs.length))
 |.dM xs=>.ok (.tr (.int xs.length))
 |.gE xs=>.ok (.tr (.int xs.length))
 |.str z=>.ck (z.length<=sizeLine) (.tr (.int z.length))
 |_=>.no
def DE(a:Option T)(lo hi:Option Int):Ou:=match a with
 |some (.lst xs)=>.ok (.fr (.lst (Y.bJ xs lo hi)))
 |some (.dM xs)=>.ok (.fr (.lst (Y.bJ xs lo hi)))
 |some (.tup xs)=>.ok (.tr (.tup (Y.bJ xs lo hi)))
 |some (.str z)=>.ck (z.length<=sizeLine) (.tr (.str (Y.Ae z lo hi)))
 |_=>.no
theorem jh(p:Prop):(True/\p)=p:=propext ⟨fun h=>h.2,fun h=>⟨trivial,h⟩⟩
theorem HC(o:Option Sl)(i:Nat)(Q:R->Prop):jH (CA o i) Q=jI (tu o i) Q:=by
 cases o with
 |none=>rfl
 |some s=>cases s<;>first|rfl|exact jh _
theorem HP(a b:Option T)(Q:R->Prop):jH (Ce a b) Q=jI (tT a b) Q:=by
 cases a with
 |none=>rfl
 |some a=>cases b with
  |none=>cases a<;>rfl
  |some b=>cases a<;>cases b<;>first|rfl|exact jh _
theorem bL(a b:Option T)(Q:R->Prop):jH (G_ a b) Q=jI (A7 a b) Q:=by
 cases a with
 |none=>rfl
 |some a=>cases b with
  |none=>cases a<;>rfl
  |some b =>
   cases a<;>cases b<;>first
    |rfl
    | (rename_i xs i;show jH (oT (cc xs i)) Q=jI (oQ (cc xs i)) Q;cases cc xs i with|none=>rfl|some t=>exact jh _)
    | (rename_i z i;show jH (match cc z.cps.toList i with|some c=>some (z.length<=sizeLine,.tr (.str ⟨#[c]⟩))|none=>none) Q=jI (match cc z.cps.toList i with|some c=>.ck (z.length<=sizeLine) (.tr (.str ⟨#[c]⟩))|none=>.no) Q;cases cc z.cps.toList i<;>rfl)
theorem Hh(a:T)(Q:R->Prop):jH (FZ a) Q=jI (pC a) Q:=by cases a<;>first|rfl|exact jh _
theorem IA(a:Option T)(lo hi:Option Int)(Q:R->Prop):jH (Y.Cz a lo hi) Q=jI (DE a lo hi) Q:=by
 cases a with
 |none=>rfl
 |some a=>cases a<;>first|rfl|exact jh _
namespace Y
def dC(i:Nat):UE:=fun μ Q=>jI (tu μ[i]? i) fun r=>Q r μ
def wF:U2:=fun r1 r2 μ Q=>jI (tT (cont μ r1) (cont μ r2)) fun r=>Q r μ
def du:U2:=fun r1 r2 μ Q=>jI (A7 (cont μ r1) (cont μ r2)) fun r=>Q r μ
def xE(t:T)(μ:Mu)(Q:R->Mu->Prop):Prop:=jI (pC t) fun r=>Q r μ
def zQ(ue:UE)(ul uh:UO):UE:=fun μ Q=>ue μ fun r μ1=>ul μ1 fun lo μ2=>uh μ2 fun hi μ3=>jI (DE (cont μ3 r.d) lo hi) fun r=>Q r μ3
def wC(ue:UE):UI:=fun μ Rt=>ue μ fun r μ'=>Ej (Bd r μ') fun ts g=>Rt ts g μ'
def GA(n:Nat)(gs:ph):UG:=fun r μ Q=>match sZ (cont μ r.d) with|some ts=>ts.length=n/\gs ts μ Q|none=>False
def uy(ue:UE):UT:=fun μ Q=>ue μ fun r μ'=>match uS r with|some b=>Q b μ'|none=>False
theorem HH(i:Nat):jS i=dC i:=funext fun μ=>funext fun Q=>(A.jS i μ Q).trans (HC _ _ _)
theorem HV:gg=wF:=funext fun r1=>funext fun r2=>funext fun μ=>funext fun Q=>(A.gg r1 r2 μ Q).trans (HP _ _ _)
theorem IK:oX=du:=funext fun r1=>funext fun r2=>funext fun μ=>funext fun Q=>(A.oX r1 r2 μ Q).trans (bL _ _ _)
theorem Ie:nO=xE:=funext fun t=>funext fun μ=>funext fun Q=>(A.nO t μ Q).trans (Hh _ _)
theorem IE(ue:UE)(ul uh:UO):Cs ue ul uh=zQ ue ul uh:=funext fun μ=>funext fun Q=>by
 unfold Cs zQ;congr 1;funext r μ1;congr 1;funext lo μ2;congr 1;funext hi μ3;exact IA _ _ _ _
theorem IL(ue:UE):Bk ue=wC ue:=funext fun μ=>funext fun Rt=>A.Bk ue μ Rt
theorem eT(n:Nat)(gs:ph):gT n gs=GA n gs:=funext fun r=>funext fun μ=>funext fun Q=>A.gT n gs r μ Q
theorem GP(ue:UE):mV ue=uy ue:=funext fun μ=>funext fun Q=>A.mV ue μ Q
theorem vS{x:Str}(i:Nat)(hN:X.N[i]?=some x:=by rfl)(hv:C1 X.env.scope x:=by first|exact Or.inl rfl|exact Or.inr (Or.inl rfl)|exact Or.inr (Or.inr rfl))(hd:(x ==("__debug__":Str))=false:=by decide)
  (hcd:(x ==("__classdict__":Str))=false:=by decide):YE X (.Name x pos) (dC i):=HH i ▸ v i hN hv hd hcd
theorem aj:jw K (wX K) wF:=HV ▸ BD
theorem aq:jw K (G1 K) du:=IK ▸ EA
theorem aC:RC K (x9 K) (pQ xE):=Ie ▸ CJ
theorem cz{e:Expr}{ue:UE}{p2:Pos}{lo hi:Option Expr}{ul uh:UO}(K:Oe)(hK:X.K=K)(he:YE X e ue)(hl:YO X lo ul)(hu:YO X hi uh):YE X (.Subscript e (.Slice lo hi none p2) pos) (zQ ue ul uh):=IE ue ul uh ▸ Cw K hK he hl hu
theorem anyS{tg e:Expr}{ue:UE}(K:Oe)(hK:X.K=K)(he:YE X e ue):YI X tg e (wC ue):=IL ue ▸ any K hK he
theorem jG{es:List Expr}(K:Oe)(hK:X.K=K){k n:Nat}{gs:ph}(hc:X.calm=true)(h:Eu X es gs)(hn:(assignEach es X.env).length=n:=by rfl)(hst:(assignEach es X.env).findIdx? (·.1)=none:=by rfl):YG X (.Tuple es k pos) (GA n gs):=eT n gs ▸ nR K hK hc h hn hst
theorem kM{a:Expr}{ua:UE}(K:Oe)(hK:X.K=K)(ha:YE X a ua)(he:Z.G9 a=true:=by rfl):YT X a (uy ua):=GP ua ▸ yw K hK ha he
end Y
namespace A3
theorem BP(r:R)(Q:R->Prop):jI (.ok r) Q=Q r:=rfl
theorem Bw(c:Prop)(r:R)(Q:R->Prop):jI (.ck c r) Q=(c/\Q r):=rfl
theorem Fh(ts:List T)(g:Option (Nat×List T))(Q:List T->Option (Nat×List T)->Prop):Ej (some (ts,g)) Q=Q ts g:=rfl
theorem yJ(t:T):oQ (some t)=.ok (.tr t):=rfl
theorem jS(i:Nat)(μ:Mu)(Q:R->Mu->Prop):Y.dC i μ Q=jI (tu μ[i]? i) fun r=>Q r μ:=rfl
theorem gg(r1 r2:R)(μ:Mu)(Q:R->Mu->Prop):Y.wF r1 r2 μ Q=jI (tT (cont μ r1) (cont μ r2)) fun r=>Q r μ:=rfl
theorem DJ(r1 r2:R)(μ:Mu)(Q:R->Mu->Prop):Y.du r1 r2 μ Q=jI (A7 (cont μ r1) (cont μ r2)) fun r=>Q r μ:=rfl
theorem nO(t:T)(μ:Mu)(Q:R->Mu->Prop):Y.xE t μ Q=jI (pC t) fun r=>Q r μ:=rfl
theorem GV(ue:UE)(ul uh:UO)(μ:Mu)(Q:R->Mu->Prop):Y.zQ ue ul uh μ Q=ue μ fun r μ1=>ul μ1 fun lo μ2=>uh μ2 fun hi μ3=>jI (DE (cont μ3 r.d) lo hi) fun r=>Q r μ3:=rfl
theorem Bk(ue:UE)(μ:Mu)(Rt:List T->Option (Nat×List T)->Mu->Prop):Y.wC ue μ Rt=ue μ fun r μ'=>Ej (Bd r μ') fun ts g=>Rt ts g μ':=rfl
theorem gT(n:Nat)(gs:ph)(r:R)(μ:Mu)(Q:Mu->Prop):Y.GA n gs r μ Q=(match sZ (cont μ r.d) with|some ts=>ts.length=n/\gs ts μ Q|none=>False):=rfl
theorem mV(ue:UE)(μ:Mu)(Q:Bool->Mu->Prop):Y.uy ue μ Q=ue μ fun r μ'=>match uS r with|some b=>Q b μ'|none=>False:=rfl
theorem GX(t:T)(i:Nat):tu (some (.tr t)) i=.ok (.tr t):=rfl
theorem Hz(t:T)(i:Nat):tu (some (.bx t)) i=.ok (.br i):=rfl
theorem GR(t:T)(i:Nat):tu (some (.pb t)) i=.ok (.br i):=rfl
theorem Fg(i j:Int):tT (some (.int i)) (some (.int j))=.ok (.tr (.int (i+j))):=rfl
theorem add_l(xs ys:List T):tT (some (.lst xs)) (some (.lst ys))=.ck (xs.length+ys.length<=sizeLine) (.fr (.lst (xs++ys))):=rfl
theorem E9(xs ys:List T):tT (some (.tup xs)) (some (.tup ys))=.ck (xs.length+ys.length<=sizeLine) (.tr (.tup (xs++ys))):=rfl
theorem Hi(xs:List T)(i:Int):A7 (some (.lst xs)) (some (.int i))=oQ (cc xs i):=rfl
theorem HA(xs:List T)(i:Int):A7 (some (.tup xs)) (some (.int i))=oQ (cc xs i):=rfl
theorem E2(xs:List T):pC (.lst xs)=.ok (.tr (.int xs.length)):=rfl
theorem En(xs:List T):pC (.tup xs)=.ok (.tr (.int xs.length)):=rfl
theorem EO(xs:List T):pC (.dM xs)=.ok (.tr (.int xs.length)):=rfl
theorem Hj(xs:List T)(lo hi:Option Int):DE (some (.lst xs)) lo hi=.ok (.fr (.lst (Y.bJ xs lo hi))):=rfl
theorem GZ(xs:List T)(lo hi:Option Int):DE (some (.dM xs)) lo hi=.ok (.fr (.lst (Y.bJ xs lo hi))):=rfl
theorem HB(xs:List T)(lo hi:Option Int):DE (some (.tup xs)) lo hi=.ok (.tr (.tup (Y.bJ xs lo hi))):=rfl
end A3
open Builtin Builtin.Str
section
variable {prog:Program} {w:World} {A:Around} {E:Value->Shared->Prop} {h:Heap} {g:Array GenState} {d:Drawn} {t:Nat} {os:OsState} {a:Addr} {items:Array Value} {cn:Nat}
end
section
variable {prog:Program} {w:World} {K:Type} [DecidableEq K] {knd:KeyKind prog w K} {A:Around} {R:Result->Shared->Prop}
theorem fM:plainId "dict.update.loop"=true:=by decide +kernel
theorem e_:entryFor table "dict.update.loop"=some Builtin.«dict.update.loop»:=entryFor_of_fast (by kernel_rfl)
theorem pz(kvs:List (K×Value))(k:K)(v:Value):(stored kvs k v).length<=kvs.length+1:=by
 unfold stored;split
 ·rw[IW];lia
 ·rw[IX];simp
theorem jg:∀(more kvs:List (K×Value)),(merged kvs more).length<=kvs.length+more.length
 |[],kvs=>by unfold merged;simp
 |p::more,kvs=>by
  have h1:=jg more (stored kvs p.1 p.2);have h2:=pz kvs p.1 p.2;have e:merged kvs (p::more)=merged (stored kvs p.1 p.2) more:=rfl;rw[e,Jf];lia
end
end L2
namespace L2
open PySem PySem.Spec PyProof PyProof.Rows
namespace Y
end Y
namespace A
end A
namespace Z
section
variable {X:Cx} {CX:mC} {k:Nat} {f C:Addr} {fd:FuncData} {ps:List Str} {sp:Sp} {E:XK} {x m nm:Str} {p pos pos' apos:Pos} {e o i value:Expr} {es:List Expr} {ta tv td ty:TE} {t:TA}
theorem zx(hu:X.A.units+1<cLine)(ho:QE X o td)(hi:QE X i ty)(hs:C0 i:=by exact fun _ _=>rfl):QE X (.Subscript o i pos) (jZ td ty):=⟨Av hu ho.h hi.h hs⟩
theorem dput(hu:X.A.units+1<cLine)(ho:QE X o td)(hi:QE X i ty)(hv:QE X value tv)(hs:swapsWith value (some (.Subscript o i pos')) pos.line X.env=pure false:=by rfl):QS X (.Assign [.Subscript o i pos'] value pos) (mW td ty tv):=⟨Au hu ho.h hi.h hv.h hs⟩
end
end Z
namespace Ap
theorem jZ(td ty:TE)(σ:St)(H:Hp)(Q:VK):L2.jZ td ty σ H Q=td σ H fun x H1=>ty σ H1 fun y H2=>∃ a v,x=.ref a/\oZ H2 a y (some v)/\Q v H2:=rfl
theorem mW(td ty tv:TE)(D:Ends)(σ:St)(H:Hp):L2.mW td ty tv D σ H=tv σ H fun v H1=>td σ H1 fun x H2=>ty σ H2 fun y H3=>∃ a H4,x=.ref a/\p8 H3 a y v H4/\D.nx σ H4:=rfl
end Ap
section
variable {prog:Program} {w:World} {A:Around} {E:Value->Shared->Prop} {s:Shared} {K:Oe} {a:Addr} {D:List (Str×List Str)} {k:Str} {tk:Tok}
end
namespace Y
end Y
namespace A
end A
namespace Y
end Y
namespace A
end A
namespace Y
end Y
namespace A
end A
open PySem PySem.Spec PyProof PyProof.Rows PySem.W
namespace SP
section
variable (k:Nat->Int)
def R(i j:Nat):Prop:=k i<k j\/(k i=k j/\i<j)
variable {k}
theorem R.le{a b:Nat}(h:R k a b):k a<=k b:=by unfold R at h;lia
end
structure PI (n m:Nat) (p:Array Nat) (a:List Nat):Prop where
 eq:p.toList=a++List.range' m (n-m)
 perm:a.Perm (List.range m)
 le:m<=n
section
variable {n m:Nat} {p:Array Nat} {a:List Nat}
theorem PI.len(h:PI n m p a):a.length=m:=by rw[h.perm.length_eq,Js]
theorem PI.lt(h:PI n m p a){x:Nat}(hx:x∈a):x<m:=Km.mp (h.perm.mem_iff.mp hx)
theorem PI.size(h:PI n m p a):p.size=n:=by
 have:=h.len;have:=h.le;rw[<- JT,h.eq,IX,JF,h.len];lia
theorem PI.at(h:PI n m p a){i:Nat}{x:Nat}(hi:a[i]?=some x):p.getD i 0=x:=by
 have:p[i]?=some x:=by
  rw[<- J5,h.eq,Lb (Ji.mp hi).1];exact hi
 rw[MJ,this];rfl
theorem PI.nx(h:PI n m p a)(hm:m<n):p.getD m 0=m:=by
 have:p[m]?=some m:=by
  rw[<- J5,h.eq,Kk (by rw[h.len];exact Jb m),h.len,L3,List.getElem?_range' (by lia)];simp
 rw[MJ,this];rfl
theorem PI.step(h:PI n m p a)(hm:m<n):PI n (m+1) p (a++[m]):=by
 refine⟨?_,?_,hm⟩
 ·rw[h.eq,J6,show n-m=(n-(m+1))+1 by lia,Kb];rfl
 ·rw[K0];exact h.perm.append_right [m]
theorem PI.last(h:PI n m p a){b:List Nat}{y:Nat}(e:a=b++[y]):p.getD (m-1) 0=y:=by
 refine h.at ?_;have:=h.len;rw[e,IX] at this;simp only[Jf,JG] at this;rw[e,Kk (by lia),show m-1-b.length=0 by lia];rfl
end
theorem vF{α:Type}{xs:Array α}{k l:Nat}{y:α}(hy:xs[k]?=some y)(hl:l<=k):(bubble xs k (k-l)).toList=xs.toList.take l++y::(xs.toList.drop l).take (k-l)++xs.toList.drop (k+1):=by
 have hk:k<xs.size:=(J_.mp hy).1;have hL:xs.toList.length=xs.size:=by simp
 apply LZ;intro i;rw[J5,getElem?_bubble hk _ (by lia),show k-(k-l)=l by lia]
 rw[J6,L8];have ht:(xs.toList.take l).length=l:=by rw[JO];lia
 rw[ht];by_cases h1:i<l
 ·rw[Ja h1,IY (by lia),IY (by lia),Lu,Ja h1,J5]
 ·rw[IY h1];by_cases h2:i=l
  ·subst h2;rw[Ja rfl,L3,hy];rfl
  ·rw[IY h2,show i-l=(i-l-1)+1 by lia,L6,N0,L8]
   have hm:((xs.toList.drop l).take (k-l)).length=k-l:=by rw[JO,Kq];lia
   rw[hm];by_cases h3:i-l-1<k-l
   ·rw[Ja h3,Ja (by lia),Lu,Ja h3,K7,J5]
    congr 1;lia
   ·rw[IY h3,IY (by lia),K7,J5]
    congr 1;lia
theorem wo{α:Type}{xs:Array α}{i j:Nat}(hi:i<=j)(hj:j<=xs.size):(mirror xs i j ((j-i) / 2)).toList=xs.toList.take i++((xs.toList.drop i).take (j-i)).reverse++xs.toList.drop j:=by
 have hL:xs.toList.length=xs.size:=by simp
 apply LZ;intro k;rw[J5,getElem?_mirror_all hj,J6,L8];have ht:(xs.toList.take i).length=i:=by rw[JO];lia
 have hm:((xs.toList.drop i).take (j-i)).length=j-i:=by rw[JO,Kq];lia
 rw[ht];by_cases h1:k<i
 ·rw[Ja h1,IY (by lia),Lu,Ja h1,J5]
 ·rw[IY h1,L8,LF,hm];by_cases h2:k<j
  ·rw[Ja (by lia),Ja (by lia),List.getElem?_reverse (by lia),hm,Lu,Ja (by lia),K7,J5]
   congr 1;lia
  ·rw[IY (by lia),IY (by lia),K7,J5]
   congr 1;lia
theorem PI.rev{n m:Nat}{p:Array Nat}{b c:List Nat}(h:PI n m p (b++c)):PI n m (kas_rev p b.length m) (b++c.reverse):=by
 have hl:b.length+c.length=m:=by rw[<- h.len,IX]
 refine⟨?_,((List.reverse_perm c).append_left b).trans h.perm,h.le⟩;unfold kas_rev;rw[wo (by lia) (by rw[h.size];exact h.le),h.eq,J6 b c,List.take_left,List.drop_left,show m-b.length=c.length by lia,List.take_left,<- J6 b c,List.drop_left' (by rw[IX];exact hl)]
theorem lG{a:List Nat}{m:Nat}(h:a.length=m)(hm:1<=m):∃ b y,a=b++[y]:=by
 rcases List.eq_nil_or_concat a with rfl|⟨b,y,rfl⟩
 ·cases h;exact absurd hm (by decide)
 ·exact⟨b,y,by simp⟩
section
variable {k:Nat->Int} {n:Nat} {cmp:Nat->Nat->(Bool->Shared->Prop)->Shared->Prop} {I:Shared->Prop}
def mJ(k:Nat->Int)(n:Nat)(cmp:Nat->Nat->(Bool->Shared->Prop)->Shared->Prop)(I:Shared->Prop):Prop:=∀ i j C s,i<n->j<n->I s->(∀ s',I s'->C (decide (k i<k j)) s')->cmp i j C s
theorem ow(hc:mJ k n cmp I){p:Array Nat}{G:Nat->Shared->Prop}:∀(f m:Nat) (a:List Nat) (s:Shared),PI n m p a->1<=m->f=n-m->a.Pairwise (R k)->I s ->
  (∀ m' a' s',PI n m' p a'->m<=m'->a'.Pairwise (R k)->I s'->(∀ b y,a'=b++[y]->m'<n->k m'<k y)->G m' s')->(kas_asc p f m).kasWp cmp G s
 |0,m,a,s,h,h1,hf,hp,hI,g=>g m a s h (Jb m) hp hI fun _ _ _ hl=>by have:=h.le;lia
 |f+1,m,a,s,h,h1,hf,hp,hI,g=>by
  have hm:m<n:=by lia
  obtain⟨b,y,e⟩:=lG h.len h1;show cmp (p.getD m 0) (p.getD (m-1) 0) _ s;rw[h.nx hm,h.last e];have hy:y<m:=h.lt (by rw[e];simp)
  refine hc m y _ s hm (by lia) hI fun s' hI'=>?_
  by_cases c:k m<k y
  ·rw[Jz c];exact g m a s' h (Jb m) hp hI' fun b' y' e' _=>by
    rw[e] at e';have:[y]=[y']:=(List.append_inj' e' rfl).2
    cases this;exact c
  ·rw[Jp c];refine ow hc f (m+1) (a++[m]) s' (h.step hm) (by lia) (by lia) ?_ hI' fun m' a' s2 h' hm' hp' hI2 gl=>g m' a' s2 h' (by lia) hp' hI2 gl
   refine Kz.mpr ⟨hp,by simp,fun x hx z hz=>?_⟩
   rw[Jh.mp hz];have hxm:=h.lt hx;have:k x<=k y:=by
    rw[e] at hx hp;rcases JN.mp hx with hx|hx
    ·exact ((Kz.mp hp).2.2 x hx y (by simp)).le
    ·rw[Jh.mp hx];exact NI _
   unfold R;lia
structure DI (k:Nat->Int) (b c:List Nat):Prop where
 De:b.Pairwise fun x y=>R k y x
 less:∀ y∈b,∀ x∈c,k x<k y
 one:∀ x∈c,∀ y∈c,k x=k y
 up:c.Pairwise (· < ·)
theorem DI.rise{b c:List Nat}(h:DI k b c):(b++c.reverse).reverse.Pairwise (R k):=by
 rw[List.reverse_append,List.reverse_reverse];refine Kz.mpr ⟨?_,Mi.mpr h.De,fun x hx y hy=>.inl (h.less y (Me.mp hy) x hx)⟩;exact Nt (fun {x y} hx hy hl=>.inr ⟨h.one x hx y hy,hl⟩) h.up
theorem DI.next{b c:List Nat}{x:Nat}(h:DI k b c)(hc:c≠[])(hx:∀ y∈c,k x<k y):DI k (b++c.reverse) [x]:=by
 refine⟨Kz.mpr ⟨h.De,Mi.mpr (Nt (fun {x y} hx hy hl=>.inr ⟨h.one x hx y hy,hl⟩) h.up),fun y hy z hz=>.inl (h.less y hy z (Me.mp hz))⟩,fun y hy z hz=>?_,fun y hy z hz=>?_,by simp⟩
 ·rw[Jh.mp hz];rcases JN.mp hy with hy|hy
  ·obtain⟨w,hw⟩:=Nh c hc;exact Int.lt_trans (hx w hw) (h.less y hy w hw)
  ·exact hx y (Me.mp hy)
 ·rw[Jh.mp hy,Jh.mp hz]
theorem DI.more{b c:List Nat}{x:Nat}(h:DI k b c)(he:∀ y∈c,k x=k y)(hc:c≠[])(hl:∀ y∈c,y<x):DI k b (c++[x]):=by
 refine⟨h.De,fun y hy z hz=>?_,fun y hy z hz=>?_,Kz.mpr ⟨h.up,by simp,fun y hy z hz=>by rw[Jh.mp hz];exact hl y hy⟩⟩
 ·rcases JN.mp hz with hz|hz
  ·exact h.less y hy z hz
  ·rw[Jh.mp hz];obtain⟨w,hw⟩:=Nh c hc;rw[he w hw];exact h.less y hy w hw
 ·rcases JN.mp hy with hy|hy<;>rcases JN.mp hz with hz|hz
  ·exact h.one y hy z hz
  ·rw[Jh.mp hz];exact (he y hy).symm
  ·rw[Jh.mp hy];exact he z hz
  ·rw[Jh.mp hy,Jh.mp hz]
theorem iu(hc:mJ k n cmp I){G:Array Nat×Nat×Nat->Shared->Prop}:∀(f:Nat) (p:Array Nat) (m q:Nat) (b c:List Nat) (s:Shared),PI n m p (b++c)->c.length=q+1->DI k b c->f=n-m->I s ->
  (∀ p' m' q' b' c' s',PI n m' p' (b'++c')->c'.length=q'+1->DI k b' c'->I s'->G (p',m',q') s')->(kas_desc f p m q).kasWp cmp G s
 |0,p,m,q,b,c,s,h,hl,hd,hf,hI,g=>g p m q b c s h hl hd hI
 |f+1,p,m,q,b,c,s,h,hl,hd,hf,hI,g=>by
  have hm:m<n:=by lia
  obtain⟨c0,y,e⟩:=lG hl (by lia)
  have hbl:b.length+(q+1)=m:=by rw[<- hl,<- IX,h.len]
  have ne:c≠[]:=by rw[e];simp
  have hy:y∈c:=by rw[e];simp
  have hya:y<m:=h.lt (Jw _ hy);have e1:p.getD m 0=m:=h.nx hm;have e2:p.getD (m-1) 0=y:=h.last (b:=b++c0) (by rw[e,J6])
  show cmp (p.getD m 0) (p.getD (m-1) 0) _ s;rw[e1,e2];refine hc m y _ s hm (by lia) hI fun s' hI'=>?_
  by_cases c1:k m<k y
  ·rw[Jz c1];have hx:∀ z∈c,k m<k z:=fun z hz=>by rw[hd.one z hz y hy];exact c1
   show KasT.kasWp cmp (if q > 0 then _ else _) G s'
   by_cases hq:q > 0
   ·rw[Ja hq,show m-(q+1)=b.length by lia]
    exact iu hc f _ (m+1) 0 (b++c.reverse) [m] s' (h.rev.step hm) rfl (hd.next ne hx) (by lia) hI' g
   ·rw[IY hq];have e3:c.reverse=c:=by
     have:c.length=1:=by lia
     obtain⟨z,rfl⟩:=KO.mp this;rfl
    exact iu hc f p (m+1) 0 (b++c.reverse) [m] s' (by rw[e3];exact h.step hm) rfl (hd.next ne hx) (by lia) hI' g
  ·rw[Jp c1];show cmp y m _ s';refine hc y m _ s' (by lia) hm hI' fun s2 hI2=>?_
   by_cases c2:k y<k m
   ·rw[Jz c2];exact g p m q b c s2 h hl hd hI2
   ·rw[Jp c2];refine iu hc f p (m+1) (q+1) b (c++[m]) s2 (by rw[<- J6];exact h.step hm) (by rw[IX,hl];rfl) (hd.more (fun z hz=>?_) ne fun z hz=>h.lt (Jw _ hz)) (by lia) hI2 g
    rw[hd.one z hz y hy];lia
theorem rm(hc:mJ k n cmp I){G:Nat×Array Nat->Shared->Prop}{m:Nat}{p:Array Nat}{a:List Nat}{s:Shared}(h:PI n m p a)(h1:1<=m)(hr:a.reverse.Pairwise (R k))(hI:I s)
  (g:∀ m' p' a' s',PI n m' p' a'->1<=m'->a'.Pairwise (R k)->I s'->G (m',p') s'):(kas_tail3 m n p).kasWp cmp G s:=by
 unfold kas_tail3;rw[LM];have hv:=PI.rev (b:=[]) (c:=a) h;exact ow hc (n-m) m a.reverse s hv h1 rfl hr hI fun m' a' s' h' hm' hp' hI' _=>g m' _ a' s' h' (by lia) hp' hI'
theorem rA(hc:mJ k n cmp I){G:Nat×Array Nat->Shared->Prop}{m:Nat}{p:Array Nat}{a:List Nat}{s:Shared}(h:PI n m p a)(hm:m<n)(hd:DI k a [m])(hI:I s)
  (g:∀ m' p' a' s',PI n m' p' a'->1<=m'->a'.Pairwise (R k)->I s'->G (m',p') s'):(kas_descPart m n p).kasWp cmp G s:=by
 unfold kas_descPart;rw[LM];refine iu hc (n-(m+1)) p (m+1) 0 a [m] s (h.step hm) rfl hd rfl hI fun p' m' q' b' c' s' h' hl' hd' hI'=>?_;have hbl:b'.length+(q'+1)=m':=by rw[<- hl',<- IX,h'.len]
 show KasT.kasWp cmp (if q' > 0 then _ else _) G s'
 by_cases hq:q' > 0
 ·rw[Ja hq];show (kas_tail3 m' n (kas_rev p' (m'-(q'+1)) m')).kasWp cmp G s';rw[show m'-(q'+1)=b'.length by lia]
  exact rm hc h'.rev (by lia) hd'.rise hI' g
 ·rw[IY hq];have e3:c'.reverse=c':=by
   have:c'.length=1:=by lia
   obtain⟨z,rfl⟩:=KO.mp this;rfl
  exact rm hc h' (by lia) (by rw[<- e3];exact hd'.rise) hI' g
theorem vm(hc:mJ k n cmp I){G:Nat×Array Nat->Shared->Prop}{s:Shared}(hn:1<=n)(hI:I s)
  (g:∀ m' p' a' s',PI n m' p' a'->1<=m'->a'.Pairwise (R k)->I s'->G (m',p') s'):(kas_count n (List.toArray (List.range n))).kasWp cmp G s:=by
 unfold kas_count;rw[LM];have h0:PI n 1 (List.toArray (List.range n)) [0]:=by
  refine⟨?_,List.Perm.refl _,hn⟩;show List.range n=[0]++List.range' 1 (n-1);rw[Ky,show n=(n-1)+1 by lia,Kb];rfl
 refine ow hc (n-1) 1 [0] s h0 (Jb 1) rfl (by simp) hI fun m a s' h hm hp hI' gl=>?_
 show KasT.kasWp cmp (if (m == n)=true then _ else _) G s'
 by_cases e:m=n
 ·subst e;rw[Ja (K3 m)];exact g m _ a s' h hm hp hI'
 ·rw[IY (by simpa using e)]
  have hmn:m<n:=by have:=h.le;lia
  obtain⟨b,y,ea⟩:=lG h.len hm;have ky:=gl b y ea hmn;have hya:y<m:=h.lt (by rw[ea];simp)
  by_cases h2:m > 1
  ·rw[Ja h2];obtain⟨x,r,ex⟩:∃ x r,a=x::r:=by
    cases a with
    |nil=>have:=h.len;rw[JG] at this;lia
    |cons x r=>exact⟨x,r,rfl⟩
   have hxa:x<m:=h.lt (by rw[ex];simp)
   show cmp ((List.toArray (List.range n)).getD 0 0) ((List.toArray (List.range n)).getD (m-1) 0) _ s';rw[h.at (i:=0) (x:=x) (by rw[ex];rfl),h.last ea]
   refine hc x y _ s' (by lia) (by lia) hI' fun s2 hI2=>?_
   by_cases c:k x<k y
   ·rw[Jz c];exact g m _ a s2 h hm hp hI2
   ·rw[Jp c];have hv:=PI.rev (b:=[]) (c:=a) h;refine rA hc hv hmn ⟨Mi.mpr hp,fun z hz w hw=>?_,fun z hz w hw=>by rw[Jh.mp hz,Jh.mp hw],by simp⟩ hI2 g
    rw[Jh.mp hw];have hz':=Me.mp hz;have hxz:k x<=k z:=by
     rw[ex] at hz' hp;rcases Jg.mp hz' with rfl|hz'
     ·exact NI _
     ·exact ((JY.mp hp).1 z hz').le
    lia
  ·rw[IY h2];have hm1:m=1:=by lia
   have hb:b=[]:=by
    have:=h.len;rw[ea,IX,hm1] at this;simp only[Jf,JG] at this;exact List.length_eq_zero_iff.mp (by lia)
   subst hb;refine rA hc h hmn ⟨by rw[ea];simp,fun z hz w hw=>?_,fun z hz w hw=>by rw[Jh.mp hz,Jh.mp hw],by simp⟩ hI' g
   rw[Jh.mp hw];rw[ea] at hz;rw[Jh.mp hz];exact ky
theorem iG(hc:mJ k n cmp I){G:Nat->Shared->Prop}{t:Nat}{p:Array Nat}{a:List Nat}(h:PI n t p a)(ht:t<n)(hp:a.Pairwise (R k)):∀(f l r:Nat) (s:Shared),l<=r->r<=t->r-l<=f->(∀ i x,i<l->a[i]?=some x->k x<=k t)->(∀ i x,r<=i->a[i]?=some x->k t<k x)->I s ->
  (∀ l' s',l'<=t->(∀ i x,i<l'->a[i]?=some x->k x<=k t)->(∀ i x,l'<=i->a[i]?=some x->k t<k x)->I s'->G l' s')->(kas_place p t f l r).kasWp cmp G s
 |0,l,r,s,h1,h2,h3,hlo,hhi,hI,g=>g l s (by lia) hlo (fun i x hi e=>hhi i x (by lia) e) hI
 |f+1,l,r,s,h1,h2,h3,hlo,hhi,hI,g=>by
  show KasT.kasWp cmp (if l >= r then _ else _) G s
  by_cases hlr:l >= r
  ·rw[Ja hlr];exact g l s (by lia) hlo (fun i x hi e=>hhi i x (by lia) e) hI
  ·rw[IY hlr];have hmid:(l+r) / 2<a.length:=by rw[h.len];lia
   have em:a[(l+r) / 2]?=some a[(l+r) / 2]:=IV hmid;have hma:a[(l+r) / 2]<t:=h.lt (JV hmid);have mono:∀ i j x y,i<=j->a[i]?=some x->a[j]?=some y->k x<=k y:=fun i j x y hij ex ey=>by
    rcases KP i j with c|c
    ·obtain⟨hi,rfl⟩:=Ji.mp ex;obtain⟨hj,rfl⟩:=Ji.mp ey;exact (List.pairwise_iff_getElem.mp hp i j hi hj c).le
    ·have:i=j:=Nat.le_antisymm hij c;subst this;rw[ex] at ey;cases ey;exact NI _
   show cmp (p.getD t 0) (p.getD ((l+r) / 2) 0) _ s;rw[h.nx ht,h.at em];refine hc t _ _ s ht (by lia) hI fun s' hI'=>?_
   by_cases c:k t<k a[(l+r) / 2]
   ·rw[Jz c];exact iG hc h ht hp f l ((l+r) / 2) s' (by lia) (by lia) (by lia) hlo (fun i x hi e=>Int.lt_of_lt_of_le c (mono _ i _ x hi em e)) hI' g
   ·rw[Jp c];exact iG hc h ht hp f ((l+r) / 2+1) r s' (by lia) h2 (by lia) (fun i x hi e=>Int.le_trans (mono i _ x _ (by lia) e em) (by lia)) hhi hI' g
theorem vQ(hc:mJ k n cmp I){G:Array Nat->Shared->Prop}:∀(f:Nat) (p:Array Nat) (t:Nat) (a:List Nat) (s:Shared),PI n t p a->a.Pairwise (R k)->f=n-t->I s ->
  (∀ p' a' s',PI n n p' a'->a'.Pairwise (R k)->I s'->G p' s')->(kas_bin f p t).kasWp cmp G s
 |0,p,t,a,s,h,hp,hf,hI,g=>by
  have:t=n:=by have:=h.le;lia
  subst this;exact g p a s h hp hI
 |f+1,p,t,a,s,h,hp,hf,hI,g=>by
  have ht:t<n:=by lia
  show KasT.kasWp cmp ((kas_place p t t 0 t).bind _) G s;rw[LM];refine iG hc h ht hp t 0 t s (JC _) (Jb _) (by lia) (fun i x hi _=>absurd hi (Nat.not_lt_zero i)) (fun i x hi e=>?_) hI fun l s' hl hlo hhi hI'=>?_
  ·have:=(Ji.mp e).1;rw[h.len] at this;lia
  ·have et:p[t]?=some t:=by
    rw[<- J5,h.eq,Kk (by rw[h.len];exact Jb t),h.len,L3,List.getElem?_range' (by lia)];simp
   have hla:l<=a.length:=by rw[h.len];exact hl
   have e1:(bubble p t (t-l)).toList=(a.take l++t::a.drop l)++List.range' (t+1) (n-(t+1)):=by
    rw[vF et hl,h.eq,List.take_append_of_le_length hla,List.drop_append_of_le_length hla,show n-t=(n-(t+1))+1 by lia,Kb]
    have e2:(a.drop l).length=t-l:=by rw[Kq,h.len]
    have e3:∀ r:List Nat,(a++t::r).drop (t+1)=r:=fun r=>by
     rw[show a++t::r=(a++[t])++r by simp]
     exact List.drop_left' (by rw[IX,h.len];rfl)
    rw[List.take_left' e2,e3]
   have hP:PI n (t+1) (bubble p t (t-l)) (a.take l++t::a.drop l):=by
    refine⟨e1,?_,ht⟩;have:(a.take l++t::a.drop l).Perm (a++[t]):=by
     have h1:(a.take l++t::a.drop l).Perm (t::(a.take l++a.drop l)):=Mf;rw[KR] at h1;exact h1.trans (List.perm_append_singleton t a).symm
    rw[K0];exact this.trans (h.perm.append_right [t])
   refine vQ hc f _ (t+1) _ s' hP ?_ (by lia) hI' g
   have hp1:=(KR l a) ▸ hp;obtain⟨q1,q2,q3⟩:=Kz.mp hp1;refine Kz.mpr ⟨q1,JY.mpr ⟨fun x hx=>?_,q2⟩,fun x hx y hy=>?_⟩
   ·obtain⟨i,hi⟩:=NR.mp hx;rw[K7] at hi;exact .inl (hhi (l+i) x (by lia) hi)
   ·rcases Jg.mp hy with rfl|hy
    ·obtain⟨i,hi⟩:=NR.mp hx;rw[Lu] at hi
     split at hi
     ·rename_i hil;have:=hlo i x hil hi;have hxt:=h.lt (Mx hx);unfold R;lia
     ·cases hi
    ·exact q3 x hx y hy
theorem qx(hc:mJ k n cmp I){G:Array Nat->Shared->Prop}{s:Shared}(hn:1<=n)(hI:I s)(g:∀ p s',p.toList.Perm (List.range n)->p.toList.Pairwise (R k)->I s'->G p s'):(kas_sort n).kasWp cmp G s:=by
 unfold kas_sort;rw[LM];have fin:∀ p a s',PI n n p a->a.Pairwise (R k)->I s'->G p s':=fun p a s' h hp hI'=>by
  have e:p.toList=a:=by rw[h.eq,L3,List.range'_zero,J7]
  refine g p s' ?_ ?_ hI'<;>rw[e]
  ·exact h.perm
  ·exact hp
 refine vm hc hn hI fun m p a s' h h1 hp hI'=>?_;show KasT.kasWp cmp (if m<n then _ else _) G s'
 by_cases hm:m<n
 ·rw[Ja hm];show (kas_bin (n-max m 1) p (max m 1)).kasWp cmp G s';rw[show max m 1=m by lia]
  exact vQ hc (n-m) p m a s' h hp rfl hI' fin
 ·rw[IY hm];have:m=n:=by have:=h.le;lia
  subst this;exact fin p a s' h hp hI'
end
end SP
variable{name q x:Str}{i:Int}{y:Int×Int}{α:Type}{l:List (Int×Int)}{t:Addr->Obj->List (Key×V)->TE}{A:Around}{N:List Str}{σf:List (Option V)}{scope:Scope}{c' f it kS:Addr}{cl:List (Str×Addr)}{params:Arguments}{body e:Expr}{ctv pm:Value}{Q:Option Value->Shared->Prop}{H H1:Hp}{o:Obj}{h h':Heap}{P:PySem.Fin->Shared->Prop}{kpos lpos p1 p2 p3 pos:Pos}{us:List Value}{kz:List Int}{D e1 ep:Nat}{xs:List V}{X:Cx}{K:Oe}{B:bf}{vs:List (Key×Value)}{ts:List T}{mg:Str->Option Value}{w:World}{es:Array DictEntry}{kvs:List (Key×V)}{tk:Tok}
abbrev Cu(qual:Str)(scope:Scope)(L f:Addr)(cd:Value)(cl:List (Str×Addr)):Env:=PySem.W.envX qual scope L f cd cl
def rB(X:Cx)(A:Around)(N:List Str)(qual:Str)(scope:Scope)(f:Addr)(cd:Value)(cl:List (Str×Addr))(s:Shared)(H:Hp):Cx where
 prog:=X.prog
 w:=X.w
 K:=X.K
 mg:=X.mg
 base:=X.base
 A:=A.deeper (Cu qual scope s.heap.objs.size f cd cl)
 N:=N
 s₀:=s
 H₀:=H
 env:=Cu qual scope s.heap.objs.size f cd cl
 outer:=X.stack
 stack:=Cu qual scope s.heap.objs.size f cd cl::X.stack
 ex:=[]
 calm:=true
 fn:=fun _=>false
 pn:=[]
 xe:=fun _ _=>False
section
variable {X:Cx} {pins:List (Addr×Obj)} {σ:St} {H:Hp} {s:Shared}
theorem yq(I:Inv X pins σ H s)(hA:A.frames=some X.stack)(hd:A.handled=none){qual:Str}{v:V}{u:Value}{cd:Value}{h₁:Heap}{tk:Nat}
  (hk:scope.kind=.function) (rv:RelV v u) (hloc:scope.names.lookup x=some .local) (hns:h₁.Ns s.heap.objs.size (fun y=>[(x,u)].reverse.lookup y)) (old:∀ b o,s.heap.get? b=some o->h₁.get? b=some o)
  (hlen:σf.length=N.length) (hcl:∀ y c,cl.lookup y=some c->X.env.cells.lookup y=some c) (hhas:∀ y,(scope.names.lookup y=some .cell\/scope.names.lookup y=some .free)->∃ c,cl.lookup y=some c)
  (hf:∀(i:Nat) (y:Str) (v:V),N[i]?=some y->σf[i]?=some (some v)->scope.names.lookup y=some .free/\∃ c u,cl.lookup y=some c/\s.heap.IsCell c (some u)/\RelV v u) :
  Inv (rB X A (x::N) qual scope f cd cl s H) [] (some v::σf) H {s with heap:=h₁,toks:=tk}:=by
 have noA:∀ b:Addr,b∉(rB X A (x::N) qual scope f cd cl s H).ex:=fun b z=>absurd (show b∈([]:List Addr) from z) (by simp)
 refine⟨⟨I.ok.mod,hk,rfl,rfl,Jb _,fun y z c e1 e2=>I.ok.inj y z c (hcl y c e1) (hcl z c e2),hhas,fun y c z _=>(by cases z),fun _=>hd,Around.frames_deeper hA,.inr ⟨rfl,rfl⟩,fun b z=>absurd z (noA b),I.bs,Jj I.ok.Aa I.sz,fun b _ _=>noA b,fun b z=>absurd z (noA b),I.stack,I.i4,I.ok.tabs.un I.base⟩,
  rfl,I.bare,Un.kept old,⟨_,hns,fun i y w e1 e2 e3=>?_⟩,fun y c e=>?_,I.aO.fresh (Jb _),fun y c e=>I.dc y c (hcl y c e),fun p hp=>absurd (show p∈([]:List (Addr×Obj)) from hp) (by simp),I.aO.kept old,?_⟩
 ·cases i with
  |zero =>
   have e1':some x=some y:=e1;have e2':some (some v)=some (some w):=e2
   cases e1';cases e2'
   exact⟨u,rv,.inl ⟨hloc,by simp⟩⟩
  |succ i =>
   obtain⟨h1,c,u',h2,h3,h4⟩:=hf i y w e1 e2;obtain⟨o,ho,hd'⟩:=h3;exact⟨u',h4,.inr ⟨.inr h1,c,h2,o,old _ _ ho,hd'⟩⟩
 ·obtain⟨v',o,ho,hd'⟩:=I.cell y c (hcl y c e);exact⟨v',o,old _ _ ho,hd'⟩
 ·show (some v::σf).length=(x::N).length;rw[Jf,Jf,hlen]
theorem xh(I:Inv X pins σ H s){k:Nat}(hr:bU (k+1) A)(hA:A.frames=some X.stack){qual:Str}{v:V}{u:Value}{f:Addr}{t:TE}{Q:VK}
  (hk:scope.kind=.function) (hco:scope.isCoroutine=false) (hgen:scope.isGenerator=false) (hcell:∀ y∈scope.names,y.2≠.cell) (rv:RelV v u) (hloc:scope.names.lookup x=some .local)
  (ho:s.heap.get? f=some (PySem.W.kla_obj "<lambda>" qual params body scope cl pm c' ctv)) (hcd:s.heap.CodeRec (.ref c') qual)
  (hbind:∀ u,bindArgs (PySem.W.kla_fn "<lambda>" qual params body scope cl pm (.ref c') ctv) ⟨[u],[]⟩=pure [(x,u)])
  (hlen:σf.length=N.length) (hcl:∀ y c,cl.lookup y=some c->X.env.cells.lookup y=some c) (hhas:∀ y,(scope.names.lookup y=some .cell\/scope.names.lookup y=some .free)->∃ c,cl.lookup y=some c)
  (hf:∀(i:Nat) (y:Str) (v:V),N[i]?=some y->σf[i]?=some (some v)->scope.names.lookup y=some .free/\∃ c u,cl.lookup y=some c/\s.heap.IsCell c (some u)/\RelV v u)
  (hb:PE (rB X A (x::N) qual scope f (.ref c') cl s H) body t) (hq:t (some v::σf) H Q) :
  wpAny (model X.prog X.w) A (call (.ref f) [u]) (EP X pins σ Q) (fun _ _=>False) s:=by
 refine NU (PySem.W.kla_callFunE hr.depth ho rfl hco hgen rfl hcd ?_);rw[hbind];refine IZ (wpAny_newFunctionEnv hcell (fun y hy=>by rw[Jh.mp hy];exact hloc) (fun h₁ hns hsb=>⟨I.nolimit.fresh _ hsb,?_⟩) hk)
 have old:∀ b o,s.heap.get? b=some o->h₁.get? b=some o:=fun b o e=>hsb.extBut b o (Jq (Jc e)) (IU _ e);have J:=yq (tk:=s.toks+1) (qual:=qual) (f:=f) (cd:=.ref c') I hA hr.hd hk rv hloc hns old hlen hcl hhas hf;refine PySem.W.kla_codeExpr (JW (hb [] _ _ H Q J hq) (fun w s' h=>?_) fun _ _ h=>h.elim);obtain⟨v',H',J',r',q'⟩:=h;exact I.after ⟨v',H',J'.os,J'.bare,J'.base,J'.aO,r',q'⟩
end
inductive dD:Hp->Hp->Prop
 |refl {H:Hp}:dD H H
 |more {H H1:Hp} {p:Addr} {o:HO}:dD H H1->H1 p=none->dD H (upd H1 p o)
theorem dD.same(g:dD H H1):cq H H1:=by
 induction g with
 |refl=>exact cq.refl _
 |more g n ih=>exact fun b o e=>by rw[af (ax (ih b o e) n)];exact ih b o e
theorem dD.trans{H2:Hp}(a:dD H H1)(b:dD H1 H2):dD H H2:=by
 induction b with
 |refl=>exact a
 |more _ n ih=>exact .more ih n
theorem gY{j:Int}{ti tj:Tok}{c:Value}:∀ l:List Value,TriplesOk l->TriplesOk (l++[.int i ti,.int j tj,c])
 |[],_=>trivial
 |.int _ _::.int _ _::_::r,h=>gY r (show TriplesOk r from h)
theorem kH{p:Pos}{j:Int}{ti tj:Tok}{c cv:Value}:∀ l:List Value,TriplesOk l->codeAmong p (l++[.int i ti,.int j tj,c])=some cv->codeAmong p l=some cv\/cv=c
 |[],_,e=>by
  have e':(if (i == p.line && j == p.col)=true then some c else codeAmong p [])=some cv:=e
  by_cases z:(i == p.line && j == p.col)=true
  ·rw[Ja z] at e';cases e';exact .inr rfl
  ·rw[IY z] at e';cases e'
 |.int a ta::.int b tb::d::r,h,e=>by
  have e':(if (a == p.line && b == p.col)=true then some d else codeAmong p (r++[.int i ti,.int j tj,c]))=some cv:=e
  show (if (a == p.line && b == p.col)=true then some d else codeAmong p r)=some cv\/_
  by_cases z:(a == p.line && b == p.col)=true
  ·rw[Ja z] at e' ⊢;exact .inl e'
  ·rw[IY z] at e' ⊢;exact kH r (show TriplesOk r from h) e'
theorem rT(q:Str)(more:Array Value):wG (#[.str q 0]++more)=q:=by
 unfold wG;rw[M5];rfl
structure g_ (H:Hp) (f:Addr) (q:Str) (params:Arguments) (body:Expr) (scope:Scope) (cl:List (Str×Addr)) (c':Addr) (pm ctv:Value):Prop where
 fn:H f=some (.dk (PySem.W.kla_obj "<lambda>" q params body scope cl pm c' ctv) (.own f))
 cd:A9 H q (.ref c')
section
variable {X:Cx} {pins:List (Addr×Obj)} {σ:St} {H:Hp} {s:Shared} {E:Value->Shared->Prop}
theorem g_.up(x:g_ H f q params body scope cl c' pm ctv)(g:∀ b o u,H b=some (.dk o u)->H1 b=some (.dk o u)):g_ H1 f q params body scope cl c' pm ctv:=
 ⟨g _ _ _ x.fn,let ⟨c,oc,vs,t,e1,e2,e3⟩:=x.cd;⟨c,oc,vs,t,e1,g _ _ _ e2,e3⟩⟩
theorem g_.get(x:g_ H f q params body scope cl c' pm ctv)(I:Inv X pins σ H s):
  s.heap.get? f=some (PySem.W.kla_obj "<lambda>" q params body scope cl pm c' ctv)/\s.heap.CodeRec (.ref c') q:=by
 obtain⟨c,oc,vs,t,e1,e2,e3,e4⟩:=x.cd;exact⟨(I.aO f _ x.fn).1,c,oc,vs,t,e1,(I.aO c _ e2).1,e3,e4⟩
theorem Inv.vU{t':Nat}(I:Inv X pins σ H s)(k:∀ b u,s.heap.get? b=some u->h'.get? b=some u)(hp:s.heap.objs.size<=f)(e:h'.get? f=some o):Inv X pins σ (upd H f (.dk o (.own f))) {s with heap:=h',toks:=t'}:=
 I.laid k hp ⟨e,o,e⟩
theorem xt(I:Inv X pins σ H s){c P:Addr}(hx:x∈d7)(ht:PySem.W.tabIn X.K x=some (c,P))(hcode:X.env.code=.ref c)(hq:X.env.qual=x++".<locals>."){Q:Value->Shared->Prop}
  (hdef:defaultsOf params X.env=([],[])) (hcl:closureFor scope X.env=pure cl)
  (h:∀ f c' pm ctv H1 s1,dD H H1->Inv X pins σ H1 s1->g_ H1 f ((x++".<locals>.")++"<lambda>") params body scope cl c' pm ctv->Q (.ref f) s1) :
  wpAny (model X.prog X.w) X.A (eval (.Lambda params body scope pos) X.env) Q E s:=by
 have hm:(c,P,(x++".<locals>.")++"<lambda>")∈bX X.K:=LO.mpr ⟨x,hx,by rw[ht];rfl⟩
 obtain⟨more,hP⟩:=(I.ok.tabs.un I.base) _ hm;have C:PySem.W.CodeHd s.heap c P:=(I.ok.mod.codes _ hm).keeps I.bk;obtain⟨qs,eP,tr,fa⟩:=I.aO P _ hP;have hns:=I.ok.mod.glob.keeps I.bk;have hgP:mainGlobals≠P:=fun z=>by
  obtain⟨o,es,ep,e,_⟩:=I.ok.mod.glob;have:=(I.bs _ _ e).2;rw[z,hP] at this;cases this
 have hb:s.heap.BuiltinsAt X.mg P:=by
  obtain⟨bm,ob,b1,b2,b3,b4,b5⟩:=I.ok.mod.bm;refine⟨bm,ob,b1,b2,fun z=>?_,fun z=>?_,I.bk _ _ b3,b4,b5⟩
  ·obtain⟨o,es,ep,e,hd,_⟩:=I.ok.mod.glob;rw[z,e] at b3;cases b3;rw[hd] at b5;cases b5.2
  ·have:=(I.bs _ _ b3).2;rw[z,hP] at this;cases this
 refine PySem.W.kla_eval hdef ?_;rw[hq]
 cases ca:codeAmong pos qs.toList with
 |some cv =>
  have il:=fa pos cv ca;rw[rT] at il;obtain⟨c',oc,vs,t,rfl,e2,e3⟩:=il;refine PySem.W.kla_makeFunctionHit hcl I.ok.glob hns hcode C eP tr ca hb fun ctv h' tk hk hsz=>?_;have n0:H h'.objs.size=none:=I.aO.fresh hsz;have J:=I.vU (f:=h'.objs.size) (t':=tk) (h':=h'.push {cls:=.type "function",data:=.func (PySem.W.kla_fn "<lambda>" ((x++".<locals>.")++"<lambda>") params body scope cl ((X.mg "__name__").getD .none) (.ref c') ctv)}) (fun b u e=>IU _ (hk b u e)) hsz (Je _ rfl);exact h _ c' _ ctv _ _ (.more .refl n0) J ⟨ai,c',oc,vs,t,rfl,by rw[af (ax e2 n0)];exact e2,e3⟩
 |none =>
  refine PySem.W.kla_makeFunction hcl I.ok.glob hns hcode C eP tr ca hgP hb fun c' ctv h' tk hx2 hge hlt hrec htb=>?_;obtain⟨c2,oc,vs,t,e2,hoc,hd,hv⟩:=hrec;cases e2;have nP:P≠c':=fun z=>absurd (Jc eP) (by rw[z];exact NX.mpr hge)
  have n1:H c'=none:=I.aO.fresh hge;have keep:∀ b u,b≠P->s.heap.get? b=some u->h'.get? b=some u:=fun b u hb' e=>hx2 b u hb' e;have H1ne:∀ b u,H b=some u->upd H c' (.dk oc (.own c')) b=some u:=fun b u e=>by rw[af (ax e n1)];exact e
  have hoP:∀ y,H P≠some (.own y):=fun y z=>by rw[hP] at z;cases z
  have J1:Inv X pins σ (upd H c' (.dk oc (.own c'))) {s with heap:=h',toks:=tk}:=by
   refine I.un ⟨fun b o e n _ _=>keep b o (fun z=>by rw[z,hP] at n;cases n) e,fun b o e n _ _=>⟨o.slots,keep b o (fun z=>by rw[z,hP] at n;cases n) e⟩,fun b o e n _=>?_,fun b o e _=>?_,fun b xs e=>H1ne b _ e,fun b o u e=>H1ne b _ e,fun b ps e=>⟨#[],by rw[H1ne b _ e,MG]⟩⟩ fun b u e=>?_
   ·rw[af (fun z=>absurd (Jc e) (by rw[z];exact NX.mpr hge))];exact n
   ·by_cases z:b=P
    ·rw[z];exact⟨_,htb⟩
    ·exact⟨o,keep b o z e⟩
   ·by_cases z:b=c'
    ·subst z;rw[ai] at e;cases e;exact⟨hoc,oc,hoc⟩
    ·rw[af z] at e;by_cases z2:b=P
     ·subst z2;rw[hP] at e;cases e;refine⟨_,htb,by rw[M5];exact gY _ tr,fun p cv hc=>?_⟩
      rw[M5] at hc;rcases kH _ tr hc with q|q
      ·obtain⟨c2,oc2,vs2,t2,g1,g2,g3⟩:=fa p cv q;exact⟨c2,oc2,vs2,t2,g1,H1ne _ _ g2,g3⟩
      ·rw[rT];exact⟨c',oc,vs,t,q,ai,hd,hv⟩
     ·refine (I.aO b u e).iL (fun c v hc q=>keep c v ?_ q) (fun c q=>H1ne c _ q) (fun c xs q=>H1ne c _ q) fun c _ _ q=>H1ne c _ q;rcases hc with rfl|hc
      ·exact z2
      ·exact fun z3=>hoP b (by rw[<- z3];exact hc)
  have n2:upd H c' (.dk oc (.own c')) h'.objs.size=none:=J1.aO.fresh (Jb _);have J:=J1.vU (f:=h'.objs.size) (t':=tk) (h':=h'.push (PySem.W.kla_obj "<lambda>" ((x++".<locals>.")++"<lambda>") params body scope cl ((X.mg "__name__").getD .none) c' ctv)) (fun b u e=>IU _ e) (Jb _) (Je _ rfl);exact h _ c' _ ctv _ _ (.more (.more .refl n1) n2) J ⟨ai,c',oc,vs,t,rfl,by rw[af (ax ai n2)];exact ai,hd,hv⟩
end
section
variable {α β:Type}
def ic(p:Int×α):List (Int×α)->List (Int×α)
 |[]=>[p]
 |q::r=>if p.1<=q.1 then p::q::r else q::ic p r
def fi:List (Int×α)->List (Int×α)
 |[]=>[]
 |p::r=>ic p (fi r)
abbrev DG(l:List (Int×α)):Prop:=l.Pairwise fun p q=>p.1<=q.1
def atK(a:Int)(l:List (Int×α)):List (Int×α):=l.filter fun p=>decide (p.1=a)
theorem gH(p:Int×α):∀ l,(ic p l).Perm (p::l)
 |[]=>.refl _
 |q::r=>by
  unfold ic;split
  ·exact .refl _
  ·exact ((gH p r).cons q).trans (List.Perm.swap p q r)
theorem fD:∀ l:List (Int×α),(fi l).Perm l
 |[]=>.refl _
 |p::r=>(gH p _).trans ((fD r).cons p)
theorem qG{p:Int×α}:∀{l:List (Int×α)},DG l->DG (ic p l)
 |[],_=>N1 _ _
 |q::r,h=>by
  obtain⟨h1,h2⟩:=JY.mp h;unfold ic;split
  ·rename_i c;exact JY.mpr ⟨fun z hz=>by
    rcases Jg.mp hz with rfl|hz
    ·exact c
    ·exact Int.le_trans c (h1 z hz),h⟩
  ·rename_i c;refine JY.mpr ⟨fun z hz=>?_,qG h2⟩;rcases Jg.mp ((gH p r).mem_iff.mp hz) with rfl|hz
   ·lia
   ·exact h1 z hz
theorem nU:∀ l:List (Int×α),DG (fi l)
 |[]=>List.Pairwise.nil
 |_::r=>qG (nU r)
theorem bu(a:Int)(p:Int×α)(l:List (Int×α)):atK a (p::l)=if p.1=a then p::atK a l else atK a l:=by
 unfold atK;rw[Nl];by_cases z:p.1=a
 ·rw[Ja z,Ja (Jz z)]
 ·rw[IY z,IY (by simp[z])]
theorem qw{a:Int}{p:Int×α}:∀{l:List (Int×α)},atK a (ic p l)=atK a (p::l)
 |[]=>rfl
 |q::r=>by
  unfold ic;split
  ·rfl
  ·rename_i c;rw[bu,qw,bu,bu,bu];by_cases z:p.1=a
   ·have z2:¬ q.1=a:=by lia
    simp only[z,z2,L0,KC]
   ·simp only[z,KC]
theorem nQ{a:Int}:∀ l:List (Int×α),atK a (fi l)=atK a l
 |[]=>rfl
 |p::r=>by
  show atK a (ic p (fi r))=_;rw[qw,bu,bu,nQ r]
theorem jo{a:Int}:∀{l:List (Int×α)},(∀ p∈l,a<p.1)->atK a l=[]
 |[],_=>rfl
 |p::r,h=>by
  have:=h p (Jl ..);rw[bu,IY (by lia),jo fun q hq=>h q (Jk _ hq)]
theorem kc:∀{l m:List (Int×α)},DG l->DG m->(∀ a,atK a l=atK a m)->l=m
 |[],[],_,_,_=>rfl
 |[],q::m,_,_,h=>by
  have:=h q.1;rw[bu,Ja rfl] at this;cases this
 |p::l,[],_,_,h=>by
  have:=h p.1;rw[bu,Ja rfl] at this;cases this
 |p::l,q::m,hl,hm,h=>by
  obtain⟨l1,l2⟩:=JY.mp hl;obtain⟨m1,m2⟩:=JY.mp hm;have e:p.1=q.1:=by
   rcases Int.lt_trichotomy p.1 q.1 with z|z|z
   ·have q1:=h p.1;rw[bu,Ja rfl,bu,IY (by lia),jo (l:=m) fun r hr=>by have:=m1 r hr;lia] at q1
    cases q1
   ·exact z
   ·have q1:=h q.1;rw[bu,IY (by lia),bu,Ja rfl,jo (l:=l) fun r hr=>by have:=l1 r hr;lia] at q1
    cases q1
  have q1:=h p.1;rw[bu,Ja rfl,bu,Ja e.symm] at q1;obtain⟨q2,q3⟩:=List.cons.inj q1;subst q2;congr 1;refine kc l2 m2 fun a=>?_;have q4:=h a;rw[bu,bu] at q4;by_cases z:p.1=a
  ·rw[Ja z,Ja z] at q4;exact (List.cons.inj q4).2
  ·rw[IY z,IY z] at q4;exact q4
theorem v_{l m:List (Int×α)}(hm:DG m)(h:∀ a,atK a m=atK a l):m=fi l:=kc hm (nU l) fun a=>by rw[h a,nQ]
abbrev DQ(R:α->β->Prop):List (Int×α)->List (Int×β)->Prop:=Paired fun p q=>p.1=q.1/\R p.2 q.2
theorem uL{R:α->β->Prop}{p:Int×α}{q:Int×β}(h:p.1=q.1/\R p.2 q.2){l:List (Int×α)}{m:List (Int×β)}(k:DQ R l m):DQ R (ic p l) (ic q m):=by
 induction k with
 |nil=>exact .cons h .nil
 |cons r t ih =>
  unfold ic;split
  ·rename_i z;rw[Ja (by rw[<- h.1,<- r.1];exact z)]
   exact .cons h (.cons r t)
  ·rename_i z;rw[IY (by rw[<- h.1,<- r.1];exact z)]
   exact .cons r ih
theorem sH{R:α->β->Prop}{l:List (Int×α)}{m:List (Int×β)}(k:DQ R l m):DQ R (fi l) (fi m):=by
 induction k with
 |nil=>exact .nil
 |cons r t ih=>exact uL r ih
theorem va{R:α->β->Prop}{ks:List Int}{l:List α}{m:List β}(k:Paired R l m):DQ R (ks.zip l) (ks.zip m):=by
 induction k generalizing ks with
 |nil=>rw[List.zip_nil_right,List.zip_nil_right];exact .nil
 |cons r t ih =>
  cases ks with
  |nil=>exact .nil
  |cons k ks=>exact .cons ⟨rfl,r⟩ ih
theorem uY{R:α->β->Prop}{l:List (Int×α)}{m:List (Int×β)}(k:DQ R l m):Paired R (l.map (·.2)) (m.map (·.2)):=by
 induction k with
 |nil=>exact .nil
 |cons r t ih=>exact .cons r.2 ih
def eZ(ks:List Int)(l:List α):List α:=(fi (ks.zip l)).map (·.2)
theorem i6{R:α->β->Prop}{ks:List Int}{l:List α}{m:List β}(h:Paired R l m):Paired R (eZ ks l) (eZ ks m):=uY (sH (va h))
theorem ma{ks:List Int}{l:List α}(h:ks.length=l.length):(eZ ks l).length=l.length:=by
 unfold eZ;rw[IW,(fD _).length_eq,List.length_zip,h,Lg]
theorem x4{ks:List Int}{l:List α}(h:ks.length=l.length):(eZ ks l).Perm l:=by
 have h2:((ks.zip l).map (·.2))=l:=Nu (by lia)
 have h3:=(fD (ks.zip l)).map (·.2);rw[h2] at h3;exact h3
end
theorem gO:∀{xs:List V} {us:List Value},Vals xs us->Paired RelV xs us
 |_,_,.nil=>.nil
 |_,_,.cons r t=>.cons r (gO t)
theorem hV:∀{xs:List V} {us:List Value},Paired RelV xs us->Vals xs us
 |_,_,.nil=>.nil
 |_,_,.cons r t=>.cons r (hV t)
theorem eJ:∀{us:List Value} {ns:List Int},IntsAre us ns->∀{i:Nat},i<ns.length->∃ t,us.getD i Value.none=.int (ns.getD i 0) t
 |_,_,.cons n t h,0,_=>⟨t,rfl⟩
 |_,_,.cons n t h,i+1,hi=>eJ h (i:=i) (by simpa using hi)
theorem vA{p:List Nat}(hl:kz.length=us.length)(hp:p.Perm (List.range us.length))(hr:p.Pairwise (SP.R fun i=>kz.getD i 0)):p.map (fun i=>us.getD i Value.none)=eZ kz us:=by
 have ez:(List.range us.length).map (fun i=>(kz.getD i 0,us.getD i Value.none))=kz.zip us:=by
  apply List.ext_getElem
  ·rw[IW,Js,List.length_zip,hl,Lg]
  ·intro i h1 h2;rw[IW,Js] at h1;rw[List.getElem_map,List.getElem_range,List.getElem_zip];simp[h1,hl]
 have e1:p.map (fun i=>(kz.getD i 0,us.getD i Value.none))=fi (kz.zip us):=by
  refine v_ ?_ fun a=>?_
  ·exact MW.mpr (hr.imp fun h=>h.le)
  ·have fl:∀ l:List Nat,atK a (l.map fun i=>(kz.getD i 0,us.getD i Value.none))=(l.filter fun i=>decide (kz.getD i 0=a)).map fun i=>(kz.getD i 0,us.getD i Value.none):=fun l=>by
    unfold atK;rw[List.filter_map];rfl
   rw[<- ez,fl,fl];congr 1;refine List.Perm.eq_of_pairwise (le:=(· < ·)) (fun a b _ _ h g=>absurd h (Nat.lt_asymm g)) ?_ (List.pairwise_lt_range.filter _) (hp.filter _);rw[List.pairwise_filter];refine hr.imp fun {i j} h hi hj=>?_;have hi:=KD hi;have hj:=KD hj;rcases h with h|h
   ·exfalso;have h':kz.getD i 0<kz.getD j 0:=h;lia
   ·exact h.2
 unfold eZ;rw[<- e1,Kh];rfl
section
variable {X:Cx} {pins:List (Addr×Obj)} {σ:St} {H:Hp} {s:Shared} {E:Value->Shared->Prop}
theorem Inv.take{D:Addr}{ob:Obj}{o:HO}{t':Nat}(I:Inv X ((D,ob)::pins) σ H s)(hs0:X.s₀.heap.objs.size<=D)(hnp:∀ p∈X.pn++pins,p.1≠D)(k:∀ b u,b≠D->s.heap.get? b=some u->h'.get? b=some u)(new:aJ X.prog X.w (upd H D o) h' D o):
  Inv X pins σ (upd H D o) {s with heap:=h',toks:=t'}:=by
 obtain⟨g1,g2,g3,g4,g5⟩:=I.pin (D,ob) (Jw _ (Jl ..));have I0:Inv X pins σ H s:=⟨I.ok,I.os,I.bare,I.base,I.loc,I.cell,I.free,I.dc,fun p hp=>I.pin p ((JN.mp hp).elim (fun z=>La _ z) fun z=>Jw _ (Jk _ z)),I.aO,I.len⟩;have ne:∀ b u,H b=some u->b≠D:=fun b u e=>ax e g2;refine I0.step (g':=s.gens) (d':=s.drawn) (ch:=[D]) (fun b hb=>?_) (fun b o' _ _ hc e _=>k b o' (fun z=>hc (by rw[z];exact Jh.mpr rfl)) e) (fun b o' _ _ hc e _=>⟨o'.slots,k b o' (fun z=>hc (by rw[z];exact Jh.mpr rfl)) e⟩) (fun b o' hc e n=>by rw[af (fun z=>hc (by rw[z];exact Jh.mpr rfl))];exact n)
  (fun b o' hc e=>⟨o',k b o' (fun z=>hc (by rw[z];exact Jh.mpr rfl)) e⟩) (fun b xs e=>by rw[af (ne b _ e)];exact e) (fun b o' u e=>by rw[af (ne b _ e)];exact e) (fun b ps e=>⟨#[],by rw[af (ne b _ e),e,MG]⟩) (fun m hm=>?_) (fun b u e=>?_) I.bare
 ·rw[Jh.mp hb];refine⟨.inr hs0,g3,fun x c e z=>?_,hnp⟩;obtain⟨v,o',ho',hd⟩:=I.cell x c e;rw[z,g1] at ho';cases ho';exact g5 v hd
 ·obtain⟨o',es,ep,ho',r⟩:=hm;exact⟨o',es,ep,k _ _ (Ne.symm g3) ho',r⟩
 ·by_cases z:b=D
  ·subst z;rw[ai] at e;cases e;exact new
  ·rw[af z] at e;refine (I.aO b u e).iL (fun c v hc q=>k c v ?_ q) (fun c q=>by rw[af (ne c _ q)];exact q) (fun c xs q=>by rw[af (ne c _ q)];exact q) fun c _ _ q=>by rw[af (ne c _ q)];exact q
   rcases hc with rfl|hc
   ·exact z
   ·exact ne c _ hc
theorem r_{st:SortSt}
  (I:Inv X ((D,seqObj "list" #[] e1)::pins) σ (upd H kS (.lst (kz.map V.int))) s) (hkS:H kS=none) (hD:H D=none) (hkD:kS≠D) (hs0:X.s₀.heap.objs.size<=D) (hnp:∀ p∈X.pn++pins,p.1≠D)
  (hv:Vals xs us) (hlen:kz.length=us.length) (h64:us.length<64) (ho:((arrOf st).map (·.2)).toList=eZ kz us) (hfl:failedOf st=none)
  (h:∀ s',Inv X pins σ (upd (upd H kS (.lst [])) D (.lst (eZ kz xs))) s'->P (.done (.ret .none)) s') :
  wpAny (model X.prog X.w) A (ksk_tail D false e1 (.ref kS) st) P E s:=by
 obtain⟨_,its,n,vr,ek⟩:=I.aO kS _ ai;have hz:its.toArray.size<=sizeLine:=by
  rw[I_,<- vr.length,IW,hlen,Kv];lia
 have pD:=I.pin _ (Jw _ (Jl ..));have hout:((arrOf st).map (·.2)).size=us.length:=by
  rw[<- JT,ho,ma hlen]
 have s1:=K1 s.heap kS (Obj.mapSeq fun _=>(#[]:Array Value));obtain⟨c1,hc1⟩:∃ c,(s.heap.update kS (Obj.mapSeq fun _=>(#[]:Array Value))).get? kS=some (seqObj "list" #[] c):=⟨_,LL ek fun _=>#[]⟩;have J1:Inv X ((D,seqObj "list" #[] e1)::pins) σ (upd H kS (.lst [])) {s with heap:=s.heap.update kS (Obj.mapSeq fun _=>(#[]:Array Value))}:=by
  have J:=I.write (x:=kS) (e:=kS) (o:=.lst []) (t':=s.toks) (h':=s.heap.update kS (Obj.mapSeq fun _=>(#[]:Array Value))) (by rw[ai];trivial) (.inl rfl) (fun b u hb q=>(s1.2 b hb).trans q) ⟨_,hc1⟩ ⟨JC _,[],c1,.nil,hc1⟩
  rw[iq] at J;exact J
 have pD1:=J1.pin _ (List.mem_append_right _ (List.mem_cons_self ..));have s2:=Heap.SameBut.update (s.heap.update kS (Obj.mapSeq fun _=>(#[]:Array Value))) D (Obj.mapSeq fun _=>(arrOf st).map (·.2));obtain⟨c2,hc2⟩:∃ c,((s.heap.update kS (Obj.mapSeq fun _=>(#[]:Array Value))).update D (Obj.mapSeq fun _=>(arrOf st).map (·.2))).get? D=some (seqObj "list" ((arrOf st).map (·.2)) c):=⟨_,get?_update_seq pD1.1 fun _=>(arrOf st).map (·.2)⟩;have vB:Vals (eZ kz xs) (eZ kz us):=hV (i6 (gO hv));unfold ksk_tail;dsimp only;refine wpAny_bind (listUpdate_at ek rfl ?_ hz (Nat.zero_le _));refine wpAny_bind (wpAny_letGo ?_);refine wpAny_bind (seqEpoch_at pD1.1 rfl ?_);refine wpAny_bind (listUpdate_at pD1.1 rfl ?_ (Nat.zero_le _) (by show ((arrOf st).map (·.2)).size<=_;rw[hout,sizeLine_eq];lia))
 rw[hfl];simp only[MX,Ki,KC];refine IZ (h _ (J1.take hs0 hnp (fun b u hb q=>(s2.2 b hb).trans q) ⟨?_,eZ kz us,c2,vB,?_⟩))
 ·rw[vB.length,ma hlen,Kv];lia
 ·rw[<- ho,Array.toArray_toList];exact hc2
theorem CS{us:List Value}{kz:List Int}{keys:Array Value}
  (I:Inv X ((D,seqObj "list" #[] e1)::pins) σ (upd H kS (.lst (kz.map V.int))) s) (hkS:H kS=none) (hD:H D=none) (hkD:kS≠D) (hs0:X.s₀.heap.objs.size<=D) (hnp:∀ p∈X.pn++pins,p.1≠D)
  (hv:Vals xs us) (hlen:kz.length=us.length) (h64:us.length<64) (hk:IntsAre keys.toList kz)
  (h:∀ s',Inv X pins σ (upd (upd H kS (.lst [])) D (.lst (eZ kz xs))) s'->P (.done (.ret .none)) s') :
  wpAny (model X.prog X.w) A (ksk_end D false us.toArray e1 (.ref kS) keys) P E s:=by
 have hsz:keys.size=us.length:=by
  have z:=hk.length;rw[JT] at z;exact z.trans hlen
 have hzs:(keys.zip us.toArray).size=us.length:=by
  rw[Array.size_zip,hsz,I_,Lg]
 unfold ksk_end;dsimp only;rw[if_neg Bool.false_ne_true,if_neg Bool.false_ne_true];by_cases h2:us.toArray.size<2
 ·rw[if_pos h2,if_pos h2];refine wpAny_bind (wpAny_pure ?_);rw[StateT.run_pure];refine wpAny_bind (wpAny_pure ?_);dsimp only;refine r_ I hkS hD hkD hs0 hnp hv hlen h64 ?_ rfl h;rw[List.size_toArray] at h2;have:=vA (us:=us) (kz:=kz) (p:=List.range us.length) hlen (List.Perm.refl _) (by
   rcases us with _|⟨x,_|⟨y,r⟩⟩
   ·exact .nil
   ·simp
   ·exfalso;simp only[Jf] at h2;lia)
  rw[<- this];show ((keys.zip us.toArray).map (·.2)).toList=_;rw[Array.toList_map,Array.toList_zip,Nu (by simp only[JT,I_];lia)]
  apply List.ext_getElem
  ·simp
  ·intro i h1 h2;have h1':i<us.length:=h1;simp[h1']
 ·rw[IY h2,IY h2];rw[I_] at h2;rw[ksk_kind hk (by lia)]
  refine IT (IZ ?_);have ek:keys=keys.toList.toArray:=(Array.toArray_toList).symm;have hkl:keys.toList.length=us.length:=by rw[JT,hsz]
  have hat:∀ i,i<us.length->∃ t,keys.toList.getD i Value.none=.int (kz.getD i 0) t:=fun i hi=>eJ hk (by rw[hlen];exact hi)
  generalize keys.toList=ks at *;subst ek;refine IT (JW (PySem.W.kat_run (ks:=ks) (vs:=us) (κ:=oneType') (Q:=fun st' s'=>s'=s/\failedOf st'=none/\((arrOf st').map (·.2)).toList=eZ kz us)
   (G:=fun p s'=>s'=s/\p.toList.Perm (List.range us.length)/\p.toList.Pairwise (SP.R fun i=>kz.getD i 0)) hkl (by lia) h64 (fun p st' s' a1 a2 a3 a4=>⟨a4.1,a3,by rw[PySem.W.kat_snds hkl a2];exact vA hlen a4.2.1 a4.2.2⟩) ?_) ?_ fun _ _ e=>e)
  ·refine SP.qx (k:=fun i=>kz.getD i 0) (I:=fun s'=>s'=s) (fun i j C s' hi hj hI hC=>?_) (by lia) rfl fun p s' hp hr hI=>⟨hI,hp,hr⟩
   subst hI;obtain⟨t1,e1⟩:=hat i hi;obtain⟨t2,e2⟩:=hat j hj;unfold PySem.W.kas_ask;rw[e1,e2];exact PySem.W.kat_lt_int (hC _ rfl)
  rintro⟨⟨⟩,st'⟩ s' ⟨rfl,hf,ho⟩;dsimp only;exact r_ I hkS hD hkD hs0 hnp hv hlen h64 ho hf h
theorem jk:∀{us:List Value} {ns:List Int},Vals (ns.map V.int) us->IntsAre us ns
 |_,[],.nil=>.nil
 |_,n::ns,.cons ⟨t,e⟩ r=>by subst e;exact .cons n t (jk r)
theorem yL{f:Value}
  (I:Inv X ((D,seqObj "list" #[] e1)::pins) σ (upd H kS (.lst [])) s) (hkS:H kS=none) (hD:H D=none) (hkD:kS≠D) (hs0:X.s₀.heap.objs.size<=D) (hnp:∀ p∈X.pn++pins,p.1≠D)
  (hv:Vals xs us) (hlen:kz.length=us.length) (h64:us.length<64)
  (turn:∀(i:Nat) (u:Value) (k:Int),us[i]?=some u->kz[i]?=some k->∀ pins' H' s',dD H H'->Inv X pins' σ H' s'->wpAny (model X.prog X.w) A (call f [u]) (fun r s2=>(∃ t,r=.int k t)/\Inv X pins' σ H' s2) (fun _ _=>False) s')
  (h:∀ s',Inv X pins σ (upd (upd H kS (.lst [])) D (.lst (eZ kz xs))) s'->P (.done (.ret .none)) s') :
  wpAny (model X.prog X.w) A (ksk_rest D f false us.toArray e1 (.ref kS)) P E s:=by
 unfold ksk_rest;refine IT (Lp ?_)
 first
  |rw[List.forIn_toArray]
  | (rw[<- Array.forIn_toList];simp only[List.toList_toArray])
 refine IT (ksk_fold (fun i s'=>Inv X ((D,seqObj "list" #[] e1)::pins) σ (upd H kS (.lst ((kz.take i).map V.int))) s') us 0 s I ?one ?all)
 case one =>
  intro j u s' hu J;rw[Kg] at J ⊢;have hj:j<us.length:=(Ji.mp hu).1;obtain⟨k,hkj⟩:∃ k,kz[j]?=some k:=⟨_,IV (by lia)⟩
  refine wpAny_bind (wpAny_attempt (wpAny_mono (turn j u k hu hkj _ _ s' (.more .refl hkS) J) (fun r s2 hr=>?_) fun _ _ z=>z.elim));obtain⟨⟨t,rfl⟩,J2⟩:=hr;dsimp only;obtain⟨_,its,n,vr,ek⟩:=J2.aO kS _ ai;have lenI:its.length<=us.length:=by
   rw[<- vr.length,IW,JO];lia
  have s1:=K1 s2.heap kS (Obj.mapSeq (·.push (.int k t)));obtain⟨c1,hc1⟩:∃ c,(s2.heap.update kS (Obj.mapSeq (·.push (.int k t)))).get? kS=some (seqObj "list" (its.toArray.push (.int k t)) c):=⟨_,LL ek (·.push (.int k t))⟩;have et:kz.take (j+1)=kz.take j++[k]:=by
   rw[List.take_add_one,hkj];rfl
  have vr2:Vals ((kz.take (j+1)).map V.int) (its++[.int k t]):=by
   rw[et,Jn];exact vr.append (.cons ⟨t,rfl⟩ .nil)
  refine IT (L_ ek rfl ?_ (by rw[I_,Kv];lia) (by show (its.toArray.push (.int k t)).size<=_;rw[Array.size_push,I_,Kv];lia))
  refine IZ ⟨rfl,?_⟩;have J3:=J2.write (x:=kS) (e:=kS) (o:=.lst ((kz.take (j+1)).map V.int)) (t':=s2.toks) (h':=s2.heap.update kS (Obj.mapSeq (·.push (.int k t)))) (by rw[ai];trivial) (.inl rfl) (fun b u hb q=>(s1.2 b hb).trans q) ⟨_,hc1⟩
   ⟨by rw[IW,JO,Kv];lia,its++[.int k t],c1,vr2,by rw[hc1,List.push_toArray]⟩
  rw[iq] at J3;exact J3
 case all =>
  intro s' J;have ez:kz.take (0+us.length)=kz:=JX (by lia)
  have J':Inv X ((D,seqObj "list" #[] e1)::pins) σ (upd H kS (.lst (kz.map V.int))) s':=by
   rw[<- ez];rw[ez];simpa only[ez] using J
  obtain⟨_,its,n,vr,ek⟩:=J'.aO kS _ ai;refine IT (Mq ek rfl ?_);exact CS J' hkS hD hkD hs0 hnp hv hlen h64 (by rw[List.toList_toArray];exact jk vr) h
theorem zI{D:Addr}{n0:Nat}{h0:Heap}{f:Value}
  (I:Inv X pins σ H s) (k0:∀ b o,s.heap.get? b=some o->h0.get? b=some o) (hDs:s.heap.objs.size<=D) (ho:h0.get? D=some (seqObj "list" us.toArray n0)) (hv:Vals xs us) (hlen:kz.length=us.length) (h64:us.length<64)
  (turn:∀(i:Nat) (u:Value) (k:Int),us[i]?=some u->kz[i]?=some k->∀ pins' H' s',dD H H'->Inv X pins' σ H' s'->wpAny (model X.prog X.w) A (call f [u]) (fun r s2=>(∃ t,r=.int k t)/\Inv X pins' σ H' s2) (fun _ _=>False) s')
  (h:∀ H' s',dD H H'->H' D=none->Inv X pins σ (upd H' D (.lst (eZ kz xs))) s'->P (.done (.ret .none)) s') :
  wpAny (model X.prog X.w) A (ksk_tree D f false) P E {s with heap:=h0}:=by
 have hsz0:D<h0.objs.size:=Jc ho;have s1:=K1 h0 D (Obj.mapSeq fun _=>(#[]:Array Value));obtain⟨e1,ho1⟩:∃ e,(h0.update D (Obj.mapSeq fun _=>(#[]:Array Value))).get? D=some (seqObj "list" #[] e):=⟨_,LL ho fun _=>#[]⟩;have hkz:((h0.update D (Obj.mapSeq fun _=>(#[]:Array Value))).push (seqObj "tuple" us.toArray 0)).objs.size=h0.objs.size+1:=by
  rw[Ng,L7]
 have nD:∀ b o,s.heap.get? b=some o->b≠D:=fun b o e=>Jq (Ju (Jc e) hDs);have keep:∀ b o,s.heap.get? b=some o->(((h0.update D (Obj.mapSeq fun _=>(#[]:Array Value))).push (seqObj "tuple" us.toArray 0)).push (seqObj "list" #[] 0)).get? b=some o:=fun b o e =>
  IU _ (IU _ ((s1.2 b (nD b o e)).trans (k0 b o e)))
 have hle:s.heap.objs.size<=h0.objs.size+1:=Jj hDs (Ke (K9 hsz0));have hkD:h0.objs.size+1≠D:=Kf (KG hsz0);have hkS:H (h0.objs.size+1)=none:=I.aO.fresh hle;have hD:H D=none:=I.aO.fresh hDs;have hnp:∀ p∈X.pn++pins,p.1≠D:=fun p hp=>nD _ _ (I.pin p hp).1;have J0:Inv X pins σ (upd H (h0.objs.size+1) (.lst [])) {s with heap:=((h0.update D (Obj.mapSeq fun _=>(#[]:Array Value))).push (seqObj "tuple" us.toArray 0)).push (seqObj "list" #[] 0)}:=
  I.laid (t':=s.toks) keep hle ⟨JC _,[],0,.nil,by rw[<- hkz];exact Je _ rfl⟩
 have J:Inv X ((D,seqObj "list" #[] e1)::pins) σ (upd H (h0.objs.size+1) (.lst [])) {s with heap:=((h0.update D (Obj.mapSeq fun _=>(#[]:Array Value))).push (seqObj "tuple" us.toArray 0)).push (seqObj "list" #[] 0)}:=by
  refine J0.lS fun p hp=>?_;rcases Jg.mp hp with rfl|hp
  ·exact⟨IU _ (IU _ ho1),by rw[af (Ne.symm hkD)];exact hD,fun z=>absurd I.lt (by rw[<- z];exact NX.mpr hDs),I.D_ hDs,fun v z=>by cases z⟩
  ·exact J0.pin p (Jw _ hp)
 unfold ksk_tree;refine IT (Mq ho rfl ?_);refine IT (L_ ho rfl ?_ (by rw[I_,Kv];lia) (JC _))
 refine IT (seqEpoch_at ho1 rfl ?_);refine IT (M8 ?_ (by show us.length<=_;rw[Kv];lia))
 refine IT (Lo ?_ (JC _));refine J9 ?_;show wpAny _ _ (ksk_rest D f false us.toArray e1 (.ref ((h0.update D (Obj.mapSeq fun _=>(#[]:Array Value))).push (seqObj "tuple" us.toArray 0)).objs.size)) _ _ _;rw[hkz];exact yL J hkS hD hkD (Jj I.sz hDs) hnp hv hlen h64 turn fun s' K=>h _ s' (.more .refl hkS) (by rw[af (Ne.symm hkD)];exact hD) K
end
def zf(q:Str)(params:Arguments)(body:Expr)(scope:Scope)(cl:List (Str×Addr)):TE:=fun _ H Q=>∀ f c' pm ctv H1,dD H H1->g_ H1 f q params body scope cl c' pm ctv->Q (.ref f) H1
theorem BC{c P:Addr}(hx:x∈d7)(ht:PySem.W.tabIn X.K x=some (c,P))(hcode:X.env.code=.ref c)(hq:X.env.qual=x++".<locals>.")
  (hdef:defaultsOf params X.env=([],[])) (hcl:closureFor scope X.env=pure cl):PE X (.Lambda params body scope pos) (zf ((x++".<locals>.")++"<lambda>") params body scope cl):=fun pins s σ H Q I h =>
 xt I hx ht hcode hq hdef hcl fun f c' pm ctv H1 s1 g J l=>⟨.ref f,H1,J,rfl,h f c' pm ctv H1 g l⟩
section
variable {X:Cx} {pins:List (Addr×Obj)} {σ:St} {H:Hp} {s:Shared} {E:Value->Shared->Prop}
def ve(X:Cx)(A:Around)(s:Shared)(l:Addr)(xs:List V):Prop:=∀(Q:List Value->Shared->Prop) (E:Value->Shared->Prop),(∀ h0 tk us,(∀ b o,s.heap.get? b=some o->h0.get? b=some o)->s.heap.objs.size<=h0.objs.size->Vals xs us->Q us {s with heap:=h0,toks:=tk})->wpAny (model X.prog X.w) A (collect (.ref l)) Q E s
theorem tZ{l:Addr}{Q:VK}(I:Inv X pins σ H s)(hcol:ve X A.in1 s l xs)(hlen:kz.length=xs.length)(h64:xs.length<64)
  (turn:∀(i:Nat) (v:V) (u:Value) (k:Int),xs[i]?=some v->RelV v u->kz[i]?=some k->∀ pins' H' s',dD H H'->Inv X pins' σ H' s'->wpAny (model X.prog X.w) A.in1.in1 (call (.ref f) [u]) (fun r s2=>(∃ t,r=.int k t)/\Inv X pins' σ H' s2) (fun _ _=>False) s')
  (h:∀ H' D,dD H H'->H' D=none->Q (.ref D) (upd H' D (.lst (eZ kz xs)))) :
  wpAny (model X.prog X.w) A (call (.builtin "sorted") [.ref l] [(Str.ofString "key",.ref f)]) (EP X pins σ Q) E s:=by
 refine call_function_entry_kw NF Np Nq (ksk_s1 _ _) ?_;unfold Builtin.«sorted»;refine IT (m:=checkCount "sorted" 1 1 _) (IZ (IT (hcol _ _ fun h0 tk us k0 hz hv=>?_)));have ul:us.length=xs.length:=hv.length.symm;refine IT (Lo ?_ (by rw[ul,Kv];lia))
 have hoL:(h0.push (seqObj "list" us.toArray 0)).get? h0.objs.size=some (seqObj "list" us.toArray 0):=Je _ rfl;refine IT (J9 (wpAny_call_entry_kw MA ⟨_,hoL,rfl⟩ Mr ?srt (ksk_l1 _ _)))
 case srt =>
  show wpAny _ A.in1.in1 (Builtin.«list.sort» ⟨[.ref h0.objs.size],[(Str.ofString "key",.ref f)]⟩) _ _ _;rw[ksk_t1];refine zI (s:={s with toks:=tk}) (h0:=h0.push (seqObj "list" us.toArray 0)) (I.tok tk) (fun b o e=>IU _ (k0 b o e)) hz hoL hv (by rw[ul];exact hlen) (by rw[ul];exact h64)
   (fun i u k hu hk pins' H' s' g J=>?_) fun H' s' g n J=>⟨_,rfl,?_⟩
  ·have hi:i<xs.length:=by rw[<- ul];exact (Ji.mp hu).1
   obtain⟨u',hu',rv⟩:=hv.get (IV hi);rw[hu] at hu';cases hu';exact turn i _ u k (IV hi) rv hk pins' H' s' g J
  ·exact IZ ⟨_,rfl,.ref h0.objs.size,_,J,rfl,h H' _ g n⟩
theorem qj{l:Addr}(I:Inv X pins σ H s)(hl:bS X.K H l xs)(h64:xs.length<64):ve X A s l xs:=fun Q E h=>by
 obtain⟨its,rv,pl,hz⟩:=I.list hl;refine collect_list pl.isList (h _ s.toks its (fun b o e=>?_) ?_ rv) (by rw[<- rv.length];exact hz)
 ·rw[Heap.get?_update_ne _ _ _ _ (Jq (Jc e))];exact IU _ e
 ·rw[L7,Ng];exact Kw _
def uG(src:Hp->Addr->List V->Prop)(pre:V->Int->Hp->St->Prop)(fr:St->St)(t:TA):TE:=fun σ H Q=>t σ H fun vs H1=>∃ l xs kz,vs=[.ref l]/\src H1 l xs/\kz.length=xs.length/\xs.length<64 /\
 (∀(i:Nat) (v:V) (k:Int),xs[i]?=some v->kz[i]?=some k->∀ H',dD H1 H'->pre v k H' (fr σ))/\∀ H2 D,dD H1 H2->H2 D=none->Q (.ref D) (upd H2 D (.lst (eZ kz xs)))
theorem xa{t:TA}{p:Pos}{k:Nat}{src:Hp->Addr->List V->Prop}{pre:V->Int->Hp->St->Prop}{fr:St->St}
  (hg:Gl X "sorted") (hm:X.mg "sorted"=none) (ha:PA X [e] t) (h1:cN e=true) (hr:bU (k+3) X.A) (hL:PE X (.Lambda params body scope lpos) (zf q params body scope cl))
  (hsrc:∀ pins σ H s H1 l xs A,Inv X pins σ H s->src H1 l xs->dD H1 H->A.handled=none->xs.length<64->ve X A s l xs)
  (hk:scope.kind=.function) (hco:scope.isCoroutine=false) (hgen:scope.isGenerator=false) (hcell:∀ y∈scope.names,y.2≠.cell) (hloc:scope.names.lookup x=some .local)
  (hbind:∀ c' pm ctv u,bindArgs (PySem.W.kla_fn "<lambda>" q params body scope cl pm (.ref c') ctv) ⟨[u],[]⟩=pure [(x,u)])
  (hlen:∀ σ:St,(fr σ).length=N.length) (hcl:∀ y c,cl.lookup y=some c->X.env.cells.lookup y=some c) (hhas:∀ y,(scope.names.lookup y=some .cell\/scope.names.lookup y=some .free)->∃ c,cl.lookup y=some c)
  (hf:∀ pins σ H s,Inv X pins σ H s->∀(i:Nat) (y:Str) (v:V),N[i]?=some y->(fr σ)[i]?=some (some v)->scope.names.lookup y=some .free/\∃ c u,cl.lookup y=some c/\s.heap.IsCell c (some u)/\RelV v u)
  (hbody:∀ A f c' s' H' σf v i,pre v i H' σf->∃ t,PE (rB X A (x::N) q scope f (.ref c') cl s' H') body t/\t (some v::σf) H' (fun w H2=>w=.int i/\H2=H')) :
  PE X (.Call (.Name "sorted" p) [e] [⟨some "key",.Lambda params body scope lpos,kpos⟩] pos) (uG src pre fr t):=by
 intro pins s σ H Q I h;refine K6 (dw I hg hm (u:=.builtin "sorted") (by decide +kernel) ?_ (by decide) (by decide))
 have hkw:PK X [⟨some "key",.Lambda params body scope lpos,kpos⟩] (er (zf q params body scope cl) iI):=lh hL oy;refine callWith_kw ?_ (by rw[cA h1];rfl) (by rw[cA h1];rfl) rfl rfl
 refine b9 (ha pos pins s σ H _ I h) fun us s1 ⟨vs,H1,I1,r1,q1⟩=>?_;obtain⟨l,xs,kz,rfl,hs,hle,h64,hpre,qq⟩:=q1;obtain⟨u,rfl,ru⟩:=vals1 r1;cases ru;refine b9 (hkw pos pins s1 σ H1 (fun zs H2=>∃ f c' pm ctv,zs=[.ref f]/\dD H1 H2/\g_ H2 f ((q)) params body scope cl c' pm ctv) I1 fun f c' pm ctv H2 g lm=>⟨f,c',pm,ctv,rfl,g,lm⟩) fun ws s2 ⟨zs,H2,I2,rz,f,c',pm,ctv,e1,g,lm⟩=>?_;subst e1;obtain⟨wv,rfl,rw1⟩:=vals1 rz;cases rw1;have hr1:bU (k+2) X.A.in1:=hr.in1;refine tZ I2 (hsrc _ _ _ _ _ _ _ _ I2 hs g hr1.hd h64) hle h64 (fun i v u j hv rv hj pins' H' s' g' J=>?_) fun H' D g' n=>qq H' D (g.trans g') n;obtain⟨ho,hcd⟩:=(lm.up fun b o u e=>g'.same b _ e).get J;obtain⟨tb,hb,hq⟩:=hbody X.A.in1.in1 f c' s' H' (fr σ) v j (hpre i v j hv hj H' (g.trans g'));refine JW (xh J hr1.in1 J.ok.frames hk hco hgen hcell rv hloc ho hcd (hbind c' pm ctv) (hlen σ) hcl hhas (hf _ _ _ _ J) hb hq) (fun r s4 hr4=>?_) fun _ _ z=>z;obtain⟨w,H4,J4,rw4,e4,e5⟩:=hr4;subst e4 e5;exact⟨rw4,J4⟩
end
theorem Ar{a:α}{l:List (Str×α)}:List.lookup x ((x,a)::l)=some a:=by rw[Kt,K3]
theorem yI{y:Str}{a:α}{l:List (Str×α)}(h:y≠x):List.lookup y ((x,a)::l)=List.lookup y l:=by rw[Kt,Kd.mpr h]
section
variable {X:Cx} {pins:List (Addr×Obj)} {σ:St} {H:Hp} {s:Shared}
end
def wz(K:Oe):List V->Hp->VK->Prop:=fun vs H1 Q=>∃ l xs kz,vs=[.ref l]/\bS K H1 l xs/\kz.length=xs.length/\xs.length<64 /\
 (∀(i:Nat) (v:V) (k:Int),xs[i]?=some v->kz[i]?=some k->∀ H',dD H1 H'->∃ p ys,v=.ref p/\b8 K H' p (.int k::ys))/\∀ H2 D,dD H1 H2->H2 D=none->Q (.ref D) (upd H2 D (.lst (eZ kz xs)))
theorem xm{t:TA}{p:Pos}{cj:Nat}{k:Nat}(hg:Gl X "sorted")(hm:X.mg "sorted"=none)(ha:PA X [e] t)(h1:cN e=true)(hr:bU (k+3) X.A)
  (hL:PE X (.Lambda params (.Subscript (.Name x p1) (.Constant (.int 0) cj p2) p3) scope lpos) (zf q params (.Subscript (.Name x p1) (.Constant (.int 0) cj p2) p3) scope []))
  (hsc:scope={kind:=.function,names:=[(x,.local)],isGenerator:=false,isCoroutine:=false,more:=[]}) (hx1:(x ==("__debug__":Str))=false) (hx2:(x ==("__classdict__":Str))=false)
  (hbind:∀ c' pm ctv u,bindArgs (PySem.W.kla_fn "<lambda>" q params (.Subscript (.Name x p1) (.Constant (.int 0) cj p2) p3) scope [] pm (.ref c') ctv) ⟨[u],[]⟩=pure [(x,u)]) :
  PE X (.Call (.Name "sorted" p) [e] [⟨some "key",.Lambda params (.Subscript (.Name x p1) (.Constant (.int 0) cj p2) p3) scope lpos,kpos⟩] pos) (uq (wz X.K) t):=by
 subst hsc;have lk:∀ y,List.lookup y [(x,NameKind.local)]=if y=x then some .local else none:=fun y=>by
  by_cases z:y=x
  ·rw[Ja z,z,Ar]
  ·rw[IY z,yI z];rfl
 show PE X _ (uG (fun H l xs=>bS X.K H l xs) (fun v k H' _=>∃ p ys,v=.ref p/\b8 X.K H' p (.int k::ys)) (fun _=>[]) t);refine xa (N:=[]) hg hm ha h1 hr hL (fun pins σ H s H1 l xs A I hs g _ h64=>qj I (g.same.seq hs) h64) rfl rfl rfl (fun y hy=>by rw[Jh.mp hy];nofun) (by rw[lk,Ja rfl]) hbind (fun _=>rfl) (fun y c z=>by cases z) (fun y z=>?_) (fun _ _ _ _ _ i y v z=>by cases z) fun A f c' s' H' σf v i hp=>?_
 ·rw[lk] at z
  split at z
  ·rcases z with z|z<;>cases z
  ·rcases z with z|z<;>cases z
 ·obtain⟨a,ys,rfl,hq⟩:=hp;refine⟨_,AN vx (pv 0 rfl (.inl (by show List.lookup x [(x,NameKind.local)]=_;rw[lk,Ja rfl])) hx1 hx2) gj (Z.Ih rfl),?_⟩
  exact⟨_,rfl,a,_,0,.int i,rfl,rfl,hq,cB (j:=0) rfl,rfl,rfl⟩
theorem gR:∀{vs:List V} {ts:List T},ao K H B vs ts->Paired (Rep K H B) vs ts
 |_,_,.nil=>.nil
 |_,_,.cons h r=>.cons h (gR r)
theorem hG:∀{vs:List V} {ts:List T},Paired (Rep K H B) vs ts->ao K H B vs ts
 |_,_,.nil=>.nil
 |_,_,.cons h r=>.cons h (hG r)
theorem ao.eZ{ks:List Int}{vs:List V}(r:ao K H B vs ts):ao K H B (L2.eZ ks vs) (L2.eZ ks ts):=hG (i6 (gR r))
theorem ly{β:Type}{g:α->β}{ks:List Int}{l:List α}:eZ ks (l.map g)=(eZ ks l).map g:=by
 have p:∀ l:List α,Paired (fun a b=>b=g a) l (l.map g):=fun l=>by
  induction l with
  |nil=>exact .nil
  |cons a l ih=>exact .cons rfl ih
 have q:∀{l:List α} {m:List β},Paired (fun a b=>b=g a) l m->m=l.map g:=fun {l m} h=>by
  induction h with
  |nil=>rfl
  |cons r _ ih=>rw[r,ih];rfl
 exact q (i6 (p l))
def uQ:T->Option Int
 |.tup (.int k::_)=>some k
 |_=>none
namespace Y
def mx:T->Mu->(R->Mu->Prop)->Prop:=fun t μ Q=>match t with
 |.lst ts=>∃ kz:List Int,ts.map uQ=kz.map some/\ts.length<64/\Q (.fr (.lst (eZ kz ts))) μ
 |_=>False
theorem Ct(h:ts.map uQ=kz.map some){i:Nat}{k:Int}(e:kz[i]?=some k):∃ us,ts[i]?=some (.tup (.int k::us)):=by
 have q:=Jv (fun l=>l[i]?) h;simp only[Jy,e,LJ] at q
 cases ht:ts[i]? with
 |none=>rw[ht] at q;cases q
 |some t =>
  rw[ht] at q;have q':uQ t=some k:=Option.some.inj q;unfold uQ at q'
  split at q'
  ·cases q';exact⟨_,rfl⟩
  ·cases q'
theorem uE:RC K (wz K) (pQ mx):=fz fun F ad B σ H μ Q Qt x t hK l v1 q k=>by
 subst hK;unfold mx at q
 split at q
 ·obtain⟨kz,hk,h64,q⟩:=q
  cases v1 with
  |lst ha ra =>
   have le:=Jv List.length hk;rw[IW,IW] at le;refine⟨_,_,kz,rfl,bS.of ha,by rw[ra.length,le],by rw[ra.length];exact h64,fun i v j e1 e2 H' g=>?_,fun H2 D g n=>k _ _ _ (Vr.eX (l.same g.same) (ra.fr (Fr.same g.same)).eZ n) (fun b o e z=>⟨cq.new n b o (g.same b o e),fun y=>?_⟩) q⟩
   ·obtain⟨us,hu⟩:=Ct hk e2;obtain⟨v',e3,rp⟩:=ra.get hu;rw[e1] at e3;cases e3
    cases rp with
    |tup nb hp rr =>
     cases rr with
     |cons r0 rr =>
      cases r0;exact⟨_,_,rfl,b8.of (g.same _ _ hp)⟩
   ·rcases y with y|y
    ·subst y;rw[g.same b o e] at n;cases n
    ·exact z y
 ·exact q.elim
theorem sortI{us:UA}{p:Pos}{cj:Nat}{y:Str}{c Pt:Addr}{k:Nat}(K:Oe)(hK:X.K=K)(hx:y∈d7)(ht:PySem.W.tabIn K y=some (c,Pt))(hcode:X.env.code=.ref c)(hq:X.env.qual=y++".<locals>.")(hdef:defaultsOf params X.env=([],[]))(hcl:closureFor scope X.env=pure [])
  (hg:Gl X "sorted") (hm:X.mg "sorted"=none) (ha:YA X [e] us) (hr:bU (k+3) X.A)
  (hsc:scope={kind:=.function,names:=[(x,.local)],isGenerator:=false,isCoroutine:=false,more:=[]}) (hx1:(x ==("__debug__":Str))=false) (hx2:(x ==("__classdict__":Str))=false)
  (hbind:∀ c' pm ctv u,bindArgs (PySem.W.kla_fn "<lambda>" ((y++".<locals>.")++"<lambda>") params (.Subscript (.Name x p1) (.Constant (.int 0) cj p2) p3) scope [] pm (.ref c') ctv) ⟨[u],[]⟩=pure [(x,u)]) (h1:cN e=true:=by rfl) :
  YE X (.Call (.Name "sorted" p) [e] [⟨some "key",.Lambda params (.Subscript (.Name x p1) (.Constant (.int 0) cj p2) p3) scope lpos,kpos⟩] pos) (AV (pQ mx) us):=by
 subst hK;obtain⟨t,q,rr⟩:=ha;exact⟨_,⟨xm hg hm q.h h1 hr (BC hx ht hcode hq hdef hcl) hsc hx1 hx2 hbind⟩,rE uE rr⟩
end Y
structure kT (K:Oe) (mg:Str->Option Value) (x:Str):Prop where
 ex:∃ c P,PySem.W.tabIn K x=some (c,P)/\∀ f cdv,wu K mg x f cdv->cdv=.ref c
theorem gc{c P:Addr}{oc oc':Value}{od od':Option Addr}{sl sl':Array (Option Value)}{fd:FuncData}{vs:Array Value}(a:PySem.W.nsIn K mainGlobals x=some (some (.ref f)))(l:K.lookup f=some ⟨oc,od,.func fd,sl⟩)(hc:fd.code=.ref c)
  (lc:K.lookup c=some ⟨oc',od',.fields vs,sl'⟩) (hv:vs[11]?=some (.ref P)):PySem.W.tabIn K x=some (c,P):=by
 unfold PySem.W.tabIn;rw[a];dsimp only;rw[l];dsimp only;rw[hc];dsimp only;rw[lc];dsimp only;rw[hv]
theorem pO(a:PySem.W.nsIn K mainGlobals x=some none):PySem.W.tabIn K x=none:=by
 unfold PySem.W.tabIn;rw[a]
theorem kT.mk'{c P:Addr}(X:K.In h)(G:h.Ns mainGlobals mg)(ht:PySem.W.tabIn K x=some (c,P)):kT K mg x:=
 ⟨c,P,ht,fun f cdv ⟨m,o,fd,lk,hd,e⟩=>by rw[<- e];exact PySem.W.law_code X G ht m (X _ _ lk) hd⟩
theorem fL.of{q:Program}{o1 o2 o3:Option (Addr×Addr)}(nt:PySem.W.noTabs K=true)(t1:PySem.W.tabIn K "by_worth"=o1)(t2:PySem.W.tabIn K "by_weight"=o2)(t3:PySem.W.tabIn K "code_of"=o3)(nd:((o1.toList++(o2.toList++o3.toList)).map (·.2)).Nodup)
  (f1:o1=none\/((recsOf q).find? (fun e=>e.name ==("by_worth":Str))).isSome=true) (f2:o2=none\/((recsOf q).find? (fun e=>e.name ==("by_weight":Str))).isSome=true) (f3:o3=none\/((recsOf q).find? (fun e=>e.name ==("code_of":Str))).isSome=true):fL q K:=by
 refine⟨nt,?_,fun x hx=>?_⟩
 ·have e:(bX K).map (·.2.1)=(o1.toList++(o2.toList++o3.toList)).map (·.2):=by
   unfold bX d7
   cases o1<;>cases o2<;>cases o3<;>simp[List.filterMap,t1,t2,t3]
  rw[e];exact nd
 ·unfold d7 at hx;rcases Jg.mp hx with rfl|hx
  ·rw[t1];exact f1
  ·rcases Jg.mp hx with rfl|hx
   ·rw[t2];exact f2
   ·rw[Jh.mp hx,t3];exact f3
namespace Y
section
variable {X:Cx} {e:Expr} {vs:List Expr} {ue:UE} {u:UJ} {pos p:Pos}
end
end Y
theorem ah.calm{P:Program}{base:Heap}{k:Nat}{ps:List Str}{md:List Bool}{tsx:vN}{tsp:fA}(F:ah P w K mg base (mK P w) k x ps (sS K md tsx))(h:∀ args Q,tsp args Q->tsx args Q fun _=>False):ah P w K mg base cF k x ps (spT K md tsp):=by
 obtain⟨f,fd,m,kp,b,G⟩:=F.ex;have to:∀ vs H Q E,spT K md tsp vs H Q E->sS K md tsx vs H Q (fun _ _ _=>False):=fun vs H Q E ⟨B,args,Qt,ag,bh,nd,ht,fin⟩=>⟨fun _=>False,⟨B,args,Qt,ag,bh,nd,h _ _ ht,fin⟩,fun x cls d e H' z=>z.elim⟩;refine⟨f,fd,m,kp,b,⟨fun vs H Q E q=>G.len vs H Q _ (to _ _ _ _ q),fun A outer s H args us vs Q E hr e0 hb r q=>LP (G.run A outer s H args us vs Q _ hr e0 hb r (to _ _ _ _ q)) fun r s' hq=>?_⟩⟩
 cases r with
 |error e =>
  obtain⟨_,_,_,_,_,_,_,_,_,_,_,_,_,_,_,_,z⟩:=hq;exact z.elim
 |ok fl=>cases fl<;>exact hq
namespace A
theorem zW(ts:List T)(μ:Mu)(Q:R->Mu->Prop):Y.mx (.lst ts) μ Q=(∃ kz:List Int,ts.map uQ=kz.map some/\ts.length<64/\Q (.fr (.lst (eZ kz ts))) μ):=rfl
end A
namespace Y
end Y
namespace A
end A
namespace Y
section
variable {X:Cx} {e:Expr} {ue:UE} {pos p:Pos} {x:Str} {k:Nat} {ps:List Str} {tsp:fA} {E:XK}
end
end Y
namespace A
end A
theorem mE:∀{ns:List Int} {us:List Value} (r:Vals (ns.map V.int) us) (k:Int),us.countP (fun v=>match v with|.int j _=>j == k|_=>false)=ns.count k
 |[],_,.nil,k=>rfl
 |n::ns,_,.cons r t,k=>by
  obtain⟨u,rfl⟩:=r;rw[Nv,mE t k,N4]
theorem oa:∀{ns:List Int} {us:List Value} (r:Vals (ns.map V.int) us),∀ y∈us,∃ j t,y=.int j t
 |[],_,.nil,y,h=>by cases h
 |n::ns,_,.cons r t,y,h=>by
  obtain⟨u,rfl⟩:=r;rcases Jg.mp h with e|e
  ·exact⟨_,_,e⟩
  ·exact oa t y e
namespace Y
def FG:V->List V->Hp->VK->Prop:=fun x vs H Q=>∃(a:Addr) (ns:List Int) (k:Int),x=.ref a/\H a=some (.lst (ns.map V.int))/\vs=[.int k]/\Q (.int (ns.count k:Nat)) H
theorem Cg:Gz X "list.count" FG:=by
 intro pins s σ H x xs v us Q I rx rs h;obtain⟨a,ns,k,rfl,hH,rfl,q⟩:=h;cases rx;obtain⟨u,rfl,t,rfl⟩:=vals1 rs;obtain⟨z,its,n,r,hl,e⟩:=I.ni hH;refine L5 PySem.F.slot_list_count ⟨_,e,rfl⟩ PySem.F.entry_list_count (PySem.F.args_list_count_2 _ _) (SeqAt.list_countAt a its.toArray n none _ (.int k t) (fun v=>match v with|.int j _=>j == k|_=>false)) ⟨e,fun y hy=>?_,⟨.int _,H,I.tok _,⟨_,rfl⟩,?_⟩⟩
 ·obtain⟨j,u,rfl⟩:=oa r y (by simpa using hy)
  exact SeqAt.EqAt.int_int _ _ _ _
 ·show Q (.int (((its.toArray).toList.countP _:Nat):Int)) H;rw[mE r k];exact q
def v8:UM:=fun j rs μ Q=>match rs with
 |[.tr (.int k)]=>(match (μ[j]?).bind Sl.box with
  |some (.lst ts)=>∃ ns:List Int,ts=ns.map T.int/\Q (.tr (.int (ns.count k:Nat))) μ
  |_=>False)
 |_=>False
theorem BY:RM K FG v8:=by
 intro F ad B σ H μ Q Qt j s c xs rs hF l e b ps q k;unfold v8 at q
 split at q
 ·rename_i z
  cases ps with
  |cons h ps =>
   cases ps;rw[e] at q
   cases cE h
   have q':(match s.box with|some (.lst ts)=>∃ ns:List Int,ts=ns.map T.int/\Qt (.tr (.int (ns.count z:Nat))) μ|_=>False):=q
   rw[b] at q';rcases ((l.slot j s e).boxed b).2.2.1.is with ⟨ts,vs,rfl,hl,rv⟩|⟨_,_,_,rfl,_⟩
   case inr=>exact q'.elim
   simp only at q';obtain⟨ns,rfl,q2⟩:=q';rw[Y.cX rv] at hl;exact⟨_,ns,z,rfl,hl,rfl,k _ H _ μ (Vr.flat l (.int _)) Fr.refl (Kp.refl μ) q2⟩
 ·exact q.elim
def EN:V->List V->Hp->VK->Prop:=fun x vs H Q=>∃ l b xs ys,x=.ref l/\vs=[.ref b]/\b≠l/\H l=some (.lst xs)/\H b=some (.lst ys)/\xs.length+ys.length<=sizeLine/\Q .aL (upd H l (.lst (xs++ys)))
theorem Dw:Gz X "list.extend" EN:=by
 intro pins s σ H x vs v us Q I rx rv h;obtain⟨l,b,xs,ys,rfl,rfl,hne,hH,hb,hz,q⟩:=h;cases rx;obtain⟨u,rfl,ru⟩:=vals1 rv;cases ru;obtain⟨z,its,n,r,hl,e⟩:=I.ni hH;obtain⟨z2,its2,n2,r2,hl2,e2⟩:=I.ni hb;have hsz:its.toArray.size+its2.toArray.size<=sizeLine:=by rw[I_,I_];lia
 refine L5 F.slot_list_extend ⟨_,e,rfl⟩ F.entry_list_extend (F.args_list_extend_2 _ _) (AutoSeq1.list_extend_list_list_0 l its.toArray n b its2.toArray n2 (extend_door hsz) (by lia) (by lia)) ⟨e,e2,?_⟩
 refine⟨.aL,_,I.B5 (its':=its++its2) hH e ?_ (r.append r2) (by rw[IX];exact hz),rfl,q⟩
 apply Array.toList_inj.mp;simp
def u4:UM:=fun j rs μ Q=>match rs with
 |[.tr (.lst us)]=>(match (μ[j]?).bind Sl.box with
  |some (.lst ts)=>ts.length+us.length<=sizeLine/\Q (.tr .aL) (dz μ j (.lst (ts++us)))
  |_=>False)
 |_=>False
theorem Ci:RM K EN u4:=by
 intro F ad B σ H μ Q Qt j s c xs rs hF l e b ps q k;unfold u4 at q
 split at q
 ·rename_i us
  cases ps with
  |cons h1 ps =>
   cases ps;have rt:=cE h1;rw[e] at q;have q':(match s.box with|some (.lst ts)=>ts.length+us.length<=sizeLine/\Qt (.tr .aL) (dz μ j (.lst (ts++us)))|_=>False):=q
   rw[b] at q';rcases ((l.slot j s e).boxed b).2.2.1.is with ⟨ts,vs,rfl,hl,rv⟩|⟨_,_,_,rfl,_⟩
   case inr=>exact q'.elim
   obtain⟨hz,q2⟩:=(show ts.length+us.length<=sizeLine/\_ from q');have hB:=((l.slot j s e).boxed b).2.1
   cases rt with
   |lst nb hb r2 =>
    rename_i a2 vs2;refine⟨_,a2,vs,vs2,rfl,rfl,fun z=>nb (z ▸ hB),hl,hb,by rw[rv.length,r2.length];exact hz,?_⟩
    have l3:=l.put e b (rv.append r2);unfold dz at q2;rw[e] at q2;exact k _ _ (.tr .aL) _ (Vr.flat l3 .aL) (Fr.set hB) (Kp.set e b (Sl.i8 b)) q2
 ·exact q.elim
end Y
def y9:Bool->List α->List α
 |_,[]=>[]
 |true,x::r=>x::y9 false r
 |false,_::r=>y9 true r
def jJ(l:List α):List α:=y9 true l
theorem Am(ys:List α):∀ b,(y9 b ys).length<=ys.length:=by
 induction ys with
 |nil=>exact fun b=>by cases b<;>exact Jb _
 |cons y r ih =>
  intro b
  cases b with
  |true=>exact Nat.succ_le_succ (ih false)
  |false=>exact Ke (ih true)
theorem zh(ys:List α):(jJ ys).length<=ys.length:=Am ys true
theorem Vals.jJ(h:Vals xs us):Vals (jJ xs) (jJ us):=by
 have k:∀ b,Vals (y9 b xs) (y9 b us):=by
  induction h with
  |nil=>exact fun b=>by cases b<;>exact .nil
  |cons h _ ih =>
   intro b
   cases b with
   |true=>exact .cons h (ih false)
   |false=>exact ih true
 exact k true
theorem ao.jJ{us:List T}(h:ao K H B xs us):ao K H B (jJ xs) (jJ us):=by
 have k:∀ b,ao K H B (y9 b xs) (y9 b us):=by
  induction xs generalizing us with
  |nil=>cases h;exact fun b=>by cases b<;>exact .nil
  |cons x xs ih =>
   cases h with
   |cons h r =>
    intro b
    cases b with
    |true=>exact .cons h (ih r false)
    |false=>exact ih r true
 exact k true
theorem vC(xs:List α)(n m:Nat)(h:(xs.length-m+1) / 2=n):((List.range n).map fun k=>m+2*k).filterMap (fun i=>xs[i]?)=jJ (xs.drop m):=by
 induction n generalizing m with
 |zero=>rw[List.drop_of_length_le (by lia)];rfl
 |succ n ih =>
  have hm:m<xs.length:=by lia
  have h2:(xs.length-(m+2)+1) / 2=n:=by lia
  rw[NH,Jm,LC];show (match xs[m]? with|none=>_|some b=>_)=_
  rw[IV hm];have e2:jJ (xs.drop m)=xs[m]::jJ (xs.drop (m+2)):=by
   rw[Kc hm];show xs[m]::y9 false (xs.drop (m+1))=_;congr 1;rw[<- List.drop_drop (i:=1) (j:=m+1)];generalize xs.drop (m+1)=z
   cases z<;>rfl
  rw[e2,<- ih (m+2) h2,Kh];show xs[m]::_=xs[m]::_;congr 2;exact LG fun k _=>by show m+2*(k+1)=m+2+2*k;rw[Nat.mul_succ,Ob (2*k),MQ]
theorem wZ(items:Array Value)(m:Nat):slicePick items (some (m:Int)) none (some 2)=(jJ (items.toList.drop m)).toArray:=by
 unfold slicePick;have hb:sliceBounds (some (m:Int)) none (some 2) items.size=(((min m items.size:Nat):Int),(items.size:Int),2):=by
  unfold sliceBounds;simp only[Option.getD_some];rw[IY (show ¬ (m:Int)<0 by lia)]
  simp only[show (2:Int) > 0 by decide,L0]
  congr 1;lia
 rw[hb];show ((sliceRange ((min m items.size:Nat):Int) (items.size:Int) 2).filterMap (items[·]?)).toArray=_;congr 1;have el:items.toList.length=items.size:=JT;unfold sliceRange;simp only[show (2:Int) > 0 by decide,L0]
 have ec:(if ((min m items.size:Nat):Int)<(items.size:Int) then ((items.size:Int)-((min m items.size:Nat):Int)+2-1) / 2 else 0).toNat=(items.size-m+1) / 2:=by
  split<;>lia
 rw[ec,<- vC items.toList _ m (by rw[el])]
 have ei:(fun i:Nat=>items[i]?)=fun i=>items.toList[i]?:=funext fun i=>(J5).symm;rw[ei];congr 1;refine LG fun k hk=>?_;have hk':=Km.mp hk;lia
section
variable {X:Cx} {e:Expr} {te:TE}
def Hb(K:Oe)(m:Nat)(te:TE):TE:=fun σ H Q=>te σ H fun x H1=>∃ a xs,x=V.ref a/\bS K H1 a xs/\∀ p,H1 p=none->Q (.ref p) (upd H1 p (.lst (jJ (xs.drop m))))
theorem Dg{m j j2:Nat}(hi:i=(m:Int))(he:PE X e te):PE X (.Subscript e (.Slice (some (.Constant (.int i) j p1)) none (some (.Constant (.int 2) j2 p3)) p2) pos) (Hb X.K m te):=by
 subst hi;intro pins s σ H Q I h;refine Nb (b9 (he pins s σ H _ I h) fun v s1 ⟨x,H1,I1,r1,q1⟩=>?_);refine wpAny_Slice (b9 (i5 gj pins s1 σ H1 (fun o H2=>o=some (m:Int)/\H2=H1) I1 ⟨_,rfl,rfl,rfl⟩) fun vl s2 ⟨l,H2,I2,pl,el,eh⟩=>?_);subst el eh;refine b9 (i7 pins s2 σ H2 (fun o H3=>o=none/\H3=H2) I2 ⟨rfl,rfl⟩) fun vu s3 ⟨u,H3,I3,pu,eu,eh⟩=>?_;subst eu eh;refine b9 (i5 gj pins s3 σ H3 (fun o H4=>o=some 2/\H4=H3) I3 ⟨_,rfl,rfl,rfl⟩) fun vk s4 ⟨k,H4,I4,pk,ek,eh⟩=>?_;subst ek eh;obtain⟨a,xs,rfl,hx,q⟩:=q1;cases r1;have I5:Inv X pins σ H4 {s4 with heap:=s4.heap.push {cls:=.type "slice",data:=.fields #[vl,vu,vk]}}:=I4.kept (t':=s4.toks) fun b ob q=>IU _ q
 obtain⟨its,r,ht,hz⟩:=I5.list hx;have hlen:=r.length;have hg:wpAny (model X.prog X.w) X.A (getItem (.ref a) (.ref s4.heap.objs.size)) (EP X pins σ Q) X.xe {s4 with heap:=s4.heap.push {cls:=.type "slice",data:=.fields #[vl,vu,vk]}}:=by
  refine LR ht.isList (Heap.IsSliceOf.new ..) pl pu pk (by simp) ?_ (by rw[I_]<;>lia)
  rw[wZ];refine⟨.ref _,_,I5.laid (t':=s4.toks) (o:=.lst (jJ (xs.drop m))) (fun b ob q=>IU _ q) (Jb _) ?_,rfl,q _ (I5.aO.fresh (Jb _))⟩;refine⟨by have:=zh (xs.drop m);rw[Kq] at this;lia,jJ (its.drop m),0,Vals.jJ (r.drop m),?_⟩
  exact Je _ rfl
 show wpAny (model X.prog X.w) X.A (subscriptTail e (.Slice (some (.Constant (.int (m:Int)) j p1)) none (some (.Constant (.int 2) j2 p3)) p2) (.ref a) (.ref s4.heap.objs.size)) (EP X pins σ Q) X.xe {s4 with heap:=s4.heap.push {cls:=.type "slice",data:=.fields #[vl,vu,vk]}}
 exact tail_any (ops:=[.ref a,.ref s4.heap.objs.size]) ht.isList.typeIs LW.lookup hg (by with_unfolding_all rfl)
end
namespace Y
def ym(m:Nat)(o:Option T):Option (Prop×R):=match o with
 |some (.lst xs)=>some (True,.fr (.lst (jJ (xs.drop m))))
 |_=>none
def Ak(m:Nat)(ue:UE):UE:=fun μ Q=>ue μ fun r μ'=>jH (ym m (cont μ' r.d)) fun r=>Q r μ'
theorem oI{ue:UE}(K:Oe)(hK:X.K=K)(m:Nat)(hi:i=(m:Int)){j j2:Nat}(he:YE X e ue):YE X (.Subscript e (.Slice (some (.Constant (.int i) j p1)) none (some (.Constant (.int 2) j2 p3)) p2) pos) (Ak m ue):=by
 obtain⟨t,q,r⟩:=he;subst hK;refine⟨_,⟨Dg hi q.h⟩,fun F ad B σ H μ Q Qt hF l q k=>r F ad B σ H μ _ _ hF l q fun v H1 r1 μ1 v1 f1 k1 q1=>?_⟩;have w:=fun t (e:cont μ1 r1.d=some t)=>v1.hv.vw v1.rl e;revert q1 w;unfold ym
 cases cont μ1 r1.d with
 |none=>exact fun q1 _=>q1.elim
 |some t =>
  intro q1 w;have w:=w t rfl;rw[hF] at w
  cases w with
  |lst ha ra=>exact⟨_,_,rfl,bS.of ha,fun p hp=>k _ _ _ μ1 (Vr.eX v1.rl (by rw[hF];exact ao.jJ (ra.drop m)) hp) (f1.d.trans (Fr.more hp)) k1 q1.2⟩
  |_=>exact q1.elim
end Y
namespace A
theorem v8(j:Nat)(k:Int)(μ:Mu)(Q:R->Mu->Prop):Y.v8 j [.tr (.int k)] μ Q=(match (μ[j]?).bind Sl.box with
  |some (.lst ts)=>∃ ns:List Int,ts=ns.map T.int/\Q (.tr (.int (ns.count k:Nat))) μ
  |_=>False):=rfl
theorem u4(j:Nat)(us:List T)(μ:Mu)(Q:R->Mu->Prop):Y.u4 j [.tr (.lst us)] μ Q=(match (μ[j]?).bind Sl.box with
  |some (.lst ts)=>ts.length+us.length<=sizeLine/\Q (.tr .aL) (dz μ j (.lst (ts++us)))
  |_=>False):=rfl
theorem Ak(m:Nat)(ue:UE)(μ:Mu)(Q:R->Mu->Prop):Y.Ak m ue μ Q=ue μ fun r μ'=>jH (Y.ym m (cont μ' r.d)) fun r=>Q r μ':=rfl
theorem Gp(m:Nat)(xs:List T):Y.ym m (some (.lst xs))=some (True,.fr (.lst (jJ (xs.drop m)))):=rfl
end A
namespace Y
section
variable {prog:Program} {w:World} {A:Around} {E:Value->Shared->Prop} {s:Shared}
end
def u5(K:Oe):List V->Hp->VK->Prop:=fun xs H Q=>A4 K xs H Q\/∃ p ns,xs=[.ref p]/\bS K H p (ns.map V.int)/\ns.length<64/\∀ ns':List Int,ns'.Perm ns->ns'.Pairwise (·<=·)->∀ l,H l=none->Q (.ref l) (upd H l (.lst (ns'.map V.int)))
theorem pL(K:Oe)(hK:X.K=K):aT X (.builtin "sorted") (u5 K):=by
 refine (sJ K hK).or ?_;subst hK;intro pins s σ H xs us Q I r h;obtain⟨p,ns,rfl,hq,h64,q⟩:=h;obtain⟨u,rfl,ru⟩:=vals1 r;cases ru;obtain⟨its,rv,pl,hz⟩:=I.list hq;have hi:=intsAre_of rv;refine sorted_ints pl.isList hi (by rw[eB hi];exact h64) fun out ns' a1 a2 a3=>?_
 obtain⟨e,he⟩:=Nr s.heap its out;refine⟨.ref (s.heap.objs.size+1),_,I.laid (t':=s.toks) (fun b ob q=>MS q) (Kw _) (show aJ X.prog X.w _ _ _ (.lst (ns'.map V.int)) from⟨?_,out.toList,e,d4 a1,by simpa using he⟩),rfl,q ns' a2 a3 _ (I.aO.fresh (Kw _))⟩
 rw[IW,a2.length_eq];exact Jj (K9 h64) (by decide)
def vX:T->Mu->(R->Mu->Prop)->Prop:=fun t μ Q=>match t with
 |.tup xs=>∃ ns:List Int,xs=ns.map T.int/\ns.length<64/\∀ ns':List Int,ns'.Perm ns->ns'.Pairwise (·<=·)->Q (.fr (.lst (ns'.map T.int))) μ
 |.lst xs=>∃ ns:List Int,xs=ns.map T.int/\ns.length<64/\∀ ns':List Int,ns'.Perm ns->ns'.Pairwise (·<=·)->Q (.fr (.lst (ns'.map T.int))) μ
 |_=>False
theorem wO:RC K (u5 K) (pQ vX):=fz fun F ad B σ H μ Q Qt x t hK l v1 q k=>by
 subst hK
 cases v1 with
 |tup ha ra =>
  obtain⟨ns,rfl,h64,q⟩:=q;exact .inl ⟨_,ns,rfl,by rw[<- Y.cX ra];exact b8.of ha,h64,fun ns' a2 a3 p hp=>k _ _ _ (Vr.eX l (cV _) hp) (Fr.more hp) (q ns' a2 a3)⟩
 |lst ha ra =>
  obtain⟨ns,rfl,h64,q⟩:=q;exact .inr ⟨_,ns,rfl,by rw[<- Y.cX ra];exact bS.of ha,h64,fun ns' a2 a3 p hp=>k _ _ _ (Vr.eX l (cV _) hp) (Fr.more hp) (q ns' a2 a3)⟩
 |_=>exact q.elim
end Y
namespace A
end A
section
variable {prog:Program} {w:World} {A:Around} {E:Value->Shared->Prop} {s:Shared}
end
section
variable {X:Cx} {a b:Expr} {rest:List Expr} {pos:Pos} {ta tb:TE}
end
namespace Y
end Y
namespace A
end A
namespace Y
end Y
namespace A
end A
theorem av{u w:US}{E:Ed}{μ:Mu}(h:∀ N:Mu->Prop,(∀ μ',w E μ'->N μ')->u {E with nx:=N} μ):Y.Ca u w E μ:=h _ fun _ z=>z
theorem m5{u w:lx}{E:Ed}{Xt:Xw}{μ:Mu}(h:∀ N:Mu->Prop,(∀ μ',w E Xt μ'->N μ')->u {E with nx:=N} Xt μ):Y.ES u w E Xt μ:=h _ fun _ z=>z
namespace Y
end Y
namespace A
end A
def mS(h:Heap)(d:Addr)(es:Array DictEntry)(ep:Nat):Prop:=∃ o,h.get? d=some o/\o.ExactDict/\o.data=.dict es ep
section
variable {prog:Program} {w:World} {A:Around} {E:Value->Shared->Prop} {s:Shared}
theorem mS.ty{d:Addr}(x:mS s.heap d es ep):s.TypeIs (.ref d) "dict":=let ⟨o,ho,hc,_⟩:=x;⟨o,ho,hc.1⟩
theorem mS.lt{d:Addr}(x:mS h d es ep):d<h.objs.size:=let ⟨_,ho,_⟩:=x;Jc ho
theorem y6{d:Addr}{Q:Value->Shared->Prop}(low:(d == sysModules)=false)(x:mS s.heap d es ep)
  (q:Q (.ref s.heap.objs.size) {s with heap:=s.heap.push {cls:=.type "dict_keyiterator",data:=.fields #[.ref d,.int 0 0,.int es.size 0,.int ep 0]}}):wpAny (model prog w) A (pyIter (.ref d)) Q E s:=by
 obtain⟨o,ho,hx,hdat⟩:=id x;refine wpAny_pyIter_slot x.ty PySem.F.slot_dict_iter (JU PySem.F.slot_dict_iter x.ty PySem.F.entry_dict_iter ?_ (PySem.F.args_dict_iter_1 _));unfold Builtin.«dict.__iter__» Builtin.Dict.dictSlotNone;refine IT (IT (wpAny_notOrdered_dict x.ty ?_));show wpAny _ _ (pure (Value.ref d)) _ _ s;refine IZ ?_;show wpAny _ _ (Builtin.Dict.showsAll d >>= _) _ _ s;unfold Builtin.Dict.showsAll;rw[low,IY Jd];refine IT (IZ (IT (MY ho hdat (IT (N5 ho hdat ?_)))));exact IT (JP (IZ ⟨_,rfl,"dict_keyiterator",_,⟨_,Je _ rfl,rfl⟩,PySem.F.slot_dict_keyiterator_next.lookup,q⟩))
theorem yS{d:Addr}{i:Nat}(hit:s.heap.IsKeyIter it d i es.size ep)(x:mS s.heap d es ep)(hi:i<es.size)
  (q:∀ h',h'.IsKeyIter it d (i+1) es.size ep->Heap.SameBut it s.heap h'->Q (some es[i].key) {s with heap:=h'}):wpAny (model prog w) A (pyNext (.ref it)) Q E s:=by
 obtain⟨o,ho,hc,hd⟩:=id hit;obtain⟨od,hod,hx,hdd⟩:=id x;unfold pyNext;refine IT (Lm (JL (name:=Str.ofString "__next__") hit.typeIs PySem.F.slot_dict_keyiterator_next (JU PySem.F.slot_dict_keyiterator_next hit.typeIs PySem.F.entry_dict_keyiterator_next ?_ (PySem.F.args_dict_keyiterator_next_1 _))));refine IT (IZ (IT (IT ?_)))
 first|refine IT (KI hit.typeIs (IZ (IT (MB ho hd ?_))))|refine IT (Lh hit.typeIs (IZ (IT (MB ho hd ?_))))
 simp only[show Builtin.Dict_items.ownsTuple "dict_keyiterator"=false by decide,Ki,KC]
 show wpAny _ _ (if (Value.ref d == Value.none)=true then _ else _) _ _ s;rw[IY (show ¬ ((Value.ref d == Value.none)=true) from Jd)]
 refine IT (IZ (IT (MY hod hdd ?_)));rw[IY (by simp)]
 refine IT (IZ (IT (N5 hod hdd ?_)));rw[IY (by simp)]
 refine IZ ?_;simp only[show ¬ ((i:Int)<0) by lia,KC,J8,Ni hi]
 refine IT ?_
 first|refine IT (KI hit.typeIs (IZ (IT (Mj hit.typeIs ?_))))|refine IT (Lh hit.typeIs (IZ (IT (Mj hit.typeIs ?_))))
 show wpAny _ _ (setField (.ref it) 1 (rawInt ((i:Int)+1)) >>= _) _ _ s;refine IT (LV ho hd (by simp) ?_)
 have h2:(s.heap.update it (Obj.mapFields (·.setIfInBounds 1 (rawInt ((i:Int)+1))))).IsKeyIter it d (i+1) es.size ep:=⟨_,Lz _ ho (Mh (Lr hd _)),(Obj.cls_mapFields ..).trans hc,by rw[Lr hd];simp[rawInt]⟩
 refine IT (J9 (IT (Mj (s:={s with heap:=s.heap.update it (Obj.mapFields (·.setIfInBounds 1 (rawInt ((i:Int)+1))))}) h2.typeIs ?_)))
 show wpAny _ _ (pure es[i].key) _ _ _;exact IZ (IZ ⟨_,rfl,IZ (q _ h2 (K1 ..))⟩)
theorem zy{d:Addr}(hh:A.handled=none)(hit:s.heap.IsKeyIter it d es.size es.size ep)(x:mS s.heap d es ep)
  (q:∀ h',Heap.ExtBut it s.heap h'->Q none {s with heap:=h'}):wpAny (model prog w) A (pyNext (.ref it)) Q E s:=by
 obtain⟨o,ho,hc,hd⟩:=id hit;obtain⟨od,hod,hx,hdd⟩:=id x;unfold pyNext;refine IT (Lm (JL (name:=Str.ofString "__next__") hit.typeIs PySem.F.slot_dict_keyiterator_next (JU PySem.F.slot_dict_keyiterator_next hit.typeIs PySem.F.entry_dict_keyiterator_next ?_ (PySem.F.args_dict_keyiterator_next_1 _))));refine IT (IZ (IT (IT ?_)))
 first|refine IT (KI hit.typeIs (IZ (IT (MB ho hd ?_))))|refine IT (Lh hit.typeIs (IZ (IT (MB ho hd ?_))))
 simp only[show Builtin.Dict_items.ownsTuple "dict_keyiterator"=false by decide,Ki,KC]
 show wpAny _ _ (if (Value.ref d == Value.none)=true then _ else _) _ _ s;rw[IY (show ¬ ((Value.ref d == Value.none)=true) from Jd)]
 refine IT (IZ (IT (MY hod hdd ?_)));rw[IY (by simp)]
 refine IT (IZ (IT (N5 hod hdd ?_)));rw[IY (by simp)]
 refine IZ ?_;simp only[show ¬ ((es.size:Int)<0) by lia,KC,J8,Array.getElem?_eq_none (Jb es.size)]
 refine IT ?_
 first|refine IT (KI hit.typeIs (IZ ?_))|refine IT (Lh hit.typeIs (IZ ?_))
 show wpAny _ _ (setField (.ref it) 0 .none >>= _) _ _ s;refine IT (LV ho hd (by simp) ?_)
 show wpAny _ _ (newExc (.type "StopIteration") [] >>= _) _ _ _;refine IT ?_;simp only[newExc,newTuple];refine IT (JP ?_ (by size_fits))
 refine IT (m:=firstArgMember _ _) (wpAny_of_eq (a:=Value.none) (by first|rfl | (simp only[firstArgMember];rfl)) (JP ?_ (by size_fits)))
 simp only[raiseNew];refine IT (wpAny_handled ?_);rw[show A.in1.handled=none from hh];refine IT (IZ (wpAny_throw ?_));refine IT (Nn (T:="StopIteration") (b:=true) ⟨_,Je _ rfl,rfl⟩ NP ?_);exact IZ (q _ (((K1 ..).extBut.push _).push _))
end
namespace Y
end Y
namespace A
end A
section
variable {K:Oe} {g:TG} {tb:TS} {D:Ends} {σ:St} {H:Hp} {te:TE} {Q:VK}
end
namespace Y
end Y
namespace A
end A
namespace Y
end Y
namespace A
end A
section
variable {prog:Program} {w:World} {A:Around} {E:Value->Shared->Prop} {s:Shared}
structure D8 (prog:Program) (w:World) (s:Shared) (vs:List Value) (κ:SortKind) (kz:Nat->Int) (h:Heap):Prop where
 kind:∀(A:Around) (E:Value->Shared->Prop) (Q:SortKind->Shared->Prop),2<=vs.length->Q κ {s with heap:=h}->wpAny (model prog w) A (keyKind' vs.toArray) Q E {s with heap:=h}
 lt:∀(A:Around) (C:Bool->Shared->Prop) (i j:Nat),i<vs.length->j<vs.length->C (decide (kz i<kz j)) {s with heap:=h}->kas_ask prog w A κ vs i j C {s with heap:=h}
theorem wR{a:Addr}{vs:List Value}{n:Nat}{κ:SortKind}{kz:Nat->Int}{P:Fin->Shared->Prop}(ho:s.heap.get? a=some (seqObj "list" vs.toArray n))(h64:vs.length<64)
  (hq:∀ h',(∀ b o,b≠a->s.heap.get? b=some o->h'.get? b=some o)->D8 prog w s vs κ kz h')
  (h:∀ p:Array Nat,p.toList.Perm (List.range vs.length)->p.toList.Pairwise (SP.R kz)->P (.done (.ret .none)) {s with heap:=sortedHeap s.heap a vs (List.toArray (p.toList.map fun i=>vs.getD i Value.none))}) :
  wpAny (model prog w) A (Builtin.«list.sort» ⟨[.ref a],[]⟩) P E s:=by
 rw[list_sort_plain];have ha:a<s.heap.objs.size:=Jc ho;refine IT (Mq ho rfl (IT (L_ ho rfl ?_)));obtain⟨e1,ho1⟩:∃ e1,(s.heap.update a (Obj.mapSeq fun _=>#[])).get? a=some (seqObj "list" #[] e1):=⟨_,LL ho (fun _=>#[])⟩;refine IT (seqEpoch_at ho1 rfl (IT (M8 (IT (Lo (J9 ?_))))));have up:∀ b o,b≠a->s.heap.get? b=some o->(((s.heap.update a (Obj.mapSeq fun _=>#[])).push (seqObj "tuple" vs.toArray 0)).push (seqObj "list" #[] 0)).get? b=some o:=fun b o hb e =>
  IU _ (IU _ ((Lw _ _ (Ne.symm hb)).trans e))
 have ho6:(((s.heap.update a (Obj.mapSeq fun _=>#[])).push (seqObj "tuple" vs.toArray 0)).push (seqObj "list" #[] 0)).get? a=some (seqObj "list" #[] e1):=IU _ (IU _ ho1);show wpAny (model prog w) A _ P E {s with heap:=((s.heap.update a (Obj.mapSeq fun _=>#[])).push (seqObj "tuple" vs.toArray 0)).push (seqObj "list" #[] 0)}
 dsimp only;have hs:=hq _ up;have hsz:vs.toArray.size=vs.length:=by simp
 by_cases h2:vs.toArray.size<2
 ·rw[if_pos h2,if_pos h2];refine wpAny_bind (wpAny_pure ?_);rw[StateT.run_pure];refine wpAny_bind (wpAny_pure ?_);dsimp only;refine wpAny_bind (seqEpoch_at ho6 rfl (wpAny_bind (listUpdate_at ho6 rfl ?_ (hsz2:=by rw[Array.size_map];show (pairsOf vs).size<=_;rw[pairsOf_size,sizeLine_eq];lia))))
  simp only[MX,Ki,KC];refine IZ ?_;have hid:=h (List.toArray (List.range vs.length)) (List.Perm.refl _) (by
   rcases vs with _|⟨x,_|⟨y,r⟩⟩
   ·exact .nil
   ·simp
   ·exfalso;rw[hsz] at h2;simp only[Jf] at h2;lia)
  have e:(arrOf (SortSt.mk' general' (vs.toArray.zip vs.toArray) #[] 7 none)).map (·.2)=List.toArray ((List.toArray (List.range vs.length)).toList.map fun i=>vs.getD i Value.none):=by
   show (vs.toArray.zip vs.toArray).map (·.2)=_;apply Array.toList_inj.mp;rw[Array.toList_map,Array.toList_zip];show (vs.zip vs).map (·.2)=(List.range vs.length).map fun i=>vs.getD i Value.none;rw[Nu (Jb _)];refine LZ fun i=>?_;rw[Jy];rcases KP i vs.length with c|c
   ·rw[LD c,IV c];simp[c]
   ·rw[Jx.mpr c,Jx.mpr (by rw[Js];exact c)];rfl
  rw[e];exact hid
 ·rw[IY h2,IY h2];have h2':2<=vs.length:=by rw[hsz] at h2;lia
  refine IT (hs.kind _ _ _ h2' ?_);refine IT (JW (kat_run (ks:=vs) (vs:=vs) (Q:=fun st' s'=>s'={s with heap:=((s.heap.update a (Obj.mapSeq fun _=>#[])).push (seqObj "tuple" vs.toArray 0)).push (seqObj "list" #[] 0)}/\∃ p:Array Nat,arrOf st'=p.map (kas_item (vs.toArray.zip vs.toArray))/\failedOf st'=none/\p.toList.Perm (List.range vs.length)/\p.toList.Pairwise (SP.R kz))
   (G:=fun p s'=>s'={s with heap:=((s.heap.update a (Obj.mapSeq fun _=>#[])).push (seqObj "tuple" vs.toArray 0)).push (seqObj "list" #[] 0)}/\p.toList.Perm (List.range vs.length)/\p.toList.Pairwise (SP.R kz))
   rfl h2' h64 (fun p st' s' a1 a2 a3 a4=>⟨a4.1,p,a2,a3,a4.2⟩) ?_) ?_ fun _ _ e=>e)
  ·refine SP.qx (k:=kz) (I:=fun s'=>s'={s with heap:=((s.heap.update a (Obj.mapSeq fun _=>#[])).push (seqObj "tuple" vs.toArray 0)).push (seqObj "list" #[] 0)}) (fun i j C s' hi hj hI hC=>?_) (by lia) rfl fun p s' hp hr hI=>⟨hI,hp,hr⟩
   subst hI;exact hs.lt _ _ i j hi hj (hC _ rfl)
  rintro⟨⟨⟩,st'⟩ s' ⟨rfl,p,har,hf,hp,hr⟩;dsimp only;have esn:=kat_snds (ks:=vs) (vs:=vs) rfl har;have hl:(p.toList.map fun i=>vs.getD i Value.none).length=vs.length:=by rw[List.length_map,hp.length_eq,List.length_range]
  refine IT (seqEpoch_at ho6 rfl ?_);refine IT (L_ ho6 rfl ?_ (hsz2:=by show ((arrOf st').map (·.2)).size<=_;rw[esn,I_,hl,Kv];lia))
  rw[hf];simp only[MX,Ki,KC];rw[esn];exact IZ (h p hp hr)
theorem oM{l:Addr}{vs:List Value}{κ:SortKind}{kz:Nat->Int}{Q:Value->Shared->Prop}(hl:s.heap.IsList l vs.toArray)(h64:vs.length<64)(hq:∀ h',(∀ b o,s.heap.get? b=some o->h'.get? b=some o)->D8 prog w s vs κ kz h')
  (h:∀ p:Array Nat,p.toList.Perm (List.range vs.length)->p.toList.Pairwise (SP.R kz)->Q (.ref (s.heap.objs.size+1)) {s with heap:=sortedAll s.heap vs (List.toArray (p.toList.map fun i=>vs.getD i Value.none))}) :
  wpAny (model prog w) A (call (.builtin "sorted") [.ref l]) Q E s:=by
 refine Nf NF Np Nq (args_sorted1 _) ?_;unfold Builtin.«sorted»;refine IT (m:=checkCount "sorted" 1 1 _) (IZ (IT (collect_list hl (IT (Lo ?_)))));have hsz:((s.heap.push (seqObj "list" #[] 0)).update s.heap.objs.size (Obj.mapSeq (·++vs.toArray))).objs.size=s.heap.objs.size+1:=by rw[L7,Ng]
 have hoL:(((s.heap.push (seqObj "list" #[] 0)).update s.heap.objs.size (Obj.mapSeq (·++vs.toArray))).push (seqObj "list" vs.toArray 0)).get? (s.heap.objs.size+1)=some (seqObj "list" vs.toArray 0):=by rw[<- hsz];exact Je _ rfl
 have keep:∀ b o,s.heap.get? b=some o->(((s.heap.push (seqObj "list" #[] 0)).update s.heap.objs.size (Obj.mapSeq (·++vs.toArray))).push (seqObj "list" vs.toArray 0)).get? b=some o:=fun b o q=>by
  have hlt:b<s.heap.objs.size:=Jc q;rw[Heap.get?_push_ne _ _ _ (by rw[hsz];exact Jq (KG hlt)),Heap.get?_update_ne _ _ _ _ (Jq hlt),Heap.get?_push_ne _ _ _ (Jq hlt)]
  exact q
 show wpAny _ _ _ _ _ {s with heap:=((s.heap.push (seqObj "list" #[] 0)).update s.heap.objs.size (Obj.mapSeq (·++vs.toArray))).push (seqObj "list" vs.toArray 0)}
 rw[hsz];refine IT (J9 (JU MA ⟨_,hoL,rfl⟩ Mr (wR (kz:=kz) (κ:=κ) (s:={s with heap:=((s.heap.push (seqObj "list" #[] 0)).update s.heap.objs.size (Obj.mapSeq (·++vs.toArray))).push (seqObj "list" vs.toArray 0)}) hoL h64 (fun h' hk=>?_) fun p a1 a2=>⟨_,rfl,?_⟩) (args_list_sort _)))
 ·have:=hq h' fun b o e=>hk b o (Jq (KG (Jc e))) (keep b o e);exact⟨this.kind,this.lt⟩
 ·exact IZ ⟨_,rfl,h p a1 a2⟩
end
def lexLt(x y:Int×Int):Bool:=decide (x.1<y.1\/(x.1=y.1/\x.2<y.2))
theorem kj{x:Int×Int}:lexLt x y=true ↔ (x.1<y.1\/(x.1=y.1/\x.2<y.2)):=decide_eq_true_iff
def rank(l:List (Int×Int))(x:Int×Int):Nat:=l.countP fun y=>lexLt y x
def rk(l:List (Int×Int))(i:Nat):Int:=(rank l (l.getD i (0,0)):Nat)
theorem pj{p q:Int×Int->Bool}(h:∀ z,p z=true->q z=true){x:Int×Int}:x∈l->p x=false->q x=true->l.countP p<l.countP q:=by
 induction l with
 |nil=>intro hx;cases hx
 |cons y l ih =>
  intro hx h1 h2;have hle:l.countP p<=l.countP q:=NT fun z _=>h z;rw[Nv,Nv];rcases Jg.mp hx with rfl|hx
  ·rw[IY (by rw[h1];exact Jd),Ja h2];lia
  ·have:=ih hx h1 h2
   cases hp:p y with
   |true=>rw[Ja rfl,Ja (h y hp)];lia
   |false=>rw[IY Jd];split<;>lia
theorem ze{x:Int×Int}(hx:x∈l)(hy:y∈l):decide (rank l x<rank l y)=lexLt x y:=by
 have irr:∀ z,lexLt z z=false:=fun z=>Jp (by lia)
 cases h:lexLt x y with
 |true =>
  refine Jz (pj (fun z hz=>?_) hx (irr x) h);rw[kj] at h hz ⊢;lia
 |false =>
  refine Jp (NX.mpr (NT fun z _ hz=>?_));have h':¬ (x.1<y.1\/(x.1=y.1/\x.2<y.2)):=of_decide_eq_false h;rw[kj] at hz ⊢;lia
namespace Y
theorem rf{vs:List V}{its:List Value}(h:Vals vs its):∀ ix:List Nat,(∀ i∈ix,i<vs.length)->Vals (ix.map fun i=>vs.getD i .aL) (ix.map fun i=>its.getD i Value.none)
 |[],_=>.nil
 |i::ix,hi=>by
  refine .cons ?_ (rf h ix fun j hj=>hi j (Jk _ hj));have hl:=hi i (Jl ..);obtain⟨u,e,r⟩:=Vals.get h (IV hl);show RelV (vs.getD i .aL) (its.getD i Value.none);rw[JK,JK,IV hl,e];exact r
end Y
namespace A
end A
namespace Y
end Y
namespace A
end A
section
variable {X:Cx} {tg:Expr}
end
namespace Z
variable {X:Cx} {tg a b c d e f o:Expr} {ta:TA} {td ty tx:TE} {p pos apos cpos kpos:Pos} {cj:Nat}
end Z
namespace Ap
end Ap
theorem aJ.HE{P:Program}{H':Hp}{a:Addr}{o:HO}(x:aJ P w H h a o)(ho:∀ b,H b=some (.own a)->H' b=some (.own a))(ht:∀ b xs,H b=some (.tup xs)->H' b=some (.tup xs))(hz:∀ b ob c,H b=some (.dk ob (.own c))->H' b=some (.dk ob (.own c))):aJ P w H' h a o:=by
 induction o with
 |dT kvs=>obtain⟨z,y,xs,r,c⟩:=x;exact⟨z,y,xs,Paired.j0 r fun p q z=>⟨z.1,ht _ _ z.2.1,z.2.2⟩,c⟩
 |ins C dx fs=>obtain⟨d,z⟩:=x;exact⟨ho _ d,z⟩
 |dk ob u ih=>exact⟨x.1,ih x.2⟩
 |rY ps =>
  obtain⟨qs,e,t,f⟩:=x;exact⟨qs,e,t,fun pos cv q=>let ⟨c,oc,vs,t',e1,e2,e3⟩:=f pos cv q;⟨c,oc,vs,t',e1,hz _ _ _ e2,e3⟩⟩
 |_=>exact x
section
variable {X:Cx} {pins:List (Addr×Obj)} {σ:St} {H:Hp} {s:Shared} {d:Addr} {kvs:List (Key×V)} {o:Obj}
theorem Inv.Bh{u u':HO}(I:Inv X pins σ H s)(e:H d=some u)(n1:∀ xs,u≠.tup xs)(n2:∀ ps,u≠.rY ps)(n3:∀ a,u≠.own a)(n4:∀ ob c,u≠.dk ob (.own c))(nf:∀ ob v,X.H₀ d≠some (.dk ob v))(new:aJ X.prog X.w H s.heap d u'):Inv X pins σ (upd H d u') s:=by
 have ne:∀ b v,H b=some v->v≠u->b≠d:=fun b v q h z=>by subst z;rw[e] at q;exact h (Option.some.inj q).symm
 have neN:∀ b,H b=none->b≠d:=fun b q z=>by subst z;rw[e] at q;cases q
 have st:∀ a v,aJ X.prog X.w H s.heap a v->aJ X.prog X.w (upd H d u') s.heap a v:=fun a v x=>x.HE (fun b q=>by rw[af (ne b _ q fun z=>n3 _ z.symm)];exact q) (fun b xs q=>by rw[af (ne b _ q fun z=>n1 _ z.symm)];exact q) fun b ob c q=>by rw[af (ne b _ q fun z=>n4 _ _ z.symm)];exact q
 refine⟨I.ok,I.os,I.bare,⟨I.base.keep,I.base.slot,fun b ob q n hx=>?_,I.base.there,fun b xs q=>?_,fun b ob v q=>?_,fun b ps q=>?_⟩,I.loc,I.cell,?_,fun x c q=>?_,fun p hp=>?_,fun b v q=>?_,I.len⟩
 ·rw[af (neN b (I.base.free b ob q n hx))];exact I.base.free b ob q n hx
 ·have q':=I.base.jD b xs q;rw[af (ne b _ q' fun z=>n1 _ z.symm)];exact q'
 ·have q':=I.base.gq b ob v q;rw[af (fun z=>nf ob v (by rw[<- z];exact q))];exact q'
 ·obtain⟨m,q'⟩:=I.base.gr b ps q;exact⟨m,by rw[af (ne b _ q' fun z=>n2 _ z.symm)];exact q'⟩
 ·rw[af (neN _ I.free)];exact I.free
 ·rw[af (neN _ (I.dc x c q))];exact I.dc x c q
 ·obtain⟨h1,h2,h3⟩:=I.pin p hp;exact⟨h1,by rw[af (neN _ h2)];exact h2,h3⟩
 ·by_cases z:b=d
  ·subst z;rw[ai] at q;cases q;exact st _ _ new
  ·rw[af z] at q;exact st _ _ (I.aO b v q)
theorem Inv.AM{u:HO}(I:Inv X pins σ H s)(e:H d=some u)(n:∀ ob v,u≠.dk ob v):∀ ob v,X.H₀ d≠some (.dk ob v):=fun ob v z=>by
 have:=I.base.gq d ob v z;rw[e] at this;exact n ob v (Option.some.inj this)
theorem Inv.hold(I:Inv X pins σ H s)(e:H d=some (.dK kvs))(ho:s.heap.get? d=some o):Inv X pins σ (upd H d (.dk o (.dK kvs))) s:=
 I.Bh e (fun _ z=>nomatch z) (fun _ z=>nomatch z) (fun _ z=>nomatch z) (fun _ _ z=>nomatch z) (I.AM e fun _ _ z=>nomatch z) ⟨ho,I.aO d _ e⟩
theorem Inv.letGo(I:Inv X pins σ H s)(e:H d=some (.dk o (.dK kvs)))(nf:∀ ob v,X.H₀ d≠some (.dk ob v)):Inv X pins σ (upd H d (.dK kvs)) s:=
 I.Bh e (fun _ z=>nomatch z) (fun _ z=>nomatch z) (fun _ z=>nomatch z) (fun _ _ z=>nomatch z) nf (I.aO d _ e).2
def nY(t:Addr->Obj->List (Key×V)->TE):TE:=fun σ H Q=>∃ d kvs,(H d=some (.dK kvs)/\∀ o,t d o kvs σ (upd H d (.dk o (.dK kvs))) fun v H'=>H' d=some (.dk o (.dK kvs))/\Q v (upd H' d (.dK kvs)))\/∃ o,H d=some (.dk o (.dK kvs))/\t d o kvs σ H Q
theorem zL(h:∀ d o kvs,PE X e (t d o kvs)):PE X e (nY t):=by
 intro pins s σ H Q I hq;obtain⟨d,kvs,⟨e1,hq⟩|⟨o,e1,hq⟩⟩:=hq
 ·obtain⟨_,_,vs,_,o,es,ep,ho,_⟩:=(show aJ X.prog X.w H s.heap d (.dK kvs) from I.aO d _ e1);have nf:=I.AM e1 fun _ _ z=>nomatch z;exact b9 (h d o kvs pins s σ _ _ (I.hold e1 ho) (hq o)) fun v s' ⟨x,H',I',r,e',q⟩=>⟨x,_,I'.letGo e' nf,r,q⟩
 ·exact h d o kvs pins s σ H Q I hq
end
def FJ(d:Addr)(o:Obj)(kvs:List (Key×V)):It:=⟨fun i H=>H d=some (.dk o (.dK kvs))/\i<kvs.length,fun i H x H'=>H'=H/\∃ p,kvs[i]?=some p/\x=kV p.1,fun i H=>H d=some (.dk o (.dK kvs))/\i=kvs.length⟩
theorem Cj(r:KV kvs vs):kvs.length=vs.length:=by
 unfold KV at r
 induction r with
 |nil=>rfl
 |cons _ _ ih=>rw[Jf,Jf,ih]
theorem pairs_len{P:Program}{es:List DictEntry}(r:PySem.Pairs (bB P w) es vs):es.length=vs.length:=by
 induction r with
 |nil=>rfl
 |cons _ _ _ ih=>rw[Jf,Jf,ih]
theorem tS{P:Program}{es:List DictEntry}(r:PySem.Pairs (bB P w) es vs):∀{kvs:List (Key×V)},KV kvs vs->∀{i:Nat} {p:Key×V} {e:DictEntry},kvs[i]?=some p->es[i]?=some e->RelV (kV p.1) e.key:=by
 induction r with
 |nil=>intro kvs _ i p e _ h;simp at h
 |@cons e0 kv es vs h1 h2 r ih =>
  intro kvs hk i p e hp he;unfold KV at hk
  cases hk with
  |cons q hk =>
   cases i with
   |zero =>
    simp at hp he;subst hp he;rw[<- q.1] at h1;rcases b7 h1 with ⟨j,t,e1,e2⟩|⟨x,t,e1,e2⟩
    ·rw[e1,e2];exact⟨t,rfl⟩
    ·rw[e1,e2];exact⟨t,rfl⟩
   |succ i=>exact ih hk (by simpa using hp) (by simpa using he)
theorem m6{pins:List (Addr×Obj)}{σ:St}{s:Shared}{d:Addr}(I:Inv X pins σ H s)(e:H d=some (.dk o (.dK kvs))):∃ es ep,mS s.heap d es ep/\o.data=.dict es ep/\es.size=kvs.length/\(d == sysModules)=false/\∀(i:Nat) (p:Key×V) (h:i<es.size),kvs[i]?=some p->RelV (kV p.1) es[i].key:=by
 obtain⟨ho,_,lowd,vs,rk,o',es,ep,ho',hx,hdat,_,pr,_⟩:=(show aJ X.prog X.w H s.heap d (.dk o (.dK kvs)) from I.aO d _ e);rw[ho] at ho';cases ho';refine⟨es,ep,⟨o,ho,hx,hdat⟩,hdat,by rw[Cj rk,<- pairs_len pr,JT],lowd,fun i p h hp=>tS pr rk hp ?_⟩
 rw[J5,Ni h]
theorem tM{P:Program}{tg:Expr}{d:Addr}(it:Addr)(es:Array DictEntry)(ep:Nat)(hd:o.data=.dict es ep)(ne:it≠d):Turn P w K tg (FJ d o kvs) [it] it (fun i h=>h.IsKeyIter it d i es.size ep) where
 mem:=by simp
 obj:=fun i h st b hb=>by
  have e:b=it:=by simpa using hb
  subst e;obtain⟨ob,h1,_,h3⟩:=st;exact⟨ob,h1,fun v z=>by rw[h3] at z;cases z⟩
 keep:=fun i h h' st k=>st.at fun ob e=>k it (by simp) _ e
 item:=by
  intro X hP hw hK hc i pins s σ H E I hf st hg;subst hP hw hK;obtain⟨f0,f1,f2,f3,f4,f5⟩:=hf it (by simp)
  obtain⟨hh,hi⟩:=hg;obtain⟨es',ep',at0,hd',hl,_,hk⟩:=m6 I hh;rw[hd] at hd';cases hd';refine yS st at0 (by lia) fun h' a b=>?_
  have I1:Inv X pins σ H {s with heap:=h'}:=I.turned (t':=s.toks) (fun c ob hb e=>b.extBut c ob hb e) f0 f1 f3 f4 f5
  obtain⟨ob,g1,g2,g3⟩:=id a;refine⟨_,rfl,qQ (s:={s with heap:=h'}) (n:="dict_keyiterator") g1 g2 g3 (by decide) ⟨kV (kvs[i]).1,H,I1,hk i kvs[i] (by lia) (IV hi),⟨rfl,kvs[i],IV hi,rfl⟩,a,fun b hb=>(hf b hb).1⟩⟩
 done:=by
  intro X hP hw hK hc i pins s σ H E I hf st hg;subst hP hw hK;obtain⟨f0,f1,f2,f3,f4,f5⟩:=hf it (by simp)
  obtain⟨hh,hi⟩:=hg;obtain⟨es',ep',at0,hd',hl,_,hk⟩:=m6 I hh;rw[hd] at hd';cases hd';have e:i=es.size:=by lia
  subst e;exact zy (I.ok.hd hc) st at0 fun h' eb=>⟨rfl,I.turned (t':=s.toks) (fun b ob hb e=>eb b ob hb e) f0 f1 f3 f4 f5⟩
 self:=fun _ _ _ _ _ st h=>wpAny_pyIter_keyiter st h
def n9(d:Addr)(o:Obj)(kvs:List (Key×V))(tl:TE):TI:=fun σ H R=>tl σ H fun x H1=>x=.ref d/\H1 d=some (.dk o (.dK kvs))/\R (FJ d o kvs) H1
theorem Af{tg l:Expr}{tl:TE}{d:Addr}(hl:PE X l tl):PI X tg l (n9 d o kvs tl):=by
 intro pins s σ H R I h;refine b9 (hl pins s σ H _ I h) fun v s1 ⟨x,H1,I1,r1,q1⟩=>?_;obtain⟨rfl,hh,q⟩:=q1;cases r1;obtain⟨es,ep,at0,hd,hlen,low,hk⟩:=m6 I1 hh;refine y6 low at0 ?_;refine⟨s1.heap.objs.size,[s1.heap.objs.size],_,_,H1,rfl,I1.kept (t':=s1.toks) fun b ob e=>IU _ e,tM _ es ep hd (Ne.symm (Jq at0.lt)),⟨_,Je _ rfl,rfl,rfl⟩,fun b hb=>?_,q⟩;have e:b=s1.heap.objs.size:=by simpa using hb
 subst e;exact I1.m_ (Jb _) (I1.aO.fresh (Jb _))
namespace Z
variable {X:Cx} {tg e l:Expr} {tl:TE}
theorem hold(h:∀ d o kvs,QE X e (t d o kvs)):QE X e (nY t):=⟨zL fun d o kvs=>(h d o kvs).h⟩
theorem held(d:Addr)(o:Obj)(kvs:List (Key×V))(hl:QE X l tl):QI X tg l (n9 d o kvs tl):=⟨Af hl.h⟩
theorem allB{t:TA}{p:Pos}(K:Oe)(hK:X.K=K)(hc:X.calm=true)(hg:Gl X "all")(hm:X.mg "all"=none)(ha:QA X [e] t)(h1:cN e=true:=by rfl):QE X (.Call (.Name "all" p) [e] [] pos) (uq (Y.Gn K) t):=Z.cb (Y.tq K hK hc) hg hm (by decide +kernel) ha (h1:=h1)
end Z
namespace Ap
theorem nY(t:Addr->Obj->List (Key×V)->TE)(σ:St)(H:Hp)(Q:VK):L2.nY t σ H Q=∃ d kvs,(H d=some (.dK kvs)/\∀ o,t d o kvs σ (upd H d (.dk o (.dK kvs))) fun v H'=>H' d=some (.dk o (.dK kvs))/\Q v (upd H' d (.dK kvs)))\/∃ o,H d=some (.dk o (.dK kvs))/\t d o kvs σ H Q:=rfl
theorem n9(d:Addr)(o:Obj)(kvs:List (Key×V))(tl:TE)(σ:St)(H:Hp)(R:It->Hp->Prop):L2.n9 d o kvs tl σ H R=tl σ H fun x H1=>x=.ref d/\H1 d=some (.dk o (.dK kvs))/\R (FJ d o kvs) H1:=rfl
end Ap
theorem pq{d:Addr}{tc:TT}{te:TE}{Q:VK}{σ:St}(hn:kvs.length<=sizeLine)(Pv:Addr->Nat->List V->Hp->Prop)(h0:∀ D,H D=none->Pv D 0 [] (upd H D (.lst [])))(hD:∀ D i ys H',Pv D i ys H'->H' D=some (.lst ys)/\ys.length<=i)
  (hl:∀ D i ys H',Pv D i ys H'->H' d=some (.dk o (.dK kvs)))
  (hs:∀ D i ys H' p (R:VK) (R0:Hp->Prop),kvs[i]?=some p->Pv D i ys H'->(∀ v H5,H5 D=some (.lst ys)->Pv D (i+1) (ys++[v]) (upd H5 D (.lst (ys++[v])))->R v H5)->(∀ H4,Pv D (i+1) ys H4->R0 H4)->tc (some (kV p.1)::σ) H' fun b H4=>if b=true then te (some (kV p.1)::σ) H4 R else R0 H4)
  (hd:∀ D ys H',Pv D kvs.length ys H'->Q (.ref D) H'):x3 (FJ d o kvs) 1 (cD 0) tc te Q σ H:=by
 intro D hD0;refine⟨fun i m ys σ' H'=>m=kvs.length-i/\i<=kvs.length/\Pv D i ys H'/\∃ o,σ'=o::σ,⟨kvs.length,by simp,JC _,h0 D hD0,none,rfl⟩,?_⟩
 rintro i m ys σ' H' ⟨rfl,hi,p,o',rfl⟩;obtain⟨hDi,hly⟩:=hD _ _ _ _ p;refine⟨hDi,?_⟩;by_cases hlt:i<kvs.length
 ·refine .inr ⟨⟨hl _ _ _ _ p,hlt⟩,by lia,fun x H2 y=>?_⟩
  obtain⟨rfl,pr,hp,rfl⟩:=y;unfold cD;exact hs D i ys H2 pr _ _ hp p (fun v H5 q1 q2=>⟨q1,kvs.length-(i+1),by lia,rfl,hlt,q2,_,rfl⟩) fun H4 q=>⟨kvs.length-(i+1),by lia,rfl,hlt,q,_,rfl⟩
 ·have e:i=kvs.length:=by lia
  subst e;exact .inl ⟨⟨hl _ _ _ _ p,rfl⟩,hd D ys H' p⟩
def fb(h:Heap)(e it:Addr)(i:Int)(x0 fl item:Value):Prop:=h.get? e=some {cls:=.type "enumerate",dict:=none,data:=.fields #[x0,fl,.ref it,rawInt i,.none,item],slots:=#[]}
def mX(h:Heap)(e it:Addr)(i:Int):Prop:=∃ x0 fl item,fb h e it i x0 fl item/\(x0=.none\/∃ a:Nat,x0=rawInt a)
section
variable {prog:Program} {w:World} {A:Around} {E:Value->Shared->Prop} {s:Shared}
theorem mX.keep{e:Addr}(x:mX h e it i)(k:∀ o,h.get? e=some o->h'.get? e=some o):mX h' e it i:=let ⟨a,b,c,r,z⟩:=x;⟨a,b,c,k _ r,z⟩
theorem ny{a:Addr}{Q:Option Obj->Shared->Prop}(hq:Q (s.heap.get? a) s):wpAny (model prog w) A (loadIfAlive a) Q E s:=fun _ _ _=>hq
theorem Aj{e:Addr}{x0 fl item:Value}{Q:Bool->Shared->Prop}(he:fb s.heap e it i x0 fl item)(hx:x0=.none\/∃ a:Nat,x0=rawInt a)(hQ:∀ b h' fl',fb h' e it i x0 fl' item->Heap.SameBut e s.heap h'->Q b {s with heap:=h'}):wpAny (model prog w) A (Builtin.SmallTypes.ownedTupleIsFree (.ref e)) Q E s:=by
 obtain⟨hp,g,d,tk,os⟩:=s;unfold Builtin.SmallTypes.ownedTupleIsFree;rcases hx with rfl|⟨a,rfl⟩
 ·refine IT (JA he rfl (x:=.none) rfl (IZ ?_));exact hQ true hp fl he ⟨rfl,fun _ _=>rfl⟩
 ·refine IT (JA he rfl (x:=rawInt a) rfl ?_);show wpAny _ _ (loadIfAlive ((a:Int).toNat) >>= _) _ _ _;refine IT (ny ?_)
  cases (hp.get? ((a:Int).toNat)).isNone with
  |true =>
   rw[Ja rfl];exact IZ (hQ true hp fl he ⟨rfl,fun _ _=>rfl⟩)
  |false =>
   rw[if_neg Bool.false_ne_true];refine wpAny_bind (wpAny_field he rfl (x:=fl) rfl ?_);dsimp only;split
   ·refine IT (JS he (by simp) fun h₂ he₂ hs₂=>?_)
    exact IZ (hQ false h₂ _ he₂ hs₂)
   ·exact IZ (hQ false hp fl he ⟨rfl,fun _ _=>rfl⟩)
theorem yP{e:Addr}{fp:List Addr}{n k:Nat}{P:Nat->Value->Prop}{St:Nat->Heap->Prop}
  (D:Draws prog w A.in1 it fp n P St) (he:mX s.heap e it i) (hst:St k s.heap) (hlt:k<n) (hne:e≠it) (hef:e∉fp)
  (hQ:∀ x h' tk,P k x->mX h' e it (i+1)->St (k+1) h'->h'.get? s.heap.objs.size=some {cls:=.type "tuple",data:=.seq #[.int i tk,x]}->h'.objs.size=s.heap.objs.size+1 ->
   (∀ b o,b≠e->b≠it->s.heap.get? b=some o->h'.get? b=some o)->Q (some (.ref s.heap.objs.size)) {s with heap:=h',toks:=tk+1}):wpAny (model prog w) A (pyNext (.ref e)) Q E s:=by
 obtain⟨x0,fl,item,he,hx⟩:=he;have hT:s.TypeIs (.ref e) "enumerate":=⟨_,he,rfl⟩;obtain⟨hp,g,d,tk₀,os⟩:=s;unfold pyNext;refine IT (Lm (JL (name:=Str.ofString "__next__") hT PySem.F.slot_enumerate_next
  (JU PySem.F.slot_enumerate_next hT PySem.F.entry_enumerate_next ?_ (PySem.F.args_enumerate_next_1 _))))
 show wpAny _ _ (field (.ref e) 2 >>= _) _ _ _;refine IT (JA he rfl (x:=.ref it) rfl ?_);refine IT (D.item k _ _ _ hlt hst fun x h₁ tk hPx hit₁ hs₁=>?_)
 replace hs₁:Heap.SameBut it hp h₁:=hs₁
 have he₁:fb h₁ e it i x0 fl item:=(hs₁.2 e hne).trans he;show wpAny _ _ (field (.ref e) 3 >>= _) _ _ ⟨h₁,g,d,tk,os⟩;refine IT (JA he₁ rfl (x:=rawInt i) rfl ?_);show wpAny _ _ (field (.ref e) 4 >>= _) _ _ ⟨h₁,g,d,tk,os⟩;refine IT (JA he₁ rfl (x:=.none) rfl ?_);show wpAny _ _ (mkInt i >>= _) _ _ ⟨h₁,g,d,tk,os⟩;refine IT (wpAny_mkInt ?_);show wpAny _ _ (setField (.ref e) 3 (rawInt (i+1)) >>= _) _ _ ⟨h₁,g,d,tk+1,os⟩;refine IT (JS he₁ (by simp) fun h₂ he₂ hs₂=>?_)
 replace hs₂:Heap.SameBut e h₁ h₂:=hs₂
 replace he₂:fb h₂ e it (i+1) x0 fl item:=he₂
 show wpAny _ _ (setField (.ref e) 4 .none >>= _) _ _ ⟨h₂,g,d,tk+1,os⟩;refine IT (JS he₂ (by simp) fun h₃ he₃ hs₃=>?_)
 replace hs₃:Heap.SameBut e h₂ h₃:=hs₃
 replace he₃:fb h₃ e it (i+1) x0 fl item:=he₃
 show wpAny _ _ (newTuple [.int i tk,x] >>= _) _ _ ⟨h₃,g,d,tk+1,os⟩;refine IT (M8 ?_);have he₄:fb (h₃.push {cls:=.type "tuple",data:=.seq #[.int i tk,x]}) e it (i+1) x0 fl item:=IU _ he₃;generalize hh₄:h₃.push {cls:=.type "tuple",data:=.seq #[.int i tk,x]}=h₄ at he₄;have hsz:h₃.objs.size=hp.objs.size:=by rw[hs₃.1,hs₂.1,hs₁.1]
 have hel:e<hp.objs.size:=Jc he;have ht₄:h₄.get? hp.objs.size=some {cls:=.type "tuple",data:=.seq #[.int i tk,x]}:=by rw[<- hh₄,<- hsz];exact Je _ rfl
 have hz₄:h₄.objs.size=hp.objs.size+1:=by rw[<- hh₄,Kn,hsz]
 have hk₄:∀ b o,b≠e->b≠it->hp.get? b=some o->h₄.get? b=some o:=fun b o hbe hbi hb=>by
  rw[<- hh₄];exact IU _ (hs₃.extBut b o hbe (hs₂.extBut b o hbe (hs₁.extBut b o hbi hb)))
 have hit₄:St (k+1) h₄:=D.frame _ _ _ hit₁ fun b hb o y=>by
  have hbe:b≠e:=fun q=>hef (q ▸ hb);rw[<- hh₄];exact IU _ (hs₃.extBut b o hbe (hs₂.extBut b o hbe y))
 show wpAny _ _ (Builtin.SmallTypes.ownedTupleIsFree (.ref e) >>= _) _ _ ⟨h₄,g,d,tk+1,os⟩;rw[hsz];clear hh₄ he₃ hs₃ he₂ hs₂ he₁ hs₁ hit₁ hsz h₃ h₂ h₁;refine IT (Aj (s:=⟨h₄,g,d,tk+1,os⟩) he₄ hx fun b h5 fl5 he5 hs5=>?_)
 replace hs5:Heap.SameBut e h₄ h5:=hs5
 have fin:∀ h',mX h' e it (i+1)->Heap.SameBut e h₄ h'->Q (some (.ref hp.objs.size)) ⟨h',g,d,tk+1,os⟩:=fun h' q1 q2=>hQ x h' tk hPx q1 (D.frame _ _ _ hit₄ fun b hb o y=>q2.extBut b o (fun q=>hef (q ▸ hb)) y) (q2.extBut _ _ (Kf hel) ht₄) (by rw[q2.1];exact hz₄) fun b o hbe hbi hb=>q2.extBut b o hbe (hk₄ b o hbe hbi hb)
 cases b with
 |false =>
  simp only[Ki,KC];exact IZ ⟨_,rfl,IZ (fin h5 ⟨x0,fl5,item,he5,hx⟩ hs5)⟩
 |true =>
  simp only[L0];refine IT (Lp ?_);refine IT (JA he5 rfl (x:=item) rfl ?_);refine IT (JS he5 (by simp) fun h6 he6 hs6=>?_)
  replace hs6:Heap.SameBut e h5 h6:=hs6
  replace he6:fb h6 e it (i+1) x0 fl5 x:=he6
  show wpAny _ _ (Builtin.SmallTypes.ownedTupleHandOut (.ref e) (.ref hp.objs.size) >>= _) _ _ ⟨h6,g,d,tk+1,os⟩;refine IT ?_;unfold Builtin.SmallTypes.ownedTupleHandOut;refine IT (JS he6 (by simp) fun h7 he7 hs7=>?_)
  replace hs7:Heap.SameBut e h6 h7:=hs7
  replace he7:fb h7 e it (i+1) (rawInt hp.objs.size) fl5 x:=he7
  refine JS he7 (by simp) fun h8 he8 hs8=>?_
  replace hs8:Heap.SameBut e h7 h8:=hs8
  replace he8:fb h8 e it (i+1) (rawInt hp.objs.size) (.bool false) x:=he8
  refine IT (ND (IZ ⟨_,rfl,IZ (fin h8 ⟨_,_,_,he8,.inr ⟨_,rfl⟩⟩ ⟨by rw[hs8.1,hs7.1,hs6.1,hs5.1],fun b hb=>by rw[hs8.2 b hb,hs7.2 b hb,hs6.2 b hb,hs5.2 b hb]⟩)⟩))
end
open Builtin Builtin.Str
section
variable {prog:Program} {w:World} {A:Around} {E:Value->Shared->Prop} {h:Heap} {g:Array GenState} {d:Drawn} {t:Nat} {os:OsState} {a:Addr} {items:Array Value}
theorem zJ:typeLookup (.type "enumerate") "keys"=pure none:=am_miss_of_fast (by kernel_rfl)
theorem DT:entryFor table "enumerate.__getattribute__"=some Builtin.«object.__getattribute__»:=entryFor_alias (id':="object.__getattribute__") (by kernel_rfl) (by first|rfl|decide +kernel) (by decide +kernel) (by kernel_rfl)
theorem oU:typeLookup (.type "enumerate") "__getattr__"=pure none:=by rw[typeLookup_type,builtinLookup_eq_fast];kernel_rfl
theorem uF{Q:Fin->Shared->Prop}(hx:h.get? a=some {cls:=.type "enumerate",dict:=none,data:=.fields items,slots:=#[]})(hmiss:typeLookup (.type "enumerate") name=pure none)(hnc:(["__module__","__name__","__qualname__","__doc__","__annotations__"]:List Str).contains name=false)(hh:A.handled=none)
  (hq:∀ h' tk' e,Heap.NewAttrErr h h' e (.ref a) name->E (.ref e) ⟨h',g,d,tk',os⟩) (hsz:name.length+100<=sizeLine:=by size_fits) :
  wpAny (model prog w) A (Builtin.«object.__getattribute__» ⟨[.ref a,.str name tk],[]⟩) Q E ⟨h,g,d,t,os⟩:=by
 have hT:(⟨h,g,d,t,os⟩:Shared).TypeIs (.ref a) "enumerate":=⟨_,hx,rfl⟩;unfold Builtin.«object.__getattribute__»
 repeat (any_goals (first|assumption|wp_step))
 rw[IY (by rw[hnc];decide)]
 repeat (any_goals (first|assumption|wp_step))
 exact wpAny_raiseAttrError hh hq (attrMsg_fits (by decide +kernel) hsz)
theorem yF{R:Result->Shared->Prop}(hx:h.get? a=some {cls:=.type "enumerate",dict:=none,data:=.fields items,slots:=#[]})(hmiss:typeLookup (.type "enumerate") name=pure none)(hnc:(["__module__","__name__","__qualname__","__doc__","__annotations__"]:List Str).contains name=false)(hh:A.handled=none)
  (hq:∀ h' tk' e,Heap.NewAttrErr h h' e (.ref a) name->R (.error (.ref e)) ⟨h',g,d,tk',os⟩) (hsz:name.length+100<=sizeLine:=by size_fits) :
  codeAny (model prog w) A (.call (.builtin "enumerate.__getattribute__") ⟨[.ref a,.str name tk],[]⟩) R ⟨h,g,d,t,os⟩:=
 My KJ.plain DT (KJ.check _ _ _ _ _ _ _ _ (show (⟨h,g,d,t,os⟩:Shared).TypeIs (.ref a) "enumerate" from⟨_,hx,rfl⟩) (F.args_enumerate_getattribute_2 _ _) (uF hx hmiss hnc hh hq hsz))
theorem Fc{Q:Value->Shared->Prop}(hx:h.get? a=some {cls:=.type "enumerate",dict:=none,data:=.fields items,slots:=#[]})(hmiss:typeLookup (.type "enumerate") name=pure none)(hnc:(["__module__","__name__","__qualname__","__doc__","__annotations__"]:List Str).contains name=false)(hh:A.handled=none)
  (hq:∀ h' tk' e,Heap.NewAttrErr h h' e (.ref a) name->E (.ref e) ⟨h',g,d,tk',os⟩) (hsz:name.length+100<=sizeLine:=by size_fits) :
  wpAny (model prog w) A (getAttrBy (.ref a) (.str name tk) false) Q E ⟨h,g,d,t,os⟩:=by
 have hT:(⟨h,g,d,t,os⟩:Shared).TypeIs (.ref a) "enumerate":=⟨_,hx,rfl⟩;have f1:=sub_AttributeError;have f2:=KJ.lookup;have f3:=KJ.bind (.ref a);have f5:=oU
 repeat (any_goals (first|assumption|wp_step))
 refine yF hx hmiss hnc hh (fun h' tk' e x=>?_) hsz;obtain⟨t',u',he⟩:=x.there;show wpAny _ _ (getattributeRaised _ _ _ _ _ _ _) _ _ _;unfold getattributeRaised
 repeat (any_goals (first|assumption|wp_step))
 exact hq _ _ _ x
theorem y4(hx:h.get? a=some {cls:=.type "enumerate",dict:=none,data:=.fields items,slots:=#[]})(hmiss:typeLookup (.type "enumerate") name=pure none)(hnc:(["__module__","__name__","__qualname__","__doc__","__annotations__"]:List Str).contains name=false)(hh:A.handled=none)
  (hq:∀ h' tk',(∀ b o,h.get? b=some o->h'.get? b=some o)->Q none ⟨h',g,d,tk',os⟩) (hsz:name.length+100<=sizeLine:=by size_fits) :
  wpAny (model prog w) A (getAttr? (.ref a) name) Q E ⟨h,g,d,t,os⟩:=by
 have f1:=sub_AttributeError;unfold getAttr? getAttrBy?;refine IT (wpAny_mkText (IT (Lm (Fc hx hmiss hnc hh (fun h' tk' e x=>?_) hsz))));obtain⟨t',u',he⟩:=x.there;have k:=x.keeps
 repeat (any_goals (first|assumption|wp_step))
 exact hq _ _ x.keeps
end
end L2
namespace L2
open PySem PySem.Spec PyProof PyProof.Rows
open Builtin Builtin.Str
section
variable {prog:Program} {w:World} {K:Type} [DecidableEq K] {knd:KeyKind prog w K} {A:Around} {R:Result->Shared->Prop}
theorem zl{E:Value->Shared->Prop}{s:Shared}{e it:Addr}{fp:List Addr}{n:Nat}{P:Nat->Value->Prop}{St:Nat->Heap->Prop}{i:Int}{Q:Option Value->Shared->Prop}
  (D:Draws prog w A.in1 it fp n P St) (he:mX s.heap e it i) (hst:St n s.heap)
  (hQ:∀ h',Heap.ExtBut it s.heap h'->Q none {s with heap:=h'}):wpAny (model prog w) A (pyNext (.ref e)) Q E s:=by
 obtain⟨x0,fl,item,he,hx⟩:=he;have hT:s.TypeIs (.ref e) "enumerate":=⟨_,he,rfl⟩;unfold pyNext;refine IT (Lm (JL (name:=Str.ofString "__next__") hT PySem.F.slot_enumerate_next
  (JU PySem.F.slot_enumerate_next hT PySem.F.entry_enumerate_next ?_ (PySem.F.args_enumerate_next_1 _))))
 show wpAny _ _ (field (.ref e) 2 >>= _) _ _ _;refine IT (JA he rfl (x:=.ref it) rfl ?_);refine IT (D.done _ _ _ hst fun h' x he' hx'=>?_);obtain⟨o,ho,hc⟩:=hx';refine IT (Nn (T:="StopIteration") (b:=true) ⟨o,ho,hc⟩ NP ?_);exact IZ (hQ _ he')
theorem zj{it l e dd:Addr}{items:Array Value}{more:List (K×Value)}(hh:A.handled=none)(hn:more.length=items.size)(h1:dd≠it)(h2:dd≠l)(h3:l≠it)(h4:dd≠e)(h5:e≠it)(h6:e≠l)(hm:∀(j:Nat) v,items[j]?=some v->∃ kk,more[j]?=some (kk,v)/\∀ tk,knd.is kk (.int j tk)=true)(hsz:more.length<=1000):
  ∀(k i:Nat) (s:Shared),items.size-i=k->i<=items.size->mX s.heap e it i->s.heap.IsTupleIter it l i->s.heap.IsTuple l items->s.heap.DictOf knd dd (merged [] (more.take i)) ->
  (∀ h' tk,h'.DictOf knd dd (merged [] more)->(∀ b o,b≠it->b≠e->b≠dd->s.heap.get? b=some o->h'.get? b=some o)->R (.ok (.ret .none)) {s with heap:=h',toks:=tk}) ->
  codeAny (model prog w) A (.builtin "dict.update.loop" ⟨[.ref dd,.ref e,rawInt i,.none],[]⟩) R s:=by
 have D:=d6 (prog:=prog) (w:=w) (A:=A.in1.in1) hh it l h3 items;intro k
 induction k with
 |zero =>
  intro i s hk hi hen hit hl hd hR;have hin:i=items.size:=by lia
  subst hin;refine LK e_ ?_;rw[Around.under_plainId fM _];show wpAny _ A.in1 (pyNext (.ref e) >>= _) _ _ s;refine IT (zl D hen ⟨hit,hl⟩ fun h' he=>?_);refine IT (IZ (IZ ?_));refine hR h' s.toks ?_ fun b o b1 b2 b3 x=>he b o b1 x;rw[JX (by lia)] at hd
  exact hd.extBut he h1
 |succ k ih =>
  intro i s hk hi hen hit hl hd hR;have hlt:i<items.size:=by lia
  refine LK e_ ?_;rw[Around.under_plainId fM _];show wpAny _ A.in1 (pyNext (.ref e) >>= _) _ _ s;have hel:e<s.heap.objs.size:=by obtain⟨_,_,_,r,_⟩:=hen;exact Jc r
  have hdl:dd<s.heap.objs.size:=by obtain⟨_,_,_,r,_⟩:=hd;exact Jc r
  have hil:it<s.heap.objs.size:=by obtain⟨_,r,_⟩:=hit;exact Jc r
  have hll:l<s.heap.objs.size:=by obtain⟨_,r,_⟩:=hl;exact Jc r
  refine IT (yP D hen ⟨hit,hl⟩ hlt h5 (by simp[h5,h6]) fun x h' tk hx hen' hst' ht hz hk'=>?_)
  obtain⟨kk,em,hkk⟩:=hm i x hx;have ht':h'.IsTuple s.heap.objs.size #[.int i tk,x]:=⟨_,ht,rfl,_,rfl⟩;have hd':h'.DictOf knd dd (merged [] (more.take i)):=by obtain⟨o,es,ep,ho,r⟩:=hd;exact⟨o,es,ep,hk' _ _ h4 h1 ho,r⟩
  refine IT (J9 (IT (wpAny_tryCatch ?_)));unfold Dict.pairItems;refine IT (LU ht'.typeIs ?_);rw[Ja (by decide)]
  obtain⟨o,ho,hoc,nn,hod⟩:=id ht';refine IT (K8 ho hod (IZ ?_));show wpAny _ A.in1 (holding [.int i tk,x] (dictSet dd (.int i tk) x)) _ _ _;refine J9 (wpAny_dictSet_pairs (hkk tk) hd' (fun h2' hd2 hs2=>?_) ?_)
  rotate_left
  ·exact Jj (jg _ _) (Jj (by rw[JG,Kg,JO];exact Jj (Nat.min_le_right _ _) hsz) (by decide))
  have et:merged [] (more.take (i+1))=stored (merged [] (more.take i)) kk x:=by
   have hlt':i<more.length:=by lia
   have:more[i]=(kk,x):=by rw[IV hlt'] at em;exact Option.some.inj em
   rw[List.take_succ_eq_append_getElem hlt',this];unfold merged;rw[List.foldl_append];rfl
  refine IZ ⟨plainId_quiet fM _,?_⟩;have up:∀ b u,b≠dd->h'.get? b=some u->h2'.get? b=some u:=fun b u hb q=>(hs2.2 _ hb).trans q;obtain⟨g1,g2⟩:=hst';exact ih (i+1) {s with heap:=h2',toks:=tk+1+1} (by lia) hlt (hen'.keep fun u q=>up _ _ (Ne.symm h4) q) (by obtain⟨o,ho,r⟩:=g1;exact⟨o,up _ _ (Ne.symm h1) ho,r⟩) (by obtain⟨o,ho,r⟩:=g2;exact⟨o,up _ _ (Ne.symm h2) ho,r⟩) (by rw[et];exact hd2) fun h3' tk3 hd3 hk3=>hR h3' tk3 hd3 fun b u b1 b2 b3 q=>hk3 b u b1 b2 b3 (up _ _ b3 (hk' _ _ b2 b1 q))
theorem pf{E:Value->Shared->Prop}{s:Shared}{l e it:Addr}{items:Array Value}{more:List (K×Value)}{Q:Value->Shared->Prop}(hen:IsEnum s.heap e it 0 .none)(hit:s.heap.IsTupleIter it l 0)(hl:s.heap.IsTuple l items)(hh:A.handled=none)(hn:more.length=items.size)(hsz:more.length<=1000)(h3:l≠it)(h5:e≠it)(h6:e≠l)
  (hm:∀(j:Nat) v,items[j]?=some v->∃ kk,more[j]?=some (kk,v)/\∀ tk,knd.is kk (.int j tk)=true)
  (h:∀ h' tk,h'.DictOf knd s.heap.objs.size (merged [] more)->(∀ b o,b≠it->b≠e->s.heap.get? b=some o->h'.get? b=some o)->Q (.ref s.heap.objs.size) {s with heap:=h',toks:=tk}) :
  wpAny (model prog w) A (call (.type "dict") [.ref e]) Q E s:=by
 refine callType_codes (Q₁:=fun obj s₁=>obj=.ref s.heap.objs.size/\s₁={s with heap:=s.heap.push {cls:=.type "dict",data:=.dict #[]}}) F.kt_called_dict (F.kt_typeCall_dict_1 _) F.entry_dict_init (kt_code_dict_new _ ⟨rfl,rfl⟩) ?_
 rintro obj s₁ ⟨rfl,rfl⟩;have hnew:(s.heap.push {cls:=.type "dict",data:=.dict #[]}).DictOf knd s.heap.objs.size []:=Heap.DictOf.new s.heap;refine⟨hnew.typeIs,F.args_dict_init_2 _ _,?_⟩;unfold Builtin.«dict.__init__»;refine IT ?_;unfold Builtin.Dict.selfAndRest;refine IT (wpAny_notOrdered_dict hnew.typeIs ?_);show wpAny _ _ (pure (s.heap.objs.size,[Value.ref e])) _ _ _;refine IZ ?_;show wpAny _ _ (Builtin.Dict.updateFrom "dict.__init__" s.heap.objs.size (.ref e) [] .none) _ _ _;unfold Builtin.Dict.updateFrom;have he1:IsEnum (s.heap.push {cls:=.type "dict",data:=.dict #[]}) e it 0 .none:=IU _ hen;have hT:({s with heap:=s.heap.push {cls:=.type "dict",data:=.dict #[]}}:Shared).TypeIs (.ref e) "enumerate":=⟨_,he1,rfl⟩
 refine IT (LU hT ?_);rw[Ja (by decide)]
 refine IT ?_;refine y4 he1 zJ (by decide +kernel) hh (fun h1 tk1 k1=>?_)
 rw[Ja (show (none:Option Value).isNone=true from rfl)];have up:∀ b o,s.heap.get? b=some o->h1.get? b=some o:=fun b o q=>k1 b o (IU _ q);obtain⟨od,es,ep,hod,hor⟩:=hnew;have hel:e<s.heap.objs.size:=Jc hen;have hil:it<s.heap.objs.size:=by obtain⟨_,r,_⟩:=hit;exact Jc r
 have hll:l<s.heap.objs.size:=by obtain⟨_,r,_⟩:=hl;exact Jc r
 refine IT (Lp (IT (Ly (up _ _ hen) (IZ ⟨plainId_quiet fM _,?_⟩))));refine zj (knd:=knd) (it:=it) (l:=l) (items:=items) (more:=more) (A:=A.in1) hh hn (Kf hil) (Kf hll) h3 (Kf hel) h5 h6 hm hsz _ 0 _ rfl (JC _) ⟨_,_,_,up _ _ hen,.inl rfl⟩ ?_ ?_ ⟨od,es,ep,k1 _ _ hod,hor⟩ (fun h2 tk2 hd2 hk2=>?_)
 ·obtain⟨o,ho,r⟩:=hit;exact⟨o,up _ _ ho,r⟩
 ·obtain⟨o,ho,r⟩:=hl;exact⟨o,up _ _ ho,r⟩
 ·exact⟨rfl,h h2 tk2 hd2 fun b o b1 b2 q=>hk2 b o b1 b2 (Jq (Jc q)) (up _ _ q)⟩
end
def oW:List V->Nat->List (Key×V)
 |[],_=>[]
 |v::vs,i=>(.inl (i:Int),v)::oW vs (i+1)
theorem qO:∀(vs:List V) (i:Nat),(oW vs i).length=vs.length
 |[],_=>rfl
 |v::vs,i=>Jv (·+1) (qO vs (i+1))
def pJ:List Value->Nat->List (Key×Value)
 |[],_=>[]
 |v::vs,i=>(.inl (i:Int),v)::pJ vs (i+1)
theorem jC:∀(vs:List Value) (i:Nat),(pJ vs i).length=vs.length
 |[],_=>rfl
 |v::vs,i=>Jv (·+1) (jC vs (i+1))
theorem rD:∀(vs:List Value) (i j:Nat) (v:Value),vs[j]?=some v->(pJ vs i)[j]?=some (.inl ((i+j:Nat):Int),v)
 |[],_,_,_,h=>by simp at h
 |u::vs,i,0,v,h=>by simp at h;subst h;rfl
 |u::vs,i,j+1,v,h=>by
  have:=rD vs (i+1) j v (by simpa using h)
  rw[show i+1+j=i+(j+1) by lia] at this
  exact this
theorem vV:∀{vs:List V} {us:List Value} (i:Nat),Vals vs us->KV (oW vs i) (pJ us i)
 |_,_,_,.nil=>.nil
 |_,_,i,.cons h r=>.cons ⟨rfl,h⟩ (vV (i+1) r)
theorem n8:∀(vs:List V) (i:Nat),((oW vs i).map (·.1)).Nodup/\∀ k∈(oW vs i).map (·.1),∃ j:Nat,i<=j/\k=.inl (j:Int)
 |[],_=>⟨Ld,fun k h=>by simp[oW] at h⟩
 |v::vs,i=>by
  obtain⟨h1,h2⟩:=n8 vs (i+1);refine⟨JD.mpr ⟨fun hm=>?_,h1⟩,fun k hk=>?_⟩
  ·obtain⟨j,hj,e⟩:=h2 _ hm;have:=Sum.inl.inj e;lia
  ·rcases Jg.mp hk with rfl|hk
   ·exact⟨i,Jb _,rfl⟩
   ·obtain⟨j,hj,e⟩:=h2 k hk;exact⟨j,by lia,e⟩
def iW(K:Oe)(ta:TA):TE:=fun σ H Q=>ta σ H fun xs H1=>∃ a vs,xs=[.ref a]/\b8 K H1 a vs/\vs.length<=1000/\∀ p,H1 p=none->Q (.ref p) (upd H1 p (.dK (oW vs 0)))
theorem xH{X:Cx}{e:Expr}{ta:TA}{p p2 pos pos2:Pos}(hc:X.calm=true)(hg:Gl X "enumerate")(hm:X.mg "enumerate"=none)(hgd:Gl X "dict")(hmd:X.mg "dict"=none)(ha:PA X [e] ta)(h1:cN e=true):PE X (.Call (.Name "dict" p) [.Call (.Name "enumerate" p2) [e] [] pos2] [] pos) (iW X.K ta):=by
 intro pins s σ H Q I h;refine Call_ (dw I hgd hmd (u:=.type "dict") (by decide +kernel) (JZ ?_ rfl rfl))
 refine ME (Call_ (dw I hg hm (u:=.type "enumerate") (by decide +kernel) (JZ (b9 (ha pos2 pins s σ H _ I h) fun us s1 ⟨vs,H1,I1,r1,q1⟩=>?_) (cA h1) rfl)))
 obtain⟨a,vs,rfl,hq,hlen,q⟩:=q1;obtain⟨u,rfl,ru⟩:=vals1 r1;cases ru;obtain⟨its,rv,pt,hz⟩:=I1.tuple hq;have hpt:s1.heap.IsTuple a its.toArray:=pt;have hal:a<s1.heap.objs.size:=by obtain⟨_,r,_⟩:=hpt;exact Jc r
 refine fh hpt fun h' he hit hsz hk=>MU ?_;have I2:Inv X pins σ H1 {s1 with heap:=h'}:=I1.kept (t':=s1.toks) hk
 have hit1:its.length=vs.length:=(Paired.length rv).symm;refine pf (knd:=bB X.prog X.w) (s:={s1 with heap:=h'}) (more:=pJ its 0) he hit (by obtain⟨o,ho,r⟩:=hpt;exact⟨o,hk _ _ ho,r⟩) (I.ok.hd hc) (by rw[jC,I_]) (by rw[jC,hit1];exact hlen) (Jq hal) (Kf (Mc _)) (Kf (KG hal)) (fun j v hv=>⟨.inl (j:Int),by rw[Ko] at hv;have:=rD its 0 j v hv;rw[Kg] at this;exact this,fun tk=>gI _ _ _ _⟩) fun h2 tk hd hk2=>?_
 have hfp:∀ b∈[s1.heap.objs.size+1,s1.heap.objs.size],jc X pins H1 b:=fun b hb=>by
  have hb':s1.heap.objs.size<=b:=by
   rcases Jg.mp hb with z|z
   ·rw[z];exact Kw _
   ·rw[Jh.mp z];exact Jb _
  exact I1.m_ hb' (I1.aO.fresh hb')
 have em:merged [] (pJ its 0)=merged [] (pJ its 0):=rfl;have hlen2:(dY [] (oW vs 0)).length<=sizeLine:=by
  have h1:=fv (oW vs 0) [];rw[JG,qO] at h1;exact Jj (show _<=1000 by lia) (by decide)
 have emk:dY [] (oW vs 0)=oW vs 0:=by
  rw[Y.kU _ [] (by rw[Mo];exact (n8 vs 0).1),Mo]
 have new:aJ X.prog X.w (upd H1 h'.objs.size (.dK (dY [] (oW vs 0)))) h2 h'.objs.size (.dK (dY [] (oW vs 0))):=pX hlen2 (Kd.mpr (Ne.symm (Jq I2.big))) ((vV 0 rv).merge .nil) hd;have J:=I2.iy (t':=tk) (h':=h2) hfp (Jb _) (fun b o hb x=>hk2 b o (fun z=>hb (by simp[z])) (fun z=>hb (by simp[z])) x) new
 rw[emk] at J;exact⟨.ref h'.objs.size,_,J,rfl,q _ (I2.aO.fresh (Jb _))⟩
theorem Z.EC{X:Cx}{e:Expr}{ta:TA}{p p2 pos pos2:Pos}(K:Oe)(hK:X.K=K)(hc:X.calm=true)(hg:Gl X "enumerate")(hm:X.mg "enumerate"=none)(hgd:Gl X "dict")(hmd:X.mg "dict"=none)(ha:QA X [e] ta)(h1:cN e=true:=by rfl):QE X (.Call (.Name "dict" p) [.Call (.Name "enumerate" p2) [e] [] pos2] [] pos) (iW K ta):=by subst hK;exact⟨xH hc hg hm hgd hmd ha.h h1⟩
theorem Ap.iW(K:Oe)(ta:TA)(σ:St)(H:Hp)(Q:VK):L2.iW K ta σ H Q=ta σ H fun xs H1=>∃ a vs,xs=[.ref a]/\b8 K H1 a vs/\vs.length<=1000/\∀ p,H1 p=none->Q (.ref p) (upd H1 p (.dK (oW vs 0))):=rfl
end L2
namespace L2
open PySem PySem.Spec PyProof PyProof.Rows
section
variable {prog:Program} {w:World} {A:Around} {E:Value->Shared->Prop} {s:Shared}
theorem uj{T newId initId:String}{Bn Bi:Builtin}{args:List Value}{kw:List (Str×Value)}{S:PySem.Spec}{Q Q₁:Value->Shared->Prop}(ft:TypeCalled T newId initId)
  (hct:checkTypeCall T ⟨args,kw⟩=pure ()) (hcn:checkBuiltinCall newId ⟨.type T::args,kw⟩=pure ())
  (entryN:entryFor table newId=some Bn) (entryI:entryFor table initId=some Bi) (g:Meets (Bn ⟨.type T::args,kw⟩) S)
  (h:S A.in1 (wants Q₁ E) s)
  (hnext:∀ obj s₁,Q₁ obj s₁->s₁.TypeIs obj T/\argsOk initId ⟨obj::args,kw⟩/\∃ Si,Meets (Bi ⟨obj::args,kw⟩) Si/\Si A.in1 (wants (fun r s₂=>r=.none/\Q obj s₂) E) s₁) :
  wpAny (model prog w) A (call (.type T) args kw) Q E s:=by
 obtain⟨c,tl,hmro⟩:=ft.mro;have hmade:=ft.made;have hsub:=ft.sub;refine NU (codeAny_of_tree ?_);show wpAny _ _ (callAny (.type T) _) _ _ _;refine IZ ⟨Code.quiet_builtin _ (by decide +kernel),LK PySem.F.entry_type_call ?_⟩
 rw[Around.under_plain (weight_type_call_type T args kw) (units_type_call_type T args kw)];have h1:=ft.notType;have h2:=ft.canCreate
 repeat (any_goals (first|assumption|wp_step))
 refine LP (My ft.plain entryN (wpAny_of_eq hcn (g prog w A.in1 _ s h))) fun r s₁ hr=>?_
 cases r with
 |error e=>exact hr
 |ok fl =>
  cases fl with
  |ret obj =>
   obtain⟨hT,aO,Si,gi,hsi⟩:=hnext _ _ hr;have hli:=ft.init.lookup;have hbi:=ft.init.bind obj
   repeat (any_goals (first|assumption|wp_step))
   refine LP (My ft.init.plain entryI (ft.init.check _ _ _ _ _ _ _ _ hT aO (gi prog w A.in1 _ s₁ hsi))) fun r₂ s₂ hr₂=>?_
   cases r₂ with
   |error e=>exact hr₂
   |ok fl₂ =>
    cases fl₂ with
    |ret r =>
     obtain⟨rfl,hq⟩:=hr₂
     repeat (any_goals (first|assumption|wp_step))
    |_=>exact hr₂.elim
  |_=>exact hr.elim
theorem lz{T newId:String}{self a:Value}{rest:List Value}{kw:List (Str×Value)}(hl:typeLookup (.type T) "__init__"=pure (some (.builtin "object.__init__")))
  (hm:Bind.madeBy (.type T)=pure (some newId)) (hne:(some newId != some "object.__new__")=true) :
  Meets (Builtin.«object.__init__» ⟨self::a::rest,kw⟩) (fun _ R s=>s.TypeIs self T/\R (.ok (.ret .none)) s):=by
 refine Meets.of_wp fun prog w A R s hs=>?_;obtain⟨hT,hq⟩:=hs
 repeat (any_goals (first|assumption|wp_step))
 exact⟨_,rfl,hq⟩
theorem gz(l:Addr)(items:Array Value)(n:Nat)(dct:Option Addr)(sl:Array (Option Value))(i:Int)(t:Tok)(hi:Builtin.SmallTypes.fitsIndex i=true):
  Meets (Builtin.«enumerate.__new__» ⟨[.type "enumerate",.ref l],[(Str.ofString "start",.int i t)]⟩) (fun _ R s=>s.heap.get? l=some {cls:=.type "tuple",dict:=dct,data:=.seq items n,slots:=sl} /\
   R (.ok (.ret (.ref (s.heap.push {cls:=.type "tuple_iterator",data:=.fields #[.ref l,.int 0 0]}).objs.size)))
    {s with heap:=(s.heap.push {cls:=.type "tuple_iterator",data:=.fields #[.ref l,.int 0 0]}).push {cls:=.type "enumerate",data:=.fields #[.none,.bool false,.ref s.heap.objs.size,rawInt i,.none,.none]}}):=
 .of_wp fun prog w A R s h=>by
  obtain⟨hp,g,d,tk,os⟩:=s;obtain⟨hl,h⟩:=h;have hsub:=sub_enumerate;have hL:Heap.IsTuple (Shared.heap ⟨hp,g,d,tk,os⟩) l items:=⟨_,hl,rfl,n,rfl⟩;wp_walk using Ls hl;refine wpAny_stack_any fun st=>IZ ?_;split
  ·rename_i c _ _ _ _ _
   cases (c == Value.type "enumerate")<;>(wp_walk using Ls hl,hi,Ka hL;exact⟨_,rfl,h⟩)
  ·wp_walk using Ls hl,hi,Ka hL;exact⟨_,rfl,h⟩
theorem Iv(a v:Value):checkTypeCall "enumerate" ⟨[a],[(Str.ofString "start",v)]⟩=pure ():=by kernel_rfl
theorem IH(a v:Value):checkBuiltinCall "enumerate.__new__" ⟨[.type "enumerate",a],[(Str.ofString "start",v)]⟩=pure ():=by kernel_rfl
theorem ib{l:Addr}{items:Array Value}{i:Int}{t:Tok}{Q:Value->Shared->Prop}(hL:s.heap.IsTuple l items)(hi:Builtin.SmallTypes.fitsIndex i=true)(aO:∀ obj,argsOk "object.__init__" ⟨obj::[Value.ref l],[(Str.ofString "start",.int i t)]⟩)
  (h:∀ h',IsEnum h' (s.heap.objs.size+1) s.heap.objs.size i .none->h'.IsTupleIter s.heap.objs.size l 0->h'.objs.size=s.heap.objs.size+2 ->
   (∀ b o,s.heap.get? b=some o->h'.get? b=some o)->Q (.ref (s.heap.objs.size+1)) {s with heap:=h'}) :
  wpAny (model prog w) A (call (.type "enumerate") [.ref l] [(Str.ofString "start",.int i t)]) Q E s:=by
 obtain⟨⟨c,dct,dt,sl⟩,hl,hc,n,hd⟩:=hL
 replace hc:c=.type "tuple":=hc
 replace hd:dt=.seq items n:=hd
 subst hc hd;refine uj (Q₁:=fun obj s₁=>s₁.TypeIs obj "enumerate"/\Q obj s₁) LS (Iv _ _) (IH _ _) F.entry_enumerate_new F.entry_object_init (gz l items n dct sl i t hi) ⟨hl,?_⟩ fun obj _ hq=>⟨hq.1,aO obj,_,lz LS.init.lookup LS.made (by decide),hq.1,rfl,hq.2⟩
 have hz:(s.heap.push {cls:=.type "tuple_iterator",data:=.fields #[.ref l,.int 0 0]}).objs.size=s.heap.objs.size+1:=Kn ..;show _/\_;rw[hz];have he:IsEnum ((s.heap.push {cls:=.type "tuple_iterator",data:=.fields #[.ref l,.int 0 0]}).push {cls:=.type "enumerate",data:=.fields #[.none,.bool false,.ref s.heap.objs.size,rawInt i,.none,.none]}) (s.heap.objs.size+1) s.heap.objs.size i .none:=by
  have:=Je (s.heap.push {cls:=.type "tuple_iterator",data:=.fields #[.ref l,.int 0 0]}) (o:={cls:=.type "enumerate",data:=.fields #[.none,.bool false,.ref s.heap.objs.size,rawInt i,.none,.none]}) rfl;rw[hz] at this;exact this
 refine⟨⟨_,he,rfl⟩,h _ he ⟨_,IU _ (Je _ rfl),rfl,rfl⟩ (by rw[Kn,hz]) fun b o x=>IU _ (IU _ x)⟩
end
variable{prog:Program}{w:World}{A:Around}{K:Oe}{es:List Expr}{pos tp:Pos}{E:Value->Shared->Prop}{s:Shared}{e:Expr}{X:Cx}{H:Hp}{h:Heap}{vs:List Value}
theorem nL{it:Addr}{fp:List Addr}{n:Nat}{P:Nat->Value->Prop}{St:Nat->Heap->Prop}(m:Nat)(D:Draws prog w A it fp n P St):Draws prog w A it fp (m+n) (fun i v=>∃ j,i=m+j/\P j v) (fun i h=>∃ j,i=m+j/\St j h) where
 live:=fun _ _ ⟨j,_,st⟩=>D.live j _ st
 frame:=fun _ _ _ ⟨j,e,st⟩ hk=>⟨j,e,D.frame _ _ _ st hk⟩
 item:=fun i s Q E hi ⟨j,e,st⟩ hQ=>by
  subst e;exact D.item j s Q E (by lia) st fun v h' tk hv st' hs=>hQ v h' tk ⟨j,rfl,hv⟩ ⟨j+1,by lia,st'⟩ hs
 done:=fun s Q E ⟨j,e,st⟩ hE=>by
  have:j=n:=by lia
  subst this;exact D.done s Q E st hE
def zu(K:Oe)(a:Addr)(m:Nat):It:=
 ⟨fun i H=>∃ x,ER K a i H x,fun i H x H'=>∃ p y,(∀ xs,b8 K H a xs->xs[i]?=some y)/\H p=none/\x=.ref p/\H'=upd H p (.tup [.int ((m+i:Nat):Int),y]),Fu K a⟩
theorem qm{P:Program}{tk:Nat}(a it e:Addr)(m:Nat)(hne:e≠it):Turn P w K (.Tuple es tk tp) (zu K a m) [e,it] e (fun i h=>(∃ old,IsEnum h e it ((m+i:Nat):Int) old)/\h.IsTupleIter it a i) where
 mem:=by simp
 obj:=fun i h st b hb=>by
  obtain⟨⟨old,he⟩,o,eo,c,d⟩:=st;rcases Jg.mp hb with z|z
  ·subst z;exact⟨_,he,fun v z=>by cases z⟩
  ·have z:b=it:=by simpa using z
   subst z;exact⟨o,eo,fun v z=>by rw[d] at z;cases z⟩
 keep:=fun i h h' st k=>by
  obtain⟨⟨old,he⟩,o,eo,r⟩:=st;exact⟨⟨old,k e (by simp) _ he⟩,o,k it (by simp) o eo,r⟩
 item:=by
  intro X hP hw hK hc i pins s σ H E I hf st hg;subst hP hw hK;obtain⟨x,xs,hq,hx⟩:=hg;obtain⟨⟨old,he⟩,hit⟩:=st;obtain⟨its,rv,p,hz⟩:=I.tuple hq;obtain⟨u,hu,ru⟩:=rv.get hx;obtain⟨g0,g1,g2,g3,g4,g5⟩:=hf e (by simp)
  obtain⟨f0,f1,f2,f3,f4,f5⟩:=hf it (by simp)
  have ht:s.heap.IsTuple a its.toArray:=p;have ha:a≠it:=by
   rintro rfl;obtain⟨o,e1,c1,_⟩:=hit;obtain⟨o',e2,c2,_⟩:=ht;rw[e1] at e2;cases e2;rw[c1] at c2;exact absurd (Value.type.inj c2) (by decide)
  have hea:e≠a:=by
   rintro rfl;obtain⟨o',e2,c2,_⟩:=ht;have e1:s.heap.get? e=some _:=he;rw[e1] at e2;cases e2;exact absurd (Value.type.inj c2) (by decide)
  have hi:i<its.toArray.size:=by
   have:=(Ji.mp hu).1
   simpa using this
  refine Ny (nL m (d6 (A:=X.A.in1) (I.ok.hd hc) it a ha its.toArray)) he ⟨i,rfl,hit,ht⟩ (by lia) hne (by simp[hne,hea]) fun x' h' tk' hP ho hs' hT hsz hk=>?_
  have ex:x'=u:=by
   obtain⟨j,ej,hP'⟩:=hP;have ej':j=i:=by lia
   subst ej';rw[Ko,hu] at hP';exact (Option.some.inj hP').symm
  subst ex;refine⟨.ref s.heap.objs.size,rfl,MO ho fun h2 he2 hs2=>?_⟩;have fr:H s.heap.objs.size=none:=I.aO.fresh (Jb _);have hle:e≠s.heap.objs.size:=Jq (Jc he);have hT2:h2.get? s.heap.objs.size=some {cls:=.type "tuple",data:=.seq #[.int ((m+i:Nat):Int) tk',x']}:=(hs2.2 _ (Ne.symm hle)).trans hT;have I2:Inv X pins σ (upd H s.heap.objs.size (.tup [.int ((m+i:Nat):Int),x])) {s with heap:=h2,toks:=tk'+1}:=by
   refine I.iy (fp:=[e,it]) hf (Jb _) (fun b o hb eb=>?_) ⟨by show 2<=sizeLine;decide,[.int ((m+i:Nat):Int) tk',x'],.cons ⟨_,rfl⟩ (.cons ru .nil),⟨_,hT2,rfl,_,rfl,rfl⟩⟩
   have n1:b≠e:=fun z=>hb (by simp[z])
   have n2:b≠it:=fun z=>hb (by simp[z])
   exact (hs2.2 b n1).trans (hk b o n1 n2 eb)
  refine⟨.ref s.heap.objs.size,_,I2,rfl,⟨s.heap.objs.size,x,fun ys hy=>by rw[I.eV hy hq];exact hx,fr,rfl,rfl⟩,⟨⟨x',?_⟩,?_⟩,fun b hb=>?_⟩
  ·have e:(((m+(i+1):Nat)):Int)=((m+i:Nat):Int)+1:=by lia
   rw[e];exact he2
  ·obtain⟨j,ej,hs1,hs2'⟩:=hs';have ej':j=i+1:=by lia
   subst ej';obtain⟨o,e1,r⟩:=hs1;exact⟨o,(hs2.2 it (Ne.symm hne)).trans e1,r⟩
  ·have n:b≠s.heap.objs.size:=by
    rcases Jg.mp hb with z|z
    ·subst z;exact hle
    ·have z:b=it:=by simpa using z
     subst z;obtain⟨o,e1,_⟩:=hit;exact Jq (Jc e1)
   rw[af n];exact (hf b hb).1
 done:=by
  intro X hP hw hK hc i pins s σ H E I hf st hg;subst hP hw hK;obtain⟨xs,hq,hx⟩:=hg;obtain⟨⟨old,he⟩,hit⟩:=st;obtain⟨its,rv,p,hz⟩:=I.tuple hq;have ht:s.heap.IsTuple a its.toArray:=p;have ha:a≠it:=by
   rintro rfl;obtain⟨o,e1,c1,_⟩:=hit;obtain⟨o',e2,c2,_⟩:=ht;rw[e1] at e2;cases e2;rw[c1] at c2;exact absurd (Value.type.inj c2) (by decide)
  have hl:=rv.length;have hsz:its.toArray.size=i:=by simp;lia
  refine NC (nL m (d6 (A:=X.A.in1) (I.ok.hd hc) it a ha its.toArray)) he ⟨i,by rw[hsz],hit,ht⟩ fun h' eb=>⟨rfl,?_⟩
  exact I.turns (t':=s.toks) hf fun b o hb e1=>eb b o (fun z=>hb (by simp[z])) e1
 self:=fun A i s Q E st h=>by
  obtain⟨⟨old,he⟩,_⟩:=st;exact Ly he h
theorem Iz(a b v:Value):argsOk "object.__init__" ⟨[a,b],[(Str.ofString "start",v)]⟩:=by
 unfold argsOk;rw[signature?_of (id:="object.__init__") (n:=['_','_','t','i','n','i','_','_']) (o:=['t','c','e','j','b','o']) (by kernel_rfl) PySem.F.owner_object];kernel_rfl
theorem t5{M:Model}{env:Env}{T:String}{kws:List Keyword}{Q:Value->Shared->Prop}
  (h:wpAny M A (spliced (backTo pos (starEach [e] env))) (fun vs s₁=>wpAny M A (evalAll ((backToKw pos (keywordEach kws env)).map (·.2)))
   (fun kvs s₂=>wpAny M A (call (.type T) vs (((backToKw pos (keywordEach kws env)).filterMap (·.1)).zip kvs)) Q E s₂) E s₁) E s)
  (he:starEach [e] env=[(false,eval e env)])
  (hall:(backToKw pos (keywordEach kws env)).all (·.1.isSome)=true)
  (hkw:(backToKw pos (keywordEach kws env)).any (·.1.isNone)=false) :
  wpAny M A (callWith pos (.type T) [] (backTo pos (starEach [e] env)) (backToKw pos (keywordEach kws env))) Q E s:=by
 have hplain:(backTo pos (starEach [e] env)).any (·.1)=false:=by rw[he];rfl
 have he':backTo pos (starEach [e] env)=(false,eval e env)::backTo pos (starEach [] env):=by rw[he];rfl
 unfold callWith;refine IT (J9 (JW (Q:=fun a s₁=>wpAny M A (call (.type T) ([]++a.pos) a.kw) Q E s₁) ?_ (fun a s₁ h₁=>IT (Ll ?_)) fun _ _ x=>x))
 ·rw[he'] at h ⊢;exact PyProof.Rows.evalArgs_kwB hall h
 simp only[hplain,hkw,Bool.or_false];refine IT (IZ ?_);exact IT (JW h₁ (fun r s₂ hr=>IT (J9 (wpAny_point (IZ hr)))) fun _ _ x=>x)
def iN(K:Oe)(ta tk:TA):TI:=fun σ H R=>ta σ H fun vs H1=>tk σ H1 fun ws H2=>∃ a m,vs=[.ref a]/\ws=[.int (m:Nat)]/\m<=1000/\(∃ xs,b8 K H2 a xs)/\R (zu K a m) H2
theorem uP{k:Nat}{v:Expr}{ta:TA}{te:TE}{p kpos:Pos}(hg:Gl X "enumerate")(hm:X.mg "enumerate"=none)(ha:PA X [e] ta)(hv:PE X v te)(h1:cN e=true):
  PI X (.Tuple es k tp) (.Call (.Name "enumerate" p) [e] [⟨some "start",v,kpos⟩] pos) (iN X.K ta (er te iI)):=by
 intro pins s σ H R I h;refine K6 (dw I hg hm (u:=.type "enumerate") (by decide +kernel) ?_ (by decide) (by decide))
 have hk:PK X [⟨some "start",v,kpos⟩] (er te iI):=lh hv oy;refine t5 ?_ (cA h1) rfl rfl;refine b9 (ha pos pins s σ H _ I h) fun us s1 ⟨vs,H1,I1,r1,q1⟩=>?_;refine b9 (hk pos pins s1 σ H1 _ I1 q1) fun ws s2 ⟨zs,H2,I2,rz,a,m,ev,ez,hm1,⟨xs,hq⟩,q⟩=>?_;subst ev ez;obtain⟨u,rfl,ru⟩:=vals1 r1;cases ru;obtain⟨wv,rfl,rw1⟩:=vals1 rz;obtain⟨t,rfl⟩:=rw1;obtain⟨its,rv,pt,hz⟩:=I2.tuple hq;refine ib (show s2.heap.IsTuple a its.toArray from pt) (by unfold Builtin.SmallTypes.fitsIndex;simp;lia) (fun obj=>Iz _ _ _) fun h' he hit hsz hk=>?_
 refine Ly he ?_;have I3:Inv X pins σ H2 {s2 with heap:=h'}:=I2.kept (t':=s2.toks) hk
 refine⟨s2.heap.objs.size+1,[s2.heap.objs.size+1,s2.heap.objs.size],_,_,H2,rfl,I3,qm a s2.heap.objs.size (s2.heap.objs.size+1) m (Kf (Mc _)),⟨⟨_,by rw[Nat.add_zero];exact he⟩,hit⟩,fun b hb=>?_,q⟩
 have hb':s2.heap.objs.size<=b:=by
  rcases Jg.mp hb with z|z
  ·rw[z];exact Kw _
  ·have z:b=s2.heap.objs.size:=by simpa using z
   rw[z];exact Jb _
 exact I2.m_ hb' (I2.aO.fresh hb')
theorem Z.EI{k:Nat}{v:Expr}{ta:TA}{te:TE}{p kpos:Pos}(K:Oe)(hK:X.K=K)(hg:Gl X "enumerate")(hm:X.mg "enumerate"=none)(ha:QA X [e] ta)(hv:QE X v te)(h1:cN e=true:=by rfl):QI X (.Tuple es k tp) (.Call (.Name "enumerate" p) [e] [⟨some "start",v,kpos⟩] pos) (iN K ta (er te iI)):=by subst hK;exact⟨uP hg hm ha.h hv.h h1⟩
theorem Ap.iN(K:Oe)(ta tk:TA)(σ:St)(H:Hp)(R:It->Hp->Prop):L2.iN K ta tk σ H R=ta σ H fun vs H1=>tk σ H1 fun ws H2=>∃ a m,vs=[.ref a]/\ws=[.int (m:Nat)]/\m<=1000/\(∃ xs,b8 K H2 a xs)/\R (zu K a m) H2:=rfl
theorem pG{g:TG}{tb:TS}{D:Ends}{σ:St}{a:Addr}{m:Nat}{xs:List V}(Pv:Nat->St->Hp->Prop)(h0:Pv 0 σ H)(hl:∀ i σ H,i<=xs.length->Pv i σ H->b8 K H a xs)
  (hs:∀ i x σ H p,xs[i]?=some x->Pv i σ H->H p=none->g (.ref p) σ (upd H p (.tup [.int ((m+i:Nat):Int),x])) fun σ2 H2=>tb {D with nx:=Pv (i+1),ct:=Pv (i+1),bk:=D.nx} σ2 H2) (hd:∀ σ H,Pv xs.length σ H->D.nx σ H) :
  FQ (zu K a m) g tb D σ H:=by
 refine⟨fun i m σ H=>m=xs.length-i/\i<=xs.length/\Pv i σ H,⟨xs.length,by simp,JC _,h0⟩,?_⟩
 rintro i m σ H ⟨rfl,hi,p⟩;have q:=hl i σ H hi p;by_cases hlt:i<xs.length
 ·refine .inr ⟨⟨xs[i],xs,q,by simp[hlt]⟩,Pv (i+1),fun σ' H' p'=>⟨xs.length-(i+1),by lia,rfl,hlt,p'⟩,fun x H' y=>?_⟩
  obtain⟨b,y,hy,fr,rfl,rfl⟩:=y;exact hs i y σ H b (hy xs q) p fr
 ·have e:i=xs.length:=by lia
  subst e;exact .inl ⟨⟨xs,q,rfl⟩,hd σ H p⟩
theorem Z.AF{o:Expr}{td ty:TE}{apos cpos:Pos}(ho:QE X o td)(he:QE X e ty)(h:cN e=true:=by rfl)(hb:attributeBase o "pop" X.env (eval o X.env)=eval o X.env:=by rfl)(hl:(apos.endLine == cpos.line)=true:=by rfl):QE X (.Call (.Attribute o "pop" apos) [e] [] cpos) (jy td ty):=
 ⟨xo ho.h he.h ⟨hb,vn (by simp[h]) (show 1<30 by decide),hl,by rw[cA h];rfl⟩⟩
theorem Ap.jy(td ty:TE)(σ:St)(H:Hp)(Q:VK):L2.jy td ty σ H Q=td σ H fun x H1=>∃ a,x=.ref a/\HJ H1 a/\ty σ H1 fun y H2=>∃ kvs k v,H2 a=some (.dK kvs)/\y=kV k/\cZ kvs k=some v/\Q v (upd H2 a (.dK (gP kvs k))):=rfl
open PySem PySem.Spec PyProof PyProof.Rows PySem.W
namespace Y
def yU(i j:Nat)(us:UA):US:=fun E μ=>us μ fun rs μ'=>match trees rs with
 |some [t,u]=>ou μ' i/\ou (μ'.set i (.tr t)) j/\E.nx ((μ'.set i (.tr t)).set j (.tr u))
 |_=>False
theorem par{i j:Nat}{x y:Str}{a b:Expr}{us:UA}{px py pt pt2:Pos}{kt k2:Nat}(hc:X.calm=true)(hN:X.N.Nodup)(hi:X.N[i]?=some x)(hj:X.N[j]?=some y)(hij:i≠j)
  (hx:X.env.scope.names.lookup x=some .local) (hy:X.env.scope.names.lookup y=some .local) (ha:YA X [a,b] us)
  (hw:swappedStores [.Tuple [.Name x px,.Name y py] kt pt] (.Tuple [a,b] k2 pt2) X.env=pure (some [x,y]):=by rfl)
  (hs:swapsWithSole [.Tuple [.Name x px,.Name y py] kt pt] (.Tuple [a,b] k2 pt2) pos.line X.env=pure false:=by rfl) :
  YS X (.Assign [.Tuple [.Name x px,.Name y py] kt pt] (.Tuple [a,b] k2 pt2) pos) (yU i j us):=by
 obtain⟨t,q,r⟩:=ha;refine⟨_,⟨CK hc hN hi hj hij hx hy q.h hw hs⟩,fun F D E ad B σ H μ hK l q h=>r F ad B σ H μ _ _ hK l q fun vs H' rs μ' l1 ps f k1 q1=>?_⟩
 split at q1
 ·rename_i t u e;have rp:=i3 ps e
  cases rp with
  |cons r1 rp =>
   cases rp with
   |cons r2 rp =>
    cases rp;exact⟨_,_,rfl,h.nx ad B _ H' _ ((l1.u6 (gF q1.1) r1).u6 (gF q1.2.1) r2) f q1.2.2⟩
 ·exact q1.elim
end Y
namespace A
theorem yU(i j:Nat)(us:UA)(E:Ed)(μ:Mu):Y.yU i j us E μ=us μ fun rs μ'=>match Y.trees rs with
 |some [t,u]=>Y.ou μ' i/\Y.ou (μ'.set i (.tr t)) j/\E.nx ((μ'.set i (.tr t)).set j (.tr u))
 |_=>False:=rfl
end A
theorem nK{M:Model}{a:Addr}{Q:Bool->Shared->Prop}(h:Q true s):wpAny M A (eqBool (.ref a) (.ref a)) Q E s:=by
 unfold eqBool;refine J9 ?_;rw[Ja (by simp)]
 exact IT (Lp (IZ h))
def xc(h:Heap)(v:Value)(pr:Int×Int):Prop:=∃(a:Addr) (o:Obj) (n:Nat) (t u:Tok) (z:Addr),v=.ref a/\h.get? a=some o/\o.cls=.type "tuple"/\o.data=.seq #[.int pr.1 t,.int pr.2 u,.ref z] n
theorem n_:∀{vs:List Value} {dH:List (Int×Int)},Paired (xc h) vs dH->∃ fs,KatTups h vs fs/\fs.length=vs.length/\∀ v∈fs,∃ i t,v=Value.int i t
 |_,_,.nil=>⟨[],trivial,rfl,fun _ h=>by cases h⟩
 |_,_,.cons r t=>by
  obtain⟨a,o,n,t1,u,z,rfl,ho,hc,hd⟩:=r;obtain⟨fs,h1,h2,h3⟩:=n_ t;refine⟨_::fs,⟨⟨a,o,_,n,rfl,ho,hc,hd,rfl⟩,h1⟩,by simp[h2],fun v hv=>?_⟩
  rcases Jg.mp hv with rfl|hv
  ·exact⟨_,_,rfl⟩
  ·exact h3 v hv
theorem xI{dH:List (Int×Int)}(hp:Paired (xc h) vs dH){i:Nat}(hi:i<vs.length):xc h (vs.getD i .none) (dH.getD i (0,0))/\dH.getD i (0,0)∈dH:=by
 induction hp generalizing i with
 |nil=>cases hi
 |cons r t ih =>
  cases i with
  |zero=>exact⟨r,Jl ..⟩
  |succ i =>
   obtain⟨h1,h2⟩:=ih (i:=i) (by simpa using hi)
   exact⟨h1,Jk _ h2⟩
theorem oO{l:List (Int×Int)}(nd:l.Nodup){i j:Nat}(hi:i<l.length)(hj:j<l.length)(e:l.getD i (0,0)=l.getD j (0,0)):i=j:=by
 rw[JK,JK,IV hi,IV hj] at e;exact (List.getElem_inj nd).mp e
theorem sU{s:Shared}{dH:List (Int×Int)}(hp:Paired (xc h) vs dH)(nd:dH.Nodup):D8 prog w s vs (tuples' true) (rk dH) h where
 kind:=fun A E Q h2 q=>by
  obtain⟨fs,h1,h3,h4⟩:=n_ hp;exact kat_kind (s:={s with heap:=h}) (T:=.type "int") h1 (by lia) (fun v hv=>by obtain⟨i,t,rfl⟩:=h4 v hv;exact Looks.of_pure rfl) rfl q
 lt:=fun A C i j hi hj q=>by
  obtain⟨⟨a,o,n,t,u,z,ea,ho,hc,hd⟩,mi⟩:=xI hp hi;obtain⟨⟨a',o',n',t',u',z',ea',ho',hc',hd'⟩,mj⟩:=xI hp hj;have e:=ze mi mj;have hl:vs.length=dH.length:=Paired.length hp;have same:dH.getD i (0,0)=dH.getD j (0,0)->z=z':=fun e=>by
   have:=oO nd (by lia) (by lia) e
   subst this;rw[ea] at ea';cases ea';rw[ho] at ho';cases ho';rw[hd] at hd';cases hd';rfl
  have e':decide (rk dH i<rk dH j)=lexLt (dH.getD i (0,0)) (dH.getD j (0,0)):=by
   rw[<- e,Kj];unfold rk;lia
  rw[e'] at q;clear e e' mi mj;unfold kas_ask;rw[ea,ea'];generalize dH.getD i (0,0)=x at *;generalize dH.getD j (0,0)=y at *;refine kat_lt (s:={s with heap:=h}) ho hd ho' hd' ?_
  show KatLex prog w A true _ C [(.int x.1 t,.int y.1 t'),(.int x.2 u,.int y.2 u'),(.ref z,.ref z')] 0 _;refine kat_cons (Nk ?_)
  cases c1:(x.1 == y.1) with
  |false =>
   refine kat_no ?_;have h1:x.1≠y.1:=Kd.mp c1;have e1:lexLt x y=decide (x.1<y.1):=by unfold lexLt;rw[Kj];lia
   rw[e1] at q;exact oneLt_int q
  |true =>
   refine kat_yes (kat_cons (Nk ?_));have h1:x.1=y.1:=eq_of_beq c1;have e1:lexLt x y=decide (x.2<y.2):=by unfold lexLt;rw[Kj];lia
   rw[e1] at q
   cases c2:(x.2 == y.2) with
   |false =>
    refine kat_no ?_;show wpAny (model prog w) A (oneLt' false (.int x.2 u) (.int y.2 u')) C _ _;exact kat_one _ _ (lt_int q)
   |true =>
    have h2:x.2=y.2:=eq_of_beq c2
    cases same (Prod.ext h1 h2)
    refine kat_yes (kat_cons (nK (kat_yes (kat_nil ?_))));rw[Jp (by lia)] at q
    exact q
namespace Y
def yf(p:(Int×Int)×List T):T:=.tup [.int p.1.1,.int p.1.2,.lst p.2]
def Hn(H:Hp)(v:V)(p:Int×Int):Prop:=∃ q z,v=.ref q/\H q=some (.tup [.int p.1,.int p.2,.ref z])
def wJ(K:Oe):List V->Hp->VK->Prop:=fun xs H Q=>∃ p vs dH,xs=[.ref p]/\bS K H p vs/\Paired (Hn H) vs dH/\dH.length<64/\dH.Nodup/\∀ ix:List Nat,ix.Perm (List.range dH.length)->∀ l,H l=none->Q (.ref l) (upd H l (.lst (ix.map fun i=>vs.getD i .aL)))
theorem xG{pins:List (Addr×Obj)}{σ:St}(I:Inv X pins σ H s):∀{vs:List V} {its:List Value} {dH:List (Int×Int)},Vals vs its->Paired (Hn H) vs dH->Paired (xc s.heap) its dH
 |_,_,_,.nil,.nil=>.nil
 |_,_,_,.cons r t,.cons r' t'=>by
  refine .cons ?_ (xG I t t');obtain⟨q,z,rfl,hq⟩:=r';have e:_=Value.ref q:=r;subst e;obtain⟨_,ts,tv,o,e1,c,n,d,_⟩:=(show aJ X.prog X.w H s.heap q (.tup _) from I.aO q _ hq)
  cases tv with
  |cons r1 tv =>
   obtain⟨t1,rfl⟩:=r1;obtain⟨u,w',rfl,⟨t2,rfl⟩,r3⟩:=vals2 tv;cases r3;exact⟨q,o,n,t1,t2,z,rfl,e1,c,d⟩
theorem pU(K:Oe)(hK:X.K=K):aT X (.builtin "sorted") (wJ K):=by
 subst hK;intro pins s σ H xs us Q I r h;obtain⟨p,vs,dH,rfl,hq,hp,h64,nd,q⟩:=h;obtain⟨u,rfl,ru⟩:=vals1 r;cases ru;obtain⟨its,rv,pl,hz⟩:=I.list hq;have hpa:=xG I rv hp;have l1:its.length=dH.length:=Paired.length hpa;have l2:vs.length=dH.length:=Paired.length hp;refine oM (κ:=tuples' true) (kz:=rk dH) pl.isList (by lia) (fun h' hk=>sU (Paired.j0 hpa fun a b ⟨x,o,n,t,u,z,e,ho,r⟩=>⟨x,o,n,t,u,z,e,hk _ _ ho,r⟩) nd) fun px a1 a2=>?_
 rw[l1] at a1;obtain⟨e,he⟩:=Nr s.heap its (List.toArray (px.toList.map fun i=>its.getD i Value.none));refine⟨.ref (s.heap.objs.size+1),_,I.laid (t':=s.toks) (fun b ob q=>MS q) (Kw _) (show aJ X.prog X.w _ _ _ (.lst (px.toList.map fun i=>vs.getD i .aL)) from⟨?_,_,e,rf rv px.toList (fun i hi=>by rw[l2];exact Km.mp (a1.mem_iff.mp hi)),by simpa using he⟩),rfl,q px.toList a1 _ (I.aO.fresh (Kw _))⟩
 rw[IW,a1.length_eq,Js];exact Jj (K9 h64) (by decide)
def l_:T->Mu->(R->Mu->Prop)->Prop:=fun t μ Q=>match t with
 |.lst xs=>∃ trs:List ((Int×Int)×List T),xs=trs.map yf/\trs.length<64/\(trs.map (·.1)).Nodup/\∀ out:List ((Int×Int)×List T),out.Perm trs->Q (.fr (.lst (out.map yf))) μ
 |_=>False
theorem oi{B:bf}:∀{trs:List ((Int×Int)×List T)} {vs:List V},ao K H B vs (trs.map yf)->Paired (Hn H) vs (trs.map (·.1))
 |[],_,r=>by cases r;exact .nil
 |p::trs,_,r=>by
  cases r with
  |cons h r =>
   refine .cons ?_ (oi r)
   cases h with
   |tup n h r' =>
    cases r' with
    |cons h1 r' =>
     cases h1
     cases r' with
     |cons h2 r' =>
      cases h2
      cases r' with
      |cons h3 r' =>
       cases r';cases h3;exact⟨_,_,rfl,h⟩
theorem mL{B:bf}{vs:List V}{trs:List ((Int×Int)×List T)}(h:ao K H B vs (trs.map yf)):∀ ix:List Nat,(∀ i∈ix,i<trs.length)->ao K H B (ix.map fun i=>vs.getD i .aL) ((ix.map fun i=>trs.getD i ((0,0),[])).map yf)
 |[],_=>.nil
 |i::ix,hi=>by
  refine .cons ?_ (mL h ix fun j hj=>hi j (Jk _ hj));have hl:=hi i (Jl ..);obtain⟨v,e,r⟩:=ao.get h (i:=i) (t:=yf trs[i]) (by rw[Jy,IV hl];rfl)
  show Rep K H B (vs.getD i .aL) (yf (trs.getD i ((0,0),[])));rw[JK,JK,IV hl,e];exact r
theorem x8:RC K (wJ K) (pQ l_):=fz fun F ad B σ H μ Q Qt x t hK l v1 q k=>by
 subst hK
 cases v1 with
 |lst ha ra =>
  obtain⟨trs,rfl,h64,nd,q⟩:=q;have lm:(trs.map (·.1)).length=trs.length:=IW ..;refine⟨_,_,_,rfl,bS.of ha,oi ra,by rw[lm];exact h64,nd,fun ix a1 p hp=>?_⟩
  rw[lm] at a1;have h2:(List.range trs.length).map (fun i=>trs.getD i ((0,0),[]))=trs:=by
   refine LZ fun i=>?_;rw[Jy];rcases KP i trs.length with c|c
   ·rw[LD c,IV c];simp[c]
   ·rw[Jx.mpr c,Jx.mpr (by rw[Js];exact c)];rfl
  have hpm:(ix.map fun i=>trs.getD i ((0,0),[])).Perm trs:=by
   have h1:=a1.map fun i=>trs.getD i ((0,0),[]);rw[h2] at h1;exact h1
  exact k _ _ _ (Vr.eX l (mL ra ix fun i hi=>Km.mp (a1.mem_iff.mp hi)) hp) (Fr.more hp) (q _ hpm)
 |_=>exact q.elim
end Y
namespace A
theorem l_(xs:List T)(μ:Mu)(Q:R->Mu->Prop):Y.l_ (.lst xs) μ Q=(∃ trs:List ((Int×Int)×List T),xs=trs.map Y.yf/\trs.length<64/\(trs.map (·.1)).Nodup/\∀ out:List ((Int×Int)×List T),out.Perm trs->Q (.fr (.lst (out.map Y.yf))) μ):=rfl
end A
end L2
namespace G
open PySem L2 PySem.Spec PyProof.Rows
variable{L b free n:Nat}{a x:Int}{l:PySem.W.OpenLaw}{r:List Nat}{α:Type}{H:Hp}{B:bf}{ds m ws:List Int}{sd:List Bool}{ls:List (List Nat)}{fd:FuncData}{lc_by_weight lc_by_worth lp_by_weight lp_by_worth:Addr}{lO_by_weight lO_by_worth:Value}{lD_by_weight lD_by_worth:Option Addr}{lv_by_weight lv_by_worth:Array Value}{lS_by_weight lS_by_worth:Array (Option Value)}{q:Program}
def top(i:Nat):Stmt:=PySem.Challenge.pw_shortrows_k14_paper_shown.main.body.getD i (.Pass ⟨0,0,0,0⟩)
abbrev cR:Stmt:=top 4
theorem cH:az ["lengths","free","depth","left","length"] ["lengths"] (aa cR):=⟨rfl,rfl,rfl,by decide +kernel,rfl,by decide +kernel,by decide +kernel⟩
abbrev cu:Stmt:=top 5
theorem pB:az ["counts","lengths"] ["counts","lengths"] (aa cu):=⟨rfl,rfl,rfl,by decide +kernel,rfl,by decide +kernel,by decide +kernel⟩
abbrev aD:Stmt:=top 6
theorem cU:az ["counts","bound","things","chosen"] ["counts","bound"] (aa aD):=⟨rfl,rfl,rfl,by decide +kernel,rfl,by decide +kernel,by decide +kernel⟩
abbrev aK:Stmt:=top 7
theorem bj:az ["counts","bound","coins","shelf","depth","chosen","item"] ["counts","bound"] (aa aK):=⟨rfl,rfl,rfl,by decide +kernel,rfl,by decide +kernel,by decide +kernel⟩
abbrev bR:Stmt:=top 8
theorem nr:az ["shelf"] ["shelf"] (aa bR):=⟨rfl,rfl,rfl,by decide +kernel,rfl,by decide +kernel,by decide +kernel⟩
abbrev bI:Stmt:=top 9
theorem nH:az ["shelf"] ["shelf"] (aa bI):=⟨rfl,rfl,rfl,by decide +kernel,rfl,by decide +kernel,by decide +kernel⟩
abbrev bW:Stmt:=top 11
theorem nV:az ["counts"] ["counts"] (aa bW):=⟨rfl,rfl,rfl,by decide +kernel,rfl,by decide +kernel,by decide +kernel⟩
abbrev aF:Stmt:=top 12
theorem aY:az ["counts","paper","standing","one","other","both"] ["counts"] (aa aF):=⟨rfl,rfl,rfl,by decide +kernel,rfl,by decide +kernel,by decide +kernel⟩
abbrev bD:Stmt:=top 13
theorem lF:az ["standing"] ["standing"] (aa bD):=⟨rfl,rfl,rfl,by decide +kernel,rfl,by decide +kernel,by decide +kernel⟩
abbrev bo:Stmt:=top 14
theorem eE:az ["counts","lengths","paper","weight"] ["counts","lengths","paper"] (aa bo):=⟨rfl,rfl,rfl,by decide +kernel,rfl,by decide +kernel,by decide +kernel⟩
abbrev ay:Stmt:=top 15
theorem aN:az ["counts","paper","standing","weight","number","pair"] ["counts","paper"] (aa ay):=⟨rfl,rfl,rfl,by decide +kernel,rfl,by decide +kernel,by decide +kernel⟩
abbrev bp:Stmt:=top 16
theorem fc:az ["standing","one","other","heavier"] ["standing","one","other"] (aa bp):=⟨rfl,rfl,rfl,by decide +kernel,rfl,by decide +kernel,by decide +kernel⟩
abbrev bG:Stmt:=top 18
theorem fX:az ["cell","number"] ["cell"] (aa bG):=⟨rfl,rfl,rfl,by decide +kernel,rfl,by decide +kernel,by decide +kernel⟩
abbrev bF:Stmt:=top 19
theorem d5:az ["seed","most","found","number"] ["seed","most"] (aa bF):=⟨rfl,rfl,rfl,by decide +kernel,rfl,by decide +kernel,by decide +kernel⟩
abbrev bz:Stmt:=top 20
theorem jL:az ["script","many"] ["script","many"] (aa bz):=⟨rfl,rfl,rfl,by decide +kernel,rfl,by decide +kernel,by decide +kernel⟩
abbrev aU:Stmt:=top 23
theorem aX:az ["seed","many","way","found","k","number","start"] ["seed","many"] (aa aU):=⟨rfl,rfl,rfl,by decide +kernel,rfl,by decide +kernel,by decide +kernel⟩
abbrev bE:Stmt:=top 24
theorem bZ:az ["lengths","need","last","length","gap"] ["lengths"] (aa bE):=⟨rfl,rfl,rfl,by decide +kernel,rfl,by decide +kernel,by decide +kernel⟩
abbrev bH:Stmt:=top 25
theorem cS:az ["counts","lengths","total","count","length"] ["counts","lengths"] (aa bH):=⟨rfl,rfl,rfl,by decide +kernel,rfl,by decide +kernel,by decide +kernel⟩
abbrev aV:Stmt:=top 27
theorem bq:az ["counts","paper","weights","standing","total","one","other","k"] ["counts","paper"] (aa aV):=⟨rfl,rfl,rfl,by decide +kernel,rfl,by decide +kernel,by decide +kernel⟩
abbrev aZ:Stmt:=top 28
theorem aW:az ["counts","heap","depths","paper","one","other","k","number"] ["counts"] (aa aZ):=⟨rfl,rfl,rfl,by decide +kernel,rfl,by decide +kernel,by decide +kernel⟩
abbrev bA:Stmt:=top 29
theorem b6:az ["seed","counts","left","names","depths","paper","at","one","things","k"] ["seed","counts"] (aa bA):=⟨rfl,rfl,rfl,by decide +kernel,rfl,by decide +kernel,by decide +kernel⟩
abbrev bV:Stmt:=top 30
theorem gU:az ["counts","lengths","paper","total"] ["counts","lengths","paper"] (aa bV):=⟨rfl,rfl,rfl,by decide +kernel,rfl,by decide +kernel,by decide +kernel⟩
abbrev aA:Stmt:=top 31
theorem bt:az ["seed","lengths","some","one","other","way"] ["seed","lengths"] (aa aA):=⟨rfl,rfl,rfl,by decide +kernel,rfl,by decide +kernel,by decide +kernel⟩
abbrev aG:Stmt:=top 32
theorem aI:az ["seed","paper","many","at","one","other","number","some"] ["seed","paper","many"] (aa aG):=⟨rfl,rfl,rfl,by decide +kernel,rfl,by decide +kernel,by decide +kernel⟩
abbrev fe:Stmt:=top 33
theorem cY:az ["script","cell","seed","many","counts","some","lengths","paper","found"] ["script"] (aa fe):=⟨rfl,rfl,rfl,by decide +kernel,rfl,by decide +kernel,by decide +kernel⟩
structure Txt (K:Oe) (mg:Str->Option Value):Prop where
 EZ:mg "all"=none
 CU:mg "bool"=none
 Dv:mg "dict"=none
 dq:mg "enumerate"=none
 Eg:mg "int"=none
 lT:mg "isinstance"=none
 bw:mg "len"=none
 p_:mg "list"=none
 iO:mg "max"=none
 sg:mg "min"=none
 d_:mg "range"=none
 eF:mg "sorted"=none
 A5:mg "sum"=none
 c_:mg "tuple"=none
 wg:mg "zip"=none
 xs:∃ C_NoCode:Addr,mg "NoCode"=some (.ref C_NoCode)/\tE K C_NoCode
 lI:kT K mg "by_worth"
 jW:kT K mg "by_weight"
section
variable {P:Program} {w:World} {K:Oe} {mg:Str->Option Value} {base:Heap}
local macro_rules | `(tactic| walk_at "lc") => `(tactic| first | exact Or.inl rfl | exact Or.inr rfl)
local macro_rules | `(tactic| wp_walk using $ts,*) => do
  let ids := ("L2.A.l_ L2.A.yU L2.A.v8 L2.A.u4 L2.A.Ak L2.A.Gp L2.A.zW L2.A3.BP L2.A3.Bw L2.A3.Fh L2.A3.yJ L2.A3.jS L2.A3.gg L2.A3.DJ L2.A3.nO L2.A3.GV L2.A3.Bk L2.A3.gT L2.A3.mV L2.A3.GX L2.A3.Hz L2.A3.GR L2.A3.Fg L2.A3.add_l L2.A3.E9 L2.A3.Hi L2.A3.HA L2.A3.E2 L2.A3.En L2.A3.EO L2.A3.Hj L2.A3.GZ L2.A3.HB L2.A.Fw L2.A.zD L2.A.uC L2.A.gA L2.A.kh L2.A.jx L2.A.Ax L2.A.vT L2.A.EL L2.A.qW L2.A.yj L2.A.pH L2.A.fk L2.A.uK L2.A.t4 L2.A.xS L2.A.AV L2.A.ip L2.A.qu L2.A.uu L2.A.Ey L2.A.Hm L2.A.Bu L2.A.CO L2.A.yY L2.A.Gd L2.A.E5 L2.A.FW L2.A.Hc L2.A.zo L2.A.DS L2.A.tQ L2.A.Gh L2.A.HY L2.A.pQ L2.A.gD L2.A.nW L2.A.yg L2.A.CW L2.A.EV L2.A.nX L2.A.Ha L2.A.FC L2.A.DY L2.A.G0 L2.A.GC L2.A.tF L2.A.G2 L2.A.Gu L2.A.me L2.A.jv L2.A.jO L2.A.IQ L2.A.IP L2.A.ou L2.A.ED L2.A.Ga L2.A.DX L2.A.Es L2.A.Gv L2.A.GJ L2.A.gS L2.A.Ac L2.A.qH L2.A.yt L2.A.Gr L2.A.GG L2.A.G7 L2.A.iZ L2.A.xY L2.A.gX L2.A.GD L2.A.fW L2.A.Gm L2.A.Iy L2.A.IF w_ L2.A.Hw L2.A.HL L2.A.HZ L2.A.GO L2.A.Ho L2.A.Ex L2.A.Ew L2.A.FI L2.A.FE L2.A.Fm L2.A.HM L2.A.Ib L2.A.Hd L2.A.GQ L2.A.Hl L2.A.H_ Sl.box Sl.put dz L2.putAll vo gb gM L2.Y.trees L2.Y.yo L2.Y.yO L2.Y.t8 L2.Y.G8 L2.Y.GF List.tail_cons Nat.zero_le startM uJ cC Option.bind_some Option.map_some List.map_cons List.map_nil List.length_cons List.length_nil List.replicate List.cons_append List.nil_append List.append_nil List.getElem?_cons_zero List.getElem?_cons_succ List.set_cons_zero List.set_cons_succ List.nodup_nil List.nodup_cons List.not_mem_nil List.mem_cons not_false_eq_true false_implies implies_true forall_eq or_false and_true true_and and_self true_or EJ EG EY Ep Nat.reduceAdd Nat.reduceSub Nat.reduceLeDiff Bool.false_eq_true Bool.not_true Bool.not_false decide_eq_true_eq Bool.not_eq_true' decide_eq_false_iff_not Int.reduceToNat Int.reducePow reduceCtorEq exists_eq_left'".splitOn " ").toArray.map fun n => Lean.mkIdent n.toName
  `(tactic| simp only [↓reduceIte, $[↓$ts:term],*, $[$ids:ident],*, $[$ts:term],*])
local macro_rules | `(tactic| walk_at "rt") => `(tactic| wp_walk using and_self)
namespace Kr
def ks(L:Nat):List Nat->Nat
 |[]=>0
 |l::r=>2^(L-l)+ks L r
theorem kn(L:Nat):∀ a b,ks L (a++b)=ks L a+ks L b
 |[],b=>by simp[ks]
 |x::a,b=>by simp[ks,kn L a b];lia
theorem rK{a b:List Nat}(h:a.Perm b):ks L a=ks L b:=by
 induction h with
 |nil=>rfl
 |cons x _ ih=>simp[ks,ih]
 |swap x y l=>simp[ks];lia
 |trans _ _ h1 h2=>exact h1.trans h2
theorem sv{d l:Nat}(h:d<l)(hl:l<=L):2^(L-d)=2*2^(L-(d+1)):=by
 have:L-d=(L-(d+1))+1:=by lia
 rw[this,Oc];lia
def fit:List Nat->Nat->Nat->Nat->Prop:=fun r free depth L=>ks L r<=free*2^(L-depth)
theorem xb{L d:Nat}:∀{r:List Nat},(∀ x∈r,d<=x)->ks L r<=r.length*2^(L-d)
 |[],_=>by simp[ks]
 |x::r,h=>by
  have ih:=xb (L:=L) (d:=d) (r:=r) fun y hy=>h y (Jk _ hy);have hx:=h x Jl;have:=Mw (n:=2) (by decide) (Nat.sub_le_sub_left hx L)
  simp only[ks,Jf,L1];lia
theorem CY{x:Nat}:0<ks L (x::r):=by
 have:=NJ (n:=L-x) (show 0<2 by decide)
 simp only[ks];lia
theorem pd{depth:Nat}(h:∀ x∈r,depth<=x)(hf:r.length<=free):fit r free depth L:=
 Jj (xb h) (Mz _ hf)
theorem pV{depth l:Nat}(h:depth<l)(hl:l<=L):fit r free depth L ↔ fit r (free*2) (depth+1) L:=by
 unfold fit;rw[sv h hl,N_]
theorem uZ{l:Nat}(hf:0<free):fit (l::r) free l L ↔ fit r (free-1) l L:=by
 unfold fit;simp only[ks];obtain⟨f,rfl⟩:∃ f,free=f+1:=⟨free-1,by lia⟩
 rw[MK,L1];lia
theorem uT{x:Nat}{r:List Nat}{depth L:Nat}:¬ fit (x::r) 0 depth L:=by
 unfold fit;have:=CY (L:=L) (x:=x) (r:=r);lia
def Ad(L:Nat)(done:List Nat)(need last:Int):Prop:=0<=need/\0<=last/\∀ m:Nat,(need<=m ↔ ks L done<=m*2^(L-last.toNat))
theorem shr(n:Int)(g:Nat)(hn:0<=n)(m:Nat):(1-((0-n) / 2^g)<=(m:Int)) ↔ (1<=m/\n<=((m-1:Nat):Int)*2^g):=by
 have hp:(0:Int)<2^g:=Int.pow_pos (by decide)
 have h1:(1-((0-n) / 2^g)<=(m:Int)) ↔ (1-(m:Int))<=(0-n) / 2^g:=by lia
 rw[h1,Int.le_ediv_iff_mul_le hp];constructor
 ·intro h;have hm:1<=m:=by
   rcases Lv m with z|z
   ·subst z;simp at h;lia
   ·exact z
  refine⟨hm,?_⟩;have e:((m-1:Nat):Int)=(m:Int)-1:=by lia
  rw[e,NK];rw[NK] at h;lia
 ·rintro⟨hm,h⟩;have e:((m-1:Nat):Int)=(m:Int)-1:=by lia
  rw[e,NK] at h;rw[NK];lia
theorem Ad.step{done:List Nat}{need last l:Int}(h:Ad L done need last)(h0:0<=l)(hl:l<=last)(hL:last<=L):
  Ad L (done++[l.toNat]) (1-((0-need) / 2^(last-l).toNat)) l:=by
 obtain⟨n0,l0,hm⟩:=h;refine⟨?_,h0,fun m=>?_⟩
 ·have hp:(0:Int)<2^(last-l).toNat:=Int.pow_pos (by decide)
  have:(0-need) / 2^(last-l).toNat<=0:=Int.ediv_nonpos_of_nonpos_of_neg (by lia) hp
  lia
 ·rw[shr need _ n0 m,kn];simp only[ks];have e1:2^(L-l.toNat)=2^(last-l).toNat*2^(L-last.toNat):=by
   rw[<- MC];congr 1;lia
  have hpos:=NJ (n:=L-l.toNat) (show 0<2 by decide)
  constructor
  ·rintro⟨m1,h⟩;have h':need<=(((m-1)*2^(last-l).toNat:Nat):Int):=by
    rw[Int.natCast_mul,N6];exact h
   have:=(hm _).mp h';rw[N_,<- e1] at this;obtain⟨k,rfl⟩:∃ k,m=k+1:=⟨m-1,by lia⟩
   rw[MK] at this;rw[L1];exact Nat.add_le_add this (Jb _)
  ·intro h;have m1:1<=m:=by
    rcases Lv m with z|z
    ·subst z;lia
    ·exact z
   refine⟨m1,?_⟩;have h':need<=(((m-1)*2^(last-l).toNat:Nat):Int):=by
    refine (hm _).mpr ?_;rw[N_,<- e1];obtain⟨k,rfl⟩:∃ k,m=k+1:=⟨m-1,by lia⟩
    rw[MK];rw[L1] at h;exact Nat.le_of_add_le_add_right h
   rw[Int.natCast_mul,N6] at h';exact h'
end Kr
namespace Pm
abbrev It:=Int×List Nat
def wt(X:List It):Int:=(X.map fun x=>x.1).sum
def th(X:List It):List Nat:=X.flatMap fun x=>x.2
theorem bY(x:It)(X:List It):th (x::X)=x.2++th X:=MZ ..
theorem gm(X Y:List It):th (X++Y)=th X++th Y:=List.flatMap_append ..
theorem qU{X Y:List It}(h:X.Perm Y):(th X).Perm (th Y):=by
 induction h with
 |nil=>exact .refl _
 |cons x _ ih=>rw[bY,bY];exact ih.append_left _
 |swap x y l =>
  rw[bY,bY,bY,bY,<- J6,<- J6];exact L4.append_right _
 |trans _ _ h1 h2=>exact h1.trans h2
theorem pick{a:α}{X:List α}(h:a∈X):∃ X',X.Perm (a::X'):=by
 obtain⟨s,t,rfl⟩:=List.append_of_mem h;exact⟨s++t,Mf⟩
theorem split:∀(A B X Y:List α),(A++B).Perm (X++Y)->∃ X1 X2 Y1 Y2,X.Perm (X1++X2)/\A.Perm (X1++Y1)/\B.Perm (X2++Y2)
 |[],B,X,Y,h=>⟨[],X,[],Y,.refl _,.refl _,h⟩
 |a::A,B,X,Y,h=>by
  rw[L6] at h;rcases JN.mp (h.mem_iff.mp Jl) with m|m
  ·obtain⟨X',hX⟩:=pick m;have h2:(a::(A++B)).Perm (a::(X'++Y)):=h.trans (hX.append_right Y);obtain⟨X1,X2,Y1,Y2,p1,p2,p3⟩:=split A B X' Y h2.cons_inv;exact⟨a::X1,X2,Y1,Y2,hX.trans (p1.cons a),p2.cons a,p3⟩
  ·obtain⟨Y',hY⟩:=pick m;have h2:(a::(A++B)).Perm (a::(X++Y')):=(h.trans (hY.append_left X)).trans Mf;obtain⟨X1,X2,Y1,Y2,p1,p2,p3⟩:=split A B X Y' h2.cons_inv;exact⟨X1,X2,a::Y1,Y2,p1,(p2.cons a).trans Mf.symm,p3⟩
def pk:List It->List It
 |a::b::r=>(a.1+b.1,a.2++b.2)::pk r
 |_=>[]
theorem pN:∀ A:List It,(pk A).length=A.length / 2
 |[]=>rfl
 |[_]=>by simp[pk]
 |a::b::r=>by
  unfold pk;rw[Jf,pN r];simp only[Jf];lia
def sN(f:Nat->Nat):Nat->Nat
 |0=>0
 |n+1=>sN f n+f n
section
variable (c:Nat->Int) (n:Nat)
def coins:List It:=(List.range n).map fun i=>(c i,[i])
def GH(l:List It):List It:=eZ (l.map fun x=>x.1) l
def shelf:Nat->List It
 |0=>[]
 |d+1=>GH (coins c n++pk (shelf d))
end
theorem jn(l:List It):(GH l).Perm l:=x4 (by rw[IW])
variable {c:Nat->Int} {n:Nat}
theorem nM:th (coins c n)=List.range n:=by
 unfold th coins;rw[List.flatMap_map];generalize List.range n=l
 induction l with
 |nil=>rfl
 |cons x l ih=>rw[MZ,ih];rfl
def CN(c:Nat->Int)(n D i:Nat):Nat:=(th ((shelf c n D).take (2*n-2))).count i
end Pm
def dF(s:T):Prop:=∃ n f c m:Int,s=.lst [.int n,.int f,.int c,.int m]
theorem dF.flat{s:T}(h:dF s):fZ s=true:=by obtain⟨n,f,c,m,rfl⟩:=h;rfl
def kG:fA:=fun args Q=>∃(s:T) (k:Int),args=[s,.int k]/\dF s/\0<k/\k<2^30/\∀(v:Int) (s':T),dF s'->0<=v->v<k->Q (.tr (.int v)) [s']
theorem yW(T:Txt K mg)(F:HasFn K mg "_law_draw" bF ["seed","most"]):ah P w K mg base cF 1 "_law_draw" ["seed","most"] (spT K [true,false] kG):=by
 refine F.mD d5 [true,false] rfl (by decide) (fun args Qt hl h f cdv A outer s H E hr=>?_)
 have hu:=cg hr;obtain⟨sd,k,rfl,⟨n,fl,c,m,rfl⟩,k0,k1,q⟩:=h;refine⟨_,(Y.ae (Y.asg (Y.op (Y.ak K rfl) Y.aj (Y.ix (Y.a_ K rfl) Y.aq (Y.vS 0) Y.int) Y.int) (Y.gG (Y.vS 0) Y.int))
   (Y.ae (Y.gZ (Y.tw (Y.mQ (Y.cx (Y.cy K rfl (Jt hu)) Y.di (Y.ix (Y.a_ K rfl) Y.aq (Y.vS 0) Y.int) Y.int) (Y.kB (Y.cx qr Y.d8 (Y.ix (Y.a_ K rfl) Y.aq (Y.vS 0) Y.int) Y.int)))) (Y.ae (Y.set (i:=2) d5.nd rfl (by walk_at "lc") (Y.op gn Y.bK (Y.ix (Y.a_ K rfl) Y.aq (Y.vS 0) Y.int) (Y.vS 1)))
   (Y.ae (Y.asg (Y.op Y.jq Y.bK (Y.ix (Y.a_ K rfl) Y.aq (Y.vS 0) Y.int) (Y.vS 1)) (Y.gG (Y.vS 0) Y.int))
   (Y.aQ (Y.ret (Y.vS 2))))) Y.dm)
   (Y.ae (Y.set (i:=3) d5.nd rfl (by walk_at "lc") (Y.op gn Y.bK (Y.op (Y.bN K rfl) Y.bO (Y.op (Y.ak K rfl) Y.aj (Y.op (Y.ak K rfl) Y.aj (Y.ix (Y.a_ K rfl) Y.aq (Y.vS 0) Y.int) (Y.op (Y.bN K rfl) Y.bO Y.int (Y.ix (Y.a_ K rfl) Y.aq (Y.vS 0) Y.int))) Y.int) Y.int) Y.int))
   (Y.ae (Y.set (i:=3) d5.nd rfl (by walk_at "lc") (Y.op gn Y.bK (Y.op (Y.bN K rfl) Y.bO (Y.op gn Y.bK (Y.op (Y.bN K rfl) Y.bO (Y.vS 3) (Y.vS 3)) Y.int) Y.int) Y.int))
   (Y.aQ (Y.ret (Y.op gn Y.bK (Y.op Y.jq Y.bK (Y.vS 3) Y.int) (Y.vS 1)))))))),?_⟩
 have fin:∀ v n c:Int,Qt (.tr (.int (v % k))) [.lst [.int n,.int fl,.int c,.int m]]:=fun v n c=>q _ _ ⟨_,_,_,_,rfl⟩ (Int.emod_nonneg _ (by lia)) (Int.emod_lt_of_pos _ k0)
 have x0:jT 4 0=some 0:=by decide
 have x2:jT 4 2=some 2:=by decide
 refine av fun N hN=>?_;wp_walk using x2;refine hN _ ?_;clear hN N;refine av fun N hN=>?_;wp_walk using x0;by_cases h1:fl=1
 ·by_cases h2:0<n
  ·wp_walk using Ja h1,Ja h2;refine av fun M hM=>?_;walk_at "rt";refine⟨k0,?_⟩;refine hM _ ?_;clear hM M;refine av fun M hM=>?_;wp_walk using x0;refine⟨⟨k0,by lia⟩,?_⟩
   refine hM _ ?_;clear hM M;walk_at "rt";exact fin _ _ _
  ·wp_walk using Ja h1,IY h2;refine hN _ ?_;clear hN N;have m1:∀ a:Int,0<=a % 2147483647/\a % 2147483647<2147483647:=fun a=>⟨by lia,by lia⟩
   refine av fun N hN=>?_;walk_at "rt";refine⟨.inl (by decide),.inr (by decide),by decide,?_⟩
   refine hN _ ?_;clear hN N;refine av fun N hN=>?_;walk_at "rt";refine⟨.inl ⟨by have:=m1 ((m+7127*(c+1)+17)*48271);lia,by have:=m1 ((m+7127*(c+1)+17)*48271);lia⟩,by decide,.inr (by decide),by decide,?_⟩
   refine hN _ ?_;clear hN N;walk_at "rt";exact⟨⟨by decide,by decide⟩,k0,fin _ _ _⟩
 ·wp_walk using IY h1;refine hN _ ?_;clear hN N;have m1:∀ a:Int,0<=a % 2147483647/\a % 2147483647<2147483647:=fun a=>⟨by lia,by lia⟩
  refine av fun N hN=>?_;walk_at "rt";refine⟨.inl (by decide),.inr (by decide),by decide,?_⟩
  refine hN _ ?_;clear hN N;refine av fun N hN=>?_;walk_at "rt";refine⟨.inl ⟨by have:=m1 ((m+7127*(c+1)+17)*48271);lia,by have:=m1 ((m+7127*(c+1)+17)*48271);lia⟩,by decide,.inr (by decide),by decide,?_⟩
  refine hN _ ?_;clear hN N;walk_at "rt";exact⟨⟨by decide,by decide⟩,k0,fin _ _ _⟩
def nI:List Int->List L2.T:=List.map L2.T.int
theorem aB(xs:List Int):(nI xs).length=xs.length:=IW ..
theorem e8(xs ys:List Int):nI (xs++ys)=nI xs++nI ys:=Jn
theorem qN(xs:List Int)(a b:Option Int):Y.bJ (nI xs) a b=nI (Y.bJ xs a b):=by
 unfold Y.bJ nI;rw[IW,LA,Mb]
def yD(ls:List Int):Prop:=0<ls.length/\ls.length<=20/\∀ x∈ls,0<=x/\x<=40
def KS(ls:List Int):Nat:=Kr.ks 40 (ls.map Int.toNat)
def lL(ls:List Int):Bool:=decide (KS ls<=2^40)
def A1:fA:=fun args Q=>∃ c:Int,args=[.int c]/\∀ s,dF s->Q (.fr s) []
theorem Ay(T:Txt K mg)(F:HasFn K mg "_law_seed" bG ["cell"]):ah P w K mg base cF 1 "_law_seed" ["cell"] (spT K [false] A1):=by
 refine F.mD fX [false] rfl (by decide) (fun args Qt hl h f cdv A outer s H E hr=>?_)
 have hu:=cg hr;obtain⟨c,rfl,q⟩:=h;refine⟨_,(Y.ae (Y.set (i:=1) fX.nd rfl (by walk_at "lc") (Y.cb (cW rfl) Y.gC rfl T.iO (by decide +kernel) (Y.cons (Y.vS 0) (Y.cons (Y.op cJ Y.bM Y.int (Y.vS 0)) Y.nil))))
   (Y.aQ (Y.ret (Y.lst (Y.cons (Y.vS 1) (Y.cons (Y.ct sA Y.BI rfl T.Eg (by decide +kernel) (Y.cons (Y.cmp AH Y.d8 (Y.vS 1) (Y.op dW Y.bK Y.int Y.int)) Y.nil)) (Y.cons Y.int (Y.cons (Y.op gn Y.bK (Y.vS 0) Y.int) Y.nil)))))))),?_⟩
 refine av fun N hN=>?_;walk_at "rt";refine hN _ ?_;clear hN N;walk_at "rt";exact⟨⟨by decide,by decide,by decide⟩,by decide,by decide,q _ ⟨_,_,_,_,rfl⟩⟩
def vG:fA:=fun args Q=>∃(ns:List Int) (m:Nat),args=[.dM (nI ns),.int (m:Int)]/\m<=20/\∀ ms,Q (.fr (.lst (nI ms))) []
theorem xr(T:Txt K mg)(F:HasFn K mg "_law_cells" bz ["script","many"]):ah P w K mg base cF 1 "_law_cells" ["script","many"] (spT K [false,false] vG):=by
 refine F.mD jL [false,false] rfl (by decide) (fun args Qt hl h f cdv A outer s H E hr=>?_)
 have hu:=cg hr;obtain⟨ns,m,rfl,hm,q⟩:=h;refine⟨_,(Y.aQ (Y.ret (Y.op (Y.ak K rfl) Y.aj (Y.cz K rfl (Y.vS 0) Y.kN (Y.kA (Y.vS 1))) (Y.lst (Y.cons (Y.cb (Y.ar K rfl) Y.aC rfl T.bw (by decide +kernel) (Y.cons (Y.vS 0) Y.nil)) Y.nil))))),?_⟩
 have e0:∀ n:Int,nI (Y.bJ ns none (some (m:Int)))++[L2.T.int n]=nI (Y.bJ ns none (some (m:Int))++[n]):=fun n=>by rw[e8];rfl
 have e1:(Y.bJ ns none (some (m:Int))).length<=20:=by
  unfold Y.bJ;rw[HT.cQ,HT.d3,JO];lia
 wp_walk using qN,aB,e0;refine⟨by decide,?_,q _⟩
 exact Jj (show _<=100 by lia) (by decide)
def Ek:fA:=fun args Q=>∃ ls:List Int,args=[.tup (nI ls)]/\yD ls/\Q (.tr (.bl (lL ls))) []
def vt:fA:=fun args Q=>∃(c:L2.T) (ls:List Int),args=[c]/\(c=.tup (nI ls)\/c=.lst (nI ls))/\yD ls/\Q (.tr (.bl (lL ls))) []
theorem xQ(T:Txt K mg)(F:HasFn K mg "can_be" cR ["lengths"]):ah P w K mg base cF 1 "can_be" ["lengths"] (spT K [false] vt):=by
 refine F.mD cH [false] rfl (by decide) (fun args Qt hl h f cdv A outer s H E hr=>?_)
 have hu:=cg hr;obtain⟨c,ls,rfl,hc,hL,q⟩:=h;have hlen:pC c=Ou.ok (.tr (.int (ls.length:Int))):=by rcases hc with rfl|rfl<;>(rw[<- aB ls];rfl)
 have hsrt:∀(μ:Mu) (Q:R->Mu->Prop),Y.vX c μ Q=(∃ ns:List Int,nI ls=ns.map L2.T.int/\ns.length<64/\∀ ns':List Int,ns'.Perm ns->ns'.Pairwise (·<=·)->Q (.fr (.lst (ns'.map L2.T.int))) μ):=fun μ Q=>by rcases hc with rfl|rfl<;>rfl
 refine⟨_,(Y.ae (Y.set (i:=1) cH.nd rfl (by walk_at "lc") Y.int)
   (Y.ae (Y.set (i:=2) cH.nd rfl (by walk_at "lc") Y.int)
   (Y.ae (Y.set (i:=3) cH.nd rfl (by walk_at "lc") (Y.cb (Y.ar K rfl) Y.aC rfl T.bw (by decide +kernel) (Y.cons (Y.vS 0) Y.nil)))
   (Y.ae (Y.eY JJ rfl (Y.anyS K rfl (Y.cb (Y.pL K rfl) Y.wO rfl T.eF (by decide +kernel) (Y.cons (Y.vS 0) Y.nil))) (Y.aP (i:=4) cH.nd rfl (by walk_at "lc")) (Y.ae (Y.gZ (Y.cx (Y.cy K rfl (Jt hu)) Y.di (Y.vS 1) Y.int) (Y.aQ (Y.ret Y.bl)) Y.dm)
   (Y.ae (Y.gw JJ (Y.tw (Y.mQ (Y.cx kx Y.d8 (Y.vS 2) (Y.vS 4)) (Y.kB (Y.cx kx Y.d8 (Y.vS 1) (Y.vS 3))))) (Y.ae (Y.set (i:=1) cH.nd rfl (by walk_at "lc") (Y.op (Y.bN K rfl) Y.bO (Y.vS 1) Y.int))
   (Y.aQ (Y.set (i:=2) cH.nd rfl (by walk_at "lc") (Y.op (Y.ak K rfl) Y.aj (Y.vS 2) Y.int)))))
   (Y.ae (Y.gZ (Y.cx AH Y.d8 (Y.vS 1) (Y.vS 3)) (Y.aQ (Y.ret Y.bl)) Y.dm)
   (Y.ae (Y.set (i:=1) cH.nd rfl (by walk_at "lc") (Y.op cJ Y.bM (Y.vS 1) Y.int))
   (Y.aQ (Y.set (i:=3) cH.nd rfl (by walk_at "lc") (Y.op cJ Y.bM (Y.vS 3) Y.int))))))))
   (Y.aQ (Y.ret Y.bl)))))),?_⟩
 refine av fun N hN=>?_;walk_at "rt";refine hN _ ?_;clear hN N;refine av fun N hN=>?_;walk_at "rt";refine hN _ ?_;clear hN N;refine av fun N hN=>?_;wp_walk using hlen;refine hN _ ?_;clear hN N;refine av fun N hN=>?_;wp_walk using hsrt;refine⟨ls,rfl,by have:=hL.2.1;lia,fun rs hp hs=>?_⟩
 refine cM (fun rest μ=>∃(r:List Int) (f d n:Int) (s4:Option L2.T),rest=nI r/\r.Pairwise (·<=·)/\(∀ x∈r,0<=x/\x<=40/\d<=x)/\0<=f/\0<=d/\n=r.length/\(lL ls=true ↔ Kr.fit (r.map Int.toNat) f.toNat d.toNat 40)/\μ=[.tr c,.tr (.int f),.tr (.int d),.tr (.int n),sl s4])
  ⟨rs,1,0,_,none,rfl,hs,fun x hx=>by have:=hL.2.2 x (hp.mem_iff.mp hx);lia,by decide,by decide,by rw[hp.length_eq],?_,rfl⟩ ?_ ?_
 ·unfold lL KS Kr.fit;rw[decide_eq_true_eq,Kr.rK (hp.map Int.toNat),show (1:Int).toNat*2^(40-(0:Int).toNat)=2^40 from rfl]
 ·rintro μ ⟨r,f,d,n,s4,e,_,_,_,_,_,hi,rfl⟩
  cases r with
  |cons=>cases e
  |nil =>
   show N _;refine hN _ ?_;clear hN N;walk_at "rt";have:lL ls=true:=hi.mpr (JC _);rw[this] at q;exact q
 ·rintro t ts μ M ⟨r,f,d,n,s4,e,hs,hx,f0,d0,hn,hi,rfl⟩ k
  cases r with
  |nil=>cases e
  |cons l r =>
   cases e;obtain⟨hl1,hl2,hl3⟩:=hx l (by simp)
   have hle:∀ x∈r,l<=x:=(JY.mp hs).1;walk_at "rt";refine av fun M' hM=>?_;by_cases hf:f=0
   ·wp_walk using Ja hf;have:lL ls=false:=by
     cases c:lL ls with
     |false=>rfl
     |true=>have:=hi.mp c;rw[hf] at this;exact absurd this Kr.uT
    rw[this] at q;exact q
   ·wp_walk using IY hf;refine hM _ ?_;clear hM M';refine av fun M' hM=>?_;have after:∀ f d:Int,0<f->0<=d->d<=l->(d=l\/n<=f)->(lL ls=true ↔ Kr.fit ((l::r).map Int.toNat) f.toNat d.toNat 40)->M' [.tr c,.tr (.int f),.tr (.int d),.tr (.int n),.tr (.int l)]:=fun f d f0 d0 dl hc hi=>by
     refine hM _ ?_;clear hM M';refine av fun M' hM=>?_;by_cases h3:n<=f
     ·wp_walk using Ja h3;have:lL ls=true:=hi.mpr (Kr.pd (fun x hx=>by
       obtain⟨y,hy,rfl⟩:=JM.mp hx;rcases Jg.mp hy with rfl|hy
       ·lia
       ·have:=hle y hy;lia) (by rw[IW];lia))
      rw[this] at q;exact q
     ·wp_walk using IY h3;refine hM _ ?_;clear hM M';refine av fun M' hM=>?_;walk_at "rt";refine hM _ ?_;clear hM M';walk_at "rt";have hd:d=l:=hc.resolve_right h3;subst hd;refine k _ ⟨r,f-1,d,n-1,some _,rfl,(JY.mp hs).2,fun x hx'=>⟨(hx x (by simp[hx'])).1,(hx x (by simp[hx'])).2.1,hle x hx'⟩,by lia,d0,by rw[hn,Jf];lia,?_,rfl⟩
      rw[hi,Jm,Kr.uZ (by lia),show (f-1).toNat=f.toNat-1 by lia]
    refine⟨fun m μ=>∃ f d:Int,0<f/\0<=d/\d<=l/\m=(l-d).toNat/\(lL ls=true ↔ Kr.fit ((l::r).map Int.toNat) f.toNat d.toNat 40)/\μ=[.tr c,.tr (.int f),.tr (.int d),.tr (.int n),.tr (.int l)],⟨_,f,d,by lia,d0,hl3,rfl,hi,rfl⟩,?_⟩
    rintro m μ ⟨f,d,f0,d0,dl,rfl,hi,rfl⟩;by_cases c1:d<l
    ·by_cases c2:f<n
     ·wp_walk using Ja c1,Ja c2;refine av fun M2 h2=>?_;walk_at "rt";refine⟨.inr (by decide),?_⟩
      refine h2 _ ?_;clear h2 M2;walk_at "rt";refine⟨_,?_,f*2,d+1,by lia,by lia,by lia,rfl,?_,rfl⟩
      ·lia
      ·rw[hi,Kr.pV (l:=l.toNat) (by lia) (by lia),show (f*2).toNat=f.toNat*2 by lia,show (d+1).toNat=d.toNat+1 by lia]
       exact Iff.rfl
     ·wp_walk using Ja c1,IY c2;exact after f d f0 d0 dl (.inr (by lia)) hi
    ·wp_walk using IY c1;exact after f d f0 d0 dl (.inl (by lia)) hi
theorem yQ(T:Txt K mg)(F:HasFn K mg "_law_fits" bE ["lengths"]):ah P w K mg base cF 1 "_law_fits" ["lengths"] (spT K [false] Ek):=by
 refine F.mD bZ [false] rfl (by decide) (fun args Qt hl h f cdv A outer s H E hr=>?_)
 have hu:=cg hr;obtain⟨ls,rfl,hL,q⟩:=h;refine⟨_,(Y.ae (Y.set (i:=1) bZ.nd rfl (by walk_at "lc") Y.int)
   (Y.ae (Y.set (i:=2) bZ.nd rfl (by walk_at "lc") (Y.cb (Y.sy K rfl rfl) Y.zR rfl T.iO (by decide +kernel) (Y.cons (Y.vS 0) Y.nil)))
   (Y.ae (Y.eY JJ rfl (Y.anyS K rfl (Y.FO rfl T.eF (Y.cons (Y.vS 0) Y.nil))) (Y.aP (i:=3) bZ.nd rfl (by walk_at "lc")) (Y.ae (Y.set (i:=4) bZ.nd rfl (by walk_at "lc") (Y.cb (eW rfl) Y.lV rfl T.sg (by decide +kernel) (Y.cons (Y.op cJ Y.bM (Y.vS 2) (Y.vS 3)) (Y.cons Y.int Y.nil))))
   (Y.ae (Y.set (i:=1) bZ.nd rfl (by walk_at "lc") (Y.op cJ Y.bM Y.int (Y.op BL Y.bK (Y.op cJ Y.bM Y.int (Y.vS 1)) (Y.vS 4))))
   (Y.aQ (Y.set (i:=2) bZ.nd rfl (by walk_at "lc") (Y.vS 3))))))
   (Y.aQ (Y.ret (Y.cmp rF Y.d8 (Y.vS 1) (Y.op xj Y.bK Y.int (Y.cb (eW rfl) Y.lV rfl T.sg (by decide +kernel) (Y.cons (Y.vS 2) (Y.cons Y.int Y.nil)))))))))),?_⟩
 refine av fun N hN=>?_;walk_at "rt";refine hN _ ?_;clear hN N;refine av fun N hN=>?_;walk_at "rt";refine⟨ls,rfl,hL.1,fun M hM hMx=>?_⟩;refine hN _ ?_;clear hN N;refine av fun N hN=>?_;walk_at "rt";refine⟨ls,rfl,by have:=hL.2.1;lia,fun rs hp hs=>?_⟩
 refine cM (fun rest μ=>∃(r dn:List Int) (nd la:Int) (s3 s4:Option L2.T),rest=nI r/\r.Pairwise (· >= ·)/\(∀ x∈r,0<=x/\x<=la)/\0<=la/\la<=40/\(dn++r).Perm ls/\Kr.Ad 40 (dn.map Int.toNat) nd la/\μ=[.tr (.tup (nI ls)),.tr (.int nd),.tr (.int la),sl s3,sl s4])
  ⟨rs,[],0,M,none,none,rfl,hs,fun x hx=>⟨(hL.2.2 x (hp.mem_iff.mp hx)).1,hMx x (hp.mem_iff.mp hx)⟩,(hL.2.2 M hM).1,(hL.2.2 M hM).2,hp,⟨by decide,by have:=(hL.2.2 M hM).1;lia,fun m=>⟨fun _=>JC _,fun _=>by lia⟩⟩,rfl⟩ ?_ ?_
 ·rintro μ ⟨r,dn,nd,la,s3,s4,e,_,_,la1,la2,hperm,hN2,rfl⟩
  cases r with
  |cons=>cases e
  |nil =>
   show N _;refine hN _ ?_;clear hN N;have e1:¬ (40:Int)<la:=by lia
   wp_walk using IY e1;refine⟨⟨by lia,by lia,by decide⟩,?_⟩
   have:decide (nd<=1*2^la.toNat)=lL ls:=by
    unfold lL KS;rw[J7] at hperm;rw[<- Kr.rK (hperm.map Int.toNat)];refine Kj.mpr ?_;have h:=hN2.2.2 (2^la.toNat);rw[<- MC,show la.toNat+(40-la.toNat)=40 by lia,N6] at h
    rw[Int.one_mul];exact h
   rw[<- this] at q;exact q
 ·rintro t ts μ M' ⟨r,dn,nd,la,s3,s4,e,hs,hx,la1,la2,hperm,hN2,rfl⟩ k
  cases r with
  |nil=>cases e
  |cons l r =>
   cases e;obtain⟨hl1,hl2⟩:=hx l (by simp)
   have hle:∀ x∈r,x<=l:=(JY.mp hs).1;have e1:¬ (40:Int)<la-l:=by lia
   walk_at "rt";refine av fun M2 h2=>?_;wp_walk using IY e1;refine h2 _ ?_;clear h2 M2;refine av fun M2 h2=>?_;walk_at "rt";refine⟨by lia,?_⟩
   refine h2 _ ?_;clear h2 M2;walk_at "rt";refine k _ ⟨r,dn++[l],_,l,some _,some _,rfl,(JY.mp hs).2,fun x hx'=>⟨(hx x (by simp[hx'])).1,hle x hx'⟩,hl1,by lia,by simpa using hperm,?_,rfl⟩
   rw[Jn];exact hN2.step (by lia) hl2 (by lia)
theorem v7(xs:List Int)(n:Nat):Y.bJ (nI xs) none (some (n:Int))=nI (xs.take n):=by
 unfold Y.bJ;rw[HT.cQ,HT.d3,Ms,Lc];unfold nI;rw[IW,<- LA];congr 1;rw[Mk];lia
theorem w6(xs:List Int)(n:Nat):Y.bJ (nI xs) (some (n:Int)) none=nI (xs.drop n):=by
 unfold Y.bJ;rw[HT.cQ,HT.d3];unfold nI;rw[IW,<- Mb];rcases KP n xs.length with z|z
 ·rw[LN (by lia)]
  rw[JX (by simp)]
 ·rw[Nat.min_eq_right z,L3,List.take_zero,NL z];rfl
theorem zw{v:Int}(h0:0<=v)(h1:v<6):∃ d:Int,(0<d/\d<4611686018427387904)/\cc [L2.T.int 1,.int 1000,.int 1000000,.int 1000000000,.int 100000000000,.int 1000000000000] v=some (.int d):=by
 have:v=0\/v=1\/v=2\/v=3\/v=4\/v=5:=by lia
 rcases this with rfl|rfl|rfl|rfl|rfl|rfl
 ·exact⟨1,⟨by decide,by decide⟩,rfl⟩
 ·exact⟨1000,⟨by decide,by decide⟩,rfl⟩
 ·exact⟨1000000,⟨by decide,by decide⟩,rfl⟩
 ·exact⟨1000000000,⟨by decide,by decide⟩,rfl⟩
 ·exact⟨100000000000,⟨by decide,by decide⟩,rfl⟩
 ·exact⟨1000000000000,⟨by decide,by decide⟩,rfl⟩
theorem fN(v:Int):∀ n:Nat,(List.replicate n [L2.T.int v]).flatten=nI (List.replicate n v)
 |0=>rfl
 |n+1=>by rw[JI,JQ,fN v n,JI];rfl
theorem uU:∀{l:List Int},(∀ x∈l,0<=x)->0<=l.sum
 |[],_=>NI _
 |x::l,h=>by
  rw[List.sum_cons];exact Int.add_nonneg (h x Jl) (uU fun y hy=>h y (Jk _ hy))
theorem Cc{fs:List Int}(h:∀ x∈fs,0<=x):0<=(Y.bJ (0::1::fs) (some (-2)) none).sum:=uU fun x hx=>by
 have hx:x∈(0::1::fs:List Int):=by
  unfold Y.bJ at hx;exact List.mem_of_mem_drop (Mx hx)
 rcases Jg.mp hx with e|hx
 ·lia
 ·rcases Jg.mp hx with e|hx
  ·lia
  ·exact h x hx
theorem BO{n d:Int}(h:0<=n)(hd:0<d):0<=n / d:=Int.ediv_nonneg h (Int.le_of_lt hd)
def qM:fA:=fun args Q=>∃(s:L2.T) (n:Nat),args=[s,.int (n:Int)]/\dF s/\0<n/\n<=20/\∀(cs:List Int) (s':L2.T),dF s'->cs.length=n->(∀ x∈cs,0<=x)->Q (.tr (.tup (nI cs))) [s']
theorem tJ(T:Txt K mg)(F:HasFn K mg "_law_counts" aU ["seed","many"])(h_law_draw:ah P w K mg base cF 1 "_law_draw" ["seed","most"] (spT K [true,false] kG)):ah P w K mg base cF 2 "_law_counts" ["seed","many"] (spT K [true,false] qM):=by
 refine F.mD aX [true,false] rfl (by decide) (fun args Qt hl h f cdv A outer s H E hr=>?_)
 have hu:=cg hr;obtain⟨sd,n,rfl,hs,n0,n1,q⟩:=h;refine⟨_,(Y.ae (Y.set (i:=2) aX.nd rfl (by walk_at "lc") (Y.fn K rfl h_law_draw (hr.mono (by decide)) rfl aH (Y.cons (Y.vS 0) (Y.cons Y.int Y.nil))))
   (Y.ae (Y.gZ (Y.cx (Y.cy K rfl (Jt hu)) Y.di (Y.vS 2) Y.int) (Y.aQ (Y.ret (Y.ct (Y.cw K rfl) Y.cK rfl T.c_ (by decide +kernel) (Y.cons (Y.op (Y.bN K rfl) Y.bO (Y.lst (Y.cons (Y.fn K rfl h_law_draw (hr.mono (by decide)) rfl aH (Y.cons (Y.vS 0) (Y.cons Y.int Y.nil))) Y.nil)) (Y.vS 1)) Y.nil)))) Y.dm)
   (Y.ae (Y.gZ (Y.cx (Y.cy K rfl (Jt hu)) Y.di (Y.vS 2) Y.int) (Y.aQ (Y.ret (Y.ct (Y.cw K rfl) Y.cK rfl T.c_ (by decide +kernel) (Y.cons (Y.kZ (osc:=aa aU) (ON:=["seed","many","way","found","k","number","start"]) (own:=["k"]) (N:=["k","seed","many","way","found",".k","number","start"]) ⟨rfl,by decide +kernel,rfl,by decide +kernel,by decide +kernel,by decide +kernel,by decide +kernel,by decide +kernel⟩ rfl rfl rfl rfl (Y.pA rfl T.d_ (Y.cons (Y.vS 1) Y.nil)) (fun _ _ _ _=>(Z.aP (i:=0) (show List.Nodup (["k","seed","many","way","found",".k","number","start"]:List Str) by decide +kernel) rfl (by walk_at "lc"))) (fun _ _ _ _=>Y.tG) (fun _ _ _ _=>(Y.fn K rfl h_law_draw (hr.mono (by decide)) rfl aH (Y.cons (Y.vS 1) (Y.cons Y.int Y.nil))))) Y.nil)))) Y.dm)
   (Y.ae (Y.set (i:=3) aX.nd rfl (by walk_at "lc") (Y.lst Y.nil))
   (Y.ae (Y.eY JJ rfl (Y.pA rfl T.d_ (Y.cons (Y.vS 1) Y.nil)) (Y.aP (i:=4) aX.nd rfl (by walk_at "lc")) (Y.ae (Y.set (i:=5) aX.nd rfl (by walk_at "lc") (Y.op (Y.ak K rfl) Y.aj (Y.op (Y.bN K rfl) Y.bO (Y.fn K rfl h_law_draw (hr.mono (by decide)) rfl aH (Y.cons (Y.vS 0) (Y.cons (Y.op dW Y.bK Y.int Y.int) Y.nil))) (Y.op dW Y.bK Y.int Y.int)) (Y.fn K rfl h_law_draw (hr.mono (by decide)) rfl aH (Y.cons (Y.vS 0) (Y.cons (Y.op dW Y.bK Y.int Y.int) Y.nil)))))
   (Y.ae (Y.gZ (Y.cx (Y.cy K rfl (Jt hu)) Y.di (Y.vS 2) Y.int) (Y.aQ (Y.set (i:=5) aX.nd rfl (by walk_at "lc") (Y.op xj Y.bK Y.int (Y.vS 4)))) Y.dm)
   (Y.ae (Y.gZ (Y.cx (Y.cy K rfl (Jt hu)) Y.di (Y.vS 2) Y.int) (Y.aQ (Y.set (i:=5) aX.nd rfl (by walk_at "lc") (Y.op (Y.ak K rfl) Y.aj (Y.cb (Y.kI K rfl rfl) Y.wL rfl T.A5 (by decide +kernel) (Y.cons (Y.cz K rfl (Y.op (Y.ak K rfl) Y.aj (Y.lst (Y.iz rfl rfl)) (Y.vS 3)) (Y.kA (Y.neg Y.int)) Y.kN) Y.nil)) (Y.fn K rfl h_law_draw (hr.mono (by decide)) rfl aH (Y.cons (Y.vS 0) (Y.cons Y.int Y.nil)))))) Y.dm)
   (Y.ae (Y.gZ (Y.cx (Y.cy K rfl (Jt hu)) Y.di (Y.vS 2) Y.int) (Y.aQ (Y.set (i:=5) aX.nd rfl (by walk_at "lc") (Y.op Y.jq Y.bK (Y.vS 5) (Y.ix (Y.a_ K rfl) Y.aq (Y.lst (Y.cons Y.int (Y.cons (Y.op dW Y.bK Y.int Y.int) (Y.cons (Y.op dW Y.bK Y.int Y.int) (Y.cons (Y.op dW Y.bK Y.int Y.int) (Y.cons (Y.op dW Y.bK Y.int Y.int) (Y.cons (Y.op dW Y.bK Y.int Y.int) Y.nil))))))) (Y.fn K rfl h_law_draw (hr.mono (by decide)) rfl aH (Y.cons (Y.vS 0) (Y.cons Y.int Y.nil))))))) Y.dm)
   (Y.aQ (Y.expr (Y.bm K rfl PySem.F.slot_list_append PySem.F.type_list_append bC Y.bQ (Y.vS 3) (Y.cons (Y.vS 5) Y.nil)))))))))
   (Y.ae (Y.set (i:=6) aX.nd rfl (by walk_at "lc") (Y.fn K rfl h_law_draw (hr.mono (by decide)) rfl aH (Y.cons (Y.vS 0) (Y.cons (Y.vS 1) Y.nil))))
   (Y.aQ (Y.ret (Y.ct (Y.cw K rfl) Y.cK rfl T.c_ (by decide +kernel) (Y.cons (Y.op (Y.ak K rfl) Y.aj (Y.cz K rfl (Y.vS 3) (Y.kA (Y.vS 6)) Y.kN) (Y.cz K rfl (Y.vS 3) Y.kN (Y.kA (Y.vS 6)))) Y.nil)))))))))),?_⟩
 refine av fun N hN=>?_;walk_at "rt";refine⟨sd,6,rfl,hs,by decide,by decide,fun way s1 hs1 w0 w1=>?_⟩
 walk_at "rt";refine hN _ ?_;clear hN N;refine av fun N hN=>?_;by_cases a0:way=0
 ·wp_walk using Ja a0;refine⟨s1,3,rfl,hs1,by decide,by decide,fun v s2 hs2 v0 _=>?_⟩
  wp_walk using J8,fN;exact⟨by decide,by lia,by lia,Jj (show _<=60 by lia) (by decide),q _ _ hs2 (JH ..) (fun x hx=>by rw[Nx hx];exact v0)⟩
 ·wp_walk using IY a0;refine hN _ ?_;clear hN N;refine av fun N hN=>?_;by_cases a1:way=1
  ·wp_walk using Ja a1;refine⟨by lia,by lia,?_⟩
   refine cO (fun rest acc μ=>∃(i:Nat) (ss:List Int) (s4:L2.T),rest.length=n-i/\i<=n/\acc=nI ss/\ss.length=i/\(∀ x∈ss,0<=x)/\dF s4/\μ=[.pb s4,.tr (.int (n:Int)),.tr (.int way),.un,.un,.un,.un]) ⟨0,[],s1,by simp,JC _,rfl,rfl,(fun x hx=>by cases hx),hs1,rfl⟩ ?_ ?_
   ·rintro acc μ ⟨i,ss,s4,e,hi,rfl,hsl,hss,hs4,rfl⟩;have hin:i=n:=by simp at e;lia
    refine⟨trivial,?_⟩;walk_at "rt";exact q _ _ hs4 (by lia) hss
   ·rintro t r acc μ M ⟨i,ss,s4,e,hi,rfl,hsl,hss,hs4,rfl⟩ k;have hi2:i<n:=by simp at e;lia
    refine⟨trivial,by rw[aB,hsl];exact Jo (show i<=60 by lia) (by decide),?_⟩
    walk_at "rt";refine⟨s4,7,rfl,hs4,by decide,by decide,fun v s5 hs5 v0 _=>?_⟩
    walk_at "rt";exact k _ _ ⟨i+1,ss++[v],s5,by simp at e ⊢;lia,hi2,by simp[nI],by simp[hsl],(fun x hx=>(JN.mp hx).elim (hss x) fun h=>by rw[Jh.mp h];exact v0),hs5,rfl⟩
  ·wp_walk using IY a1;refine hN _ ?_;clear hN N;refine av fun N hN=>?_;walk_at "rt";refine hN _ ?_;clear hN N;refine av fun N hN=>?_;walk_at "rt";refine⟨by lia,by lia,?_⟩
   refine cM (fun rest μ=>∃(i:Nat) (fs:List Int) (s5:L2.T) (o4 o5:Option L2.T),rest.length=n-i/\(∀ t∈rest,∃ k:Int,t=.int k/\0<=k/\k<=20)/\i<=n/\fs.length=i/\(∀ x∈fs,0<=x)/\dF s5/\μ=[.pb s5,.tr (.int (n:Int)),.tr (.int way),.bx (.lst (nI fs)),sl o4,sl o5,.un])
    ⟨0,[],s1,none,none,by simp,fun t ht=>?_,JC _,rfl,(fun x hx=>by cases hx),hs1,rfl⟩ ?_ ?_
   ·obtain⟨a,ha,rfl⟩:=JM.mp ht;have:=Km.mp ha;exact⟨_,rfl,by lia,by lia⟩
   ·rintro μ ⟨i,fs,s5,o4,o5,e,_,hi,hfl,hff,hs5,rfl⟩;have hin:i=n:=by simp at e;lia
    show N _;refine hN _ ?_;clear hN N;refine av fun N hN=>?_;walk_at "rt";refine⟨s5,(n:Int),rfl,hs5,by lia,by lia,fun v s6 hs6 v0 v1=>?_⟩
    obtain⟨x,rfl⟩:∃ x:Nat,v=x:=⟨v.toNat,by lia⟩
    walk_at "rt";refine hN _ ?_;clear hN N;wp_walk using v7,w6,aB;refine⟨Jj (show _<=60 by rw[Kq,JO];lia) (by decide),?_⟩
    rw[<- e8];exact q _ _ hs6 (by rw[IX,Kq,JO];lia) (fun x hx=>(JN.mp hx).elim (fun h=>hff x (List.mem_of_mem_drop h)) fun h=>hff x (Mx h))
   ·rintro t ts μ M ⟨i,fs,s5,o4,o5,e,ht,hi,hfl,hff,hs5,rfl⟩ k;obtain⟨kk,rfl,k0,k1⟩:=ht t (by simp)
    have hi2:i<n:=by simp at e;lia
    have hz:(nI fs).length<sizeLine:=by rw[aB];exact Jo (show fs.length<=60 by lia) (by decide)
    walk_at "rt";refine av fun M1 h1=>?_;have r1:∀(num:Int) (s':L2.T),0<=num->dF s'->M1 [.pb s',.tr (.int (n:Int)),.tr (.int way),.bx (.lst (nI fs)),.tr (.int kk),.tr (.int num),.un]:=fun num s' num0 hs'=>by
     refine h1 _ ?_;clear h1 M1;refine av fun M2 h2=>?_;have r2:∀(num:Int) (s':L2.T),0<=num->dF s'->M2 [.pb s',.tr (.int (n:Int)),.tr (.int way),.bx (.lst (nI fs)),.tr (.int kk),.tr (.int num),.un]:=fun num s' num0 hs'=>by
      refine h2 _ ?_;clear h2 M2;refine av fun M3 h3=>?_;have r3:∀(num:Int) (s':L2.T),0<=num->dF s'->M3 [.pb s',.tr (.int (n:Int)),.tr (.int way),.bx (.lst (nI fs)),.tr (.int kk),.tr (.int num),.un]:=fun num s' num0 hs'=>by
       refine h3 _ ?_;clear h3 M3;refine av fun M4 h4=>?_;have r4:∀(num:Int) (s':L2.T),0<=num->dF s'->M4 [.pb s',.tr (.int (n:Int)),.tr (.int way),.bx (.lst (nI fs)),.tr (.int kk),.tr (.int num),.un]:=fun num s' num0 hs'=>by
        refine h4 _ ?_;clear h4 M4;walk_at "rt";exact⟨hz,k _ ⟨i+1,fs++[num],s',some (.int kk),some (.int num),by simp at e ⊢;lia,fun t h=>ht t (by simp[h]),hi2,by simp[hfl],(fun x hx=>(JN.mp hx).elim (hff x) fun h=>by rw[Jh.mp h];exact num0),hs',by simp[nI,sl]⟩⟩
       by_cases a:way=4
       ·wp_walk using Ja a;refine⟨⟨by decide,by decide,by decide⟩,⟨by decide,by decide,by decide⟩,⟨by decide,by decide,by decide⟩,⟨by decide,by decide,by decide⟩,⟨by decide,by decide,by decide⟩,by decide,s',6,rfl,hs',by decide,by decide,fun v s6 hs6 v0 v1=>?_⟩
        obtain⟨d,hd,ed⟩:=zw v0 v1;wp_walk using ed;exact⟨hd,r4 _ _ (BO num0 hd.1) hs6⟩
       ·wp_walk using IY a;exact r4 _ _ num0 hs'
      by_cases a:way=3
      ·wp_walk using Ja a;refine⟨by decide,Jj (show _<=60 by rw[aB];lia) (by decide),Y.bJ (0::1::fs) (some (-2)) none,qN (0::1::fs) _ _,s',2,rfl,hs',by decide,by decide,fun v s6 hs6 v0 _=>?_⟩
       walk_at "rt";exact r3 _ _ (Int.add_nonneg (Cc hff) v0) hs6
      ·wp_walk using IY a;exact r3 _ _ num0 hs'
     by_cases a:way=2
     ·wp_walk using Ja a;exact⟨⟨k0,by lia,by decide⟩,r2 _ _ (by rw[Int.one_mul];exact Int.le_of_lt (Int.pow_pos (by decide))) hs'⟩
     ·wp_walk using IY a;exact r2 _ _ num0 hs'
    walk_at "rt";refine⟨⟨by decide,by decide,by decide⟩,s5,1000000,rfl,hs5,by decide,by decide,fun v s6 hs6 v0 v1=>?_⟩
    walk_at "rt";refine⟨⟨by decide,by decide,by decide⟩,.inr ⟨by decide,by decide⟩,⟨by decide,by decide,by decide⟩,s6,1000000,rfl,hs6,by decide,by decide,fun v2 s7 hs7 w0 _=>?_⟩
    walk_at "rt";exact r1 _ _ (by lia) hs7
def nN(l:List Nat):List L2.T:=l.map fun i:Nat=>L2.T.int (i:Int)
theorem jA(l:List Nat):(nN l).length=l.length:=IW ..
theorem qk(a b:List Nat):nN (a++b)=nN a++nN b:=Jn
def Ab(x:Pm.It):L2.T:=.tup [.int x.1,.lst (nN x.2)]
def iT(X:List Pm.It):List L2.T:=X.map Ab
theorem iQ(X:List Pm.It):(iT X).length=X.length:=IW ..
theorem pF(X Y:List Pm.It):iT (X++Y)=iT X++iT Y:=Jn
theorem ly{β:Type}(f:α->β)(ks:List Int)(l:List α):eZ ks (l.map f)=(eZ ks l).map f:=by
 have e:∀ m:List α,Paired (fun (b:β) (a:α)=>b=f a) (m.map f) m:=fun m=>by
  induction m with
  |nil=>exact .nil
  |cons x m ih=>exact .cons rfl ih
 have h:=i6 (ks:=ks) (e l);generalize eZ ks (l.map f)=u at h;generalize eZ ks l=v at h
 induction h with
 |nil=>rfl
 |cons a b ih=>rw[a,ih];rfl
def vf:vN:=fun args Q _=>∃ X:List Pm.It,args=[.lst (iT X)]/\X.length<64/\Q (.fr (.lst (iT (Pm.GH X)))) []
theorem x_(T:Txt K mg)(F:HasFn K mg "by_worth" bR ["shelf"]):ah P w K mg base (mK P w) 4 "by_worth" ["shelf"] (sS K [false] vf):=by
 obtain⟨c,Pt,htab,hcc⟩:=T.lI.ex;refine F.Cq nr [false] rfl rfl (by decide) (fun args Qt Et hl h f cdv A outer s H E hr hcd=>?_)
 have:=hcc _ _ hcd;subst this;have hu:=cg hr;obtain⟨X,rfl,hX,q⟩:=h;refine⟨_,(Y.kL (Y.Ao (Y.ret (Y.sortI (k:=0) K rfl (by decide) htab rfl rfl rfl rfl rfl T.eF (Y.cons (Y.vS 0) Y.nil) (hr.mono (by decide)) rfl rfl rfl (fun _ _ _ _=>rfl))))),?_⟩
 walk_at "rt";refine⟨X.map fun x=>x.1,?_,by rw[iQ];exact hX,?_⟩
 ·unfold iT;rw[Kh,Kh];rfl
 ·unfold iT;rw[ly];exact q
def dH:List Pm.It->List (Pm.It×Pm.It)
 |a::b::r=>(a,b)::dH r
 |_=>[]
theorem qB:∀ X:List Pm.It,lJ (jJ (iT X)) (jJ ((iT X).drop 1))=(dH X).map fun p=>L2.T.tup [Ab p.1,Ab p.2]
 |[]=>rfl
 |[a]=>rfl
 |[a,b]=>rfl
 |a::b::c::r=>by
  have ih:=qB (c::r);show L2.T.tup [Ab a,Ab b]::lJ (jJ (iT (c::r))) (jJ ((iT (c::r)).drop 1))=_;rw[ih];rfl
theorem wN:∀ X:List Pm.It,Pm.pk X=(dH X).map fun p=>(p.1.1+p.2.1,p.1.2++p.2.2)
 |[]=>by simp[dH,Pm.pk]
 |[a]=>by simp[dH,Pm.pk]
 |a::b::r=>by rw[Pm.pk,dH,Jm,wN r]
theorem u9:∀{X:List Pm.It} {p:Pm.It×Pm.It},p∈dH X->p.1.2.length+p.2.2.length<=(Pm.th X).length
 |[],p,h=>by cases h
 |[a],p,h=>by cases h
 |a::b::r,p,h=>by
  rw[Pm.bY,Pm.bY,IX,IX];rcases Jg.mp h with e|e
  ·rw[e];show a.2.length+b.2.length<=_;lia
  ·have:=u9 e;lia
theorem qT:∀ X:List Pm.It,(dH X).length<=X.length
 |[]=>Jb _
 |[_]=>JC _
 |a::b::r=>by
  have:=qT r;unfold dH;simp only[Jf];lia
def xf:fA:=fun args Q=>∃ X:List Pm.It,args=[.lst (iT X)]/\X.length<=64/\(Pm.th X).length<=1000/\Q (.fr (.lst (iT (Pm.pk X)))) []
theorem vv(T:Txt K mg)(F:HasFn K mg "packs_of" bI ["shelf"]):ah P w K mg base cF 1 "packs_of" ["shelf"] (spT K [false] xf):=by
 refine F.mD nH [false] rfl (by decide) (fun args Qt hl h f cdv A outer s H E hr=>?_)
 have hu:=cg hr;obtain⟨X,rfl,hX,ht,q⟩:=h;refine⟨_,(Y.aQ (Y.ret (Y.u3 K rfl (osc:=aa bI) (ON:=["shelf"]) (own:=["one","other"]) (N:=["one","other","shelf"]) ⟨rfl,by decide +kernel,rfl,by decide +kernel,by decide +kernel,by decide +kernel,by decide +kernel,by decide +kernel⟩ rfl rfl rfl rfl (Y.zip K rfl rfl T.wg (Y.cons (Y.oI K rfl 0 rfl (Y.vS 0)) (Y.cons (Y.oI K rfl 1 rfl (Y.vS 0)) Y.nil))) (fun _ _ _ _=>(Z.nR (n:=2) K rfl rfl (Z.bg (Z.aP (i:=0) (show List.Nodup (["one","other","shelf"]:List Str) by decide +kernel) rfl (by walk_at "lc")) (Z.bg (Z.aP (i:=1) (show List.Nodup (["one","other","shelf"]:List Str) by decide +kernel) rfl (by walk_at "lc")) Z.d9)))) (fun _ _ _ _=>Y.tG) (fun _ _ _ _=>(Y.tup (Y.cons (Y.op (Y.ak K rfl) Y.aj (Y.ix (Y.a_ K rfl) Y.aq (Y.vS 0) Y.int) (Y.ix (Y.a_ K rfl) Y.aq (Y.vS 1) Y.int)) (Y.cons (Y.op (Y.ak K rfl) Y.aj (Y.ix (Y.a_ K rfl) Y.aq (Y.vS 0) Y.int) (Y.ix (Y.a_ K rfl) Y.aq (Y.vS 1) Y.int)) Y.nil))))))),?_⟩
 walk_at "rt";rw[Lc,qB];refine cO (fun rest acc μ=>∃(done todo:List (Pm.It×Pm.It)),done++todo=dH X/\(rest=todo.map fun p=>L2.T.tup [Ab p.1,Ab p.2])/\acc=iT (done.map fun p=>(p.1.1+p.2.1,p.1.2++p.2.2))/\μ=[.tr (.lst (iT X))]) ⟨[],dH X,rfl,rfl,rfl,rfl⟩ ?_ ?_
 ·rintro acc μ ⟨done,todo,e1,e2,rfl,rfl⟩;have e3:todo=[]:=by simpa using e2.symm
  subst e3;rw[J7] at e1;refine⟨trivial,?_⟩;rw[wN,<- e1] at q;exact q
 ·rintro t r acc μ M ⟨done,todo,e1,e2,rfl,rfl⟩ k
  cases todo with
  |nil=>cases e2
  |cons p todo =>
   obtain⟨rfl,rfl⟩:=List.cons.inj e2;have hm:p∈dH X:=by rw[<- e1];simp
   have h1:=u9 hm;have h2:=qT X;rw[<- e1,IX] at h2;refine⟨trivial,by rw[iQ,IW];exact Jo (show _<=64 by lia) (by decide),?_⟩
   obtain⟨⟨w1,t1⟩,w2,t2⟩:=p;unfold Ab;have a0:∀(v:Int) (l:List Nat),cc [L2.T.int v,.lst (nN l)] 0=some (.int v):=fun v l=>rfl;have a1:∀(v:Int) (l:List Nat),cc [L2.T.int v,.lst (nN l)] 1=some (.lst (nN l)):=fun v l=>rfl;wp_walk using a0,a1;refine⟨by rw[jA,jA];exact Jj (show _<=1000 by have:t1.length+t2.length<=_:=h1;lia) (by decide),by decide,k _ _ ⟨done++[((w1,t1),(w2,t2))],todo,by rw[<- e1];simp,rfl,?_,rfl⟩⟩
   rw[Jn,pF,<- qk];rfl
theorem AJ:∀ A:List Pm.It,(Pm.th (Pm.pk A)).length<=(Pm.th A).length
 |[]=>by simp[Pm.pk]
 |[a]=>by simp[Pm.pk,Pm.th]
 |a::b::r=>by
  have:=AJ r;rw[Pm.pk,Pm.bY,Pm.bY,Pm.bY];simp only[IX];lia
theorem ke(c:Nat->Int)(hn:1<=n):∀ d,(Pm.shelf c n d).length<=2*n-1
 |0=>JC _
 |d+1=>by
  have:=ke c hn d;rw[Pm.shelf,(Pm.jn _).length_eq,IX,Pm.pN];unfold Pm.coins;rw[IW,Js];lia
theorem iF(c:Nat->Int)(n:Nat):∀ d,(Pm.th (Pm.shelf c n d)).length<=n*d
 |0=>Jb _
 |d+1=>by
  have h1:=iF c n d;have h2:=AJ (Pm.shelf c n d);rw[Pm.shelf,(Pm.qU (Pm.jn _)).length_eq,Pm.gm,IX,Pm.nM,Js,Nat.mul_succ];lia
def dX(cs:List Int)(i:Nat):Int:=cs.getD i 0
theorem lR(cs:List Int):pairs (nI cs)=(List.range' 0 cs.length).map fun i:Nat=>L2.T.tup [.int (i:Int),.int (dX cs i)]:=by
 unfold pairs;rw[aB,<- Ky];refine LG fun i hi=>?_;have h:=Km.mp hi;unfold nI dX;rw[Jy,IV h,JK,IV h];rfl
theorem pK(c:Nat->Int)(i:Nat):Pm.coins c (i+1)=Pm.coins c i++[(c i,[i])]:=by
 unfold Pm.coins;rw[K0,Jn];rfl
def rQ:vN:=fun args Q _=>∃(cs:List Int) (b:Nat),args=[.tup (nI cs),.int (b:Int)]/\2<=cs.length/\cs.length<=20/\1<=b/\b<=40/\Q (.fr (.lst (nN (Pm.th ((Pm.shelf (dX cs) cs.length b).take (2*cs.length-2)))))) []
theorem uk(T:Txt K mg)(F:HasFn K mg "chosen_things" aK ["counts","bound"])(hby_worth:ah P w K mg base (mK P w) 4 "by_worth" ["shelf"] (sS K [false] vf))(hpacks_of:ah P w K mg base cF 1 "packs_of" ["shelf"] (spT K [false] xf)):
  ah P w K mg base (mK P w) 5 "chosen_things" ["counts","bound"] (sS K [false,false] rQ):=by
 refine F.Io bj [false,false] rfl rfl (by decide) (fun args Qt Et hl h f cdv A outer s H E hr=>?_)
 have hu:=cg hr;obtain⟨cs,b,rfl,hn2,hn,hb1,hb,q⟩:=h;refine⟨_,(Y.eg (Y.Ao (Y.v9 (j:=2) K rfl bj.nd rfl (by walk_at "lc") (osc:=aa aK) (ON:=["counts","bound","coins","shelf","depth","chosen","item"]) (own:=["thing","count"]) (N:=["thing","count","counts","bound","coins","shelf","depth","chosen","item"]) ⟨rfl,by decide +kernel,rfl,by decide +kernel,by decide +kernel,by decide +kernel,by decide +kernel,by decide +kernel⟩ rfl rfl rfl rfl (Y.enum K rfl rfl T.dq (Y.cons (Y.vS 0) Y.nil)) (fun _ _ _ _=>(Z.nR (n:=2) K rfl rfl (Z.bg (Z.aP (i:=0) (show List.Nodup (["thing","count","counts","bound","coins","shelf","depth","chosen","item"]:List Str) by decide +kernel) rfl (by walk_at "lc")) (Z.bg (Z.aP (i:=1) (show List.Nodup (["thing","count","counts","bound","coins","shelf","depth","chosen","item"]:List Str) by decide +kernel) rfl (by walk_at "lc")) Z.d9)))) (fun _ _ _ _=>Y.tG) (fun _ _ _ _=>(Y.tup (Y.cons (Y.vS 1) (Y.cons (Y.lst (Y.cons (Y.vS 0) Y.nil)) Y.nil))))))
   (Y.eg (Y.Bj (i:=3) bj.nd rfl (by walk_at "lc") (Y.Ia K rfl hby_worth (hr.mono (by decide)) rfl rfl (Y.cons (Y.vS 2) Y.nil)))
   (Y.eg (Y.Gg PassesOwn.leaving rfl (Y.CI rfl T.d_ (Y.cons Y.int (Y.cons (Y.vS 1) Y.nil))) (Y.aP (i:=4) bj.nd rfl (by walk_at "lc")) (Y.kL (Y.Bj (i:=3) bj.nd rfl (by walk_at "lc") (Y.Ia K rfl hby_worth (hr.mono (by decide)) rfl rfl (Y.cons (Y.op (Y.ak K rfl) Y.aj (Y.vS 2) (Y.fn K rfl hpacks_of (hr.mono (by decide)) rfl aH (Y.cons (Y.vS 3) Y.nil))) Y.nil)))))
   (Y.eg (Y.Ao (Y.set (i:=5) bj.nd rfl (by walk_at "lc") (Y.lst Y.nil)))
   (Y.eg (Y.Ao (Y.eY PassesOwn.leaving rfl (Y.anyS K rfl (Y.cz K rfl (Y.vS 3) Y.kN (Y.kA (Y.op cJ Y.bM (Y.op (Y.bN K rfl) Y.bO Y.int (Y.cb (Y.ar K rfl) Y.aC rfl T.bw (by decide +kernel) (Y.cons (Y.vS 0) Y.nil))) Y.int)))) (Y.aP (i:=6) bj.nd rfl (by walk_at "lc")) (Y.aQ (Y.expr (Y.bm K rfl PySem.F.slot_list_extend PySem.F.type_list_extend Y.Dw Y.Ci (Y.vS 5) (Y.cons (Y.ix (Y.a_ K rfl) Y.aq (Y.vS 6) Y.int) Y.nil))))))
   (Y.kL (Y.Ao (Y.ret (Y.vS 5))))))))),?_⟩
 refine m5 fun N hN=>?_;walk_at "rt";rw[lR];refine cO (fun rest acc μ=>∃ i:Nat,i<=cs.length/\(rest=(List.range' i (cs.length-i)).map fun i:Nat=>L2.T.tup [.int (i:Int),.int (dX cs i)])/\acc=iT (Pm.coins (dX cs) i)/\μ=[.tr (.tup (nI cs)),.tr (.int (b:Int)),.un,.un,.un,.un,.un]) ⟨0,JC _,rfl,rfl,rfl⟩ ?_ ?_
 ·rintro acc μ ⟨i,hi,e,rfl,rfl⟩;have hi2:i=cs.length:=by
   have:=Jv List.length e;rw[IW,JF,JG] at this;lia
  subst hi2;refine⟨trivial,?_⟩;walk_at "rt";refine hN _ ?_;clear hN N;have e1:Pm.GH (Pm.coins (dX cs) cs.length)=Pm.shelf (dX cs) cs.length 1:=by
   rw[Pm.shelf,Pm.shelf,Pm.pk,J7];simp
  refine m5 fun N hN=>?_;walk_at "rt";have hcl:(Pm.coins (dX cs) cs.length).length=cs.length:=by unfold Pm.coins;rw[IW,Js]
  refine⟨Pm.coins (dX cs) cs.length,rfl,by lia,?_⟩
  walk_at "rt";refine hN _ ?_;clear hN N;rw[e1];clear e1;refine m5 fun N hN=>?_;walk_at "rt";refine⟨by lia,?_⟩
  have eb:((b:Int)-1).toNat=b-1:=by lia
  rw[eb,Ky];refine xN (fun rest μ=>∃(d:Nat) (o:Option L2.T),d<=b-1/\(rest=(List.range' d (b-1-d)).map fun k:Nat=>L2.T.int (1+(k:Int)))/\μ=[.tr (.tup (nI cs)),.tr (.int (b:Int)),.tr (.lst (iT (Pm.coins (dX cs) cs.length))),.tr (.lst (iT (Pm.shelf (dX cs) cs.length (d+1)))),sl o,.un,.un]) ⟨0,none,JC _,rfl,rfl⟩ ?_ ?_
  ·rintro μ ⟨d,o,hd,e,rfl⟩;have hd2:d+1=b:=by
    have:=Jv List.length e;rw[IW,JF,JG] at this;lia
   rw[hd2];show N _;refine hN _ ?_;clear hN N;refine m5 fun N hN=>?_;walk_at "rt";refine hN _ ?_;clear hN N;refine m5 fun N hN=>?_;wp_walk using aB;have ec:((2*(cs.length:Int)-2))=((2*cs.length-2:Nat):Int):=by lia
   have h2:=iF (dX cs) cs.length b;have h3:cs.length*b<=20*40:=M9 hn hb;have et:Y.bJ (iT (Pm.shelf (dX cs) cs.length b)) none (some (2*(cs.length:Int)-2))=iT ((Pm.shelf (dX cs) cs.length b).take (2*cs.length-2)):=by
    rw[ec];unfold Y.bJ iT;rw[HT.cQ,HT.d3,Ms,Lc,IW,<- LA];congr 1;rw[Mk];lia
   rw[et];have ht:(Pm.th ((Pm.shelf (dX cs) cs.length b).take (2*cs.length-2))).length<=800:=by
    have e2:Pm.th (Pm.shelf (dX cs) cs.length b)=Pm.th ((Pm.shelf (dX cs) cs.length b).take (2*cs.length-2))++Pm.th ((Pm.shelf (dX cs) cs.length b).drop (2*cs.length-2)):=by rw[<- Pm.gm,KR]
    rw[e2,IX] at h2;lia
   refine⟨.inl (by decide),?_⟩
   generalize (Pm.shelf (dX cs) cs.length b).take (2*cs.length-2)=Z at ht q ⊢;refine cM (fun rest μ=>∃(done todo:List Pm.It) (o2:Option L2.T),done++todo=Z/\rest=iT todo/\μ=[.tr (.tup (nI cs)),.tr (.int (b:Int)),.tr (.lst (iT (Pm.coins (dX cs) cs.length))),.tr (.lst (iT (Pm.shelf (dX cs) cs.length b))),sl o,.bx (.lst (nN (Pm.th done))),sl o2]) ⟨[],Z,none,rfl,rfl,rfl⟩ ?_ ?_
   ·rintro μ ⟨done,todo,o2,e1,e2,rfl⟩;have e3:todo=[]:=by
     cases todo with
     |nil=>rfl
     |cons=>cases e2
    subst e3;rw[J7] at e1;subst e1;show N _;refine hN _ ?_;clear hN N;walk_at "rt";exact q
   ·rintro t r μ M ⟨done,todo,o2,e1,e2,rfl⟩ k
    cases todo with
    |nil=>cases e2
    |cons x todo =>
     obtain⟨rfl,rfl⟩:=List.cons.inj e2;have a1:∀(v:Int) (l:List Nat),cc [L2.T.int v,.lst (nN l)] 1=some (.lst (nN l)):=fun v l=>rfl;have hz:(Pm.th done).length+x.2.length<=800:=by
      rw[<- e1,Pm.gm,Pm.bY] at ht;simp only[IX] at ht;lia
     unfold Ab;wp_walk using a1;refine⟨by rw[jA,jA];exact Jj hz (by decide),?_⟩
     refine k _ ⟨done++[x],todo,some (.tup [.int x.1,.lst (nN x.2)]),by rw[<- e1];simp,rfl,?_⟩
     rw[Pm.gm,qk];simp only[Pm.th,MZ,List.flatMap_nil,J7];rfl
  ·rintro t r μ M ⟨d,o,hd,e,rfl⟩ k;have hd2:d<b-1:=by
    have:=Jv List.length e;rw[IW,JF,Jf] at this;lia
   rw[show b-1-d=(b-1-(d+1))+1 by lia,Kb,Jm] at e
   obtain⟨rfl,rfl⟩:=List.cons.inj e;clear e;have h1:=ke (dX cs) (n:=cs.length) (by lia) (d+1)
   have h2:=iF (dX cs) cs.length (d+1);have h3:cs.length*(d+1)<=20*40:=M9 hn (by lia)
   walk_at "rt";refine⟨Pm.shelf (dX cs) cs.length (d+1),rfl,by lia,by lia,?_⟩
   walk_at "rt";have h4:=Pm.pN (Pm.shelf (dX cs) cs.length (d+1));refine⟨by rw[iQ,iQ];exact Jj (show _<=100 by lia) (by decide),?_⟩
   rw[<- pF];refine⟨_,rfl,by rw[IX];lia,?_⟩
   walk_at "rt";exact k _ ⟨d+1,some _,hd2,rfl,rfl⟩
 ·rintro t r acc μ M ⟨i,hi,e,rfl,rfl⟩ k;have hi2:i<cs.length:=by
   have:=Jv List.length e;rw[IW,JF,Jf] at this;lia
  rw[show cs.length-i=(cs.length-(i+1))+1 by lia,Kb,Jm] at e
  obtain⟨rfl,rfl⟩:=List.cons.inj e;clear e;have hl:(iT (Pm.coins (dX cs) i)).length=i:=by unfold Pm.coins;rw[iQ,IW,Js]
  refine⟨trivial,by rw[hl];exact Jo (show i<=20 by lia) (by decide),?_⟩
  walk_at "rt";refine⟨by decide,by decide,k _ _ ⟨i+1,hi2,rfl,?_,rfl⟩⟩
  rw[pK,pF];rfl
def dy(cs:List Int)(b:Nat):List Nat:=if cs.length=1 then [1] else (List.range cs.length).map (Pm.CN (dX cs) cs.length (min b (cs.length-1)))
def ng(n:Nat)(b:Int):Bool:=decide (1<=b/\n<=2^b.toNat)
def vE(C:Addr):vN:=fun args Q Et=>∃(cs:List Int) (b:Int),args=[.tup (nI cs),.int b]/\1<=cs.length/\cs.length<=20/\-40<=b/\b<=40/\((ng cs.length b=true/\Q (.tr (.tup (nN (dy cs b.toNat)))) [])\/(ng cs.length b=false/\Et (.exc (.ref C) none)))
theorem wK(L l:Nat):∀ n,Kr.ks L (List.replicate n l)=n*2^(L-l)
 |0=>by simp[Kr.ks]
 |n+1=>by rw[JI,Kr.ks,wK L l n,L1];lia
theorem Dt(hb:b<=40):lL (List.replicate n (b:Int))=decide (n<=2^b):=by
 unfold lL KS;rw[List.map_replicate,J8,wK];refine Kj.mpr ?_;have e:2^40=2^b*2^(40-b):=by rw[<- MC,M0 hb]
 rw[e];exact⟨fun h=>MT h (NJ (by decide)),fun h=>Mz _ h⟩
theorem BJ(l:List Nat)(i:Nat):(l.map fun k:Nat=>(k:Int)).count (i:Int)=l.count i:=by
 induction l with
 |nil=>rfl
 |cons x l ih =>
  rw[Jm,N4,N4,ih];congr 1;by_cases h:x=i
  ·subst h;simp
  ·have:¬ (x:Int)=(i:Int):=by lia
   simp[h,this]
theorem xD(T:Txt K mg)(F:HasFn K mg "least_lengths" aD ["counts","bound"])(hcan_be:ah P w K mg base cF 1 "can_be" ["lengths"] (spT K [false] vt))(hchosen_things:ah P w K mg base (mK P w) 5 "chosen_things" ["counts","bound"] (sS K [false,false] rQ))
  {C_NoCode:Addr} (hC_NoCode:mg "NoCode"=some (.ref C_NoCode)) (kC_NoCode:tE K C_NoCode) :
  ah P w K mg base (mK P w) 6 "least_lengths" ["counts","bound"] (sS K [false,false] (vE C_NoCode)):=by
 refine F.Io cU [false,false] rfl rfl (by decide) (fun args Qt Et hl h f cdv A outer s H E hr=>?_)
 have hu:=cg hr;obtain⟨cs,b,rfl,hn1,hn,hb0,hb,q⟩:=h;refine⟨_,(Y.eg (Y.Ao (Y.set (i:=2) cU.nd rfl (by walk_at "lc") (Y.cb (Y.ar K rfl) Y.aC rfl T.bw (by decide +kernel) (Y.cons (Y.vS 0) Y.nil))))
   (Y.eg (Y.HG (Y.tw (Y.An (Y.cx kx Y.d8 (Y.vS 1) Y.int) (Y.p0 (Y.lu (Y.kM K rfl (Y.fn K rfl hcan_be (hr.mono (by decide)) rfl aH (Y.cons (Y.kZ (osc:=aa aD) (ON:=["counts","bound","things","chosen"]) (own:=["count"]) (N:=["count","counts","bound","things","chosen"]) ⟨rfl,by decide +kernel,rfl,by decide +kernel,by decide +kernel,by decide +kernel,by decide +kernel,by decide +kernel⟩ rfl rfl rfl rfl (Y.anyS K rfl (Y.vS 0)) (fun _ _ _ _=>(Z.aP (i:=0) (show List.Nodup (["count","counts","bound","things","chosen"]:List Str) by decide +kernel) rfl (by walk_at "lc"))) (fun _ _ _ _=>Y.tG) (fun _ _ _ _=>(Y.vS 2))) Y.nil))))))) (Y.kL (Y.Ck rfl hC_NoCode kC_NoCode rfl rfl (Y.cons (Y.Hq (Y.Cn (Y.EH (Y.vS 1) (Y.Cn (Y.EH (Y.vS 2) (Y.Cn Y.Hg)))))) Y.nil))) Y.FA)
   (Y.eg (Y.Ao (Y.gZ (Y.cx (Y.cy K rfl (Jt hu)) Y.di (Y.vS 2) Y.int) (Y.aQ (Y.ret (Y.tup (Y.cons Y.int Y.nil)))) Y.dm))
   (Y.eg (Y.Ic (i:=3) cU.nd rfl (by walk_at "lc") (Y.Ia K rfl hchosen_things (hr.mono (by decide)) rfl rfl (Y.cons (Y.vS 0) (Y.cons (Y.cb (eW rfl) Y.lV rfl T.sg (by decide +kernel) (Y.cons (Y.vS 1) (Y.cons (Y.op cJ Y.bM (Y.vS 2) Y.int) Y.nil))) Y.nil))))
   (Y.kL (Y.Ao (Y.ret (Y.ct (Y.cw K rfl) Y.cK rfl T.c_ (by decide +kernel) (Y.cons (Y.kZ (osc:=aa aD) (ON:=["counts","bound","things","chosen"]) (own:=["thing"]) (N:=["thing","counts","bound","things","chosen"]) ⟨rfl,by decide +kernel,rfl,by decide +kernel,by decide +kernel,by decide +kernel,by decide +kernel,by decide +kernel⟩ rfl rfl rfl rfl (Y.pA rfl T.d_ (Y.cons (Y.vS 2) Y.nil)) (fun _ _ _ _=>(Z.aP (i:=0) (show List.Nodup (["thing","counts","bound","things","chosen"]:List Str) by decide +kernel) rfl (by walk_at "lc"))) (fun _ _ _ _=>Y.tG) (fun _ _ _ _=>(Y.bm K rfl PySem.F.slot_list_count PySem.F.type_list_count Y.Cg Y.BY (Y.vS 4) (Y.cons (Y.vS 0) Y.nil)))) Y.nil))))))))),?_⟩
 refine m5 fun N hN=>?_;wp_walk using aB;refine hN _ ?_;clear hN N;refine m5 fun N hN=>?_;have no:ng cs.length b=false->Et (.exc (.ref C_NoCode) none):=fun h=>by
  rcases q with ⟨z,_⟩|⟨_,z⟩
  ·rw[h] at z;cases z
  ·exact z
 by_cases b1:b<1
 ·wp_walk using Ja b1;refine⟨Jo (show b.natAbs<=40 by lia) (by decide),Jo (show (cs.length:Int).natAbs<=40 by lia) (by decide),fun _ _=>no ?_⟩
  unfold ng;exact Jp fun h=>by lia
 ·obtain⟨b,rfl⟩:∃ k:Nat,b=k:=⟨b.toNat,by lia⟩
  wp_walk using IY b1;refine cO (fun rest acc μ=>rest.length+acc.length=cs.length/\acc=nI (List.replicate acc.length (b:Int))/\μ=[.tr (.tup (nI cs)),.tr (.int (b:Int)),.tr (.int (cs.length:Int)),.un]) ⟨by rw[aB];rfl,rfl,rfl⟩ ?_ ?_
  ·rintro acc μ ⟨e1,e2,rfl⟩;have e3:acc=nI (List.replicate cs.length (b:Int)):=by rw[<- show acc.length=cs.length by simpa using e1];exact e2
   clear e1 e2;subst e3;refine⟨trivial,?_⟩;walk_at "rt";refine⟨_,_,rfl,.inr rfl,⟨by rw[JH];lia,by rw[JH];exact hn,fun x hx=>by have:=Nx hx;lia⟩,?_⟩
   rw[Dt (by lia)]
   have em:ng cs.length (b:Int)=decide (cs.length<=2^b):=by
    unfold ng;rw[J8];exact Kj.mpr ⟨fun h=>h.2,fun h=>⟨by lia,h⟩⟩
   rw[em] at q no
   cases hm:decide (cs.length<=2^b) with
   |false =>
    walk_at "rt";exact⟨Jo (show (b:Int).natAbs<=40 by lia) (by decide),Jo (show (cs.length:Int).natAbs<=40 by lia) (by decide),fun _ _=>no hm⟩
   |true =>
    have q':Qt (.tr (.tup (nN (dy cs b)))) []:=by
     rcases q with ⟨_,z⟩|⟨z,_⟩
     ·exact z
     ·rw[hm] at z;cases z
    clear q no;have hm2:cs.length<=2^b:=KD hm;walk_at "rt";refine hN _ ?_;clear hN N;refine m5 fun N hN=>?_;by_cases h1:cs.length=1
    ·wp_walk using Ja (show (cs.length:Int)=1 by lia)
     refine⟨by decide,?_⟩
     unfold dy at q';rw[Ja h1] at q';exact q'
    ·wp_walk using IY (show ¬ (cs.length:Int)=1 by lia)
     refine hN _ ?_;clear hN N;refine m5 fun N hN=>?_;have eb:(if (cs.length:Int)-1<(b:Int) then (cs.length:Int)-1 else (b:Int))=((min b (cs.length-1):Nat):Int):=by split<;>lia
     wp_walk using eb;refine⟨cs,min b (cs.length-1),rfl,by lia,hn,by lia,by lia,?_⟩
     walk_at "rt";refine hN _ ?_;clear hN N;walk_at "rt";refine⟨by lia,by lia,?_⟩
     rw[J8,Ky];unfold dy at q';rw[IY h1] at q';refine cO (fun rest acc μ=>∃ i:Nat,i<=cs.length/\(rest=(List.range' i (cs.length-i)).map fun k:Nat=>L2.T.int (0+(k:Int)))/\acc=nN ((List.range i).map (Pm.CN (dX cs) cs.length (min b (cs.length-1))))/\μ=[.tr (.tup (nI cs)),.tr (.int (b:Int)),.tr (.int (cs.length:Int)),.bx (.lst (nN (Pm.th ((Pm.shelf (dX cs) cs.length (min b (cs.length-1))).take (2*cs.length-2)))))]) ⟨0,JC _,rfl,rfl,rfl⟩ ?_ ?_
     ·rintro acc μ ⟨i,hi,e,rfl,rfl⟩;have hi2:i=cs.length:=by
       have:=Jv List.length e;rw[IW,JF,JG] at this;lia
      subst hi2;refine⟨trivial,?_⟩;walk_at "rt";exact q'
     ·rintro t r acc μ M ⟨i,hi,e,rfl,rfl⟩ k;have hi2:i<cs.length:=by
       have:=Jv List.length e;rw[IW,JF,Jf] at this;lia
      rw[show cs.length-i=(cs.length-(i+1))+1 by lia,Kb,Jm] at e
      obtain⟨rfl,rfl⟩:=List.cons.inj e;clear e;refine⟨trivial,by rw[jA,IW,Js];exact Jo (show i<=20 by lia) (by decide),?_⟩
      walk_at "rt";refine⟨(Pm.th ((Pm.shelf (dX cs) cs.length (min b (cs.length-1))).take (2*cs.length-2))).map fun k:Nat=>(k:Int),by unfold nN;rw[Kh];rfl,?_⟩
      rw[Od,BJ];refine k _ _ ⟨i+1,hi2,rfl,?_,rfl⟩;rw[K0,Jn,qk];rfl
  ·rintro t r acc μ M ⟨e1,e2,rfl⟩ k;walk_at "rt";rw[Jf] at e1;refine⟨trivial,Jo (show acc.length<=20 by lia) (by decide),k _ _ ⟨by rw[IX];simp;lia,?_,rfl⟩⟩
   rw[IX,Jr,List.replicate_succ',e8,<- e2];rfl
namespace Pm
theorem nS{D:Nat}(h:D<=L):∀{l:List Nat},(∀ x∈l,x<=D)->Kr.ks L l=Kr.ks D l*2^(L-D)
 |[],_=>by simp[Kr.ks]
 |x::l,hx=>by
  have:=hx x Jl;rw[Kr.ks,Kr.ks,nS h fun y hy=>hx y (Jk _ hy),Nat.add_mul,<- MC];congr 2;lia
theorem xb{D:Nat}(h:D<=L){l:List Nat}(hx:∀ x∈l,x<=D):Kr.ks L l<=2^L ↔ Kr.ks D l<=2^D:=by
 rw[nS h hx,show 2^L=2^D*2^(L-D) by rw[<- MC,M0 h]]
 exact⟨fun h=>MT h (NJ (by decide)),fun h=>Mz _ h⟩
theorem two_le_pow:∀ k:Nat,1<=k->2*k<=2^k
 |0,h=>by lia
 |1,_=>by decide
 |k+2,_=>by
  have:=two_le_pow (k+1) (by lia)
  rw[Oc];lia
end Pm
def dot:List Int->List Int->Int
 |c::cs,l::ls=>c*l+dot cs ls
 |_,_=>0
def nZ(l:List Nat):List Int:=l.map fun k:Nat=>(k:Int)
theorem Dm(l:List Nat):(nZ l).length=l.length:=IW ..
theorem E4(l:List Nat):nN l=nI (nZ l):=by unfold nN nZ nI;rw[Kh];rfl
theorem AS:∀ n:Nat,1<=n->n<=2^(n-1)
 |0,h=>by lia
 |1,_=>by decide
 |n+2,_=>by
  have:=AS (n+1) (by lia)
  rw[show n+2-1=(n+1-1)+1 by lia,Oc];lia
def qI:fA:=fun args Q=>∃(c:L2.T) (cs ls:List Int),args=[c,.tup (nI ls)]/\om c=some (nI cs)/\cs.length<=20/\(∀ x∈ls,0<=x/\x<=40)/\Q (.tr (.int (dot cs ls))) []
theorem small(h:0<=x/\x<=40):-(2^64)<x/\x<2^64:=⟨by lia,by lia⟩
theorem uI(T:Txt K mg)(F:HasFn K mg "_law_cost" bH ["counts","lengths"]):ah P w K mg base cF 1 "_law_cost" ["counts","lengths"] (spT K [false,false] qI):=by
 refine F.mD cS [false,false] rfl (by decide) (fun args Qt hl h f cdv A outer s H E hr=>?_)
 have hu:=cg hr;obtain⟨c,cs,ls,rfl,hsq,hcl,hx,q⟩:=h;refine⟨_,(Y.ae (Y.set (i:=2) cS.nd rfl (by walk_at "lc") Y.int)
   (Y.ae (Y.eY JJ rfl (Y.zip K rfl rfl T.wg (Y.cons (Y.vS 0) (Y.cons (Y.vS 1) Y.nil))) (Y.jG (n:=2) K rfl rfl (Y.bg (Y.aP (i:=3) cS.nd rfl (by walk_at "lc")) (Y.bg (Y.aP (i:=4) cS.nd rfl (by walk_at "lc")) Y.d9))) (Y.aQ (Y.set (i:=2) cS.nd rfl (by walk_at "lc") (Y.op (Y.ak K rfl) Y.aj (Y.vS 2) (Y.op (Y.bN K rfl) Y.bO (Y.vS 3) (Y.vS 4))))))
   (Y.aQ (Y.ret (Y.vS 2))))),?_⟩
 refine av fun N hN=>?_;walk_at "rt";refine hN _ ?_;clear hN N;refine av fun N hN=>?_;wp_walk using hsq;refine cM (fun rest μ=>∃(cs' ls':List Int) (v:Int) (s3 s4:Option L2.T),rest=lJ (nI cs') (nI ls')/\(∀ x∈ls',0<=x/\x<=40)/\v+dot cs' ls'=dot cs ls/\μ=[.tr c,.tr (.tup (nI ls)),.tr (.int v),sl s3,sl s4]) ⟨cs,ls,0,none,none,rfl,hx,by lia,rfl⟩ ?_ ?_
 ·rintro μ ⟨cs',ls',v,s3,s4,e,_,ev,rfl⟩;have e0:dot cs' ls'=0:=by
   cases cs' with
   |nil=>rfl
   |cons=>cases ls' with
    |nil=>rfl
    |cons=>cases e
  show N _;refine hN _ ?_;clear hN N;walk_at "rt";rw[e0,Int.add_zero] at ev;rw[ev];exact q
 ·rintro t ts μ M ⟨cs',ls',v,s3,s4,e,hx',ev,rfl⟩ k
  cases cs' with
  |nil=>cases e
  |cons c cs'=>cases ls' with
   |nil=>cases e
   |cons l ls' =>
    cases e;walk_at "rt";refine⟨.inr (small (hx' l (by simp))),k _ ⟨cs',ls',_,some _,some _,rfl,fun x h=>hx' x (by simp[h]),?_,rfl⟩⟩
    rw[<- ev];simp only[dot];lia
abbrev WN:=Int×Nat
def Gw(x:WN):L2.T:=.tup [.int x.1,.int (x.2:Int)]
def wT(X:List WN):List L2.T:=X.map Gw
theorem fH(X:List WN):(wT X).length=X.length:=IW ..
theorem wA(X Y:List WN):wT (X++Y)=wT X++wT Y:=Jn
def ye(X:List WN):List WN:=eZ (X.map fun x=>x.1) X
def rH:vN:=fun args Q _=>∃ X:List WN,args=[.lst (wT X)]/\X.length<64/\Q (.fr (.lst (wT (ye X)))) []
def vY:fA:=fun args Q=>∃ X:List WN,args=[.lst (wT X)]/\X.length<64/\Q (.fr (.lst (wT (ye X)))) []
theorem sx(T:Txt K mg)(F:HasFn K mg "by_weight" bD ["standing"]):ah P w K mg base (mK P w) 4 "by_weight" ["standing"] (sS K [false] rH):=by
 obtain⟨c,Pt,htab,hcc⟩:=T.jW.ex;refine F.Cq lF [false] rfl rfl (by decide) (fun args Qt Et hl h f cdv A outer s H E hr hcd=>?_)
 have:=hcc _ _ hcd;subst this;have hu:=cg hr;obtain⟨X,rfl,hX,q⟩:=h;refine⟨_,(Y.kL (Y.Ao (Y.ret (Y.sortI (k:=0) K rfl (by decide) htab rfl rfl rfl rfl rfl T.eF (Y.cons (Y.vS 0) Y.nil) (hr.mono (by decide)) rfl rfl rfl (fun _ _ _ _=>rfl))))),?_⟩
 walk_at "rt";refine⟨X.map fun x=>x.1,?_,by rw[fH];exact hX,?_⟩
 ·unfold wT;rw[Kh,Kh];rfl
 ·unfold wT;rw[ly];exact q
def hf:Nat->List WN->Nat->List (Nat×Nat)
 |k+1,a::b::r,p=>(a.2,b.2)::hf k (ye (r++[(a.1+b.1,p)])) (p+1)
 |_,_,_=>[]
def zG(cs:List Int)(n:Nat):List WN:=(List.range n).map fun i=>(dX cs i,i)
theorem xu(cs:List Int)(i:Nat):zG cs (i+1)=zG cs i++[(dX cs i,i)]:=by
 unfold zG;rw[K0,Jn];rfl
theorem eK(cs:List Int)(n:Nat):(zG cs n).length=n:=by unfold zG;rw[IW,Js]
theorem eM(X:List WN):(ye X).length=X.length:=ma (by rw[IW])
def eQ(cs:List Int):List (Nat×Nat):=hf cs.length (ye (zG cs cs.length)) cs.length
def pT(p:Nat×Nat):L2.T:=.tup [.int (p.1:Int),.int (p.2:Int)]
def zc(ps:List (Nat×Nat)):List L2.T:=ps.map pT
theorem rX(ps:List (Nat×Nat)):(zc ps).length=ps.length:=IW ..
theorem zm(a b:List (Nat×Nat)):zc (a++b)=zc a++zc b:=Jn
def uR:fA:=fun args Q=>∃ cs:List Int,args=[.tup (nI cs)]/\1<=cs.length/\cs.length<=20/\Q (.tr (.tup (zc (eQ cs)))) []
theorem vD(T:Txt K mg)(F:HasFn K mg "lightest_first" aF ["counts"])(hby:ah P w K mg base (mK P w) 4 "by_weight" ["standing"] (sS K [false] rH)):ah P w K mg base cF 5 "lightest_first" ["counts"] (spT K [false] uR):=by
 have hcalm_by_weight:ah P w K mg base cF 4 "by_weight" ["standing"] (spT K [false] vY):=hby.calm fun args Q h=>h;refine F.mD aY [false] rfl (by decide) (fun args Qt hl h f cdv A outer s H E hr=>?_)
 have hu:=cg hr;obtain⟨cs,rfl,hn1,hn,q⟩:=h;refine⟨_,(Y.ae (Y.set (i:=1) aY.nd rfl (by walk_at "lc") (Y.lst Y.nil))
   (Y.ae (Y.xq (i:=2) aY.nd rfl (by walk_at "lc") (Y.fn K rfl hcalm_by_weight (hr.mono (by decide)) rfl aH (Y.cons (Y.u3 K rfl (osc:=aa aF) (ON:=["counts","paper","standing","one","other","both"]) (own:=["thing","count"]) (N:=["thing","count","counts","paper","standing","one","other","both"]) ⟨rfl,by decide +kernel,rfl,by decide +kernel,by decide +kernel,by decide +kernel,by decide +kernel,by decide +kernel⟩ rfl rfl rfl rfl (Y.enum K rfl rfl T.dq (Y.cons (Y.vS 0) Y.nil)) (fun _ _ _ _=>(Z.nR (n:=2) K rfl rfl (Z.bg (Z.aP (i:=0) (show List.Nodup (["thing","count","counts","paper","standing","one","other","both"]:List Str) by decide +kernel) rfl (by walk_at "lc")) (Z.bg (Z.aP (i:=1) (show List.Nodup (["thing","count","counts","paper","standing","one","other","both"]:List Str) by decide +kernel) rfl (by walk_at "lc")) Z.d9)))) (fun _ _ _ _=>Y.tG) (fun _ _ _ _=>(Y.tup (Y.cons (Y.vS 1) (Y.cons (Y.vS 0) Y.nil))))) Y.nil)))
   (Y.ae (Y.gw JJ (Y.cx qr Y.d8 (Y.cb (Y.ar K rfl) Y.aC rfl T.bw (by decide +kernel) (Y.cons (Y.vS 2) Y.nil)) Y.int) (Y.ae (Y.set (i:=3) aY.nd rfl (by walk_at "lc") (Y.ix (Y.a_ K rfl) Y.aq (Y.vS 2) Y.int))
   (Y.ae (Y.set (i:=4) aY.nd rfl (by walk_at "lc") (Y.ix (Y.a_ K rfl) Y.aq (Y.vS 2) Y.int))
   (Y.ae (Y.set (i:=5) aY.nd rfl (by walk_at "lc") (Y.tup (Y.cons (Y.op (Y.ak K rfl) Y.aj (Y.ix (Y.a_ K rfl) Y.aq (Y.vS 3) Y.int) (Y.ix (Y.a_ K rfl) Y.aq (Y.vS 4) Y.int)) (Y.cons (Y.op (Y.ak K rfl) Y.aj (Y.cb (Y.ar K rfl) Y.aC rfl T.bw (by decide +kernel) (Y.cons (Y.vS 0) Y.nil)) (Y.cb (Y.ar K rfl) Y.aC rfl T.bw (by decide +kernel) (Y.cons (Y.vS 1) Y.nil))) Y.nil))))
   (Y.ae (Y.expr (Y.bm K rfl PySem.F.slot_list_append PySem.F.type_list_append bC Y.bQ (Y.vS 1) (Y.cons (Y.tup (Y.cons (Y.ix (Y.a_ K rfl) Y.aq (Y.vS 3) Y.int) (Y.cons (Y.ix (Y.a_ K rfl) Y.aq (Y.vS 4) Y.int) Y.nil))) Y.nil)))
   (Y.aQ (Y.xq (i:=2) aY.nd rfl (by walk_at "lc") (Y.fn K rfl hcalm_by_weight (hr.mono (by decide)) rfl aH (Y.cons (Y.op (Y.ak K rfl) Y.aj (Y.cz K rfl (Y.vS 2) (Y.kA Y.int) Y.kN) (Y.lst (Y.cons (Y.vS 5) Y.nil))) Y.nil)))))))))
   (Y.aQ (Y.ret (Y.ct (Y.cw K rfl) Y.cK rfl T.c_ (by decide +kernel) (Y.cons (Y.vS 1) Y.nil))))))),?_⟩
 refine oY fun N hN=>?_;walk_at "rt";rw[hN];clear hN N;refine oY fun N hN=>?_;walk_at "rt";rw[lR];refine cO (fun rest acc μ=>∃ i:Nat,i<=cs.length/\(rest=(List.range' i (cs.length-i)).map fun i:Nat=>L2.T.tup [.int (i:Int),.int (dX cs i)])/\acc=wT (zG cs i)/\μ=[.tr (.tup (nI cs)),.bx (.lst []),.un,.un,.un,.un]) ⟨0,JC _,rfl,rfl,rfl⟩ ?_ ?_
 ·rintro acc μ ⟨i,hi,e,rfl,rfl⟩;have hi2:i=cs.length:=by
   have:=Jv List.length e;rw[IW,JF,JG] at this;lia
  subst hi2;refine⟨trivial,?_⟩;walk_at "rt";refine⟨_,rfl,by rw[eK];lia,?_⟩
  walk_at "rt";rw[hN];clear hN N;refine oY fun N hN=>?_;refine⟨fun m μ=>∃(done:List (Nat×Nat)) (st:List WN) (o3 o4 o5:Option L2.T),done++hf st.length st (cs.length+done.length)=eQ cs/\st.length+done.length=cs.length/\1<=st.length/\m=st.length/\μ=[.tr (.tup (nI cs)),.bx (.lst (zc done)),.tr (.lst (wT st)),sl o3,sl o4,sl o5],⟨_,[],ye (zG cs cs.length),none,none,none,by rw[eM,eK];rfl,by rw[eM,eK];rfl,by rw[eM,eK];exact hn1,rfl,rfl⟩,?_⟩
  rintro m μ ⟨done,st,o3,o4,o5,e1,e2,e3,rfl,rfl⟩;by_cases h1:(1:Int)<(st.length:Int)
  ·wp_walk using fH,Ja h1;rcases st with _|⟨a,_|⟨b,r⟩⟩
   ·simp at h1
   ·simp at h1
   ·have a0:cc (wT (a::b::r)) 0=some (Gw a):=cB (xs:=wT (a::b::r)) (j:=0) rfl;have a1:cc (wT (a::b::r)) 1=some (Gw b):=cB (xs:=wT (a::b::r)) (j:=1) rfl;have f0:∀ x:WN,cc [L2.T.int x.1,.int (x.2:Int)] 0=some (.int x.1):=fun x=>rfl;have f1:∀ x:WN,cc [L2.T.int x.1,.int (x.2:Int)] 1=some (.int (x.2:Int)):=fun x=>rfl;rw[Jf,Jf] at e2;refine oY fun M2 h2=>?_;wp_walk using a0;rw[h2];clear h2 M2;refine oY fun M2 h2=>?_;wp_walk using a1;rw[h2];clear h2 M2;refine oY fun M2 h2=>?_;unfold Gw;wp_walk using f0,aB,rX;refine⟨by decide,?_⟩
    rw[h2];clear h2 M2;refine oY fun M2 h2=>?_;wp_walk using f1;refine⟨by decide,by rw[rX];exact Jo (show done.length<=20 by lia) (by decide),?_⟩
    rw[h2];clear h2 M2;have ec:Y.bJ (wT (a::b::r)) (some 2) none=wT r:=by
     unfold Y.bJ;rw[HT.cQ,show (some (2:Int))=some ((2:Nat):Int) from rfl,HT.d3,fH];show ((wT (a::b::r)).drop (min 2 (r.length+1+1))).take (r.length+1+1-min 2 (r.length+1+1))=_;rw[LN (by lia)]
     exact JX (by rw[show (wT (a::b::r)).drop 2=wT r from rfl,fH];lia)
    wp_walk using ec,fH;refine⟨by decide,Jj (show _<=100 by lia) (by decide),r++[(a.1+b.1,cs.length+done.length)],?_,by rw[IX,Jr];lia,?_⟩
    ·rw[wA];show _=[L2.T.lst (wT r++[L2.T.tup [.int (a.1+b.1),.int ((cs.length+done.length:Nat):Int)]])];rw[Int.natCast_add]
    ·walk_at "rt";have hl:(ye (r++[(a.1+b.1,cs.length+done.length)])).length=r.length+1:=by rw[eM,IX,Jr]
     refine⟨_,?_,done++[(a.2,b.2)],ye (r++[(a.1+b.1,cs.length+done.length)]),some (.tup [.int a.1,.int (a.2:Int)]),some (.tup [.int b.1,.int (b.2:Int)]),some (.tup [.int (a.1+b.1),.int ((cs.length:Int)+(done.length:Int))]),?_,?_,?_,rfl,?_⟩
     ·rw[hl];lia
     ·rw[<- e1,hl,J6];congr 1;show (a.2,b.2)::hf (r.length+1) _ _=(a.2,b.2)::hf (r.length+1) _ _;rw[IX,Jr,<- MQ]
     ·rw[hl,IX,Jr];lia
     ·rw[hl];lia
     ·rw[zm];rfl
  ·wp_walk using fH,IY h1;have hs1:st.length=1:=by lia
   obtain⟨a,rfl⟩:=KO.mp hs1;rw[hN];clear hN N;walk_at "rt";rw[show hf [a].length [a] (cs.length+done.length)=[] from rfl,J7] at e1;rw[e1];exact q
 ·rintro t r acc μ M ⟨i,hi,e,rfl,rfl⟩ k;have hi2:i<cs.length:=by
   have:=Jv List.length e;rw[IW,JF,Jf] at this;lia
  rw[show cs.length-i=(cs.length-(i+1))+1 by lia,Kb,Jm] at e
  obtain⟨rfl,rfl⟩:=List.cons.inj e;clear e;refine⟨trivial,by rw[fH,eK];exact Jo (show i<=20 by lia) (by decide),?_⟩
  walk_at "rt";refine⟨by decide,k _ _ ⟨i+1,hi2,rfl,?_,rfl⟩⟩
  rw[xu,wA];rfl
def yH:fA:=fun args Q=>∃(cs:List Int) (b:Int),args=[.tup (nI cs),.int b]/\1<=cs.length/\cs.length<=20/\-40<=b/\b<=40/\ng cs.length b=true/\Q (.tr (.tup (nN (dy cs b.toNat)))) []
def u0:fA:=fun args Q=>∃ cs:List Int,args=[.tup (nI cs)]/\1<=cs.length/\cs.length<=20/\Q (.tr (.tup [.tup (nN (dy cs cs.length)),.tup (zc (eQ cs))])) []
theorem Fo(h:1<=n):ng n (n:Int)=true:=Jz ⟨by lia,by rw[J8];exact Jj (AS n h) (Mw (by decide) (by lia))⟩
theorem uz(T:Txt K mg)(F:HasFn K mg "paper_of" bW ["counts"])(hle:ah P w K mg base (mK P w) 6 "least_lengths" ["counts","bound"] (sS K [false,false] (vE C)))(hlightest_first:ah P w K mg base cF 5 "lightest_first" ["counts"] (spT K [false] uR)):
  ah P w K mg base cF 7 "paper_of" ["counts"] (spT K [false] u0):=by
 have hcalm_least_lengths:ah P w K mg base cF 6 "least_lengths" ["counts","bound"] (spT K [false,false] yH):=hle.calm fun args Q ⟨cs,b,e,h1,h2,h3,h4,h5,q⟩=>⟨cs,b,e,h1,h2,h3,h4,.inl ⟨h5,q⟩⟩;refine F.mD nV [false] rfl (by decide) (fun args Qt hl h f cdv A outer s H E hr=>?_)
 have hu:=cg hr;obtain⟨cs,rfl,hn1,hn,q⟩:=h;refine⟨_,(Y.aQ (Y.ret (Y.tup (Y.cons (Y.fn K rfl hcalm_least_lengths (hr.mono (by decide)) rfl aH (Y.cons (Y.vS 0) (Y.cons (Y.cb (Y.ar K rfl) Y.aC rfl T.bw (by decide +kernel) (Y.cons (Y.vS 0) Y.nil)) Y.nil))) (Y.cons (Y.fn K rfl hlightest_first (hr.mono (by decide)) rfl aH (Y.cons (Y.vS 0) Y.nil)) Y.nil))))),?_⟩
 wp_walk using aB;refine⟨cs,(cs.length:Int),rfl,hn1,hn,by lia,by lia,Fo hn1,?_⟩
 walk_at "rt";refine⟨cs,rfl,hn1,hn,?_⟩;walk_at "rt";exact⟨by decide,by rw[J8];exact q⟩
local macro_rules | `(tactic| walk_at "rz") => do
  let ids := ("Nat.reduceAdd Nat.reduceSub Nat.reduceLeDiff L2.Ap.gu L2.Ap.tC L2.Ap.pE L2.Ap.fu L2.Ap.DW L2.Ap.mG L2.Ap.DL L2.Ap.w8 L2.Ap.iI L2.Ap.yr L2.Ap.er L2.Ap.iC L2.Ap.uq L2.Ap.t7 L2.Ap.iD L2.Ap.cD L2.Ap.mT L2.Ap.eG L2.Ap.n5 L2.Ap.xy L2.Ap.xp L2.Ap.nF yh wM L2.Ap.qE L2.Ap.GW L2.Ap.HW L2.Ap.Gj L2.Ap.Cm L2.Ap.FN L2.Ap.zO L2.start EJ EG EY Ep List.map_cons List.map_nil List.length_cons List.length_nil List.length_set List.replicate List.cons_append List.nil_append List.append_nil List.getElem?_cons_zero List.getElem?_cons_succ List.set_cons_zero List.set_cons_succ Option.some.injEq exists_eq_left' V.int.injEq V.bl.injEq V.ref.injEq List.cons.injEq and_true true_and decide_eq_true_eq Bool.not_eq_true' decide_eq_false_iff_not Bool.false_eq_true L2.Ap.iW L2.Ap.iN L2.Ap.jy L2.Ap.nY L2.Ap.n9 L2.Ap.jZ L2.Ap.mW".splitOn " ").toArray.map fun n => Lean.mkIdent n.toName
  `(tactic| simp only [↓reduceIte, $[$ids:ident],*])
def look(st:List (Int×Int))(k:Int):Option Int:=match st with
 |[]=>none
 |p::st=>if p.1=k then some p.2 else look st k
def Ij(st:List (Int×Int)):L2.T:=.km (st.map fun p=>.inl p.1) (st.map fun p=>.int p.2)
def fI(st:List (Int×Int)):List (Key×V):=st.map fun p=>(.inl p.1,.int p.2)
theorem dO(k:Int):∀ st:List (Int×Int),cZ (fI st) (.inl k)=(look st k).map V.int
 |[]=>rfl
 |p::st=>by
  unfold fI look;rw[Jm];by_cases e:p.1=k
  ·rw[Ja e,cm (by rw[e])];rfl
  ·rw[IY e,cf (fun z=>e (Sum.inl.inj z))];exact dO k st
def dE(st:List (Int×Int))(a b:Int):Bool:=if a=b then false else match look st a,look st b with
 |some x,some y=>(st.filter fun p=>decide (p.1≠a) && decide (p.1≠b)).all fun p=>decide ((if x<y then y else x)<=(look st p.1).getD 0)
 |_,_=>false
theorem rZ:∀{st:List (Int×Int)} {vs:List V},ao K H B vs (st.map fun p=>.int p.2)->(st.map fun p=>(Sum.inl p.1:Key)).zip vs=fI st
 |[],_,r=>by cases r;rfl
 |p::st,_,r=>by
  cases r with
  |cons h r=>cases h;rw[Jm,List.zip_cons_cons,rZ r];rfl
theorem nk:∀{st:List (Int×Int)} {p:Int×Int},p∈st->∃ v,look st p.1=some v
 |q::st,p,h=>by
  unfold look;by_cases e:q.1=p.1
  ·exact⟨_,Ja e⟩
  ·rw[IY e];rcases Jg.mp h with rfl|h
   ·exact absurd rfl e
   ·exact nk h
def BM:fA:=fun args Q=>∃(st:List (Int×Int)) (a b:Int),args=[Ij st,.int a,.int b]/\st.length<=100/\Q (.tr (.bl (dE st a b))) []
theorem B_(T:Txt K mg)(F:HasFn K mg "may_be_put" bp ["standing","one","other"]):ah P w K mg base cF 1 "may_be_put" ["standing","one","other"] (spT K [false,false,false] BM):=by
 refine F.HD fc (fun vs H Q E h=>?_) (fun f cdv A outer s H vs Q E hr h=>?_)
 ·obtain⟨B,args,Qt,ag,_⟩:=h;exact ag.len.1
 ·obtain⟨B,args,Qt,ag,hB,hnd,⟨st,a,b,rfl,hst,hq⟩,q⟩:=h;have hu:=cg hr;obtain⟨v1,v2,v3,rfl⟩:=Y.uN ag.len.1;obtain⟨r1,r2,r3,_⟩:=ag;cases r3;cases r2
  cases r1 with
  |@km d ks vs ts nd hd ll rr =>
   rw[rZ rr] at hd;refine⟨_,(Z.ae (Z.gZ (Z.tw (Z.An (Z.cx vL (Z.v 1) (Z.v 2)) (Z.An (Z.cx (Y.nG hu) (Z.v 1) (Z.v 0)) (Z.p0 (Z.cx (Y.nG hu) (Z.v 2) (Z.v 0)))))) (Z.aQ (Z.ret Z.bl)) Z.dm)
   (Z.ae (Z.set (i:=3) fc.nd rfl (by walk_at "lc") (Z.cb (cW rfl) rfl T.iO (by decide +kernel) (Z.cons (Z.zx hu (Z.v 0) (Z.v 1)) (Z.cons (Z.zx hu (Z.v 0) (Z.v 2)) Z.nil))))
   (Z.aQ (Z.ret (Z.allB K rfl rfl rfl T.EZ (Z.cons (Z.hold fun d0 o0 kvs0=>(Z.comp (osc:=aa bp) (ON:=["standing","one","other","heavier"]) (own:=["beside"]) (N:=["beside","standing","one","other","heavier"]) ⟨rfl,by decide +kernel,rfl,by decide +kernel,by decide +kernel,by decide +kernel,by decide +kernel,by decide +kernel⟩ rfl rfl rfl (Z.held d0 o0 kvs0 (Z.v 0)) (fun _ _ _ _=>(Z.aP (i:=0) (show List.Nodup (["beside","standing","one","other","heavier"]:List Str) by decide +kernel) rfl (by walk_at "lc"))) (fun _ _ _ _=>(Z.Gy (Z.tw (Z.mQ (Z.cx wY (Z.v 0) (Z.v 2)) (Z.kB (Z.cx wY (Z.v 0) (Z.v 3))))))) (fun _ _ _ _=>(Z.cmp rF (Z.v 4) (Z.zx hu (Z.v 1) (Z.v 0)))))) Z.nil)))))),?_⟩
   refine vW fun N hN=>?_;walk_at "rz";have dg:∀ k:Int,oZ H d (.int k) ((look st k).map V.int):=fun k=>.inl ⟨fI st,.inl k,hd,rfl,(dO k st).symm⟩;have fin:∀ r:Bool,dE st a b=r->Q (V.bl r) H:=fun r e=>by
    rw[e] at hq;exact q _ _ _ _ hq (fun b o e _=>e) ⟨.bl _,.nil⟩
   by_cases hab:a=b
   ·rw[Ja hab];exact fin false (by unfold dE;rw[Ja hab])
   rw[IY hab]
   cases ha:look st a with
   |none =>
    refine⟨d,_,rfl,dg a,_,rfl,?_⟩;rw[ha];exact fin false (by unfold dE;rw[IY hab,ha])
   |some x =>
   refine⟨d,_,rfl,dg a,_,rfl,?_⟩;rw[ha]
   cases hb:look st b with
   |none =>
    refine⟨d,_,rfl,dg b,_,rfl,?_⟩;rw[hb];exact fin false (by unfold dE;rw[IY hab,ha,hb])
   |some y =>
   refine⟨d,_,rfl,dg b,_,rfl,?_⟩;rw[hb];show N _ _;rw[hN];clear hN N;refine vW fun N hN=>?_;walk_at "rz";refine⟨d,_,rfl,by have:=dg a;rw[ha] at this;exact this,d,_,rfl,by have:=dg b;rw[hb] at this;exact this,?_⟩
   walk_at "rz";rw[hN];clear hN N;walk_at "rz";have comp:∀(o:Obj) (Hf:Hp) (QQ:VK),Hf d=some (.dk o (.dK (fI st)))->(∀ D H',Hf D=none->H' d=some (.dk o (.dK (fI st)))->KB [] Hf H'->H' D=some (.lst (((st.filter fun p=>decide (p.1≠a) && decide (p.1≠b)).map fun p=>decide ((if x<y then y else x)<=(look st p.1).getD 0)).map V.bl))->QQ (.ref D) H') ->
     x3 (FJ d o (fI st)) 1 (cD 0) (mG (fu (pE BK (gu 0) (gu 2))) (fu (pE BK (gu 0) (gu 3)))) (pE (qE fun i j=>V.bl (decide (i<=j))) (gu 4) (jZ (gu 1) (gu 0))) QQ [some (V.ref d),some (V.int a),some (V.int b),some (V.int (if y > x then y else x))] Hf:=fun o Hf QQ hf fq=>by
    refine pq (Jj (show (fI st).length<=100 by unfold fI;rw[IW];exact hst) (by decide)) (fun D i ys H'=>Hf D=none/\KB [] Hf H'/\H' D=some (.lst ys)/\ys=((((st.take i).filter fun p=>decide (p.1≠a) && decide (p.1≠b)).map fun p=>decide ((if x<y then y else x)<=(look st p.1).getD 0)).map V.bl)) (fun D hD=>⟨hD,KB.new hD,ai,rfl⟩) (fun D i ys H' ⟨h1,h2,h3,h4⟩=>⟨h3,by rw[h4,IW,IW];exact Jj (Mg ..) (by rw[JO];exact Nat.min_le_left _ _)⟩) (fun D i ys H' ⟨h1,h2,h3,h4⟩=>h2 _ _ hf (by simp)) ?_ ?_
    ·rintro D i ys H' p R R0 hp ⟨h1,h2,h3,rfl⟩ k1 k0;have hi:i<st.length:=by
      have:=(Ji.mp hp).1;unfold fI at this;rw[IW] at this;exact this
     have ep:p=(.inl (st[i]).1,.int (st[i]).2):=by
      unfold fI at hp;rw[Jy,IV hi] at hp;exact (Option.some.inj hp).symm
     subst ep;have et:st.take (i+1)=st.take i++[st[i]]:=(List.take_append_getElem hi).symm;obtain⟨v,ev⟩:=nk (JV hi);have emx:(if y > x then y else x)=if x<y then y else x:=rfl
     rw[et,ML] at k1 k0;generalize st[i]=pp at *;show mG _ _ [some (V.int pp.1),_,_,_,_] _ _;walk_at "rz";by_cases c1:pp.1=a
     ·rw[IY (KY c1)];refine k0 _ ⟨h1,h2,h3,?_⟩;rw[KL (by simp[c1]),N7,J7]
     ·rw[Ja c1];by_cases c2:pp.1=b
      ·rw[IY (KY c2)];refine k0 _ ⟨h1,h2,h3,?_⟩;rw[KL (by simp[c2]),N7,J7]
      ·rw[Ja c2];refine⟨d,.int v,rfl,.inl ⟨fI st,.inl pp.1,.inr ⟨o,h2 _ _ hf (by simp)⟩,rfl,by rw[dO,ev];rfl⟩,?_⟩
       walk_at "rz";refine k1 _ _ h3 ⟨h1,fun c u e _=>?_,ai,?_⟩
       ·rw[af (ax e h1)];exact h2 c u e (by simp)
       ·rw[Lk (by simp[c1,c2]),N7,Jn,Jn]
        show _=_++[V.bl (decide ((if x<y then y else x)<=(look st pp.1).getD 0))]
        rw[ev];rfl
    ·rintro D ys H' ⟨h1,h2,h3,rfl⟩;refine fq D H' h1 (h2 _ _ hf (by simp)) h2 ?_
     rw[h3,JX (by unfold fI;rw[IW];exact Jb _)]
   have eall:dE st a b=(((st.filter fun p=>decide (p.1≠a) && decide (p.1≠b)).map fun p=>decide ((if x<y then y else x)<=(look st p.1).getD 0)).all id):=by
    unfold dE;rw[IY hab,ha,hb,List.all_map];rfl
   rcases hd with hd|⟨o,hd⟩
   ·refine⟨d,fI st,.inl ⟨hd,fun o=>⟨rfl,comp o _ _ ai fun D H' hD hdd kb oD=>⟨hdd,D,_,rfl,bS.of (by rw[af (fun z=>by rw[z,ai] at hD;cases hD)];exact oD),?_⟩⟩⟩⟩
    rw[<- eall];refine q _ _ _ _ hq (fun c u e _=>?_) ⟨.bl _,.nil⟩;by_cases z:c=d
    ·subst z;rw[hd] at e;cases e;exact ai
    ·rw[af z];exact kb c u (by rw[af z];exact e) (by simp)
   ·refine⟨d,fI st,.inr ⟨o,hd,rfl,hd,comp o _ _ hd fun D H' hD hdd kb oD=>⟨D,_,rfl,bS.of oD,?_⟩⟩⟩;rw[<- eall];exact q _ _ _ _ hq (fun c u e _=>kb c u e (by simp)) ⟨.bl _,.nil⟩
def iV(xs:List Int):List V:=xs.map V.int
theorem jd:∀{xs:List Int} {vs:List V},ao K H B vs (nI xs)->vs=iV xs
 |[],_,r=>by cases r;rfl
 |x::xs,_,r=>by
  cases r with
  |cons h r=>cases h;rw[jd r];rfl
def aR(ps:List (Int×Int)):List L2.T:=ps.map fun p=>.tup [.int p.1,.int p.2]
def dI(st:List (Int×Int))(n:Nat)(a b:Int):Option (List (Int×Int)×Int):=if dE st a b=true then (match look st a,look st b with
 |some x,some y=>some ((st.filter fun p=>decide (p.1≠a) && decide (p.1≠b))++[((n:Int),x+y)],x+y)
 |_,_=>none) else none
def putAll(st:List (Int×Int))(n:Nat)(w:Int):List (Int×Int)->Option (List (Int×Int)×Int)
 |[]=>some (st,w)
 |p::ps=>(match dI st n p.1 p.2 with
  |some (st',v)=>putAll st' (n+1) (w+v) ps
  |none=>none)
def num:List Int->Nat->List (Int×Int)
 |[],_=>[]
 |c::cs,i=>((i:Int),c)::num cs (i+1)
theorem rn:∀(cs:List Int) (i:Nat),(num cs i).length=cs.length
 |[],_=>rfl
 |c::cs,i=>Jv (·+1) (rn cs (i+1))
theorem wH:∀(cs:List Int) (i:Nat) (p:Int×Int),p∈num cs i->p.1<((i+cs.length:Nat):Int)
 |c::cs,i,p,h=>by
  rcases Jg.mp h with rfl|h
  ·show (i:Int)<_;rw[Jf];lia
  ·have:=wH cs (i+1) p h;rw[Jf];lia
theorem mY(st:List (Int×Int))(a:Int):gP (fI st) (.inl a)=fI (st.filter fun p=>decide (p.1≠a)):=by
 unfold gP fI;rw[List.filter_map];congr 1;refine M_ fun p _=>?_;show decide (¬ (Sum.inl p.1:Key)=Sum.inl a)=decide (p.1≠a);exact Kj.mpr ⟨fun h z=>h (by rw[z]),fun h z=>h (Sum.inl.inj z)⟩
theorem rS:∀ st:List (Int×Int),(st.map fun p=>(Sum.inl p.1:Key)).zip (st.map fun p=>V.int p.2)=fI st
 |[]=>rfl
 |p::st=>by rw[Jm,Jm,List.zip_cons_cons,rS st];rfl
theorem r8:∀ st:List (Int×Int),ao K H B (st.map fun p=>V.int p.2) (st.map fun p=>.int p.2)
 |[]=>.nil
 |p::st=>.cons (.int _) (r8 st)
theorem vi{st:List (Int×Int)}{b:Int}(h:dE st a b=true):a≠b/\∃ x y,look st a=some x/\look st b=some y:=by
 unfold dE at h
 split at h
 ·cases h
 ·rename_i hab
  split at h
  ·rename_i x y h1 h2;exact⟨hab,x,y,h1,h2⟩
  ·cases h
theorem eI{b:Int}(hab:a≠b):∀ st:List (Int×Int),look (st.filter fun p=>decide (p.1≠a)) b=look st b
 |[]=>rfl
 |p::st=>by
  by_cases e:p.1=a
  ·rw[KL (by simp[e]),eI hab st]
   show _=if p.1=b then _ else _
   rw[IY (fun z=>hab (e.symm.trans z))]
  ·rw[Lk (by simp[e])]
   show (if p.1=b then _ else _)=if p.1=b then _ else _
   rw[eI hab st]
theorem kE{k:Int}:∀{st:List (Int×Int)},(∀ p∈st,p.1<k)->look st k=none
 |[],_=>rfl
 |p::st,h=>by
  show (if p.1=k then _ else _)=_
  rw[IY (by have:=h p Jl;lia)]
  exact kE fun q hq=>h q (Jk _ hq)
def b_(cs:List Int)(ps:List (Int×Int)):L2.T:=match putAll (num cs 0) cs.length 0 ps with
 |some (st,w)=>if st.length=1 then .int w else .aL
 |none=>.aL
def xU:fA:=fun args Q=>∃(cs:List Int) (ps:List (Int×Int)),args=[.tup (nI cs),.tup (aR ps)]/\1<=cs.length/\cs.length<=20/\ps.length<=20/\Q (.tr (b_ cs ps)) []
theorem we(T:Txt K mg)(F:HasFn K mg "weight_put_together" ay ["counts","paper"])(hmay_be_put:ah P w K mg base cF 1 "may_be_put" ["standing","one","other"] (spT K [false,false,false] BM)):ah P w K mg base cF 2 "weight_put_together" ["counts","paper"] (spT K [false,false] xU):=by
 refine F.HD aN (fun vs H Q E h=>?_) (fun f cdv A outer s H vs Q E hr h=>?_)
 ·obtain⟨B,args,Qt,ag,_⟩:=h;exact ag.len.1
 ·obtain⟨B,args,Qt,ag,hB,hnd,⟨cs,ps,rfl,hn1,hn,hp,hq⟩,q⟩:=h;have hu:=cg hr;obtain⟨v1,v2,rfl⟩:=Y.fF ag.len.1;obtain⟨r1,r2,_⟩:=ag
  cases r2 with
  |@tup pv pvs _ np op rp =>
   cases r1 with
   |@tup cv vsc _ nc oc rc =>
    have ec:=jd rc;subst ec;refine⟨_,(Z.ae (Z.set (i:=2) aN.nd rfl (by walk_at "lc") (Z.EC K rfl rfl rfl T.dq rfl T.Dv (Z.cons (Z.v 0) Z.nil)))
   (Z.ae (Z.set (i:=3) aN.nd rfl (by walk_at "lc") Z.int)
   (Z.ae (Z.eY JJ rfl (Z.EI K rfl rfl T.dq (Z.cons (Z.v 1) Z.nil) (Z.cb (Z.EK K rfl) rfl T.bw (by decide +kernel) (Z.cons (Z.v 0) Z.nil))) (Z.nR (n:=2) K rfl rfl (Z.bg (Z.aP (i:=4) aN.nd rfl (by walk_at "lc")) (Z.bg (Z.aP (i:=5) aN.nd rfl (by walk_at "lc")) Z.d9))) (Z.ae (Z.gZ (Z.lu (Z.yw K rfl (Z.fn hmay_be_put (hr.mono (by decide)) rfl aH (Z.cons (Z.v 2) (Z.cons (Z.ix (Z.yT K rfl hu) (Z.v 5) Z.int) (Z.cons (Z.ix (Z.yT K rfl hu) (Z.v 5) Z.int) Z.nil)))))) (Z.aQ (Z.ret Z.aL)) Z.dm)
   (Z.ae (Z.dput hu (Z.v 2) (Z.v 4) (Z.op (Z.AI K rfl) (Z.AF (Z.v 2) (Z.ix (Z.yT K rfl hu) (Z.v 5) Z.int)) (Z.AF (Z.v 2) (Z.ix (Z.yT K rfl hu) (Z.v 5) Z.int))))
   (Z.aQ (Z.set (i:=3) aN.nd rfl (by walk_at "lc") (Z.op (Z.AI K rfl) (Z.v 3) (Z.zx hu (Z.v 2) (Z.v 4))))))))
   (Z.aQ (Z.ret (Z.IM (Z.cx vL (Z.cb sW rfl T.bw (by decide +kernel) (Z.cons (Z.v 2) Z.nil)) Z.int) (Z.v 3) Z.aL)))))),?_⟩
    refine vW fun N hN=>?_;walk_at "rz";refine⟨cv,iV cs,rfl,b8.of oc,by unfold iV;rw[IW];lia,fun d hd=>?_⟩
    have een:∀(cs:List Int) (i:Nat),oW (iV cs) i=fI (num cs i):=fun cs=>by
     induction cs with
     |nil=>intro i;rfl
     |cons c cs ih=>intro i;exact Jv (_::·) (ih (i+1))
    rw[een];rw[hN];clear hN N;refine vW fun N hN=>?_;walk_at "rz";rw[hN];clear hN N;refine vW fun N hN=>?_;walk_at "rz";obtain⟨H1,e1⟩:∃ H1,H1=upd H d (.dK (fI (num cs 0))):=⟨_,rfl⟩;rw[<- e1];have k1:KB [] H H1:=by rw[e1];exact KB.new hd
    have od:H1 d=some (.dK (fI (num cs 0))):=by rw[e1];exact ai
    clear e1;have sc1:sq H1 cv=some (false,iV cs):=k_ (k1 _ _ oc (by simp))
    simp only[sc1];have lv:(iV cs).length=cs.length:=IW ..;have lp:pvs.length=ps.length:=by have:=rp.length;unfold aR at this;rw[IW] at this;exact this
    refine⟨pv,cs.length,rfl,by rw[lv],by lia,⟨pvs,b8.of (k1 _ _ op (by simp))⟩,?_⟩
    refine pG (xs:=pvs) (fun i σ H'=>∃(st:List (Int×Int)) (wt:Int) (o4 o5:Option V),KB [] H H'/\H' d=some (.dK (fI st))/\putAll (num cs 0) cs.length 0 ps=putAll st (cs.length+i) wt (ps.drop i)/\(∀ p∈st,p.1<((cs.length+i:Nat):Int))/\st.length<=20+i/\σ=[some (V.ref cv),some (V.ref pv),some (V.ref d),some (V.int wt),o4,o5]) ⟨num cs 0,0,none,none,k1,od,rfl,?_,?_,rfl⟩ (fun i σ H' _ ⟨st,wt,o4,o5,h1,_⟩=>b8.of (h1 _ _ op (by simp))) ?_ ?_
    ·intro p hp;have:=wH cs 0 p hp;rw[Kg] at this;exact this
    ·rw[rn];lia
    ·rintro i x σ H2 pr ex ⟨st,wt,o4,o5,k2,od2,epa,hlt,hlen,rfl⟩ hpr;have hi:i<ps.length:=by have:=(Ji.mp ex).1;lia
     obtain⟨v,ev,rv⟩:=rp.get (i:=i) (t:=.tup [.int (ps[i]).1,.int (ps[i]).2]) (by unfold aR;rw[Jy,IV hi];rfl)
     rw[ex] at ev;cases ev;have epb:putAll (num cs 0) cs.length 0 ps=(match dI st (cs.length+i) (ps[i]).1 (ps[i]).2 with
       |some (st',v)=>putAll st' (cs.length+(i+1)) (wt+v) (ps.drop (i+1))
       |none=>none):=by rw[epa,Kc hi];rfl
     clear epa ex;generalize ps[i]=pp at *;obtain⟨a,b⟩:=pp
     cases rv with
     |@tup qa vs2 _ nq oq rq =>
     have e2:=jd (xs:=[(a:Int),(b:Int)]) rq;subst e2;have oq2:=k2 _ _ oq (by simp)
     clear hN;walk_at "rz";refine⟨pr,_,rfl,b8.of ai,rfl,?_⟩;have k3:KB [] H2 (upd H2 pr (.tup [V.int ((cs.length+i:Nat):Int),.ref qa])):=KB.new hpr;have od3:=k3 _ _ od2 (by simp)
     have oq3:=k3 _ _ oq2 (by simp)
     generalize upd H2 pr (.tup [V.int ((cs.length+i:Nat):Int),.ref qa])=H3 at *;have sq3:sq H3 qa=some (false,iV [(a:Int),(b:Int)]):=k_ oq3;walk_at "rz";simp only[sq3];show L2.spT K [false,false,false] BM [V.ref d,V.int (a:Int),V.int (b:Int)] H3 _ _;have k33:=k2.trans k3;refine⟨B,[Ij st,.int (a:Int),.int (b:Int)],fun r outs=>r=.tr (.bl (dE st a b))/\outs=[],⟨.km (fun z=>by obtain⟨o,ho⟩:=hB d z;rw[hd] at ho;cases ho) (.inl (by rw[rS];exact od3)) (by rw[IW,IW]) (r8 st),.int _,.int _,trivial⟩,fun b hb=>let ⟨o,ho⟩:=hB b hb;⟨o,k33 b o ho (by simp)⟩,Ld,⟨st,a,b,rfl,by lia,rfl,rfl⟩,fun v H5 r outs hQ keep res=>?_⟩
     obtain⟨rfl,rfl⟩:=hQ;obtain⟨rep,_⟩:=res;cases rep;have k5:KB [] H3 H5:=fun b o e _=>keep b o e (by show b∉([]:List Addr);simp)
     have k55:=k33.trans k5;refine⟨dE st a b,rfl,?_⟩
     cases hm:dE st a b with
     |false =>
      rw[Ja rfl];have ew:b_ cs ps=.aL:=by
       unfold b_;rw[epb];unfold dI;rw[hm];rfl
      rw[ew] at hq;exact q _ _ _ _ hq (fun b o e _=>k55 b o e (by simp)) ⟨.aL,.nil⟩
     |true =>
      rw[IY (by decide)]
      obtain⟨hab,x,y,hx,hy⟩:=vi hm;have od5:=k5 _ _ od3 (by simp)
      have oq5:=k5 _ _ oq3 (by simp)
      have sq5:sq H5 qa=some (false,iV [(a:Int),(b:Int)]):=k_ oq5;simp only[sq5];refine⟨.inl ⟨_,.inl od5⟩,?_⟩;refine⟨fI st,.inl (a:Int),.int x,od5,rfl,by rw[dO,hx];rfl,.inl ⟨_,.inl ai⟩,?_⟩
      rw[mY];have nqd:qa≠d:=fun z=>by rw[z,hd] at oq;cases oq
      have sq6:sq (upd H5 d (.dK (fI (st.filter fun p=>decide (p.1≠(a:Int)))))) qa=some (false,iV [(a:Int),(b:Int)]):=k_ (by rw[af nqd];exact oq5)
      simp only[sq6];refine⟨fI (st.filter fun p=>decide (p.1≠(a:Int))),.inl (b:Int),.int y,rfl,rfl,by rw[dO,eI hab,hy];rfl,?_⟩
      rw[mY,List.filter_filter,iq];have ef:(st.filter fun p=>decide (p.1≠(b:Int)) && decide (p.1≠(a:Int)))=st.filter fun p=>decide (p.1≠(a:Int)) && decide (p.1≠(b:Int)):=M_ fun p _=>MP _ _;rw[ef];have epc:putAll (num cs 0) cs.length 0 ps=putAll ((st.filter fun p=>decide (p.1≠(a:Int)) && decide (p.1≠(b:Int)))++[(((cs.length+i:Nat):Int),x+y)]) (cs.length+(i+1)) (wt+(x+y)) (ps.drop (i+1)):=by
       rw[epb];unfold dI;rw[Ja hm,hx,hy]
      have hf:∀ p∈st.filter fun p=>decide (p.1≠(a:Int)) && decide (p.1≠(b:Int)),p.1<((cs.length+i:Nat):Int):=fun p hp=>hlt p (LI.mp hp).1;have hfl:(st.filter fun p=>decide (p.1≠(a:Int)) && decide (p.1≠(b:Int))).length<=st.length:=Mg ..;generalize (st.filter fun p=>decide (p.1≠(a:Int)) && decide (p.1≠(b:Int)))=oI at *;have l2:(fI oI).length=oI.length:=IW ..;show ∃ a H4,d=a/\p8 _ a _ (.int (x+y)) H4/\_;refine⟨d,_,rfl,p8.k (k:=.inl ((cs.length+i:Nat):Int)) ai (Jo (show _<=100 by lia) (by decide)),d,.int (x+y),rfl,.inl ⟨_,.inl ((cs.length+i:Nat):Int),.inl ai,rfl,by rw[wU,Ja rfl]⟩,?_⟩
      rw[mF _ (by rw[dO,kE hf];rfl),iq]
      refine⟨oI++[(((cs.length+i:Nat):Int),x+y)],wt+(x+y),_,_,fun c o e _=>?_,?_,epc,fun p hp=>?_,?_,rfl,rfl,rfl⟩
      ·rw[af (ax e hd)];exact k55 c o e (by simp)
      ·rw[ai];unfold fI;rw[Jn];rfl
      ·rcases JN.mp hp with hp|hp
       ·have:=hf p hp;lia
       ·rw[Jh.mp hp];show ((cs.length+i:Nat):Int)<_;lia
      ·rw[IX];simp only[Jf,JG];lia
    ·rintro σ H2 ⟨st,wt,o4,o5,k2,od2,epa,hlt,hlen,rfl⟩;show N _ _;rw[hN];clear hN N;walk_at "rz";refine⟨d,fI st,rfl,od2,?_⟩;have ew:b_ cs ps=if st.length=1 then .int wt else .aL:=by
      unfold b_;rw[epa,lp,Md];rfl
     have ls:(fI st).length=st.length:=IW ..;rw[ew] at hq;by_cases h1:st.length=1
     ·rw[Ja h1] at hq;rw[Ja (by rw[ls,h1];rfl)]
      exact q _ _ _ _ hq (fun b o e _=>k2 b o e (by simp)) ⟨.int _,.nil⟩
     ·rw[IY h1] at hq;rw[IY (by rw[ls];lia)]
      exact q _ _ _ _ hq (fun b o e _=>k2 b o e (by simp)) ⟨.aL,.nil⟩
theorem zg(T:Txt K mg)(F:HasFn K mg "cost_of" cu ["counts","lengths"]):ah P w K mg base cF 1 "cost_of" ["counts","lengths"] (spT K [false,false] qI):=by
 refine F.mD pB [false,false] rfl (by decide) (fun args Qt hl h f cdv A outer s H E hr=>?_)
 have hu:=cg hr;obtain⟨c,cs,ls,rfl,hsq,hcl,hx,q⟩:=h;refine⟨_,(Y.aQ (Y.ret (Y.cb (Y.kI K rfl rfl) Y.wL rfl T.A5 (by decide +kernel) (Y.cons (Y.u3 K rfl (osc:=aa cu) (ON:=["counts","lengths"]) (own:=["count","length"]) (N:=["count","length","counts","lengths"]) ⟨rfl,by decide +kernel,rfl,by decide +kernel,by decide +kernel,by decide +kernel,by decide +kernel,by decide +kernel⟩ rfl rfl rfl rfl (Y.zip K rfl rfl T.wg (Y.cons (Y.vS 0) (Y.cons (Y.vS 1) Y.nil))) (fun _ _ _ _=>(Z.nR (n:=2) K rfl rfl (Z.bg (Z.aP (i:=0) (show List.Nodup (["count","length","counts","lengths"]:List Str) by decide +kernel) rfl (by walk_at "lc")) (Z.bg (Z.aP (i:=1) (show List.Nodup (["count","length","counts","lengths"]:List Str) by decide +kernel) rfl (by walk_at "lc")) Z.d9)))) (fun _ _ _ _=>Y.tG) (fun _ _ _ _=>(Y.op (Y.bN K rfl) Y.bO (Y.vS 0) (Y.vS 1)))) Y.nil)))),?_⟩
 wp_walk using hsq;refine cO (fun rest acc μ=>∃(cs' ls' vs:List Int),rest=lJ (nI cs') (nI ls')/\cs'.length+vs.length<=20/\acc=nI vs/\(∀ x∈ls',0<=x/\x<=40)/\vs.sum+dot cs' ls'=dot cs ls/\μ=[.tr c,.tr (.tup (nI ls))]) ⟨cs,ls,[],rfl,by simpa using hcl,rfl,hx,by simp,rfl⟩ ?_ ?_
 ·rintro acc μ ⟨cs',ls',vs,e,_,rfl,_,ev,rfl⟩;have e0:dot cs' ls'=0:=by
   cases cs' with
   |nil=>rfl
   |cons=>cases ls' with
    |nil=>rfl
    |cons=>cases e
  refine⟨trivial,?_⟩;walk_at "rt";rw[e0,Int.add_zero] at ev;exact⟨vs,rfl,by rw[ev];exact q⟩
 ·rintro t ts acc μ M ⟨cs',ls',vs,e,hlen,rfl,hx',ev,rfl⟩ k
  cases cs' with
  |nil=>cases e
  |cons c cs'=>cases ls' with
   |nil=>cases e
   |cons l ls' =>
    cases e;rw[Jf] at hlen;refine⟨trivial,by rw[aB];exact Jo (show vs.length<=20 by lia) (by decide),?_⟩
    walk_at "rt";refine⟨.inr (small (hx' l (by simp))),k _ _ ⟨cs',ls',vs++[c*l],rfl,by rw[IX,Jr];lia,by rw[e8];rfl,fun x h=>hx' x (by simp[h]),?_,rfl⟩⟩
    rw[<- ev,List.sum_append];simp only[dot,List.sum_cons,List.sum_nil];lia
def jB(cs ls:List Int)(ps:List (Int×Int)):Bool:=if cs.length=1 then decide (ps.length=0) && decide (ls.getD 0 0=1) else (match b_ cs ps with
 |.int w=>lL ls && decide (dot cs ls=w)
 |_=>false)
def lD:fA:=fun args Q=>∃(cs ls:List Int) (ps:List (Int×Int)),args=[.tup (nI cs),.tup (nI ls),.tup (aR ps)]/\1<=cs.length/\cs.length<=20/\ls.length=cs.length/\ps.length<=20/\yD ls/\Q (.tr (.bl (jB cs ls ps))) []
theorem x6(T:Txt K mg)(F:HasFn K mg "paper_shown" bo ["counts","lengths","paper"])(hweight_put_together:ah P w K mg base cF 2 "weight_put_together" ["counts","paper"] (spT K [false,false] xU))(hcan_be:ah P w K mg base cF 1 "can_be" ["lengths"] (spT K [false] vt))(hcost_of:ah P w K mg base cF 1 "cost_of" ["counts","lengths"] (spT K [false,false] qI)):ah P w K mg base cF 3 "paper_shown" ["counts","lengths","paper"] (spT K [false,false,false] lD):=by
 refine F.mD eE [false,false,false] rfl (by decide) (fun args Qt hl h f cdv A outer s H E hr=>?_)
 have hu:=cg hr;obtain⟨cs,ls,ps,rfl,h2,h20,hll,hp,hL,q⟩:=h;refine⟨_,(Y.ae (Y.gZ (Y.cx (Y.cy K rfl (Jt hu)) Y.di (Y.cb (Y.ar K rfl) Y.aC rfl T.bw (by decide +kernel) (Y.cons (Y.vS 0) Y.nil)) Y.int) (Y.aQ (Y.ret (Y.and (Y.cmp (Y.cy K rfl (Jt hu)) Y.di (Y.cb (Y.ar K rfl) Y.aC rfl T.bw (by decide +kernel) (Y.cons (Y.vS 2) Y.nil)) Y.int) (Y.one (Y.cmp (Y.cy K rfl (Jt hu)) Y.di (Y.ix (Y.a_ K rfl) Y.aq (Y.vS 1) Y.int) Y.int))))) Y.dm)
   (Y.ae (Y.set (i:=3) eE.nd rfl (by walk_at "lc") (Y.fn K rfl hweight_put_together (hr.mono (by decide)) rfl aH (Y.cons (Y.vS 0) (Y.cons (Y.vS 2) Y.nil))))
   (Y.aQ (Y.ret (Y.and (Y.cmp qK Y.qD (Y.vS 3) Y.aL) (Y.and (Y.fn K rfl hcan_be (hr.mono (by decide)) rfl aH (Y.cons (Y.vS 1) Y.nil)) (Y.one (Y.cmp (Y.cy K rfl (Jt hu)) Y.di (Y.fn K rfl hcost_of (hr.mono (by decide)) rfl aH (Y.cons (Y.vS 0) (Y.cons (Y.vS 1) Y.nil))) (Y.vS 3))))))))),?_⟩
 refine av fun N hN=>?_;by_cases c1:cs.length=1
 ·have hsh:jB cs ls ps=(decide (ps.length=0) && decide (ls.getD 0 0=1)):=Ja c1;obtain⟨l0,e0⟩:=KO.mp (hll.trans c1);subst e0;have f0:cc (nI [l0]) 0=some (.int l0):=rfl;have el:(aR ps).length=ps.length:=IW ..;wp_walk using aB,Ja (show (cs.length:Int)=1 by lia),el,f0
  rw[hsh] at q;rcases Lv ps.length with c0|c0
  ·rw[Jz (show (ps.length:Int)=0 by lia)]
   rw[Jz c0] at q;exact q
  ·rw[Jp (show ¬ (ps.length:Int)=0 by lia)]
   rw[Jp (by lia)] at q
   exact q
 wp_walk using aB;rw[IY (by lia)]
 refine hN _ ?_;clear hN N;refine av fun N hN=>?_;walk_at "rt";refine⟨cs,ps,rfl,by lia,h20,hp,?_⟩
 walk_at "rt";refine hN _ ?_;clear hN N;have hsh:jB cs ls ps=(match b_ cs ps with
   |.int w=>lL ls && decide (dot cs ls=w)
   |_=>false):=IY (by lia)
 have two:(∃ w,b_ cs ps=.int w)\/b_ cs ps=.aL:=by
  unfold b_;split
  ·split
   ·exact .inl ⟨_,rfl⟩
   ·exact .inr rfl
  ·exact .inr rfl
 rcases two with ⟨w,e⟩|e
 ·rw[e] at hsh ⊢;walk_at "rt";refine⟨_,ls,rfl,.inl rfl,hL,?_⟩
  cases ho:lL ls with
  |false =>
   walk_at "rt";rw[ho] at hsh;rw[hsh] at q;exact q
  |true =>
   walk_at "rt";refine⟨_,cs,ls,rfl,rfl,h20,hL.2.2,?_⟩;walk_at "rt";rw[ho] at hsh;rw[hsh] at q;exact q
 ·rw[e] at hsh ⊢;walk_at "rt";rw[hsh] at q;exact q
def df:List Int->List Bool->Nat->List (Int×Int)
 |v::ws,b::sd,i=>if b=true then ((i:Int),v)::df ws sd (i+1) else df ws sd (i+1)
 |_,_,_=>[]
theorem qz:∀(cs:List Int) (i:Nat),df cs (List.replicate cs.length true) i=num cs i
 |[],_=>rfl
 |c::cs,i=>by
  rw[Jf,JI,df,Ja rfl,qz cs (i+1)];rfl
theorem rj:∀(ws:List Int) (sd:List Bool) (i:Nat) (v:Int),sd.length=ws.length->df (ws++[v]) (sd++[true]) i=df ws sd i++[(((i+ws.length:Nat):Int),v)]
 |[],[],i,v,_=>rfl
 |[],_::_,_,_,h=>by cases h
 |_::_,[],_,_,h=>by cases h
 |x::ws,b::sd,i,v,h=>by
  have ih:=rj ws sd (i+1) v (by simpa using h)
  rw[L6,L6,df,df,ih,Jf,show i+1+ws.length=i+(ws.length+1) by lia]
  split
  ·rfl
  ·rfl
theorem jz:∀(ws:List Int) (sd:List Bool) (i:Nat) (p:Int×Int),p∈df ws sd i->∃ j:Nat,p.1=((i+j:Nat):Int)/\sd[j]?=some true/\ws[j]?=some p.2
 |[],sd,i,p,h=>by cases sd<;>cases h
 |_::_,[],_,_,h=>by cases h
 |x::ws,b::sd,i,p,h=>by
  rw[df] at h;have key:p∈df ws sd (i+1)->∃ j:Nat,p.1=((i+j:Nat):Int)/\(b::sd)[j]?=some true/\(x::ws)[j]?=some p.2:=fun h=>by
   obtain⟨j,h1,h2,h3⟩:=jz ws sd (i+1) p h;exact⟨j+1,by rw[h1];lia,h2,h3⟩
  split at h
  ·rename_i hb;rcases Jg.mp h with rfl|h
   ·exact⟨0,rfl,by rw[hb];rfl,rfl⟩
   ·exact key h
  ·exact key h
theorem lY:∀(ws:List Int) (sd:List Bool) (i j:Nat) (v:Int),sd[j]?=some true->ws[j]?=some v->(((i+j:Nat):Int),v)∈df ws sd i
 |[],_,_,_,_,_,h=>by cases h
 |_::_,[],_,_,_,h,_=>by cases h
 |x::ws,b::sd,i,0,v,h1,h2=>by
  cases h1;cases h2
  rw[df,Ja rfl];exact Jl
 |x::ws,b::sd,i,j+1,v,h1,h2=>by
  have:=lY ws sd (i+1) j v h1 h2;rw[show i+1+j=i+(j+1) by lia] at this
  rw[df];split
  ·exact Jk _ this
  ·exact this
theorem wd:∀(ws:List Int) (sd:List Bool) (i:Nat),((df ws sd i).map fun p=>p.1).Nodup
 |[],sd,i=>by cases sd<;>exact Ld
 |_::_,[],_=>Ld
 |x::ws,b::sd,i=>by
  have ih:=wd ws sd (i+1);rw[df];split
  ·rw[Jm,JD];refine⟨fun h=>?_,ih⟩;obtain⟨p,hp,e⟩:=JM.mp h;obtain⟨j,h1,_⟩:=jz ws sd (i+1) p hp;rw[h1] at e;have:((i+1+j:Nat):Int)=(i:Int):=e;lia
  ·exact ih
theorem rL:∀(ws:List Int) (sd:List Bool) (i:Nat),sd.length=ws.length->(df ws sd i).length=(sd.filter fun b=>b).length
 |[],[],_,_=>rfl
 |[],_::_,_,h=>by cases h
 |_::_,[],_,h=>by cases h
 |x::ws,b::sd,i,h=>by
  have ih:=rL ws sd (i+1) (by simpa using h)
  rw[df]
  cases b with
  |true=>rw[Ja rfl,Jf,ih,Lk rfl,Jf]
  |false=>rw[IY (by decide),ih,KL (by decide)]
theorem m4:∀(ws:List Int) (sd:List Bool) (i j:Nat),(df ws sd i).filter (fun p=>decide (p.1≠((i+j:Nat):Int)))=df ws (sd.set j false) i
 |[],sd,i,j=>by cases sd<;>rfl
 |_::_,[],_,_=>rfl
 |x::ws,b::sd,i,0=>by
  have hf:(df ws sd (i+1)).filter (fun p=>decide (p.1≠((i+0:Nat):Int)))=df ws sd (i+1):=by
   rw[List.filter_eq_self];intro p hp;obtain⟨j,h1,_⟩:=jz ws sd (i+1) p hp;exact Jz (by rw[h1];lia)
  rw[List.set_cons_zero,show df (x::ws) (false::sd) i=df ws sd (i+1) from rfl,df];split
  ·rw[KL (by simp),hf]
  ·exact hf
 |x::ws,b::sd,i,j+1=>by
  have ih:=m4 ws sd (i+1) j;rw[show i+1+j=i+(j+1) by lia] at ih
  rw[List.set_cons_succ,df,df];split
  ·rw[Lk (p:=fun p:Int×Int=>decide (p.1≠((i+(j+1):Nat):Int))) (Jz (show (i:Int)≠((i+(j+1):Nat):Int) by lia)),ih]
  ·exact ih
theorem gW:∀{d:List (Int×Int)},(d.map fun p=>p.1).Nodup->∀{p:Int×Int},p∈d->look d p.1=some p.2
 |q::d,nd,p,h=>by
  rw[Jm,JD] at nd;unfold look;rcases Jg.mp h with rfl|h
  ·exact Ja rfl
  ·rw[IY (fun z=>nd.1 (by rw[z];exact JM.mpr ⟨p,h,rfl⟩))]
   exact gW nd.2 h
theorem hJ:∀{d:List (Int×Int)} {k v:Int},look d k=some v->(k,v)∈d
 |q::d,k,v,h=>by
  unfold look at h
  split at h
  ·rename_i e;cases h;rw[<- e];exact Jl
  ·exact Jk _ (hJ h)
theorem cL{k v:Int}:look (df ws sd 0) k=some v ↔ ∃ j:Nat,k=(j:Int)/\sd[j]?=some true/\ws[j]?=some v:=by
 constructor
 ·intro h;obtain⟨j,h1,h2,h3⟩:=jz ws sd 0 _ (hJ h);exact⟨j,by rw[Kg] at h1;exact h1,h2,h3⟩
 ·rintro⟨j,rfl,h2,h3⟩;have:=gW (wd ws sd 0) (lY ws sd 0 j v h2 h3);rw[Kg] at this;exact this
theorem iS{b:Int}(h:a=b\/(∀ v,look (df ws sd 0) a≠some v)\/(∀ v,look (df ws sd 0) b≠some v)):dE (df ws sd 0) a b=false:=by
 unfold dE;rcases h with h|h|h
 ·rw[Ja h]
 ·split
  ·rfl
  ·split
   ·rename_i e _;exact absurd e (h _)
   ·rfl
 ·split
  ·rfl
  ·split
   ·rename_i e;exact absurd e (h _)
   ·rfl
theorem zN{a:Nat}{y:Int}(hab:a≠b)(ha:sd[a]?=some true)(hb:sd[b]?=some true)(hx:ws[a]?=some x)(hy:ws[b]?=some y):dE (df ws sd 0) (a:Int) (b:Int)=true ↔ ∀(j:Nat) (v:Int),sd[j]?=some true->ws[j]?=some v->j≠a->j≠b->(if x<y then y else x)<=v:=by
 have la:look (df ws sd 0) (a:Int)=some x:=cL.mpr ⟨a,rfl,ha,hx⟩;have lb:look (df ws sd 0) (b:Int)=some y:=cL.mpr ⟨b,rfl,hb,hy⟩;unfold dE;rw[IY (show ¬ (a:Int)=(b:Int) from fun e=>hab (Int.ofNat.inj e)),la,lb];show List.all _ _=true ↔ _;rw[Ks];constructor
 ·intro h j v h1 h2 n1 n2;have hm:=lY ws sd 0 j v h1 h2;rw[Kg] at hm;have:=h ((j:Int),v) (LI.mpr ⟨hm,by
   show (decide ((j:Int)≠(a:Int)) && decide ((j:Int)≠(b:Int)))=true;rw[Jz (show (j:Int)≠(a:Int) by lia),Jz (show (j:Int)≠(b:Int) by lia)];rfl⟩)
  have:=KD this;rw[show look (df ws sd 0) ((j:Int),v).1=some v from cL.mpr ⟨j,rfl,h1,h2⟩] at this;exact this
 ·intro h p hp;obtain⟨hp,hq⟩:=LI.mp hp;obtain⟨j,h1,h2,h3⟩:=jz ws sd 0 p hp;rw[Kg] at h1;rw[h1] at hq ⊢;rw[K4] at hq;have n1:=KD hq.1;have n2:=KD hq.2;rw[show look (df ws sd 0) (j:Int)=some p.2 from cL.mpr ⟨j,rfl,h2,h3⟩];exact Jz (h j p.2 h2 h3 (fun e=>n1 (by rw[e])) (fun e=>n2 (by rw[e])))
theorem BX{b:Int}(h:dE (df ws sd 0) a b=false):dI (df ws sd 0) n a b=none:=by
 unfold dI;rw[h];rfl
theorem Ag{a:Nat}{y:Int}(hl:sd.length=ws.length)(ha:sd[a]?=some true)(hb:sd[b]?=some true)(hx:ws[a]?=some x)(hy:ws[b]?=some y)(h:dE (df ws sd 0) (a:Int) (b:Int)=true):dI (df ws sd 0) ws.length (a:Int) (b:Int)=some (df (ws++[x+y]) ((sd.set a false).set b false++[true]) 0,x+y):=by
 have la:look (df ws sd 0) (a:Int)=some x:=cL.mpr ⟨a,rfl,ha,hx⟩;have lb:look (df ws sd 0) (b:Int)=some y:=cL.mpr ⟨b,rfl,hb,hy⟩;unfold dI;rw[Ja h,la,lb];have e1:=m4 ws sd 0 a;have e2:=m4 ws (sd.set a false) 0 b;rw[Kg] at e1 e2;rw[<- e1,List.filter_filter] at e2;have e3:=rj ws ((sd.set a false).set b false) 0 (x+y) (by rw[JE,JE,hl])
 rw[e3,Kg,<- e2];have e4:(df ws sd 0).filter (fun p=>decide (p.1≠(b:Int)) && decide (p.1≠(a:Int)))=(df ws sd 0).filter fun p=>decide (p.1≠(a:Int)) && decide (p.1≠(b:Int)):=M_ fun p _=>MP _ _;rw[e4]
def qY:fA:=fun args Q=>∃(cs:List Int) (ps:List (Int×Int)),args=[.tup (nI cs),.tup (aR ps)]/\1<=cs.length/\cs.length<=20/\ps.length<=20/\Q (.tr (b_ cs ps)) []
def bT(sd:List Bool):List L2.T:=sd.map L2.T.bl
theorem j6(sd:List Bool):(bT sd).length=sd.length:=IW ..
theorem CB(n:Nat):(List.replicate n [L2.T.bl true]).flatten=bT (List.replicate n true):=by
 induction n with
 |zero=>rfl
 |succ n ih=>rw[JI,JQ,ih];rfl
theorem iU{k:Nat}{b:Bool}(h:sd[k]?=some b):cc (bT sd) (k:Int)=some (.bl b):=cB (by unfold bT;rw[Jy,h];rfl)
theorem nA{k:Nat}{v:Int}(h:ws[k]?=some v):cc (nI ws) (k:Int)=some (.int v):=cB (by unfold nI;rw[Jy,h];rfl)
theorem xK(sd:List Bool)(k:Nat)(b:Bool):(bT sd).set k (.bl b)=bT (sd.set k b):=by unfold bT;rw[List.map_set]
theorem Ir{k:Nat}(h:k<sd.length):jT (bT sd).length (k:Int)=some k:=by
 unfold jT;rw[j6,Ja (by lia),Ja (by lia),J8]
theorem tL(T:Txt K mg)(F:HasFn K mg "_law_walked" aV ["counts","paper"]):ah P w K mg base cF 1 "_law_walked" ["counts","paper"] (spT K [false,false] qY):=by
 refine F.mD bq [false,false] rfl (by decide) (fun args Qt hl h f cdv A outer s H E hr=>?_)
 have hu:=cg hr;obtain⟨cs,ps,rfl,hn1,hn,hps,q⟩:=h;refine⟨_,(Y.ae (Y.set (i:=2) bq.nd rfl (by walk_at "lc") (Y.ct (Y.fG K rfl rfl) Y.lr rfl T.p_ (by decide +kernel) (Y.cons (Y.vS 0) Y.nil)))
   (Y.ae (Y.set (i:=3) bq.nd rfl (by walk_at "lc") (Y.op (Y.bN K rfl) Y.bO (Y.lst (Y.cons Y.bl Y.nil)) (Y.cb (Y.ar K rfl) Y.aC rfl T.bw (by decide +kernel) (Y.cons (Y.vS 2) Y.nil))))
   (Y.ae (Y.set (i:=4) bq.nd rfl (by walk_at "lc") Y.int)
   (Y.ae (Y.eY JJ rfl (Y.anyS K rfl (Y.vS 1)) (Y.jG (n:=2) K rfl rfl (Y.bg (Y.aP (i:=5) bq.nd rfl (by walk_at "lc")) (Y.bg (Y.aP (i:=6) bq.nd rfl (by walk_at "lc")) Y.d9))) (Y.ae (Y.gZ (Y.tw (Y.An (Y.cx (Y.cy K rfl (Jt hu)) Y.di (Y.vS 5) (Y.vS 6)) (Y.An (Y.lu (Y.mh rF Y.d8 kx Y.d8 Y.int (Y.vS 5) (Y.cb (Y.ar K rfl) Y.aC rfl T.bw (by decide +kernel) (Y.cons (Y.vS 2) Y.nil)))) (Y.p0 (Y.lu (Y.mh rF Y.d8 kx Y.d8 Y.int (Y.vS 6) (Y.cb (Y.ar K rfl) Y.aC rfl T.bw (by decide +kernel) (Y.cons (Y.vS 2) Y.nil)))))))) (Y.aQ (Y.ret Y.aL)) Y.dm)
   (Y.ae (Y.gZ (Y.tw (Y.An (Y.lu (Y.kM K rfl (Y.ix (Y.a_ K rfl) Y.aq (Y.vS 3) (Y.vS 5)))) (Y.p0 (Y.lu (Y.kM K rfl (Y.ix (Y.a_ K rfl) Y.aq (Y.vS 3) (Y.vS 6))))))) (Y.aQ (Y.ret Y.aL)) Y.dm)
   (Y.ae (Y.eY JJ rfl (Y.pA rfl T.d_ (Y.cons (Y.cb (Y.ar K rfl) Y.aC rfl T.bw (by decide +kernel) (Y.cons (Y.vS 2) Y.nil)) Y.nil)) (Y.aP (i:=7) bq.nd rfl (by walk_at "lc")) (Y.aQ (Y.gZ (Y.tw (Y.mQ (Y.kM K rfl (Y.ix (Y.a_ K rfl) Y.aq (Y.vS 3) (Y.vS 7))) (Y.mQ (Y.cx (Y.mw K rfl (Jt hu)) Y.lH (Y.vS 7) (Y.vS 5)) (Y.mQ (Y.cx (Y.mw K rfl (Jt hu)) Y.lH (Y.vS 7) (Y.vS 6)) (Y.kB (Y.cx kx Y.d8 (Y.ix (Y.a_ K rfl) Y.aq (Y.vS 2) (Y.vS 7)) (Y.cb (cW rfl) Y.gC rfl T.iO (by decide +kernel) (Y.cons (Y.ix (Y.a_ K rfl) Y.aq (Y.vS 2) (Y.vS 5)) (Y.cons (Y.ix (Y.a_ K rfl) Y.aq (Y.vS 2) (Y.vS 6)) Y.nil))))))))) (Y.aQ (Y.ret Y.aL)) Y.dm)))
   (Y.ae (Y.asg Y.bl (Y.gG (Y.vS 3) (Y.vS 5)))
   (Y.ae (Y.asg Y.bl (Y.gG (Y.vS 3) (Y.vS 6)))
   (Y.ae (Y.expr (Y.bm K rfl PySem.F.slot_list_append PySem.F.type_list_append bC Y.bQ (Y.vS 2) (Y.cons (Y.op (Y.ak K rfl) Y.aj (Y.ix (Y.a_ K rfl) Y.aq (Y.vS 2) (Y.vS 5)) (Y.ix (Y.a_ K rfl) Y.aq (Y.vS 2) (Y.vS 6))) Y.nil)))
   (Y.ae (Y.expr (Y.bm K rfl PySem.F.slot_list_append PySem.F.type_list_append bC Y.bQ (Y.vS 3) (Y.cons Y.bl Y.nil)))
   (Y.aQ (Y.set (i:=4) bq.nd rfl (by walk_at "lc") (Y.op (Y.ak K rfl) Y.aj (Y.vS 4) (Y.ix (Y.a_ K rfl) Y.aq (Y.vS 2) (Y.neg Y.int)))))))))))))
   (Y.ae (Y.gZ (Y.cx (Y.mw K rfl (Jt hu)) Y.lH (Y.cb (Y.ar K rfl) Y.aC rfl T.bw (by decide +kernel) (Y.cons (Y.kZ (osc:=aa aV) (ON:=["counts","paper","weights","standing","total","one","other","k"]) (own:=["mark"]) (N:=["mark","counts","paper","weights","standing","total","one","other","k"]) ⟨rfl,by decide +kernel,rfl,by decide +kernel,by decide +kernel,by decide +kernel,by decide +kernel,by decide +kernel⟩ rfl rfl rfl rfl (Y.anyS K rfl (Y.vS 3)) (fun _ _ _ _=>(Z.aP (i:=0) (show List.Nodup (["mark","counts","paper","weights","standing","total","one","other","k"]:List Str) by decide +kernel) rfl (by walk_at "lc"))) (fun _ _ _ _=>(Y.Gy (Y.kM K rfl (Y.vS 0)))) (fun _ _ _ _=>(Y.vS 0))) Y.nil)) Y.int) (Y.aQ (Y.ret Y.aL)) Y.dm)
   (Y.aQ (Y.ret (Y.vS 4)))))))),?_⟩
 refine av fun N hN=>?_;walk_at "rt";refine hN _ ?_;clear hN N;refine av fun N hN=>?_;wp_walk using aB,J8,CB;refine⟨by decide,by lia,by lia,Jj (show _<=20 by lia) (by decide),?_⟩
 refine hN _ ?_;clear hN N;refine av fun N hN=>?_;walk_at "rt";refine hN _ ?_;clear hN N;refine av fun N hN=>?_;walk_at "rt";refine cM (fun rest μ=>∃(todo:List (Int×Int)) (ws:List Int) (sd:List Bool) (v:Int) (o5 o6 o7:Option L2.T),rest=aR todo/\sd.length=ws.length/\todo.length+ws.length<=40/\putAll (num cs 0) cs.length 0 ps=putAll (df ws sd 0) ws.length v todo/\μ=[.tr (.tup (nI cs)),.tr (.tup (aR ps)),.bx (.lst (nI ws)),.bx (.lst (bT sd)),.tr (.int v),sl o5,sl o6,sl o7])
  ⟨ps,cs,List.replicate cs.length true,0,none,none,none,rfl,JH ..,by lia,by rw[qz],rfl⟩ ?_ ?_
 ·rintro μ ⟨todo,ws,sd,v,o5,o6,o7,e,hl,h40,hp,rfl⟩;have e0:todo=[]:=by
   cases todo with
   |nil=>rfl
   |cons=>cases e
  subst e0;show N _;refine hN _ ?_;clear hN N;refine av fun N hN=>?_;walk_at "rt";refine cO (fun rest acc μ=>∃(done todo:List Bool),done++todo=sd/\rest=bT todo/\acc=bT (done.filter fun b=>b)/\μ=[.tr (.tup (nI cs)),.tr (.tup (aR ps)),.bx (.lst (nI ws)),.bx (.lst (bT sd)),.tr (.int v),sl o5,sl o6,sl o7]) ⟨[],sd,rfl,rfl,rfl,rfl⟩ ?_ ?_
  ·rintro acc μ ⟨done,todo,e1,e2,rfl,rfl⟩;have e3:todo=[]:=by
    cases todo with
    |nil=>rfl
    |cons=>cases e2
   subst e3;rw[J7] at e1;subst e1;refine⟨rfl,?_⟩;have hw:b_ cs ps=if (done.filter fun b=>b).length=1 then .int v else .aL:=by
    unfold b_;rw[hp];show (if (df ws done 0).length=1 then _ else _)=_
    rw[rL ws done 0 hl]
   by_cases c:(done.filter fun b=>b).length=1
   ·wp_walk using j6;rw[IY (KY (show ((done.filter fun b=>b).length:Int)=1 by lia))]
    refine hN _ ?_;clear hN N;walk_at "rt";rw[hw,Ja c] at q;exact q
   ·wp_walk using j6;rw[Ja (show ¬ ((done.filter fun b=>b).length:Int)=1 by lia)]
    rw[hw,IY c] at q;exact q
  ·rintro t r acc μ M ⟨done,todo,e1,e2,rfl,rfl⟩ k
   cases todo with
   |nil=>cases e2
   |cons b todo =>
    obtain⟨rfl,rfl⟩:=List.cons.inj e2;have hd:=(List.filter_sublist (p:=fun b=>b) (l:=done)).length_le;have hdl:done.length<=sd.length:=by rw[<- e1,IX];exact K5 _ _
    refine⟨rfl,by rw[j6];exact Jo (show _<=40 by lia) (by decide),?_⟩
    cases b with
    |true =>
     walk_at "rt";refine k _ _ ⟨done++[true],todo,by rw[<- e1];simp,rfl,?_,rfl⟩
     rw[ML];unfold bT;rw[Jn];rfl
    |false =>
     walk_at "rt";refine k _ _ ⟨done++[false],todo,by rw[<- e1];simp,rfl,?_,rfl⟩
     rw[ML];exact (Jv bT (J7 _)).symm
 ·rintro t ts μ M ⟨todo,ws,sd,v,o5,o6,o7,e,hl,h40,hp,rfl⟩ k
  cases todo with
  |nil=>cases e
  |cons pp todo =>
   obtain⟨rfl,rfl⟩:=List.cons.inj e;clear e;obtain⟨a,b⟩:=pp;rw[Jf] at h40;have none_:dE (df ws sd 0) a b=false->Qt (.tr .aL) []:=fun hm=>by
    have:b_ cs ps=.aL:=by
     unfold b_;rw[hp];show (match (match dI (df ws sd 0) ws.length a b with
      |some (st',v')=>putAll st' (ws.length+1) (v+v') todo
      |none=>none) with
      |some (st,w)=>if st.length=1 then L2.T.int w else .aL
      |none=>.aL)=_
     rw[BX hm]
    rw[this] at q;exact q
   walk_at "rt";refine av fun M2 h2'=>?_;walk_at "rt";rw[aB];by_cases hab:a=b
   ·rw[Ja hab];exact none_ (iS (.inl hab))
   rw[IY hab];have outA:¬ (0<=a/\a<(ws.length:Int))->Qt (.tr .aL) []:=fun h=>none_ (iS (.inr (.inl fun v e=>by
    obtain⟨j,rfl,_,e3⟩:=cL.mp e;have:=(Ji.mp e3).1;exact h ⟨by lia,by lia⟩)))
   have outB:¬ (0<=b/\b<(ws.length:Int))->Qt (.tr .aL) []:=fun h=>none_ (iS (.inr (.inr fun v e=>by
    obtain⟨j,rfl,_,e3⟩:=cL.mp e;have:=(Ji.mp e3).1;exact h ⟨by lia,by lia⟩)))
   by_cases a0:0<=a
   ·by_cases a1:a<(ws.length:Int)
    ·rw[Jz a0];show (if ¬ a<(ws.length:Int) then _ else _)
     rw[IY (KY a1)];by_cases b0:0<=b
     ·by_cases b1:b<(ws.length:Int)
      ·rw[Jz b0];show (if ¬ b<(ws.length:Int) then _ else _)
       rw[IY (KY b1)];clear outA outB;obtain⟨a,rfl⟩:∃ n:Nat,a=n:=⟨a.toNat,by lia⟩
       obtain⟨b,rfl⟩:∃ n:Nat,b=n:=⟨b.toNat,by lia⟩
       have la:a<ws.length:=by lia
       have lb:b<ws.length:=by lia
       refine h2' _ ?_;clear h2' M2;have wa:ws[a]?=some ws[a]:=IV la;have wb:ws[b]?=some ws[b]:=IV lb;refine av fun M2 h2'=>?_
       cases sa:sd[a]? with
       |none=>rw[Jx,hl] at sa;lia
       |some ba =>
       cases sb:sd[b]? with
       |none=>rw[Jx,hl] at sb;lia
       |some bb =>
       cases ba with
       |false =>
        wp_walk using iU sa;exact none_ (iS (.inr (.inl fun v e=>by
         obtain⟨j,e1,e2,_⟩:=cL.mp e
         cases Int.ofNat.inj e1
         rw[sa] at e2;cases e2)))
       |true =>
       cases bb with
       |false =>
        wp_walk using iU sa,iU sb;exact none_ (iS (.inr (.inr fun v e=>by
         obtain⟨j,e1,e2,_⟩:=cL.mp e
         cases Int.ofNat.inj e1
         rw[sb] at e2;cases e2)))
       |true =>
       wp_walk using iU sa,iU sb;refine h2' _ ?_;clear h2' M2;have nab:a≠b:=fun z=>hab (by rw[z])
       have hmi:=zN nab sa sb wa wb;generalize ws[a]=x at *;generalize ws[b]=y at *;refine av fun M2 h2'=>?_;wp_walk using aB;refine⟨by lia,by lia,?_⟩
       rw[J8,Ky];refine cM (fun rest μ=>∃(j:Nat) (o7:Option L2.T),j<=ws.length/\(∀(i:Nat) (u:Int),i<j->sd[i]?=some true->ws[i]?=some u->i≠a->i≠b->(if x<y then y else x)<=u)/\(rest=(List.range' j (ws.length-j)).map fun k:Nat=>L2.T.int (0+(k:Int)))/\μ=[.tr (.tup (nI cs)),.tr (.tup (aR ps)),.bx (.lst (nI ws)),.bx (.lst (bT sd)),.tr (.int v),.tr (.int (a:Int)),.tr (.int (b:Int)),sl o7]) ⟨0,o7,JC _,fun i u h=>by lia,rfl,rfl⟩ ?_ ?_
       ·rintro μ ⟨j,o7,hj,hall,e,rfl⟩;have hj2:j=ws.length:=by
         have:=Jv List.length e;rw[IW,JF,JG] at this;lia
        have hm:dE (df ws sd 0) (a:Int) (b:Int)=true:=hmi.mpr fun i u h1 h2 n1 n2=>hall i u (by have:=(Ji.mp h2).1;lia) h1 h2 n1 n2
        have hp2:=Ag hl sa sb wa wb hm;have hp3:putAll (num cs 0) cs.length 0 ps=putAll (df (ws++[x+y]) ((sd.set a false).set b false++[true]) 0) (ws++[x+y]).length (v+(x+y)) todo:=by
         rw[hp,IX];show (match dI (df ws sd 0) ws.length (a:Int) (b:Int) with
          |some (st',v')=>putAll st' (ws.length+1) (v+v') todo
          |none=>none)=_
         rw[hp2];rfl
        clear hp hp2 hm hall hmi none_;show M2 _;refine h2' _ ?_;clear h2' M2;refine av fun M2 h2'=>?_;wp_walk using Ir (show a<sd.length by lia)
        rw[xK];refine h2' _ ?_;clear h2' M2;refine av fun M2 h2'=>?_;wp_walk using Ir (show b<(sd.set a false).length by rw[JE];lia)
        rw[xK];refine h2' _ ?_;clear h2' M2;refine av fun M2 h2'=>?_;wp_walk using nA wa,nA wb;refine⟨by rw[aB];exact Jo (show ws.length<=40 by lia) (by decide),?_⟩
        refine h2' _ ?_;clear h2' M2;refine av fun M2 h2'=>?_;walk_at "rt";refine⟨by rw[j6,JE,JE,hl];exact Jo (show ws.length<=40 by lia) (by decide),?_⟩
        refine h2' _ ?_;clear h2' M2;have el:cc (nI ws++[L2.T.int (x+y)]) (-1)=some (.int (x+y)):=by
         unfold cc;have e:jT (nI ws++[L2.T.int (x+y)]).length (-1)=some ws.length:=by
          unfold jT;rw[IX,aB,Jr,IY (by decide),Ja (by lia)]
          congr 1;lia
         rw[e];show (nI ws++[L2.T.int (x+y)])[ws.length]?=_;rw[Kk (by rw[aB];exact Jb _),aB,L3]
         rfl
        wp_walk using el;refine k _ ⟨todo,ws++[x+y],(sd.set a false).set b false++[true],v+(x+y),some (.int (a:Int)),some (.int (b:Int)),o7,rfl,?_,?_,hp3,?_⟩
        ·rw[IX,IX,JE,JE,hl];rfl
        ·rw[IX,Jr];lia
        ·rw[e8];unfold bT;rw[Jn];rfl
       ·rintro t r μ M3 ⟨j,o7,hj,hall,e,rfl⟩ k3;have hj2:j<ws.length:=by
         have:=Jv List.length e;rw[IW,JF,Jf] at this;lia
        rw[show ws.length-j=(ws.length-(j+1))+1 by lia,Kb,Jm] at e
        obtain⟨rfl,rfl⟩:=List.cons.inj e;clear e;rw[Od];have wj:ws[j]?=some ws[j]:=IV hj2;have next:(sd[j]?=some true->j≠a->j≠b->(if x<y then y else x)<=ws[j])->M3 [.tr (.tup (nI cs)),.tr (.tup (aR ps)),.bx (.lst (nI ws)),.bx (.lst (bT sd)),.tr (.int v),.tr (.int (a:Int)),.tr (.int (b:Int)),.tr (.int (j:Int))]:=fun hj3=>k3 _ ⟨j+1,some _,hj2,fun i u h1 h2 h3 n1 n2=>by
         rcases KP i j with c|c
         ·exact hall i u c h2 h3 n1 n2
         ·have:i=j:=by lia
          subst this;rw[wj] at h3;cases h3;exact hj3 h2 n1 n2,rfl,rfl⟩
        cases hsj:sd[j]? with
        |none=>rw[Jx,hl] at hsj;lia
        |some bb =>
         cases bb with
         |false =>
          wp_walk using iU hsj;exact next fun z=>by rw[hsj] at z;cases z
         |true =>
          wp_walk using iU hsj,nA wj,nA wa,nA wb;by_cases ja:(j:Int)=(a:Int)
          ·rw[IY (KY ja)];exact next fun _ z=>absurd (Int.ofNat.inj ja) z
          ·rw[Ja ja];by_cases jb:(j:Int)=(b:Int)
           ·rw[IY (KY jb)];exact next fun _ _ z=>absurd (Int.ofNat.inj jb) z
           ·rw[Ja jb];by_cases c:ws[j]<(if y > x then y else x)
            ·rw[Ja c];refine none_ ?_
             cases hm:dE (df ws sd 0) (a:Int) (b:Int) with
             |false=>rfl
             |true =>
              have:=hmi.mp hm j ws[j] hsj wj (fun z=>ja (by rw[z])) (fun z=>jb (by rw[z]))
              have c':ws[j]<(if x<y then y else x):=c
              lia
            ·rw[IY c];exact next fun _ _ _=>Int.not_lt.mp c
      ·rw[Jz b0];show (if ¬ b<(ws.length:Int) then _ else _)
       rw[Ja b1];exact outB fun h=>b1 h.2
     ·rw[Jp b0];exact outB fun h=>b0 h.1
    ·rw[Jz a0];show (if ¬ a<(ws.length:Int) then _ else _)
     rw[Ja a1];exact outA fun h=>a1 h.2
   ·rw[Jp a0];exact outA fun h=>a0 h.1
theorem Dk(T:Txt K mg)(F:HasFn K mg "_law_due" bV ["counts","lengths","paper"])(h_law_walked:ah P w K mg base cF 1 "_law_walked" ["counts","paper"] (spT K [false,false] qY))(h_law_fits:ah P w K mg base cF 1 "_law_fits" ["lengths"] (spT K [false] Ek))(h_law_cost:ah P w K mg base cF 1 "_law_cost" ["counts","lengths"] (spT K [false,false] qI)):ah P w K mg base cF 2 "_law_due" ["counts","lengths","paper"] (spT K [false,false,false] lD):=by
 refine F.mD gU [false,false,false] rfl (by decide) (fun args Qt hl h f cdv A outer s H E hr=>?_)
 have hu:=cg hr;obtain⟨cs,ls,ps,rfl,h1,h20,hll,hp,hL,q⟩:=h;refine⟨_,(Y.ae (Y.gZ (Y.cx (Y.jt K rfl (jF hr)) Y.jm (Y.cb (Y.ar K rfl) Y.aC rfl T.bw (by decide +kernel) (Y.cons (Y.vS 0) Y.nil)) Y.int) (Y.aQ (Y.ret (Y.and (Y.cmp (Y.jt K rfl (jF hr)) Y.jm (Y.vS 2) (Y.tup Y.nil)) (Y.one (Y.cmp (Y.jt K rfl (jF hr)) Y.jm (Y.vS 1) (Y.tup (Y.cons Y.int Y.nil))))))) Y.dm)
   (Y.ae (Y.set (i:=3) gU.nd rfl (by walk_at "lc") (Y.fn K rfl h_law_walked (hr.mono (by decide)) rfl aH (Y.cons (Y.vS 0) (Y.cons (Y.vS 2) Y.nil))))
   (Y.aQ (Y.ret (Y.and (Y.cmp qK Y.qD (Y.vS 3) Y.aL) (Y.and (Y.fn K rfl h_law_fits (hr.mono (by decide)) rfl aH (Y.cons (Y.vS 1) Y.nil)) (Y.one (Y.cmp (Y.jt K rfl (jF hr)) Y.jm (Y.fn K rfl h_law_cost (hr.mono (by decide)) rfl aH (Y.cons (Y.vS 0) (Y.cons (Y.vS 1) Y.nil))) (Y.vS 3))))))))),?_⟩
 refine av fun N hN=>?_;by_cases c1:cs.length=1
 ·have hsh:jB cs ls ps=(decide (ps.length=0) && decide (ls.getD 0 0=1)):=Ja c1;obtain⟨l0,e0⟩:=KO.mp (hll.trans c1);subst e0;have el:(aR ps).length=ps.length:=IW ..;wp_walk using aB,Ja (show (cs.length:Int)=1 by lia),el
  rw[hsh] at q;refine⟨fun _=>true,fun j x y _ e=>(by simp at e),?_⟩
  have ea:(if false=true then !e7 (aR ps).length ([]:List L2.T).length (fun _=>true) else e7 (aR ps).length ([]:List L2.T).length fun _=>true)=decide (ps.length=0):=by
   rw[IY (by decide)]
   unfold e7;rw[el,JG,Nat.min_zero];rfl
  rw[ea];rcases Lv ps.length with c0|c0
  ·rw[Jz c0] at q ⊢;walk_at "rt";refine⟨by decide,fun _=>l0 == 1,fun j x y e1 e2=>?_,?_⟩
   ·cases j with
    |zero =>
     cases e1;cases e2
     exact tP.flat rfl rfl
    |succ j=>cases e1
   ·have eb:(if false=true then !e7 (nI [l0]).length [L2.T.int 1].length (fun _=>l0 == 1) else e7 (nI [l0]).length [L2.T.int 1].length fun _=>l0 == 1)=decide (l0=1):=by
     show ((l0 == 1) && true && true)=_;rw[Ma,Ma];rfl
    rw[eb];exact q
  ·rw[Jp (by lia)] at q ⊢
   exact q
 wp_walk using aB;rw[IY (by lia)]
 refine hN _ ?_;clear hN N;refine av fun N hN=>?_;walk_at "rt";refine⟨cs,ps,rfl,by lia,h20,hp,?_⟩
 walk_at "rt";refine hN _ ?_;clear hN N;have hsh:jB cs ls ps=(match b_ cs ps with
   |.int w=>lL ls && decide (dot cs ls=w)
   |_=>false):=IY (by lia)
 have two:(∃ w,b_ cs ps=.int w)\/b_ cs ps=.aL:=by
  unfold b_;split
  ·split
   ·exact .inl ⟨_,rfl⟩
   ·exact .inr rfl
  ·exact .inr rfl
 rcases two with ⟨w,e⟩|e
 ·rw[e] at hsh ⊢;walk_at "rt";refine⟨ls,rfl,hL,?_⟩
  cases ho:lL ls with
  |false =>
   walk_at "rt";rw[ho] at hsh;rw[hsh] at q;exact q
  |true =>
   walk_at "rt";refine⟨_,cs,ls,rfl,rfl,h20,hL.2.2,?_⟩;walk_at "rt";rw[ho] at hsh;rw[hsh] at q;exact q
 ·rw[e] at hsh ⊢;walk_at "rt";rw[hsh] at q;exact q
def Ln(n:Nat)(ls:List Int):Prop:=ls.length=n/\∀ x∈ls,0<=x/\x<=20
theorem Ln.set{ls:List Int}(h:Ln n ls)(a:Nat){v:Int}(h1:0<=v)(h2:v<=20):Ln n (ls.set a v):=⟨by rw[JE,h.1],fun x hx=>by
 rcases Nj hx with z|z
 ·exact h.2 x z
 ·rw[z];exact⟨h1,h2⟩⟩
theorem pS(m:List Int)(c:Nat)(y:Int):(nI m).set c (.int y)=nI (m.set c y):=by unfold nI;rw[List.map_set]
theorem Bg{c:Nat}(h:c<m.length):jT (nI m).length (c:Int)=some c:=by rw[Dj (by lia) (by rw[aB];lia)];simp
theorem zA{c:Nat}(h:c<m.length):cc (nI m) (c:Int)=some (.int m[c]):=cB (by unfold nI;rw[Jy,IV h];rfl)
def wx:fA:=fun args Q=>∃(s:L2.T) (n:Nat) (ls:List Int),args=[s,.tup (nI ls)]/\dF s/\1<=n/\n<=20/\Ln n ls/\∀(ls':List Int) (s':L2.T),dF s'->Ln n ls'->Q (.tr (.tup (nI ls'))) [s']
theorem vg(T:Txt K mg)(F:HasFn K mg "_law_bent_lengths" aA ["seed","lengths"])(h_law_draw:ah P w K mg base cF 1 "_law_draw" ["seed","most"] (spT K [true,false] kG)):ah P w K mg base cF 2 "_law_bent_lengths" ["seed","lengths"] (spT K [true,false] wx):=by
 refine F.mD bt [true,false] rfl (by decide) (fun args Qt hl h f cdv A outer s H E hr=>?_)
 have hu:=cg hr;obtain⟨sd,n,ls,rfl,hsd,h1,h20,hL,q⟩:=h;refine⟨_,(Y.ae (Y.set (i:=2) bt.nd rfl (by walk_at "lc") (Y.ct (Y.fG K rfl rfl) Y.lr rfl T.p_ (by decide +kernel) (Y.cons (Y.vS 1) Y.nil)))
   (Y.ae (Y.set (i:=3) bt.nd rfl (by walk_at "lc") (Y.fn K rfl h_law_draw (hr.mono (by decide)) rfl aH (Y.cons (Y.vS 0) (Y.cons (Y.cb (Y.ar K rfl) Y.aC rfl T.bw (by decide +kernel) (Y.cons (Y.vS 2) Y.nil)) Y.nil))))
   (Y.ae (Y.set (i:=4) bt.nd rfl (by walk_at "lc") (Y.fn K rfl h_law_draw (hr.mono (by decide)) rfl aH (Y.cons (Y.vS 0) (Y.cons (Y.cb (Y.ar K rfl) Y.aC rfl T.bw (by decide +kernel) (Y.cons (Y.vS 2) Y.nil)) Y.nil))))
   (Y.ae (Y.set (i:=5) bt.nd rfl (by walk_at "lc") (Y.fn K rfl h_law_draw (hr.mono (by decide)) rfl aH (Y.cons (Y.vS 0) (Y.cons Y.int Y.nil))))
   (Y.ae (Y.gZ (Y.cx (Y.cy K rfl (Jt hu)) Y.di (Y.vS 5) Y.int) (Y.aQ (Y.asg (Y.cb (eW rfl) Y.lV rfl T.sg (by decide +kernel) (Y.cons Y.int (Y.cons (Y.op (Y.ak K rfl) Y.aj (Y.ix (Y.a_ K rfl) Y.aq (Y.vS 2) (Y.vS 3)) Y.int) Y.nil))) (Y.gG (Y.vS 2) (Y.vS 3)))) Y.dm)
   (Y.ae (Y.gZ (Y.cx (Y.cy K rfl (Jt hu)) Y.di (Y.vS 5) Y.int) (Y.aQ (Y.asg (Y.cb (cW rfl) Y.gC rfl T.iO (by decide +kernel) (Y.cons Y.int (Y.cons (Y.op cJ Y.bM (Y.ix (Y.a_ K rfl) Y.aq (Y.vS 2) (Y.vS 3)) Y.int) Y.nil))) (Y.gG (Y.vS 2) (Y.vS 3)))) Y.dm)
   (Y.ae (Y.gZ (Y.cx (Y.cy K rfl (Jt hu)) Y.di (Y.vS 5) Y.int) (Y.aQ (Y.asg (Y.tup (Y.cons (Y.ix (Y.a_ K rfl) Y.aq (Y.vS 2) (Y.vS 4)) (Y.cons (Y.ix (Y.a_ K rfl) Y.aq (Y.vS 2) (Y.vS 3)) Y.nil))) (Y.jG (n:=2) K rfl rfl (Y.bg (Y.gG (Y.vS 2) (Y.vS 3)) (Y.bg (Y.gG (Y.vS 2) (Y.vS 4)) Y.d9))))) Y.dm)
   (Y.ae (Y.gZ (Y.cx (Y.cy K rfl (Jt hu)) Y.di (Y.vS 5) Y.int) (Y.aQ (Y.asg (Y.op (Y.ak K rfl) Y.aj Y.int (Y.fn K rfl h_law_draw (hr.mono (by decide)) rfl aH (Y.cons (Y.vS 0) (Y.cons Y.int Y.nil)))) (Y.gG (Y.vS 2) (Y.vS 3)))) Y.dm)
   (Y.aQ (Y.ret (Y.ct (Y.cw K rfl) Y.cK rfl T.c_ (by decide +kernel) (Y.cons (Y.vS 2) Y.nil)))))))))))),?_⟩
 refine av fun N hN=>?_;walk_at "rt";refine hN _ ?_;clear hN N;refine av fun N hN=>?_;wp_walk using aB,hL.1;refine⟨sd,n,rfl,hsd,by lia,by lia,fun v s2 hs2 v0 v1=>?_⟩
 obtain⟨a,rfl⟩:∃ a:Nat,v=a:=⟨v.toNat,by lia⟩
 walk_at "rt";refine hN _ ?_;clear hN N;refine av fun N hN=>?_;wp_walk using aB,hL.1;refine⟨s2,n,rfl,hs2,by lia,by lia,fun v s3 hs3 w0 w1=>?_⟩
 obtain⟨b,rfl⟩:∃ b:Nat,v=b:=⟨v.toNat,by lia⟩
 walk_at "rt";refine hN _ ?_;clear hN N;refine av fun N hN=>?_;walk_at "rt";refine⟨s3,4,rfl,hs3,by decide,by decide,fun way s4 hs4 x0 x1=>?_⟩
 walk_at "rt";refine hN _ ?_;clear hN N;have ha:∀{m:List Int},Ln n m->a<m.length:=fun h=>by rw[h.1];lia
 have hb:∀{m:List Int},Ln n m->b<m.length:=fun h=>by rw[h.1];lia
 refine av fun N hN=>?_;wp_walk using zA (ha hL),Bg (ha hL),pS;have qa:=hL.2 _ (JV (ha hL))
 suffices k:∀ m,Ln n m->N [.pb s4,.tr (.tup (nI ls)),.bx (.lst (nI m)),.tr (.int (a:Int)),.tr (.int (b:Int)),.tr (.int way)] by
  split
  ·exact k _ (hL.set a (by split<;>lia) (by split<;>lia))
  ·exact k _ hL
 intro m hm;refine hN _ ?_;clear hN N;refine av fun N hN=>?_;wp_walk using zA (ha hm),Bg (ha hm),pS;have qa:=hm.2 _ (JV (ha hm))
 suffices k:∀ m,Ln n m->N [.pb s4,.tr (.tup (nI ls)),.bx (.lst (nI m)),.tr (.int (a:Int)),.tr (.int (b:Int)),.tr (.int way)] by
  split
  ·exact k _ (hm.set a (by split<;>lia) (by split<;>lia))
  ·exact k _ hm
 clear qa hm m;intro m hm;refine hN _ ?_;clear hN N;have qa:=hm.2 _ (JV (ha hm));have qb:=hm.2 _ (JV (hb hm));have hb1:b<(m.set a (m[b]'(hb hm))).length:=by rw[JE];exact hb hm
 refine av fun N hN=>?_;wp_walk using zA (ha hm),Bg (ha hm),pS,zA (hb hm),Bg hb1
 suffices k:∀ m,Ln n m->N [.pb s4,.tr (.tup (nI ls)),.bx (.lst (nI m)),.tr (.int (a:Int)),.tr (.int (b:Int)),.tr (.int way)] by
  split
  ·exact⟨by decide,k _ ((hm.set a qb.1 qb.2).set b qa.1 qa.2)⟩
  ·exact k _ hm
 clear qa qb hb1 hm m;intro m hm;refine hN _ ?_;clear hN N;refine av fun N hN=>?_;wp_walk using Bg (ha hm),pS
 suffices k:∀ m s,dF s->Ln n m->N [.pb s,.tr (.tup (nI ls)),.bx (.lst (nI m)),.tr (.int (a:Int)),.tr (.int (b:Int)),.tr (.int way)] by
  split
  ·refine⟨s4,20,rfl,hs4,by decide,by decide,fun v s5 hs5 y0 y1=>?_⟩
   wp_walk using Bg (ha hm),pS;exact k _ _ hs5 (hm.set a (by lia) (by lia))
  ·exact k _ _ hs4 hm
 intro m s hs hm;refine hN _ ?_;clear hN N;walk_at "rt";exact q m s hs hm
def vz:fA:=fun args Q=>∃(s:L2.T) (n:Nat) (ps:List (Int×Int)),args=[s,.tup (aR ps),.int (n:Int)]/\dF s/\1<=n/\n<=20/\ps.length<=19/\∀(ps':List (Int×Int)) (s':L2.T),dF s'->ps'.length<=20->Q (.tr (.tup (aR ps'))) [s']
theorem bP(ps:List (Int×Int)):(aR ps).length=ps.length:=IW ..
theorem dh(a b:List (Int×Int)):aR (a++b)=aR a++aR b:=Jn
theorem kq(xs:List (Int×Int))(n:Nat):Y.bJ (aR xs) none (some (n:Int))=aR (xs.take n):=by
 unfold Y.bJ;rw[HT.cQ,HT.d3,Ms,Lc];unfold aR;rw[IW,<- LA];congr 1;rw[Mk]
 omega
theorem gv(xs:List (Int×Int))(n:Nat):Y.bJ (aR xs) (some (n:Int)) none=aR (xs.drop n):=by
 unfold Y.bJ;rw[HT.cQ,HT.d3];unfold aR;rw[IW,<- Mb];rcases KP n xs.length with z|z
 ·rw[LN (by omega)]
  rw[JX (by simp)]
 ·rw[Nat.min_eq_right z,L3,List.take_zero,NL z];rfl
def DK(l:List (List (Int×Int))):List L2.T:=l.map fun p=>.tup (aR p)
theorem lC(l:List (List (Int×Int))):(DK l).length=l.length:=IW ..
theorem xV{xs:List L2.T}{μ:Mu}{Q:R->Mu->Prop}(q:Q (.tr (.bl (decide (xs.length=0)))) μ):Y.qP xs [] false μ Q:=by
 refine⟨fun _=>true,fun j x y _ e=>(by simp at e),?_⟩
 have ea:(if false=true then !e7 xs.length ([]:List L2.T).length (fun _=>true) else e7 xs.length ([]:List L2.T).length fun _=>true)=decide (xs.length=0):=by
  rw[IY (by decide)]
  unfold e7;rw[JG,Nat.min_zero];rfl
 rw[ea];exact q
theorem xJ(T:Txt K mg)(F:HasFn K mg "_law_bent_paper" aG ["seed","paper","many"])(h_law_draw:ah P w K mg base cF 1 "_law_draw" ["seed","most"] (spT K [true,false] kG)):ah P w K mg base cF 2 "_law_bent_paper" ["seed","paper","many"] (spT K [true,false,false] vz):=by
 refine F.mD aI [true,false,false] rfl (by decide) (fun args Qt hl h f cdv A outer s H E hr=>?_)
 have hu:=cg hr;obtain⟨sd,n,ps,rfl,hsd,h1,h20,hp,q⟩:=h;refine⟨_,(Y.ae (Y.gZ (Y.cx (Y.jt K rfl (jF hr)) Y.jm (Y.vS 1) (Y.tup Y.nil)) (Y.aQ (Y.ret (Y.ix (Y.a_ K rfl) Y.aq (Y.lst (Y.cons (Y.tup Y.nil) (Y.cons (Y.tup (Y.cons (Y.tup (Y.iz rfl rfl)) Y.nil)) (Y.cons (Y.tup (Y.cons (Y.tup (Y.iz rfl rfl)) Y.nil)) Y.nil)))) (Y.fn K rfl h_law_draw (hr.mono (by decide)) rfl aH (Y.cons (Y.vS 0) (Y.cons Y.int Y.nil)))))) Y.dm)
   (Y.ae (Y.set (i:=3) aI.nd rfl (by walk_at "lc") (Y.fn K rfl h_law_draw (hr.mono (by decide)) rfl aH (Y.cons (Y.vS 0) (Y.cons (Y.cb (Y.ar K rfl) Y.aC rfl T.bw (by decide +kernel) (Y.cons (Y.vS 1) Y.nil)) Y.nil))))
   (Y.ae (Y.asg (Y.ix (Y.a_ K rfl) Y.aq (Y.vS 1) (Y.vS 3)) (Y.jG (n:=2) K rfl rfl (Y.bg (Y.aP (i:=4) aI.nd rfl (by walk_at "lc")) (Y.bg (Y.aP (i:=5) aI.nd rfl (by walk_at "lc")) Y.d9))))
   (Y.ae (Y.set (i:=6) aI.nd rfl (by walk_at "lc") (Y.ix (Y.a_ K rfl) Y.aq (Y.lst (Y.cons (Y.fn K rfl h_law_draw (hr.mono (by decide)) rfl aH (Y.cons (Y.vS 0) (Y.cons (Y.op (Y.bN K rfl) Y.bO Y.int (Y.vS 2)) Y.nil))) (Y.cons (Y.op cJ Y.bM (Y.neg Y.int) (Y.fn K rfl h_law_draw (hr.mono (by decide)) rfl aH (Y.cons (Y.vS 0) (Y.cons (Y.vS 2) Y.nil)))) (Y.cons (Y.op (Y.ak K rfl) Y.aj (Y.vS 2) (Y.vS 3)) (Y.cons (Y.op (Y.bN K rfl) Y.bO Y.int (Y.vS 2)) Y.nil))))) (Y.fn K rfl h_law_draw (hr.mono (by decide)) rfl aH (Y.cons (Y.vS 0) (Y.cons Y.int Y.nil)))))
   (Y.ae (Y.set (i:=7) aI.nd rfl (by walk_at "lc") (Y.lst (Y.cons (Y.op (Y.ak K rfl) Y.aj (Y.cz K rfl (Y.vS 1) Y.kN (Y.kA (Y.vS 3))) (Y.cz K rfl (Y.vS 1) (Y.kA (Y.op (Y.ak K rfl) Y.aj (Y.vS 3) Y.int)) Y.kN)) (Y.cons (Y.op (Y.ak K rfl) Y.aj (Y.op (Y.ak K rfl) Y.aj (Y.cz K rfl (Y.vS 1) Y.kN (Y.kA (Y.vS 3))) (Y.tup (Y.cons (Y.ix (Y.a_ K rfl) Y.aq (Y.vS 1) (Y.vS 3)) Y.nil))) (Y.cz K rfl (Y.vS 1) (Y.kA (Y.vS 3)) Y.kN)) (Y.cons (Y.rev K rfl (Y.vS 1)) Y.nil)))))
   (Y.ae (Y.set (i:=7) aI.nd rfl (by walk_at "lc") (Y.op (Y.ak K rfl) Y.aj (Y.vS 7) (Y.lst (Y.cons (Y.op (Y.ak K rfl) Y.aj (Y.op (Y.ak K rfl) Y.aj (Y.cz K rfl (Y.vS 1) Y.kN (Y.kA (Y.vS 3))) (Y.tup (Y.cons (Y.tup (Y.cons (Y.vS 5) (Y.cons (Y.vS 4) Y.nil))) Y.nil))) (Y.cz K rfl (Y.vS 1) (Y.kA (Y.op (Y.ak K rfl) Y.aj (Y.vS 3) Y.int)) Y.kN)) (Y.cons (Y.op (Y.ak K rfl) Y.aj (Y.op (Y.ak K rfl) Y.aj (Y.cz K rfl (Y.vS 1) Y.kN (Y.kA (Y.vS 3))) (Y.tup (Y.cons (Y.tup (Y.cons (Y.vS 6) (Y.cons (Y.vS 5) Y.nil))) Y.nil))) (Y.cz K rfl (Y.vS 1) (Y.kA (Y.op (Y.ak K rfl) Y.aj (Y.vS 3) Y.int)) Y.kN)) Y.nil)))))
   (Y.ae (Y.set (i:=7) aI.nd rfl (by walk_at "lc") (Y.op (Y.ak K rfl) Y.aj (Y.vS 7) (Y.lst (Y.cons (Y.op (Y.ak K rfl) Y.aj (Y.op (Y.ak K rfl) Y.aj (Y.cz K rfl (Y.vS 1) Y.kN (Y.kA (Y.vS 3))) (Y.tup (Y.cons (Y.tup (Y.cons (Y.vS 4) (Y.cons (Y.vS 4) Y.nil))) Y.nil))) (Y.cz K rfl (Y.vS 1) (Y.kA (Y.op (Y.ak K rfl) Y.aj (Y.vS 3) Y.int)) Y.kN)) (Y.cons (Y.op (Y.ak K rfl) Y.aj (Y.vS 1) (Y.tup (Y.cons (Y.tup (Y.cons (Y.op cJ Y.bM (Y.op (Y.bN K rfl) Y.bO Y.int (Y.vS 2)) Y.int) (Y.cons (Y.vS 6) Y.nil))) Y.nil))) Y.nil)))))
   (Y.aQ (Y.ret (Y.ix (Y.a_ K rfl) Y.aq (Y.vS 7) (Y.fn K rfl h_law_draw (hr.mono (by decide)) rfl aH (Y.cons (Y.vS 0) (Y.cons (Y.cb (Y.ar K rfl) Y.aC rfl T.bw (by decide +kernel) (Y.cons (Y.vS 7) Y.nil)) Y.nil))))))))))))),?_⟩
 refine av fun N hN=>?_;walk_at "rt";refine xV ?_;rw[bP];rcases Lv ps.length with c0|c0
 ·rw[Jz c0];walk_at "rt";refine⟨by decide,by decide,by decide,by decide,by decide,sd,3,rfl,hsd,by decide,by decide,fun v s2 hs2 v0 v1=>?_⟩
  rcases (show v=0\/v=1\/v=2 by lia) with rfl|rfl|rfl
  ·exact q [] s2 hs2 (by decide)
  ·exact q [(0,0)] s2 hs2 (by decide)
  ·exact q [(0,1)] s2 hs2 (by decide)
 rw[Jp (by lia)]
 walk_at "rt";refine hN _ ?_;clear hN N;refine av fun N hN=>?_;wp_walk using bP;refine⟨sd,ps.length,rfl,hsd,by lia,by lia,fun v s2 hs2 v0 v1=>?_⟩
 obtain⟨a,rfl⟩:∃ a:Nat,v=a:=⟨v.toNat,by lia⟩
 walk_at "rt";refine hN _ ?_;clear hN N;have ha:a<ps.length:=by lia
 have zA:cc (aR ps) (a:Int)=some (.tup [.int ps[a].1,.int ps[a].2]):=cB (by unfold aR;rw[Jy,IV ha];rfl)
 refine av fun N hN=>?_;wp_walk using zA;refine hN _ ?_;clear hN N;refine av fun N hN=>?_;walk_at "rt";refine⟨.inr ⟨by lia,by lia⟩,s2,2*(n:Int),rfl,hs2,by lia,by lia,fun u1 s3 hs3 _ _=>?_⟩
 walk_at "rt";refine⟨s3,(n:Int),rfl,hs3,by lia,by lia,fun u2 s4 hs4 _ _=>?_⟩
 walk_at "rt";refine⟨.inr ⟨by lia,by lia⟩,by decide,s4,4,rfl,hs4,by decide,by decide,fun v s5 hs5 v0 v1=>?_⟩
 obtain⟨x,ex⟩:∃ x:Int,cc [L2.T.int u1,L2.T.int (-1-u2),L2.T.int ((n:Int)+(a:Int)),L2.T.int (2*(n:Int))] v=some (.int x):=by
  rcases (show v=0\/v=1\/v=2\/v=3 by lia) with rfl|rfl|rfl|rfl
  ·exact⟨_,rfl⟩
  ·exact⟨_,rfl⟩
  ·exact⟨_,rfl⟩
  ·exact⟨_,rfl⟩
 wp_walk using ex;refine hN _ ?_;clear hN N;clear ex;generalize ps[a]=pa at *;obtain⟨y,z⟩:=pa;refine av fun N hN=>?_;wp_walk using zA;rw[show (a:Int)+1=((a+1:Nat):Int) from rfl,kq,gv,gv,show [L2.T.tup [L2.T.int y,L2.T.int z]]=aR [(y,z)] from rfl,show (aR ps).reverse=aR ps.reverse from List.map_reverse.symm,<- dh,<- dh,<- dh];have ht:(ps.take a).length=a:=by rw[JO];lia
 have hd:(ps.drop (a+1)).length=ps.length-(a+1):=Kq ..;have hd0:(ps.drop a).length=ps.length-a:=Kq ..;have hr:ps.reverse.length=ps.length:=LF ..;have e1:=kq ps a;have e2:=gv ps (a+1);rw[bP,bP,bP,bP,IX,ht,hd,hd0];generalize ps.take a=t at *;generalize ps.drop (a+1)=d at *;generalize ps.drop a=d0 at *;generalize ps.reverse=rv at *;have szl:∀ n:Nat,n<=100->n<=sizeLine:=fun n h=>Jj h (by decide)
 refine⟨szl _ (by lia),by decide,szl _ (by lia),szl _ (by simp;lia),by decide,?_⟩
 show N [_,_,_,_,_,_,_,.bx (.lst (DK [t++d,t++[(y,z)]++d0,rv]))];refine hN _ ?_;clear hN N;refine av fun N hN=>?_;wp_walk using show (a:Int)+1=((a+1:Nat):Int) from rfl,e1,e2,lC;have e3:∀ i j:Int,aR t++[L2.T.tup [L2.T.int i,L2.T.int j]]++aR d=aR (t++[(i,j)]++d):=fun i j=>by rw[dh,dh];rfl
 have l1:(aR t).length+1<=sizeLine:=szl _ (by rw[bP,ht];lia)
 have l2:∀ i j:Int,(aR t++[L2.T.tup [L2.T.int i,L2.T.int j]]).length+(aR d).length<=sizeLine:=fun i j=>by
  rw[<- IX,e3,bP,IX,IX,ht,hd];exact szl _ (by simp;lia)
 refine⟨by decide,by decide,l1,l2 _ _,by decide,by decide,l1,l2 _ _,by decide,by decide,?_⟩
 rw[e3,e3];show N [_,_,_,_,_,_,_,.bx (.lst (DK [t++d,t++[(y,z)]++d0,rv,t++[(z,y)]++d,t++[(x,z)]++d]))];refine hN _ ?_;clear hN N;refine av fun N hN=>?_;wp_walk using show (a:Int)+1=((a+1:Nat):Int) from rfl,e1,e2,lC;refine⟨by decide,by decide,l1,l2 _ _,.inr ⟨by lia,by lia⟩,by decide,by decide,szl _ (by rw[bP];lia),by decide,by decide,?_⟩
 rw[e3,show aR ps++[L2.T.tup [L2.T.int (2*(n:Int)-2),L2.T.int x]]=aR (ps++[(2*(n:Int)-2,x)]) from by rw[dh];rfl]
 show N [_,_,_,_,_,_,_,.bx (.lst (DK [t++d,t++[(y,z)]++d0,rv,t++[(z,y)]++d,t++[(x,z)]++d,t++[(y,y)]++d,ps++[(2*(n:Int)-2,x)]]))];refine hN _ ?_;clear hN N;have hall:∀ l∈[t++d,t++[(y,z)]++d0,rv,t++[(z,y)]++d,t++[(x,z)]++d,t++[(y,y)]++d,ps++[(2*(n:Int)-2,x)]],l.length<=20:=by
  intro l hl;simp only[Jg,KN,M6] at hl;rcases hl with rfl|rfl|rfl|rfl|rfl|rfl|rfl<;>simp only[IX,Jr,ht,hd,hd0,hr]<;>lia
 generalize epp:[t++d,t++[(y,z)]++d0,rv,t++[(z,y)]++d,t++[(x,z)]++d,t++[(y,y)]++d,ps++[(2*(n:Int)-2,x)]]=pp at hall ⊢;have hpp:pp.length=7:=by rw[<- epp];rfl
 clear epp e3 l2 l1;wp_walk using lC,hpp;refine⟨s5,7,rfl,hs5,by decide,by decide,fun v s6 hs6 v0 v1=>?_⟩
 obtain⟨c,rfl⟩:∃ c:Nat,v=c:=⟨v.toNat,by lia⟩
 have hc:c<pp.length:=by lia
 have ec:cc (DK pp) (c:Int)=some (.tup (aR pp[c])):=cB (by unfold DK;rw[Jy,IV hc];rfl)
 wp_walk using ec;exact q _ _ hs6 (hall _ (JV hc))
def ln2(n:Nat)(ls:List Int)(ps:List (Int×Int)):Prop:=Ln n ls/\ps.length<=19
structure Dp (n p:Nat) (ds:List Int) (todo:List Nat):Prop where
 len:ds.length=n
 dN:∀ x∈ds,0<=x/\x<=(p:Int)+1
 low:∀ k∈todo,∀ v,ds[k]?=some v->v<=(p:Int)
 nd:todo.Nodup
 lt:∀ k∈todo,k<n
theorem Dp.step{p:Nat}{k:Nat}{todo:List Nat}(h:Dp n p ds (k::todo))(hk:k<ds.length):Dp n p (ds.set k (ds[k]+1)) todo:=by
 have nd:=JD.mp h.nd;have h0:=h.dN _ (JV hk);have h1:=h.low k Jl _ (IV hk);refine⟨by rw[JE,h.len],fun x hx=>?_,fun j hj v e=>?_,nd.2,fun j hj=>h.lt j (Jk _ hj)⟩
 ·rcases Nj hx with z|z
  ·exact h.dN x z
  ·rw[z];lia
 ·rw[Kx (fun z=>nd.1 (by rw[z];exact hj))] at e
  exact h.low j (Jk _ hj) v e
def Lf(n:Nat)(ls:List (List Nat)):Prop:=ls.flatten.Perm (List.range n)
theorem iY{a:Nat}(h:a<ls.length):(ls[a]++(ls.eraseIdx a).flatten).Perm ls.flatten:=by
 have e:ls=ls.take a++ls[a]::ls.drop (a+1):=by rw[List.getElem_cons_drop,KR]
 rw[Kl]
 conv=>rhs;rw[e]
 rw[LH,LH,JQ,<- J6,<- J6];exact L4.append_right _
theorem Lf.nd(h:Lf n ls):ls.flatten.Nodup:=h.nodup_iff.mpr L9
theorem Lf.lt(h:Lf n ls){x:Nat}(hx:x∈ls.flatten):x<n:=Km.mp (h.mem_iff.mp hx)
theorem Dp.first{p:Nat}{things:List Nat}(hl:ds.length=n)(hr:∀ x∈ds,0<=x/\x<=(p:Int))(nd:things.Nodup)(lt:∀ k∈things,k<n):Dp n p ds things:=
 ⟨hl,fun x hx=>by have:=hr x hx;lia,fun k _ v e=>(hr v (KA e)).2,nd,lt⟩
theorem CQ{v:Int}(h0:0<=v)(h1:v<n):seqIndex? v n=some v.toNat:=by
 unfold seqIndex?
 simp;omega
def EE:fA:=fun args Q=>∃(s:L2.T) (cs:List Int),args=[s,.tup (nI cs)]/\dF s/\1<=cs.length/\cs.length<=20/\∀(ls:List Int) (ps:List (Int×Int)) (s':L2.T),dF s'->ln2 cs.length ls ps->Q (.tr (.tup [.tup (nI ls),.tup (aR ps)])) [s']
def lsN(l:List (List Nat)):List L2.T:=l.map fun m=>.lst (nN m)
theorem Dl(T:Txt K mg)(F:HasFn K mg "_law_any" bA ["seed","counts"])(h_law_draw:ah P w K mg base cF 1 "_law_draw" ["seed","most"] (spT K [true,false] kG)):ah P w K mg base cF 2 "_law_any" ["seed","counts"] (spT K [true,false] EE):=by
 refine F.mD b6 [true,false] rfl (by decide) (fun args Qt hl h f cdv A outer s H E hr=>?_)
 have hu:=cg hr;obtain⟨sd,cs,rfl,hsd,h1,h20,q⟩:=h;refine⟨_,(Y.ae (Y.FF (j:=2) b6.nd rfl (by walk_at "lc") (osc:=aa bA) (ON:=["seed","counts","left","names","depths","paper","at","one","things","k"]) (own:=["k"]) (N:=["k","seed","counts","left","names","depths","paper","at","one","things",".k"]) ⟨rfl,by decide +kernel,rfl,by decide +kernel,by decide +kernel,by decide +kernel,by decide +kernel,by decide +kernel⟩ rfl rfl rfl rfl (Y.pA rfl T.d_ (Y.cons (Y.cb (Y.ar K rfl) Y.aC rfl T.bw (by decide +kernel) (Y.cons (Y.vS 1) Y.nil)) Y.nil)) (fun _ _ _ _=>(Z.aP (i:=0) (show List.Nodup (["k","seed","counts","left","names","depths","paper","at","one","things",".k"]:List Str) by decide +kernel) rfl (by walk_at "lc"))) (fun _ _ _ _=>Y.tG) (fun _ _ _ _=>(Y.lst (Y.cons (Y.vS 0) Y.nil))))
   (Y.ae (Y.set (i:=3) b6.nd rfl (by walk_at "lc") (Y.ct (Y.fG K rfl rfl) Y.lr rfl T.p_ (by decide +kernel) (Y.cons (Y.ct Y.og Y.yb rfl T.d_ (by decide +kernel) (Y.cons (Y.cb (Y.ar K rfl) Y.aC rfl T.bw (by decide +kernel) (Y.cons (Y.vS 1) Y.nil)) Y.nil)) Y.nil)))
   (Y.ae (Y.set (i:=4) b6.nd rfl (by walk_at "lc") (Y.op (Y.bN K rfl) Y.bO (Y.lst (Y.cons Y.int Y.nil)) (Y.cb (Y.ar K rfl) Y.aC rfl T.bw (by decide +kernel) (Y.cons (Y.vS 1) Y.nil))))
   (Y.ae (Y.set (i:=5) b6.nd rfl (by walk_at "lc") (Y.lst Y.nil))
   (Y.ae (Y.gw JJ (Y.cx qr Y.d8 (Y.cb (Y.ar K rfl) Y.aC rfl T.bw (by decide +kernel) (Y.cons (Y.vS 3) Y.nil)) Y.int) (Y.ae (Y.set (i:=6) b6.nd rfl (by walk_at "lc") (Y.fn K rfl h_law_draw (hr.mono (by decide)) rfl aH (Y.cons (Y.vS 0) (Y.cons (Y.cb (Y.ar K rfl) Y.aC rfl T.bw (by decide +kernel) (Y.cons (Y.vS 3) Y.nil)) Y.nil))))
   (Y.ae (Y.par (i:=7) (j:=8) rfl b6.nd rfl rfl (by decide) rfl rfl (Y.cons (Y.bm K rfl PySem.F.slot_list_pop PySem.F.type_list_pop fY Y.fO (Y.vS 3) (Y.cons (Y.vS 6) Y.nil)) (Y.cons (Y.bm K rfl PySem.F.slot_list_pop PySem.F.type_list_pop fY Y.fO (Y.vS 2) (Y.cons (Y.vS 6) Y.nil)) Y.nil)))
   (Y.ae (Y.set (i:=6) b6.nd rfl (by walk_at "lc") (Y.fn K rfl h_law_draw (hr.mono (by decide)) rfl aH (Y.cons (Y.vS 0) (Y.cons (Y.cb (Y.ar K rfl) Y.aC rfl T.bw (by decide +kernel) (Y.cons (Y.vS 3) Y.nil)) Y.nil))))
   (Y.ae (Y.expr (Y.bm K rfl PySem.F.slot_list_append PySem.F.type_list_append bC Y.bQ (Y.vS 5) (Y.cons (Y.tup (Y.cons (Y.vS 7) (Y.cons (Y.bm K rfl PySem.F.slot_list_pop PySem.F.type_list_pop fY Y.fO (Y.vS 3) (Y.cons (Y.vS 6) Y.nil)) Y.nil))) Y.nil)))
   (Y.ae (Y.xq (i:=8) b6.nd rfl (by walk_at "lc") (Y.op (Y.ak K rfl) Y.aj (Y.vS 8) (Y.bm K rfl PySem.F.slot_list_pop PySem.F.type_list_pop fY Y.fO (Y.vS 2) (Y.cons (Y.vS 6) Y.nil))))
   (Y.ae (Y.eY JJ rfl (Y.anyS K rfl (Y.vS 8)) (Y.aP (i:=9) b6.nd rfl (by walk_at "lc")) (Y.aQ (Y.asg (Y.op (Y.ak K rfl) Y.aj (Y.ix (Y.a_ K rfl) Y.aq (Y.vS 4) (Y.vS 9)) Y.int) (Y.gG (Y.vS 4) (Y.vS 9)))))
   (Y.ae (Y.expr (Y.bm K rfl PySem.F.slot_list_append PySem.F.type_list_append bC Y.bQ (Y.vS 3) (Y.cons (Y.op cJ Y.bM (Y.op (Y.ak K rfl) Y.aj (Y.cb (Y.ar K rfl) Y.aC rfl T.bw (by decide +kernel) (Y.cons (Y.vS 1) Y.nil)) (Y.cb (Y.ar K rfl) Y.aC rfl T.bw (by decide +kernel) (Y.cons (Y.vS 5) Y.nil))) Y.int) Y.nil)))
   (Y.aQ (Y.expr (Y.bm K rfl PySem.F.slot_list_append PySem.F.type_list_append bC Y.bQ (Y.vS 2) (Y.cons (Y.vS 8) Y.nil))))))))))))
   (Y.aQ (Y.ret (Y.tup (Y.cons (Y.ct (Y.cw K rfl) Y.cK rfl T.c_ (by decide +kernel) (Y.cons (Y.kZ (osc:=aa bA) (ON:=["seed","counts","left","names","depths","paper","at","one","things","k"]) (own:=["depth"]) (N:=["depth","seed","counts","left","names","depths","paper","at","one","things","k"]) ⟨rfl,by decide +kernel,rfl,by decide +kernel,by decide +kernel,by decide +kernel,by decide +kernel,by decide +kernel⟩ rfl rfl rfl rfl (Y.anyS K rfl (Y.vS 4)) (fun _ _ _ _=>(Z.aP (i:=0) (show List.Nodup (["depth","seed","counts","left","names","depths","paper","at","one","things","k"]:List Str) by decide +kernel) rfl (by walk_at "lc"))) (fun _ _ _ _=>Y.tG) (fun _ _ _ _=>(Y.cb (cW rfl) Y.gC rfl T.iO (by decide +kernel) (Y.cons Y.int (Y.cons (Y.vS 0) Y.nil))))) Y.nil)) (Y.cons (Y.ct (Y.cw K rfl) Y.cK rfl T.c_ (by decide +kernel) (Y.cons (Y.vS 5) Y.nil)) Y.nil)))))))))),?_⟩
 refine av fun N hN=>?_;wp_walk using aB;refine⟨by lia,by lia,?_⟩
 rw[J8,Ky];refine cO (fun rest acc μ=>∃ i:Nat,i<=cs.length/\(rest=(List.range' i (cs.length-i)).map fun k:Nat=>L2.T.int (0+(k:Int)))/\acc=lsN ((List.range i).map fun k=>[k])/\μ=[.pb sd,.tr (.tup (nI cs)),.un,.un,.un,.un,.un,.un,.un,.un]) ⟨0,JC _,rfl,rfl,rfl⟩ ?_ ?_
 ·rintro acc μ ⟨i,hi,e,rfl,rfl⟩;have hi2:i=cs.length:=by
   have:=Jv List.length e;rw[IW,JF,JG] at this;lia
  subst hi2;refine⟨trivial,?_⟩;walk_at "rt";refine hN _ ?_;clear hN N;refine av fun N hN=>?_;wp_walk using aB;refine⟨⟨by lia,by decide,by decide,by lia,by lia⟩,?_⟩
  obtain⟨ns,en,hnl⟩:∃ ns:List Int,(List.range ((cs.length:Int)-0).toNat).map (fun k:Nat=>L2.T.int (0+(k:Int)))=nI ns/\ns.length=cs.length:=⟨(List.range ((cs.length:Int)-0).toNat).map fun k:Nat=>0+(k:Int),by unfold nI;rw[Kh];rfl,by rw[IW,Js];lia⟩
  rw[en];clear en;refine hN _ ?_;clear hN N;refine av fun N hN=>?_;wp_walk using aB;refine⟨by decide,by lia,by lia,Jj (show _<=20 by lia) (by decide),?_⟩
  rw[fN,J8];refine hN _ ?_;clear hN N;refine av fun N hN=>?_;walk_at "rt";refine hN _ ?_;clear hN N;refine av fun N hN=>?_;have lf0:Lf cs.length ((List.range cs.length).map fun k=>[k]):=by
   unfold Lf;rw[<- List.flatMap_def];simp
  refine⟨fun m μ=>∃(ls:List (List Nat)) (ns ds:List Int) (ps:List (Int×Int)) (sd:L2.T) (o6 o7 o8 o9:Option L2.T),dF sd/\Lf cs.length ls/\ns.length=ls.length/\1<=ls.length/\ls.length+ps.length=cs.length/\ds.length=cs.length/\(∀ x∈ds,0<=x/\x<=(ps.length:Int))/\m=ls.length/\μ=[.pb sd,.tr (.tup (nI cs)),.bx (.lst (lsN ls)),.bx (.lst (nI ns)),.bx (.lst (nI ds)),.bx (.lst (aR ps)),sl o6,sl o7,sl o8,sl o9],⟨_,_,ns,_,[],sd,none,none,none,none,hsd,lf0,by rw[IW,Js,hnl],by rw[IW,Js];exact h1,by rw[IW,Js];rfl,JH ..,fun x hx=>by rw[(List.mem_replicate.mp hx).2];exact⟨by decide,by decide⟩,rfl,rfl⟩,?_⟩
  clear hsd hnl lf0 ns;rintro m μ ⟨ls,ns,ds,ps,sd,o6,o7,o8,o9,hsd,hLf,hnl,hl1,hlp,hdl,hdr,rfl,rfl⟩;by_cases c1:(1:Int)<(ls.length:Int)
  ·wp_walk using aB,hnl,Ja c1;refine av fun M2 h2=>?_;wp_walk using aB,hnl;refine⟨sd,ls.length,rfl,hsd,by lia,by lia,fun v s2 hs2 v0 v1=>?_⟩
   obtain⟨a,rfl⟩:∃ a:Nat,v=a:=⟨v.toNat,by lia⟩
   walk_at "rt";refine h2 _ ?_;clear h2 M2;have ha:a<ls.length:=by lia
   have han:a<ns.length:=by lia
   have six:∀{n c:Nat},c<n->seqIndex? (c:Int) n=some c:=fun {n c} h=>by
    have:=CQ (n:=n) (v:=(c:Int)) (by lia) (by lia)
    rw[J8] at this;exact this
   have lnl:∀ l:List (List Nat),(lsN l).length=l.length:=fun l=>IW ..;have gN:∀{l:List Int} {c:Nat} (h:c<l.length),(nI l)[c]?=some (.int l[c]):=fun {l c} h=>by unfold nI;rw[Jy,IV h];rfl
   have gL:∀{l:List (List Nat)} {c:Nat} (h:c<l.length),(lsN l)[c]?=some (.lst (nN l[c])):=fun {l c} h=>by unfold lsN;rw[Jy,IV h];rfl
   have eN:∀(l:List Int) (c:Nat),(nI l).eraseIdx c=nI (l.eraseIdx c):=fun l c=>by unfold nI;rw[Kl,Kl,Jn,LA,Mb]
   have eL:∀(l:List (List Nat)) (c:Nat),(lsN l).eraseIdx c=lsN (l.eraseIdx c):=fun l c=>by unfold lsN;rw[Kl,Kl,Jn,LA,Mb]
   refine av fun M2 h2=>?_;walk_at "rt";refine⟨by lia,by lia,a,_,six (by rw[aB];exact han),gN han,?_⟩
   rw[eN];walk_at "rt";refine⟨by lia,by lia,a,_,six (by rw[lnl];exact ha),gL ha,?_⟩
   rw[eL];walk_at "rt";refine h2 _ ?_;clear h2 M2;have l2:(ls.eraseIdx a).length=ls.length-1:=KZ ha;have n2:(ns.eraseIdx a).length=ls.length-1:=by rw[KZ han,hnl]
   have fp:=iY ha;generalize ls.eraseIdx a=ls2 at *;generalize ns.eraseIdx a=ns2 at *;generalize ns[a]=one at *;generalize ls[a]=m1 at *;refine av fun M2 h2=>?_;wp_walk using aB,n2;refine⟨s2,(ls.length-1:Nat),rfl,hs2,by lia,by lia,fun v s3 hs3 w0 w1=>?_⟩
   obtain⟨b,rfl⟩:∃ b:Nat,v=b:=⟨v.toNat,by lia⟩
   walk_at "rt";refine h2 _ ?_;clear h2 M2;have hb:b<ls2.length:=by lia
   have hbn:b<ns2.length:=by lia
   refine av fun M2 h2=>?_;walk_at "rt";refine⟨by lia,by lia,b,_,six (by rw[aB];exact hbn),gN hbn,?_⟩
   rw[eN];walk_at "rt";refine⟨by decide,by rw[bP];exact Jo (show _<=40 by lia) (by decide),?_⟩
   rw[show aR ps++[L2.T.tup [L2.T.int one,L2.T.int ns2[b]]]=aR (ps++[(one,ns2[b])]) from by rw[dh];rfl]
   refine h2 _ ?_;clear h2 M2;refine av fun M2 h2=>?_;walk_at "rt";refine⟨by lia,by lia,b,_,six (by rw[lnl];exact hb),gL hb,?_⟩
   rw[eL];walk_at "rt";have l3:(ls2.eraseIdx b).length=ls.length-2:=by rw[KZ hb];lia
   have n3:(ns2.eraseIdx b).length=ls.length-2:=by rw[KZ hbn];lia
   have fp2:(m1++ls2[b]++(ls2.eraseIdx b).flatten).Perm (List.range cs.length):=by
    refine List.Perm.trans ?_ (fp.trans hLf);rw[J6];exact (iY hb).append_left _
   have nap:nN m1++nN ls2[b]=nN (m1++ls2[b]):=by unfold nN;rw[Jn]
   generalize ls2.eraseIdx b=ls3 at *;generalize ns2.eraseIdx b=ns3 at *;rw[<- IX,nap];generalize m1++ls2[b]=things at *;have htl:things.length<=cs.length:=by
    have:=fp2.length_eq;rw[IX,Js] at this;lia
   have hnd:=LY.mp (fp2.nodup_iff.mpr L9);have hlt:∀ k∈things,k<cs.length:=fun k hk=>Km.mp (fp2.mem_iff.mp (La _ hk));have nNl:∀ l:List Nat,(nN l).length=l.length:=fun l=>IW ..;refine⟨by rw[nNl];exact Jj (show _<=20 by lia) (by decide),?_⟩
   refine h2 _ ?_;clear h2 M2;refine av fun M2 h2=>?_;walk_at "rt";have hdl':=hdl;refine cM (fun rest μ=>∃(todo:List Nat) (ds:List Int) (o9:Option L2.T),rest=nN todo/\Dp cs.length ps.length ds todo/\μ=[.pb s3,.tr (.tup (nI cs)),.bx (.lst (lsN ls3)),.bx (.lst (nI ns3)),.bx (.lst (nI ds)),.bx (.lst (aR (ps++[(one,ns2[b])]))),.tr (.int (b:Int)),.tr (.int one),.tr (.lst (nN things)),sl o9]) ⟨things,ds,o9,rfl,Dp.first hdl hdr hnd.1 hlt,rfl⟩ ?_ ?_
   ·rintro μ ⟨todo,ds,o9,e,hD,rfl⟩;show M2 _;refine h2 _ ?_;clear h2 M2;refine av fun M2 h2=>?_;wp_walk using aB,bP;refine⟨Jo (show _<=40 by lia) (by decide),?_⟩
    refine h2 _ ?_;clear h2 M2;walk_at "rt";have lsa:lsN ls3++[L2.T.lst (nN things)]=lsN (ls3++[things]):=by unfold lsN;rw[Jn];rfl
    refine⟨by rw[lnl];exact Jo (show _<=40 by lia) (by decide),ls.length-1,by lia,ls3++[things],ns3++[(cs.length:Int)+((ps++[(one,ns2[b])]).length:Int)-1],ds,ps++[(one,ns2[b])],s3,some (.int (b:Int)),some (.int one),some (.lst (nN things)),o9,hs3,?_,?_,?_,?_,hD.len,fun x hx=>?_,?_,?_⟩
    ·unfold Lf;rw[LH,List.flatten_singleton];exact L4.trans fp2
    ·simp only[IX,Jr,l3,n3]
    ·rw[IX];exact Nat.le_add_left _ _
    ·simp only[IX,Jr,l3];lia
    ·have:=hD.dN x hx;rw[IX,Jr];lia
    ·rw[IX,l3];simp;lia
    ·rw[lsa,e8];rfl
   ·rintro t r μ M3 ⟨todo,ds,o9,e,hD,rfl⟩ k3
    cases todo with
    |nil=>cases e
    |cons c todo =>
     obtain⟨rfl,rfl⟩:=List.cons.inj e;have hc:c<ds.length:=by rw[hD.len];exact hD.lt c Jl
     wp_walk using zA hc,Bg hc,pS;exact k3 _ ⟨todo,_,some _,rfl,hD.step hc,rfl⟩
  ·wp_walk using aB,hnl,IY c1;refine hN _ ?_;clear hN N;walk_at "rt";refine cO (fun rest acc μ=>∃(done todo:List Int),done++todo=ds/\rest=nI todo/\acc=nI (done.map fun x=>if x > 1 then x else 1)/\μ=[.pb sd,.tr (.tup (nI cs)),.bx (.lst (lsN ls)),.bx (.lst (nI ns)),.bx (.lst (nI ds)),.bx (.lst (aR ps)),sl o6,sl o7,sl o8,sl o9]) ⟨[],ds,rfl,rfl,rfl,rfl⟩ ?_ ?_
   ·rintro acc μ ⟨done,todo,e1,e2,rfl,rfl⟩;have e3:todo=[]:=by
     cases todo with
     |nil=>rfl
     |cons=>cases e2
    subst e3;rw[J7] at e1;subst e1;refine⟨rfl,?_⟩;walk_at "rt";refine⟨by decide,q _ _ _ hsd ⟨⟨by rw[IW,hdl],fun x hx=>?_⟩,by lia⟩⟩
    obtain⟨y,hy,rfl⟩:=JM.mp hx;have:=hdr y hy
    split<;>lia
   ·rintro t r acc μ M ⟨done,todo,e1,e2,rfl,rfl⟩ k
    cases todo with
    |nil=>cases e2
    |cons x todo =>
     obtain⟨rfl,rfl⟩:=List.cons.inj e2;have hdl2:done.length<=ds.length:=by rw[<- e1,IX];exact K5 _ _
     refine⟨rfl,by rw[aB,IW];exact Jo (show _<=40 by lia) (by decide),?_⟩
     walk_at "rt";refine k _ _ ⟨done++[x],todo,by rw[<- e1];simp,rfl,?_,rfl⟩
     rw[Jn,e8];rfl
 ·rintro t r acc μ M ⟨i,hi,e,rfl,rfl⟩ k;have hi2:i<cs.length:=by
   have:=Jv List.length e;rw[IW,JF,Jf] at this;lia
  rw[show cs.length-i=(cs.length-(i+1))+1 by lia,Kb,Jm] at e
  obtain⟨rfl,rfl⟩:=List.cons.inj e;clear e;refine⟨trivial,by unfold lsN;rw[IW,IW,Js];exact Jo (show i<=20 by lia) (by decide),?_⟩
  walk_at "rt";refine⟨by decide,k _ _ ⟨i+1,hi2,rfl,?_,rfl⟩⟩
  rw[K0,Jn,Od];unfold lsN;rw[Jn];rfl
def xT:fA:=fun args Q=>∃ cs:List Int,args=[.tup (nI cs)]/\1<=cs.length/\cs.length<=20/\∀(ls:List Int) (ps:List (Int×Int)),ln2 cs.length ls ps->Q (.fr (.lst [.tup (nI ls),.tup (aR ps)])) []
abbrev mB:=(Int×Int)×List Nat
def h3(x:mB):(Int×Int)×List L2.T:=(x.1,nN x.2)
def mq(l:List mB):List L2.T:=l.map fun x=>.tup [.int x.1.1,.int x.1.2,.lst (nN x.2)]
theorem dZ(l:List mB):(mq l).length=l.length:=IW ..
theorem qy(l:List mB):mq l=(l.map h3).map Y.yf:=by unfold mq;rw[Kh];rfl
structure He (n k:Nat) (l:List mB):Prop where
 lf:Lf n (l.map (·.2))
 nd:(l.map fun x=>x.1.2).Nodup
 gt:∀ x∈l,-(k:Int)<x.1.2
theorem He.perm{k:Nat}{l m:List mB}(h:He n k l)(p:m.Perm l):He n k m:=
 ⟨((p.map _).flatten).trans h.lf,(p.map _).nodup_iff.mpr h.nd,fun x hx=>h.gt x (p.mem_iff.mp hx)⟩
theorem He.keys{k:Nat}{l:List mB}(h:He n k l):((l.map h3).map (·.1)).Nodup:=by
 rw[Kh];have:=h.nd;unfold List.Nodup at this ⊢;rw[MW] at this ⊢;exact this.imp fun z e=>z (Jv Prod.snd (show _=_ from e))
theorem He.next{k:Nat}{a b:mB}{r:List mB}(h:He n k (a::b::r)):He n (k+1) (r++[((a.1.1+b.1.1,0-(k:Int)),a.2++b.2)]):=by
 have nd:=h.nd;rw[Jm,Jm,JD,JD] at nd;refine⟨?_,?_,fun x hx=>?_⟩
 ·unfold Lf;rw[Jn,LH];have:=h.lf;unfold Lf at this;rw[Jm,Jm,JQ,JQ,<- J6] at this;refine List.Perm.trans ?_ this;show (_++((a.2++b.2)++[])).Perm _;rw[J7];exact L4
 ·rw[Jn,LY];refine⟨nd.2.2,N1 _ _,fun x hx y hy=>?_⟩;obtain⟨z,hz,rfl⟩:=JM.mp hx;rw[Jh.mp hy];have:=h.gt z (by simp[hz])
  show z.1.2≠0-(k:Int);lia
 ·rcases JN.mp hx with z|z
  ·have:=h.gt x (by simp[z]);lia
  ·rw[Jh.mp z];show _<0-(k:Int);lia
theorem xM{β:Type}{f:α->β}{o m:List β}(h:o.Perm m):∀ l:List α,l.map f=m->∃ k:List α,k.map f=o/\k.Perm l:=by
 induction h with
 |nil =>
  intro l e
  cases l with
  |nil=>exact⟨[],rfl,.nil⟩
  |cons=>cases e
 |cons x p ih =>
  intro l e
  cases l with
  |nil=>cases e
  |cons a l =>
   obtain⟨rfl,e2⟩:=List.cons.inj e;obtain⟨k,e3,p3⟩:=ih l e2;exact⟨a::k,by rw[Jm,e3],p3.cons a⟩
 |swap x y l0 =>
  intro l e;rcases l with _|⟨a,_|⟨b,l⟩⟩
  ·cases e
  ·cases e
  ·obtain⟨rfl,e2⟩:=List.cons.inj e;obtain⟨rfl,e3⟩:=List.cons.inj e2;exact⟨b::a::l,by rw[<- e3];rfl,.swap ..⟩
 |trans p q ih1 ih2 =>
  intro l e;obtain⟨k,e1,p1⟩:=ih2 l e;obtain⟨k',e2,p2⟩:=ih1 k e1;exact⟨k',e2,p2.trans p1⟩
theorem tV(a b:mB)(r:List mB):Y.bJ (mq (a::b::r)) none (some 2)=mq [a,b]:=by
 unfold Y.bJ;rw[HT.cQ,show (some (2:Int))=some ((2:Nat):Int) from rfl,HT.d3,dZ];show ((mq (a::b::r)).drop 0).take (min 2 (r.length+1+1)-0)=_;rw[LN (by lia)]
 rfl
theorem tY(a b:mB)(r:List mB):Y.bJ (mq (a::b::r)) (some 2) none=mq r:=by
 unfold Y.bJ;rw[HT.cQ,show (some (2:Int))=some ((2:Nat):Int) from rfl,HT.d3,dZ];show ((mq (a::b::r)).drop (min 2 (r.length+1+1))).take (r.length+1+1-min 2 (r.length+1+1))=_;rw[LN (by lia)]
 exact JX (by rw[show (mq (a::b::r)).drop 2=mq r from rfl,dZ];lia)
def AY(cs:List Int)(n:Nat):List mB:=(List.range n).map fun i=>((dX cs i,0-(i:Int)),[i])
theorem lW(cs:List Int)(n:Nat):(AY cs n).length=n:=by unfold AY;rw[IW,Js]
theorem BA(cs:List Int)(n:Nat):He n n (AY cs n):=by
 refine⟨?_,?_,fun x hx=>?_⟩
 ·unfold Lf AY;rw[Kh];show (List.flatten ((List.range n).map fun k=>[k])).Perm _;rw[<- List.flatMap_def];simp
 ·unfold AY;rw[Kh];unfold List.Nodup;rw[MW];exact L9.imp fun z e=>z (by have:0-((_:Nat):Int)=0-((_:Nat):Int):=e;lia)
 ·obtain⟨i,hi,rfl⟩:=JM.mp hx;have:=Km.mp hi;show _<0-(i:Int);lia
theorem uO(T:Txt K mg)(F:HasFn K mg "_law_other" aZ ["counts"]):ah P w K mg base cF 1 "_law_other" ["counts"] (spT K [false] xT):=by
 refine F.mD aW [false] rfl (by decide) (fun args Qt hl h f cdv A outer s H E hr=>?_)
 have hu:=cg hr;obtain⟨cs,rfl,h1,h20,q⟩:=h;refine⟨_,(Y.ae (Y.v9 (j:=1) K rfl aW.nd rfl (by walk_at "lc") (osc:=aa aZ) (ON:=["counts","heap","depths","paper","one","other","k","number"]) (own:=["k","count"]) (N:=["k","count","counts","heap","depths","paper","one","other",".k","number"]) ⟨rfl,by decide +kernel,rfl,by decide +kernel,by decide +kernel,by decide +kernel,by decide +kernel,by decide +kernel⟩ rfl rfl rfl rfl (Y.enum K rfl rfl T.dq (Y.cons (Y.vS 0) Y.nil)) (fun _ _ _ _=>(Z.nR (n:=2) K rfl rfl (Z.bg (Z.aP (i:=0) (show List.Nodup (["k","count","counts","heap","depths","paper","one","other",".k","number"]:List Str) by decide +kernel) rfl (by walk_at "lc")) (Z.bg (Z.aP (i:=1) (show List.Nodup (["k","count","counts","heap","depths","paper","one","other",".k","number"]:List Str) by decide +kernel) rfl (by walk_at "lc")) Z.d9)))) (fun _ _ _ _=>Y.tG) (fun _ _ _ _=>(Y.tup (Y.cons (Y.vS 1) (Y.cons (Y.op cJ Y.bM Y.int (Y.vS 0)) (Y.cons (Y.lst (Y.cons (Y.vS 0) Y.nil)) Y.nil))))))
   (Y.ae (Y.set (i:=2) aW.nd rfl (by walk_at "lc") (Y.op (Y.bN K rfl) Y.bO (Y.lst (Y.cons Y.int Y.nil)) (Y.cb (Y.ar K rfl) Y.aC rfl T.bw (by decide +kernel) (Y.cons (Y.vS 0) Y.nil))))
   (Y.ae (Y.set (i:=3) aW.nd rfl (by walk_at "lc") (Y.lst Y.nil))
   (Y.ae (Y.gw JJ (Y.cx qr Y.d8 (Y.cb (Y.ar K rfl) Y.aC rfl T.bw (by decide +kernel) (Y.cons (Y.vS 1) Y.nil)) Y.int) (Y.ae (Y.xq (i:=1) aW.nd rfl (by walk_at "lc") (Y.cb (Y.pU K rfl) Y.x8 rfl T.eF (by decide +kernel) (Y.cons (Y.vS 1) Y.nil)))
   (Y.ae (Y.asg (Y.cz K rfl (Y.vS 1) Y.kN (Y.kA Y.int)) (Y.jG (n:=2) K rfl rfl (Y.bg (Y.aP (i:=4) aW.nd rfl (by walk_at "lc")) (Y.bg (Y.aP (i:=5) aW.nd rfl (by walk_at "lc")) Y.d9))))
   (Y.ae (Y.eY JJ rfl (Y.anyS K rfl (Y.op (Y.ak K rfl) Y.aj (Y.ix (Y.a_ K rfl) Y.aq (Y.vS 4) Y.int) (Y.ix (Y.a_ K rfl) Y.aq (Y.vS 5) Y.int))) (Y.aP (i:=6) aW.nd rfl (by walk_at "lc")) (Y.aQ (Y.asg (Y.op (Y.ak K rfl) Y.aj (Y.ix (Y.a_ K rfl) Y.aq (Y.vS 2) (Y.vS 6)) Y.int) (Y.gG (Y.vS 2) (Y.vS 6)))))
   (Y.ae (Y.set (i:=7) aW.nd rfl (by walk_at "lc") (Y.op (Y.ak K rfl) Y.aj (Y.cb (Y.ar K rfl) Y.aC rfl T.bw (by decide +kernel) (Y.cons (Y.vS 0) Y.nil)) (Y.cb (Y.ar K rfl) Y.aC rfl T.bw (by decide +kernel) (Y.cons (Y.vS 3) Y.nil))))
   (Y.ae (Y.expr (Y.bm K rfl PySem.F.slot_list_append PySem.F.type_list_append bC Y.bQ (Y.vS 3) (Y.cons (Y.tup (Y.cons (Y.op cJ Y.bM Y.int (Y.ix (Y.a_ K rfl) Y.aq (Y.vS 5) Y.int)) (Y.cons (Y.op cJ Y.bM Y.int (Y.ix (Y.a_ K rfl) Y.aq (Y.vS 4) Y.int)) Y.nil))) Y.nil)))
   (Y.aQ (Y.xq (i:=1) aW.nd rfl (by walk_at "lc") (Y.op (Y.ak K rfl) Y.aj (Y.cz K rfl (Y.vS 1) (Y.kA Y.int) Y.kN) (Y.lst (Y.cons (Y.tup (Y.cons (Y.op (Y.ak K rfl) Y.aj (Y.ix (Y.a_ K rfl) Y.aq (Y.vS 4) Y.int) (Y.ix (Y.a_ K rfl) Y.aq (Y.vS 5) Y.int)) (Y.cons (Y.op cJ Y.bM Y.int (Y.vS 7)) (Y.cons (Y.op (Y.ak K rfl) Y.aj (Y.ix (Y.a_ K rfl) Y.aq (Y.vS 4) Y.int) (Y.ix (Y.a_ K rfl) Y.aq (Y.vS 5) Y.int)) Y.nil)))) Y.nil)))))))))))
   (Y.aQ (Y.ret (Y.lst (Y.cons (Y.ct (Y.cw K rfl) Y.cK rfl T.c_ (by decide +kernel) (Y.cons (Y.kZ (osc:=aa aZ) (ON:=["counts","heap","depths","paper","one","other","k","number"]) (own:=["depth"]) (N:=["depth","counts","heap","depths","paper","one","other","k","number"]) ⟨rfl,by decide +kernel,rfl,by decide +kernel,by decide +kernel,by decide +kernel,by decide +kernel,by decide +kernel⟩ rfl rfl rfl rfl (Y.anyS K rfl (Y.vS 2)) (fun _ _ _ _=>(Z.aP (i:=0) (show List.Nodup (["depth","counts","heap","depths","paper","one","other","k","number"]:List Str) by decide +kernel) rfl (by walk_at "lc"))) (fun _ _ _ _=>Y.tG) (fun _ _ _ _=>(Y.cb (cW rfl) Y.gC rfl T.iO (by decide +kernel) (Y.cons Y.int (Y.cons (Y.vS 0) Y.nil))))) Y.nil)) (Y.cons (Y.ct (Y.cw K rfl) Y.cK rfl T.c_ (by decide +kernel) (Y.cons (Y.vS 3) Y.nil)) Y.nil))))))))),?_⟩
 refine av fun N hN=>?_;walk_at "rt";rw[lR];refine cO (fun rest acc μ=>∃ i:Nat,i<=cs.length/\(rest=(List.range' i (cs.length-i)).map fun i:Nat=>L2.T.tup [.int (i:Int),.int (dX cs i)])/\acc=mq (AY cs i)/\μ=[.tr (.tup (nI cs)),.un,.un,.un,.un,.un,.un,.un]) ⟨0,JC _,rfl,rfl,rfl⟩ ?_ ?_
 ·rintro acc μ ⟨i,hi,e,rfl,rfl⟩;have hi2:i=cs.length:=by
   have:=Jv List.length e;rw[IW,JF,JG] at this;lia
  subst hi2;refine⟨trivial,?_⟩;walk_at "rt";refine hN _ ?_;clear hN N;refine av fun N hN=>?_;wp_walk using aB;refine⟨by decide,by lia,by lia,Jj (show _<=20 by lia) (by decide),?_⟩
  rw[fN,J8];refine hN _ ?_;clear hN N;refine av fun N hN=>?_;walk_at "rt";refine hN _ ?_;clear hN N;refine av fun N hN=>?_;refine⟨fun m μ=>∃(hp:List mB) (ds:List Int) (ps:List (Int×Int)) (o4 o5 o6 o7:Option L2.T),He cs.length (cs.length+ps.length) hp/\1<=hp.length/\hp.length+ps.length=cs.length/\ds.length=cs.length/\(∀ x∈ds,0<=x/\x<=(ps.length:Int))/\m=hp.length/\μ=[.tr (.tup (nI cs)),.tr (.lst (mq hp)),.bx (.lst (nI ds)),.bx (.lst (aR ps)),sl o4,sl o5,sl o6,sl o7],⟨_,AY cs cs.length,_,[],none,none,none,none,BA cs cs.length,by rw[lW];exact h1,by rw[lW];rfl,JH ..,fun x hx=>by rw[(List.mem_replicate.mp hx).2];exact⟨by decide,by decide⟩,rfl,rfl⟩,?_⟩
  rintro m μ ⟨hp,ds,ps,o4,o5,o6,o7,hH,hl1,hlp,hdl,hdr,rfl,rfl⟩;by_cases c1:(1:Int)<(hp.length:Int)
  ·wp_walk using dZ,Ja c1;refine av fun M2 h2=>?_;walk_at "rt";refine⟨hp.map h3,qy hp,by rw[IW];lia,hH.keys,fun out pm=>?_⟩
   obtain⟨hp',rfl,pm'⟩:=xM pm hp rfl;rw[<- qy];refine h2 _ ?_;clear h2 M2;have hH':=hH.perm pm';have hl':=pm'.length_eq;rcases hp' with _|⟨a,_|⟨b,r⟩⟩
   ·simp at hl';lia
   ·simp at hl';lia
   rw[Jf,Jf] at hl';refine av fun M2 h2=>?_;wp_walk using tV;unfold mq;walk_at "rt";show M2 [_,.tr (.lst (mq (a::b::r))),_,_,_,_,_,_];refine h2 _ ?_;clear h2 M2;have nap:nN a.2++nN b.2=nN (a.2++b.2):=by unfold nN;rw[Jn]
   have nNl:∀ l:List Nat,(nN l).length=l.length:=fun l=>IW ..;have fp2:(a.2++b.2++(r.map (·.2)).flatten).Perm (List.range cs.length):=by
    have:=hH'.lf;unfold Lf at this;rw[Jm,Jm,JQ,JQ,<- J6] at this;exact this
   have htl:(a.2++b.2).length<=cs.length:=by
    have:=fp2.length_eq;rw[IX,Js] at this;lia
   have hnd:=LY.mp (fp2.nodup_iff.mpr L9);have hlt:∀ k∈a.2++b.2,k<cs.length:=fun k hk=>Km.mp (fp2.mem_iff.mp (La _ hk));have f0:∀ x:mB,cc [L2.T.int x.1.1,.int x.1.2,.lst (nN x.2)] 0=some (.int x.1.1):=fun x=>rfl;have f1:∀ x:mB,cc [L2.T.int x.1.1,.int x.1.2,.lst (nN x.2)] 1=some (.int x.1.2):=fun x=>rfl;have f2:∀ x:mB,cc [L2.T.int x.1.1,.int x.1.2,.lst (nN x.2)] 2=some (.lst (nN x.2)):=fun x=>rfl;refine av fun M2 h2=>?_;wp_walk using f2;rw[<- IX,nap];refine⟨by rw[nNl];exact Jj (show _<=20 by lia) (by decide),?_⟩
   refine cM (fun rest μ=>∃(todo:List Nat) (ds:List Int) (o6:Option L2.T),rest=nN todo/\Dp cs.length ps.length ds todo/\μ=[.tr (.tup (nI cs)),.tr (.lst (mq (a::b::r))),.bx (.lst (nI ds)),.bx (.lst (aR ps)),.tr (.tup [.int a.1.1,.int a.1.2,.lst (nN a.2)]),.tr (.tup [.int b.1.1,.int b.1.2,.lst (nN b.2)]),sl o6,sl o7]) ⟨a.2++b.2,ds,o6,rfl,Dp.first hdl hdr hnd.1 hlt,rfl⟩ ?_ ?_
   ·rintro μ ⟨todo,ds,o6,e,hD,rfl⟩;show M2 _;refine h2 _ ?_;clear h2 M2;refine av fun M2 h2=>?_;wp_walk using aB,bP;refine h2 _ ?_;clear h2 M2;refine av fun M2 h2=>?_;wp_walk using f1;refine⟨by decide,by rw[bP];exact Jo (show _<=40 by lia) (by decide),?_⟩
    rw[show aR ps++[L2.T.tup [L2.T.int (0-b.1.2),L2.T.int (0-a.1.2)]]=aR (ps++[(0-b.1.2,0-a.1.2)]) from by rw[dh];rfl]
    refine h2 _ ?_;clear h2 M2;wp_walk using f0,f2,tY;rw[<- IX,nap,dZ];refine⟨by rw[nNl];exact Jj (show _<=20 by lia) (by decide),by decide,by decide,Jj (show _<=40 by lia) (by decide),r.length+1,by lia,r++[((a.1.1+b.1.1,0-((cs.length+ps.length:Nat):Int)),a.2++b.2)],ds,ps++[(0-b.1.2,0-a.1.2)],some (.tup [.int a.1.1,.int a.1.2,.lst (nN a.2)]),some (.tup [.int b.1.1,.int b.1.2,.lst (nN b.2)]),o6,some (.int ((cs.length:Int)+(ps.length:Int))),?_,?_,?_,hD.len,fun x hx=>?_,?_,?_⟩
    ·rw[IX,Jr,<- MQ];exact hH'.next
    ·rw[IX];exact Nat.le_add_left _ _
    ·simp only[IX,Jr];lia
    ·have:=hD.dN x hx;rw[IX,Jr];lia
    ·rw[IX];rfl
    ·unfold mq;rw[Jn,Int.natCast_add];rfl
   ·rintro t r μ M3 ⟨todo,ds,o6,e,hD,rfl⟩ k3
    cases todo with
    |nil=>cases e
    |cons c todo =>
     obtain⟨rfl,rfl⟩:=List.cons.inj e;have hc:c<ds.length:=by rw[hD.len];exact hD.lt c Jl
     wp_walk using zA hc,Bg hc,pS;exact k3 _ ⟨todo,_,some _,rfl,hD.step hc,rfl⟩
  ·wp_walk using dZ,IY c1;refine hN _ ?_;clear hN N;walk_at "rt";refine cO (fun rest acc μ=>∃(done todo:List Int),done++todo=ds/\rest=nI todo/\acc=nI (done.map fun x=>if x > 1 then x else 1)/\μ=[.tr (.tup (nI cs)),.tr (.lst (mq hp)),.bx (.lst (nI ds)),.bx (.lst (aR ps)),sl o4,sl o5,sl o6,sl o7]) ⟨[],ds,rfl,rfl,rfl,rfl⟩ ?_ ?_
   ·rintro acc μ ⟨done,todo,e1,e2,rfl,rfl⟩;have e3:todo=[]:=by
     cases todo with
     |nil=>rfl
     |cons=>cases e2
    subst e3;rw[J7] at e1;subst e1;refine⟨rfl,?_⟩;walk_at "rt";refine⟨by decide,q _ _ ⟨⟨by rw[IW,hdl],fun x hx=>?_⟩,by lia⟩⟩
    obtain⟨y,hy,rfl⟩:=JM.mp hx;have:=hdr y hy
    split<;>lia
   ·rintro t r acc μ M ⟨done,todo,e1,e2,rfl,rfl⟩ k
    cases todo with
    |nil=>cases e2
    |cons x todo =>
     obtain⟨rfl,rfl⟩:=List.cons.inj e2;have hdl2:done.length<=ds.length:=by rw[<- e1,IX];exact K5 _ _
     refine⟨rfl,by rw[aB,IW];exact Jo (show _<=40 by lia) (by decide),?_⟩
     walk_at "rt";refine k _ _ ⟨done++[x],todo,by rw[<- e1];simp,rfl,?_,rfl⟩
     rw[Jn,e8];rfl
 ·rintro t r acc μ M ⟨i,hi,e,rfl,rfl⟩ k;have hi2:i<cs.length:=by
   have:=Jv List.length e;rw[IW,JF,Jf] at this;lia
  rw[show cs.length-i=(cs.length-(i+1))+1 by lia,Kb,Jm] at e
  obtain⟨rfl,rfl⟩:=List.cons.inj e;clear e;refine⟨trivial,by rw[dZ,lW];exact Jo (show i<=20 by lia) (by decide),?_⟩
  walk_at "rt";refine⟨by decide,by decide,k _ _ ⟨i+1,hi2,rfl,?_,rfl⟩⟩
  unfold AY mq;rw[K0,Jn,Jn];rfl
abbrev se:=Bool×List Int×List (Int×Int)
def eT(x:se):L2.T:=if x.1=true then .tup [.tup (nI x.2.1),.tup (aR x.2.2)] else .lst [.tup (nI x.2.1),.tup (aR x.2.2)]
def iA(l:List se):List L2.T:=l.map eT
theorem fJ(l:List se):(iA l).length=l.length:=IW ..
theorem lB(a b:List se):iA (a++b)=iA a++iA b:=Jn
def yZ(n:Nat)(l:List se):Prop:=∀ x∈l,Ln n x.2.1/\x.2.2.length<=20
theorem yZ.app{a b:List se}(h1:yZ n a)(h2:yZ n b):yZ n (a++b):=fun x hx=>(JN.mp hx).elim (h1 x) (h2 x)
def pI(ps:List (Nat×Nat)):List (Int×Int):=ps.map fun p=>((p.1:Int),(p.2:Int))
theorem Co(ps:List (Nat×Nat)):zc ps=aR (pI ps):=by unfold zc aR pI;rw[Kh];rfl
theorem wq:∀(m:Nat) (st:List WN) (n:Nat),(hf m st n).length<=st.length-1
 |0,st,n=>by simp[hf]
 |m+1,[],n=>by simp[hf]
 |m+1,[a],n=>by simp[hf]
 |m+1,a::b::r,n=>by
  have:=wq m (ye (r++[(a.1+b.1,n)])) (n+1);rw[eM,IX,Jr] at this;rw[hf,Jf,Jf,Jf];lia
theorem u_(i:Nat):∀ A:List Pm.It,(Pm.th (Pm.pk A)).count i<=(Pm.th A).count i
 |[]=>by simp[Pm.pk]
 |[a]=>by simp[Pm.pk,Pm.th]
 |a::b::r=>by
  have:=u_ i r;rw[Pm.pk,Pm.bY,Pm.bY,Pm.bY];simp only[Na];lia
theorem kd(c:Nat->Int)(n i:Nat):∀ d,(Pm.th (Pm.shelf c n d)).count i<=d
 |0=>Jb _
 |d+1=>by
  have h1:=kd c n i d;have h2:=u_ i (Pm.shelf c n d);have h3:(List.range n).count i<=1:=List.nodup_iff_count.mp L9 i;rw[Pm.shelf,(Pm.qU (Pm.jn _)).count_eq,Pm.gm,Na,Pm.nM];lia
theorem oG(cs:List Int)(b:Nat):(dy cs b).length=cs.length:=by
 unfold dy;split
 ·rename_i h;rw[h];rfl
 ·rw[IW,Js]
theorem sD{cs:List Int}(h:cs.length<=20):∀ x∈dy cs b,x<=20:=fun x hx=>by
 unfold dy at hx
 split at hx
 ·rw[Jh.mp hx];decide
 ·obtain⟨i,_,rfl⟩:=JM.mp hx;unfold Pm.CN;have h1:=kd (dX cs) cs.length i (min b (cs.length-1));have h2:(Pm.th ((Pm.shelf (dX cs) cs.length (min b (cs.length-1))).take (2*cs.length-2))).count i<=(Pm.th (Pm.shelf (dX cs) cs.length (min b (cs.length-1)))).count i:=by
   conv=>rhs;rw[<- KR (2*cs.length-2) (Pm.shelf (dX cs) cs.length (min b (cs.length-1))),Pm.gm,Na]
   exact K5 _ _
  lia
theorem Iu(x:se)(gs:ph)(μ:Mu)(Q:Mu->Prop)(h:gs [.tup (nI x.2.1),.tup (aR x.2.2)] μ Q):Y.GA 2 gs (.tr (eT x)) μ Q:=by
 obtain⟨b,l,p⟩:=x;cases b
 ·exact⟨rfl,h⟩
 ·exact⟨rfl,h⟩
theorem B6{f:Addr}(T:Txt K mg)(F:yd K "law" "law" fe f fd)(h_law_cells:ah P w K mg base cF 1 "_law_cells" ["script","many"] (spT K [false,false] vG))(h_law_seed:ah P w K mg base cF 1 "_law_seed" ["cell"] (spT K [false] A1))(h_law_draw:ah P w K mg base cF 1 "_law_draw" ["seed","most"] (spT K [true,false] kG))
  (h_law_counts:ah P w K mg base cF 2 "_law_counts" ["seed","many"] (spT K [true,false] qM)) (hpaper_of:ah P w K mg base cF 7 "paper_of" ["counts"] (spT K [false] u0)) (h_law_other:ah P w K mg base cF 1 "_law_other" ["counts"] (spT K [false] xT)) (h_law_any:ah P w K mg base cF 2 "_law_any" ["seed","counts"] (spT K [true,false] EE))
  (h_law_bent_lengths:ah P w K mg base cF 2 "_law_bent_lengths" ["seed","lengths"] (spT K [true,false] wx)) (h_law_bent_paper:ah P w K mg base cF 2 "_law_bent_paper" ["seed","paper","many"] (spT K [true,false,false] vz)) (hpaper_shown:ah P w K mg base cF 3 "paper_shown" ["counts","lengths","paper"] (spT K [false,false,false] lD)) (h_law_due:ah P w K mg base cF 2 "_law_due" ["counts","lengths","paper"] (spT K [false,false,false] lD)) :
  dJ P w K mg base cF 9 f fd ["script"] (kK K):=by
 refine Di (zU F cY [false] rfl (by decide) (fun args Qt hl h cdv A outer s H E hr=>?_))
 have hu:=cg hr;obtain⟨ns,rfl,hn,q⟩:=h;refine⟨_,(Y.ae (Y.eY JJ rfl (Y.anyS K rfl (Y.fn K rfl h_law_cells (hr.mono (by decide)) rfl aH (Y.cons (Y.vS 0) (Y.cons Y.int Y.nil)))) (Y.aP (i:=1) cY.nd rfl (by walk_at "lc")) (Y.ae (Y.set (i:=2) cY.nd rfl (by walk_at "lc") (Y.fn K rfl h_law_seed (hr.mono (by decide)) rfl aH (Y.cons (Y.vS 1) Y.nil)))
   (Y.ae (Y.set (i:=3) cY.nd rfl (by walk_at "lc") (Y.op (Y.ak K rfl) Y.aj Y.int (Y.fn K rfl h_law_draw (hr.mono (by decide)) rfl aH (Y.cons (Y.vS 2) (Y.cons (Y.ix (Y.a_ K rfl) Y.aq (Y.lst (Y.iz rfl rfl)) (Y.fn K rfl h_law_draw (hr.mono (by decide)) rfl aH (Y.cons (Y.vS 2) (Y.cons Y.int Y.nil)))) Y.nil)))))
   (Y.ae (Y.set (i:=4) cY.nd rfl (by walk_at "lc") (Y.fn K rfl h_law_counts (hr.mono (by decide)) rfl aH (Y.cons (Y.vS 2) (Y.cons (Y.vS 3) Y.nil))))
   (Y.ae (Y.set (i:=5) cY.nd rfl (by walk_at "lc") (Y.lst (Y.cons (Y.fn K rfl hpaper_of (hr.mono (by decide)) rfl aH (Y.cons (Y.vS 4) Y.nil)) (Y.cons (Y.fn K rfl h_law_other (hr.mono (by decide)) rfl aH (Y.cons (Y.vS 4) Y.nil)) Y.nil))))
   (Y.ae (Y.eY JJ rfl (Y.anyS K rfl (Y.lst (Y.cons (Y.ix (Y.a_ K rfl) Y.aq (Y.vS 5) Y.int) (Y.cons (Y.ix (Y.a_ K rfl) Y.aq (Y.vS 5) Y.int) Y.nil)))) (Y.jG (n:=2) K rfl rfl (Y.bg (Y.aP (i:=6) cY.nd rfl (by walk_at "lc")) (Y.bg (Y.aP (i:=7) cY.nd rfl (by walk_at "lc")) Y.d9))) (Y.ae (Y.expr (Y.bm K rfl PySem.F.slot_list_append PySem.F.type_list_append bC Y.bQ (Y.vS 5) (Y.cons (Y.tup (Y.cons (Y.fn K rfl h_law_bent_lengths (hr.mono (by decide)) rfl aH (Y.cons (Y.vS 2) (Y.cons (Y.vS 6) Y.nil))) (Y.cons (Y.vS 7) Y.nil))) Y.nil)))
   (Y.ae (Y.expr (Y.bm K rfl PySem.F.slot_list_append PySem.F.type_list_append bC Y.bQ (Y.vS 5) (Y.cons (Y.tup (Y.cons (Y.vS 6) (Y.cons (Y.fn K rfl h_law_bent_paper (hr.mono (by decide)) rfl aH (Y.cons (Y.vS 2) (Y.cons (Y.vS 7) (Y.cons (Y.vS 3) Y.nil)))) Y.nil))) Y.nil)))
   (Y.aQ (Y.expr (Y.bm K rfl PySem.F.slot_list_append PySem.F.type_list_append bC Y.bQ (Y.vS 5) (Y.cons (Y.tup (Y.cons (Y.vS 6) (Y.cons (Y.fn K rfl h_law_bent_paper (hr.mono (by decide)) rfl aH (Y.cons (Y.vS 2) (Y.cons (Y.vS 7) (Y.cons (Y.vS 3) Y.nil)))) Y.nil))) Y.nil)))))))
   (Y.ae (Y.set (i:=5) cY.nd rfl (by walk_at "lc") (Y.op (Y.ak K rfl) Y.aj (Y.vS 5) (Y.lst (Y.cons (Y.tup (Y.cons (Y.ix (Y.a_ K rfl) Y.aq (Y.ix (Y.a_ K rfl) Y.aq (Y.vS 5) Y.int) Y.int) (Y.cons (Y.ix (Y.a_ K rfl) Y.aq (Y.ix (Y.a_ K rfl) Y.aq (Y.vS 5) Y.int) Y.int) Y.nil))) (Y.cons (Y.tup (Y.cons (Y.ix (Y.a_ K rfl) Y.aq (Y.ix (Y.a_ K rfl) Y.aq (Y.vS 5) Y.int) Y.int) (Y.cons (Y.ix (Y.a_ K rfl) Y.aq (Y.ix (Y.a_ K rfl) Y.aq (Y.vS 5) Y.int) Y.int) Y.nil))) Y.nil)))))
   (Y.ae (Y.set (i:=5) cY.nd rfl (by walk_at "lc") (Y.op (Y.ak K rfl) Y.aj (Y.vS 5) (Y.lst (Y.cons (Y.fn K rfl h_law_any (hr.mono (by decide)) rfl aH (Y.cons (Y.vS 2) (Y.cons (Y.vS 4) Y.nil))) (Y.cons (Y.fn K rfl h_law_any (hr.mono (by decide)) rfl aH (Y.cons (Y.vS 2) (Y.cons (Y.vS 4) Y.nil))) (Y.cons (Y.fn K rfl h_law_any (hr.mono (by decide)) rfl aH (Y.cons (Y.vS 2) (Y.cons (Y.vS 4) Y.nil))) Y.nil))))))
   (Y.aQ (Y.eY JJ rfl (Y.anyS K rfl (Y.vS 5)) (Y.jG (n:=2) K rfl rfl (Y.bg (Y.aP (i:=6) cY.nd rfl (by walk_at "lc")) (Y.bg (Y.aP (i:=7) cY.nd rfl (by walk_at "lc")) Y.d9))) (Y.ae (Y.set (i:=8) cY.nd rfl (by walk_at "lc") (Y.fn K rfl hpaper_shown (hr.mono (by decide)) rfl aH (Y.cons (Y.vS 4) (Y.cons (Y.vS 6) (Y.cons (Y.vS 7) Y.nil)))))
   (Y.aQ (Y.gZ (Y.tw (Y.An (Y.lu (Y.kM K rfl (Y.IJ (C:="bool") K rfl rfl T.lT (Y.vS 8) rfl T.CU (by decide +kernel)))) (Y.p0 (Y.cx (Y.mw K rfl (Jt hu)) Y.lH (Y.vS 8) (Y.fn K rfl h_law_due (hr.mono (by decide)) rfl aH (Y.cons (Y.vS 4) (Y.cons (Y.vS 6) (Y.cons (Y.vS 7) Y.nil)))))))) (Y.aQ (Y.ret Y.bl)) Y.dm)))))))))))))
   (Y.aQ (Y.ret Y.bl))),?_⟩
 refine av fun N hN=>?_;show Y.xY _ _ _ _ (startM [false] [.dM (nI ns)] _);walk_at "rt";refine⟨ns,6,rfl,by decide,fun ms=>?_⟩
 walk_at "rt";refine cM (fun rest μ=>∃(ms:List Int) (s1 s3 s4 s6 s7 s8:Option L2.T) (sd so:Sl),rest=nI ms/\(sd=.un\/∃ c,sd=.bx c)/\nb (some so)=True/\μ=[.tr (.dM (nI ns)),sl s1,sd,sl s3,sl s4,so,sl s6,sl s7,sl s8]) ⟨ms,none,none,none,none,none,none,.un,.un,rfl,.inl rfl,rfl,rfl⟩ ?_ ?_
 ·rintro μ ⟨ms,s1,s3,s4,s6,s7,s8,sd,so,_,_,_,rfl⟩;show N _;refine hN _ ?_;clear hN N;walk_at "rt";exact q
 ·rintro t ts μ M ⟨ms,s1,s3,s4,s6,s7,s8,sd,so,e,hsd,hso,rfl⟩ k
  cases ms with
  |nil=>cases e
  |cons m ms =>
   cases e;have nsd:nb (some sd)=True:=by rcases hsd with rfl|⟨c,rfl⟩<;>rfl
   have nso:=hso;walk_at "rt";refine av fun M' hM=>?_;wp_walk using nsd;refine⟨m,rfl,fun sd1 hs1=>?_⟩;wp_walk using nsd;refine hM _ ?_;clear hM M';refine av fun M' hM=>?_;walk_at "rt";refine⟨by decide,sd1,3,rfl,hs1,by decide,by decide,fun v sd2 hs2 v0 v1=>?_⟩
   obtain⟨d,hd,ed⟩:∃ d:Int,(d=10\/d=20)/\cc [L2.T.int 10,.int 10,.int 20] v=some (.int d):=by
    rcases (show v=0\/v=1\/v=2 by lia) with rfl|rfl|rfl
    ·exact⟨10,.inl rfl,rfl⟩
    ·exact⟨10,.inl rfl,rfl⟩
    ·exact⟨20,.inr rfl,rfl⟩
   wp_walk using ed;refine⟨sd2,d,rfl,hs2,by lia,by lia,fun v2 sd3 hs3 w0 w1=>?_⟩
   obtain⟨n,hn⟩:∃ n:Nat,1+v2=n:=⟨(1+v2).toNat,by lia⟩
   wp_walk using hn;refine hM _ ?_;clear hM M';refine av fun M' hM=>?_;walk_at "rt";refine⟨sd3,n,rfl,hs3,by lia,by lia,fun cs sd4 hs4 hcl hc0=>?_⟩
   walk_at "rt";refine hM _ ?_;clear hM M';refine av fun M' hM=>?_;walk_at "rt";refine⟨cs,rfl,by lia,by lia,?_⟩
   walk_at "rt";refine⟨cs,rfl,by lia,by lia,fun l2 p2 h2=>?_⟩
   wp_walk using nso;refine⟨by decide,?_⟩
   have hl1:Ln n (nZ (dy cs cs.length)):=⟨by rw[Dm,oG,hcl],fun x hx=>by
    obtain⟨y,hy,rfl⟩:=JM.mp hx;have:=sD (by lia) y hy
    lia⟩
   have hp1:(pI (eQ cs)).length<=19:=by
    unfold pI eQ;rw[IW];have:=wq cs.length (ye (zG cs cs.length)) cs.length;rw[eM,eK] at this;lia
   rw[hcl] at h2;rw[E4,Co];generalize nZ (dy cs cs.length)=l1 at *;generalize pI (eQ cs)=p1 at *;show M' [_,_,_,_,_,.bx (.lst (iA [(true,l1,p1),(false,l2,p2)])),_,_,_];refine hM _ ?_;clear hM M';refine av fun M' hM=>?_;have a0:∀(x y:se) (r:List se),cc (iA (x::y::r)) 0=some (eT x):=fun x y r=>cB (xs:=iA (x::y::r)) (j:=0) rfl;have a1:∀(x y:se) (r:List se),cc (iA (x::y::r)) 1=some (eT y):=fun x y r=>cB (xs:=iA (x::y::r)) (j:=1) rfl;wp_walk using a0,a1;refine⟨by decide,?_⟩
   refine cM (fun rest μ=>∃(todo more:List se) (s6 s7:Option L2.T) (sd:L2.T),rest=iA todo/\dF sd/\(∀ x∈todo,Ln n x.2.1/\x.2.2.length<=19)/\yZ n more/\more.length+3*todo.length=6/\μ=[.tr (.dM (nI ns)),.tr (.int m),.bx sd,.tr (.int (n:Int)),.tr (.tup (nI cs)),.bx (.lst (iA ((true,l1,p1)::(false,l2,p2)::more))),sl s6,sl s7,sl s8]) ⟨[(true,l1,p1),(false,l2,p2)],[],s6,s7,sd4,rfl,hs4,?_,(fun x hx=>by cases hx),rfl,rfl⟩ ?_ ?_
   ·intro x hx;rcases Jg.mp hx with rfl|hx
    ·exact⟨hl1,hp1⟩
    ·rw[Jh.mp hx];exact h2
   ·rintro μ ⟨todo,more,s6,s7,sd,e,hs,_,hmo,hml,rfl⟩;have e0:todo=[]:=by
     cases todo with
     |nil=>rfl
     |cons=>cases e
    subst e0;show M' _;refine hM _ ?_;clear hM M';have b0:cc (iA ((true,l1,p1)::(false,l2,p2)::more)) 0=some (.tup [.tup (nI l1),.tup (aR p1)]):=a0 _ _ _;have b1:cc (iA ((true,l1,p1)::(false,l2,p2)::more)) 1=some (.lst [.tup (nI l2),.tup (aR p2)]):=a1 _ _ _;have f0:∀ x y:L2.T,cc [x,y] 0=some x:=fun _ _=>rfl;have f1:∀ x y:L2.T,cc [x,y] 1=some y:=fun _ _=>rfl;have hall:yZ n ((true,l1,p1)::(false,l2,p2)::more):=fun x hx=>by
     rcases Jg.mp hx with rfl|hx
     ·exact⟨hl1,Ke hp1⟩
     ·rcases Jg.mp hx with rfl|hx
      ·exact⟨h2.1,Ke h2.2⟩
      ·exact hmo x hx
    generalize eal:(true,l1,p1)::(false,l2,p2)::more=all at *;have hal:all.length=8:=by rw[<- eal];simp at hml ⊢;exact hml
    clear eal hmo hml;refine av fun M' hM=>?_;have vs:∀(i:Nat) (c:L2.T) (μ:Mu) (Q:R->Mu->Prop),μ[i]?=some (.bx c)->Y.dC i μ Q=Q (.br i) μ:=fun i c μ Q e=>by rw[L2.A3.jS,e];rfl
    generalize hμ:([.tr (.dM (nI ns)),.tr (.int m),.bx sd,.tr (.int (n:Int)),.tr (.tup (nI cs)),.bx (.lst (iA all)),sl s6,sl s7,sl s8]:Mu)=μc;have v5:∀ Q,Y.dC 5 μc Q=Q (.br 5) μc:=fun Q=>vs 5 _ _ _ (by rw[<- hμ];rfl)
    have c5:cont μc (R.br 5)=some (.lst (iA all)):=by rw[<- hμ];rfl
    have ix:∀{i j:Int} {x y:L2.T} (Q:R->Mu->Prop),cc (iA all) i=some x->A7 (some x) (some (.int j))=.ok (.tr y)->Y.gA Y.du (Y.gA Y.du (Y.dC 5) (Y.uC (.int i))) (Y.uC (.int j)) μc Q=Q (.tr y) μc:=fun {i j x y} Q e1 e2=>by
     show Y.dC 5 μc (fun r μ1=>Y.du r.d (.tr (.int i)) μ1 fun r1 μ2=>Y.du r1.d (.tr (.int j)) μ2 Q)=_;rw[v5];show jI (A7 (cont μc (R.br 5)) (some (.int i))) (fun r=>Y.du r.d (.tr (.int j)) μc Q)=_;rw[c5];show jI (oQ (cc (iA all) i)) (fun r=>Y.du r.d (.tr (.int j)) μc Q)=_;rw[e1];show jI (A7 (some x) (some (.int j))) (fun r=>Q r μc)=_;rw[e2];rfl
    have i00:=fun Q=>ix (i:=0) (j:=0) Q b0 rfl;have i11:=fun Q=>ix (i:=1) (j:=1) Q b1 rfl;have i10:=fun Q=>ix (i:=1) (j:=0) Q b1 rfl;have i01:=fun Q=>ix (i:=0) (j:=1) Q b0 rfl;have kl:∀ Q:R->Mu->Prop,Q (.fr (.lst (iA [(true,l1,p2),(true,l2,p1)]))) μc->(Y.xS (Y.fk (Y.t4 (Y.fk (Y.gA Y.du (Y.gA Y.du (Y.dC 5) (Y.uC (.int 0))) (Y.uC (.int 0))) (Y.fk (Y.gA Y.du (Y.gA Y.du (Y.dC 5) (Y.uC (.int 1))) (Y.uC (.int 1))) Y.pH))) (Y.fk (Y.t4 (Y.fk (Y.gA Y.du (Y.gA Y.du (Y.dC 5) (Y.uC (.int 1))) (Y.uC (.int 0))) (Y.fk (Y.gA Y.du (Y.gA Y.du (Y.dC 5) (Y.uC (.int 0))) (Y.uC (.int 1))) Y.pH))) Y.pH))) μc Q:=fun Q hQ=>by
     show Y.gA Y.du (Y.gA Y.du (Y.dC 5) (Y.uC (.int 0))) (Y.uC (.int 0)) μc _;rw[i00];show Y.gA Y.du (Y.gA Y.du (Y.dC 5) (Y.uC (.int 1))) (Y.uC (.int 1)) μc _;rw[i11];refine⟨show 2<=sizeLine by decide,?_⟩
     show Y.gA Y.du (Y.gA Y.du (Y.dC 5) (Y.uC (.int 1))) (Y.uC (.int 0)) μc _;rw[i10];show Y.gA Y.du (Y.gA Y.du (Y.dC 5) (Y.uC (.int 0))) (Y.uC (.int 1)) μc _;rw[i01];exact⟨show 2<=sizeLine by decide,show 2<=sizeLine by decide,hQ⟩
    rw[L2.A.jO,L2.A.gA,v5];refine kl _ ?_;subst hμ;wp_walk using fJ,hal;rw[<- lB];have hall2:yZ n (all++[(true,l1,p2),(true,l2,p1)]):=hall.app fun x hx=>by
     rcases Jg.mp hx with rfl|hx
     ·exact⟨hl1,Ke h2.2⟩
     ·rw[Jh.mp hx];exact⟨h2.1,Ke hp1⟩
    have hal2:(all++[(true,l1,p2),(true,l2,p1)]).length=10:=by rw[IX,hal];rfl
    clear b0 b1 v5 c5 ix i00 i11 i10 i01 kl vs a0 a1 f0 f1 hall hal;generalize all++[(true,l1,p2),(true,l2,p1)]=all2 at *;refine⟨by decide,?_⟩
    refine hM _ ?_;clear hM M';refine av fun M' hM=>?_;walk_at "rt";refine⟨sd,cs,rfl,hs,by lia,by lia,fun l3 p3 s3 hs3 g3=>?_⟩
    walk_at "rt";refine⟨s3,cs,rfl,hs3,by lia,by lia,fun l4 p4 s4 hs4 g4=>?_⟩
    walk_at "rt";refine⟨s4,cs,rfl,hs4,by lia,by lia,fun l5 p5 s5 hs5 g5=>?_⟩
    wp_walk using fJ,hal2;have hall3:yZ n (all2++[(true,l3,p3),(true,l4,p4),(true,l5,p5)]):=hall2.app fun x hx=>by
     rw[hcl] at g3 g4 g5;rcases Jg.mp hx with rfl|hx
     ·exact⟨g3.1,Ke g3.2⟩
     ·rcases Jg.mp hx with rfl|hx
      ·exact⟨g4.1,Ke g4.2⟩
      ·rw[Jh.mp hx];exact⟨g5.1,Ke g5.2⟩
    refine⟨by decide,by decide,?_⟩
    have e3:iA all2++[L2.T.tup [L2.T.tup (nI l3),L2.T.tup (aR p3)],L2.T.tup [L2.T.tup (nI l4),L2.T.tup (aR p4)],L2.T.tup [L2.T.tup (nI l5),L2.T.tup (aR p5)]]=iA (all2++[(true,l3,p3),(true,l4,p4),(true,l5,p5)]):=by rw[lB];rfl
    rw[e3];clear hall2 hal2 e3 g3 g4 g5;generalize all2++[(true,l3,p3),(true,l4,p4),(true,l5,p5)]=all3 at *;refine hM _ ?_;clear hM M';walk_at "rt";refine cM (fun rest μ=>∃(todo:List se) (s6 s7 s8:Option L2.T),rest=iA todo/\yZ n todo/\μ=[.tr (.dM (nI ns)),.tr (.int m),.bx s5,.tr (.int (n:Int)),.tr (.tup (nI cs)),.tr (.lst (iA all3)),sl s6,sl s7,sl s8]) ⟨all3,s6,s7,s8,rfl,hall3,rfl⟩ ?_ ?_
    ·rintro μ ⟨todo,s6,s7,s8,e,_,rfl⟩;exact k _ ⟨ms,some _,some _,some _,s6,s7,s8,_,_,rfl,.inr ⟨_,rfl⟩,rfl,rfl⟩
    ·rintro t ts μ M2 ⟨todo,s6,s7,s8,e,hto,rfl⟩ k2
     cases todo with
     |nil=>cases e
     |cons x todo =>
      obtain⟨rfl,rfl⟩:=List.cons.inj e;refine Iu _ _ _ _ ?_;obtain⟨g1,g2⟩:=hto x Jl;have hLens:yD x.2.1:=⟨by rw[g1.1];lia,by rw[g1.1];lia,fun y hy=>by have:=g1.2 y hy;lia⟩
      have hsp:x.2.1.length=cs.length:=by rw[g1.1,hcl]
      walk_at "rt";refine av fun M3 h3=>?_;walk_at "rt";refine⟨cs,x.2.1,x.2.2,rfl,by lia,by lia,hsp,g2,hLens,?_⟩
      walk_at "rt";refine h3 _ ?_;clear h3 M3;have tt:jV "bool" "bool"=true:=by decide
      wp_walk using tt;refine⟨cs,x.2.1,x.2.2,rfl,by lia,by lia,hsp,g2,hLens,?_⟩
      walk_at "rt";rw[IY (KY trivial)];exact k2 _ ⟨todo,some _,some _,some _,rfl,fun y hy=>hto y (Jk _ hy),rfl⟩
   ·rintro t ts μ M2 ⟨todo,more,s6,s7,sd,e,hs,hto,hmo,hml,rfl⟩ k2
    cases todo with
    |nil=>cases e
    |cons x todo =>
     obtain⟨rfl,rfl⟩:=List.cons.inj e;refine Iu _ _ _ _ ?_;obtain⟨g1,g2⟩:=hto x Jl;walk_at "rt";refine av fun M3 h3=>?_;walk_at "rt";refine⟨sd,n,x.2.1,rfl,hs,by lia,by lia,g1,fun l3 s3 hs3 g3=>?_⟩
     wp_walk using fJ;have ea:∀(mo:List se) (l:List Int) (p:List (Int×Int)),iA ((true,l1,p1)::(false,l2,p2)::mo)++[L2.T.tup [L2.T.tup (nI l),L2.T.tup (aR p)]]=iA ((true,l1,p1)::(false,l2,p2)::(mo++[(true,l,p)])):=fun mo l p=>by
      rw[show (true,l1,p1)::(false,l2,p2)::(mo++[(true,l,p)])=((true,l1,p1)::(false,l2,p2)::mo)++[(true,l,p)] from rfl,lB];rfl
     have sz:∀ n:Nat,n<=20->n<sizeLine:=fun n h=>Jo h (by decide)
     rw[Jf] at hml;rw[ea];refine⟨by decide,sz _ (by lia),?_⟩
     refine h3 _ ?_;clear h3 M3;refine av fun M3 h3=>?_;walk_at "rt";refine⟨s3,n,x.2.2,rfl,hs3,by lia,by lia,g2,fun p4 s4 hs4 g4=>?_⟩
     wp_walk using fJ;rw[ea];refine⟨by decide,sz _ (by simp;lia),?_⟩
     refine h3 _ ?_;clear h3 M3;walk_at "rt";refine⟨s4,n,x.2.2,rfl,hs4,by lia,by lia,g2,fun p5 s5 hs5 g5=>?_⟩
     wp_walk using fJ;rw[ea];refine⟨by decide,sz _ (by simp;lia),?_⟩
     refine k2 _ ⟨todo,_,some _,some _,s5,rfl,hs5,fun y hy=>hto y (Jk _ hy),((hmo.app (b:=[(true,l3,x.2.2)]) ?_).app (b:=[(true,x.2.1,p4)]) ?_).app (b:=[(true,x.2.1,p5)]) ?_,?_,rfl⟩
     ·intro y hy;rw[Jh.mp hy];exact⟨g3,Ke g2⟩
     ·intro y hy;rw[Jh.mp hy];exact⟨g1,g4⟩
     ·intro y hy;rw[Jh.mp hy];exact⟨g1,g5⟩
     ·simp only[IX,Jr];lia
theorem CM{f:Addr}(T:Txt K mg)(f_can:HasFn K mg "can_be" cR ["lengths"])(f_cost:HasFn K mg "cost_of" cu ["counts","lengths"])(f_least:HasFn K mg "least_lengths" aD ["counts","bound"])(f_chosen:HasFn K mg "chosen_things" aK ["counts","bound"])(f_worth:HasFn K mg "by_worth" bR ["shelf"])(f_packs:HasFn K mg "packs_of" bI ["shelf"])
  (f_paper:HasFn K mg "paper_of" bW ["counts"]) (f_light:HasFn K mg "lightest_first" aF ["counts"]) (f_weight:HasFn K mg "by_weight" bD ["standing"]) (f_shown:HasFn K mg "paper_shown" bo ["counts","lengths","paper"]) (f_wpt:HasFn K mg "weight_put_together" ay ["counts","paper"]) (f_may:HasFn K mg "may_be_put" bp ["standing","one","other"])
  (f_seed:HasFn K mg "_law_seed" bG ["cell"]) (f_draw:HasFn K mg "_law_draw" bF ["seed","most"]) (f_cells:HasFn K mg "_law_cells" bz ["script","many"]) (f_counts:HasFn K mg "_law_counts" aU ["seed","many"]) (f_fits:HasFn K mg "_law_fits" bE ["lengths"])
  (f_lcost:HasFn K mg "_law_cost" bH ["counts","lengths"]) (f_walked:HasFn K mg "_law_walked" aV ["counts","paper"]) (f_other:HasFn K mg "_law_other" aZ ["counts"]) (f_any:HasFn K mg "_law_any" bA ["seed","counts"]) (f_due:HasFn K mg "_law_due" bV ["counts","lengths","paper"]) (f_bentl:HasFn K mg "_law_bent_lengths" aA ["seed","lengths"]) (f_bentp:HasFn K mg "_law_bent_paper" aG ["seed","paper","many"]) (F:yd K "law" "law" fe f fd):dJ P w K mg base cF 9 f fd ["script"] (kK K):=by
 obtain⟨C_NoCode,hC_NoCode,kC_NoCode⟩:=T.xs;have dr:=yW (P:=P) (w:=w) (base:=base) T f_draw;have le:=xD (P:=P) (w:=w) (base:=base) T f_least (xQ T f_can) (uk T f_chosen (x_ T f_worth) (vv T f_packs)) hC_NoCode kC_NoCode;exact B6 T F (xr T f_cells) (Ay T f_seed) dr (tJ T f_counts dr) (uz T f_paper le (vD T f_light (sx T f_weight))) (uO T f_other) (Dl T f_any dr) (vg T f_bentl dr) (xJ T f_bentp dr) (x6 T f_shown (we T f_wpt (B_ T f_may)) (xQ T f_can) (zg T f_cost)) (Dk T f_due (tL T f_walked) (yQ T f_fits) (uI T f_lcost))
theorem all_mk{w:World}{K:Oe}{h:Heap}{mg:Str->Option Value}{fa:Addr}(X:K.In h)(G:h.Ns mainGlobals mg)(hfa:mg "law"=some (.ref fa))
  {f0 f1 f2 f3 f4 f5 f6 f7 f8 f9 f10 f11 f12 f13 f14 f15 f16 f17 f18 f19 f20 f21 f22 f23 f24:Addr} {od0 an0 od1 an1 od2 an2 od3 an3 od4 an4 od5 an5 od6 an6 od7 an7 od8 an8 od9 an9 od10 an10 od11 an11 od12 an12 od13 an13 od14 an14 od15 an15 od16 an16 od17 an17 od18 an18 od19 an19 od20 an20 od21 an21 od22 an22 od23 an23 od24 an24:Option Addr} {sl0 sl1 sl2 sl3 sl4 sl5 sl6 sl7 sl8 sl9 sl10 sl11 sl12 sl13 sl14 sl15 sl16 sl17 sl18 sl19 sl20 sl21 sl22 sl23 sl24:Array (Option Value)} {oc0 kV0 dc0 pm0 cd0 ct0 oc1 kV1 dc1 pm1 cd1 ct1 oc2 kV2 dc2 pm2 cd2 ct2 oc3 kV3 dc3 pm3 cd3 ct3 oc4 kV4 dc4 pm4 cd4 ct4 oc5 kV5 dc5 pm5 cd5 ct5 oc6 kV6 dc6 pm6 cd6 ct6 oc7 kV7 dc7 pm7 cd7 ct7 oc8 kV8 dc8 pm8 cd8 ct8 oc9 kV9 dc9 pm9 cd9 ct9 oc10 kV10 dc10 pm10 cd10 ct10 oc11 kV11 dc11 pm11 cd11 ct11 oc12 kV12 dc12 pm12 cd12 ct12 oc13 kV13 dc13 pm13 cd13 ct13 oc14 kV14 dc14 pm14 cd14 ct14 oc15 kV15 dc15 pm15 cd15 ct15 oc16 kV16 dc16 pm16 cd16 ct16 oc17 kV17 dc17 pm17 cd17 ct17 oc18 kV18 dc18 pm18 cd18 ct18 oc19 kV19 dc19 pm19 cd19 ct19 oc20 kV20 dc20 pm20 cd20 ct20 oc21 kV21 dc21 pm21 cd21 ct21 oc22 kV22 dc22 pm22 cd22 ct22 oc23 kV23 dc23 pm23 cd23 ct23 oc24 kV24 dc24 pm24 cd24 ct24:Value}
  {xd_NoCode:Addr}
      
      
  (a0:PySem.W.nsIn K mainGlobals "can_be"=some (some (.ref f0))) (l0:K.lookup f0=some ⟨oc0,od0,.func (PySem.W.fnOf "can_be" "can_be" (aE cR) (aw cR) (aa cR) .none kV0 dc0 pm0 an0 cd0 ct0),sl0⟩) (c0:PySem.W.codeIn K cd0 "can_be"=true) (k0:PySem.W.keepIn K (.ref f0)=true)
  (a1:PySem.W.nsIn K mainGlobals "cost_of"=some (some (.ref f1))) (l1:K.lookup f1=some ⟨oc1,od1,.func (PySem.W.fnOf "cost_of" "cost_of" (aE cu) (aw cu) (aa cu) .none kV1 dc1 pm1 an1 cd1 ct1),sl1⟩) (c1:PySem.W.codeIn K cd1 "cost_of"=true) (k1:PySem.W.keepIn K (.ref f1)=true)
  (a2:PySem.W.nsIn K mainGlobals "least_lengths"=some (some (.ref f2))) (l2:K.lookup f2=some ⟨oc2,od2,.func (PySem.W.fnOf "least_lengths" "least_lengths" (aE aD) (aw aD) (aa aD) .none kV2 dc2 pm2 an2 cd2 ct2),sl2⟩) (c2:PySem.W.codeIn K cd2 "least_lengths"=true) (k2:PySem.W.keepIn K (.ref f2)=true)
  (a3:PySem.W.nsIn K mainGlobals "chosen_things"=some (some (.ref f3))) (l3:K.lookup f3=some ⟨oc3,od3,.func (PySem.W.fnOf "chosen_things" "chosen_things" (aE aK) (aw aK) (aa aK) .none kV3 dc3 pm3 an3 cd3 ct3),sl3⟩) (c3:PySem.W.codeIn K cd3 "chosen_things"=true) (k3:PySem.W.keepIn K (.ref f3)=true)
  (a4:PySem.W.nsIn K mainGlobals "by_worth"=some (some (.ref f4))) (l4:K.lookup f4=some ⟨oc4,od4,.func (PySem.W.fnOf "by_worth" "by_worth" (aE bR) (aw bR) (aa bR) .none kV4 dc4 pm4 an4 cd4 ct4),sl4⟩) (c4:PySem.W.codeIn K cd4 "by_worth"=true) (k4:PySem.W.keepIn K (.ref f4)=true)
  (a5:PySem.W.nsIn K mainGlobals "packs_of"=some (some (.ref f5))) (l5:K.lookup f5=some ⟨oc5,od5,.func (PySem.W.fnOf "packs_of" "packs_of" (aE bI) (aw bI) (aa bI) .none kV5 dc5 pm5 an5 cd5 ct5),sl5⟩) (c5:PySem.W.codeIn K cd5 "packs_of"=true) (k5:PySem.W.keepIn K (.ref f5)=true)
  (a6:PySem.W.nsIn K mainGlobals "paper_of"=some (some (.ref f6))) (l6:K.lookup f6=some ⟨oc6,od6,.func (PySem.W.fnOf "paper_of" "paper_of" (aE bW) (aw bW) (aa bW) .none kV6 dc6 pm6 an6 cd6 ct6),sl6⟩) (c6:PySem.W.codeIn K cd6 "paper_of"=true) (k6:PySem.W.keepIn K (.ref f6)=true)
  (a7:PySem.W.nsIn K mainGlobals "lightest_first"=some (some (.ref f7))) (l7:K.lookup f7=some ⟨oc7,od7,.func (PySem.W.fnOf "lightest_first" "lightest_first" (aE aF) (aw aF) (aa aF) .none kV7 dc7 pm7 an7 cd7 ct7),sl7⟩) (c7:PySem.W.codeIn K cd7 "lightest_first"=true) (k7:PySem.W.keepIn K (.ref f7)=true)
  (a8:PySem.W.nsIn K mainGlobals "by_weight"=some (some (.ref f8))) (l8:K.lookup f8=some ⟨oc8,od8,.func (PySem.W.fnOf "by_weight" "by_weight" (aE bD) (aw bD) (aa bD) .none kV8 dc8 pm8 an8 cd8 ct8),sl8⟩) (c8:PySem.W.codeIn K cd8 "by_weight"=true) (k8:PySem.W.keepIn K (.ref f8)=true)
  (a9:PySem.W.nsIn K mainGlobals "paper_shown"=some (some (.ref f9))) (l9:K.lookup f9=some ⟨oc9,od9,.func (PySem.W.fnOf "paper_shown" "paper_shown" (aE bo) (aw bo) (aa bo) .none kV9 dc9 pm9 an9 cd9 ct9),sl9⟩) (c9:PySem.W.codeIn K cd9 "paper_shown"=true) (k9:PySem.W.keepIn K (.ref f9)=true)
  (a10:PySem.W.nsIn K mainGlobals "weight_put_together"=some (some (.ref f10))) (l10:K.lookup f10=some ⟨oc10,od10,.func (PySem.W.fnOf "weight_put_together" "weight_put_together" (aE ay) (aw ay) (aa ay) .none kV10 dc10 pm10 an10 cd10 ct10),sl10⟩) (c10:PySem.W.codeIn K cd10 "weight_put_together"=true) (k10:PySem.W.keepIn K (.ref f10)=true)
  (a11:PySem.W.nsIn K mainGlobals "may_be_put"=some (some (.ref f11))) (l11:K.lookup f11=some ⟨oc11,od11,.func (PySem.W.fnOf "may_be_put" "may_be_put" (aE bp) (aw bp) (aa bp) .none kV11 dc11 pm11 an11 cd11 ct11),sl11⟩) (c11:PySem.W.codeIn K cd11 "may_be_put"=true) (k11:PySem.W.keepIn K (.ref f11)=true)
  (a12:PySem.W.nsIn K mainGlobals "_law_seed"=some (some (.ref f12))) (l12:K.lookup f12=some ⟨oc12,od12,.func (PySem.W.fnOf "_law_seed" "_law_seed" (aE bG) (aw bG) (aa bG) .none kV12 dc12 pm12 an12 cd12 ct12),sl12⟩) (c12:PySem.W.codeIn K cd12 "_law_seed"=true) (k12:PySem.W.keepIn K (.ref f12)=true)
  (a13:PySem.W.nsIn K mainGlobals "_law_draw"=some (some (.ref f13))) (l13:K.lookup f13=some ⟨oc13,od13,.func (PySem.W.fnOf "_law_draw" "_law_draw" (aE bF) (aw bF) (aa bF) .none kV13 dc13 pm13 an13 cd13 ct13),sl13⟩) (c13:PySem.W.codeIn K cd13 "_law_draw"=true) (k13:PySem.W.keepIn K (.ref f13)=true)
  (a14:PySem.W.nsIn K mainGlobals "_law_cells"=some (some (.ref f14))) (l14:K.lookup f14=some ⟨oc14,od14,.func (PySem.W.fnOf "_law_cells" "_law_cells" (aE bz) (aw bz) (aa bz) .none kV14 dc14 pm14 an14 cd14 ct14),sl14⟩) (c14:PySem.W.codeIn K cd14 "_law_cells"=true) (k14:PySem.W.keepIn K (.ref f14)=true)
  (a15:PySem.W.nsIn K mainGlobals "_law_counts"=some (some (.ref f15))) (l15:K.lookup f15=some ⟨oc15,od15,.func (PySem.W.fnOf "_law_counts" "_law_counts" (aE aU) (aw aU) (aa aU) .none kV15 dc15 pm15 an15 cd15 ct15),sl15⟩) (c15:PySem.W.codeIn K cd15 "_law_counts"=true) (k15:PySem.W.keepIn K (.ref f15)=true)
  (a16:PySem.W.nsIn K mainGlobals "_law_fits"=some (some (.ref f16))) (l16:K.lookup f16=some ⟨oc16,od16,.func (PySem.W.fnOf "_law_fits" "_law_fits" (aE bE) (aw bE) (aa bE) .none kV16 dc16 pm16 an16 cd16 ct16),sl16⟩) (c16:PySem.W.codeIn K cd16 "_law_fits"=true) (k16:PySem.W.keepIn K (.ref f16)=true)
  (a17:PySem.W.nsIn K mainGlobals "_law_cost"=some (some (.ref f17))) (l17:K.lookup f17=some ⟨oc17,od17,.func (PySem.W.fnOf "_law_cost" "_law_cost" (aE bH) (aw bH) (aa bH) .none kV17 dc17 pm17 an17 cd17 ct17),sl17⟩) (c17:PySem.W.codeIn K cd17 "_law_cost"=true) (k17:PySem.W.keepIn K (.ref f17)=true)
  (a18:PySem.W.nsIn K mainGlobals "_law_walked"=some (some (.ref f18))) (l18:K.lookup f18=some ⟨oc18,od18,.func (PySem.W.fnOf "_law_walked" "_law_walked" (aE aV) (aw aV) (aa aV) .none kV18 dc18 pm18 an18 cd18 ct18),sl18⟩) (c18:PySem.W.codeIn K cd18 "_law_walked"=true) (k18:PySem.W.keepIn K (.ref f18)=true)
  (a19:PySem.W.nsIn K mainGlobals "_law_other"=some (some (.ref f19))) (l19:K.lookup f19=some ⟨oc19,od19,.func (PySem.W.fnOf "_law_other" "_law_other" (aE aZ) (aw aZ) (aa aZ) .none kV19 dc19 pm19 an19 cd19 ct19),sl19⟩) (c19:PySem.W.codeIn K cd19 "_law_other"=true) (k19:PySem.W.keepIn K (.ref f19)=true)
  (a20:PySem.W.nsIn K mainGlobals "_law_any"=some (some (.ref f20))) (l20:K.lookup f20=some ⟨oc20,od20,.func (PySem.W.fnOf "_law_any" "_law_any" (aE bA) (aw bA) (aa bA) .none kV20 dc20 pm20 an20 cd20 ct20),sl20⟩) (c20:PySem.W.codeIn K cd20 "_law_any"=true) (k20:PySem.W.keepIn K (.ref f20)=true)
  (a21:PySem.W.nsIn K mainGlobals "_law_due"=some (some (.ref f21))) (l21:K.lookup f21=some ⟨oc21,od21,.func (PySem.W.fnOf "_law_due" "_law_due" (aE bV) (aw bV) (aa bV) .none kV21 dc21 pm21 an21 cd21 ct21),sl21⟩) (c21:PySem.W.codeIn K cd21 "_law_due"=true) (k21:PySem.W.keepIn K (.ref f21)=true)
  (a22:PySem.W.nsIn K mainGlobals "_law_bent_lengths"=some (some (.ref f22))) (l22:K.lookup f22=some ⟨oc22,od22,.func (PySem.W.fnOf "_law_bent_lengths" "_law_bent_lengths" (aE aA) (aw aA) (aa aA) .none kV22 dc22 pm22 an22 cd22 ct22),sl22⟩) (c22:PySem.W.codeIn K cd22 "_law_bent_lengths"=true) (k22:PySem.W.keepIn K (.ref f22)=true)
  (a23:PySem.W.nsIn K mainGlobals "_law_bent_paper"=some (some (.ref f23))) (l23:K.lookup f23=some ⟨oc23,od23,.func (PySem.W.fnOf "_law_bent_paper" "_law_bent_paper" (aE aG) (aw aG) (aa aG) .none kV23 dc23 pm23 an23 cd23 ct23),sl23⟩) (c23:PySem.W.codeIn K cd23 "_law_bent_paper"=true) (k23:PySem.W.keepIn K (.ref f23)=true)
  (a24:PySem.W.nsIn K mainGlobals "law"=some (some (.ref f24))) (l24:K.lookup f24=some ⟨oc24,od24,.func (PySem.W.fnOf "law" "law" (aE fe) (aw fe) (aa fe) .none kV24 dc24 pm24 an24 cd24 ct24),sl24⟩) (c24:PySem.W.codeIn K cd24 "law"=true) (k24:PySem.W.keepIn K (.ref f24)=true)
  (z0:PySem.W.nsIn K mainGlobals "all"=some none)
  (z1:PySem.W.nsIn K mainGlobals "bool"=some none)
  (z2:PySem.W.nsIn K mainGlobals "dict"=some none)
  (z3:PySem.W.nsIn K mainGlobals "enumerate"=some none)
  (z4:PySem.W.nsIn K mainGlobals "int"=some none)
  (z5:PySem.W.nsIn K mainGlobals "isinstance"=some none)
  (z6:PySem.W.nsIn K mainGlobals "len"=some none)
  (z7:PySem.W.nsIn K mainGlobals "list"=some none)
  (z8:PySem.W.nsIn K mainGlobals "max"=some none)
  (z9:PySem.W.nsIn K mainGlobals "min"=some none)
  (z10:PySem.W.nsIn K mainGlobals "range"=some none)
  (z11:PySem.W.nsIn K mainGlobals "sorted"=some none)
  (z12:PySem.W.nsIn K mainGlobals "sum"=some none)
  (z13:PySem.W.nsIn K mainGlobals "tuple"=some none)
  (z14:PySem.W.nsIn K mainGlobals "zip"=some none)
  (xf0:PySem.W.nsIn K mainGlobals "NoCode"=some (some (.ref xd_NoCode)))
  (xf1:PySem.W.excIn K xd_NoCode [.type "ValueError",.type "Exception",.type "BaseException",.type "object"] "ValueError.__new__"=true)
  (le_by_worth:cd4=.ref lc_by_worth) (lk_by_worth:K.lookup lc_by_worth=some ⟨lO_by_worth,lD_by_worth,.fields lv_by_worth,lS_by_worth⟩) (lw_by_worth:lv_by_worth[11]?=some (.ref lp_by_worth))
  (le_by_weight:cd8=.ref lc_by_weight) (lk_by_weight:K.lookup lc_by_weight=some ⟨lO_by_weight,lD_by_weight,.fields lv_by_weight,lS_by_weight⟩) (lw_by_weight:lv_by_weight[11]?=some (.ref lp_by_weight))
  : ∃ fd:FuncData,(∀(s:Shared) (v:Value),BindsTo s fd ⟨[v],[]⟩ [("script",v)])/\∀ base:Heap,K.In base->base.Ns mainGlobals mg->dJ l.prog w K mg base cF 30 fa fd ["script"] (kK K):=by
 have e:=hfa.symm.trans (PySem.W.mg_of X G a24);cases e;have T:Txt K mg:=⟨PySem.W.mg_none_of X G z0,PySem.W.mg_none_of X G z1,PySem.W.mg_none_of X G z2,PySem.W.mg_none_of X G z3,PySem.W.mg_none_of X G z4,PySem.W.mg_none_of X G z5,PySem.W.mg_none_of X G z6,PySem.W.mg_none_of X G z7,PySem.W.mg_none_of X G z8,PySem.W.mg_none_of X G z9,PySem.W.mg_none_of X G z10,PySem.W.mg_none_of X G z11,PySem.W.mg_none_of X G z12,PySem.W.mg_none_of X G z13,PySem.W.mg_none_of X G z14,⟨_,PySem.W.mg_of X G xf0,⟨xf1⟩⟩,kT.mk' X G (gc a4 l4 le_by_worth lk_by_worth lw_by_worth),kT.mk' X G (gc a8 l8 le_by_weight lk_by_weight lw_by_weight)⟩;have F0:HasFn K mg "can_be" cR ["lengths"]:=⟨f0,_,au (st:=cR) l0 c0 k0,(au (st:=cR) l0 c0 k0).binds (ps:=["lengths"]) (fun _ _ _ _ _ _ us hl=>by obtain⟨_,rfl⟩:=Y.h_ hl;rfl),PySem.W.mg_of X G a0⟩
 have F1:HasFn K mg "cost_of" cu ["counts","lengths"]:=⟨f1,_,au (st:=cu) l1 c1 k1,(au (st:=cu) l1 c1 k1).binds (ps:=["counts","lengths"]) (fun _ _ _ _ _ _ us hl=>by obtain⟨_,_,rfl⟩:=Y.fF hl;rfl),PySem.W.mg_of X G a1⟩
 have F2:HasFn K mg "least_lengths" aD ["counts","bound"]:=⟨f2,_,au (st:=aD) l2 c2 k2,(au (st:=aD) l2 c2 k2).binds (ps:=["counts","bound"]) (fun _ _ _ _ _ _ us hl=>by obtain⟨_,_,rfl⟩:=Y.fF hl;rfl),PySem.W.mg_of X G a2⟩
 have F3:HasFn K mg "chosen_things" aK ["counts","bound"]:=⟨f3,_,au (st:=aK) l3 c3 k3,(au (st:=aK) l3 c3 k3).binds (ps:=["counts","bound"]) (fun _ _ _ _ _ _ us hl=>by obtain⟨_,_,rfl⟩:=Y.fF hl;rfl),PySem.W.mg_of X G a3⟩
 have F4:HasFn K mg "by_worth" bR ["shelf"]:=⟨f4,_,au (st:=bR) l4 c4 k4,(au (st:=bR) l4 c4 k4).binds (ps:=["shelf"]) (fun _ _ _ _ _ _ us hl=>by obtain⟨_,rfl⟩:=Y.h_ hl;rfl),PySem.W.mg_of X G a4⟩
 have F5:HasFn K mg "packs_of" bI ["shelf"]:=⟨f5,_,au (st:=bI) l5 c5 k5,(au (st:=bI) l5 c5 k5).binds (ps:=["shelf"]) (fun _ _ _ _ _ _ us hl=>by obtain⟨_,rfl⟩:=Y.h_ hl;rfl),PySem.W.mg_of X G a5⟩
 have F6:HasFn K mg "paper_of" bW ["counts"]:=⟨f6,_,au (st:=bW) l6 c6 k6,(au (st:=bW) l6 c6 k6).binds (ps:=["counts"]) (fun _ _ _ _ _ _ us hl=>by obtain⟨_,rfl⟩:=Y.h_ hl;rfl),PySem.W.mg_of X G a6⟩
 have F7:HasFn K mg "lightest_first" aF ["counts"]:=⟨f7,_,au (st:=aF) l7 c7 k7,(au (st:=aF) l7 c7 k7).binds (ps:=["counts"]) (fun _ _ _ _ _ _ us hl=>by obtain⟨_,rfl⟩:=Y.h_ hl;rfl),PySem.W.mg_of X G a7⟩
 have F8:HasFn K mg "by_weight" bD ["standing"]:=⟨f8,_,au (st:=bD) l8 c8 k8,(au (st:=bD) l8 c8 k8).binds (ps:=["standing"]) (fun _ _ _ _ _ _ us hl=>by obtain⟨_,rfl⟩:=Y.h_ hl;rfl),PySem.W.mg_of X G a8⟩
 have F9:HasFn K mg "paper_shown" bo ["counts","lengths","paper"]:=⟨f9,_,au (st:=bo) l9 c9 k9,(au (st:=bo) l9 c9 k9).binds (ps:=["counts","lengths","paper"]) (fun _ _ _ _ _ _ us hl=>by obtain⟨_,_,_,rfl⟩:=Y.uN hl;rfl),PySem.W.mg_of X G a9⟩
 have F10:HasFn K mg "weight_put_together" ay ["counts","paper"]:=⟨f10,_,au (st:=ay) l10 c10 k10,(au (st:=ay) l10 c10 k10).binds (ps:=["counts","paper"]) (fun _ _ _ _ _ _ us hl=>by obtain⟨_,_,rfl⟩:=Y.fF hl;rfl),PySem.W.mg_of X G a10⟩
 have F11:HasFn K mg "may_be_put" bp ["standing","one","other"]:=⟨f11,_,au (st:=bp) l11 c11 k11,(au (st:=bp) l11 c11 k11).binds (ps:=["standing","one","other"]) (fun _ _ _ _ _ _ us hl=>by obtain⟨_,_,_,rfl⟩:=Y.uN hl;rfl),PySem.W.mg_of X G a11⟩
 have F12:HasFn K mg "_law_seed" bG ["cell"]:=⟨f12,_,au (st:=bG) l12 c12 k12,(au (st:=bG) l12 c12 k12).binds (ps:=["cell"]) (fun _ _ _ _ _ _ us hl=>by obtain⟨_,rfl⟩:=Y.h_ hl;rfl),PySem.W.mg_of X G a12⟩
 have F13:HasFn K mg "_law_draw" bF ["seed","most"]:=⟨f13,_,au (st:=bF) l13 c13 k13,(au (st:=bF) l13 c13 k13).binds (ps:=["seed","most"]) (fun _ _ _ _ _ _ us hl=>by obtain⟨_,_,rfl⟩:=Y.fF hl;rfl),PySem.W.mg_of X G a13⟩
 have F14:HasFn K mg "_law_cells" bz ["script","many"]:=⟨f14,_,au (st:=bz) l14 c14 k14,(au (st:=bz) l14 c14 k14).binds (ps:=["script","many"]) (fun _ _ _ _ _ _ us hl=>by obtain⟨_,_,rfl⟩:=Y.fF hl;rfl),PySem.W.mg_of X G a14⟩
 have F15:HasFn K mg "_law_counts" aU ["seed","many"]:=⟨f15,_,au (st:=aU) l15 c15 k15,(au (st:=aU) l15 c15 k15).binds (ps:=["seed","many"]) (fun _ _ _ _ _ _ us hl=>by obtain⟨_,_,rfl⟩:=Y.fF hl;rfl),PySem.W.mg_of X G a15⟩
 have F16:HasFn K mg "_law_fits" bE ["lengths"]:=⟨f16,_,au (st:=bE) l16 c16 k16,(au (st:=bE) l16 c16 k16).binds (ps:=["lengths"]) (fun _ _ _ _ _ _ us hl=>by obtain⟨_,rfl⟩:=Y.h_ hl;rfl),PySem.W.mg_of X G a16⟩
 have F17:HasFn K mg "_law_cost" bH ["counts","lengths"]:=⟨f17,_,au (st:=bH) l17 c17 k17,(au (st:=bH) l17 c17 k17).binds (ps:=["counts","lengths"]) (fun _ _ _ _ _ _ us hl=>by obtain⟨_,_,rfl⟩:=Y.fF hl;rfl),PySem.W.mg_of X G a17⟩
 have F18:HasFn K mg "_law_walked" aV ["counts","paper"]:=⟨f18,_,au (st:=aV) l18 c18 k18,(au (st:=aV) l18 c18 k18).binds (ps:=["counts","paper"]) (fun _ _ _ _ _ _ us hl=>by obtain⟨_,_,rfl⟩:=Y.fF hl;rfl),PySem.W.mg_of X G a18⟩
 have F19:HasFn K mg "_law_other" aZ ["counts"]:=⟨f19,_,au (st:=aZ) l19 c19 k19,(au (st:=aZ) l19 c19 k19).binds (ps:=["counts"]) (fun _ _ _ _ _ _ us hl=>by obtain⟨_,rfl⟩:=Y.h_ hl;rfl),PySem.W.mg_of X G a19⟩
 have F20:HasFn K mg "_law_any" bA ["seed","counts"]:=⟨f20,_,au (st:=bA) l20 c20 k20,(au (st:=bA) l20 c20 k20).binds (ps:=["seed","counts"]) (fun _ _ _ _ _ _ us hl=>by obtain⟨_,_,rfl⟩:=Y.fF hl;rfl),PySem.W.mg_of X G a20⟩
 have F21:HasFn K mg "_law_due" bV ["counts","lengths","paper"]:=⟨f21,_,au (st:=bV) l21 c21 k21,(au (st:=bV) l21 c21 k21).binds (ps:=["counts","lengths","paper"]) (fun _ _ _ _ _ _ us hl=>by obtain⟨_,_,_,rfl⟩:=Y.uN hl;rfl),PySem.W.mg_of X G a21⟩
 have F22:HasFn K mg "_law_bent_lengths" aA ["seed","lengths"]:=⟨f22,_,au (st:=aA) l22 c22 k22,(au (st:=aA) l22 c22 k22).binds (ps:=["seed","lengths"]) (fun _ _ _ _ _ _ us hl=>by obtain⟨_,_,rfl⟩:=Y.fF hl;rfl),PySem.W.mg_of X G a22⟩
 have F23:HasFn K mg "_law_bent_paper" aG ["seed","paper","many"]:=⟨f23,_,au (st:=aG) l23 c23 k23,(au (st:=aG) l23 c23 k23).binds (ps:=["seed","paper","many"]) (fun _ _ _ _ _ _ us hl=>by obtain⟨_,_,_,rfl⟩:=Y.uN hl;rfl),PySem.W.mg_of X G a23⟩
 exact⟨PySem.W.fnOf "law" "law" (aE fe) (aw fe) (aa fe) .none kV24 dc24 pm24 an24 cd24 ct24,fun s v=>.of_eq rfl,fun base _ _=>(CM T F0 F1 F2 F3 F4 F5 F6 F7 F8 F9 F10 F11 F12 F13 F14 F15 F16 F17 F18 F19 F20 F21 F22 F23 (au (st:=fe) l24 c24 k24)).mono (by decide)⟩
theorem walk{loose:List Str}{XP:(Str->Option Value)->Heap->Prop}{YP:World->Heap->Prop}{d:DefRec}{K:Params->Oe}(hn:l.most=some 63)(hdf:d.params.defaults=[])
  (hY:∀(w:World) (h:Heap),YP w h->(K w.params).In h)
  (F:∀(w:World) (mg:Str->Option Value) (fa:Addr) (h:Heap),(K w.params).In h->h.Ns mainGlobals mg->mg d.name=some (.ref fa)->∃ fd:FuncData,(∀(s:Shared) (u:Value),BindsTo s fd ⟨[u],[]⟩ [("script",u)])/\∀ base:Heap,(K w.params).In base->base.Ns mainGlobals mg->dJ l.prog w (K w.params) mg base cF 30 fa fd ["script"] (kK (K w.params))) (hL:∀(w:World) (h:Heap),(K w.params).In h->fL q (K w.params)) :
  PySem.W.WalkO q loose XP YP l.row.toRowW d [] (fun f vs=>PySem.call f vs):=
 L2.zB (n:=63) (k:=30) (x:="script") (CX:=fun _=>cF) (sp:=fun w=>kK (K w.params)) hn (by decide) hdf ⟨rfl,by decide,by decide,rfl⟩ hY F (fun _ _ a ns hl _ hS=>⟨a,ns,rfl,hS,hl,fun _=>rfl⟩) (fun _ _ _ _ _ z=>z) hL
theorem Ds{K:Oe}{h:Heap}(_:K.In h){la_by_worth:Addr}{lo_by_worth:Value}{ld_by_worth:Option Addr}{lfd_by_worth:FuncData}{ls_by_worth:Array (Option Value)}{la_by_weight:Addr}{lo_by_weight:Value}{ld_by_weight:Option Addr}{lfd_by_weight:FuncData}{ls_by_weight:Array (Option Value)}(nt:PySem.W.noTabs K=true)
  (ma_by_worth:PySem.W.nsIn K mainGlobals "by_worth"=some (some (.ref la_by_worth))) (ml_by_worth:K.lookup la_by_worth=some ⟨lo_by_worth,ld_by_worth,.func lfd_by_worth,ls_by_worth⟩) (mc_by_worth:lfd_by_worth.code=.ref lc_by_worth) (mk_by_worth:K.lookup lc_by_worth=some ⟨lO_by_worth,lD_by_worth,.fields lv_by_worth,lS_by_worth⟩) (mw_by_worth:lv_by_worth[11]?=some (.ref lp_by_worth)) (mr_by_worth:((recsOf q).find? (fun e=>e.name ==("by_worth":Str))).isSome=true)
  (ma_by_weight:PySem.W.nsIn K mainGlobals "by_weight"=some (some (.ref la_by_weight))) (ml_by_weight:K.lookup la_by_weight=some ⟨lo_by_weight,ld_by_weight,.func lfd_by_weight,ls_by_weight⟩) (mc_by_weight:lfd_by_weight.code=.ref lc_by_weight) (mk_by_weight:K.lookup lc_by_weight=some ⟨lO_by_weight,lD_by_weight,.fields lv_by_weight,lS_by_weight⟩) (mw_by_weight:lv_by_weight[11]?=some (.ref lp_by_weight)) (mr_by_weight:((recsOf q).find? (fun e=>e.name ==("by_weight":Str))).isSome=true)
  (ma_code_of:PySem.W.nsIn K mainGlobals "code_of"=some none)
  (mn:[lp_by_worth,lp_by_weight].Nodup)
  : fL q K:=fL.of nt (gc ma_by_worth ml_by_worth mc_by_worth mk_by_worth mw_by_worth) (gc ma_by_weight ml_by_weight mc_by_weight mk_by_weight mw_by_weight) (pO ma_code_of) (by first|exact mn|simp) (.inr mr_by_worth) (.inr mr_by_weight) (.inl rfl)
end
end G
open PySem PySem.W PyProof.Rows
set_option maxRecDepth 100000 in
set_option maxHeartbeats 0 in
theorem PySem.Challenge.cw_shortrows_k14_paper_shown_holds : PySem.Challenge.rw_shortrows_k14_paper_shown.Holds := by
 w_on;o_law;k_head;(case hw=>w_witness2)
 k_fill
 refine G.walk (l:=PySem.Challenge.rw_shortrows_k14_paper_shown) rfl rfl (fun w h Y=>by first|exact PySem.W.kIn_of Y|exact PySem.W.km_in_of Y) ?F ?L
 case F =>
  intro w mg fa h KX GN hmg
  refine' G.all_mk KX GN hmg ?a0 ?l0 ?c0 ?k0 ?a1 ?l1 ?c1 ?k1 ?a2 ?l2 ?c2 ?k2 ?a3 ?l3 ?c3 ?k3 ?a4 ?l4 ?c4 ?k4 ?a5 ?l5 ?c5 ?k5 ?a6 ?l6 ?c6 ?k6 ?a7 ?l7 ?c7 ?k7 ?a8 ?l8 ?c8 ?k8 ?a9 ?l9 ?c9 ?k9 ?a10 ?l10 ?c10 ?k10 ?a11 ?l11 ?c11 ?k11 ?a12 ?l12 ?c12 ?k12 ?a13 ?l13 ?c13 ?k13 ?a14 ?l14 ?c14 ?k14 ?a15 ?l15 ?c15 ?k15 ?a16 ?l16 ?c16 ?k16 ?a17 ?l17 ?c17 ?k17 ?a18 ?l18 ?c18 ?k18 ?a19 ?l19 ?c19 ?k19 ?a20 ?l20 ?c20 ?k20 ?a21 ?l21 ?c21 ?k21 ?a22 ?l22 ?c22 ?k22 ?a23 ?l23 ?c23 ?k23 ?a24 ?l24 ?c24 ?k24 ?z0 ?z1 ?z2 ?z3 ?z4 ?z5 ?z6 ?z7 ?z8 ?z9 ?z10 ?z11 ?z12 ?z13 ?z14 ?xf0 ?xf1 ?le_by_worth ?lk_by_worth ?lw_by_worth ?le_by_weight ?lk_by_weight ?lw_by_weight
  (case a0=>k_is)
  (case l0=>k_is)
  (case c0=>k_is)
  (case k0=>k_is)
  (case a1=>k_is)
  (case l1=>k_is)
  (case c1=>k_is)
  (case k1=>k_is)
  (case a2=>k_is)
  (case l2=>k_is)
  (case c2=>k_is)
  (case k2=>k_is)
  (case a3=>k_is)
  (case l3=>k_is)
  (case c3=>k_is)
  (case k3=>k_is)
  (case a4=>k_is)
  (case l4=>k_is)
  (case c4=>k_is)
  (case k4=>k_is)
  (case a5=>k_is)
  (case l5=>k_is)
  (case c5=>k_is)
  (case k5=>k_is)
  (case a6=>k_is)
  (case l6=>k_is)
  (case c6=>k_is)
  (case k6=>k_is)
  (case a7=>k_is)
  (case l7=>k_is)
  (case c7=>k_is)
  (case k7=>k_is)
  (case a8=>k_is)
  (case l8=>k_is)
  (case c8=>k_is)
  (case k8=>k_is)
  (case a9=>k_is)
  (case l9=>k_is)
  (case c9=>k_is)
  (case k9=>k_is)
  (case a10=>k_is)
  (case l10=>k_is)
  (case c10=>k_is)
  (case k10=>k_is)
  (case a11=>k_is)
  (case l11=>k_is)
  (case c11=>k_is)
  (case k11=>k_is)
  (case a12=>k_is)
  (case l12=>k_is)
  (case c12=>k_is)
  (case k12=>k_is)
  (case a13=>k_is)
  (case l13=>k_is)
  (case c13=>k_is)
  (case k13=>k_is)
  (case a14=>k_is)
  (case l14=>k_is)
  (case c14=>k_is)
  (case k14=>k_is)
  (case a15=>k_is)
  (case l15=>k_is)
  (case c15=>k_is)
  (case k15=>k_is)
  (case a16=>k_is)
  (case l16=>k_is)
  (case c16=>k_is)
  (case k16=>k_is)
  (case a17=>k_is)
  (case l17=>k_is)
  (case c17=>k_is)
  (case k17=>k_is)
  (case a18=>k_is)
  (case l18=>k_is)
  (case c18=>k_is)
  (case k18=>k_is)
  (case a19=>k_is)
  (case l19=>k_is)
  (case c19=>k_is)
  (case k19=>k_is)
  (case a20=>k_is)
  (case l20=>k_is)
  (case c20=>k_is)
  (case k20=>k_is)
  (case a21=>k_is)
  (case l21=>k_is)
  (case c21=>k_is)
  (case k21=>k_is)
  (case a22=>k_is)
  (case l22=>k_is)
  (case c22=>k_is)
  (case k22=>k_is)
  (case a23=>k_is)
  (case l23=>k_is)
  (case c23=>k_is)
  (case k23=>k_is)
  (case a24=>k_is)
  (case l24=>k_is)
  (case c24=>k_is)
  (case k24=>k_is)
  (case z0=>k_is)
  (case z1=>k_is)
  (case z2=>k_is)
  (case z3=>k_is)
  (case z4=>k_is)
  (case z5=>k_is)
  (case z6=>k_is)
  (case z7=>k_is)
  (case z8=>k_is)
  (case z9=>k_is)
  (case z10=>k_is)
  (case z11=>k_is)
  (case z12=>k_is)
  (case z13=>k_is)
  (case z14=>k_is)
  (case xf0=>k_is)
  (case xf1=>k_exc)
  (case le_by_worth=>exact rfl)
  (case lk_by_worth=>k_is)
  (case lw_by_worth=>exact rfl)
  (case le_by_weight=>exact rfl)
  (case lk_by_weight=>k_is)
  (case lw_by_weight=>exact rfl)
 case L =>
  intro w h KX
  refine' G.Ds KX (by kernel_rfl) ?ma_by_worth ?ml_by_worth ?mc_by_worth ?mk_by_worth ?mw_by_worth ?mr_by_worth ?ma_by_weight ?ml_by_weight ?mc_by_weight ?mk_by_weight ?mw_by_weight ?mr_by_weight ?ma_code_of ?mn
  (case ma_by_worth=>k_is)
  (case ml_by_worth=>k_is)
  (case mc_by_worth=>exact rfl)
  (case mk_by_worth=>k_is)
  (case mw_by_worth=>exact rfl)
  (case mr_by_worth=>exact rfl)
  (case ma_by_weight=>k_is)
  (case ml_by_weight=>k_is)
  (case mc_by_weight=>exact rfl)
  (case mk_by_weight=>k_is)
  (case mw_by_weight=>exact rfl)
  (case mr_by_weight=>exact rfl)
  (case ma_code_of=>k_is)
  (case mn=>decide)
end
