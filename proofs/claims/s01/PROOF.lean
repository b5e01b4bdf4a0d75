import PyProof.Rows.All
import Wide.All
import OpenK.AllK
import Wide.FinOn
import PyProof.EqAt
import PyProof.EqKinds
import PyProof.TupleCall
import KE.BitLaws
import KE.KSortKeySt
import PyProof.Rows.CallKwBuiltin
import PyProof.Draws
import PyProof.ZipIter
import PyProof.Rows.SetFrom
import PyProof.SetRoads
import Open.SpecLaws
import KE.OsHead
import KE.OsGo
import PySem.Challenge.RW_settingoff_s01_answers
import VbdeagSpec
import PyFlatLaws
import PyVbdeag
set_option Elab.async false
set_option linter.all false
set_option maxRecDepth 100000
set_option maxHeartbeats 4000000
universe u
theorem U{a:Sort u}{b:a}:b=b:=rfl
section
open PySem PySem.Spec PyProof.Rows
def Mc:=@Sum.inl.inj
def BJ:=@decide_eq_false
def Bd:=@beq_eq_false_iff_ne
def UD:=@SeqAt.EqAt.int_str
def UE:=@SeqAt.EqAt.str_int
def AJ:=@if_pos
def AI:=@if_neg
def BB:=@Option.some.inj
def Az:=@Heap.lt_size
def BH:=@Nat.lt_of_lt_of_le
def DU:=@Nat.lt_irrefl
def BV:=@Nat.ne_of_lt
def A5:=@List.mem_filter
def JU:=@List.mem_range
def Aw:=@Nat.le_trans
def VJ:=@Nat.le_of_lt
def LX:=@List.filterMap_cons
def Ac:=@List.mem_cons_self
def AV:=@List.mem_cons_of_mem
def AN:=@List.mem_cons
def CI:=@Ne.symm
def AQ:=@List.mem_append
def CK:=@List.mem_append_left
def AZ:=@List.getElem?_eq_some_iff
def Wg:=@List.getElem_inj
def Cz:=@List.getElem?_set_self
def EB:=@List.getElem?_set_ne
def DT:=@wpAny_mono
def ZD:=@wpAny_Name
def MQ:=@Calls.Name_function_global
def Pg:=@wpAny_isTrue_Compare1
def Mr:=@wpAny_truthy_bool
def Fl:=@Array.length_toList
def B5:=@congrArg
def K0:=@wpAny_execs_nil
def Wh:=@wpAny_execs_cons
def VT:=@wpAny_assign_Name
def AH:=@wpAny_bind
def GX:=@wpAny_holding
def IQ:=@wpAny_standAt
def E_:=@wpAny_passesOwn
def Au:=@Bool.false_ne_true
def JO:=@Nat.ne_of_gt
def BA:=@wpAny_pure
def Dc:=@Bool.false_and
def Oq:=@wpAny_pyNext_range_end
def Ot:=@wpAny_pyIter_rangeiter
def Gm:=@wpAny_pyIter_list
def Ae:=@Heap.get?_push_of_some
def A9:=@Heap.get?_push_size
def AU:=@Nat.le_refl
def UG:=@wpAny_pyIter_range
def Zg:=@Call_
def B7:=@PyProof.Rows.callWith_type1
def UH:=@List.mem_filterMap
def BD:=@List.mem_append_right
def AY:=@Nat.zero_le
def FA:=@Bool.eq_iff_iff
def D7:=@sizeLine_eq
def Ab:=@List.length_cons
def EE:=@beq_iff_eq
def Ay:=@List.map_cons
def AA:=@List.length_map
def Bp:=@Heap.size_push
def Bj:=@Nat.le_of_eq
def Hv:=@Nat.lt_succ_self
def Gn:=@Calls.spliced_nil
def DM:=@Calls.spliced_cons
def Bk:=@List.append_nil
def ZE:=@wpAny_call
def LY:=@codeAny_mono
def DN:=@wpAny_Call_Name_kw
def EX:=@Nat.le_succ
def BQ:=@List.nodup_cons
def K6:=@List.of_mem_zip
def Nf:=@Option.isSome_iff_exists
def Bb:=@List.length_take
def Ey:=@List.getElem?_append_right
def Me:=@List.getElem?_append_left
def Ai:=@List.getElem?_map
def VU:=@List.take_sublist
def AS:=@List.mem_of_getElem?
def AL:=@List.length_append
def Ez:=@List.length_replicate
def Bg:=@Int.toNat_natCast
def DF:=@List.map_nil
def ZF:=@Subscript_
def A2:=@List.length_drop
def XE:=@seqIndex_of
def VL:=@seqIndex_neg
def Ar:=@List.size_toArray
def Ou:=@subscriptTail_builtinR
def VV:=@slot_list_getitem
def Jw:=@Heap.get?_update_self
def Ov:=@Heap.get?_update_other
def Cq:=@List.length_set
def Wi:=@Option.getD_none
def MI:=@if_true
def DV:=@List.all_cons
def AR:=@Bool.and_eq_true
def IS:=@List.any_cons
def GL:=@Calls.callWith_builtin
def Hh:=@Calls.evalArgs_plain
def VW:=@List.reverse_cons
def Tz:=@call_meets
def Gi:=@List.length_singleton
def Ly:=@Bool.and_false
def De:=@List.take_of_length_le
def A0:=@List.all_eq_true
def Ak:=@List.getElem?_eq_getElem
def Lz:=@List.forIn_nil
def O_:=@List.forIn_cons
def En:=@List.lookup_cons
def K7:=@pushCells_keeps
def JZ:=@Nat.le_of_succ_le
def EJ:=@Nat.lt_succ_of_lt
def UI:=@Option.isSome_some
def CT:=@List.getElem?_eq_none
def RT:=@not_or
def AG:=@List.mem_map
def Ms:=@wpAny_newObj_type
def Br:=@decide_eq_true_eq
def GQ:=@List.find?_cons
def AM:=@decide_eq_true
def SN:=@Bool.false_or
def FD:=@Option.map_some
def Nu:=@List.cons_append
def GR:=@List.length_nil
def VX:=@Option.isSome_map
def JE:=@tupleKind_room_in1
def PB:=@wpAny_specialOf
def DA:=@List.nodup_nil
def Wj:=@wpAny_Dict_empty
def Ol:=@call_meetsIn
def Ow:=@meets_dict_get_default
def Mt:=@wpAny_Call_method
def MR:=@wpAny_letOwnedTupleGo_enum
def Ja:=@wpAny_pyIter_enum
def Wk:=@Nat.succ_ne_self
def Ds:=@Nat.le_add_right
def VY:=@Array.toList_push
def L0:=@List.drop_zero
def Bm:=@List.append_assoc
def Ri:=@List.toList_toArray
def Ph:=@builtinLookup_eq_fast
def GS:=@wpAny_ite_split
def Wl:=@wpAny_isInstance
def Qa:=@wpAny_letGo
def Rj:=@Heap.get?_update_ne
def Af:=@List.mem_singleton
def Mu:=@List.ext_getElem?
def Dn:=@Array.getElem?_eq_getElem
def Fo:=@List.length_reverse
def ZG:=@size_push'
def Fp:=@Heap.SameBut.update
def VZ:=@Nat.le_succ_of_le
def Gp:=@List.reverse_perm
def Jl:=@wpAny_rule
def Qc:=@Int.le_refl
def LZ:=@Nat.zero_add
def SO:=@wpAny_attempt
def Va:=@List.take_add_one
def BR:=@List.take_length
def An:=@List.map_map
def Mv:=@List.pairwise_map
def DI:=@List.filter_map
def RE:=@callWith_builtin_kwB
def MJ:=@wpAny_evalAll_cons
def Vb:=@wpAny_evalAll_nil
def Io:=@AutoSeq1.wpAny_loadPart'
def RG:=@F.args_object_init_3
def GI:=@Nat.add_sub_cancel
def Aq:=@List.not_mem_nil
def JH:=@or_false
def Mw:=@not_false_eq_true
def D9:=@wpAny_field
def Fq:=@wpAny_seqItems
def GJ:=@wpAny_setField_rec
def Wm:=@List.zipIdx_cons
def SQ:=@wpAny_onRaise
def RH:=@wpAny_updateSeq_pair
def IL:=@slot_tupleiter_next
def RI:=@entry_tupleiter_next
def Rk:=@args_tupleiter_next
def Fw:=@wpAny_callSpecial?_slot
def J3:=@wpAny_call_entry
def UJ:=@Obj.data_mapFields
def K8:=@F.slot_zip_next
def Wn:=@F.entry_zip_next
def Vc:=@F.args_zip_next_1
def Wo:=@wpAny_pyIter_zip
def RJ:=@Obj.data_mapDictKeys
def As:=@List.map_append
def Bo:=@List.nodup_append
def EL:=@List.foldl_cons
def Wq:=@List.any_eq_true
def Nv:=@beq_self_eq_true
def A3:=@List.getD_eq_getElem?_getD
def Vd:=@List.length_range
def FE:=@List.nil_append
def RK:=@Bool.and_eq_true_iff
def Pj:=@Int.emod_add_mul_ediv
def UK:=@Int.emod_lt_of_pos
def Om:=@Int.mul_comm
def NP:=@Int.mul_assoc
def XF:=@Int.mul_add
def MS:=@Int.mul_lt_mul_of_pos_left
def KS:=@Int.mul_le_mul_of_nonneg_right
def Kf:=@Int.mul_le_mul_of_nonneg_left
def La:=@Nat.gcd_comm
def VM:=@Nat.mul_comm
def CW:=@decide_eq_decide
def DZ:=@List.set_set
def Cr:=@List.filter_append
def BL:=@List.length_filter_le
def BK:=@PassesOwn.never
def AX:=@of_decide_eq_true
def Ng:=@Nat.gcd_pos_of_pos_right
def Ve:=@Nat.gcd_dvd_right
def Dh:=@List.filter_eq_self
def Eo:=@Nat.succ_le_succ
def BF:=@List.contains_eq_mem
def CJ:=@List.filter_congr
def Wr:=@Nat.succ_ne_zero
def BN:=@List.filter_cons
def Rl:=@List.take_succ_cons
def Ct:=@List.mem_of_mem_take
def JF:=@List.contains_cons
def Mx:=@Bool.not_eq_true'
def Ep:=@List.map_reverse
def Rm:=@List.filter_reverse
def PD:=@List.filter_nil
def Cs:=@List.pairwise_cons
def DR:=@List.pairwise_singleton
def Jc:=@List.filter_eq_nil_iff
def Lb:=@List.takeWhile_cons
def FF:=@Nat.not_lt_zero
def Ox:=@Nat.lt_of_succ_lt_succ
def DO:=@List.find?_eq_none
def Ny:=@List.getElem_mem
def Bt:=@List.mem_iff_getElem?
def CF:=@Classical.byContradiction
def J4:=@List.mem_flatten
def Jd:=@List.find?_cons_of_pos
def Ea:=@List.find?_cons_of_neg
def Dp:=@List.mem_of_find?_eq_some
def Gq:=@List.foldl_append
def DB:=@List.Perm.refl
def Hw:=@List.perm_middle
def Mf:=@List.pairwise_iff_getElem
def J5:=@List.getElem_map
def Oo:=@List.map_id'
def VN:=@Nat.succ.inj
def Rn:=@List.findSome?_cons
def UL:=@of_decide_eq_false
def Hx:=@List.mem_flatMap
def Pk:=@List.pairwise_flatMap
def Cu:=@Nat.not_succ_le_zero
def VO:=@Nat.zero_mul
def JP:=@Nat.succ_mul
def DC:=@List.drop_drop
def J6:=@Nat.div_eq_of_lt
def My:=@Nat.add_div_right
def KY:=@Nat.mul_le_mul_right
def N3:=@List.length_eq_zero_iff
def JV:=@List.take_zero
def FG:=@Nat.min_eq_left
def DS:=@Nat.add_sub_cancel_left
def CL:=@Bool.true_and
def Di:=@List.map_congr_left
def Vf:=@Function.comp_def
def By:=@Int.natCast_nonneg
def MK:=@List.getElem?_take
def UM:=@List.getElem?_drop
def DW:=@List.map_take
def EZ:=@List.map_drop
def Hi:=@List.mem_of_mem_drop
def Nz:=@List.mem_reverse
def Hy:=@Nat.min_eq_right
def Eb:=@List.drop_eq_nil_of_le
def Mg:=@List.drop_eq_getElem_cons
def Ws:=@List.drop_length
def Bf:=@List.mem_or_eq_of_mem_set
def FH:=@List.map_set
def ML:=@List.set_cons_succ
def Lc:=@Nat.testBit_two_pow
def RL:=@List.length_take_le'
def Z:=@List.eq_nil_of_length_eq_zero
def Vg:=@List.getElem?_set
def ZH:=@Nat.not_lt
def Pn:=@List.perm_append_comm
def Ci:=@List.take_append_drop
def Ba:=@List.flatMap_cons
def Bs:=@List.count_append
def Ro:=@List.filter_sublist
def B9:=@List.nodup_iff_count
def UN:=@List.count_pos_iff
def UO:=@List.mem_replicate
def Dj:=@List.count_cons
def Ft:=@List.count_nil
def N4:=@List.getElem?_cons_succ
def Vh:=@List.contains_nil
def UP:=@List.count_eq_zero
def UQ:=@decide_eq_true_iff
def FP:=@List.sum_cons
def N1:=@List.flatMap_nil
def CB:=@List.flatMap_append
def J7:=@List.flatMap_map
def Wt:=@List.flatMap_def
def RN:=@List.pairwise_append
def N2:=@Nat.le_of_not_lt
def JJ:=@Nat.le_mul_of_pos_right
def BI:=@Bool.and_true
def F_:=@List.all_map
def CC:=@Int.toNat_of_nonneg
def IT:=@forall_congr'
def K9:=@List.head?_drop
def PF:=@Int.natCast_add
def RC:=@List.foldl_nil
def Eu:=@Bool.and_assoc
def Nh:=@List.eq_of_mem_replicate
def PJ:=@PyFlat.drop_len
def Wu:=@PyFlat.put_calls
def Ld:=@List.mem_map_of_mem
end
namespace L2
open PySem PySem.Spec PyProof.Rows
abbrev Key:=Sum Int Str
def XG:Key->Value->Bool
 | .inl k,v=>Value.isInt k v
 | .inr x,v=>Value.isStrOf x v
def yF(w:World):Key->Int
 | .inl k=>hashInt k
 | .inr x=>hashStr w x
theorem E3:∀{k:Key}{v:Value},XG k v=true->(∃i t,k=Sum.inl i/\v=Value.int i t)\/(∃x t,k=Sum.inr x/\v=Value.str x t)
 | .inl i,v,h=>by
   obtain⟨t,e⟩:=Value.isInt_shape (k:=i) (v:=v) h;exact .inl ⟨i,t,U,e⟩
 | .inr x,v,h=>by
   obtain⟨t,e⟩:=Value.isStrOf_shape (x:=x) (v:=v) h;exact .inr ⟨x,t,U,e⟩
theorem lW(i:Int)(t:Tok):XG (.inl i) (.int i t)=true:=by simp[XG,Value.isInt]
theorem lX(x:Str)(t:Tok):XG (.inr x) (.str x t)=true:=by simp[XG,Value.isStrOf]
theorem vj(a b:Int):decide ((Sum.inl a:Key)=Sum.inl b)=(a==b):=by
 by_cases e:a=b
 ·subst e;simp
 ·have h:¬(Sum.inl a:Key)=Sum.inl b:=λq=>e (Mc q);rw[BJ h];exact(Bd.mpr e).symm
theorem vm(a b:Str):decide ((Sum.inr a:Key)=Sum.inr b)=decide (a=b):=by
 by_cases e:a=b
 ·subst e;simp
 ·have h:¬(Sum.inr a:Key)=Sum.inr b:=λq=>e (Sum.inr.inj q);rw[BJ h,BJ e]
theorem vn(a:Int)(b:Str):decide ((Sum.inl a:Key)=Sum.inr b)=false:=BJ (λq=>nomatch q)
theorem vo(a:Str)(b:Int):decide ((Sum.inr a:Key)=Sum.inl b)=false:=BJ (λq=>nomatch q)
def Dk(prog:Program)(w:World):PySem.KeyKind prog w Key where
 is:=XG
 hash:=yF w
 inj:=λv a b ha hb=>by
  rcases E3 ha with ⟨i,t,rfl,rfl⟩|⟨x,t,rfl,rfl⟩
  ·rcases E3 hb with ⟨j,u,rfl,e⟩|⟨y,u,rfl,e⟩
   ·injection e with e1 _;rw[e1]
   ·exact nomatch e
  ·rcases E3 hb with ⟨j,u,rfl,e⟩|⟨y,u,rfl,e⟩
   ·exact nomatch e
   ·injection e with e1 _;rw[e1]
 byValue:=λk v h=>by
  rcases E3 h with ⟨i,t,rfl,rfl⟩|⟨x,t,rfl,rfl⟩<;>rfl
 pyHash:=λhv h=>by
  rcases E3 hv with ⟨i,t,rfl,rfl⟩|⟨x,t,rfl,rfl⟩
  ·exact wpAny_pyHash_int h
  ·exact wpAny_pyHash_str h
 eqBool:=λhu hv h=>by
  rcases E3 hu with ⟨i,t,rfl,rfl⟩|⟨x,t,rfl,rfl⟩
  ·rcases E3 hv with ⟨j,u,rfl,rfl⟩|⟨y,u,rfl,rfl⟩
   ·rw[vj]at h;exact wpAny_eqBool_int h
   ·rw[vn]at h;exact UD i t y u _ _ _ _ h
  ·rcases E3 hv with ⟨j,u,rfl,rfl⟩|⟨y,u,rfl,rfl⟩
   ·rw[vo]at h;exact UE x t j u _ _ _ _ h
   ·rw[vm]at h;exact wpAny_eqBool_str h
 «strs»:=λk x t v h=>by
  rcases E3 h with ⟨i,u,rfl,e⟩|⟨y,u,rfl,e⟩
  ·exact nomatch e
  ·injection e with e1 _;subst e1;cases v<;>rfl
theorem fZ(prog:Program)(w:World)(i:Int)(t:Tok):(Dk prog w).is (.inl i) (.int i t)=true:=lW i t
theorem fh(prog:Program)(w:World)(x:Str)(t:Tok):(Dk prog w).is (.inr x) (.str x t)=true:=lX x t
end L2
namespace L2
open PySem PySem.Spec PyProof.Rows
inductive V where
 |DX|bl (b:Bool)|int (i:Int)|str (x:Str)|Yr (b:Array UInt8)|yG (b:UInt64)|ref (a:Addr)|ty (n:String)
 deriving DecidableEq
def RelV:V->Value->Prop
 | .DX,u=>u=Value.none
 | .bl b,u=>u=Value.bool b
 | .int i,u=>∃t,u=Value.int i t
 | .str x,u=>∃t,u=Value.str x t
 | .Yr b,u=>∃t,u=Value.bytes b t
 | .yG b,u=>∃t,u=Value.float b t
 | .ref a,u=>u=Value.ref a
 | .ty n,u=>u=Value.type n
abbrev Vals:List V->List Value->Prop:=Paired RelV
theorem Vals.length{xs:List V}{us:List Value}(r:Vals xs us):xs.length=us.length:=Paired.length r
theorem Vals.get:∀{xs:List V}{us:List Value}{i:Nat}{x:V},Vals xs us->xs[i]?=some x->∃u,us[i]?=some u/\RelV x u
 |_,_,_,_,.nil,e=>by simp at e
 |_,_,0,_,.cons r _,e=>by simp at e;subst e;exact⟨_,U,r⟩
 |_,_,i+1,x,.cons _ t,e=>by
  obtain⟨u,h1,h2⟩:=Vals.get (i:=i) (x:=x) t (by simpa using e);exact⟨u,by simpa using h1,h2⟩
theorem Vals.set{x:V}{u:Value}(r:RelV x u):∀{xs:List V}{us:List Value}(i:Nat),Vals xs us->Vals (xs.set i x) (us.set i u)
 |_,_,_,.nil=>.nil
 |_,_,0,.cons _ t=>.cons r t
 |_,_,i+1,.cons q t=>.cons q (Vals.set r i t)
theorem Vals.append:∀{xs ys:List V}{us ws:List Value},Vals xs us->Vals ys ws->Vals (xs++ys) (us++ws)
 |_,_,_,_,.nil,s=>s
 |_,_,_,_,.cons r t,s=>.cons r (Vals.append t s)
theorem Vals.take:∀{xs:List V}{us:List Value}(n:Nat),Vals xs us->Vals (xs.take n) (us.take n)
 |_,_,0,_=>.nil
 |_,_,_+1,.nil=>.nil
 |_,_,n+1,.cons r t=>.cons r (Vals.take n t)
theorem Vals.drop:∀{xs:List V}{us:List Value}(n:Nat),Vals xs us->Vals (xs.drop n) (us.drop n)
 |_,_,0,r=>r
 |_,_,_+1,.nil=>.nil
 |_,_,n+1,.cons _ t=>Vals.drop n t
def Qe:Option V->Option Value->Prop
 |some v,some u=>RelV v u
 |none,none=>True
 |_,_=>False
def KV{κ:Type}:List (κ×V)->List (κ×Value)->Prop:=Paired λ(p:κ×V)(q:κ×Value)=>p.1=q.1/\RelV p.2 q.2
def kV:Key->V
 | .inl i=>.int i
 | .inr x=>.str x
inductive HO where
 |lst (xs:List V)
 |tup (xs:List V)
 |dK (kvs:List (Key×V))|dT (kvs:List (List Key×V))
 |set (S:Int->Bool) (n:Nat)
 |ins (C dx:Addr) (fs:List (Str×V))
 |own (x:Addr)
 |xd (fs:List (Str×V))
 |met (f x:Addr)
 |dY (lo hi:Int)
 |Vj (o:Obj) (u:HO)
 |sD (ps:Array Value)
 |ext (φ:Heap->Prop)
abbrev Hp:=Addr->Option HO
def upd(H:Hp)(a:Addr)(o:HO):Hp:=λb=>if b=a then some o else H b
theorem AD{H:Hp}{a:Addr}{o:HO}:upd H a o a=some o:=by unfold upd;rw[AJ U]
theorem Aj{H:Hp}{a b:Addr}{o:HO}(h:b≠a):upd H a o b=H b:=by unfold upd;rw[AI h]
theorem Cj{H:Hp}{a:Addr}{o u:HO}:upd (upd H a o) a u=upd H a u:=by
 funext b;unfold upd;split<;>rfl
theorem Zb{H:Hp}{a b:Addr}{o u:HO}(h:H a=some o)(h':H b=some u)(d:o≠u):a≠b:=by
 intro e;subst e;rw[h]at h';exact d (BB h')
theorem BY{H:Hp}{a b:Addr}{o:HO}(h:H a=some o)(h':H b=none):a≠b:=by
 intro e;subst e;rw[h]at h';cases h'
section
variable(P:Program)(w:World)
def EN(H:Hp)(h:Heap)(a:Addr):HO->Prop
 | .lst xs=>xs.length<=sizeLine/\∃(its:List Value)(n:Nat),Vals xs its/\h.get? a=some {cls:=.type "list",data:=.seq its.toArray n}
 | .tup xs=>xs.length<=sizeLine/\∃its:List Value,Vals xs its/\IsTup h a its.toArray
 | .dK kvs=>kvs.length<=sizeLine/\(a==sysModules)=false/\∃vs,KV kvs vs/\h.DictOf (Dk P w) a vs
 | .dT kvs=>kvs.length<=sizeLine/\(a==sysModules)=false/\∃xs:List (List Key×Addr×Value),
    Paired (λ(p:List Key×V)(q:List Key×Addr×Value)=>p.1=q.1/\H q.2.1=some (.tup (p.1.map kV))/\RelV p.2 q.2.2) kvs xs/\
    ∃o es ep,h.get? a=some o/\o.ExactDict/\o.data=.dict es ep/\es.toList=xs.map (entryOfKey (tupleKind (Dk P w)))/\(xs.map (·.1)).Nodup
 | .set S n=>h.SetOf (intKind P w) a S n
 | .ins C dx fs=>H dx=some (.own a)/\fs.length<=1000/\dx≠a/\h.get? a=some (PySem.W.instObj C dx)/\
    ∃mA,h.Ns1 dx mA/\(∀f,Qe (fs.lookup f) (mA f))/\PySem.Within mA (fs.map (·.1))
 | .own _=>∃o,h.get? a=some o
 | .xd fs=>∃mA,h.Ns1 a mA/\∀f,Qe (fs.lookup f) (mA f)
 | .dY lo hi=>∃t u v,h.get? a=some {cls:=.type "range",data:=.fields #[.int lo t,.int hi u,.int 1 v]}
 | .Vj o u=>h.get? a=some o/\EN H h a u
 | .sD ps=>h.get? a=some {cls:=.none,data:=.fields ps}
 | .met f x=>h.get? a=some (PySem.W.methodObj (.ref f) (.ref x))
 | .ext φ=>φ h/\(∃o,h.get? a=some o)/\∀h1 h2:Heap,φ h1->(∀o,h1.get? a=some o->h2.get? a=some o)->φ h2
def Kg(H:Hp)(h:Heap):Prop:=∀a o,H a=some o->EN P w H h a o
end
section
variable{P:Program}{w:World}{H H':Hp}{h h':Heap}{a:Addr}{o:HO}
theorem EN.lt(x:EN P w H h a o):a<h.objs.size:=by
 cases o with
 |lst xs=>obtain⟨_,_,_,_,e⟩:=x;exact Az e
 |tup xs=>obtain⟨_,_,_,p⟩:=x;exact p.lt
 |dK kvs=>obtain⟨_,_,_,_,o,_,_,e,_⟩:=x;exact Az e
 |dT kvs=>obtain⟨_,_,_,_,o,_,_,e,_⟩:=x;exact Az e
 |set S n=>obtain⟨o,_,_,_,e,_⟩:=x;exact Az e
 |ins C dx fs=>obtain⟨_,_,_,e,_⟩:=x;exact Az e
 |own y=>obtain⟨_,e⟩:=x;exact Az e
 |xd fs=>obtain⟨_,⟨_,_,_,e,_⟩,_⟩:=x;exact Az e
 |dY lo hi=>obtain⟨_,_,_,e⟩:=x;exact Az e
 |Vj ob u=>obtain⟨e,_⟩:=x;exact Az e
 |sD ps=>exact Az (show h.get? a=some _ from x)
 |met f y=>exact Az (show h.get? a=some _ from x)
 |ext φ=>obtain⟨_,⟨_,e⟩,_⟩:=x;exact Az e
theorem Paired.vG{α β:Type}{F G:α->β->Prop}:∀{l₁:List α}{l₂:List β},Paired F l₁ l₂->(∀a b,F a b->G a b)->Paired G l₁ l₂
 |_,_,.nil,_=>.nil
 |_,_,.cons r t,f=>.cons (f _ _ r) (Paired.vG t f)
theorem EN.stay(x:EN P w H h a o)(k:∀b u,(b=a\/H b=some (.own a))->h.get? b=some u->h'.get? b=some u)
 (ho:∀b,H b=some (.own a)->H' b=some (.own a)) (ht:∀b xs,H b=some (.tup xs)->H' b=some (.tup xs)):EN P w H' h' a o:=by
 induction o with
 |lst xs=>obtain⟨z,its,n,r,e⟩:=x;exact⟨z,its,n,r,k _ _ (.inl U) e⟩
 |tup xs=>obtain⟨z,its,r,ob,e,c⟩:=x;exact⟨z,its,r,ob,k _ _ (.inl U) e,c⟩
 |dK kvs=>obtain⟨z,y,vs,r,ob,es,ep,e,c⟩:=x;exact⟨z,y,vs,r,ob,es,ep,k _ _ (.inl U) e,c⟩
 |dT kvs=>
  obtain⟨z,y,xs,r,ob,es,ep,e,c⟩:=x;exact⟨z,y,xs,Paired.vG r λp q z=>⟨z.1,ht _ _ z.2.1,z.2.2⟩,ob,es,ep,k _ _ (.inl U) e,c⟩
 |set S n=>obtain⟨ob,es,ep,t,e,c⟩:=x;exact⟨ob,es,ep,t,k _ _ (.inl U) e,c⟩
 |ins C dx fs=>
  obtain⟨d,z,ne,e,mA,⟨od,es,ep,e2,c⟩,r⟩:=x;exact⟨ho _ d,z,ne,k _ _ (.inl U) e,mA,⟨od,es,ep,k _ _ (.inr d) e2,c⟩,r⟩
 |own y=>obtain⟨ob,e⟩:=x;exact⟨ob,k _ _ (.inl U) e⟩
 |xd fs=>obtain⟨mA,⟨od,es,ep,e,c⟩,r⟩:=x;exact⟨mA,⟨od,es,ep,k _ _ (.inl U) e,c⟩,r⟩
 |dY lo hi=>obtain⟨t,u,v,e⟩:=x;exact⟨t,u,v,k _ _ (.inl U) e⟩
 |Vj ob u ih=>obtain⟨e,q⟩:=x;exact⟨k _ _ (.inl U) e,ih q⟩
 |sD ps=>
  have e:h.get? a=some {cls:=.none,data:=.fields ps}:=x;show h'.get? a=some {cls:=.none,data:=.fields ps};exact k a _ (.inl U) e
 |met f y=>
  have e:h.get? a=some (PySem.W.methodObj (.ref f) (.ref y)):=x;show h'.get? a=some (PySem.W.methodObj (.ref f) (.ref y));exact k a _ (.inl U) e
 |ext φ=>obtain⟨p,⟨o,e⟩,st⟩:=x;exact⟨st _ _ p λo q=>k _ _ (.inl U) q,⟨o,k _ _ (.inl U) e⟩,st⟩
theorem Kg.lt(x:Kg P w H h)(e:H a=some o):a<h.objs.size:=(x a o e).lt
theorem Kg.fresh(x:Kg P w H h)(e:h.objs.size<=a):H a=none:=by
 cases q:H a with
 |none=>rfl
 |some u=>exact absurd (BH (x.lt q) e) (DU _)
theorem Kg.kept(x:Kg P w H h)(k:∀b u,h.get? b=some u->h'.get? b=some u):Kg P w H h':=λa o e=>
 (x a o e).stay (λb u _ q=>k b u q) (λ_ q=>q) λ_ _ q=>q
theorem Kg.laid(x:Kg P w H h)(k:∀b u,h.get? b=some u->h'.get? b=some u)(hp:h.objs.size<=a)(new:EN P w (upd H a o) h' a o):Kg P w (upd H a o) h':=λb u e=>by
 have hn:=x.fresh hp;by_cases hb:b=a
 ·subst hb;rw[AD]at e;cases e;exact new
 ·rw[Aj hb]at e;exact(x b u e).stay (λc v _ q=>k c v q) (λc q=>by rw[Aj (BY q hn)];exact q) λc xs q=>by rw[Aj (BY q hn)];exact q
end
def Rd(H:Hp)(a:Addr)(u:HO):Prop:=H a=some u\/∃o,H a=some (.Vj o u)
theorem Rd.ok{P:Program}{w:World}{H:Hp}{h:Heap}{a:Addr}{u:HO}(r:Rd H a u)(x:Kg P w H h):EN P w H h a u:=by
 rcases r with r|⟨o,r⟩
 ·exact x a u r
 ·obtain⟨_,q⟩:=x a _ r;exact q
def vq:Option HO->Prop
 |some (.lst _)=>True
 |some (.dK _)=>True
 |some (.dT _)=>True
 |some (.set _ _)=>True
 |some (.ins _ _ _)=>True
 |some (.ext _)=>True
 |_=>False
section
variable{P:Program}{w:World}{H:Hp}{h h':Heap}{x e:Addr}{o':HO}
theorem Kg.write(ok:Kg P w H h)(mu:vq (H x))(he:e=x\/H e=some (.own x))(k:∀b u,b≠e->h.get? b=some u->h'.get? b=some u)(uV:∃u,h'.get? e=some u)
 (new:EN P w (upd H x o') h' x o'):Kg P w (upd H x o') h':=λb u q=>by
 have yI:∀c y,H c=some (.own y)->c≠x:=λc y r z=>by subst z;rw[r]at mu;exact mu
 have AAa:∀c xs,H c=some (.tup xs)->c≠x:=λc xs r z=>by subst z;rw[r]at mu;exact mu
 by_cases hb:b=x
 ·subst hb;rw[AD]at q;cases q;exact new
 ·rw[Aj hb]at q;by_cases sE:b=e
  ·have q':H b=some (.own x):=by
    rcases he with z|z
    ·exact absurd (sE.trans z) hb
    ·rw[sE];exact z
   rw[q]at q';cases q';obtain⟨v,hv⟩:=uV;exact⟨v,by rw[sE];exact hv⟩
  ·(refine(ok b u q).stay (λc v hc r=>k c v ?_ r) (λc r=>by rw[Aj (yI c b r)];exact r) λc xs r=>by rw[Aj (AAa c xs r)];exact r);rcases hc with rfl|hc
   ·exact sE
   ·rintro rfl;rcases he with z|z
    ·exact yI c b hc z
    ·rw[hc]at z;cases z;exact hb U
end
structure Un(fs ex:List Addr)(H H':Hp)(h h':Heap):Prop where
 keep:∀b o,h.get? b=some o->H b=none->b∉fs->b∉ex->h'.get? b=some o
 slot:∀b o,h.get? b=some o->H b=none->b∈fs->b∉ex->∃sl,h'.get? b=some {o with slots:=sl}
 free:∀b o,h.get? b=some o->H b=none->b∉ex->H' b=none
 there:∀b o,h.get? b=some o->b∉ex->∃o',h'.get? b=some o'
 tups:∀b xs,H b=some (.tup xs)->H' b=some (.tup xs)
 ZI:∀b o u,H b=some (.Vj o u)->H' b=some (.Vj o u)
 Z6:∀b ps,H b=some (.sD ps)->∃more,H' b=some (.sD (ps++more))
section
variable{fs fs' ex ex':List Addr}{H H1 H2:Hp}{h h1 h2 h':Heap}{a x e:Addr}{o:HO}
theorem Un.any(u:Un fs ex H H1 h h1){b:Addr}{ob:Obj}(q:h.get? b=some ob)(n:H b=none)(hx:b∉ex):∃sl,h1.get? b=some {ob with slots:=sl}:=by
 by_cases hb:b∈fs
 ·exact u.slot b ob q n hb hx
 ·exact⟨ob.slots,u.keep b ob q n hb hx⟩
theorem Un.kept(k:∀b u,h.get? b=some u->h'.get? b=some u):Un fs ex H H h h':=
 ⟨λb ob q _ _ _=>k b ob q,λb ob q _ _ _=>⟨ob.slots,k b ob q⟩,λ_ _ _ n _=>n,λb ob q _=>⟨ob,k b ob q⟩,λ_ _ q=>q,λ_ _ _ q=>q,λ_ ps q=>⟨#[],by rw[q];simp⟩⟩
theorem Un.refl:Un fs ex H H h h:=Un.kept λ_ _ q=>q
theorem Un.laid(k:∀b u,h.get? b=some u->h'.get? b=some u)(hp:h.objs.size<=a)(hn:H a=none):Un fs ex H (upd H a o) h h' where
 keep:=λb u q _ _ _=>k b u q
 slot:=λb u q _ _ _=>⟨u.slots,k b u q⟩
 free:=λb u q n _=>by rw[Aj (BV (BH (Az q) hp))];exact n
 there:=λb u q _=>⟨u,k b u q⟩
 tups:=λb xs q=>by rw[Aj (BY q hn)];exact q
 ZI:=λb u xs q=>by rw[Aj (BY q hn)];exact q
 Z6:=λb ps q=>⟨#[],by rw[Aj (BY q hn),q];simp⟩
theorem Un.write(mu:vq (H x))(he:e=x\/H e=some (.own x))(k:∀b u,b≠e->h.get? b=some u->h'.get? b=some u)(uV:∃u,h'.get? e=some u):Un fs ex H (upd H x o) h h':=by
 have hx:∀b,H b=none->b≠x:=λb n z=>by subst z;rw[n]at mu;exact mu
 have hb:∀b,H b=none->b≠e:=λb n z=>by
  subst z;rcases he with r|r
  ·exact hx b n r
  ·rw[n]at r;cases r
 have hm:∀b u,H b=some u->¬vq (some u)->b≠x:=λb u q nm z=>by subst z;rw[q]at mu;exact nm mu
 refine⟨λb u q n _ _=>k b u (hb b n) q,λb u q n _ _=>⟨u.slots,k b u (hb b n) q⟩,λb u q n _=>by rw[Aj (hx b n)];exact n,λb u q _=>?_,
  λb xs q=>by rw[Aj (hm b _ q λz=>z)];exact q,λb u xs q=>by rw[Aj (hm b _ q λz=>z)];exact q,λb ps q=>⟨#[],by rw[Aj (hm b _ q λz=>z),q];simp⟩⟩
 by_cases sE:b=e
 ·subst sE;exact uV
 ·exact⟨u,k b u sE q⟩
end
def yJ(h:Heap)(H:Hp):List Addr:=(List.range h.objs.size).filter λa=>(H a).isSome
def ZJ(h:Heap)(H:Hp):Heap:=PySem.W.hideAll h (yJ h H)
theorem lY(h:Heap)(H:Hp):(ZJ h H).objs.size=h.objs.size:=PySem.W.hideAll_size _ _
theorem qK{h:Heap}{H:Hp}{b:Addr}{o:Obj}(e:h.get? b=some o)(n:H b=none):(ZJ h H).get? b=some o:=
 PySem.W.hideAll_get _ e λhm=>by
  have q:(H b).isSome=true:=(A5.mp hm).2;rw[n]at q;simp at q
theorem sf{h:Heap}{H:Hp}{b:Addr}{o:Obj}(e:(ZJ h H).get? b=some o):h.get? b=some o/\H b=none:=by
 have e':h.get? b=some o:=PySem.W.of_hideAll (yJ h H) e;refine⟨e',?_⟩;cases q:H b with
 |none=>rfl
 |some x=>
  have hm:b∈yJ h H:=A5.mpr ⟨JU.mpr (Az e'),by simp[q]⟩;have z:(ZJ h H).get? b=none:=PySem.W.hideAll_none (yJ h H) hm;rw[z]at e;cases e
end L2
namespace L2
open PySem PySem.Spec PyProof.Rows
structure Mod(K:PySem.W.Frag)(mg:Str->Option Value)(base:Heap):Prop where
 vt:K.In base
 glob:base.Ns mainGlobals mg
 blt:∃mb,base.Ns builtinsNs mb/\∀x:Str,x≠"__name__"->mb x=bootBuiltins x
 nolimit:base.NoLimit
structure Cx where
 prog:Program
 w:World
 K:PySem.W.Frag
 mg:Str->Option Value
 base:Heap
 A:Around
 N:List Str
 U0:Shared
 vv:Hp
 env:Env
 outer:List Env
 stack:List Env
 ex:List Addr
 fn:Str->Bool
 calm:Bool
 pn:List (Addr×Obj)
 xe:Value->Shared->Prop
def frs(l:List Env):List Addr:=l.filterMap (·.frame)
abbrev Cx.fs(X:Cx):List Addr:=frs X.outer
def vz(sc:Scope)(x:Str):Prop:=sc.names.lookup x=some .local\/sc.names.lookup x=some .cell\/sc.names.lookup x=some .free
def Loc(sc:Scope)(x:Str):Prop:=sc.names.lookup x=some .local\/sc.names.lookup x=some .cell
def Look(env:Env)(h:Heap)(m:Str->Option Value)(x:Str)(u:Value):Prop:=
 (env.kindOf x=some .local/\m x=some u)\/((env.kindOf x=some .cell\/env.kindOf x=some .free)/\∃c,env.cells.lookup x=some c/\h.IsCell c (some u))
structure Cx.Ok(X:Cx):Prop where
 mod:Mod X.K X.mg X.base
 kind:X.env.scope.kind=.function
 glob:X.env.globals=mainGlobals
 blt:X.env.builtins=builtinsNs
 above:X.U0.heap.objs.size<=X.env.locals
 inj:∀x y c,X.env.cells.lookup x=some c->X.env.cells.lookup y=some c->x=y
 has:∀x,(X.env.kindOf x=some .cell\/X.env.kindOf x=some .free)->∃c,X.env.cells.lookup x=some c
 v5:∀x c,X.fn x=true->X.env.cells.lookup x=some c->X.U0.heap.objs.size<=c
 hd:X.calm=true->X.A.handled=none
 frames:X.A.frames=some X.stack
 stk:X.stack=X.outer\/(X.stack=X.env::X.outer/\X.env.frame=some X.env.locals)
 yK:∀b∈X.ex,b≠X.env.locals/\∀x c,X.env.cells.lookup x=some c->c≠b
 bs:∀b o,X.base.get? b=some o->X.U0.heap.get? b=some o/\X.vv b=none
 jr:X.base.objs.size<=X.U0.heap.objs.size
 lZ:∀b o,X.base.get? b=some o->b∉X.ex
 lg:∀b∈X.ex,b∉X.fs
 RU:X.U0.heap.FunFrames X.base X.outer
 o9:∀b∈X.fs,X.vv b=none
structure Inv(X:Cx)(pins:List (Addr×Obj))(σ:List (Option V))(H:Hp)(s:Shared):Prop where
 ok:X.Ok
 os:s.os=X.U0.os
 bare:AllBare s.gens
 base:Un X.fs X.ex X.vv H X.U0.heap s.heap
 loc:∃m,s.heap.Ns X.env.locals m/\∀(i:Nat)(x:Str)(v:V),X.N[i]?=some x->σ[i]?=some (some v)->vz X.env.scope x->∃u,RelV v u/\Look X.env s.heap m x u
 cell:∀x c,X.env.cells.lookup x=some c->∃v,s.heap.IsCell c v
 free:H X.env.locals=none
 OL:∀x c,X.env.cells.lookup x=some c->H c=none
 pin:∀p∈X.pn++pins,s.heap.get? p.1=some p.2/\H p.1=none/\p.1≠X.env.locals/\p.1∉X.fs/\∀v,p.2.data≠.cell v
 hok:Kg X.prog X.w H s.heap
 len:σ.length=X.N.length
section
variable{X:Cx}{pins:List (Addr×Obj)}{σ:List (Option V)}{H H':Hp}{s:Shared}{h':Heap}
theorem Cx.Ok.AAb(ok:X.Ok){b:Addr}{o:Obj}(e:X.base.get? b=some o):b∉X.fs:=λhb=>by
 have:=(ok.RU.mem hb).1;rw[e]at this;cases this
theorem Inv.bs(I:Inv X pins σ H s):∀b o,X.base.get? b=some o->s.heap.get? b=some o/\H b=none:=λb o e=>
 ⟨I.base.keep b o (I.ok.bs b o e).1 (I.ok.bs b o e).2 (I.ok.AAb e) (I.ok.lZ b o e),I.base.free b o (I.ok.bs b o e).1 (I.ok.bs b o e).2 (I.ok.lZ b o e)⟩
theorem Inv.bk(I:Inv X pins σ H s):∀b o,X.base.get? b=some o->s.heap.get? b=some o:=λb o e=>(I.bs b o e).1
theorem Inv.mod(I:Inv X pins σ H s):Mod X.K X.mg X.base:=I.ok.mod
theorem Inv.Zh(I:Inv X pins σ H s):X.K.In s.heap:=I.ok.mod.vt.keeps I.bk
theorem Inv.lt(I:Inv X pins σ H s):X.env.locals<s.heap.objs.size:=let ⟨_,hn,_⟩:=I.loc;hn.lt
theorem Inv.sz(I:Inv X pins σ H s):X.U0.heap.objs.size<=s.heap.objs.size:=Aw I.ok.above (VJ I.lt)
theorem Inv.AAc(I:Inv X pins σ H s){a:Addr}(h:s.heap.objs.size<=a):a∉X.fs:=λhb=>by
 obtain⟨_,o,ho,_⟩:=I.ok.RU.mem hb;exact absurd (BH (Az ho) (Aw I.sz h)) (DU _)
theorem Inv.sF(I:Inv X pins σ H s):∀x c,X.env.cells.lookup x=some c->c≠X.env.locals:=λx c e z=>by
 obtain⟨v,o,ho,hd⟩:=I.cell x c e;obtain⟨m,⟨o',es,ep,ho',hd',_⟩,_⟩:=I.loc;rw[z,ho']at ho;cases ho;rw[hd']at hd;cases hd
theorem Inv.RU(I:Inv X pins σ H s):s.heap.FunFrames X.base X.outer:=by
 have all:∀(l:List Env),(∀b∈frs l,b∈X.fs)->X.U0.heap.FunFrames X.base l->s.heap.FunFrames X.base l:=by
  intro l
  induction l with
  |nil=>intro _ _;trivial
  |cons env r ih=>
   intro hs hl;obtain⟨hk,⟨L,o,hf,hn,ho,hd⟩,hr⟩:=hl;have hL:L∈X.fs:=hs L (by unfold frs;rw[LX,hf];exact Ac);obtain⟨sl,e⟩:=I.base.slot L o ho (I.ok.o9 L hL) hL λz=>I.ok.lg L z hL;exact⟨hk,⟨L,_,hf,hn,e,hd⟩,ih (λb hb=>hs b (by unfold frs;rw[LX,hf];exact AV _ hb)) hr⟩
 exact all X.outer (λ_ hb=>hb) I.ok.RU
theorem Inv.stack(I:Inv X pins σ H s):s.heap.FunFrames X.base X.stack:=by
 rcases I.ok.stk with e|⟨e,hf⟩
 ·rw[e];exact I.RU
 ·rw[e];obtain⟨m,hn,_⟩:=I.loc;refine .cons (by rw[I.ok.kind];decide) hf hn ?_ I.RU;exact Heap.get?_none_of_le (Aw I.ok.jr I.ok.above)
theorem Inv.iB(I:Inv X pins σ H s):∀b∈frs X.stack,b∈X.env.locals::X.fs:=λb hb=>by
 rcases I.ok.stk with e|⟨e,hf⟩
 ·rw[e]at hb;exact AV _ hb
 ·rw[e]at hb;unfold frs at hb;rw[LX,hf]at hb;exact hb
theorem Inv.jt(I:Inv X pins σ H s):∀b∈frs X.stack,H b=none:=λb hb=>by
 rcases AN.mp (I.iB b hb)with e|hb
 ·rw[e];exact I.free
 ·obtain⟨_,o,ho,_⟩:=I.ok.RU.mem hb;exact I.base.free b o ho (I.ok.o9 b hb) λz=>I.ok.lg b z hb
theorem Inv.step{g':Array GenState}{t':Nat}{d':Drawn}{ch:List Addr}(I:Inv X pins σ H s)
 (hch:∀b∈ch,(b∈X.ex\/X.U0.heap.objs.size<=b)/\b≠X.env.locals/\(∀x c,X.env.cells.lookup x=some c->c≠b)/\∀p∈X.pn++pins,p.1≠b)
 (keep:∀b o,b≠X.env.locals->b∉X.fs->b∉ch->s.heap.get? b=some o->H b=none->h'.get? b=some o)
 (slot:∀b o,b≠X.env.locals->b∈X.fs->b∉ch->s.heap.get? b=some o->H b=none->∃sl,h'.get? b=some {o with slots:=sl}) (free:∀b o,b∉ch->s.heap.get? b=some o->H b=none->H' b=none)
 (there:∀b o,b∉ch->s.heap.get? b=some o->∃o',h'.get? b=some o')
 (tups:∀b xs,H b=some (.tup xs)->H' b=some (.tup xs)) (ZI:∀b o u,H b=some (.Vj o u)->H' b=some (.Vj o u)) (Z6:∀b ps,H b=some (.sD ps)->∃more,H' b=some (.sD (ps++more)))
 (ns:∀m,s.heap.Ns X.env.locals m->h'.Ns X.env.locals m) (hok:Kg X.prog X.w H' h') (hg:AllBare g'):
 Inv X pins σ H' {s with heap:=h',gens:=g',drawn:=d',toks:=t'}:=by
 have neL:∀b o,X.U0.heap.get? b=some o->b≠X.env.locals:=λb o e=>BV (BH (Az e) I.ok.above);have yL:∀b o,X.U0.heap.get? b=some o->b∉X.ex->b∉ch:=λb o e hx hb=>by
  rcases (hch b hb).1 with z|z
  ·exact hx z
  ·exact absurd (BH (Az e) z) (DU _)
 have cellK:∀x c,X.env.cells.lookup x=some c->∀v,s.heap.IsCell c v->h'.IsCell c v:=λx c e v ⟨o,ho,hd⟩=>by
  have v7:c∉ch:=λz=>(hch c z).2.2.1 x c e U;by_cases hc:c∈X.fs
  ·obtain⟨sl,q⟩:=slot c o (I.sF x c e) hc v7 ho (I.OL x c e);exact⟨_,q,hd⟩
  ·exact⟨o,keep c o (I.sF x c e) hc v7 ho (I.OL x c e),hd⟩
 refine⟨I.ok,I.os,hg,⟨λb o e n hb hx=>?_,λb o e n hb hx=>?_,λb o e n hx=>?_,λb o e hx=>?_,λb xs e=>tups b xs (I.base.tups b xs e),λb o xs e=>ZI b o xs (I.base.ZI b o xs e),λb ps e=>?_⟩,?_,λx c e=>?_,?_,λx c e=>?_,λp hp=>?_,hok,I.len⟩
 ·exact keep b o (neL b o e) hb (yL b o e hx) (I.base.keep b o e n hb hx) (I.base.free b o e n hx)
 ·obtain⟨sl,e1⟩:=I.base.slot b o e n hb hx;obtain⟨sl',e2⟩:=slot b _ (neL b o e) hb (yL b o e hx) e1 (I.base.free b o e n hx);exact⟨sl',e2⟩
 ·obtain⟨o',e1⟩:=I.base.there b o e hx;exact free b o' (yL b o e hx) e1 (I.base.free b o e n hx)
 ·obtain⟨o',e1⟩:=I.base.there b o e hx;exact there b o' (yL b o e hx) e1
 ·obtain⟨m1,e1⟩:=I.base.Z6 b ps e;obtain⟨m2,e2⟩:=Z6 b _ e1;exact⟨m1++m2,by rw[e2,Array.append_assoc]⟩
 ·obtain⟨m,hn,hl⟩:=I.loc;refine⟨m,ns m hn,λi x v e1 e2 e3=>?_⟩;obtain⟨u,r,l⟩:=hl i x v e1 e2 e3;refine⟨u,r,?_⟩;rcases l with l|⟨k,c,e,z⟩
  ·exact .inl l
  ·exact .inr ⟨k,c,e,cellK x c e _ z⟩
 ·obtain⟨v,z⟩:=I.cell x c e;exact⟨v,cellK x c e v z⟩
 ·obtain⟨m,⟨o,_,_,ho,_⟩,_⟩:=I.loc;exact free _ o (λz=>(hch _ z).2.1 rfl) ho I.free
 ·obtain⟨v,o,ho,hd⟩:=I.cell x c e;exact free c o (λz=>(hch c z).2.2.1 x c e U) ho (I.OL x c e)
 ·obtain⟨e,n,ne,nf,d⟩:=I.pin p hp;have v7:p.1∉ch:=λz=>(hch p.1 z).2.2.2 p hp U;exact⟨keep p.1 p.2 ne nf v7 e n,free p.1 p.2 v7 e n,ne,nf,d⟩
theorem Inv.un{t':Nat}(I:Inv X pins σ H s)(u:Un X.fs [] H H' s.heap h')(hok:Kg X.prog X.w H' h'):Inv X pins σ H' {s with heap:=h',toks:=t'}:=by
 obtain⟨m,⟨o,es,ep,ho,r⟩,_⟩:=id I.loc;obtain⟨sl,hL⟩:=u.any ho I.free (by simp);exact I.step (g':=s.gens) (d':=s.drawn) (ch:=[]) (λ_ z=>nomatch z) (λb o _ hb _ e n=>u.keep b o e n hb (by simp)) (λb o _ hb _ e n=>u.slot b o e n hb (by simp)) (λb o _ e n=>u.free b o e n (by simp)) (λb o _ e=>u.there b o e (by simp)) u.tups u.ZI u.Z6 (λm' hm=>by
  obtain⟨o',es',uW,ho',r'⟩:=hm;rw[ho]at ho';cases ho';exact⟨_,es',uW,hL,r'⟩) hok I.bare
theorem Inv.call{g':Array GenState}{t':Nat}{d':Drawn}{ch:List Addr}(I:Inv X pins σ H s)(u:Un (frs X.stack) ch H H' s.heap h')(hok:Kg X.prog X.w H' h')(hg:AllBare g')
 (hch:∀b∈ch,(b∈X.ex\/X.U0.heap.objs.size<=b)/\b≠X.env.locals/\(∀x c,X.env.cells.lookup x=some c->c≠b)/\∀p∈X.pn++pins,p.1≠b):
 Inv X pins σ H' {s with heap:=h',gens:=g',drawn:=d',toks:=t'}:=by
 obtain⟨m,⟨o,es,ep,ho,r⟩,_⟩:=id I.loc;obtain⟨sl,hL⟩:=u.any ho I.free λz=>(hch _ z).2.1 rfl;exact I.step (ch:=ch) hch (λb o hL hb hc e n=>u.keep b o e n (λz=>(AN.mp (I.iB b z)).elim hL hb) hc) (λb o _ _ hc e n=>u.any e n hc) (λb o hc e n=>u.free b o e n hc) (λb o hc e=>u.there b o e hc) u.tups u.ZI u.Z6 (λm' hm=>by
  obtain⟨o',es',uW,ho',r'⟩:=hm;rw[ho]at ho';cases ho';exact⟨_,es',uW,hL,r'⟩) hok hg
theorem Inv.turned{t':Nat}{it:Addr}(I:Inv X pins σ H s)(k:∀b o,b≠it->s.heap.get? b=some o->h'.get? b=some o)(hn:H it=none)(hL:it≠X.env.locals)
 (h1:it∈X.ex\/X.U0.heap.objs.size<=it) (h2:∀x c,X.env.cells.lookup x=some c->c≠it) (h3:∀p∈X.pn++pins,p.1≠it):Inv X pins σ H {s with heap:=h',toks:=t'}:=by
 have o_:∀b u,H b=some u->b≠it:=λb u e z=>by rw[z,hn]at e;cases e
 refine I.step (g':=s.gens) (d':=s.drawn) (ch:=[it]) (λb hb=>?_) (λb o _ _ hc e _=>k b o (λz=>hc (by simp[z])) e) (λb o _ _ hc e _=>⟨o.slots,k b o (λz=>hc (by simp[z])) e⟩) (λ_ _ _ _ n=>n)
  (λb o hc e=>⟨o,k b o (λz=>hc (by simp[z])) e⟩) (λ_ _ e=>e) (λ_ _ _ e=>e) (λb ps e=>⟨#[],by rw[e];simp⟩) (λm hm=>?_) (λb u e=>?_) I.bare
 ·have e:b=it:=by simpa using hb
  subst e;exact⟨h1,hL,h2,h3⟩
 ·obtain⟨o,es,ep,ho,r⟩:=hm;exact⟨o,es,ep,k _ o (CI hL) ho,r⟩
 ·refine(I.hok b u e).stay (λc v hc q=>k c v ?_ q) (λ_ q=>q) λ_ _ q=>q;rcases hc with z|z
  ·rw[z];exact o_ b u e
  ·exact o_ c _ z
theorem Inv.tok(I:Inv X pins σ H s)(t:Nat):Inv X pins σ H {s with toks:=t}:=I.un (h':=s.heap) (t':=t) Un.refl I.hok
theorem Inv.kept{t':Nat}(I:Inv X pins σ H s)(k:∀b u,s.heap.get? b=some u->h'.get? b=some u):Inv X pins σ H {s with heap:=h',toks:=t'}:=I.un (Un.kept k) (I.hok.kept k)
theorem Inv.laid{a:Addr}{o:HO}{t':Nat}(I:Inv X pins σ H s)(k:∀b u,s.heap.get? b=some u->h'.get? b=some u)(hp:s.heap.objs.size<=a)(new:EN X.prog X.w (upd H a o) h' a o):
 Inv X pins σ (upd H a o) {s with heap:=h',toks:=t'}:=I.un (Un.laid k hp (I.hok.fresh hp)) (I.hok.laid k hp new)
theorem Inv.write{x e:Addr}{o:HO}{t':Nat}(I:Inv X pins σ H s)(mu:vq (H x))(he:e=x\/H e=some (.own x))(k:∀b u,b≠e->s.heap.get? b=some u->h'.get? b=some u)(uV:∃u,h'.get? e=some u)
 (new:EN X.prog X.w (upd H x o) h' x o):Inv X pins σ (upd H x o) {s with heap:=h',toks:=t'}:=I.un (Un.write mu he k uV) (I.hok.write mu he k uV new)
theorem Inv.weak{σ':List (Option V)}(I:Inv X pins σ H s)(hl:σ'.length=σ.length)(w:∀(i:Nat) v,σ'[i]?=some (some v)->σ[i]?=some (some v)):Inv X pins σ' H s:=
 ⟨I.ok,I.os,I.bare,I.base,let ⟨m,hn,hl'⟩:=I.loc;⟨m,hn,λi x v e1 e2 e3=>hl' i x v e1 (w i v e2) e3⟩,I.cell,I.free,I.OL,I.pin,I.hok,hl.trans I.len⟩
theorem Inv.ju{Zc:List (Addr×Obj)}(I:Inv X pins σ H s)(h:∀p∈Zc,s.heap.get? p.1=some p.2/\H p.1=none/\p.1≠X.env.locals/\p.1∉X.fs/\∀v,p.2.data≠.cell v):Inv X Zc σ H s:=
 ⟨I.ok,I.os,I.bare,I.base,I.loc,I.cell,I.free,I.OL,λp hp=>(AQ.mp hp).elim (λz=>I.pin p (CK _ z)) (h p),I.hok,I.len⟩
theorem YD{N:List Str}(hN:N.Nodup){i j:Nat}{x:Str}(a:N[i]?=some x)(b:N[j]?=some x):i=j:=by
 obtain⟨h1,e1⟩:=AZ.mp a;obtain⟨h2,e2⟩:=AZ.mp b;exact(Wg hN).mp (e1.trans e2.symm)
theorem Z7{M:Model}{A:Around}{E:Value->Shared->Prop}{i:Nat}{x:Str}{v:V}{u:Value}{Q:Unit->Shared->Prop}(I:Inv X pins σ H s)(hN:X.N.Nodup)(hi:X.N[i]?=some x)(hx:Loc X.env.scope x)(r:RelV v u)
 (h:∀s',Inv X pins (σ.set i (some v)) H s'->(∃a,Heap.SameBut a s.heap s'.heap/\(a=X.env.locals\/X.env.cells.lookup x=some a))->Q () s') (hf:X.fn x=true\/X.env.scope.names.lookup x=some .local:=by first|exact .inl rfl|exact .inr rfl|assumption):wpAny M A (storeName X.env x u) Q E s:=by
 obtain⟨m,hn,hl⟩:=id I.loc;have hcls:(X.env.scope.kind==.class||(X.env.scope.kind==.module&&X.env.locals !=X.env.globals))=false:=by rw[I.ok.kind];rfl
 have yM:i<σ.length:=by rw[I.len];exact(AZ.mp hi).1
 have sF:=I.sF;have tracked:∀{a:Addr}{h':Heap},(∃o,s.heap.get? a=some o/\H a=none)->Heap.SameBut a s.heap h'->Kg X.prog X.w H h':=λ{a h'} ha hs b ob e=>by
  obtain⟨_,_,hfree⟩:=ha;refine(I.hok b ob e).stay (λc w' hc q=>(hs.2 c ?_).trans q) (λ_ q=>q) λ_ _ q=>q;rintro rfl;rcases hc with rfl|hc
  ·rw[hfree]at e;cases e
  ·rw[hfree]at hc;cases hc
 rcases hx with hk|hk
 ·refine wpAny_storeName_local hk hn (λh' hn' hs=>?_) hcls;obtain⟨oL,_,_,hoL,_⟩:=id hn;refine h _ ⟨I.ok,I.os,I.bare,⟨λb o e n hb hx=>?_,λb o e n hb hx=>?_,I.base.free,λb o e hx=>?_,I.base.tups,I.base.ZI,I.base.Z6⟩,⟨_,hn',λj y v' e1 e2 e3=>?_⟩,λy c e=>?_,I.free,I.OL,λp hp=>?_,tracked ⟨oL,hoL,I.free⟩ hs,by simpa using I.len⟩ ⟨_,hs,.inl U⟩
  ·exact(hs.2 b (BV (BH (Az e) I.ok.above))).trans (I.base.keep b o e n hb hx)
  ·obtain⟨sl,e1⟩:=I.base.slot b o e n hb hx;exact⟨sl,(hs.2 b (BV (BH (Az e) I.ok.above))).trans e1⟩
  ·obtain⟨o',e1⟩:=I.base.there b o e hx;exact⟨o',(hs.2 b (BV (BH (Az e) I.ok.above))).trans e1⟩
  ·by_cases hj:j=i
   ·subst hj;rw[hi]at e1;cases e1;rw[Cz yM]at e2;cases e2;exact⟨u,r,.inl ⟨hk,by simp⟩⟩
   ·rw[EB (CI hj)]at e2;obtain⟨u',r',q⟩:=hl j y v' e1 e2 e3;refine⟨u',r',?_⟩;rcases q with ⟨k,e⟩|⟨k,c,e,z⟩
    ·refine .inl ⟨k,?_⟩;have:y≠x:=λe=>hj (YD hN e1 (e▸hi));simp[this,e]
    ·exact .inr ⟨k,c,e,z.sameBut hs (sF y c e)⟩
  ·obtain⟨w',z⟩:=I.cell y c e;exact⟨w',z.sameBut hs (sF y c e)⟩
  ·obtain⟨e,n,ne,nf,d⟩:=I.pin p hp;exact⟨(hs.2 p.1 ne).trans e,n,ne,nf,d⟩
 ·have hfn:X.fn x=true:=by
   rcases hf with z|z
   ·exact z
   ·rw[z]at hk;cases hk
  obtain⟨c,hc⟩:=I.ok.has x (.inl hk);obtain⟨w',z⟩:=I.cell x c hc;refine wpAny_storeName_cell I.ok.kind hk hc z (λh' hc' hs=>?_);obtain⟨oc,hoc,AAd⟩:=id z;refine h {s with heap:=h'} ⟨I.ok,I.os,I.bare,⟨λb o e n hb hx=>?_,λb o e n hb hx=>?_,I.base.free,λb o e hx=>?_,I.base.tups,I.base.ZI,I.base.Z6⟩,⟨m,hn.sameBut hs (CI (sF x c hc)),λj y v' e1 e2 e3=>?_⟩,λy c' e=>?_,I.free,I.OL,λp hp=>?_,tracked ⟨oc,hoc,I.OL x c hc⟩ hs,by simpa using I.len⟩ ⟨c,hs,.inr hc⟩
  ·exact(hs.2 b (BV (BH (Az e) (I.ok.v5 x c hfn hc)))).trans (I.base.keep b o e n hb hx)
  ·obtain⟨sl,e1⟩:=I.base.slot b o e n hb hx;exact⟨sl,(hs.2 b (BV (BH (Az e) (I.ok.v5 x c hfn hc)))).trans e1⟩
  ·obtain⟨o',e1⟩:=I.base.there b o e hx;exact⟨o',(hs.2 b (BV (BH (Az e) (I.ok.v5 x c hfn hc)))).trans e1⟩
  ·by_cases hj:j=i
   ·subst hj;rw[hi]at e1;cases e1;rw[Cz yM]at e2;cases e2;exact⟨u,r,.inr ⟨.inl hk,c,hc,hc'⟩⟩
   ·rw[EB (CI hj)]at e2;obtain⟨u',r',q⟩:=hl j y v' e1 e2 e3;refine⟨u',r',?_⟩;rcases q with q|⟨k,c',e,z'⟩
    ·exact .inl q
    ·refine .inr ⟨k,c',e,z'.sameBut hs ?_⟩;rintro rfl;exact hj (YD hN e1 (I.ok.inj _ _ _ e hc▸hi))
  ·by_cases hcc:c'=c
   ·subst hcc;exact⟨_,hc'⟩
   ·obtain⟨w2,z2⟩:=I.cell y c' e;exact⟨w2,z2.sameBut hs hcc⟩
  ·obtain⟨e,n,ne,nf,d⟩:=I.pin p hp;refine⟨(hs.2 p.1 ?_).trans e,n,ne,nf,d⟩;intro q;rw[q,hoc]at e;have q':oc=p.2:=BB e;exact d w' (by rw[<-q'];exact AAd)
theorem dZ{M:Model}{A:Around}{E:Value->Shared->Prop}{i:Nat}{x:Str}{v:V}{u:Value}{Q:Unit->Shared->Prop}(I:Inv X pins σ H s)(hN:X.N.Nodup)(hi:X.N[i]?=some x)(hx:Loc X.env.scope x)(r:RelV v u)
 (h:∀s',Inv X pins (σ.set i (some v)) H s'->Q () s') (hf:X.fn x=true\/X.env.scope.names.lookup x=some .local:=by first|exact .inl rfl|exact .inr rfl|assumption):wpAny M A (storeName X.env x u) Q E s:=
 Z7 I hN hi hx r (λs' I' _=>h s' I') hf
theorem Inv.zG{s':Shared}{ch:List Addr}(I:Inv X pins σ H s)(ho:s'.os=s.os)(u:Un (frs X.stack) ch H H' s.heap s'.heap)(hok:Kg X.prog X.w H' s'.heap)(hg:AllBare s'.gens)
 (hch:∀b∈ch,(b∈X.ex\/X.U0.heap.objs.size<=b)/\b≠X.env.locals/\(∀x c,X.env.cells.lookup x=some c->c≠b)/\∀p∈X.pn++pins,p.1≠b):Inv X pins σ H' s':=by
 obtain⟨h',g',d',t',o'⟩:=s';have e:o'=s.os:=ho;subst e;exact I.call (g':=g') (t':=t') (d':=d') u hok hg hch
end
abbrev XK:=Value->Option Addr->Hp->Prop
abbrev St:=List (Option V)
abbrev VK:=V->Hp->Prop
abbrev TE:=St->Hp->VK->Prop
abbrev TT:=St->Hp->(Bool->Hp->Prop)->Prop
abbrev TA:=St->Hp->(List V->Hp->Prop)->Prop
structure Ends where
 nx:St->Hp->Prop
 rt:VK
 bk:St->Hp->Prop:=λ_ _=>False
 ct:St->Hp->Prop:=λ_ _=>False
abbrev TS:=Ends->St->Hp->Prop
inductive EP(X:Cx)(pins:List (Addr×Obj))(σ:St)(Q:VK)(u:Value)(s':Shared):Prop
 |mk(v:_)(H':_)(h0:Inv X pins σ H' s')(h1:RelV v u)(h2:Q v H')
def TP(X:Cx)(pins:List (Addr×Obj))(σ:St)(Q:Bool->Hp->Prop)(b:Bool)(s':Shared):Prop:=∃H',Inv X pins σ H' s'/\Q b H'
inductive AP(X:Cx)(pins:List (Addr×Obj))(σ:St)(Q:List V->Hp->Prop)(us:List Value)(s':Shared):Prop
 |mk(vs:_)(H':_)(h0:Inv X pins σ H' s')(h1:Vals vs us)(h2:Q vs H')
def SP(X:Cx)(pins:List (Addr×Obj))(D:Ends)(f:Flow)(s':Shared):Prop:=
 match f with
 | .next=>∃σ' H',Inv X pins σ' H' s'/\D.nx σ' H'
 | .brk=>∃σ' H',Inv X pins σ' H' s'/\D.bk σ' H'
 | .cont=>∃σ' H',Inv X pins σ' H' s'/\D.ct σ' H'
 | .ret u=>∃v σ' H',Inv X pins σ' H' s'/\RelV v u/\D.rt v H'
def PE(X:Cx)(e:Expr)(t:TE):Prop:=
 ∀(pins:List (Addr×Obj))(s:Shared)(σ:St)(H:Hp)(Q:VK),Inv X pins σ H s->t σ H Q->wpAny (model X.prog X.w) X.A (eval e X.env) (EP X pins σ Q) X.xe s
def PT(X:Cx)(e:Expr)(t:TT):Prop:=
 ∀(pins:List (Addr×Obj))(s:Shared)(σ:St)(H:Hp)(Q:Bool->Hp->Prop),Inv X pins σ H s->t σ H Q->wpAny (model X.prog X.w) X.A (isTrue e X.env (eval e X.env)) (TP X pins σ Q) X.xe s
def PW(X:Cx)(e:Expr)(t:TT):Prop:=
 ∀(whole:Sem Value)(pins:List (Addr×Obj))(s:Shared)(σ:St)(H:Hp)(Q:Bool->Hp->Prop),Inv X pins σ H s->t σ H Q->wpAny (model X.prog X.w) X.A (isTrue e X.env whole) (TP X pins σ Q) X.xe s
theorem PW.pt{X:Cx}{e:Expr}{t:TT}(h:PW X e t):PT X e t:=h _
def PA(X:Cx)(es:List Expr)(t:TA):Prop:=
 ∀(pos:Pos)(pins:List (Addr×Obj))(s:Shared)(σ:St)(H:Hp)(Q:List V->Hp->Prop),Inv X pins σ H s->t σ H Q->wpAny (model X.prog X.w) X.A (spliced (backTo pos (starEach es X.env))) (AP X pins σ Q) X.xe s
def PS(X:Cx)(st:Stmt)(t:TS):Prop:=
 ∀(pins:List (Addr×Obj))(s:Shared)(σ:St)(H:Hp)(D:Ends),Inv X pins σ H s->t D σ H->wpAny (model X.prog X.w) X.A (exec st X.env) (SP X pins D) X.xe s
def Z8(X:Cx)(st:List Stmt)(t:TS):Prop:=
 ∀(pins:List (Addr×Obj))(s:Shared)(σ:St)(H:Hp)(D:Ends),Inv X pins σ H s->t D σ H->wpAny (model X.prog X.w) X.A (execs st X.env) (SP X pins D) X.xe s
theorem DQ{α:Type}{t:Sem α}{Q Q':α->Shared->Prop}{M:Model}{A:Around}{E:Value->Shared->Prop}{s:Shared}(h:wpAny M A t Q E s)(hQ:∀a s,Q a s->Q' a s):wpAny M A t Q' E s:=DT h hQ λ_ _ x=>x
end L2
namespace L2
open PySem PySem.Spec PyProof.Rows
section
variable{X:Cx}
inductive AAe(i:Nat)(σ:St)(H:Hp)(Q:VK):Prop
 |mk(v:_)(h0:σ[i]?=some (some v))(h1:Q v H)
def CD(i:Nat):TE:=λσ H Q=>AAe i σ H Q
def tC(v:V):TE:=λ_ H Q=>Q v H
theorem v8{i:Nat}{x:Str}{pos:Pos}(hN:X.N[i]?=some x)(hv:vz X.env.scope x)(hd:(x==("__debug__":Str))=false:=by decide)(hcd:(x==("__classdict__":Str))=false:=by decide):PE X (.Name x pos) (CD i):=by
 intro pins s σ H Q I h;obtain⟨v,e,h⟩:=h;obtain⟨m,hn,hl⟩:=I.loc;obtain⟨u,r,l⟩:=hl i x v hN e hv;have fin:EP X pins σ Q u s:=⟨v,H,I,r,h⟩;rcases l with ⟨hk,hm⟩|⟨hk,c,hc,hcell⟩
 ·exact ZD (wpAny_loadName_local I.ok.kind hk hn hm fin) hd
 ·rcases hk with hk|hk
  ·exact ZD (wpAny_loadName_cell I.ok.kind hk hc hcell fin) hd
  ·exact ZD (wpAny_loadName_free I.ok.kind hk hc hcell fin hcd) hd
theorem Ag{i j pos}:PE X (.Constant (.int i) j pos) (tC (.int i)):=λ_ _ _ H _ I h=>wpAny_Constant_int ⟨.int i,H,I.tok _,⟨_,U⟩,h⟩
theorem Ip{b j pos}:PE X (.Constant (.bool b) j pos) (tC (.bl b)):=λ_ _ _ H _ I h=>Constant_bool ⟨.bl b,H,I,U,h⟩
theorem iC{j pos}:PE X (.Constant .none j pos) (tC .DX):=λ_ _ _ H _ I h=>Constant_none ⟨.DX,H,I,U,h⟩
theorem Kh{x j pos}:PE X (.Constant (.str x) j pos) (tC (.str x)):=λ_ _ _ H _ I h=>Calls.Constant_str ⟨.str x,H,I.tok _,⟨_,U⟩,h⟩
def Gl(X:Cx)(x:Str):Prop:=X.env.kindOf x=some .globalImplicit
theorem Po{E:Value->Shared->Prop}{pins:List (Addr×Obj)}{s:Shared}{σ:St}{H:Hp}{x:Str}{u:Value}{pos:Pos}{Q:Value->Shared->Prop}(I:Inv X pins σ H s)(hg:Gl X x)(hm:X.mg x=some u)(h:Q u s)
 (hd:(x==("__debug__":Str))=false:=by decide):wpAny (model X.prog X.w) X.A (eval (.Name x pos) X.env) Q E s:=
 MQ I.ok.kind hg (Calls.loadGlobal_global (by rw[I.ok.glob];exact I.mod.glob.keeps I.bk) hm h) hd
theorem Km{E:Value->Shared->Prop}{pins:List (Addr×Obj)}{s:Shared}{σ:St}{H:Hp}{x:Str}{u:Value}{pos:Pos}{Q:Value->Shared->Prop}(I:Inv X pins σ H s)(hg:Gl X x)(hm:X.mg x=none)(hv:bootBuiltins x=some u)(h:Q u s)
 (hn:x≠"__name__":=by decide) (hd:(x==("__debug__":Str))=false:=by decide):wpAny (model X.prog X.w) X.A (eval (.Name x pos) X.env) Q E s:=by
 obtain⟨mb,h1,h2⟩:=I.mod.blt;exact MQ I.ok.kind hg (Calls.loadGlobal_builtin (by rw[I.ok.glob];exact I.mod.glob.keeps I.bk) hm (by rw[I.ok.blt];exact h1.keeps I.bk) ((h2 x hn).trans hv) h) hd
theorem KZ{x:Str}{v:V}{u:Value}{pos:Pos}(hg:Gl X x)(hm:X.mg x=some u)(r:RelV v u)(hd:(x==("__debug__":Str))=false:=by decide):PE X (.Name x pos) (tC v):=
 λ_ _ _ H _ I h=>Po I hg hm ⟨v,H,I,r,h⟩ hd
variable{a b:Expr}{ta tb:TE}{pos:Pos}
def PC(X:Cx)(op:CmpOp)(a b:Expr)(t:TE):Prop:=
 ∀(pins:List (Addr×Obj))(s:Shared)(σ:St)(H:Hp)(Q:VK),Inv X pins σ H s->t σ H Q->
  wpAny (model X.prog X.w) X.A (eval a X.env) (λv s₁=>wpAny (model X.prog X.w) X.A (eval b X.env) (λu s₂=>wpAny (model X.prog X.w) X.A (compareOp op v u) (EP X pins σ Q) X.xe s₂) X.xe s₁) X.xe s
inductive XB(x:V)(H1:Hp)(Q:Bool->Hp->Prop):Prop
 |mk(c:_)(h0:x=.bl c)(h1:Q c H1)
def tB(t:TE):TT:=λσ H Q=>t σ H λx H1=>XB x H1 Q
theorem v9{op:CmpOp}{t:TE}(h:PC X op a b t)(h1:behindInMarks op b=false:=by first|exact nobehind _ (by decide) (by decide)|rfl):PT X (.Compare a [op] [b] pos) (tB t):=by
 intro pins s σ H Q I hw;refine Pg (DQ (h pins s σ H _ I hw) λv s1 h1=>DQ h1 λu s2 h2=>DQ h2 λc s3 ⟨x,H1,I1,r1,q1⟩=>?_) h1;obtain⟨d,rfl,q⟩:=q1;cases r1;exact Mr ⟨H1,I1,q⟩
theorem D_{e:Expr}{t:TE}(h:PE X e t)(he:∀whole,isTrue e X.env whole=(do let v <-whole;standAt e.pos;holding [v] (truthy v)):=by intro _;rfl):PT X e (tB t):=by
 intro pins s σ H Q I hw;refine isTrue_plain (DQ (h pins s σ H _ I hw) λv s1 ⟨x,H1,I1,r1,q1⟩=>?_) (he _);obtain⟨d,rfl,q⟩:=q1;cases r1;exact Mr ⟨H1,I1,q⟩
variable{tA yO:TT}{rest:List Expr}
def vI(t u:TT):TT:=λσ H Q=>t σ H λc H1=>if c=true then u σ H1 Q else Q false H1
def tOr(t u:TT):TT:=λσ H Q=>t σ H λc H1=>if c=true then Q true H1 else u σ H1 Q
def yP(t:TT):TT:=λσ H Q=>t σ H λc H1=>Q (!c) H1
theorem T3(ha:PT X a tA):PW X (.BoolOp .And [a] pos) tA:=by
 intro wh pins s σ H Q I h;refine isTrue_and (DQ (ha pins s σ H Q I h) λc s1 e=>?_);cases c with
 |true=>exact isTrue_and_nil e
 |false=>exact e
theorem Oz(ha:PT X a tA):PW X (.BoolOp .Or [a] pos) tA:=by
 intro wh pins s σ H Q I h;refine isTrue_or (DQ (ha pins s σ H Q I h) λc s1 e=>?_);cases c with
 |false=>exact isTrue_or_nil e
 |true=>exact e
theorem X0(ha:PT X a tA)(hb:PW X (.BoolOp .And (b::rest) pos) yO):PW X (.BoolOp .And (a::b::rest) pos) (vI tA yO):=by
 intro wh pins s σ H Q I h;refine isTrue_and (DQ (ha pins s σ H _ I h) λc s1 ⟨H1,I1,q1⟩=>?_);cases c with
 |true=>exact hb wh pins s1 σ H1 Q I1 q1
 |false=>exact⟨H1,I1,q1⟩
theorem U1(ha:PT X a tA)(hb:PW X (.BoolOp .Or (b::rest) pos) yO):PW X (.BoolOp .Or (a::b::rest) pos) (tOr tA yO):=by
 intro wh pins s σ H Q I h;refine isTrue_or (DQ (ha pins s σ H _ I h) λc s1 ⟨H1,I1,q1⟩=>?_);cases c with
 |true=>exact⟨H1,I1,q1⟩
 |false=>exact hb wh pins s1 σ H1 Q I1 q1
theorem Hz(ha:PT X a tA):PT X (.UnaryOp .Not a pos) (yP tA):=by
 intro pins s σ H Q I h;exact isTrue_not (ha pins s σ H (λc H1=>Q (!c) H1) I h)
def tIf(t:TT)(ta tb:TE):TE:=λσ H Q=>t σ H λc H1=>if c=true then ta σ H1 Q else tb σ H1 Q
theorem dc{c:Expr}(hc:PT X c tA)(ha:PE X a ta)(hb:PE X b tb):PE X (.IfExp c a b pos) (tIf tA ta tb):=by
 intro pins s σ H Q I h;refine wpAny_IfExp (DQ (hc pins s σ H _ I h) λd s1 ⟨H1,I1,q1⟩=>?_);cases d with
 |true=>exact ha pins s1 σ H1 Q I1 q1
 |false=>exact hb pins s1 σ H1 Q I1 q1
end
end L2
namespace L2
open PySem PySem.Spec PyProof.Rows
def A1(K:PySem.W.Frag)(H:Hp)(a:Addr)(xs:List V):Prop:=
 Rd H a (.lst xs)\/
  ∃(o:Obj)(its:Array Value)(n:Nat),K.lookup a=some o/\o.cls=.type "list"/\o.dict=none/\o.data=.seq its n/\its.size<=sizeLine/\Vals xs its.toList
def OM(K:PySem.W.Frag)(H:Hp)(a:Addr)(xs:List V):Prop:=
 Rd H a (.tup xs)\/
  ∃(o:Obj)(its:Array Value)(n:Nat),K.lookup a=some o/\o.cls=.type "tuple"/\o.data=.seq its n/\its.size<=sizeLine/\Vals xs its.toList
def yQ:Value->Option V
 | .none=>some .DX
 | .bool b=>some (.bl b)
 | .int i _=>some (.int i)
 | .str x _=>some (.str x)
 | .bytes b _=>some (.Yr b)
 | .float b _=>some (.yG b)
 | .ref a=>some (.ref a)
 | .type n=>some (.ty n)
 |_=>none
theorem RelV.abs{x:V}{u:Value}(r:RelV x u):yQ u=some x:=by
 cases x with
 |DX=>cases r;rfl
 |bl _=>cases r;rfl
 |int _=>obtain⟨t,rfl⟩:=r;rfl
 |str _=>obtain⟨t,rfl⟩:=r;rfl
 |Yr _=>obtain⟨t,rfl⟩:=r;rfl
 |yG _=>obtain⟨t,rfl⟩:=r;rfl
 |ref _=>cases r;rfl
 |ty _=>cases r;rfl
theorem RelV.inj{x y:V}{u:Value}(r:RelV x u)(q:RelV y u):x=y:=BB (r.abs.symm.trans q.abs)
theorem Vals.inj:∀{xs ys:List V}{us:List Value},Vals xs us->Vals ys us->xs=ys
 |_,_,_,.nil,.nil=>rfl
 |_,_,_,.cons r t,.cons r' t'=>by rw[r.inj r',Vals.inj t t']
section
variable{X:Cx}{pins:List (Addr×Obj)}{σ:St}{H:Hp}{s:Shared}{a:Addr}{xs ys:List V}
theorem A1.of{K:PySem.W.Frag}(h:H a=some (.lst xs)):A1 K H a xs:=.inl (.inl h)
theorem OM.of{K:PySem.W.Frag}(h:H a=some (.tup xs)):OM K H a xs:=.inl (.inl h)
theorem Inv.list(I:Inv X pins σ H s)(h:A1 X.K H a xs):∃its:List Value,Vals xs its/\PlainL s.heap a its.toArray/\xs.length<=sizeLine:=by
 rcases h with h|⟨o,its,n,hk,hc,hd,hs,hz,r⟩
 ·obtain⟨z,its,n,r,e⟩:=h.ok I.hok;exact⟨its,r,⟨_,n,e,U,U,U⟩,z⟩
 ·refine⟨its.toList,r,⟨o,n,I.Zh a o hk,hc,hd,by simpa using hs⟩,?_⟩;have e:=r.length;simp only[Fl]at e;omega
theorem Inv.tuple(I:Inv X pins σ H s)(h:OM X.K H a xs):∃its:List Value,Vals xs its/\IsTup s.heap a its.toArray/\xs.length<=sizeLine:=by
 rcases h with h|⟨o,its,n,hk,hc,hs,hz,r⟩
 ·obtain⟨z,its,r,p⟩:=h.ok I.hok;exact⟨its,r,p,z⟩
 ·refine⟨its.toList,r,⟨o,I.Zh a o hk,hc,n,by simpa using hs⟩,?_⟩;have e:=r.length;simp only[Fl]at e;omega
theorem Inv.UR(I:Inv X pins σ H s)(h:A1 X.K H a xs)(h':A1 X.K H a ys):xs=ys:=by
 obtain⟨its,r,⟨o,n,e,_,_,d⟩,_⟩:=I.list h;obtain⟨its',r',⟨o',n',e',_,_,d'⟩,_⟩:=I.list h';rw[e]at e';cases e';rw[d]at d';injection d' with d1 _;have:its=its':=by simpa using B5 Array.toList d1
 subst this;exact r.inj r'
theorem Inv.lq(I:Inv X pins σ H s)(h:OM X.K H a xs)(h':OM X.K H a ys):xs=ys:=by
 obtain⟨its,r,⟨o,e,_,n,d⟩,_⟩:=I.tuple h;obtain⟨its',r',⟨o',e',_,n',d'⟩,_⟩:=I.tuple h';rw[e]at e';cases e';rw[d]at d';injection d' with d1 _;have:its=its':=by simpa using B5 Array.toList d1
 subst this;exact r.inj r'
end
abbrev Cx.XQ(X:Cx)(E:Value->Shared->Prop):Cx:={X with xe:=E}
abbrev Cx.v_(X:Cx):Cx:=X.XQ λ_ _=>False
theorem Cx.Ok.XQ{X:Cx}(ok:X.Ok)(E:Value->Shared->Prop):(X.XQ E).Ok:=
 ⟨ok.mod,ok.kind,ok.glob,ok.blt,ok.above,ok.inj,ok.has,ok.v5,ok.hd,ok.frames,ok.stk,ok.yK,ok.bs,ok.jr,ok.lZ,ok.lg,ok.RU,ok.o9⟩
theorem Cx.Ok.O0{X:Cx}{E:Value->Shared->Prop}(ok:(X.XQ E).Ok):X.Ok:=
 ⟨ok.mod,ok.kind,ok.glob,ok.blt,ok.above,ok.inj,ok.has,ok.v5,ok.hd,ok.frames,ok.stk,ok.yK,ok.bs,ok.jr,ok.lZ,ok.lg,ok.RU,ok.o9⟩
section
variable{X:Cx}{pins:List (Addr×Obj)}{σ:St}{H:Hp}{s:Shared}{E:Value->Shared->Prop}
theorem Inv.XQ(I:Inv X pins σ H s)(E:Value->Shared->Prop):Inv (X.XQ E) pins σ H s:=⟨I.ok.XQ E,I.os,I.bare,I.base,I.loc,I.cell,I.free,I.OL,I.pin,I.hok,I.len⟩
theorem Inv.O0(I:Inv (X.XQ E) pins σ H s):Inv X pins σ H s:=⟨I.ok.O0,I.os,I.bare,I.base,I.loc,I.cell,I.free,I.OL,I.pin,I.hok,I.len⟩
theorem SP.O0{D:Ends}{f:Flow}{s':Shared}(h:SP (X.XQ E) pins D f s'):SP X pins D f s':=by
 cases f with
 |next=>obtain⟨σ',H',I,q⟩:=h;exact⟨σ',H',I.O0,q⟩
 |brk=>obtain⟨σ',H',I,q⟩:=h;exact⟨σ',H',I.O0,q⟩
 |cont=>obtain⟨σ',H',I,q⟩:=h;exact⟨σ',H',I.O0,q⟩
 |ret u=>obtain⟨v,σ',H',I,r,q⟩:=h;exact⟨v,σ',H',I.O0,r,q⟩
theorem Z8.v_{st:List Stmt}{t:TS}(h:Z8 X.v_ st t):Z8 X st t:=λpins s σ H D I hw=>
 DT (h pins s σ H D (I.XQ _) hw) (λ_ _ q=>q.O0) λ_ _ z=>False.elim z
end
section
variable{X:Cx}{st:Stmt}{rest:List Stmt}{t u:TS}{e:Expr}{te:TE}{pos:Pos}
def uX:TS:=λD σ H=>D.nx σ H
def AAf(t u:TS):TS:=λD σ H=>t {D with nx:=u D} σ H
theorem Bc:Z8 X [] uX:=λ_ _ σ H _ I h=>K0 ⟨σ,H,I,h⟩
theorem AE(h1:PS X st t)(h2:Z8 X rest u):Z8 X (st::rest) (AAf t u):=by
 intro pins s σ H D I h;refine Wh (DQ (h1 pins s σ H {D with nx:=u D} I h) λf s1 q=>?_);cases f with
 |next=>
  obtain⟨σ',H',I',q⟩:=q;exact h2 pins s1 σ' H' D I' q
 |ret v=>exact q
 |brk=>exact q
 |cont=>exact q
theorem AK(h1:PS X st t):Z8 X [st] t:=by
 intro pins s σ H D I h;refine Wh (DQ (h1 pins s σ H D I h) λf s1 q=>?_);cases f with
 |next=>exact K0 q
 |ret v=>exact q
 |brk=>exact q
 |cont=>exact q
theorem Inv.quiet{pins:List (Addr×Obj)}{σ:St}{H:Hp}{s:Shared}(I:Inv X pins σ H s):interactive X.env=false:=by simp[interactive,I.ok.kind]
def uY(te:TE):TS:=λD σ H=>te σ H λ_ H1=>D.nx σ H1
theorem C0(he:PE X e te)(hs:swapsWith e none pos.line X.env=pure false:=by rfl):PS X (.Expr e pos) (uY te):=by
 intro pins s σ H D I h;exact wpAny_Expr_any (DQ (he pins s σ H _ I h) λv s1 ⟨x,H1,I1,r1,q1⟩=>⟨σ,H1,I1,q1⟩) I.quiet hs
def vJ(te:TE):TS:=λD σ H=>te σ H D.rt
theorem Am(he:PE X e te):PS X (.Return (some e) pos) (vJ te):=by
 intro pins s σ H D I h;exact wpAny_Return_some (DQ (he pins s σ H _ I h) λv s1 ⟨x,H1,I1,r1,q1⟩=>⟨x,σ,H1,I1,r1,q1⟩)
def yR(c:TT)(t u:TS):TS:=λD σ H=>c σ H λb H1=>if b=true then t D σ H1 else u D σ H1
theorem B_{c:Expr}{a b:List Stmt}{tc:TT}(hc:PT X c tc)(ha:Z8 X a t)(hb:Z8 X b u):PS X (.If c a b pos) (yR tc t u):=by
 intro pins s σ H D I h;refine wpAny_If (DQ (hc pins s σ H _ I h) λd s1 ⟨H1,I1,q1⟩=>?_);cases d with
 |true=>exact ha pins s1 σ H1 D I1 q1
 |false=>exact hb pins s1 σ H1 D I1 q1
end
abbrev TG:=V->St->Hp->(St->Hp->Prop)->Prop
abbrev lu:=List V->St->Hp->(St->Hp->Prop)->Prop
def PG(X:Cx)(target:Expr)(t:TG):Prop:=
 ∀(pins:List (Addr×Obj))(s:Shared)(σ:St)(H:Hp)(v:V)(u:Value)(Q:St->Hp->Prop),Inv X pins σ H s->RelV v u->t v σ H Q->
  wpAny (model X.prog X.w) X.A (assign target X.env u) (λ_ s'=>∃σ' H',Inv X pins σ' H' s'/\Q σ' H') X.xe s
def yS(X:Cx)(ts:List Expr)(t:lu):Prop:=
 ∀(pins:List (Addr×Obj))(s:Shared)(σ:St)(H:Hp)(vs:List V)(us:List Value)(Q:St->Hp->Prop),Inv X pins σ H s->Vals vs us->t vs σ H Q->
  wpAny (model X.prog X.w) X.A (assignInOrder ((assignEach ts X.env).map (·.2)) us) (λ_ s'=>∃σ' H',Inv X pins σ' H' s'/\Q σ' H') X.xe s
abbrev vK:=V->V->V->Hp->(Hp->Prop)->Prop
def yT(X:Cx)(t:vK):Prop:=
 ∀(pins:List (Addr×Obj))(s:Shared)(σ:St)(H:Hp)(o i v:V)(ov iv u:Value)(Q:Hp->Prop),Inv X pins σ H s->RelV o ov->RelV i iv->RelV v u->t o i v H Q->
  wpAny (model X.prog X.w) X.A (setItem ov iv u) (λ_ s'=>∃H',Inv X pins σ H' s'/\Q H') X.xe s
section
variable{X:Cx}{pos:Pos}
def KU(i:Nat):TG:=λv σ H Q=>Q (σ.set i (some v)) H
theorem BW{i:Nat}{x:Str}(hN:X.N.Nodup)(hi:X.N[i]?=some x)(hx:Loc X.env.scope x)(hf:X.fn x=true\/X.env.scope.names.lookup x=some .local:=by first|exact .inl rfl|exact .inr rfl|assumption):PG X (.Name x pos) (KU i):=by
 intro pins s σ H v u Q I r h;exact VT (dZ I hN hi hx r (λs' I'=>⟨_,H,I',h⟩) hf)
def AAh:lu:=λvs σ H Q=>vs=[]/\Q σ H
inductive XgC(t:TG)(u:lu)(vs:List V)(σ:St)(H:Hp)(Q:St->Hp->Prop):Prop
 |mk(v:_)(r:_)(h0:vs=v::r)(h1:t v σ H λσ' H'=>u r σ' H' Q)
def zI(t:TG)(u:lu):lu:=λvs σ H Q=>XgC t u vs σ H Q
theorem Ka:yS X [] AAh:=by
 intro pins s σ H vs us Q I r h;obtain⟨e,h⟩:=h;subst e;cases r;exact assignInOrder_nil ⟨σ,H,I,h⟩
theorem Dd{e:Expr}{es:List Expr}{t:TG}{u:lu}(h1:PG X e t)(h2:yS X es u)
 (hs:(assignEach (e::es) X.env).map (·.2)=assign e X.env::(assignEach es X.env).map (·.2):=by rfl):yS X (e::es) (zI t u):=by
 intro pins s σ H vs us Q I r h;obtain⟨v,vr,e1,h⟩:=h;subst e1;cases r with
 |cons r rr=>
  rw[hs];refine assignInOrder_cons (DQ (h1 pins s σ H _ _ _ I r h) λ_ s1 ⟨σ1,H1,I1,q1⟩=>?_);exact h2 pins s1 σ1 H1 _ _ Q I1 rr q1
inductive XgT(K:PySem.W.Frag)(n:Nat)(t:lu)(v:V)(σ:St)(H:Hp)(Q:St->Hp->Prop):Prop
 |mk(a:_)(xs:_)(h0:v=.ref a)(h1:OM K H a xs)(h2:xs.length=n)(h3:t xs σ H Q)
def yU(K:PySem.W.Frag)(n:Nat)(t:lu):TG:=λv σ H Q=>XgT K n t v σ H Q
theorem NZ{es:List Expr}{k:Nat}{t:lu}{n:Nat}(hc:X.calm=true)(h:yS X es t)
 (hn:(assignEach es X.env).length=n:=by rfl) (hst:(assignEach es X.env).findIdx? (·.1)=none:=by rfl):PG X (.Tuple es k pos) (yU X.K n t):=by
 intro pins s σ H v u Q I r hw;obtain⟨a,xs,e1,hq,hl,hw⟩:=hw;subst e1;cases r;obtain⟨its,rv,ht,hz⟩:=I.tuple hq;refine assign_Tuple_tuple (I.ok.hd hc) ht (by simp[hn,<-hl,rv.length]) hst λh' hx=>?_;have I1:Inv X pins σ H {s with heap:=h'}:=I.kept (t':=s.toks) λb o e=>hx b o (BV (Az e)) e;exact h pins _ σ H xs _ Q I1 (by simpa using rv) hw
def AAi(to ti:TE)(t:vK):TG:=λv σ H Q=>to σ H λo H1=>ti σ H1 λi H2=>t o i v H2 λH3=>Q σ H3
theorem Fx{o i:Expr}{to ti:TE}{t:vK}(ho:PE X o to)(hi:PE X i ti)(hs:yT X t)
 (ha:∀v,assign (.Subscript o i pos) X.env v=(do
   let ov <-holding [v] (eval o X.env)
   let iv <-holding [v,ov] (eval i X.env)
   standAt pos
   holding [v,ov,iv] (setItem ov iv v)
   release [v,ov,iv] []):=by intro _;rfl):PG X (.Subscript o i pos) (AAi to ti t):=by
 intro pins s σ H v u Q I r h;rw[ha];refine AH (GX (DQ (ho pins s σ H _ I h) λov s1 ⟨x,H1,I1,r1,q1⟩=>?_));refine AH (GX (DQ (hi pins s1 σ H1 _ I1 q1) λiv s2 ⟨y,H2,I2,r2,q2⟩=>?_));refine AH (IQ (AH (GX (DQ (hs pins s2 σ H2 x y v ov iv u _ I2 r1 r2 r q2) λ_ s3 ⟨H3,I3,q3⟩=>?_))));exact wpAny_release ⟨σ,H3,I3,q3⟩
def rX(te:TE)(g:TG):TS:=λD σ H=>te σ H λx H1=>g x σ H1 D.nx
theorem Fy{tg e:Expr}{te:TE}{g:TG}(he:PE X e te)(hg:PG X tg g)(hs:swapsWithSole [tg] e pos.line X.env=pure false:=by rfl)(hw:swappedStores [tg] e X.env=pure none:=by rfl)
 (h1:(assignEach [tg] X.env).map (·.2)=[assign tg X.env]:=by rfl):PS X (.Assign [tg] e pos) (rX te g):=by
 intro pins s σ H D I h;refine wpAny_Assign_stores (DQ (he pins s σ H _ I h) λv s1 ⟨x,H1,I1,r1,q1⟩=>?_) hs hw;rw[h1];exact DQ (hg pins s1 σ H1 x v _ I1 r1 q1) λ_ s2 q=>q
theorem pA{i:Nat}{x:Str}{e:Expr}{te:TE}{pos':Pos}(hN:X.N.Nodup)(hi:X.N[i]?=some x)(hx:Loc X.env.scope x)(he:PE X e te)(hs:swapsWith e (some (.Name x pos')) pos.line X.env=pure false:=by rfl)(hf:X.fn x=true\/X.env.scope.names.lookup x=some .local:=by first|exact .inl rfl|exact .inr rfl|assumption):
 PS X (.Assign [.Name x pos'] e pos) (rX te (KU i)):=by
 intro pins s σ H D I h;refine wpAny_Assign_Name (DQ (he pins s σ H _ I h) λv s1 ⟨y,H1,I1,r1,q1⟩=>?_) hs;exact dZ I1 hN hi hx r1 (λs2 I2=>⟨_,H1,I2,q1⟩) hf
end
section
variable{X:Cx}{pos:Pos}
def wA(c:TT)(tb:TS):TS:=λD σ H=>∃W:Nat->St->Hp->Prop,(∃m,W m σ H)/\∀m σ H,W m σ H->
 c σ H λb H1=>if b=true then∃N:St->Hp->Prop,(∀σ' H',N σ' H'->∃m',m'<m/\W m' σ' H')/\tb {D with nx:=N,ct:=N,bk:=D.nx} σ H1 else D.nx σ H1
theorem PX{c:Expr}{body:List Stmt}{tc:TT}{tb:TS}(hp:PassesOwn (model X.prog X.w) X.A X.env X.xe)(hc:PT X c tc)(hb:Z8 X body tb):PS X (.While c body [] pos) (wA tc tb):=by
 intro pins s σ H D I h;obtain⟨W,⟨m0,w0⟩,turn⟩:=h;refine wpAny_While (codeAny_whileLoop (λn s'=>∃σ' H',Inv X pins σ' H' s'/\W n σ' H') ?_ m0 ⟨σ,H,I,w0⟩);rintro n s1 ⟨σ1,H1,I1,w1⟩;refine E_ hp (DQ (hc pins s1 σ1 H1 _ I1 (turn n σ1 H1 w1)) λb s2 ⟨H2,I2,q2⟩=>?_);cases b with
 |true=>
  obtain⟨N,hN,q2⟩:=q2;rw[AJ U];refine E_ hp (DQ (hb pins s2 σ1 H2 _ I2 q2) λf s3 q3=>?_);cases f with
  |next=>
   obtain⟨σ3,H3,I3,n3⟩:=q3;obtain⟨m',hm,w3⟩:=hN σ3 H3 n3;exact⟨m',hm,σ3,H3,I3,w3⟩
  |cont=>
   obtain⟨σ3,H3,I3,n3⟩:=q3;obtain⟨m',hm,w3⟩:=hN σ3 H3 n3;exact⟨m',hm,σ3,H3,I3,w3⟩
  |brk=>exact q3
  |ret v=>exact q3
 |false=>
  rw[AI Au];exact K0 ⟨σ1,H2,I2,q2⟩
end
structure It where
 go:Nat->Hp->Prop
 Vk:Nat->Hp->V->Hp->Prop
 stop:Nat->Hp->Prop
def Lk(X:Cx)(pins:List (Addr×Obj))(H:Hp)(b:Addr):Prop:=
 H b=none/\b≠X.env.locals/\b∉X.fs/\(b∈X.ex\/X.U0.heap.objs.size<=b)/\(∀x c,X.env.cells.lookup x=some c->c≠b)/\∀p∈X.pn++pins,p.1≠b
theorem Inv.XR{X:Cx}{pins:List (Addr×Obj)}{σ:St}{H H':Hp}{s:Shared}{b:Addr}(I:Inv X pins σ H s)(hb:s.heap.objs.size<=b)(hn:H' b=none):Lk X pins H' b:=by
 refine⟨hn,JO (BH I.lt hb),I.AAc hb,.inr (Aw I.sz hb),λx c e z=>?_,λp hp z=>?_⟩
 ·obtain⟨v,q⟩:=I.cell x c e;exact absurd (BH q.lt (by rw[z];exact hb)) (DU _)
 ·exact absurd (BH (Az (I.pin p hp).1) (by rw[z];exact hb)) (DU _)
structure Turn(P:Program)(w:World)(K:PySem.W.Frag)(tg:Expr)(J:It)(fp:List Addr)(it:Addr)(tn:Nat->Heap->Prop):Prop where
 mem:it∈fp
 obj:∀i h,tn i h->∀b∈fp,∃o,h.get? b=some o/\∀v,o.data≠.cell v
 keep:∀i h h',tn i h->(∀b∈fp,∀o,h.get? b=some o->h'.get? b=some o)->tn i h'
 item:∀(X:Cx),X.prog=P->X.w=w->X.K=K->X.calm=true->∀(i:Nat)(pins:List (Addr×Obj))(s:Shared)(σ:St)(H:Hp)(E:Value->Shared->Prop),Inv X pins σ H s->(∀b∈fp,Lk X pins H b)->tn i s.heap->J.go i H->
  wpAny (model P w) X.A (pyNext (.ref it)) (λr s1=>∃u,r=some u/\
   wpAny (model P w) X.A (letOwnedTupleGo tg (.ref it) u) (λ_ s2=>∃x H',Inv X pins σ H' s2/\RelV x u/\J.Vk i H x H'/\tn (i+1) s2.heap/\∀b∈fp,H' b=none) E s1) E s
 done:∀(X:Cx),X.prog=P->X.w=w->X.K=K->X.calm=true->∀(i:Nat)(pins:List (Addr×Obj))(s:Shared)(σ:St)(H:Hp)(E:Value->Shared->Prop),Inv X pins σ H s->(∀b∈fp,Lk X pins H b)->tn i s.heap->J.stop i H->
  wpAny (model P w) X.A (pyNext (.ref it)) (λr s1=>r=none/\Inv X pins σ H s1) E s
 self:∀(A:Around)(i:Nat)(s:Shared)(Q:Value->Shared->Prop)(E:Value->Shared->Prop),tn i s.heap->Q (.ref it) s->wpAny (model P w) A (pyIter (.ref it)) Q E s
abbrev TI:=St->Hp->(It->Hp->Prop)->Prop
def zv(X:Cx)(pins:List (Addr×Obj))(σ:St)(tg:Expr)(R:It->Hp->Prop)(itv:Value)(s2:Shared):Prop:=
 ∃(it:Addr)(fp:List Addr)(tn:Nat->Heap->Prop)(J:It)(H':Hp),itv=.ref it/\Inv X pins σ H' s2/\Turn X.prog X.w X.K tg J fp it tn/\tn 0 s2.heap/\(∀b∈fp,Lk X pins H' b)/\R J H'
def PI(X:Cx)(tg iter:Expr)(wi:TI):Prop:=
 ∀(pins:List (Addr×Obj))(s:Shared)(σ:St)(H:Hp)(R:It->Hp->Prop),Inv X pins σ H s->wi σ H R->
  wpAny (model X.prog X.w) X.A (eval iter X.env) (λv s1=>wpAny (model X.prog X.w) X.A (pyIter v) (zv X pins σ tg R) X.xe s1) X.xe s
theorem oN{M:Model}{A:Around}{E:Value->Shared->Prop}{s:Shared}{tg:Expr}{it:Addr}{u:Value}{o:Obj}{n:String}{vs:Array Value}{Q:Unit->Shared->Prop}(ho:s.heap.get? it=some o)(hc:o.cls=.type n)(hd:o.data=.fields vs)
 (hn:["enumerate","zip","dict_itemiterator","dict_reverseitemiterator","odict_iterator","itertools.zip_longest","itertools.pairwise"].contains n=false) (hQ:Q () s):wpAny M A (letOwnedTupleGo tg (.ref it) u) Q E s:=by
 unfold letOwnedTupleGo;cases tg<;>first
  |exact BA hQ
  |(cases u<;>first
      |exact BA hQ
      |(refine AH (wpAny_load ho ?_)
        rw[hc,hd];show wpAny M A (if(["enumerate","zip","dict_itemiterator","dict_reverseitemiterator","odict_iterator","itertools.zip_longest","itertools.pairwise"].contains n&&vs[0]?==some (rawInt _))=true then _ else _) Q E s;rw[AI (by intro h;rw[hn,Dc]at h;cases h)];exact BA hQ))
def ON(K:PySem.W.Frag)(a:Addr):It:=
 ⟨λi H=>∃xs x,A1 K H a xs/\xs[i]?=some x,λi H x H'=>H'=H/\∀xs,A1 K H a xs->xs[i]?=some x,λi H=>∃xs,A1 K H a xs/\xs.length<=i⟩
def dg(lo:Int)(n:Nat):It:=⟨λi _=>i<n,λi H x H'=>H'=H/\x=.int (lo+i),λi _=>n<=i⟩
theorem Z9{P:Program}{w:World}{K:PySem.W.Frag}{tg:Expr}(a it:Addr):Turn P w K tg (ON K a) [it] it (λi h=>h.IsListIter it a i) where
 mem:=by simp
 obj:=λi h st b hb=>by
  have e:b=it:=by simpa using hb
  subst e;obtain⟨o,e,c,d⟩:=st;exact⟨o,e,λv z=>by rw[d]at z;cases z⟩
 keep:=λi h h' st k=>st.at λo e=>k it (by simp) o e
 item:=by
  intro X hP hw hK hc i pins s σ H E I hf st hg;subst hP hw hK;obtain⟨xs,x,hq,hx⟩:=hg;obtain⟨its,rv,p,hz⟩:=I.list hq;obtain⟨u,hu,ru⟩:=rv.get hx;obtain⟨f0,f1,f2,f3,f4,f5⟩:=hf it (by simp);refine wpAny_pyNext_list_item st p.isList (x:=u) (by simpa using hu) λh' st' sb=>?_;have I1:Inv X pins σ H {s with heap:=h'}:=I.turned (t':=s.toks) (λb o hb e=>(sb.2 b hb).trans e) f0 f1 f3 f4 f5;obtain⟨o,e,c,d⟩:=id st';exact⟨u,U,oN (s:={s with heap:=h'}) e c d (by decide) ⟨x,H,I1,ru,⟨U,λys hy=>by rw[I.UR hy hq];exact hx⟩,st',λb hb=>(hf b hb).1⟩⟩
 done:=by
  intro X hP hw hK hc i pins s σ H E I hf st hg;subst hP hw hK;obtain⟨xs,hq,hx⟩:=hg;obtain⟨its,rv,p,hz⟩:=I.list hq;obtain⟨f0,f1,f2,f3,f4,f5⟩:=hf it (by simp);have hl:=rv.length;exact wpAny_pyNext_list_end (I.ok.hd hc) st p.isList (by simp;omega) λh' eb=>⟨U,I.turned (t':=s.toks) (λb o hb e=>eb b o hb e) f0 f1 f3 f4 f5⟩
 self:=λ_ _ _ _ _ st h=>wpAny_pyIter_listiter st h
theorem i6{P:Program}{w:World}{K:PySem.W.Frag}{tg:Expr}(it:Addr)(lo:Int)(n:Nat):Turn P w K tg (dg lo n) [it] it (λi h=>IsRangeIter h it (lo+(i:Nat)*1) ((n:Int)-(i:Nat)) 1) where
 mem:=by simp
 obj:=λi h st b hb=>by
  have e:b=it:=by simpa using hb
  subst e;exact⟨_,st,λv z=>by
   have z':Data.fields _=Data.cell v:=z;cases z'⟩
 keep:=λi h h' st k=>k it (by simp) _ st
 item:=by
  intro X hP hw hK hc i pins s σ H E I hf st hg;subst hP hw hK;obtain⟨f0,f1,f2,f3,f4,f5⟩:=hf it (by simp);have W:=Walks.range (prog:=X.prog) (w:=X.w) (I.ok.hd hc) it lo 1 n;refine W.item i s _ _ hg st λv h' tk hv st' kk=>?_;obtain⟨t,rfl⟩:=hv;have I1:Inv X pins σ H {s with heap:=h',toks:=tk}:=I.turned (λb o hb e=>kk b o (by simpa using hb) e) f0 f1 f3 f4 f5;refine⟨_,U,oN (s:={s with heap:=h',toks:=tk}) (n:="range_iterator") st' U rfl (by decide) ⟨.int (lo+i),H,I1,⟨t,?_⟩,⟨U,U⟩,st',λb hb=>(hf b hb).1⟩⟩;rw[Int.mul_one]
 done:=by
  intro X hP hw hK hc i pins s σ H E I hf st hg;subst hP hw hK;obtain⟨f0,f1,f2,f3,f4,f5⟩:=hf it (by simp);exact Oq (I.ok.hd hc) st (by have:n<=i:=hg;omega) λh' eb=>⟨U,I.turned (t':=s.toks) (λb o hb e=>eb b o hb e) f0 f1 f3 f4 f5⟩
 self:=λ_ _ _ _ _ st h=>Ot st h
end L2
namespace L2
open PySem PySem.Spec PyProof.Rows
section
variable{X:Cx}{tg:Expr}
inductive XiL(K:PySem.W.Frag)(x:V)(H1:Hp)(R:It->Hp->Prop):Prop
 |mk(a:_)(h0:x=.ref a)(h1:(∃xs,A1 K H1 a xs))(h2:R (ON K a) H1)
def oO(K:PySem.W.Frag)(tl:TE):TI:=λσ H R=>tl σ H λx H1=>XiL K x H1 R
theorem Bx{l:Expr}{tl:TE}(hl:PE X l tl):PI X tg l (oO X.K tl):=by
 intro pins s σ H R I h;refine DQ (hl pins s σ H _ I h) λv s1 ⟨x,H1,I1,r1,q1⟩=>?_;obtain⟨a,e,⟨xs,hq⟩,q⟩:=q1;subst e;cases r1;obtain⟨its,rv,p,hz⟩:=I1.list hq;refine Gm p.isList ?_;refine⟨s1.heap.objs.size,[s1.heap.objs.size],_,_,H1,U,I1.kept (t':=s1.toks) λb o e=>Ae _ e,Z9 a _,⟨_,A9 _ U,U,U⟩,λb hb=>?_,q⟩;have e:b=s1.heap.objs.size:=by simpa using hb
 subst e;exact I1.XR (AU _) (I1.hok.fresh (AU _))
theorem qL{pins:List (Addr×Obj)}{σ:St}{H:Hp}{s:Shared}{R:It->Hp->Prop}{E:Value->Shared->Prop}{lo hi:Int}{t u v:Tok}{tk:Nat}(I:Inv X pins σ H s)(h1:-(2^62)<=lo)(h2:lo<2^62)(h3:-(2^62)<=hi)(h4:hi<2^62)
 (q:R (dg lo (hi-lo).toNat) H):wpAny (model X.prog X.w) X.A (pyIter (.ref s.heap.objs.size)) (zv X pins σ tg R) E {s with heap:=s.heap.push {cls:=.type "range",data:=.fields #[.int lo t,.int hi u,.int 1 v]},toks:=tk}:=by
 refine UG (IsRange.new ..) (small_one h1 h2 h3 h4) ?_;have I1:Inv X pins σ H {s with heap:=s.heap.push {cls:=.type "range",data:=.fields #[.int lo t,.int hi u,.int 1 v]},toks:=tk}:=I.kept λb o e=>Ae _ e;refine⟨(s.heap.push {cls:=.type "range",data:=.fields #[.int lo t,.int hi u,.int 1 v]}).objs.size,[(s.heap.push {cls:=.type "range",data:=.fields #[.int lo t,.int hi u,.int 1 v]}).objs.size],_,_,H,U,
  I1.kept (t':=tk) λb o e=>Ae _ e,i6 _ lo (hi-lo).toNat,?_,λb hb=>?_,q⟩
 ·have e1:lo+((0:Nat):Int)*1=lo:=by simp
  have e2:(((hi-lo).toNat:Nat):Int)-((0:Nat):Int)=Builtin.Range.rangeSize lo hi 1:=by rw[rangeSize_one];split<;>omega
  show IsRangeIter _ _ (lo+((0:Nat):Int)*1) ((((hi-lo).toNat:Nat):Int)-((0:Nat):Int)) 1;rw[e1,e2];exact A9 _ U
 ·have e:b=(s.heap.push {cls:=.type "range",data:=.fields #[.int lo t,.int hi u,.int 1 v]}).objs.size:=by simpa using hb
  subst e;exact I1.XR (AU _) (I1.hok.fresh (AU _))
inductive XiR(vs:List V)(H1:Hp)(R:It->Hp->Prop):Prop
 |mk(j:Int)(h0:vs=[.int j])(h1:-(2^62)<=j)(h2:j<2^62)(h3:R (dg 0 j.toNat) H1)
def zJ(ta:TA):TI:=λσ H R=>ta σ H λvs H1=>XiR vs H1 R
theorem Na{a:Expr}{ta:TA}{p pos:Pos}(hg:Gl X "range")(hm:X.mg "range"=none)(ha:PA X [a] ta)(hs:starEach [a] X.env=[(false,eval a X.env)]:=by rfl):PI X tg (.Call (.Name "range" p) [a] [] pos) (zJ ta):=by
 intro pins s σ H R I h;refine Zg (Km I hg hm boot_range (B7 (DQ (ha pos pins s σ H _ I h) λus s1 ⟨vs,H1,I1,r1,q1⟩=>?_) hs U));obtain⟨j,e,q1,q2,q⟩:=q1;subst e;cases r1 with
 |cons r rr=>
  cases rr;obtain⟨t,rfl⟩:=r;exact call_range_1 (qL I1 (by omega) (by omega) q1 q2 (by simpa using q))
def vL(wi:TI)(g:TG)(tb:TS):TS:=λD σ H=>wi σ H λJ H1=>∃W:Nat->Nat->St->Hp->Prop,(∃m,W 0 m σ H1)/\∀i m σ H,W i m σ H->
 (J.stop i H/\D.nx σ H)\/(J.go i H/\∃N:St->Hp->Prop,(∀σ' H',N σ' H'->∃m',m'<m/\W (i+1) m' σ' H')/\∀x H',J.Vk i H x H'->g x σ H' λσ2 H2=>tb {D with nx:=N,ct:=N,bk:=D.nx} σ2 H2)
def X3(fp:List Addr)(h:Heap):List (Addr×Obj):=fp.filterMap λb=>(h.get? b).map λo=>(b,o)
theorem N5{fp:List Addr}{h:Heap}{b:Addr}{o:Obj}(hb:b∈fp)(e:h.get? b=some o):(b,o)∈X3 fp h:=UH.mpr ⟨b,hb,by rw[e];rfl⟩
theorem ly{fp:List Addr}{h:Heap}{p:Addr×Obj}(hp:p∈X3 fp h):p.1∈fp/\h.get? p.1=some p.2:=by
 obtain⟨b,hb,e⟩:=UH.mp hp;cases q:h.get? b with
 |none=>rw[q]at e;cases e
 |some o=>
  rw[q]at e;have e':(b,o)=p:=BB e;subst e';exact⟨hb,q⟩
theorem Inv.pinned{pins:List (Addr×Obj)}{σ:St}{H:Hp}{s:Shared}{fp:List Addr}(I:Inv X pins σ H s)(hf:∀b∈fp,Lk X pins H b)(ho:∀b∈fp,∃o,s.heap.get? b=some o/\∀v,o.data≠.cell v):Inv X (pins++X3 fp s.heap) σ H s:=
 I.ju λp hp=>(AQ.mp hp).elim (λz=>I.pin p (BD _ z)) λz=>by
   obtain⟨hb,e⟩:=ly z;obtain⟨f0,f1,f2,_⟩:=hf p.1 hb;obtain⟨o,e',d⟩:=ho p.1 hb;rw[e]at e';cases e';exact⟨e,f0,f1,f2,d⟩
theorem Inv.PY{pins pl:List (Addr×Obj)}{σ:St}{H:Hp}{s:Shared}(I:Inv X (pins++pl) σ H s):Inv X pins σ H s:=I.ju λp hp=>I.pin p (BD _ (CK _ hp))
theorem EK{iter:Expr}{body:List Stmt}{wi:TI}{g:TG}{tb:TS}{pos:Pos}(hp:PassesOwn (model X.prog X.w) X.A X.env X.xe)(hc:X.calm=true)(hi:PI X tg iter wi)(hg:PG X tg g)(hb:Z8 X body tb)
 (hs:∀x,foldedSetIterable iter X.env x=pure x:=by intro _;rfl):PS X (.For tg iter body [] pos) (vL wi g tb):=by
 intro pins s σ H D I h;refine wpAny_For (DQ (hi pins s σ H _ I h) λv s1 h1=>DQ h1 λitv s2 h2=>?_) hs;obtain⟨it,fp,tn,J,H2,e,I2,T,st2,f2,W,⟨m0,w0⟩,turn⟩:=h2;subst e;have dW:∀{H':Hp},(∀b∈fp,H' b=none)->∀b∈fp,Lk X pins H' b:=λhn b hb=>⟨hn b hb,(f2 b hb).2⟩;refine codeAny_forLoop_any (λn s'=>∃i σ' H',Inv X pins σ' H' s'/\tn i s'.heap/\(∀b∈fp,H' b=none)/\W i n σ' H') ?_ m0 ⟨0,σ,H2,I2,st2,λb hb=>(f2 b hb).1,w0⟩;rintro n s3 ⟨i,σ3,H3,I3,st3,fr3,w3⟩;rcases turn i n σ3 H3 w3 with ⟨stop,qn⟩|⟨go,N,hN,step⟩
 ·refine E_ hp (DQ (T.done X U rfl rfl hc i pins s3 σ3 H3 X.xe I3 (dW fr3) st3 stop) λr s4 ⟨hr,I4⟩=>?_);subst hr;exact K0 ⟨σ3,H3,I4,qn⟩
 ·refine E_ hp (DQ (T.item X U rfl rfl hc i pins s3 σ3 H3 X.xe I3 (dW fr3) st3 go) λr s4 ⟨u,hr,h4⟩=>?_);subst hr;refine E_ hp (DQ h4 λ_ s5 ⟨x,H5,I5,r5,y5,st5,fr5⟩=>?_);have I5':=I5.pinned (dW fr5) (T.obj _ _ st5);refine E_ hp (DQ (hg _ s5 σ3 H5 x u _ I5' r5 (step x H5 y5)) λ_ s6 ⟨σ6,H6,I6,q6⟩=>?_);refine E_ hp (DQ (hb _ s6 σ6 H6 _ I6 q6) λf s7 q7=>?_);have again:∀{iD:St}{H7:Hp},Inv X (pins++X3 fp s5.heap) iD H7 s7->N iD H7->∃m,m<n/\∃i σ' H',Inv X pins σ' H' s7/\tn i s7.heap/\(∀b∈fp,H' b=none)/\W i m σ' H':=λ{iD H7} I7 n7=>by
   obtain⟨m',hm,w7⟩:=hN iD H7 n7;refine⟨m',hm,i+1,iD,H7,I7.PY,T.keep _ _ _ st5 λb hb o e=>(I7.pin (b,o) (BD _ (BD _ (N5 hb e)))).1,λb hb=>?_,w7⟩;obtain⟨o,e,d⟩:=T.obj _ _ st5 b hb;exact(I7.pin (b,o) (BD _ (BD _ (N5 hb e)))).2.1
  cases f with
  |next=>obtain⟨iD,H7,I7,n7⟩:=q7;exact again I7 n7
  |cont=>obtain⟨iD,H7,I7,n7⟩:=q7;exact again I7 n7
  |brk=>obtain⟨iD,H7,I7,q7⟩:=q7;exact⟨iD,H7,I7.PY,q7⟩
  |ret v=>obtain⟨x7,iD,H7,I7,r7,q7⟩:=q7;exact⟨x7,iD,H7,I7.PY,r7,q7⟩
end
theorem FT{K:PySem.W.Frag}{a:Addr}{xs:List V}{g:TG}{tb:TS}{D:Ends}{σ:St}{H:Hp}(Pv:Nat->St->Hp->Prop)(h0:Pv 0 σ H)(hl:∀i σ H,i<=xs.length->Pv i σ H->A1 K H a xs)
 (hs:∀i x σ H,xs[i]?=some x->Pv i σ H->g x σ H λσ2 H2=>tb {D with nx:=Pv (i+1),ct:=Pv (i+1),bk:=D.nx} σ2 H2) (hd:∀σ H,Pv xs.length σ H->D.nx σ H):
 ∃W:Nat->Nat->St->Hp->Prop,(∃m,W 0 m σ H)/\∀i m σ H,W i m σ H->
  ((ON K a).stop i H/\D.nx σ H)\/((ON K a).go i H/\∃N:St->Hp->Prop,(∀σ' H',N σ' H'->∃m',m'<m/\W (i+1) m' σ' H')/\∀x H',(ON K a).Vk i H x H'->g x σ H' λσ2 H2=>tb {D with nx:=N,ct:=N,bk:=D.nx} σ2 H2):=by
 refine⟨λi m σ H=>m=xs.length-i/\i<=xs.length/\Pv i σ H,⟨xs.length,by simp,AY _,h0⟩,?_⟩;rintro i m σ H ⟨rfl,hi,p⟩;have q:=hl i σ H hi p;by_cases hlt:i<xs.length
 ·refine .inr ⟨⟨xs,xs[i],q,by simp[hlt]⟩,Pv (i+1),λσ' H' p'=>⟨xs.length-(i+1),by omega,U,hlt,p'⟩,λx H' y=>?_⟩;obtain⟨e,y⟩:=y;subst e;exact hs i x σ _ (y xs q) p
 ·have e:i=xs.length:=by omega
  subst e;exact .inl ⟨⟨xs,q,AU _⟩,hd σ H p⟩
theorem Z_{lo:Int}{n:Nat}{g:TG}{tb:TS}{D:Ends}{σ:St}{H:Hp}(Pv:Nat->St->Hp->Prop)(h0:Pv 0 σ H)
 (hs:∀i σ H,i<n->Pv i σ H->g (.int (lo+i)) σ H λσ2 H2=>tb {D with nx:=Pv (i+1),ct:=Pv (i+1),bk:=D.nx} σ2 H2) (hd:∀σ H,Pv n σ H->D.nx σ H):
 ∃W:Nat->Nat->St->Hp->Prop,(∃m,W 0 m σ H)/\∀i m σ H,W i m σ H->
  ((dg lo n).stop i H/\D.nx σ H)\/((dg lo n).go i H/\∃N:St->Hp->Prop,(∀σ' H',N σ' H'->∃m',m'<m/\W (i+1) m' σ' H')/\∀x H',(dg lo n).Vk i H x H'->g x σ H' λσ2 H2=>tb {D with nx:=N,ct:=N,bk:=D.nx} σ2 H2):=by
 refine⟨λi m σ H=>m=n-i/\i<=n/\Pv i σ H,⟨n,by simp,AY _,h0⟩,?_⟩;rintro i m σ H ⟨rfl,hi,p⟩;by_cases hlt:i<n
 ·refine .inr ⟨hlt,Pv (i+1),λσ' H' p'=>⟨n-(i+1),by omega,U,hlt,p'⟩,λx H' y=>?_⟩;obtain⟨e,y⟩:=y;subst e y;exact hs i σ _ hlt p
 ·have e:i=n:=by omega
  subst e;exact .inl ⟨AU _,hd σ H p⟩
end L2
namespace L2
open PySem PySem.Spec PyProof.Rows
abbrev R2:=V->V->Hp->VK->Prop
def RO(X:Cx)(f:Value->Value->Sem Value)(r:R2):Prop:=
 ∀(pins:List (Addr×Obj))(s:Shared)(σ:St)(H:Hp)(x y:V)(v u:Value)(Q:VK),Inv X pins σ H s->RelV x v->RelV y u->r x y H Q->
  wpAny (model X.prog X.w) X.A (f v u) (EP X pins σ Q) X.xe s
def zy(X:Cx)(f:Value->Sem Value)(r:V->Hp->VK->Prop):Prop:=
 ∀(pins:List (Addr×Obj))(s:Shared)(σ:St)(H:Hp)(x:V)(v:Value)(Q:VK),Inv X pins σ H s->RelV x v->r x H Q->
  wpAny (model X.prog X.w) X.A (f v) (EP X pins σ Q) X.xe s
def RV(X:Cx)(f:Value)(r:List V->Hp->VK->Prop):Prop:=
 ∀(pins:List (Addr×Obj))(s:Shared)(σ:St)(H:Hp)(xs:List V)(us:List Value)(Q:VK),Inv X pins σ H s->Vals xs us->r xs H Q->
  wpAny (model X.prog X.w) X.A (call f us) (EP X pins σ Q) X.xe s
def L6(r:R2)(ta tb:TE):TE:=λσ H Q=>ta σ H λx H1=>tb σ H1 λy H2=>r x y H2 Q
def tUn(r:V->Hp->VK->Prop)(ta:TE):TE:=λσ H Q=>ta σ H λx H1=>r x H1 Q
inductive XI(C:Int->Int->Prop)(g:Int->Int->V)(x y:V)(H:Hp)(Q:VK):Prop
 |mk(i:_)(j:_)(h0:x=.int i)(h1:y=.int j)(h2:C i j)(h3:Q (g i j) H)
def rI(C:Int->Int->Prop)(g:Int->Int->V):R2:=λx y H Q=>XI C g x y H Q
inductive XI0(g:Int->Int->V)(x y:V)(H:Hp)(Q:VK):Prop
 |mk(i:_)(j:_)(h0:x=.int i)(h1:y=.int j)(h2:Q (g i j) H)
def aA(g:Int->Int->V):R2:=λx y H Q=>XI0 g x y H Q
inductive XU(g:Int->V)(x:V)(H:Hp)(Q:VK):Prop
 |mk(i:_)(h0:x=.int i)(h1:Q (g i) H)
def rU(g:Int->V):V->Hp->VK->Prop:=λx H Q=>XU g x H Q
section
variable{X:Cx}{a b c:Expr}{ta tb tc:TE}{pos:Pos}
theorem vM(ha:PE X a ta)(hb:PE X b tb){pins:List (Addr×Obj)}{s:Shared}{σ:St}{H:Hp}{R:V->V->Hp->Prop}(I:Inv X pins σ H s)
 (h:ta σ H λx H1=>tb σ H1 λy H2=>R x y H2) {Q:Value->Shared->Prop} {f:Value->Value->Sem Value}
 (hf:∀v u s2 x y H2,Inv X pins σ H2 s2->RelV x v->RelV y u->R x y H2->wpAny (model X.prog X.w) X.A (f v u) Q X.xe s2):
 wpAny (model X.prog X.w) X.A (eval a X.env) (λv s₁=>wpAny (model X.prog X.w) X.A (eval b X.env) (λu s₂=>wpAny (model X.prog X.w) X.A (f v u) Q X.xe s₂) X.xe s₁) X.xe s:=by
 refine DQ (ha pins s σ H _ I h) λv s1 ⟨x,H1,I1,r1,q1⟩=>?_;refine DQ (hb pins s1 σ H1 _ I1 q1) λu s2 ⟨y,H2,I2,r2,q2⟩=>?_;exact hf v u s2 x y H2 I2 r1 r2 q2
theorem CA{op:Operator}{r:R2}(ho:RO X (binaryOp op) r)(ha:PE X a ta)(hb:PE X b tb):PE X (.BinOp a op b pos) (L6 r ta tb):=by
 intro pins s σ H Q I h;exact wpAny_BinOp (vM ha hb I h λv u s2 x y H2 I2 rx ry q=>ho pins s2 σ H2 x y v u Q I2 rx ry q)
theorem oQ{op:UnaryOp}{r:V->Hp->VK->Prop}(ho:zy X (unaryOp op) r)(ha:PE X a ta):PE X (.UnaryOp op a pos) (tUn r ta):=by
 intro pins s σ H Q I h;exact UnaryOp_ (DQ (ha pins s σ H _ I h) λv s1 ⟨x,H1,I1,r1,q1⟩=>ho pins s1 σ H1 x v Q I1 r1 q1)
theorem zz{f:Value->Value->Sem Value}{C:Int->Int->Prop}{g:Int->Int->Int}
 (rule:∀(i j:Int)(t u:Tok)(s:Shared)(Q:Value->Shared->Prop)(E:Value->Shared->Prop),C i j->Q (.int (g i j) s.toks) {s with toks:=s.toks+1}->wpAny (model X.prog X.w) X.A (f (.int i t) (.int j u)) Q E s):
 RO X f (rI C λi j=>.int (g i j)):=by
 intro pins s σ H x y v u Q I rx ry h;obtain⟨i,j,rfl,rfl,hc,q⟩:=h;obtain⟨t,rfl⟩:=rx;obtain⟨t',rfl⟩:=ry;exact rule i j t t' s _ _ hc ⟨.int (g i j),H,I.tok _,⟨_,U⟩,q⟩
theorem lz{f:Value->Value->Sem Value}{g:Int->Int->Int}
 (rule:∀(i j:Int)(t u:Tok)(s:Shared)(Q:Value->Shared->Prop)(E:Value->Shared->Prop),Q (.int (g i j) s.toks) {s with toks:=s.toks+1}->wpAny (model X.prog X.w) X.A (f (.int i t) (.int j u)) Q E s):
 RO X f (aA λi j=>.int (g i j)):=by
 intro pins s σ H x y v u Q I rx ry h;obtain⟨i,j,rfl,rfl,q⟩:=h;obtain⟨t,rfl⟩:=rx;obtain⟨t',rfl⟩:=ry;exact rule i j t t' s _ _ ⟨.int (g i j),H,I.tok _,⟨_,U⟩,q⟩
theorem rY{f:Value->Value->Sem Value}{g:Int->Int->Bool}
 (rule:∀(i j:Int)(t u:Tok)(s:Shared)(Q:Value->Shared->Prop)(E:Value->Shared->Prop),Q (.bool (g i j)) s->wpAny (model X.prog X.w) X.A (f (.int i t) (.int j u)) Q E s):
 RO X f (aA λi j=>.bl (g i j)):=by
 intro pins s σ H x y v u Q I rx ry h;obtain⟨i,j,rfl,rfl,q⟩:=h;obtain⟨t,rfl⟩:=rx;obtain⟨t',rfl⟩:=ry;exact rule i j t t' s _ _ ⟨.bl (g i j),H,I,U,q⟩
def vN(i j:Int):Prop:=(-(2^64)<i/\i<2^64)\/(-(2^64)<j/\j<2^64)
theorem vN.ok{i j:Int}(h:vN i j):IntMulOk i j:=by
 rcases h with ⟨h1,h2⟩|⟨h1,h2⟩
 ·exact .of_left (intBits_le_64 h1 h2)
 ·exact .of_right (intBits_le_64 h1 h2)
theorem EY:RO X (binaryOp .Add) (aA λi j=>.int (i+j)):=lz λ_ _ _ _ _ _ _ q=>add_int q
theorem iE:RO X (binaryOp .Sub) (aA λi j=>.int (i-j)):=lz λ_ _ _ _ _ _ _ q=>sub_int q
theorem iF:RO X (binaryOp .Mult) (rI vN λi j=>.int (i*j)):=zz λ_ _ _ _ _ _ _ hc q=>mul_int q hc.ok
theorem pB:RO X (binaryOp .Mod) (rI (λ_ j=>0<j) λi j=>.int (i%j)):=zz λi j _ _ _ _ _ hc q=>by
 have h1:(0:Int)<j:=hc;exact mod_int' (by omega) (by rw[Int.fmod_eq_emod_of_nonneg i (by omega)];exact q)
theorem iG:RO X (binaryOp .BitAnd) (aA λi j=>.int (Builtin.bitAnd i j)):=lz λ_ _ _ _ _ _ _ q=>and_int q
theorem ua:RO X (binaryOp .BitOr) (aA λi j=>.int (Builtin.bitOr i j)):=lz λ_ _ _ _ _ _ _ q=>or_int q
theorem wB:RO X (binaryOp .BitXor) (aA λi j=>.int (Builtin.bitXor i j)):=lz λ_ _ _ _ _ _ _ q=>xor_int q
theorem unI{f:Value->Sem Value}{g:Int->Int}
 (rule:∀(i:Int)(t:Tok)(s:Shared)(Q:Value->Shared->Prop)(E:Value->Shared->Prop),Q (.int (g i) s.toks) {s with toks:=s.toks+1}->wpAny (model X.prog X.w) X.A (f (.int i t)) Q E s):
 zy X f (rU λi=>.int (g i)):=by
 intro pins s σ H x v Q I rx h;obtain⟨i,rfl,q⟩:=h;obtain⟨t,rfl⟩:=rx;exact rule i t s _ _ ⟨.int (g i),H,I.tok _,⟨_,U⟩,q⟩
theorem iH:zy X (unaryOp .USub) (rU λi=>.int (-i)):=unI λ_ _ _ _ _ q=>neg_int q
end
def yV:V->V->Bool
 | .DX,.DX=>true| .DX,.int _=>true| .int _,.DX=>true| .DX,.bl _=>true| .bl _,.DX=>true| .DX,.str _=>true| .str _,.DX=>true
 | .int _,.int _=>true| .bl _,.bl _=>true| .str _,.str _=>true| .Yr _,.Yr _=>true
 | .int _,.str _=>true| .str _,.int _=>true| .bl _,.str _=>true| .str _,.bl _=>true
 |_,_=>false
def uc:R2:=λx y H Q=>yV x y=true/\Q (.bl (decide (x=y))) H
def rNe:R2:=λx y H Q=>yV x y=true/\Q (.bl (!decide (x=y))) H
theorem jx{i j:Int}:decide (V.int i=V.int j)=(i==j):=by
 rw[FA];simp
theorem pC{i j:Bool}:decide (V.bl i=V.bl j)=(i==j):=by
 rw[FA];simp
theorem jy{i j:Str}:decide (V.str i=V.str j)=(i==j):=by
 rw[FA];simp
theorem jz{i j:Array UInt8}:decide (V.Yr i=V.Yr j)=(i.toList==j.toList):=by
 rw[FA];cases i;cases j;simp
section
variable{X:Cx}{a b c:Expr}{ta tb tc:TE}{pos:Pos}
theorem Cy{pins:List (Addr×Obj)}{σ:St}{H:Hp}{s:Shared}{Q:VK}{k k':Bool}(I:Inv X pins σ H s)(q:Q (.bl k) H)(e:k=k'):EP X pins σ Q (.bool k') s:=by
 subst e;exact⟨.bl k,H,I,U,q⟩
theorem E7:RO X (compareOp .Eq) uc:=by
 intro pins s σ H x y v u Q I rx ry h;obtain⟨hs,q⟩:=h;cases x with
 |DX=>
  cases rx;cases y with
  |DX=>cases ry;exact PySem.EqNone.eq_none_none (Cy I q (by simp))
  |bl j=>cases ry;exact PySem.EqNone.eq_none_bool (Cy I q (by simp))
  |int j=>obtain⟨t',rfl⟩:=ry;exact PySem.EqNone.eq_none_int (Cy I q (by simp))
  |str j=>obtain⟨t',rfl⟩:=ry;exact PySem.EqNone.eq_none_str (Cy I q (by simp))
  |_=>exact absurd (show false=true from hs) Au
 |bl i=>
  cases rx;cases y with
  |DX=>cases ry;exact PySem.EqNone.eq_bool_none (Cy I q (by simp))
  |bl j=>cases ry;exact eq_bool (Cy I q pC)
  |str j=>obtain⟨t',rfl⟩:=ry;exact PySem.EqMixed.eq_bool_str (Cy I q (by simp))
  |_=>exact absurd (show false=true from hs) Au
 |int i=>
  obtain⟨t,rfl⟩:=rx;cases y with
  |DX=>cases ry;exact PySem.EqNone.eq_int_none (Cy I q (by simp))
  |int j=>obtain⟨t',rfl⟩:=ry;exact eq_int (Cy I q jx)
  |str j=>obtain⟨t',rfl⟩:=ry;exact PySem.EqMixed.eq_int_str (Cy I q (by simp))
  |_=>exact absurd (show false=true from hs) Au
 |str i=>
  obtain⟨t,rfl⟩:=rx;cases y with
  |DX=>cases ry;exact PySem.EqNone.eq_str_none (Cy I q (by simp))
  |bl j=>cases ry;exact PySem.EqMixed.eq_str_bool (Cy I q (by simp))
  |int j=>obtain⟨t',rfl⟩:=ry;exact PySem.EqMixed.eq_str_int (Cy I q (by simp))
  |str j=>obtain⟨t',rfl⟩:=ry;exact eq_str (Cy I q jy)
  |_=>exact absurd (show false=true from hs) Au
 |Yr i=>
  obtain⟨t,rfl⟩:=rx;cases y with
  |Yr j=>obtain⟨t',rfl⟩:=ry;exact PySem.W.eq_bytes (Cy I q jz)
  |_=>exact absurd (show false=true from hs) Au
 |_=>cases y<;>exact absurd (show false=true from hs) Au
theorem U3:RO X (compareOp .NotEq) rNe:=by
 intro pins s σ H x y v u Q I rx ry h;obtain⟨hs,q⟩:=h;cases x with
 |DX=>
  cases rx;cases y with
  |DX=>cases ry;exact PySem.EqNone.ne_none_none (Cy I q (by simp))
  |bl j=>cases ry;exact PySem.EqNone.ne_none_bool (Cy I q (by simp))
  |int j=>obtain⟨t',rfl⟩:=ry;exact PySem.EqNone.ne_none_int (Cy I q (by simp))
  |str j=>obtain⟨t',rfl⟩:=ry;exact PySem.EqNone.ne_none_str (Cy I q (by simp))
  |_=>exact absurd (show false=true from hs) Au
 |bl i=>
  cases rx;cases y with
  |DX=>cases ry;exact PySem.EqNone.ne_bool_none (Cy I q (by simp))
  |bl j=>cases ry;exact ne_bool (Cy I q (B5 not pC))
  |str j=>obtain⟨t',rfl⟩:=ry;exact PySem.EqMixed.ne_bool_str (Cy I q (by simp))
  |_=>exact absurd (show false=true from hs) Au
 |int i=>
  obtain⟨t,rfl⟩:=rx;cases y with
  |DX=>cases ry;exact PySem.EqNone.ne_int_none (Cy I q (by simp))
  |int j=>obtain⟨t',rfl⟩:=ry;exact ne_int (Cy I q (B5 not jx))
  |str j=>obtain⟨t',rfl⟩:=ry;exact PySem.EqMixed.ne_int_str (Cy I q (by simp))
  |_=>exact absurd (show false=true from hs) Au
 |str i=>
  obtain⟨t,rfl⟩:=rx;cases y with
  |DX=>cases ry;exact PySem.EqNone.ne_str_none (Cy I q (by simp))
  |bl j=>cases ry;exact PySem.EqMixed.ne_str_bool (Cy I q (by simp))
  |int j=>obtain⟨t',rfl⟩:=ry;exact PySem.EqMixed.ne_str_int (Cy I q (by simp))
  |str j=>obtain⟨t',rfl⟩:=ry;exact ne_str (Cy I q (B5 not jy))
  |_=>exact absurd (show false=true from hs) Au
 |Yr i=>
  obtain⟨t,rfl⟩:=rx;cases y with
  |Yr j=>obtain⟨t',rfl⟩:=ry;exact PySem.W.ne_bytes (Cy I q (B5 not jz))
  |_=>exact absurd (show false=true from hs) Au
 |_=>cases y<;>exact absurd (show false=true from hs) Au
theorem RW:RO X (compareOp .Lt) (aA λi j=>.bl (decide (i<j))):=rY λ_ _ _ _ _ _ _ q=>lt_int q
theorem iU:RO X (compareOp .LtE) (aA λi j=>.bl (decide (i<=j))):=rY λ_ _ _ _ _ _ _ q=>le_int q
theorem K_:RO X (compareOp .Gt) (aA λi j=>.bl (decide (j<i))):=rY λ_ _ _ _ _ _ _ q=>gt_int q
theorem Zd:RO X (compareOp .GtE) (aA λi j=>.bl (decide (j<=i))):=rY λ_ _ _ _ _ _ _ q=>ge_int q
theorem wC:RO X (compareOp .Is) (λx y H Q=>y=.DX/\Q (.bl (decide (x=.DX))) H):=by
 intro pins s σ H x y v u Q I rx ry h;obtain⟨rfl,q⟩:=h;cases ry;refine is_none_gen (Cy I q ?_);cases x<;>first
  |(cases rx;rfl)
  |(obtain⟨t,rfl⟩:=rx;rfl)
theorem pD(b:Expr){op:CmpOp}(h:op≠.In:=by decide)(h2:op≠.NotIn:=by decide):behindInMarks op b=false:=by
 have e1:(op==CmpOp.In)=false:=by cases op<;>first|rfl|exact absurd rfl h
 have e2:(op==CmpOp.NotIn)=false:=by cases op<;>first|rfl|exact absurd rfl h2
 cases b<;>simp[behindInMarks,e1,e2]
theorem Iv{op:CmpOp}{r:R2}(ho:RO X (compareOp op) r)(ha:PE X a ta)(hb:PE X b tb)(hm:behindInMarks op b=false:=by exact pD _):PE X (.Compare a [op] [b] pos) (L6 r ta tb):=by
 intro pins s σ H Q I h;exact wpAny_Compare1 (vM ha hb I h λv u s2 x y H2 I2 rx ry q=>ho pins s2 σ H2 x y v u Q I2 rx ry q) hm
def XJ(t:TE):TT:=λσ H Q=>t σ H λx H'=>XB x H' Q
theorem BX{op:CmpOp}{r:R2}(ho:RO X (compareOp op) r)(ha:PE X a ta)(hb:PE X b tb)(hm:behindInMarks op b=false:=by exact pD _):PT X (.Compare a [op] [b] pos) (XJ (L6 r ta tb)):=by
 intro pins s σ H Q I h;refine Pg (DQ (ha pins s σ H _ I h) λv s1 ⟨x,H1,I1,r1,q1⟩=>DQ (hb pins s1 σ H1 _ I1 q1) λu s2 ⟨y,H2,I2,r2,q2⟩=>
  DQ (ho pins s2 σ H2 x y v u _ I2 r1 r2 q2) λc s3 ⟨z,H3,I3,r3,k,e,q3⟩=>?_) hm
 subst e;cases r3;exact Mr ⟨H3,I3,q3⟩
theorem aB:(sizeLine:Nat)<2^63:=by rw[D7];decide
theorem vals1{x:V}{us:List Value}(r:Vals [x] us):∃u,us=[u]/\RelV x u:=by
 cases r with
 |cons r1 r2=>cases r2;exact⟨_,U,r1⟩
theorem vals2{x y:V}{us:List Value}(r:Vals [x,y] us):∃u w',us=[u,w']/\RelV x u/\RelV y w':=by
 cases r with
 |cons r1 r2=>
  cases r2 with
  |cons r3 r4=>cases r4;exact⟨_,_,U,r1,r3⟩
theorem qN:RV X (.builtin "abs") (λxs H Q=>∃i,xs=[.int i]/\Q (.int (if i<0 then-i else i)) H):=by
 intro pins s σ H xs us Q I r h;obtain⟨i,rfl,q⟩:=h;obtain⟨u,rfl,t,rfl⟩:=vals1 r;exact call_abs_int λu tk=>⟨.int (if i<0 then-i else i),H,I.tok _,⟨_,U⟩,q⟩
theorem l9(hc:X.calm=true):RV X (.builtin "max") (λxs H Q=>∃i j,xs=[.int i,.int j]/\Q (.int (if j>i then j else i)) H):=by
 intro pins s σ H xs us Q I r h;obtain⟨i,j,rfl,q⟩:=h;obtain⟨u,w',rfl,⟨t,rfl⟩,⟨t',rfl⟩⟩:=vals2 r;refine max_two_ints (I.ok.hd hc) λh' tk k=>⟨_,H,I.kept k,?_,q⟩;by_cases hj:j>i
 ·rw[AJ hj,AJ hj];exact⟨_,U⟩
 ·rw[AI hj,AI hj];exact⟨_,U⟩
end
end L2
namespace L2
open PySem PySem.Spec PyProof.Rows
structure iV(h:Heap)(x dx C:Addr)(mA:Str->Option Value):Prop where
 obj:h.get? x=some (PySem.W.instObj C dx)
 ns:h.Ns1 dx mA
 ne:dx≠x
theorem l_{h:Heap}{dx:Addr}{mA:Str->Option Value}(n:h.Ns1 dx mA):∃od,h.get? dx=some od/\∀name,PySem.W.lookIn name od=some (mA name):=by
 obtain⟨o,es,ep,ho,hd,hk,_,hm⟩:=n;refine⟨o,ho,λname=>?_⟩;have e:=hm name;unfold nsFind findBy at e;rw[<-Array.find?_toList]at e;unfold PySem.W.lookIn;rw[hd];dsimp only
 split
 ·rename_i y q;rw[q]at e;exact B5 some e
 ·rename_i q;rw[q]at e;have a:es.toList.any (·.refKey)=false:=by
   rw[List.any_eq_false];intro y hy;obtain⟨z,t,hkey⟩:=hk y (Array.mem_toList_iff.mp hy);simp[DictEntry.refKey,hkey]
  have a':¬es.toList.any (·.refKey)=true:=by rw[a];exact Au
  rw[AI a'];exact B5 some e
theorem iV.look{h:Heap}{x dx C:Addr}{mA:Str->Option Value}(I:iV h x dx C mA):∃od,PySem.W.InstAt h x (PySem.W.instObj C dx) C (some od)/\∀name,PySem.W.lookIn name od=some (mA name):=
 let ⟨od,ho,hl⟩:=l_ I.ns
 ⟨od,⟨I.obj,U,U,ho⟩,hl⟩
section
variable{prog:Program}{w:World}{A:Around}{E:Value->Shared->Prop}{s:Shared}{K:PySem.W.Frag}{x dx C f:Addr}{mA:Str->Option Value}{name:Str}{v:Value}
theorem get_map{expr:Bool}{Q:Value->Shared->Prop}(X:K.In s.heap)(I:iV s.heap x dx C mA)(hg:PySem.W.plainGet K C name=true)(hh:PySem.W.hasDictIn K C=true)
 (ha:PySem.W.findIn K (.ref C) name=some none) (hv:mA name=some v) (hv':PySem.W.handedIn v=true) (h:Q v {s with toks:=s.toks+1}):
 wpAny (model prog w) A (getAttr (.ref x) name expr) Q E s:=by
 obtain⟨od,J,hl⟩:=I.look;exact PySem.W.get_value X J (PySem.W.plainGet_of hg).1 (PySem.W.findObj_own hh ha U (by rw[hl,hv])) hv' h
theorem tD{ns:List Str}{Q:Unit->Shared->Prop}(X:K.In s.heap)(I:iV s.heap x dx C mA)
 (hs:PySem.W.findIn K (.ref C) "__setattr__"=some (some (.builtin "object.__setattr__"))) (hp:PySem.W.plainOver K C=true) (ht:PySem.W.takerIn K C name=some none) (hh:PySem.W.hasDictIn K C=true)
 (hw:PySem.Within mA ns) (hsz:ns.length<=sizeLine)
 (h:∀h',iV h' x dx C (λy=>if y=name then some v else mA y)->Heap.SameBut dx s.heap h'->Q () {s with heap:=h',toks:=s.toks+2}):
 wpAny (model prog w) A (setAttr (.ref x) name v) Q E s:=by
 obtain⟨od,J,hl⟩:=I.look;refine PySem.W.set_plain X J hs (PySem.W.osa_open (s:={s with toks:=s.toks+1}) (r:=none) X J hp ht λb=>?_);obtain⟨cd,hc,hd'⟩:=PySem.W.any_some hh;have hx:s.heap.get? x=some ⟨.ref C,some dx,.plain,#[]⟩:=I.obj;refine AH (BA (AH (AH (wpAny_loadPart hx (AH (PySem.W.Looks.here (s:={s with toks:=s.toks+1}) (PySem.W.looks_clsIn X hc) ?_))))));rw[hd'];refine BA (a:=some dx) (AH (BA (AH ?_)));refine wpAny_nsSet1 (s:={s with toks:=s.toks+1}) I.ns λh' hn2 hs2=>?_;obtain⟨oD,esD,epD,hoD,hdD,hcD⟩:=hn2.count (PySem.Within.cons name v hw);refine AH (wpAny_lookBehind hoD (by rw[hdD];exact pastItsLine_dict (Aw hcD (by rw[Ab];omega))) ?_);exact BA (h _ ⟨(hs2.2 _ (CI I.ne)).trans I.obj,hn2,I.ne⟩ hs2)
theorem qO{R:Result->Shared->Prop}{vs:List Value}{kw:List (Str×Value)}(X:K.In s.heap)(hm:PySem.W.makesIn K C=true)
 (hi:PySem.W.findIn K (.ref C) "__init__"=some (some (.ref f))) (hf:PySem.W.typeIn K (.ref f)=some (.type "function"))
 (h:codeAny (model prog w) (A.under (.builtin "type.__call__" ⟨.ref C::vs,kw⟩)) (.call (.ref f) ⟨.ref (s.heap.objs.size+1)::vs,kw⟩) (PySem.W.InitBack (s.heap.objs.size+1) R)
   {s with heap:=(s.heap.push PySem.W.emptyDict).push (PySem.W.instObj C s.heap.objs.size)}):
 codeAny (model prog w) A (.call (.ref C) ⟨vs,kw⟩) R s:=by
 obtain⟨hh,g,d,t,os⟩:=s;exact PySem.W.make_core (PySem.W.makes_of X hm) (PySem.W.looks_findIn X hi) (λself=>PySem.W.bind_fn X self hf) (.inl U) h
end
def EO(f:Str)(v:V):List (Str×V)->List (Str×V)
 | []=>[(f,v)]
 |(g,x)::r=>if g=f then(g,v)::r else(g,x)::EO f v r
theorem Wv(f g:Str)(v:V):∀fs:List (Str×V),(EO f v fs).lookup g=if g=f then some v else fs.lookup g
 | []=>by
   show List.lookup g [(f,v)]=_;by_cases h:g=f
   ·have hb:(g==f)=true:=EE.mpr h;simp only[List.lookup,hb,AJ h]
   ·have hb:(g==f)=false:=Bd.mpr h;simp only[List.lookup,hb,AI h]
 |(k,x)::r=>by
  have ih:=Wv f g v r;rw[show EO f v ((k,x)::r)=(if k=f then(k,v)::r else(k,x)::EO f v r)from rfl];by_cases hk:k=f
  ·rw[AJ hk];by_cases h:g=k
   ·have hb:(g==k)=true:=EE.mpr h;simp only[List.lookup,hb,AJ (h.trans hk)]
   ·have hb:(g==k)=false:=Bd.mpr h;simp only[List.lookup,hb,AI (λe:g=f=>h (e.trans hk.symm))]
  ·rw[AI hk];by_cases h:g=k
   ·have hb:(g==k)=true:=EE.mpr h;simp only[List.lookup,hb,AI (λe:g=f=>hk (h.symm.trans e))]
   ·have hb:(g==k)=false:=Bd.mpr h;simp only[List.lookup,hb];exact ih
theorem Vl(f:Str)(v:V):∀fs:List (Str×V),f∈(EO f v fs).map (·.1)/\∀g,g∈fs.map (·.1)->g∈(EO f v fs).map (·.1)
 | []=>⟨by simp[EO],λg h=>by simp at h⟩
 |(k,x)::r=>by
  obtain⟨i1,i2⟩:=Vl f v r;rw[show EO f v ((k,x)::r)=(if k=f then(k,v)::r else(k,x)::EO f v r)from rfl];by_cases hk:k=f
  ·rw[AJ hk];subst hk;exact⟨by simp,λg h=>by simpa using h⟩
  ·rw[AI hk];refine⟨?_,λg h=>?_⟩
   ·rw[Ay];exact AV _ i1
   ·rw[Ay]at h⊢;rcases AN.mp h with e|e
    ·exact AN.mpr (.inl e)
    ·exact AV _ (i2 g e)
theorem Ww(f:Str)(v:V):∀fs:List (Str×V),(EO f v fs).length<=fs.length+1
 | []=>by simp[EO]
 |(k,x)::r=>by
  have ih:=Ww f v r;rw[show EO f v ((k,x)::r)=(if k=f then(k,v)::r else(k,x)::EO f v r)from rfl];by_cases hk:k=f
  ·rw[AJ hk,Ab,Ab];omega
  ·rw[AI hk,Ab,Ab];omega
theorem Qe.some_of{v:V}{o:Option Value}(r:Qe (some v) o):∃u,o=some u/\RelV v u:=by
 cases o with
 |none=>exact(show False from r).elim
 |some u=>exact⟨u,U,r⟩
theorem mC{v:V}{u:Value}(r:RelV v u):PySem.W.handedIn u=true:=by
 cases v with
 |DX=>cases (show u=Value.none from r);rfl
 |bl b=>cases (show u=Value.bool b from r);rfl
 |int i=>obtain⟨t,e⟩:=(show∃t,u=Value.int i t from r);cases e;rfl
 |str x=>obtain⟨t,e⟩:=(show∃t,u=Value.str x t from r);cases e;rfl
 |Yr b=>obtain⟨t,e⟩:=(show∃t,u=Value.bytes b t from r);cases e;rfl
 |yG b=>obtain⟨t,e⟩:=(show∃t,u=Value.float b t from r);cases e;rfl
 |ref a=>cases (show u=Value.ref a from r);rfl
 |ty n=>cases (show u=Value.type n from r);rfl
section
variable{P:Program}{w:World}{H H':Hp}{h h':Heap}{a C dx:Addr}{fs fs':List (Str×V)}
theorem j0(hok:Kg P w H h)(e:H a=some (.ins C dx fs)):∃mA,iV h a dx C mA/\(∀f,Qe (fs.lookup f) (mA f))/\PySem.Within mA (fs.map (·.1))/\fs.length<=1000/\H dx=some (.own a):=by
 obtain⟨d,z,ne,ob,mA,n,r,q⟩:=(show EN P w H h a (.ins C dx fs)from hok a _ e);exact⟨mA,⟨ob,n,ne⟩,r,q,z,d⟩
end
structure pF(K:PySem.W.Frag)(C:Addr):Prop where
 pg:PySem.W.plainGet K C Str.empty=true
 hd:PySem.W.hasDictIn K C=true
 po:PySem.W.plainOver K C=true
 sa:PySem.W.findIn K (.ref C) "__setattr__"=some (some (.builtin "object.__setattr__"))
theorem pF.get{K:PySem.W.Frag}{C:Addr}(c:pF K C)(f:Str):PySem.W.plainGet K C f=true:=c.pg
def Jo(K:PySem.W.Frag)(C:Addr)(f:Str):Prop:=PySem.W.findIn K (.ref C) f=some none
theorem Jo.zK{K:PySem.W.Frag}{C:Addr}{f:Str}(n:Jo K C f):PySem.W.takerIn K C f=some none:=by
 unfold PySem.W.takerIn;rw[show PySem.W.findIn K (.ref C) f=some none from n];rfl
section
variable{X:Cx}{pins:List (Addr×Obj)}{σ:St}{H:Hp}{s:Shared}{a C dx:Addr}{fs:List (Str×V)}{f:Str}{v:V}{A:Around}{E:Value->Shared->Prop}
theorem i7{b:Bool}{Q:Value->Shared->Prop}(I:Inv X pins σ H s)(e:H a=some (.ins C dx fs))(c:pF X.K C)(n:Jo X.K C f)(l:fs.lookup f=some v)
 (h:∀u s',Inv X pins σ H s'->RelV v u->Q u s'):wpAny (model X.prog X.w) A (getAttr (.ref a) f b) Q E s:=by
 obtain⟨mA,O,r,_,_,_⟩:=j0 I.hok e;obtain⟨u,hu,ru⟩:=Qe.some_of (v:=v) (o:=mA f) (by rw[<-l];exact r f);exact get_map I.Zh O (c.get f) c.hd n hu (mC ru) (h u _ (I.tok _) ru)
theorem i8{y:V}{u:Value}{Q:Unit->Shared->Prop}(I:Inv X pins σ H s)(e:H a=some (.ins C dx fs))(c:pF X.K C)(n:Jo X.K C f)(hl:fs.length<1000)(ry:RelV y u)
 (h:∀s',Inv X pins σ (upd H a (.ins C dx (EO f y fs))) s'->Q () s'):wpAny (model X.prog X.w) A (setAttr (.ref a) f u) Q E s:=by
 obtain⟨mA,O,r,wi,_,ho⟩:=j0 I.hok e;have hz:(fs.map (·.1)).length<=sizeLine:=by rw[AA,D7];omega
 refine tD I.Zh O c.sa c.po n.zK c.hd wi hz λh' O' sb=>h _ ?_;have hd:∃o,h'.get? dx=some o:=let ⟨o,_,_,e',_⟩:=O'.ns;⟨o,e'⟩;refine I.write (x:=a) (e:=dx) (by rw[e];exact True.intro) (.inr ho) (λb q hb z=>(sb.2 b hb).trans z) hd ?_;refine⟨by rw[Aj O.ne];exact ho,?_,O.ne,O'.obj,_,O'.ns,λg=>?_,λg hg=>?_⟩
 ·have:=Ww f y fs;omega
 ·show Qe ((EO f y fs).lookup g) (if g=f then some u else mA g);rw[Wv];by_cases q:g=f
  ·rw[AJ q,AJ q];exact ry
  ·rw[AI q,AI q];exact r g
 ·by_cases q:g=f
  ·rw[q];exact(Vl f y fs).1
  ·refine(Vl f y fs).2 g (wi g λz=>hg ?_);show(if g=f then some u else mA g)=none;rw[AI q];exact z
theorem Inv.made(I:Inv X pins σ H s):Inv X pins σ (upd (upd H s.heap.objs.size (.own (s.heap.objs.size+1))) (s.heap.objs.size+1) (.ins C s.heap.objs.size []))
 {s with heap:=(s.heap.push PySem.W.emptyDict).push (PySem.W.instObj C s.heap.objs.size)}:=by
 have e1:(s.heap.push PySem.W.emptyDict).get? s.heap.objs.size=some PySem.W.emptyDict:=A9 s.heap U;have e2:((s.heap.push PySem.W.emptyDict).push (PySem.W.instObj C s.heap.objs.size)).get? (s.heap.objs.size+1)=some (PySem.W.instObj C s.heap.objs.size):=by
  have:=A9 (s.heap.push PySem.W.emptyDict) (o:=PySem.W.instObj C s.heap.objs.size) U
  rwa [Bp]at this
 have e3:(s.heap.push PySem.W.emptyDict).Ns s.heap.objs.size (λ_=>none):=⟨PySem.W.emptyDict,#[],_,e1,U,(λe he=>absurd he (by simp)),λ_=>rfl⟩;have I1:=I.laid (a:=s.heap.objs.size) (o:=.own (s.heap.objs.size+1)) (h':=s.heap.push PySem.W.emptyDict) (t':=s.toks) (λb u q=>Ae _ q) (AU _) ⟨_,e1⟩;refine I1.laid (a:=s.heap.objs.size+1) (o:=.ins C s.heap.objs.size []) (t':=s.toks) (λb u q=>Ae _ q) (Bj (Bp _ _)) ?_;have ne:s.heap.objs.size≠s.heap.objs.size+1:=BV (Hv _);refine⟨by rw[Aj ne,AD],AY _,ne,e2,λ_=>none,(Heap.Ns1.of_empty e3).at λo q=>Ae _ q,λ_=>True.intro,λy hy=>absurd rfl hy⟩
theorem tE{prog:Program}{w:World}{env:Env}{e:Expr}{f:Str}{pos:Pos}{s:Shared}{Q:Value->Shared->Prop}(hb:attributeBase e f env (eval e env)=eval e env)
 (h:wpAny (model prog w) A (eval e env) (λo s₁=>wpAny (model prog w) A (getAttr o f true) Q E s₁) E s):wpAny (model prog w) A (eval (.Attribute e f pos) env) Q E s:=
 Attribute_any_ h (by rw[arm_eval_Attribute,hb])
end
inductive AAk(K:PySem.W.Frag)(f:Str)(x:V)(H1:Hp)(Q:VK):Prop
 |mk(a:_)(C:_)(dx:_)(fs:_)(v:_)(h0:x=.ref a)(h1:H1 a=some (.ins C dx fs))(h2:pF K C)(h3:Jo K C f)(h4:fs.lookup f=some v)(h5:Q v H1)
def RX(K:PySem.W.Frag)(ta:TE)(f:Str):TE:=λσ H Q=>ta σ H λx H1=>AAk K f x H1 Q
inductive XsF(K:PySem.W.Frag)(f:Str)(D:Ends)(σ:St)(y x:V)(H2:Hp):Prop
 |mk(a:_)(C:_)(dx:_)(fs:_)(h0:x=.ref a)(h1:H2 a=some (.ins C dx fs))(h2:pF K C)(h3:Jo K C f)(h4:fs.length<1000)(h5:D.nx σ (upd H2 a (.ins C dx (EO f y fs))))
def AAl(K:PySem.W.Frag)(ta tv:TE)(f:Str):TS:=λD σ H=>tv σ H λy H1=>ta σ H1 λx H2=>XsF K f D σ y x H2
section
variable{X:Cx}{o e value:Expr}{f:Str}{pos pos' tpos:Pos}{ta tv:TE}
theorem Av(he:PE X e ta)(hb:attributeBase e f X.env (eval e X.env)=eval e X.env:=by rfl):PE X (.Attribute e f pos) (RX X.K ta f):=by
 intro pins s σ H Q I h;refine tE hb (DQ (he pins s σ H _ I h) λu s1 ⟨x,H1,I1,rx,a,C,dx,fs,v,ex,ea,c,n,l,q⟩=>?_);subst ex;obtain rfl:u=Value.ref a:=rx;exact i7 I1 ea c n l λu' s2 I2 ru=>⟨v,H1,I2,ru,q⟩
theorem Cp(ha:PE X o ta)(hv:PE X value tv)(hs:swapsWith value (some (.Attribute o f pos')) pos.line X.env=pure false):PS X (.Assign [.Attribute o f pos'] value pos) (AAl X.K ta tv f):=by
 intro pins s σ H D I h;refine plainObj_wpAny_Assign_Attribute (DQ (hv pins s σ H _ I h) λu s1 ⟨y,H1,I1,ry,q⟩=>DQ (ha pins s1 σ H1 _ I1 q) λov s2 ⟨x,H2,I2,rx,a,C,dx,fs,ex,ea,c,n,l,q2⟩=>?_) hs;subst ex;obtain rfl:ov=Value.ref a:=rx;exact i8 I2 ea c n l ry λs3 I3=>⟨σ,_,I3,q2⟩
end
section
variable{X:Cx}{pins:List (Addr×Obj)}{σ:St}{H:Hp}{s:Shared}{A:Around}{E:Value->Shared->Prop}{Q:Value->Shared->Prop}{c:Value}{b:Bool}
end
end L2
namespace L2
open PySem PySem.Spec PyProof.Rows
structure Er(k:Nat)(A:Around):Prop where
 hd:A.handled=none
 dp:A.depth+3*k+5<recursionLimit
 un:A.units+16*k+200<cLine
theorem Er.mono{j k:Nat}{A:Around}(r:Er k A)(h:j<=k):Er j A:=⟨r.hd,by have:=r.dp;omega,by have:=r.un;omega⟩
theorem Er.deeper{k:Nat}{A:Around}(r:Er (k+1) A)(env:Env):Er k (A.deeper env):=
 ⟨r.hd,by have:=r.dp;show A.depth+1+3*k+5<_;omega,by have:=r.un;show A.units+3+16*k+200<_;omega⟩
theorem Er.in1{k:Nat}{A:Around}(r:Er (k+1) A):Er k A.in1:=
 ⟨r.hd,by have:=r.dp;show A.depth+3*k+5<_;omega,by have:=r.un;show A.units+1+16*k+200<_;omega⟩
theorem i9{A:Around}{C:Addr}{us:List Value}{kw:List (Str×Value)}:(A.under (.builtin "type.__call__" ⟨.ref C::us,kw⟩)).depth=A.depth+1:=by
 first|rfl|simp[Around.under,Code.weight,Code.isCreation,Code.isGuard,Code.isCaller,Code.frames,Code.isFrame,guardIds]
theorem i_{A:Around}{C:Addr}{us:List Value}{kw:List (Str×Value)}:(A.under (.builtin "type.__call__" ⟨.ref C::us,kw⟩)).units=A.units+1:=by
 first|rfl|simp[Around.under,Code.cUnits,Code.frames,Code.isFrame]
theorem Er.make{k:Nat}{A:Around}(r:Er (k+1) A)(C:Addr)(us:List Value)(kw:List (Str×Value)):Er k (A.under (.builtin "type.__call__" ⟨.ref C::us,kw⟩)):=
 ⟨r.hd,by have:=r.dp;rw[i9];omega,by have:=r.un;rw[i_];omega⟩
theorem Er.depth{k:Nat}{A:Around}(r:Er k A):A.depth<recursionLimit:=by have:=r.dp;omega
theorem Er.units{k:Nat}{A:Around}(r:Er k A):A.units+64<cLine:=by have:=r.un;omega
def C_:TA:=λ_ H Q=>Q [] H
def CM(ta:TE)(tr:TA):TA:=λσ H Q=>ta σ H λx H1=>tr σ H1 λxs H2=>Q (x::xs) H2
section
variable{X:Cx}{e:Expr}{es:List Expr}{te:TE}{t:TA}{pos:Pos}
theorem AF:PA X [] C_:=λ_ _ _ _ H Q I h=>Gn ⟨[],H,I,.nil,h⟩
theorem AB(ha:PE X e te)(hr:PA X es t)(hs:starEach (e::es) X.env=(false,eval e X.env)::starEach es X.env:=by rfl):PA X (e::es) (CM te t):=by
 intro pos pins s σ H Q I h;rw[hs];show wpAny _ _ (spliced ((false,eval e X.env)::backTo pos (starEach es X.env))) _ _ s;refine DM (DQ (ha pins s σ H _ I h) λu s1 ⟨x,H1,I1,r1,q1⟩=>?_);exact DQ (hr pos pins s1 σ H1 _ I1 q1) λus s2 ⟨xs,H2,I2,r2,q2⟩=>⟨x::xs,H2,I2,.cons r1 r2,q2⟩
def AAm(t:TA):TE:=λσ H Q=>t σ H λxs H1=>xs.length<=sizeLine/\∀p,H1 p=none->Q (.ref p) (upd H1 p (.tup xs))
def XS(t:TA):TE:=λσ H Q=>t σ H λxs H1=>xs.length<=sizeLine/\∀p,H1 p=none->Q (.ref p) (upd H1 p (.lst xs))
theorem aD{x1}(h:PA X es t):PE X (.Tuple es x1 pos) (AAm t):=by
 intro pins s σ H Q I hq;refine wpAny_Tuple_spliced (DQ (h pos pins s σ H _ I hq) λus s1 ⟨xs,H1,I1,r,z,q⟩=>⟨by rw[<-r.length];exact z,?_⟩);have hf:H1 s1.heap.objs.size=none:=I1.hok.fresh (AU _);refine⟨.ref s1.heap.objs.size,upd H1 s1.heap.objs.size (.tup xs),I1.laid (t':=s1.toks) (λb u e=>Ae _ e) (AU _) ?_,U,q _ hf⟩;exact⟨z,us,r,⟨_,A9 _ U,U,_,U⟩⟩
theorem BS(h:PA X es t):PE X (.List es pos) (XS t):=by
 intro pins s σ H Q I hq;refine wpAny_List_spliced (DQ (h pos pins s σ H _ I hq) λus s1 ⟨xs,H1,I1,r,z,q⟩=>⟨by rw[<-r.length];exact z,?_⟩);have hf:H1 s1.heap.objs.size=none:=I1.hok.fresh (AU _);refine⟨.ref s1.heap.objs.size,upd H1 s1.heap.objs.size (.lst xs),I1.laid (t':=s1.toks) (λb u e=>Ae _ e) (AU _) ?_,U,q _ hf⟩;exact⟨z,us,0,r,A9 _ U⟩
end
abbrev Sp:=List V->Hp->VK->XK->Prop
abbrev cN:=List Env->Hp->Shared->XK->Value->Shared->Prop
structure XT(P:Program)(w:World)(K:PySem.W.Frag)(mg:Str->Option Value)(base:Heap)(A:Around)(outer:List Env)(s:Shared)(H:Hp):Prop where
 frames:A.frames=some outer
 mod:Mod K mg base
 bs:∀b o,base.get? b=some o->s.heap.get? b=some o/\H b=none
 jr:base.objs.size<=s.heap.objs.size
 RU:s.heap.FunFrames base outer
 o9:∀b∈frs outer,H b=none
 hok:Kg P w H s.heap
 bare:AllBare s.gens
def CE(outer:List Env)(P:Program)(w:World)(H:Hp)(s:Shared)(Q:VK)(u:Value)(s':Shared):Prop:=
 ∃v H',s'.os=s.os/\AllBare s'.gens/\Un (frs outer) [] H H' s.heap s'.heap/\Kg P w H' s'.heap/\RelV v u/\Q v H'
def CR(CX:cN)(outer:List Env)(P:Program)(w:World)(H:Hp)(s:Shared)(Q:VK)(E:XK)(r:Result)(s':Shared):Prop:=
 match r with
 | .ok (.ret u)=>CE outer P w H s Q u s'
 | .ok _=>False
 | .error e=>CX outer H s E e s'
structure HU(P:Program)(w:World)(K:PySem.W.Frag)(mg:Str->Option Value)(base:Heap)(CX:cN)(k:Nat)(f:Addr)(fd:FuncData)(ps:List Str)(sp:Sp):Prop where
 len:∀vs H Q E,sp vs H Q E->vs.length=ps.length
 run:∀(A:Around)(outer:List Env)(s:Shared)(H:Hp)(args:Args)(us:List Value)(vs:List V)(Q:VK)(E:XK),Er k A->XT P w K mg base A outer s H->BindsTo s fd args (ps.zip us)->Vals vs us->sp vs H Q E->
  codeAny (model P w) A (.call (.ref f) args) (CR CX outer P w H s Q E) s
theorem HU.mono{P:Program}{w:World}{K:PySem.W.Frag}{mg:Str->Option Value}{base:Heap}{CX:cN}{j k:Nat}{f:Addr}{fd:FuncData}{ps:List Str}{sp:Sp}(F:HU P w K mg base CX j f fd ps sp)(h:j<=k):
 HU P w K mg base CX k f fd ps sp:=⟨F.len,λA outer s H args us vs Q E hr=>F.run A outer s H args us vs Q E (hr.mono h)⟩
theorem XT.make{P:Program}{w:World}{K:PySem.W.Frag}{mg:Str->Option Value}{base:Heap}{A:Around}{outer:List Env}{s:Shared}{H:Hp}(e:XT P w K mg base A outer s H)(C:Addr)(us:List Value)(kw:List (Str×Value)):
 XT P w K mg base (A.under (.builtin "type.__call__" ⟨.ref C::us,kw⟩)) outer s H:=⟨by first|exact e.frames|(simpa [Around.under,Code.envs,Code.isFrame,pushEnvs]using e.frames),e.mod,e.bs,e.jr,e.RU,e.o9,e.hok,e.bare⟩
theorem XT.in1{P:Program}{w:World}{K:PySem.W.Frag}{mg:Str->Option Value}{base:Heap}{A:Around}{outer:List Env}{s:Shared}{H:Hp}(e:XT P w K mg base A outer s H):
 XT P w K mg base A.in1 outer s H:=⟨e.frames,e.mod,e.bs,e.jr,e.RU,e.o9,e.hok,e.bare⟩
section
variable{X:Cx}{pins:List (Addr×Obj)}{σ:St}{H:Hp}{s s':Shared}
theorem Inv.vO(I:Inv X pins σ H s):XT X.prog X.w X.K X.mg X.base X.A X.stack s H:=
 ⟨I.ok.frames,I.ok.mod,I.bs,Aw I.ok.jr I.sz,I.stack,I.jt,I.hok,I.bare⟩
theorem Inv.after{Q:VK}{u:Value}(I:Inv X pins σ H s)(h:CE X.stack X.prog X.w H s Q u s'):EP X pins σ Q u s':=by
 obtain⟨v,H',os,bare,un,hok,r,q⟩:=h;obtain⟨hh,g,d,t,os'⟩:=s';obtain rfl:os'=s.os:=os;exact⟨v,H',I.call (h':=hh) (g':=g) (d':=d) (t':=t) (ch:=[]) un hok bare (λb z=>absurd z (by simp)),r,q⟩
end
def LA(sp:Sp)(X4:List V)(E:XK)(t:TA):TE:=λσ H Q=>t σ H λvs H1=>sp (vs++X4) H1 Q E
def Pp(C:Addr)(sp:Sp)(X4:List V)(E:XK)(t:TA):TE:=λσ H Q=>t σ H λvs H1=>∀x dx,H1 x=none->H1 dx=none->dx≠x->
 sp (.ref x::(vs++X4)) (upd (upd H1 dx (.own x)) x (.ins C dx [])) (λv H2=>v=.DX/\Q (.ref x) H2) E
def Binds(K:PySem.W.Frag)(fd:FuncData)(ps:List Str)(ds:List Value):Prop:=
 ∀(s:Shared)(us:List Value),K.In s.heap->(us++ds).length=ps.length->BindsTo s fd ⟨us,[]⟩ (ps.zip (us++ds))
theorem Binds.all{K:PySem.W.Frag}{fd:FuncData}{ps:List Str}(h:∀us:List Value,us.length=ps.length->bindArgs fd ⟨us,[]⟩=pure (ps.zip us)):Binds K fd ps []:=λs us _ hl=>by
 rw[Bk]at hl⊢;exact .of_eq (h us hl)
def Passes(CX:cN)(X:Cx)(E:XK):Prop:=∀(pins:List (Addr×Obj))(σ:St)(H:Hp)(s:Shared)(e:Value)(s':Shared),Inv X pins σ H s->CX X.stack H s E e s'->X.xe e s'
section
variable{X:Cx}{CX:cN}{k:Nat}{f C:Addr}{fd:FuncData}{ps:List Str}{sp:Sp}{X4:List V}{ds:List Value}{E:XK}{x m:Str}{p pos apos:Pos}{e o:Expr}{es:List Expr}{ta:TE}{t:TA}
theorem pG{pins:List (Addr×Obj)}{σ:St}{H:Hp}{s:Shared}{Q:VK}{us:List Value}{vs:List V}(F:HU X.prog X.w X.K X.mg X.base CX k f fd ps sp)(hr:Er k X.A)(hb:Binds X.K fd ps ds)(hd:Vals X4 ds)(hx:Passes CX X E)
 (I:Inv X pins σ H s) (r:Vals vs us) (h:sp (vs++X4) H Q E):wpAny (model X.prog X.w) X.A (call (.ref f) us) (EP X pins σ Q) X.xe s:=by
 have r2:Vals (vs++X4) (us++ds):=r.append hd;have hl:(us++ds).length=ps.length:=by rw[<-r2.length];exact F.len _ _ _ _ h
 refine ZE (LY (F.run X.A X.stack s H ⟨us,[]⟩ (us++ds) (vs++X4) Q E hr I.vO (hb s us I.Zh hl) r2 h) λr s' hq=>?_);cases r with
 |error e=>exact hx pins σ H s e s' I hq
 |ok fl=>
  cases fl with
  |ret u=>exact I.after hq
  |next=>exact False.elim hq
  |brk=>exact False.elim hq
  |cont=>exact False.elim hq
theorem tF(F:HU X.prog X.w X.K X.mg X.base CX k f fd ps sp)(hr:Er k X.A)(hg:Gl X x)(hm:X.mg x=some (.ref f))(hk:PySem.W.keepIn X.K (.ref f)=true)(hb:Binds X.K fd ps ds)(hd:Vals X4 ds)(hx:Passes CX X E)
 (ha:PA X (e::es) t) (hdb:(x==("__debug__":Str))=false:=by decide) (he:starEach (e::es) X.env=(false,eval e X.env)::starEach es X.env:=by rfl) (hpl:(backTo pos (starEach es X.env)).any (·.1)=false:=by rfl):
 PE X (.Call (.Name x p) (e::es) [] pos) (LA sp X4 E t):=by
 intro pins s σ H Q I h;refine DN (Po I hg hm ?_ hdb);refine PySem.W.callWith_K (h₀:=X.base) I.ok.mod.vt hk (DQ (ha pos pins s σ H _ I h) λus s1 ⟨vs,H1,I1,r,q⟩=>⟨I1.Zh,?_⟩) he hpl;exact pG F hr hb hd hx I1 r q
structure Mk(K:PySem.W.Frag)(C f:Addr):Prop where
 makes:PySem.W.makesIn K C=true
 init:PySem.W.findIn K (.ref C) "__init__"=some (some (.ref f))
 fn:PySem.W.isFn K (.ref f)=true
 kp:PySem.W.keepIn K (.ref C)=true
theorem dh{pins:List (Addr×Obj)}{σ:St}{H:Hp}{s:Shared}{Q:VK}{us:List Value}{vs:List V}(M:Mk X.K C f)(F:HU X.prog X.w X.K X.mg X.base CX k f fd ps sp)(hr:Er (k+1) X.A)(hb:Binds X.K fd ps ds)(hd:Vals X4 ds)
 (hx:Passes CX X E) (I:Inv X pins σ H s) (r:Vals vs us)
 (h:∀x dx,H x=none->H dx=none->dx≠x->sp (.ref x::(vs++X4)) (upd (upd H dx (.own x)) x (.ins C dx [])) (λv H2=>v=.DX/\Q (.ref x) H2) E):
 wpAny (model X.prog X.w) X.A (call (.ref C) us) (EP X pins σ Q) X.xe s:=by
 have hq:=h (s.heap.objs.size+1) s.heap.objs.size (I.hok.fresh (EX _)) (I.hok.fresh (AU _)) (BV (Hv _));have I2:=Inv.made (C:=C) I;have r2:Vals (V.ref (s.heap.objs.size+1)::(vs++X4)) (Value.ref (s.heap.objs.size+1)::(us++ds)):=.cons U (r.append hd);have hl:(Value.ref (s.heap.objs.size+1)::us++ds).length=ps.length:=by
  have e:=r2.length;rw[F.len _ _ _ _ hq]at e;exact e.symm
 refine ZE (qO (f:=f) I.Zh M.makes M.init (EE.mp M.fn) (LY (F.run _ X.stack _ _ ⟨Value.ref (s.heap.objs.size+1)::us,[]⟩ (Value.ref (s.heap.objs.size+1)::(us++ds)) _ _ E (hr.make C us [])
  (I2.vO.make C us []) (hb _ (Value.ref (s.heap.objs.size+1)::us) I2.Zh hl) r2 hq) λr s' hq'=>?_))
 cases r with
 |error e=>exact hx pins σ _ _ e s' I2 hq'
 |ok fl=>
  cases fl with
  |ret u=>
   obtain⟨v,H',I3,rv,ev,q3⟩:=I2.after hq';subst ev;exact⟨rv,⟨V.ref (s.heap.objs.size+1),H',I3,U,q3⟩⟩
  |next=>exact False.elim hq'
  |brk=>exact False.elim hq'
  |cont=>exact False.elim hq'
theorem tG(M:Mk X.K C f)(F:HU X.prog X.w X.K X.mg X.base CX k f fd ps sp)(hr:Er (k+1) X.A)(hg:Gl X x)(hm:X.mg x=some (.ref C))(hb:Binds X.K fd ps ds)(hd:Vals X4 ds)(hx:Passes CX X E)
 (ha:PA X (e::es) t) (hdb:(x==("__debug__":Str))=false:=by decide) (he:starEach (e::es) X.env=(false,eval e X.env)::starEach es X.env:=by rfl) (hpl:(backTo pos (starEach es X.env)).any (·.1)=false:=by rfl):
 PE X (.Call (.Name x p) (e::es) [] pos) (Pp C sp X4 E t):=by
 intro pins s σ H Q I h;refine DN (Po I hg hm ?_ hdb);refine PySem.W.callWith_K (h₀:=X.base) I.ok.mod.vt M.kp (DQ (ha pos pins s σ H _ I h) λus s1 ⟨vs,H1,I1,r,q⟩=>⟨I1.Zh,?_⟩) he hpl;exact dh M F hr hb hd hx I1 r q
theorem di(M:Mk X.K C f)(F:HU X.prog X.w X.K X.mg X.base CX k f fd ps sp)(hr:Er (k+1) X.A)(hg:Gl X x)(hm:X.mg x=some (.ref C))(hb:Binds X.K fd ps ds)(hd:Vals X4 ds)(hx:Passes CX X E)
 (hdb:(x==("__debug__":Str))=false:=by decide):PE X (.Call (.Name x p) [] [] pos) (Pp C sp X4 E C_):=by
 intro pins s σ H Q I h;refine DN (Po I hg hm ?_ hdb);exact PySem.W.callWith_K0 I.Zh M.kp (dh (us:=[]) M F hr hb hd hx I .nil h)
end
section
variable{X:Cx}{CX:cN}{k:Nat}{f C:Addr}{fd:FuncData}{ps ks:List Str}{sp:Sp}{E:XK}{x m:Str}{p pos apos kpos:Pos}{e o:Expr}{es:List Expr}{kws:List Keyword}{te ta:TE}{t tk:TA}{nm:Option Str}
variable{g:List Value->List Value->List Value}{gV:List V->List V->List V}
end
structure Ao(N P:List Str)(sc:Scope):Prop where
 kind:sc.kind=.function
 co:sc.isCoroutine=false
 gen:sc.isGenerator=false
 nd:N.Nodup
 pre:N.take P.length=P
 par:∀x∈P,sc.names.lookup x=some .local\/sc.names.lookup x=some .cell
 wD:∀y∈sc.names,y.2≠.free
theorem aE{kindOf:Str->Option NameKind}{x:Str}:∀{binds:List (Str×Value)}{m:Str->Option Value},(∀v,(x,v)∉binds)->bindL kindOf binds m x=m x
 | [],_,_=>rfl
 |(n,v)::r,m,h=>by
  unfold bindL;rw[aE λw hw=>h w (AV _ hw)]
  split
  ·(have:x≠n:=by rintro rfl;exact h v Ac);simp[this]
  ·rfl
theorem aF{kindOf:Str->Option NameKind}{x:Str}:∀{binds:List (Str×Value)}{m:Str->Option Value},(∀v,(x,v)∉binds)->bindC kindOf binds m x=m x
 | [],_,_=>rfl
 |(n,v)::r,m,h=>by
  unfold bindC;rw[aF λw hw=>h w (AV _ hw)]
  split
  ·rfl
  ·(have:x≠n:=by rintro rfl;exact h v Ac);simp[this]
theorem aG{kindOf:Str->Option NameKind}{x:Str}{v:Value}:∀{P:List Str}{vs:List Value}{i:Nat}{m:Str->Option Value},P.Nodup->P[i]?=some x->vs[i]?=some v->kindOf x=some .local->
 bindL kindOf (P.zip vs) m x=some v
 | [],_,_,_,_,h,_,_=>by simp at h
 |_::_,[],_,_,_,_,h,_=>by simp at h
 |p::P,w::vs,0,m,nd,h1,h2,hk=>by
  simp at h1 h2;subst h1;subst h2;show bindL kindOf ((p,w)::P.zip vs) m p=_;unfold bindL;rw[aE λv hv=>(BQ.mp nd).1 (K6 hv).1,AJ hk];simp
 |p::P,w::vs,i+1,m,nd,h1,h2,hk=>by
  show bindL kindOf ((p,w)::P.zip vs) m x=_;unfold bindL;exact aG (i:=i) (BQ.mp nd).2 (by simpa using h1) (by simpa using h2) hk
theorem aH{kindOf:Str->Option NameKind}{x:Str}{v:Value}:∀{P:List Str}{vs:List Value}{i:Nat}{m:Str->Option Value},P.Nodup->P[i]?=some x->vs[i]?=some v->kindOf x≠some .local->
 bindC kindOf (P.zip vs) m x=some v
 | [],_,_,_,_,h,_,_=>by simp at h
 |_::_,[],_,_,_,_,h,_=>by simp at h
 |p::P,w::vs,0,m,nd,h1,h2,hk=>by
  simp at h1 h2;subst h1;subst h2;show bindC kindOf ((p,w)::P.zip vs) m p=_;unfold bindC;rw[aF λv hv=>(BQ.mp nd).1 (K6 hv).1,AI hk];simp
 |p::P,w::vs,i+1,m,nd,h1,h2,hk=>by
  show bindC kindOf ((p,w)::P.zip vs) m x=_;unfold bindC;exact aH (i:=i) (BQ.mp nd).2 (by simpa using h1) (by simpa using h2) hk
def start(N:List Str)(vs:List V):St:=vs.map some++List.replicate (N.length-vs.length) none
def dX(CX:cN)(P:Program)(w:World)(K:PySem.W.Frag)(mg:Str->Option Value)(base:Heap)(N:List Str)(qual:Str)(scope:Scope)(f:Addr)(cd:Value)(A:Around)(outer:List Env)(s:Shared)(H:Hp)(E:XK):Cx where
 prog:=P
 w:=w
 K:=K
 mg:=mg
 base:=base
 A:=A.deeper (envOfC qual scope s.heap.objs.size f cd)
 N:=N
 U0:=s
 vv:=H
 env:=envOfC qual scope s.heap.objs.size f cd
 outer:=outer
 stack:=envOfC qual scope s.heap.objs.size f cd::outer
 ex:=[]
 calm:=true
 fn:=λ_=>true
 pn:=[]
 xe:=λe s'=>wpAny (model P w) (A.deeper (envOfC qual scope s.heap.objs.size f cd)) (leaving (envOfC qual scope s.heap.objs.size f cd) e) (λ_ s''=>CX outer H s E e s'') (λe' s''=>CX outer H s E e' s'') s'
theorem dj{sc:Scope}{n:Nat}{x:Str}(h:sc.names.lookup x=some .cell):∃c,(cellsFrom n sc.names []).lookup x=some c:=by
 have q:=PySem.W.cellsFrom_some sc.names n [] (.inl h);exact Nf.mp q
theorem mD{CX:cN}{P:Program}{w:World}{K:PySem.W.Frag}{mg:Str->Option Value}{base:Heap}{N ps:List Str}{qual:Str}{scope:Scope}{f:Addr}{cd:Value}{A:Around}{outer:List Env}{s s1:Shared}{H:Hp}{E:XK}{us:List Value}{vs:List V}
 (S:Ao N ps scope) (hd:A.handled=none) (e0:XT P w K mg base A outer s H) (hl:vs.length=ps.length) (r:Vals vs us)
 (x:InCallC s s.heap.objs.size (bindL (envOfC qual scope s.heap.objs.size f cd).kindOf (ps.zip us) λ_=>none) (cellsFrom (s.heap.objs.size+1) scope.names []) (bindC (envOfC qual scope s.heap.objs.size f cd).kindOf (ps.zip us) λ_=>none) s1):
 Inv (dX CX P w K mg base N qual scope f cd A outer s H E) [] (start N vs) H s1:=by
 have hpl:ps.length<=N.length:=by have:=B5 List.length S.pre;rw[Bb]at this;omega
 obtain⟨h1,tk,rfl,hk⟩:=x.done;have ud:∀b:Addr,b∉(dX CX P w K mg base N qual scope f cd A outer s H E).ex:=λb z=>absurd (show b∈([]:List Addr)from z) (by simp);refine⟨⟨e0.mod,S.kind,U,U,AU _,λy z c h1 h2=>?_,λy hy=>?_,λy c _ h=>?_,λ_=>hd,Around.frames_deeper e0.frames,.inr ⟨U,U⟩,λb z=>absurd z (ud b),e0.bs,e0.jr,λb _ _=>ud b,λb z=>absurd z (ud b),e0.RU,e0.o9⟩,
  U,e0.bare,Un.kept hk,⟨_,x.toInCall.ns,λi y v h1 h2 h3=>?_⟩,λy c h=>⟨_,x.cell y c h⟩,e0.hok.fresh (AU _),λy c h=>?_,λp hp=>absurd (show p∈([]:List (Addr×Obj))from hp) (by simp),e0.hok.kept hk,?_⟩
 ·exact name_of_addr x.apart (PySem.mem_of_lookup h1) (PySem.mem_of_lookup h2)
 ·have hy:scope.names.lookup y=some .cell\/scope.names.lookup y=some .free:=hy;rcases hy with hy|hy
  ·exact dj hy
  ·exact absurd rfl (S.wD _ (PySem.mem_of_lookup hy))
 ·exact VJ (x.above y c (PySem.mem_of_lookup h))
 ·have hi:i<vs.length:=by
   unfold start at h2;by_cases hi:i<vs.length
   ·exact hi
   ·rw[Ey (by simpa using hi)]at h2;rw[List.getElem?_replicate]at h2
    split at h2<;>cases h2
  have ha:vs[i]?=some v:=by
   unfold start at h2;rw[Me (by simpa using hi),Ai]at h2;cases e:vs[i]? with
   |none=>rw[e]at h2;cases h2
   |some a=>rw[e]at h2;cases h2;rfl
  obtain⟨u,hu,rv⟩:=r.get ha;have hp:ps[i]?=some y:=by
   rw[<-S.pre,List.getElem?_take_of_lt (by omega)];exact h1
  have ndP:ps.Nodup:=by rw[<-S.pre];exact S.nd.sublist (VU _ _)
  refine⟨u,rv,?_⟩;rcases S.par y (AS hp)with k|k
  ·exact .inl ⟨k,aG ndP hp hu k⟩
  ·obtain⟨c,e⟩:=dj (n:=s.heap.objs.size+1) k;refine .inr ⟨.inl k,c,e,?_⟩;have q:=x.cell y c e;rw[aH ndP hp hu (by show scope.names.lookup y≠_;rw[k];decide)]at q;exact q
 ·exact e0.hok.fresh (VJ (x.above y c (PySem.mem_of_lookup h)))
 ·unfold start;show _=N.length;rw[AL,AA,Ez];omega
theorem zL{CX:cN}{P:Program}{w:World}{K:PySem.W.Frag}{mg:Str->Option Value}{base:Heap}{k:Nat}{f:Addr}{name qual:Str}{params:Arguments}{body:List Stmt}{scope:Scope}{dV kV doc pm cdv ct oc:Value}{an od:Option Addr}
 {osl:Array (Option Value)} {N ps:List Str} {sp:Sp} (lk:K.lookup f=some ⟨oc,od,.func (PySem.W.fnOf name qual params body scope dV kV doc pm an cdv ct),osl⟩) (hcd:PySem.W.codeIn K cdv qual=true) (S:Ao N ps scope)
 (len:∀vs H Q E,sp vs H Q E->vs.length=ps.length)
 (hbody:∀(A:Around)(outer:List Env)(s:Shared)(H:Hp)(vs:List V)(Q:VK)(E:XK),Er k (A.deeper (envOfC qual scope s.heap.objs.size f cdv))->sp vs H Q E->
   ∃t,Z8 (dX CX P w K mg base N qual scope f cdv A outer s H E) body t/\t {nx:=λ_ H'=>Q .DX H',rt:=Q} (start N vs) H):
 HU P w K mg base CX (k+1) f (PySem.W.fnOf name qual params body scope dV kV doc pm an cdv ct) ps sp:=by
 refine⟨len,λA outer s H args us vs Q E hr e0 hb r j6=>?_⟩;have hl:=len _ _ _ _ j6;have KX:K.In s.heap:=e0.mod.vt.keeps λb o e=>(e0.bs b o e).1;have lim:s.heap.NoLimit:=e0.mod.nolimit.keeps λb o e=>(e0.bs b o e).1;have hkind:∀y∈ps.zip us,scope.names.lookup y.1=some .local\/(scope.names.lookup y.1=some .cell/\((cellsFrom (s.heap.objs.size+1) scope.names []).lookup y.1).isSome=true):=λ⟨n,v⟩ hy=>by
  rcases S.par n (K6 hy).1 with q|q
  ·exact .inl q
  ·exact .inr ⟨q,PySem.W.cellsFrom_some _ _ _ (.inl q)⟩
 refine codeAny_call_function hr.depth (KX _ _ lk) U S.co S.gen U (PySem.W.codeRec_of KX hcd) (hb _ _ _ _ ?_);refine wpAny_newFunctionEnv_cells S.kind hkind λenv he s1 x=>?_;subst he;refine⟨lim.keeps x.toInCall.keep,codeAny_func ?_⟩;obtain⟨t,ht,hq⟩:=hbody A outer s H vs Q E (hr.deeper _) j6;have I:Inv (dX CX P w K mg base N qual scope f cdv A outer s H E) [] (start N vs) H s1:=mD S hr.hd e0 hl r x;refine DT (ht [] s1 (start N vs) H _ I hq) (λfl s' hs=>?_) λe s' hs=>hs;have fin:∀{σ':St}{H':Hp}{v:V}{u:Value},Inv (dX CX P w K mg base N qual scope f cdv A outer s H E) [] σ' H' s'->RelV v u->Q v H'->CE outer P w H s Q u s':=
  λ{σ' H' v u} J rv q=>⟨v,H',J.os,J.bare,J.base,J.hok,rv,q⟩
 cases fl with
 |ret u=>
  obtain⟨v,σ',H',J,rv,q⟩:=hs;exact fin J rv q
 |next=>
  obtain⟨σ',H',J,q⟩:=hs;exact fin (v:=V.DX) (u:=Value.none) J U q
 |brk=>
  obtain⟨_,_,_,q⟩:=hs;exact False.elim q
 |cont=>
  obtain⟨_,_,_,q⟩:=hs;exact False.elim q
end L2
namespace L2
open PySem PySem.Spec PyProof.Rows
section
variable{X:Cx}{x:Str}{p pos:Pos}{e:Expr}{es:List Expr}{t:TA}{id T:String}{r:List V->Hp->VK->Prop}
def wF(r:List V->Hp->VK->Prop)(t:TA):TE:=λσ H Q=>t σ H λvs H1=>r vs H1 Q
theorem NQ(hc:RV X (.builtin id) r)(hg:Gl X x)(hm:X.mg x=none)(hv:bootBuiltins x=some (.builtin id))(ha:PA X (e::es) t)(hn:x≠"__name__":=by decide)(hdb:(x==("__debug__":Str))=false:=by decide)
 (he:starEach (e::es) X.env=(false,eval e X.env)::starEach es X.env:=by rfl) (hpl:(backTo pos (starEach es X.env)).any (·.1)=false:=by rfl):PE X (.Call (.Name x p) (e::es) [] pos) (wF r t):=by
 intro pins s σ H Q I h;refine DN (Km I hg hm hv ?_ hn hdb);exact PyProof.Rows.callWith_builtin1 (DQ (ha pos pins s σ H _ I h) λus s1 ⟨vs,H1,I1,r1,q1⟩=>hc pins s1 σ H1 vs us Q I1 r1 q1) he hpl
theorem aI(hc:RV X (.type T) r)(hg:Gl X x)(hm:X.mg x=none)(hv:bootBuiltins x=some (.type T))(ha:PA X (e::es) t)(hn:x≠"__name__":=by decide)(hdb:(x==("__debug__":Str))=false:=by decide)
 (he:starEach (e::es) X.env=(false,eval e X.env)::starEach es X.env:=by rfl) (hpl:(backTo pos (starEach es X.env)).any (·.1)=false:=by rfl):PE X (.Call (.Name x p) (e::es) [] pos) (wF r t):=by
 intro pins s σ H Q I h;refine DN (Km I hg hm hv ?_ hn hdb);exact B7 (DQ (ha pos pins s σ H _ I h) λus s1 ⟨vs,H1,I1,r1,q1⟩=>hc pins s1 σ H1 vs us Q I1 r1 q1) he hpl
end
end L2
namespace HT
open PySem PyProof.Rows
section
open PySem.SeqAt
open PySem.AutoSeq1 (wpAny_loadPart')
open PySem.MeetsSeq PySem.MeetsSeq2 PySem.MeetsSeq3
end
section
variable{prog:Program}{w:World}{A:Around}{E:Value->Shared->Prop}{s:Shared}
def X5(n d:Nat):Option Int->Nat
 |none=>d
 |some v=>if v<0 then(v+(n:Int)).toNat else min v.toNat n
theorem dw(n d:Nat):X5 n d none=d:=rfl
theorem XW(n d k:Nat):X5 n d (some (k:Int))=min k n:=by
 show(if(k:Int)<0 then((k:Int)+(n:Int)).toNat else min (k:Int).toNat n)=min k n;rw[AI (by omega),Bg]
end
end HT
namespace L2
open PySem PySem.Spec PyProof.Rows
abbrev TO:=St->Hp->(Option Int->Hp->Prop)->Prop
def PO(X:Cx)(e:Option Expr)(t:TO):Prop:=
 ∀(pins:List (Addr×Obj))(s:Shared)(σ:St)(H:Hp)(Q:Option Int->Hp->Prop),Inv X pins σ H s->t σ H Q->
  wpAny (model X.prog X.w) X.A (evalPart e X.env) (λu s'=>∃o H',Inv X pins σ H' s'/\IsPart u o/\Q o H') X.xe s
def bW:TO:=λ_ H Q=>Q none H
inductive XPa(x:V)(H1:Hp)(Q:Option Int->Hp->Prop):Prop
 |mk(i:_)(h0:x=.int i)(h1:Q (some i) H1)
def cO(t:TE):TO:=λσ H Q=>t σ H λx H1=>XPa x H1 Q
theorem intsAre_of{ns:List Int}:∀{us:List Value},Vals (ns.map V.int) us->IntsAre us ns:=by
 induction ns with
 |nil=>intro us r;rw[DF]at r;cases r;exact .nil
 |cons n ns ih=>
  intro us r;rw[Ay]at r;cases r with
  |cons r1 r2=>
   obtain⟨t,e⟩:=r1;subst e;exact .cons n t (ih r2)
section
variable{X:Cx}{e:Expr}{te:TE}{lo hi:Option Expr}{tl th:TO}{pos p2:Pos}
theorem L8:PO X none bW:=by
 intro pins s σ H Q I h;rw[evalPart_none];exact BA ⟨none,H,I,.none,h⟩
theorem ER(h:PE X e te):PO X (some e) (cO te):=by
 intro pins s σ H Q I hw;rw[evalPart_some];refine DQ (h pins s σ H _ I hw) λu s1 ⟨x,H1,I1,r1,q1⟩=>?_;obtain⟨i,rfl,q⟩:=q1;obtain⟨t,rfl⟩:=r1;exact⟨some i,H1,I1,.int i t,q⟩
def SlR(X:Cx)(r:V->Option Int->Option Int->Hp->VK->Prop):Prop:=
 ∀(pins:List (Addr×Obj))(s:Shared)(σ:St)(H:Hp)(x:V)(v vl vu:Value)(lo hi:Option Int)(sl:Addr)(Q:VK),Inv X pins σ H s->RelV x v->s.heap.IsSliceOf sl vl vu .none->IsPart vl lo->IsPart vu hi->r x lo hi H Q->
  ∃T id,typeLookup (.type T) "__getitem__"=pure (some (.builtin id))/\s.TypeIs v T/\wpAny (model X.prog X.w) X.A (getItem v (.ref sl)) (EP X pins σ Q) X.xe s
def yW(r:V->Option Int->Option Int->Hp->VK->Prop)(te:TE)(tl th:TO):TE:=λσ H Q=>te σ H λx H1=>tl σ H1 λl H2=>th σ H2 λu H3=>r x l u H3 Q
theorem FU{r:V->Option Int->Option Int->Hp->VK->Prop}(hr:SlR X r)(he:PE X e te)(hl:PO X lo tl)(hu:PO X hi th):PE X (.Subscript e (.Slice lo hi none p2) pos) (yW r te tl th):=by
 intro pins s σ H Q I h;refine ZF (DQ (he pins s σ H _ I h) λv s1 ⟨x,H1,I1,r1,q1⟩=>?_);refine wpAny_Slice (DQ (hl pins s1 σ H1 _ I1 q1) λvl s2 ⟨l,H2,I2,pl,q2⟩=>DQ (hu pins s2 σ H2 _ I2 q2) λvu s3 ⟨u,H3,I3,pu,q3⟩=>?_);rw[evalPart_none];refine BA ?_;have I4:Inv X pins σ H3 {s3 with heap:=s3.heap.push {cls:=.type "slice",data:=.fields #[vl,vu,.none]}}:=I3.kept (t':=s3.toks) λb ob q=>Ae _ q;obtain⟨T,id,hT,ht,hg⟩:=hr pins {s3 with heap:=s3.heap.push {cls:=.type "slice",data:=.fields #[vl,vu,.none]}} σ H3 x v vl vu l u s3.heap.objs.size Q I4 r1 (Heap.IsSliceOf.new ..) pl pu q3;show wpAny (model X.prog X.w) X.A (subscriptTail e (.Slice lo hi none p2) v (.ref s3.heap.objs.size)) (EP X pins σ Q) X.xe {s3 with heap:=s3.heap.push {cls:=.type "slice",data:=.fields #[vl,vu,.none]}};exact tail_any (ops:=[.ref s3.heap.objs.size,v]) ht hT hg (by with_unfolding_all rfl)
def PN(xs:List V)(lo hi:Option Int):List V:=(xs.drop (HT.X5 xs.length 0 lo)).take (HT.X5 xs.length xs.length hi-HT.X5 xs.length 0 lo)
theorem fj(xs:List V)(lo hi:Option Int):(PN xs lo hi).length<=xs.length:=by
 unfold PN;rw[Bb,A2];omega
end
end L2
namespace L2
open PySem PySem.Spec PyProof.Rows
def j7(n:Nat)(i:Int):Option Nat:=if 0<=i then(if i<n then some i.toNat else none)else if-(n:Int)<=i then some (i+n).toNat else none
def mE{α:Type}(xs:List α)(i:Int):Option α:=(j7 xs.length i).bind λj=>xs[j]?
theorem j8{n:Nat}{i:Int}{j:Nat}(h:j7 n i=some j):seqIndex? i n=some j/\j<n/\-(n:Int)<=i/\i<n:=by
 unfold j7 at h;by_cases h0:0<=i
 ·rw[AJ h0]at h;by_cases h1:i<n
  ·rw[AJ h1]at h;have e:i.toNat=j:=BB h;exact⟨by rw[XE h0 h1,e],by omega,by omega,h1⟩
  ·rw[AI h1]at h;cases h
 ·rw[AI h0]at h;by_cases h1:-(n:Int)<=i
  ·rw[AJ h1]at h;have e:(i+n).toNat=j:=BB h;exact⟨by rw[VL (by omega) h1,e],by omega,h1,by omega⟩
  ·rw[AI h1]at h;cases h
theorem j9{α:Type}{xs:List α}{i:Int}{v:α}(h:mE xs i=some v):∃j,seqIndex? i xs.length=some j/\xs[j]?=some v/\j<xs.length/\-(xs.length:Int)<=i/\i<xs.length:=by
 unfold mE at h;cases e:j7 xs.length i with
 |none=>rw[e]at h;cases h
 |some j=>
  rw[e]at h;obtain⟨h1,h2,h3,h4⟩:=j8 e;exact⟨j,h1,h,h2,h3,h4⟩
theorem tH{α:Type}{xs:List α}{j:Nat}{v:α}(h:xs[j]?=some v):mE xs (j:Int)=some v:=by
 have hj:j<xs.length:=(AZ.mp h).1;have e:j7 xs.length (j:Int)=some j:=by
  unfold j7;rw[AJ (by omega),AJ (by omega)];simp
 unfold mE;rw[e];exact h
def tK(b:Expr):Prop:=∀o i,subscripted b false o i=operate [o,i] (getItem o i)
def z0(X:Cx)(r:R2):Prop:=
 ∀(value slice:Expr)(pins:List (Addr×Obj))(s:Shared)(σ:St)(H:Hp)(x y:V)(v u:Value)(Q:VK),Inv X pins σ H s->RelV x v->RelV y u->r x y H Q->
  subscripted slice false v u=operate [v,u] (getItem v u)->wpAny (model X.prog X.w) X.A (subscriptTail value slice v u) (EP X pins σ Q) X.xe s
def MtR(X:Cx)(id:String)(r:V->List V->Hp->VK->Prop):Prop:=
 ∀(pins:List (Addr×Obj))(s:Shared)(σ:St)(H:Hp)(x:V)(xs:List V)(v:Value)(us:List Value)(Q:VK),Inv X pins σ H s->RelV x v->Vals xs us->r x xs H Q->
  wpAny (model X.prog X.w) X.A (call (.builtin id) (v::us)) (EP X pins σ Q) X.xe s
inductive rZ(K:PySem.W.Frag)(xs:List V)(H:Hp)(Q:VK):Prop
 |mk(p:Addr)(ys:List V)(h0:xs=[.ref p])(h1:A1 K H p ys\/OM K H p ys)(h2:Q (.int ys.length) H)
section
variable{X:Cx}{a b:Expr}{ta tb:TE}{pos:Pos}
theorem Ax{r:R2}(hr:z0 X r)(ha:PE X a ta)(hb:PE X b tb)(hs:tK b:=by exactλ_ _=>rfl):PE X (.Subscript a b pos) (L6 r ta tb):=by
 intro pins s σ H Q I h;exact ZF (vM ha hb I h λv u s2 x y H2 I2 rx ry q=>hr a b pins s2 σ H2 x y v u Q I2 rx ry q (hs _ _))
inductive AAn(K:PySem.W.Frag)(x y:V)(H:Hp)(Q:VK):Prop
 |mk(p:_)(xs:_)(i:_)(v:_)(h0:x=.ref p)(h1:y=.int i)(h2:A1 K H p xs)(h3:mE xs i=some v)(h4:Q v H)
def MT(K:PySem.W.Frag):R2:=λx y H Q=>AAn K x y H Q
inductive AAo(K:PySem.W.Frag)(x y:V)(H:Hp)(Q:VK):Prop
 |mk(p:_)(xs:_)(i:_)(v:_)(h0:x=.ref p)(h1:y=.int i)(h2:OM K H p xs)(h3:mE xs i=some v)(h4:Q v H)
def AAp(K:PySem.W.Frag):R2:=λx y H Q=>AAo K x y H Q
theorem Aa:z0 X (MT X.K):=by
 intro value slice pins s σ H x y v u Q I rx ry h hs;obtain⟨p,xs,i,z,rfl,rfl,hq,he,q⟩:=h;cases rx;obtain⟨t,rfl⟩:=ry;obtain⟨its,r,pl,hz⟩:=I.list hq;obtain⟨j,h1,h2,h3,h4,h5⟩:=j9 he;obtain⟨w,ew,rw'⟩:=r.get h2;have hl:=r.length;have hn:=aB;have fin:EP X pins σ Q w s:=⟨z,H,I,rw',q⟩;by_cases h0:0<=i
 ·have hj:i.toNat=j:=by
   rw[XE h0 h5]at h1;exact BB h1
  exact item_listR pl.isList h0 (by omega) (by rw[hj];simpa using ew) fin hs
 ·have hj:(i+(its.toArray.size:Int)).toNat=j:=by
   rw[VL (by omega) h4]at h1;rw[Ar,<-hl];exact BB h1
  exact Ou (x:=w) pl.isList.typeIs VV.lookup
   (wpAny_getItem_list_neg (Q:=λr s'=>r=w/\EP X pins σ Q r s') pl.isList (by omega) (by rw[Ar]<;>omega) (by omega) (by rw[hj];simpa using ew) ⟨U,fin⟩) hs
theorem pH:z0 X (AAp X.K):=by
 intro value slice pins s σ H x y v u Q I rx ry h hs;obtain⟨p,xs,i,z,rfl,rfl,hq,he,q⟩:=h;cases rx;obtain⟨t,rfl⟩:=ry;obtain⟨its,r,pl,hz⟩:=I.tuple hq;obtain⟨j,h1,h2,h3,h4,h5⟩:=j9 he;obtain⟨w,ew,rw'⟩:=r.get h2;have hl:=r.length;have hn:=aB;have fin:EP X pins σ Q w s:=⟨z,H,I,rw',q⟩;exact Ou (x:=w) pl.typeIs slot_tuple_getitem.lookup
  (getItem_tuple (j:=j) (Q:=λr s'=>r=w/\EP X pins σ Q r s') pl (by omega) (by omega) (by rw[Ar,<-hl];exact h1) (by simpa using ew) ⟨U,fin⟩) hs
theorem jA(its:List Value)(n j:Nat)(u:Value):Obj.mapSeq (·.setIfInBounds j u) {cls:=.type "list",data:=.seq its.toArray n}={cls:=.type "list",data:=.seq (its.set j u).toArray n}:=by
 simp[Obj.mapSeq]
theorem Inv.lst{pins:List (Addr×Obj)}{σ:St}{H:Hp}{s:Shared}{p:Addr}{xs:List V}(I:Inv X pins σ H s)(h:H p=some (.lst xs)):
 ∃(its:List Value)(n:Nat),Vals xs its/\s.heap.get? p=some {cls:=.type "list",data:=.seq its.toArray n}/\xs.length<=sizeLine:=by
 obtain⟨z,its,n,r,e⟩:=I.hok p _ h;exact⟨its,n,r,e,z⟩
theorem Inv.wG{pins:List (Addr×Obj)}{σ:St}{H:Hp}{s:Shared}{p:Addr}{xs ys:List V}{its its':List Value}{n n':Nat}{f:Obj->Obj}(I:Inv X pins σ H s)(h:H p=some (.lst xs))
 (ho:s.heap.get? p=some {cls:=.type "list",data:=.seq its.toArray n}) (hf:f {cls:=.type "list",data:=.seq its.toArray n}={cls:=.type "list",data:=.seq its'.toArray n'}) (r:Vals ys its') (hz:ys.length<=sizeLine) (t:Nat):
 Inv X pins σ (upd H p (.lst ys)) {s with heap:=s.heap.update p f,toks:=t}:=by
 have e:(s.heap.update p f).get? p=some {cls:=.type "list",data:=.seq its'.toArray n'}:=by
  rw[Jw f ho (by rw[hf]<;>rfl),hf]
 refine I.write (x:=p) (e:=p) (by rw[h];trivial) (.inl U) (λb u hb q=>(Ov _ _ (CI hb)).trans q) ⟨_,e⟩ ?_;exact⟨hz,its',n',r,e⟩
inductive AAq(o i v:V)(H:Hp)(Q:Hp->Prop):Prop
 |mk(p:_)(xs:_)(k:_)(j:_)(h0:o=.ref p)(h1:i=.int k)(h2:H p=some (.lst xs))(h3:j7 xs.length k=some j)(h4:Q (upd H p (.lst (xs.set j v))))
def zM:V->V->V->Hp->(Hp->Prop)->Prop:=λo i v H Q=>AAq o i v H Q
theorem set_list:yT X zM:=by
 intro pins s σ H o i v ov iv u Q I ro ri rv h;obtain⟨p,xs,k,j,rfl,rfl,hp,hj,q⟩:=h;cases ro;obtain⟨t,rfl⟩:=ri;obtain⟨its,n,r,ho,hz⟩:=I.lst hp;obtain⟨h1,h2,h3,h4⟩:=j8 hj;have hl:=r.length;have hn:=aB;have I':Inv X pins σ (upd H p (.lst (xs.set j v))) {s with heap:=s.heap.update p (Obj.mapSeq (·.setIfInBounds j u))}:=
  I.wG hp ho (jA its n j u) (r.set rv j) (by rw[Cq];exact hz) s.toks
 by_cases h0:0<=k
 ·have hk:k.toNat=j:=by
   rw[XE h0 h4]at h1;exact BB h1
  exact PySem.W.ki_setAt ho h0 (by omega) (by rw[Ar,<-hl];exact h4) (by rw[hk];exact⟨_,I',q⟩)
 ·have hk:(k+(its.toArray.size:Int)).toNat=j:=by
   rw[VL (by omega) h3]at h1;rw[Ar,<-hl];exact BB h1
  exact PySem.W.ki_setBack ho (by omega) (by rw[Ar,<-hl];exact h3) (by omega) (by rw[hk];exact⟨_,I',q⟩)
theorem cP(lo hi:Option Int)(n:Nat):(sliceBounds lo hi none n).1=((HT.X5 n 0 lo:Nat):Int)/\(sliceBounds lo hi none n).2.1=((HT.X5 n n hi:Nat):Int)/\(sliceBounds lo hi none n).2.2=1:=by
 refine⟨?_,?_,U⟩
 ·cases lo with
  |none=>simp[sliceBounds,HT.X5]
  |some i=>
   simp only[sliceBounds,HT.X5,Wi,show(1:Int)>0 by decide,MI];by_cases h:i<0
   ·simp only[h,MI]<;>omega
   ·simp only[h,if_false]<;>omega
 ·cases hi with
  |none=>simp[sliceBounds,HT.X5]
  |some i=>
   simp only[sliceBounds,HT.X5,Wi,show(1:Int)>0 by decide,MI];by_cases h:i<0
   ·simp only[h,MI]<;>omega
   ·simp only[h,if_false]<;>omega
theorem Zk(its:List Value)(lo hi:Option Int):slicePick its.toArray lo hi none=((its.drop (HT.X5 its.length 0 lo)).take (HT.X5 its.length its.length hi-HT.X5 its.length 0 lo)).toArray:=by
 obtain⟨h1,h2,h3⟩:=cP lo hi its.toArray.size;unfold slicePick;rw[h1,h2,h3];simp only[sliceRange_one,pick_run,Ar]<;>rfl
inductive XSl(K:PySem.W.Frag)(x:V)(lo hi:Option Int)(H:Hp)(Q:VK):Prop
 |mk(a:_)(xs:_)(h0:x=.ref a)(h1:A1 K H a xs)(h2:∀p,H p=none->Q (.ref p) (upd H p (.lst (PN xs lo hi))))
def rj(K:PySem.W.Frag):V->Option Int->Option Int->Hp->VK->Prop:=λx lo hi H Q=>XSl K x lo hi H Q
theorem Gs:SlR X (rj X.K):=by
 intro pins s σ H x v vl vu lo hi sl Q I rx hs pl pu h;obtain⟨a,xs,rfl,hx,q⟩:=h;cases rx;obtain⟨its,r,ht,hz⟩:=I.list hx;have hlen:=r.length;refine⟨"list",_,VV.lookup,ht.isList.typeIs,?_⟩;refine wpAny_getItem_list_slice ht.isList hs pl pu .none (by simp) ?_ (by rw[Ar]<;>omega);rw[Zk,<-hlen];refine⟨.ref s.heap.objs.size,_,I.laid (t':=s.toks) (o:=.lst (PN xs lo hi)) (λb ob q=>Ae _ q) (AU _) ?_,U,q _ (I.hok.fresh (AU _))⟩;exact⟨Aw (fj xs lo hi) hz,_,0,(r.drop (HT.X5 xs.length 0 lo)).take (HT.X5 xs.length xs.length hi-HT.X5 xs.length 0 lo),A9 _ U⟩
def MN:V->Bool
 | .DX=>true
 | .bl _=>true
 | .int _=>true
 | .str _=>true
 |_=>false
def j_:V->V->Bool
 | .DX,.DX=>true
 | .bl a,.bl b=>a==b
 | .bl a,.int b=>(if a then 1 else 0)==b
 | .int a,.bl b=>a==(if b then 1 else 0)
 | .int a,.int b=>a==b
 | .str a,.str b=>a==b
 |_,_=>false
theorem wH{A:Around}{s:Shared}{y x:V}{u v:Value}(ry:RelV y u)(rx:RelV x v)(fy:MN y=true)(fx:MN x=true):SeqAt.EqAt A s u v (j_ y x):=by
 cases y with
 |DX=>
  cases ry;cases x with
  |DX=>cases rx;exact SeqAt.EqAt.same _
  |bl b=>cases rx;exact SeqAt.EqAt.none_bool b
  |int b=>obtain⟨t,rfl⟩:=rx;exact SeqAt.EqAt.none_int b t
  |str b=>obtain⟨t,rfl⟩:=rx;exact SeqAt.EqAt.none_str b t
  |_=>exact absurd (show false=true from fx) Au
 |bl a=>
  cases ry;cases x with
  |DX=>cases rx;exact SeqAt.EqAt.bool_none a
  |bl b=>cases rx;exact SeqAt.EqAt.bool_bool a b
  |int b=>obtain⟨t,rfl⟩:=rx;exact SeqAt.EqAt.bool_int a b t
  |str b=>obtain⟨t,rfl⟩:=rx;exact SeqAt.EqAt.bool_str a b t
  |_=>exact absurd (show false=true from fx) Au
 |int a=>
  obtain⟨t',rfl⟩:=ry;cases x with
  |DX=>cases rx;exact SeqAt.EqAt.int_none a t'
  |bl b=>cases rx;exact SeqAt.EqAt.int_bool a t' b
  |int b=>obtain⟨t,rfl⟩:=rx;exact SeqAt.EqAt.int_int a t' b t
  |str b=>obtain⟨t,rfl⟩:=rx;exact UD a t' b t
  |_=>exact absurd (show false=true from fx) Au
 |str a=>
  obtain⟨t',rfl⟩:=ry;cases x with
  |DX=>cases rx;exact SeqAt.EqAt.str_none a t'
  |bl b=>cases rx;exact SeqAt.EqAt.str_bool a t' b
  |int b=>obtain⟨t,rfl⟩:=rx;exact UE a t' b t
  |str b=>obtain⟨t,rfl⟩:=rx;exact SeqAt.EqAt.str_str a t' b t
  |_=>exact absurd (show false=true from fx) Au
 |_=>exact absurd (show false=true from fy) Au
def kC(x:V)(u:Value):Bool:=match u with
 | .none=>j_ .DX x
 | .bool b=>j_ (.bl b) x
 | .int i _=>j_ (.int i) x
 | .str z _=>j_ (.str z) x
 |_=>false
theorem aJ{x y:V}{u:Value}(r:RelV y u)(f:MN y=true):kC x u=j_ y x:=by
 cases y with
 |DX=>cases r;rfl
 |bl b=>cases r;rfl
 |int i=>obtain⟨t,rfl⟩:=r;rfl
 |str z=>obtain⟨t,rfl⟩:=r;rfl
 |_=>exact absurd (show false=true from f) Au
theorem bX{x:V}:∀{xs:List V}{us:List Value},Vals xs us->xs.all MN=true->us.any (kC x)=xs.any λy=>j_ y x
 |_,_,.nil,_=>rfl
 |y::xs,u::us,.cons r t,f=>by
  rw[DV,AR]at f;rw[IS,IS,aJ r f.1,bX t f.2]
theorem US{A:Around}{s:Shared}{x:V}{v:Value}(rx:RelV x v)(fx:MN x=true):∀{xs:List V}{us:List Value},Vals xs us->xs.all MN=true->∀u∈us,SeqAt.EqAt A s u v (kC x u)
 |_,_,.nil,_=>λu hu=>by cases hu
 |y::xs,u::us,.cons r t,f=>λu' hu=>by
  rw[DV,AR]at f;rcases AN.mp hu with rfl|hu
  ·rw[aJ r f.1];exact wH r rx f.1 fx
  ·exact US rx fx t f.2 u' hu
def yX(x:V)(xs:List V):Bool:=xs.any λy=>j_ y x
inductive XIn(K:PySem.W.Frag)(neg:Bool)(x y:V)(H:Hp)(Q:VK):Prop
 |mk(p:_)(xs:_)(h0:y=.ref p)(h1:(A1 K H p xs\/OM K H p xs))(h2:MN x=true)(h3:xs.all MN=true)(h4:Q (.bl (if neg then !yX x xs else yX x xs)) H)
def rIn(K:PySem.W.Frag)(neg:Bool):R2:=λx y H Q=>XIn K neg x y H Q
theorem mF:RO X (compareOp .In) (rIn X.K false):=by
 intro pins s σ H x y v u Q I rx ry h;obtain⟨p,xs,rfl,hq,fx,fs,q⟩:=h;cases ry;rcases hq with hq|hq
 ·obtain⟨its,r,pl,hz⟩:=I.list hq;refine SeqAt.in_listAt (kC x) pl.isList (λw hw=>US rx fx r fs w (by simpa using hw)) ⟨.bl _,H,I,U,?_⟩;rw[show its.toArray.any (kC x)=its.any (kC x)by simp,bX r fs];exact q
 ·obtain⟨its,r,pl,hz⟩:=I.tuple hq;refine SeqAt.in_tupleAt (kC x) pl (λw hw=>US rx fx r fs w (by simpa using hw)) ⟨.bl _,H,I,U,?_⟩;rw[show its.toArray.any (kC x)=its.any (kC x)by simp,bX r fs];exact q
theorem cQ:RV X (.builtin "len") (rZ X.K):=by
 intro pins s σ H xs us Q I r h;obtain⟨p,ys,rfl,hq,q⟩:=h;obtain⟨u,rfl,rx⟩:=vals1 r;cases rx;have hn:=aB;rcases hq with hq|hq
 ·obtain⟨its,r',pl,hz⟩:=I.list hq;have hlen:=r'.length;exact Calls.call_len_list pl.isList (by simp only[Ar]<;>omega) ⟨.int ys.length,H,I.tok _,⟨s.toks+1,by rw[Ar,hlen]⟩,q⟩
 ·obtain⟨its,r',pl,hz⟩:=I.tuple hq;have hlen:=r'.length;exact len_tuple pl (by simp only[Ar]<;>omega) ⟨.int ys.length,H,I.tok _,⟨s.toks+1,by rw[Ar,hlen]⟩,q⟩
theorem cR:RV X (.type "list") (λxs H Q=>∃p ys,xs=[.ref p]/\(A1 X.K H p ys\/OM X.K H p ys)/\∀l,H l=none->Q (.ref l) (upd H l (.lst ys))):=by
 intro pins s σ H xs us Q I r h;obtain⟨p,ys,rfl,hq,q⟩:=h;obtain⟨u,rfl,rx⟩:=vals1 r;cases rx;have fin:∀(its:List Value),Vals ys its->ys.length<=sizeLine->∀(h':Heap)(c':Nat),(∀b o',s.heap.get? b=some o'->h'.get? b=some o')->
  h'.get? s.heap.objs.size=some {cls:=.type "list",dict:=none,data:=.seq its.toArray c',slots:=#[]}->EP X pins σ Q (.ref s.heap.objs.size) {s with heap:=h'}:=λits r' hz h' c' kp e=>
  ⟨.ref s.heap.objs.size,_,I.laid (t':=s.toks) kp (AU _) (show EN X.prog X.w _ h' _ (.lst ys)from⟨hz,its,c',r',e⟩),U,q _ (I.hok.fresh (AU _))⟩
 rcases hq with hq|hq
 ·obtain⟨its,r',pl,hz⟩:=I.list hq;have hlen:=r'.length;obtain⟨o,ho,hc,n,hd⟩:=pl.isList;exact call_list_seq p (.inl U) ho hc hd (λh' c' kp e=>fin its r' hz h' c' kp e) (by simp only[Ar]<;>omega)
 ·obtain⟨its,r',pl,hz⟩:=I.tuple hq;have hlen:=r'.length;obtain⟨o,ho,hc,n,hd⟩:=pl;exact call_list_seq p (.inr U) ho hc hd (λh' c' kp e=>fin its r' hz h' c' kp e) (by simp only[Ar]<;>omega)
def tyV(K:PySem.W.Frag)(T:String)(x:V)(H:Hp):Prop:=match x with
 | .str _=>T="str"
 | .int _=>T="int"
 | .ref p=>(T="list"/\∃xs,A1 K H p xs)\/(T="tuple"/\∃o,K.lookup p=some o/\o.cls=.type "tuple"/\o.dict=none)\/
    (T="dict"/\((∃kvs,H p=some (.dK kvs))\/∃kvs,H p=some (.dT kvs)))\/(T="set"/\∃S n,H p=some (.set S n))
 |_=>False
theorem wI{pins:List (Addr×Obj)}{σ:St}{H:Hp}{s:Shared}{T:String}{x:V}{v:Value}(I:Inv X pins σ H s)(r:RelV x v)(ty:tyV X.K T x H):
 s.TypeIs v T/\∀a,v=.ref a->∃ob,s.heap.get? a=some ob/\ob.dict=none:=by
 cases x with
 |str z=>
  obtain⟨t,rfl⟩:=r;cases (show T="str" from ty);exact⟨typeIs_str s z t,λ_ e=>nomatch e⟩
 |int i=>
  obtain⟨t,rfl⟩:=r;cases (show T="int" from ty);exact⟨typeIs_int s i t,λ_ e=>nomatch e⟩
 |ref p=>
  cases r;rcases ty with ⟨rfl,xs,hq⟩|⟨rfl,o,hk,hc,hd⟩|⟨rfl,hk⟩|⟨rfl,S,n,hk⟩
  ·obtain⟨its,_,pl,_⟩:=I.list hq;refine⟨pl.isList.typeIs,λa e=>?_⟩;cases e;obtain⟨o,n,e,c,hd,_⟩:=pl;exact⟨o,e,hd⟩
  ·refine⟨⟨o,I.Zh p o hk,hc⟩,λa e=>?_⟩;cases e;exact⟨o,I.Zh _ o hk,hd⟩
  ·have z:∃o,s.heap.get? p=some o/\o.ExactDict:=by
    rcases hk with ⟨kvs,hk⟩|⟨kvs,hk⟩
    ·obtain⟨_,_,_,_,o,_,_,e,ex,_⟩:=I.hok p _ hk;exact⟨o,e,ex⟩
    ·obtain⟨_,_,_,_,o,_,_,e,ex,_⟩:=I.hok p _ hk;exact⟨o,e,ex⟩
   obtain⟨o,e,ex⟩:=z;refine⟨⟨o,e,ex.1⟩,λa e2=>?_⟩;cases e2;exact⟨o,e,ex.2.1⟩
  ·obtain⟨o,_,_,_,e,ex,_⟩:=I.hok p _ hk;refine⟨⟨o,e,ex.1⟩,λa e2=>?_⟩;cases e2;exact⟨o,e,ex.2.1⟩
 |_=>exact False.elim ty
def tBM(K:PySem.W.Frag)(T:String)(r:V->List V->Hp->VK->Prop)(to:TE)(t:TA):TE:=λσ H Q=>to σ H λx H1=>tyV K T x H1/\t σ H1 λxs H2=>r x xs H2 Q
variable{o e:Expr}{es:List Expr}{to:TE}{t:TA}{name:Str}{apos cpos:Pos}{T id:String}{r:V->List V->Hp->VK->Prop}
theorem GU(pa:PlainAttrs T)(slot:Slot T name id)(hty:typeOf (.builtin id)=pure (.type "method_descriptor"))(hm:MtR X id r)(ho:PE X o to)(ha:PA X (e::es) t)
 (hbase:attributeBase o name X.env (eval o X.env)=eval o X.env:=by rfl)
 (hfew:((backTo cpos (starEach (e::es) X.env)).all (λx=>!x.1)&&(backToKw cpos (keywordEach [] X.env)).all (λx=>x.1.isSome)
   &&decide ((e::es).length+([]:List Keyword).length+(if([]:List Keyword).isEmpty then 0 else 1)<30))=true:=by rfl)
 (hline:(apos.endLine==cpos.line)=true:=by rfl) (hs:starEach (e::es) X.env=(false,eval e X.env)::starEach es X.env:=by rfl) (hplain:(backTo cpos (starEach es X.env)).any (·.1)=false:=by rfl):
 PE X (.Call (.Attribute o name apos) (e::es) [] cpos) (tBM X.K T r to t):=by
 intro pins s σ H Q I h;refine wpAny_Call_method_late hbase hfew hline U (DQ (ho pins s σ H _ I h) λv s1 ⟨x,H1,I1,r1,ty,q1⟩=>?_);obtain⟨h1,h2⟩:=wI I1 r1 ty;refine⟨T,id,pa,slot,hty,h1,h2,?_⟩;have hA:=ha cpos pins s1 σ H1 _ I1 q1;rw[hs]at hA⊢;refine GL (by show(false||(backTo cpos (starEach es X.env)).any (·.1))=false;rw[hplain]<;>rfl) (Hh ?_);exact DQ hA λus s2 ⟨vs,H2,I2,r2,q2⟩=>hm pins s2 σ H2 x vs v us Q I2 r1 r2 q2
end
end L2
namespace L2
open PySem PySem.Spec PyProof.Rows
def z7(X:Cx)(id:String)(r:V->List V->Hp->VK->Prop):Prop:=
 ∀(pins:List (Addr×Obj))(s:Shared)(σ:St)(H:Hp)(x:V)(xs:List V)(v:Value)(us:List Value)(Q:VK),Inv X pins σ H s->RelV x v->Vals xs us->r x xs H Q->
  wpAny (model X.prog X.w) X.A (call (.builtin id) (v::us)) (EP X pins σ Q) X.xe s
theorem Vals.one:∀{x:V}{us:List Value},Vals [x] us->∃u,us=[u]/\RelV x u
 |_,_,.cons r .nil=>⟨_,U,r⟩
theorem Vals.two:∀{x y:V}{us:List Value},Vals [x,y] us->∃u v,us=[u,v]/\RelV x u/\RelV y v
 |_,_,_,.cons r (.cons q .nil)=>⟨_,_,U,r,q⟩
theorem Vals.reverse{xs:List V}{us:List Value}(h:Vals xs us):Vals xs.reverse us.reverse:=by
 induction h with
 |nil=>exact .nil
 |cons r t ih=>rw[VW,VW];exact Vals.append ih (.cons r .nil)
section
variable{X:Cx}{pins:List (Addr×Obj)}{σ:St}{H:Hp}{s:Shared}{l b:Addr}{xs ys zs:List V}
theorem Inv.vP{its its':List Value}{n:Nat}{f:Array Value->Array Value}{t':Nat}(I:Inv X pins σ H s)(hH:H l=some (.lst xs))
 (e:s.heap.get? l=some {cls:=.type "list",data:=.seq its.toArray n}) (hf:f its.toArray=its'.toArray) (hv:Vals ys its') (hz:ys.length<=sizeLine):
 Inv X pins σ (upd H l (.lst ys)) {s with heap:=s.heap.update l (Obj.mapSeq f),toks:=t'}:=by
 have q:=PySem.IsL.update e f;rw[hf]at q;refine I.write (x:=l) (e:=l) (by rw[hH];exact trivial) (.inl U) (λb' u hb hu=>(Ov s.heap (Obj.mapSeq f) (CI hb)).trans hu) ⟨_,q⟩ ?_;exact⟨hz,its',_,hv,q⟩
theorem Inv.AAr{its:List Value}{t':Nat}(I:Inv X pins σ H s)(hv:Vals ys its)(hz:ys.length<=sizeLine):
 Inv X pins σ (upd H s.heap.objs.size (.lst ys)) {s with heap:=s.heap.push {cls:=.type "list",data:=.seq its.toArray},toks:=t'}:=
 I.laid (λ_ _ q=>Ae _ q) (AU _) ⟨hz,its,0,hv,A9 _ U⟩
theorem Inv.fresh(I:Inv X pins σ H s):H s.heap.objs.size=none:=I.hok.fresh (AU _)
theorem Inv.iW(I:Inv X pins σ H s)(hH:H l=some (.lst xs)):xs.length<=sizeLine/\∃(its:List Value)(n:Nat),Vals xs its/\xs.length=its.length/\s.heap.get? l=some {cls:=.type "list",data:=.seq its.toArray n}:=by
 obtain⟨z,its,n,r,e⟩:=I.hok l _ hH;exact⟨z,its,n,r,r.length,e⟩
theorem qP{n:Nat}(h:n<=sizeLine):Builtin.List.listTooLong n=false:=by
 unfold Builtin.List.listTooLong;exact BJ (by omega)
end
section
variable{X:Cx}
inductive AAs(x:V)(vs:List V)(H:Hp)(Q:VK):Prop
 |mk(l:_)(xs:_)(y:_)(h0:x=.ref l)(h1:vs=[y])(h2:H l=some (.lst xs))(h3:xs.length<sizeLine)(h4:Q .DX (upd H l (.lst (xs++[y]))))
def tL:V->List V->Hp->VK->Prop:=λx vs H Q=>AAs x vs H Q
theorem GA:z7 X "list.append" tL:=by
 intro pins s σ H x vs v us Q I rx rv h;obtain⟨l,xs,y,rfl,rfl,hH,hz,q⟩:=h;cases rx;obtain⟨u,rfl,ru⟩:=rv.one;obtain⟨z,its,n,r,hl,e⟩:=I.iW hH;refine Tz F.slot_list_append ⟨_,e,U⟩ F.entry_list_append (F.args_list_append_2 _ _) (PySem.list_append l its.toArray n u (by rw[Ar];omega)) ⟨e,?_⟩;refine⟨.DX,_,I.vP (its':=its++[u]) hH e (by simp) (r.append (.cons ru .nil)) ?_,U,q⟩;rw[AL,Gi];omega
inductive AAt(x:V)(vs:List V)(H:Hp)(Q:VK):Prop
 |mk(l:_)(b:_)(xs:_)(zs:_)(h0:x=.ref l)(h1:vs=[.ref b])(h2:H l=some (.lst xs))(h3:H b=some (.lst zs))(h4:xs.length+zs.length<=sizeLine)(h5:Q .DX (upd H l (.lst (xs++zs))))
def kD:V->List V->Hp->VK->Prop:=λx vs H Q=>AAt x vs H Q
theorem Jg:z7 X "list.extend" kD:=by
 intro pins s σ H x vs v us Q I rx rv h;obtain⟨l,b,xs,zs,rfl,rfl,hH,hB,hz,q⟩:=h;cases rx;obtain⟨u,rfl,ru⟩:=rv.one;cases ru;obtain⟨z,its,n,r,hl,e⟩:=I.iW hH;obtain⟨z2,its2,n2,r2,hl2,e2⟩:=I.iW hB;have hsz:its.toArray.size+its2.toArray.size<=sizeLine:=by rw[Ar,Ar];omega
 have zN:¬(!its.toArray.isEmpty&&Builtin.List.listTooLong (its.toArray.size+its2.toArray.size))=true:=by
  rw[qP hsz,Ly];exact Au
 refine Tz F.slot_list_extend ⟨_,e,U⟩ F.entry_list_extend (F.args_list_extend_2 _ _)
  (AutoSeq1.list_extend_list_list_0 l its.toArray n b its2.toArray n2 zN (by rw[Ar];omega) (by omega)) ⟨e,e2,?_⟩
 refine⟨.DX,_,I.vP (its':=its++its2) hH e (by simp) (r.append r2) ?_,U,q⟩;rw[AL];omega
inductive AAu(x y:V)(H:Hp)(Q:VK):Prop
 |mk(l:_)(b:_)(xs:_)(zs:_)(h0:x=.ref l)(h1:y=.ref b)(h2:H l=some (.lst xs))(h3:H b=some (.lst zs))(h4:xs.length+zs.length<=sizeLine)(h5:∀p,H p=none->Q (.ref p) (upd H p (.lst (xs++zs))))
def vQ:R2:=λx y H Q=>AAu x y H Q
theorem H_:RO X (binaryOp .Add) vQ:=by
 intro pins s σ H x y v u Q I rx ry h;obtain⟨l,b,xs,zs,rfl,rfl,hH,hB,hz,q⟩:=h;cases rx;cases ry;obtain⟨z,its,n,r,hl,e⟩:=I.iW hH;obtain⟨z2,its2,n2,r2,hl2,e2⟩:=I.iW hB;refine PySem.P.add_list e e2 ?_ (by rw[Ar,Ar];omega);have ea:its.toArray++its2.toArray=(its++its2).toArray:=by simp
 rw[ea];exact⟨.ref _,_,I.AAr (t':=s.toks) (r.append r2) (by rw[AL];omega),U,q _ I.fresh⟩
end
section
variable{prog:Program}{w:World}{A:Around}{E:Value->Shared->Prop}{s:Shared}
set_option maxRecDepth 100000 in
end
section
variable{X:Cx}
end
end L2
namespace L2
open PySem PySem.Spec PyProof.Rows
theorem Vals.ints:∀{ns:List Int}{us:List Value},Vals (ns.map V.int) us->IntsAre us ns
 | [],us,h=>by
   rw[DF]at h;cases h;exact IntsAre.nil
 |n::ns,us,h=>by
  rw[Ay]at h;cases h with
  |cons r t=>
   obtain⟨k,rfl⟩:=r;exact IntsAre.cons n k (Vals.ints t)
theorem Vals.AAv{a:Addr}{us:List Value}(r:Vals [V.ref a] us):us=[Value.ref a]:=by
 cases r with
 |cons r t=>
  cases t;cases r;rfl
section
variable{prog:Program}{w:World}{A:Around}{E:Value->Shared->Prop}{s:Shared}{l:Addr}{its:List Value}{ns:List Int}{Q:Value->Shared->Prop}
theorem tM(hh:A.handled=none)(hl:s.heap.IsList l its.toArray)(hi:IntsAre its ns)
 (h:∀h' tk t',(∀b o,s.heap.get? b=some o->h'.get? b=some o)->Q (.int ns.sum t') {s with heap:=h',toks:=tk}):wpAny (model prog w) A (call (.builtin "sum") [.ref l]) Q E s:=by
 obtain⟨xs,e⟩:=hi.allInts.items;have hn:numsOf (intItems xs).toList=ns:=by rw[<-e];exact hi.numsOf
 rw[nums_intItems]at hn;rw[e]at hl;refine PySem.sum_intListG hh hl λh' tk t' hk=>?_;have:=h h' tk t' hk;rw[preSum_eq,De (by simp),hn];exact this
end
section
variable{X:Cx}
inductive AAw(K:PySem.W.Frag)(vs:List V)(H:Hp)(Q:VK):Prop
 |mk(a:Addr)(ns:List Int)(h0:vs=[V.ref a])(h1:A1 K H a (ns.map V.int))(h2:Q (.int ns.sum) H)
def AAx(K:PySem.W.Frag):List V->Hp->VK->Prop:=λvs H Q=>AAw K vs H Q
theorem pI(hc:X.calm=true):RV X (.builtin "sum") (AAx X.K):=by
 intro pins s σ H vs us Q I r h;obtain⟨a,ns,rfl,hs,q⟩:=h;obtain⟨its,rv,hl,_⟩:=I.list hs;rw[Vals.AAv r];exact tM (I.ok.hd hc) hl.isList rv.ints λh' tk t' hk=>⟨.int _,H,I.kept hk,⟨_,U⟩,q⟩
end
section
variable{X:Cx}
inductive AAy(K:PySem.W.Frag)(x:V)(xs:List V)(H:Hp)(Q:VK):Prop
 |mk(a:Addr)(ys:List V)(y:V)(j:Nat)(z:V)(h0:x=V.ref a)(h1:xs=[y])(h2:A1 K H a ys)(h3:MN y=true)(h4:ys.all MN=true)(h5:ys[j]?=some z)(h6:j_ z y=true)(h7:(∀(m:Nat)(z':V),m<j->ys[m]?=some z'->j_ z' y=false))(h8:Q (.int (j:Nat)) H)
def aK(K:PySem.W.Frag):V->List V->Hp->VK->Prop:=λx xs H Q=>AAy K x xs H Q
theorem kE{ys:List V}(f:ys.all MN=true){j:Nat}{z:V}(h:ys[j]?=some z):MN z=true:=A0.mp f z (AS h)
theorem dz:MtR X "list.index" (aK X.K):=by
 intro pins s σ H x xs v us Q I rx rxs h;obtain⟨a,ys,y,j,z,rfl,rfl,hs,fy,z8,hz,hzj,hno,q⟩:=h;cases rx;cases rxs with
 |cons ry rt=>
  rename_i uy ut;cases rt;obtain⟨its,rv,⟨⟨cls,dd,data,sl⟩,n,ho,hc,hdn,hd⟩,hlen⟩:=I.list hs;simp only at hc hd;subst hc hd;obtain⟨u,hu,ru⟩:=rv.get hz;obtain⟨hjl,hje⟩:=AZ.mp hu;have hvl:=rv.length;have hj:j<its.toArray.size:=by simpa using hjl
  have hsl:=D7;refine Tz PySem.F.slot_list_index ⟨_,ho,U⟩ PySem.F.entry_list_index (PySem.F.args_list_index_2 _ _)
   (SeqAt.list_indexAt a its.toArray n dd sl uy (kC y) j hj (by omega) ?_ ?_) ⟨ho,λu' z9=>US ry fy rv z8 u' (by simpa using z9),?_⟩
  ·(have e1:its.toArray[j]=u:=by simpa using hje);rw[e1,aJ ru (kE z8 hz)];exact hzj
  ·intro m hm z_;(have hml:m<its.length:=by simpa using hm);(have hmy:m<ys.length:=by omega);have hy':ys[m]?=some ys[m]:=Ak hmy;obtain⟨u2,yY,ru2⟩:=rv.get hy';obtain⟨_,yZ⟩:=AZ.mp yY;(have e1:its.toArray[m]=u2:=by simpa using yZ);rw[e1,aJ ru2 (kE z8 hy')];exact hno m _ z_ hy'
  ·exact⟨.int (j:Nat),H,I.tok _,⟨_,U⟩,q⟩
end
section
variable{X:Cx}
end
section
variable{X:Cx}
end
section
variable{X:Cx}{pins:List (Addr×Obj)}{σ:St}{H:Hp}{s:Shared}
end
section
variable{X:Cx}
end
end L2
namespace L2
open PySem PySem.Spec PyProof.Rows
abbrev pJ(h:Heap)(c:Addr)(v:Option Value):Prop:=h.IsCell c v
def AAz(scope sc:Scope):Scope:=
 {scope with names:=scope.names.map λ(n,k)=>if(k==.free&&sc.kind==.function&&sc.names.lookup n==some .cell)then(n,.cell)else(n,k)}
def Dl(cells:List (Str×Addr)):List (Str×NameKind)->List (Str×Addr)->List (Str×Addr)
 | [],acc=>acc
 |(n,k)::r,acc=>if k==.free then Dl cells r ((n,(cells.lookup n).getD 0)::acc)else Dl cells r acc
theorem U4(env:Env)(f:Str×NameKind->List (Str×Addr)->Sem (ForInStep (List (Str×Addr))))
 (hf:∀n k c,f (n,k) c=if k==.free then(do let a <-cellOf env n;pure (.yield ((n,a)::c)))else pure (.yield c)):
 ∀(names:List (Str×NameKind))(acc:List (Str×Addr)),(∀y∈names,y.2=.free->∃c,env.cells.lookup y.1=some c)->forIn names acc f=pure (Dl env.cells names acc)
 | [],acc,_=>by rw[Lz];rfl
 |(n,k)::r,acc,h=>by
  rw[O_,hf];have ih:=λacc=>U4 env f hf r acc λy hy=>h y (AV _ hy);unfold Dl;by_cases hk:(k==NameKind.free)=true
  ·rw[AJ hk,AJ hk];obtain⟨c,hc⟩:=h (n,k) Ac (by simpa using hk);(have e:cellOf env n=pure c:=by unfold cellOf;rw[hc]);rw[e];(have e2:(env.cells.lookup n).getD 0=c:=by rw[hc];rfl);rw[e2];exact ih _
  ·rw[AI hk,AI hk];exact ih _
theorem jB{scope:Scope}{env:Env}(h:∀y∈scope.names,y.2=.free->∃c,env.cells.lookup y.1=some c):closureFor scope env=pure (Dl env.cells scope.names []):=by
 simp only[closureFor];rw[U4 env _ (λn k c=>rfl) scope.names [] h];rfl
theorem mem_lookup{α:Type}:∀{l:List (Str×α)}{n:Str}{c:α},(n,c)∈l->∃c',l.lookup n=some c'
 |(k,v)::r,n,c,h=>by
  rw[En];cases hb:n==k with
  |true=>exact⟨_,U⟩
  |false=>
   rcases AN.mp h with e|h
   ·cases e;simp at hb
   ·exact mem_lookup h
theorem MU{cells:List (Str×Addr)}:∀{names:List (Str×NameKind)}{acc:List (Str×Addr)}{n:Str}{c:Addr},(n,c)∈Dl cells names acc->(n,c)∈acc\/((n,.free)∈names/\c=(cells.lookup n).getD 0)
 | [],_,_,_,h=>.inl h
 |(m,k)::r,acc,n,c,h=>by
  unfold Dl at h
  split at h
  ·rename_i hk;(have hk:k=.free:=by simpa using hk);rcases MU h with h|⟨h1,h2⟩
   ·rcases AN.mp h with e|h
    ·cases e;exact .inr ⟨hk▸Ac,U⟩
    ·exact .inl h
   ·exact .inr ⟨AV _ h1,h2⟩
  ·rcases MU h with h|⟨h1,h2⟩
   ·exact .inl h
   ·exact .inr ⟨AV _ h1,h2⟩
theorem P5{cells:List (Str×Addr)}:∀{names:List (Str×NameKind)}{acc:List (Str×Addr)}{p:Str×Addr},p∈acc->p∈Dl cells names acc
 | [],_,_,h=>h
 |(m,k)::r,acc,p,h=>by
  unfold Dl
  split
  ·exact P5 (AV _ h)
  ·exact P5 h
theorem P6{cells:List (Str×Addr)}:∀{names:List (Str×NameKind)}{acc:List (Str×Addr)}{n:Str},(n,.free)∈names->(n,(cells.lookup n).getD 0)∈Dl cells names acc
 |(m,k)::r,acc,n,h=>by
  unfold Dl;rcases AN.mp h with e|h
  ·cases e;exact P5 Ac
  ·split
   ·exact P6 h
   ·exact P6 h
theorem Nb:∀{names:List (Str×NameKind)}{h:Heap}{acc:List (Str×Addr)}{x:Str}{c:Addr},(x,c)∈cellsFrom h.objs.size names acc->
 (x,c)∈acc\/((x,.cell)∈names/\h.objs.size<=c/\pJ (pushCells h names) c none)
 | [],_,_,_,_,h=>.inl h
 |(n,k)::r,h,acc,x,c,hm=>by
  unfold cellsFrom at hm;unfold pushCells
  split at hm
  ·rename_i hk;rw[AJ hk];(have hk:k=.cell:=by simpa using hk);rw[<-Bp h {cls:=.type "cell",data:=.cell none}]at hm;rcases Nb hm with hm|⟨h1,h2,h3⟩
   ·rcases AN.mp hm with e|hm
    ·cases e;exact .inr ⟨hk▸Ac,AU _,_,K7 r _ _ _ (A9 _ U),U⟩
    ·exact .inl hm
   ·rw[Bp]at h2;exact .inr ⟨AV _ h1,JZ h2,h3⟩
  ·rename_i hk;rw[AI hk];rcases Nb hm with hm|⟨h1,h2,h3⟩
   ·exact .inl hm
   ·exact .inr ⟨AV _ h1,h2,h3⟩
theorem Qg:∀{names:List (Str×NameKind)}{n:Nat}{acc:List (Str×Addr)}{p:Str×Addr},p∈acc->p∈cellsFrom n names acc
 | [],_,_,_,h=>h
 |(m,k)::r,n,acc,p,h=>by
  unfold cellsFrom
  split
  ·exact Qg (AV _ h)
  ·exact Qg h
theorem Vm:∀{names:List (Str×NameKind)}{n:Nat}{acc:List (Str×Addr)}{x:Str},(x,.cell)∈names->∃c,(x,c)∈cellsFrom n names acc
 |(m,k)::r,n,acc,x,h=>by
  unfold cellsFrom;rcases AN.mp h with e|h
  ·cases e;exact⟨n,Qg Ac⟩
  ·split
   ·exact Vm h
   ·exact Vm h
theorem Vn:∀{names:List (Str×NameKind)}{h:Heap}{acc:List (Str×Addr)}{x y:Str}{c:Addr},(∀p∈acc,p.2<h.objs.size)->(∀x y c,(x,c)∈acc->(y,c)∈acc->x=y)->
 (x,c)∈cellsFrom h.objs.size names acc->(y,c)∈cellsFrom h.objs.size names acc->x=y
 | [],_,_,_,_,_,_,hi,h1,h2=>hi _ _ _ h1 h2
 |(n,k)::r,h,acc,x,y,c,hl,hi,h1,h2=>by
  unfold cellsFrom at h1 h2
  split at h1
  ·rename_i hk;rw[AJ hk]at h2;rw[<-Bp h {cls:=.type "cell",data:=.cell none}]at h1 h2;refine Vn (h:=h.push _) (λp hp=>?_) (λx y c a b=>?_) h1 h2
   ·rw[Bp];rcases AN.mp hp with rfl|hp
    ·exact Hv _
    ·exact EJ (hl p hp)
   ·rcases AN.mp a with e|a<;>rcases AN.mp b with e'|b
    ·cases e;cases e';rfl
    ·cases e;exact absurd (hl _ b) (DU _)
    ·cases e';exact absurd (hl _ a) (DU _)
    ·exact hi _ _ _ a b
  ·rename_i hk;rw[AI hk]at h2;exact Vn hl hi h1 h2
theorem fu{M:Model}{A:Around}{E:Value->Shared->Prop}{s:Shared}{scope:Scope}{globals:Addr}{closure:List (Str×Addr)}{qual:Str}{func:Option Addr}{code:Value}{around:Env}{builtins:Addr}{Q:Env->Shared->Prop}
 (h:Q (newEnv scope s.heap.objs.size globals (cellsFrom (s.heap.objs.size+1) scope.names closure) qual func code (some around) builtins)
   {s with heap:=pushCells (s.heap.push {cls:=.type "dict",data:=.dict #[]}) scope.names}):
 wpAny M A (newFunctionEnv scope globals closure [] qual func code (some around) builtins) Q E s:=by
 simp only[newFunctionEnv,UI,MI];refine AH (wpAny_alloc ?_);refine AH (wpAny_layCells _ (λn k c=>rfl) scope.names closure _ _ ?_);rw[show({s with heap:=s.heap.push {cls:=.type "dict",data:=.dict #[]}}:Shared).heap.objs.size=s.heap.objs.size+1 from Bp ..];rw[Lz];exact AH (BA (BA h))
theorem P7{sc:Scope}:∀{names:List (Str×NameKind)}{x:Str}{k:NameKind},
 (names.map λ(n,k)=>if(k==NameKind.free&&sc.kind==.function&&sc.names.lookup n==some .cell)then(n,NameKind.cell)else(n,k)).lookup x=some k->
 ∃k',names.lookup x=some k'/\(k=k'\/(k'=.free/\k=.cell))
 | [],_,_,h=>by simp at h
 |(n,k₀)::r,x,k,h=>by
  have ih:=@P7 sc r x k;have h':List.lookup x ((if(k₀==NameKind.free&&sc.kind==.function&&sc.names.lookup n==some .cell)=true then(n,NameKind.cell)else(n,k₀))::(r.map _))=some k:=h;cases hx:x==n with
  |true=>
   simp only[En,hx];by_cases hc:(k₀==NameKind.free&&sc.kind==.function&&sc.names.lookup n==some .cell)=true
   ·rw[AJ hc]at h';simp only[En,hx]at h';cases h';simp only[AR,EE]at hc;exact⟨k₀,U,.inr ⟨hc.1.1,U⟩⟩
   ·rw[AI hc]at h';simp only[En,hx]at h';cases h';exact⟨_,U,.inl U⟩
  |false=>
   simp only[En,hx];by_cases hc:(k₀==NameKind.free&&sc.kind==.function&&sc.names.lookup n==some .cell)=true
   ·rw[AJ hc]at h';simp only[En,hx]at h';exact ih h'
   ·rw[AI hc]at h';simp only[En,hx]at h';exact ih h'
structure cS(N:List Str)(sc scope:Scope)(own:List (Str×Nat)):Prop where
 kind:scope.kind=.function
 uniq:∀y∈scope.names,scope.names.lookup y.1=some y.2
 ix:∀p∈own,N[p.2]?=some p.1
 free:∀y∈scope.names,y.2=.free->sc.names.lookup y.1=some .cell\/sc.names.lookup y.1=some .free
 own:∀y∈scope.names,y.2=.local\/y.2=.cell->y.1∈own.map (·.1)\/y.1∉N
def wipe(σ:St):List Nat->St
 | []=>σ
 |v::vs=>(wipe σ vs).set v none
theorem P8(σ:St):∀vs:List Nat,(wipe σ vs).length=σ.length
 | []=>rfl
 |v::vs=>by unfold wipe;rw[Cq,P8 σ vs]
theorem Vo{σ:St}{i:Nat}{x:V}:∀{vs:List Nat},(wipe σ vs)[i]?=some (some x)->σ[i]?=some (some x)/\i∉vs
 | [],h=>⟨h,by simp⟩
 |v::vs,h=>by
  unfold wipe at h;by_cases hi:v=i
  ·subst hi;by_cases hv:v<(wipe σ vs).length
   ·rw[Cz hv]at h;cases h
   ·rw[CT (by simpa using hv)]at h;cases h
  ·rw[EB hi]at h;obtain⟨h1,h2⟩:=Vo h;exact⟨h1,by simp only[AN,RT];exact⟨λe=>hi e.symm,h2⟩⟩
abbrev Cx.Vp(X:Cx)(s:Shared)(H:Hp)(scope:Scope)(cenv:Env)(fp:List Addr):Cx:={X with U0:=s,vv:=H,env:=cenv,outer:=X.stack,ex:=fp,fn:=λx=>scope.names.lookup x==some .cell,pn:=[],xe:=λ_ _=>False}
section
variable{X:Cx}{pins:List (Addr×Obj)}{σ:St}{H:Hp}{s:Shared}
theorem fz{scope:Scope}{own:List (Str×Nat)}{fp:List Addr}(I:Inv X pins σ H s)(ok:cS X.N X.env.scope scope own)(hN:X.N.Nodup)(hfp:∀b∈fp,Lk X pins H b/\b<s.heap.objs.size):
 Inv (X.Vp s H scope (compEnvC scope (cellsFrom (s.heap.objs.size+1) scope.names (Dl X.env.cells scope.names [])) s.heap.objs.size X.env) fp) [] (wipe σ (own.map (·.2))) H {s with heap:=pushCells (s.heap.push {cls:=.type "dict",data:=.dict #[]}) scope.names}:=by
 have hfree:∀y∈scope.names,y.2=.free->∃c,X.env.cells.lookup y.1=some c:=λy hy e=>by
  rcases ok.free y hy e with k|k
  ·exact I.ok.has _ (.inl k)
  ·exact I.ok.has _ (.inr k)
 generalize hcenv:compEnvC scope (cellsFrom (s.heap.objs.size+1) scope.names (Dl X.env.cells scope.names [])) s.heap.objs.size X.env=cenv;have kp:∀b o,s.heap.get? b=some o->(pushCells (s.heap.push {cls:=.type "dict",data:=.dict #[]}) scope.names).get? b=some o:=λb o e=>K7 _ _ _ _ (Ae _ e);have hL:cenv.locals=s.heap.objs.size:=by rw[<-hcenv];rfl
 have hcl:cenv.cells=cellsFrom (s.heap.objs.size+1) scope.names (Dl X.env.cells scope.names []):=by rw[<-hcenv];rfl
 have hsc:cenv.scope=AAz scope X.env.scope:=by rw[<-hcenv];rfl
 rw[<-Bp s.heap {cls:=.type "dict",data:=.dict #[]}]at hcl;have cm:∀{y c},(y,c)∈Dl X.env.cells scope.names []->X.env.cells.lookup y=some c/\c<s.heap.objs.size:=λ{y c} hm=>by
  rcases MU hm with hm|⟨h1,rfl⟩
  ·cases hm
  ·obtain⟨c,hc⟩:=hfree _ h1 U;rw[hc];obtain⟨w,z⟩:=I.cell _ _ hc;exact⟨U,z.lt⟩
 have mem:∀{y c},cenv.cells.lookup y=some c->(X.env.cells.lookup y=some c/\c<s.heap.objs.size)\/(s.heap.objs.size+1<=c/\pJ (pushCells (s.heap.push {cls:=.type "dict",data:=.dict #[]}) scope.names) c none):=λ{y c} e=>by
  rw[hcl]at e;rcases Nb (PySem.mem_of_lookup e)with hm|⟨_,h2,h3⟩
  ·exact .inl (cm hm)
  ·rw[Bp]at h2;exact .inr ⟨h2,h3⟩
 have look:∀{y},scope.names.lookup y=some .free->∃c,cenv.cells.lookup y=some c/\X.env.cells.lookup y=some c:=λ{y} hl=>by
  have hy:(y,NameKind.free)∈scope.names:=PySem.mem_of_lookup hl;obtain⟨c',e'⟩:=mem_lookup (Qg (names:=scope.names) (n:=(s.heap.push {cls:=.type "dict",data:=.dict #[]}).objs.size) (P6 (cells:=X.env.cells) (acc:=[]) hy));rw[<-hcl]at e';refine⟨c',e',?_⟩;rw[hcl]at e';rcases Nb (PySem.mem_of_lookup e')with hm|⟨h1,_,_⟩
  ·exact(cm hm).1
  ·have:=ok.uniq _ h1;rw[hl]at this;cases this
 have okB:(X.Vp s H scope cenv fp).Ok:=by
  refine⟨I.ok.mod,by show cenv.scope.kind=_;rw[hsc];exact ok.kind,by show cenv.globals=_;rw[<-hcenv];exact I.ok.glob,by show cenv.builtins=_;rw[<-hcenv];exact I.ok.blt,by show s.heap.objs.size<=cenv.locals;rw[hL];exact AU _,
   λy z c e1 e2=>?_,λy hy=>?_,λy c z e=>?_,I.ok.hd,I.ok.frames,.inl U,λb hb=>⟨?_,λy c e z=>?_⟩,I.bs,Aw I.ok.jr I.sz,λb o e hb=>?_,λb hb z=>?_,I.stack,I.jt⟩
  ·have e1:cenv.cells.lookup y=some c:=e1;have e2:cenv.cells.lookup z=some c:=e2;rw[hcl]at e1 e2;refine Vn (λp hp=>?_) (λy z c a b=>I.ok.inj y z c (cm a).1 (cm b).1) (PySem.mem_of_lookup e1) (PySem.mem_of_lookup e2);rw[Bp];exact EJ (cm (y:=p.1) (c:=p.2) hp).2
  ·show∃c,cenv.cells.lookup y=some c;have key:∀k,cenv.kindOf y=some k->(k=.cell\/k=.free)->∃c,cenv.cells.lookup y=some c:=λk hk hk'=>by
    unfold Env.kindOf at hk;rw[hsc]at hk;obtain⟨k',e,r⟩:=P7 hk;have:k'=.cell\/k'=.free:=by
     rcases r with rfl|⟨rfl,_⟩
     ·exact hk'
     ·exact .inr U
    rcases this with rfl|rfl
    ·obtain⟨c,hm⟩:=Vm (n:=(s.heap.push {cls:=.type "dict",data:=.dict #[]}).objs.size) (acc:=Dl X.env.cells scope.names []) (PySem.mem_of_lookup e);obtain⟨c',e'⟩:=mem_lookup hm;exact⟨c',by rw[hcl];exact e'⟩
    ·obtain⟨c,h1,_⟩:=look e;exact⟨c,h1⟩
   rcases hy with hy|hy
   ·exact key _ hy (.inl U)
   ·exact key _ hy (.inr U)
  ·have z:(scope.names.lookup y==some NameKind.cell)=true:=z;(have z:scope.names.lookup y=some .cell:=by simpa using z);have e:cenv.cells.lookup y=some c:=e;rw[hcl]at e;rcases Nb (PySem.mem_of_lookup e)with hm|⟨_,h2,_⟩
   ·rcases MU hm with hm|⟨h1,_⟩
    ·cases hm
    ·have q:=ok.uniq _ h1;rw[z]at q;cases q
   ·rw[Bp]at h2;exact JZ h2
  ·show b≠cenv.locals;rw[hL];exact BV (hfp b hb).2
  ·have e:cenv.cells.lookup y=some c:=e;rcases mem e with ⟨h1,_⟩|⟨h1,_⟩
   ·exact(hfp b hb).1.2.2.2.2.1 y c h1 z
   ·(have h2:s.heap.objs.size+1<=b:=by rw[<-z];exact h1);exact absurd (BH (hfp b hb).2 (JZ h2)) (DU _)
  ·rcases (hfp b hb).1.2.2.2.1 with z|z
   ·exact I.ok.lZ b o e z
   ·exact absurd (BH (Az e) (Aw I.ok.jr z)) (DU _)
  ·rcases AN.mp (I.iB b z)with z|z
   ·exact(hfp b hb).1.2.1 z
   ·exact(hfp b hb).1.2.2.1 z
 refine⟨okB,U,I.bare,Un.kept kp,⟨λ_=>none,?_,λi y av e1 e2 e3=>?_⟩,λy c e=>?_,?_,λy c e=>?_,λp hp=>?_,I.hok.kept kp,by rw[P8];exact I.len⟩
 ·show Heap.Ns _ cenv.locals _;rw[hL];exact Heap.Ns.keeps (Heap.Ns.new ..) λb o e=>K7 _ _ _ _ e
 ·obtain⟨e2,hne⟩:=Vo e2;have hfr:scope.names.lookup y=some .free/\(cenv.kindOf y=some .cell\/cenv.kindOf y=some .free):=by
   have key:∀k,cenv.scope.names.lookup y=some k->k=.local\/k=.cell\/k=.free->scope.names.lookup y=some .free/\(cenv.kindOf y=some .cell\/cenv.kindOf y=some .free):=λk hk hk'=>by
    have hk0:=hk;rw[hsc]at hk;obtain⟨k',e,r⟩:=P7 hk;have no:¬(k'=.local\/k'=.cell):=λhh=>by
     rcases ok.own _ (PySem.mem_of_lookup e) hh with e'|e'
     ·obtain⟨p,hp,hpy⟩:=AG.mp e';have e3:=ok.ix p hp;have:p.1=y:=hpy;rw[this]at e3;exact hne (AG.mpr ⟨p,hp,YD hN e3 e1⟩)
     ·exact e' (AS e1)
    rcases r with rfl|⟨rfl,rfl⟩
    ·rcases hk' with rfl|rfl|rfl
     ·exact absurd (.inl U) no
     ·exact absurd (.inr U) no
     ·exact⟨e,.inr hk0⟩
    ·exact⟨e,.inl hk0⟩
   have e3:vz cenv.scope y:=e3;rcases e3 with e3|e3|e3
   ·exact key _ e3 (.inl U)
   ·exact key _ e3 (.inr (.inl U))
   ·exact key _ e3 (.inr (.inr U))
  obtain⟨m,hn,hl⟩:=I.loc;have AA0:vz X.env.scope y:=(ok.free _ (PySem.mem_of_lookup hfr.1) U).elim (λk=>.inr (.inl k)) (λk=>.inr (.inr k));obtain⟨w,r,q⟩:=hl i y av e1 e2 AA0;refine⟨w,r,.inr ⟨hfr.2,?_⟩⟩;obtain⟨c,h1,h2⟩:=look hfr.1;rcases q with ⟨k,_⟩|⟨_,c',e',z⟩
  ·have k:X.env.scope.names.lookup y=some .local:=k;rcases ok.free _ (PySem.mem_of_lookup hfr.1) rfl with k'|k'<;>rw[show X.env.scope.names.lookup y=_ from k']at k<;>cases k
  ·rw[h2]at e';cases e';exact⟨c,h1,z.keeps kp⟩
 ·have e:cenv.cells.lookup y=some c:=e;rcases mem e with ⟨h1,_⟩|⟨_,z⟩
  ·obtain⟨w,z⟩:=I.cell y c h1;exact⟨w,z.keeps kp⟩
  ·exact⟨_,z⟩
 ·show H cenv.locals=none;rw[hL];exact I.hok.fresh (AU _)
 ·have e:cenv.cells.lookup y=some c:=e;rcases mem e with ⟨h1,_⟩|⟨h1,_⟩
  ·exact I.OL y c h1
  ·exact I.hok.fresh (JZ h1)
 ·exact absurd (show p∈([]:List (Addr×Obj))++[]from hp) (by simp)
theorem wJ{E:Value->Shared->Prop}{D:Addr}{xs:List V}{y:V}{v:Value}{Q:Value->Shared->Prop}(I:Inv X pins σ H s)(hD:H D=some (.lst xs))(hz:xs.length<sizeLine)(r:RelV y v)
 (h:∀s',Inv X pins σ (upd H D (.lst (xs++[y]))) s'->Q .none s'):wpAny (model X.prog X.w) X.A (call (.builtin "list.append") [.ref D,v]) Q E s:=by
 obtain⟨hz',its,n,ri,e⟩:=I.hok D _ hD;have hl:=ri.length;refine append_at (hsz:=by rw[Ar];omega) e λh' sb ho'=>?_;refine h {s with heap:=h'} (I.write (t':=s.toks) (by rw[hD];trivial) (.inl U) (λb u hb q=>(sb.2 b hb).trans q) ⟨_,ho'⟩ ⟨by rw[AL];exact hz,its++[v],n+1,ri.append (.cons r .nil),?_⟩);rw[ho'];simp
def wK(X:Cx)(ifs:List Expr)(t:TT):Prop:=
 ∀(pins:List (Addr×Obj))(s:Shared)(σ:St)(H:Hp)(Q:Bool->Hp->Prop),Inv X pins σ H s->t σ H Q->
  wpAny (model X.prog X.w) X.A (forIn ifs true λc r=>if r=true then do let ok <-isTrue c X.env (eval c X.env);pure (ForInStep.yield ok)else pure (ForInStep.yield r)) (TP X pins σ Q) X.xe s
def GY:TT:=λ_ H Q=>Q true H
theorem Dt:wK X [] GY:=λ_ _ _ H _ I h=>wpAny_tests_nil ⟨H,I,h⟩
theorem Pq{c:Expr}{t:TT}(h:PT X c t):wK X [c] t:=λpins s σ H Q I hw=>wpAny_tests_one (h pins s σ H Q I hw)
end
theorem iX{α:Type}{t:Sem α}{Q Q':α->Shared->Prop}{M:Model}{A:Around}{E:Value->Shared->Prop}{s:Shared}(h:wpAny M A t Q (λ_ _=>False) s)(hQ:∀a s,Q a s->Q' a s):wpAny M A t Q' E s:=DT h hQ λ_ _ z=>False.elim z
theorem cT{prog:Program}{w:World}{A:Around}{R:Result->Shared->Prop}{s:Shared}{elt target iter:Expr}{ifs:List Expr}{scope:Scope}{pos:Pos}{it acc:Value}{env:Env}(I:Nat->Shared->Prop)
 (turn:∀n s,I n s->wpAny (model prog w) A (pyNext it) (λr s₁=>match r with
   |none=>R (.ok .next) s₁
   |some v=>wpAny (model prog w) A (letOwnedTupleGo target it v) (λ_ s₁'=>wpAny (model prog w) A (assign target env v) (λ_ s₂=>
     wpAny (model prog w) A (forIn ifs true λc r=>if r=true then do let ok <-isTrue c env (eval c env);pure (ForInStep.yield ok)else pure (ForInStep.yield r)) (λok s₃=>
      if ok=true then wpAny (model prog w) A (eval elt env) (λx s₄=>
       wpAny (model prog w) A (call (.builtin "list.append") [acc,x]) (λ_ s₅=>∃m,m<n/\I m s₅) (notedBy (model prog w) A env λe s'=>R (.error e) s') s₄) (notedBy (model prog w) A env λe s'=>R (.error e) s') s₃
      else∃m,m<n/\I m s₃) (notedBy (model prog w) A env λe s'=>R (.error e) s') s₂) (notedBy (model prog w) A env λe s'=>R (.error e) s') s₁') (notedBy (model prog w) A env λe s'=>R (.error e) s') s₁) (notedBy (model prog w) A env λe s'=>R (.error e) s') s)
 (n:Nat) (h:I n s):
 codeAny (model prog w) A (.compLoop (.ListComp elt [⟨target,iter,ifs,0⟩] scope pos) 0 it acc env) R s:=by
 refine codeAny_loop U I (λn s hI=>?_) n h;show wpAny _ A ((compTurn (.ListComp elt [⟨target,iter,ifs,0⟩] scope pos) 0 it acc env).onRaise (λx=>do noteFrame x env;theTreesLotGoes x)) _ _ s
 refine wpAny_noted ?_;rw[compTurn_list];refine AH (IQ (AH (DT (turn n s hI) (λr s₁ h₁=>?_) λ_ _ h'=>h')));cases r with
 |none=>exact BA h₁
 |some v=>
  refine AH (DT h₁ (λ_ s₁' h₁'=>?_) λ_ _ h'=>h');refine AH (DT h₁' (λ_ s₂ h₂=>AH (DT h₂ (λok s₃ h₃=>?_) λ_ _ h'=>h')) λ_ _ h'=>h');cases ok with
  |false=>exact BA ⟨U,h₃⟩
  |true=>
   exact AH (AH (DT h₃ (λx s₄ h₄=>AH (DT h₄ (λ_ s₅ h₅=>BA (BA ⟨U,h₅⟩)) λ_ _ h'=>h')) λ_ _ h'=>h'))
section
variable{X:Cx}
def ya(wi:TI)(g:TG)(tt:TT)(te:TE)(vs:List Nat):TE:=λσ H Q=>wi σ H λJ H1=>∀D,H1 D=none->∃W:Nat->Nat->Hp->Prop,(∃m,W 0 m (upd H1 D (.lst [])))/\∀i m H,W i m H->
 (J.stop i H/\Q (.ref D) H)\/(J.go i H/\∃Nx:Hp->Prop,(∀H',Nx H'->∃m',m'<m/\W (i+1) m' H')/\∀x H',J.Vk i H x H'->g x (wipe σ vs) H' λσ2 H2=>wipe σ2 vs=wipe σ vs/\tt σ2 H2 λb H3=>
   if b=true then te σ2 H3 λy H4=>∃acc,H4 D=some (.lst acc)/\acc.length<sizeLine/\Nx (upd H4 D (.lst (acc++[y])))else Nx H3)
theorem kF{pins:List (Addr×Obj)}{s:Shared}{σ:St}{H:Hp}{Q:VK}{elt tg iter:Expr}{ifs:List Expr}{scope:Scope}{own:List (Str×Nat)}{pos pos':Pos}{wi:TI}{g:TG}{tt:TT}{te:TE}{use:Option (Value->Sem Unit)}{Qf:Value->Shared->Prop}
 (hc:X.calm=true) (hN:X.N.Nodup) (I:Inv X pins σ H s) (hi:PI X tg iter wi) (ok:cS X.N X.env.scope scope own)
 (hg:∀(s:Shared)(H:Hp)(C:Addr)(cl:List (Str×Addr))(fp:List Addr),PG (X.Vp s H scope (compEnvC scope cl C X.env) fp) tg g) (ht:∀(s:Shared)(H:Hp)(C:Addr)(cl:List (Str×Addr))(fp:List Addr),wK (X.Vp s H scope (compEnvC scope cl C X.env) fp) ifs tt)
 (he:∀(s:Shared)(H:Hp)(C:Addr)(cl:List (Str×Addr))(fp:List Addr),PE (X.Vp s H scope (compEnvC scope cl C X.env) fp) elt te) (hs:∀x,foldedSetIterable iter X.env x=pure x)
 (h:ya wi g tt te (own.map (·.2)) σ H Q)
 (hRR:∀D C s' m H',Inv X pins σ H' s'->Q (.ref D) H'->s'.heap.Ns C m->Lk X pins H' C->compPost (model X.prog X.w) X.A X.xe use Qf (.ref D) C (.ok .next) s'):
 wpAny (model X.prog X.w) X.A (comprehension (.ListComp elt [⟨tg,iter,ifs,0⟩] scope pos) scope X.env pos' (newList []) false (eval iter X.env) use) Qf X.xe s:=by
 have hfree:∀y∈scope.names,y.2=.free->∃c,X.env.cells.lookup y.1=some c:=λy hy e=>by
  rcases ok.free y hy e with k|k
  ·exact I.ok.has _ (.inl k)
  ·exact I.ok.has _ (.inr k)
 refine wpAny_comprehension_free (use:=use) U hs (jB hfree) ok.kind (λy hy e=>by rw[ok.uniq y hy,e])
  (DQ (hi pins s σ H _ I h) λxv s1 hx=>DQ hx λitv s2 h2=>?_)
 obtain⟨it,fp,tn,J,H2,e,I2,T,st2,f2,q⟩:=h2;subst e;refine Ms (fu ?_) (by show 0<=sizeLine;decide);generalize hD:s2.heap.objs.size=D;have hDn:H2 D=none:=I2.hok.fresh (Bj hD);obtain⟨W,⟨m0,w0⟩,turn⟩:=q D hDn;generalize hs3:({s2 with heap:=s2.heap.push {cls:=.type "list",data:=.seq ([]:List Value).toArray}}:Shared)=s3;have I3:Inv X pins σ (upd H2 D (.lst [])) s3:=by
  rw[<-hs3];refine I2.laid (t':=s2.toks) (λb o e=>Ae _ e) (Bj hD) ⟨AY _,[],0,.nil,?_⟩;rw[<-hD];exact A9 _ U
 have h3:s3.heap=s2.heap.push {cls:=.type "list",data:=.seq ([]:List Value).toArray}:=by rw[<-hs3]
 have sz:∀b∈fp,b<s2.heap.objs.size:=λb hb=>by
  obtain⟨o,e,_⟩:=T.obj _ _ st2 b hb;exact Az e
 have f3:∀b∈fp,Lk X pins (upd H2 D (.lst [])) b/\b<s3.heap.objs.size:=λb hb=>by
  have hlt:=sz b hb;refine⟨⟨?_,(f2 b hb).2⟩,by rw[h3,Bp];exact EJ hlt⟩;rw[Aj (by rw[<-hD];exact BV hlt)];exact(f2 b hb).1
 have st3:tn 0 s3.heap:=T.keep _ _ _ st2 λb _ o e=>by rw[h3];exact Ae _ e
 have I4:=fz I3 ok hN f3;have pg:=hg s3 (upd H2 D (.lst [])) s3.heap.objs.size (cellsFrom (s3.heap.objs.size+1) scope.names (Dl X.env.cells scope.names [])) fp;have pt:=ht s3 (upd H2 D (.lst [])) s3.heap.objs.size (cellsFrom (s3.heap.objs.size+1) scope.names (Dl X.env.cells scope.names [])) fp;have pe:=he s3 (upd H2 D (.lst [])) s3.heap.objs.size (cellsFrom (s3.heap.objs.size+1) scope.names (Dl X.env.cells scope.names [])) fp;show codeAny _ _ (.compStart (.ListComp elt [⟨tg,iter,ifs,0⟩] scope pos) 0 (.ref it) (.ref D) (compEnvC scope (cellsFrom (s3.heap.objs.size+1) scope.names (Dl X.env.cells scope.names [])) s3.heap.objs.size X.env)) (compPost (model X.prog X.w) X.A X.xe use Qf (.ref D) s3.heap.objs.size) {s3 with heap:=pushCells (s3.heap.push {cls:=.type "dict",data:=.dict #[]}) scope.names};have nfp:∀b∈fp,(upd H2 D (.lst [])) b=none:=λb hb=>(f3 b hb).1.1;generalize hce:compEnvC scope (cellsFrom (s3.heap.objs.size+1) scope.names (Dl X.env.cells scope.names [])) s3.heap.objs.size X.env=ce at I4 pg pt pe⊢;have cL:ce.locals=s3.heap.objs.size:=by subst hce;rfl
 generalize hH3:upd H2 D (.lst [])=H3 at I3 I4 pg pt pe w0 nfp f3;generalize hs4:({s3 with heap:=pushCells (s3.heap.push {cls:=.type "dict",data:=.dict #[]}) scope.names}:Shared)=s4 at I4⊢;have st4:tn 0 s4.heap:=T.keep _ _ _ st3 λb _ o e=>by rw[<-hs4];exact K7 _ _ _ _ (Ae _ e)
 have dW:∀{σ':St}{H':Hp}{s':Shared},Inv (X.Vp s3 H3 scope ce fp) [] σ' H' s'->(∀b∈fp,H' b=none)->∀b∈fp,Lk (X.Vp s3 H3 scope ce fp) [] H' b:=λ{σ' H' s'} I' hn b hb=>
  ⟨hn b hb,(I'.ok.yK b hb).1,I'.ok.lg b hb,.inl hb,λx c e=>(I'.ok.yK b hb).2 x c e,λp hp=>absurd (show p∈([]:List (Addr×Obj))++[]from hp) (by simp)⟩
 have loop:codeAny (model X.prog X.w) X.A (.compLoop (.ListComp elt [⟨tg,iter,ifs,0⟩] scope pos) 0 (.ref it) (.ref D) ce) (compPost (model X.prog X.w) X.A X.xe use Qf (.ref D) s3.heap.objs.size) s4:=by
  refine cT (λn s'=>∃i H',Inv (X.Vp s3 H3 scope ce fp) [] (wipe σ (own.map (·.2))) H' s'/\tn i s'.heap/\(∀b∈fp,H' b=none)/\W i n H') ?_ m0 ⟨0,H3,I4,st4,nfp,w0⟩;rintro n s5 ⟨i,H5,I5,st5,n5,w5⟩;rcases turn i n H5 w5 with ⟨stop,qq⟩|⟨go,Nx,hNx,step⟩
  ·have td:=T.done (X.Vp s3 H3 scope ce fp) U rfl rfl hc i [] s5 _ H5 (λ_ _=>False) I5 (dW I5 n5) st5 stop;refine iX td λr s6 ⟨hr,I6⟩=>?_;subst hr;have I7:Inv X pins σ H5 s6:=I3.zG (ch:=fp) I6.os I6.base I6.hok I6.bare λb hb=>⟨(f3 b hb).1.2.2.2.1,(f3 b hb).1.2.1,(f3 b hb).1.2.2.2.2.1,(f3 b hb).1.2.2.2.2.2⟩;have nC:H5 s3.heap.objs.size=none:=by
    have z:H5 ce.locals=none:=I6.free;rw[cL]at z;exact z
   obtain⟨m,hn,_⟩:=I6.loc;have hn:s6.heap.Ns ce.locals m:=hn;rw[cL]at hn;exact hRR D s3.heap.objs.size s6 m H5 I7 qq hn (I3.XR (AU _) nC)
  ·have ti:=T.item (X.Vp s3 H3 scope ce fp) U rfl rfl hc i [] s5 _ H5 (λ_ _=>False) I5 (dW I5 n5) st5 go;refine iX ti λr s6 ⟨u,hr,h6⟩=>?_;subst hr;refine iX h6 λ_ s7 ⟨x,H7,I7,r7,y7,st7,n7⟩=>?_;have I7':=I7.pinned (dW I7 n7) (T.obj _ _ st7);refine iX (pg _ s7 _ H7 x u _ I7' r7 (step x H7 y7)) λ_ s8 ⟨yb,H8,I8,hw8,q8⟩=>?_;refine iX (pt _ s8 yb H8 _ I8 q8) λb s9 ⟨H9,I9,q9⟩=>?_;have fin:∀{s':Shared}{H':Hp},Inv (X.Vp s3 H3 scope ce fp) ([]++X3 fp s7.heap) yb H' s'->Nx H'->∃m,m<n/\∃i H',Inv (X.Vp s3 H3 scope ce fp) [] (wipe σ (own.map (·.2))) H' s'/\tn i s'.heap/\(∀b∈fp,H' b=none)/\W i m H':=λ{s' H'} I' nx=>by
    obtain⟨m',hm,w'⟩:=hNx H' nx;have yc:∀b∈fp,∀o,s7.heap.get? b=some o->s'.heap.get? b=some o/\H' b=none:=λb hb o e=>
     let z:=I'.pin (b,o) (BD _ (BD _ (N5 hb e)))
     ⟨z.1,z.2.1⟩
    (have hl:(wipe σ (own.map (·.2))).length=yb.length:=by rw[<-hw8,P8]);refine⟨m',hm,i+1,H',(I'.PY (pins:=[])).weak hl (λj v e=>?_),T.keep _ _ _ st7 λb hb o e=>(yc b hb o e).1,λb hb=>?_,w'⟩
    ·rw[<-hw8]at e;exact(Vo e).1
    ·obtain⟨o,e,_⟩:=T.obj _ _ st7 b hb;exact(yc b hb o e).2
   cases b with
   |false=>
    simp only[Bool.false_eq_true,if_false]at q9⊢;exact fin I9 q9
   |true=>
    simp only[MI]at q9⊢;refine iX (pe _ s9 yb H9 _ I9 q9) λz pK ⟨yv,yd,I10,r10,acc,AA2,AA3,nx⟩=>?_;exact wJ (X:=X.Vp s3 H3 scope ce fp) I10 AA2 AA3 r10 λd9 I11=>fin I11 nx
 exact codeAny_compStart_list loop (T.self X.A 0 _ _ _ st4 loop)
theorem Fi{elt tg iter:Expr}{ifs:List Expr}{scope:Scope}{own:List (Str×Nat)}{pos:Pos}{wi:TI}{g:TG}{tt:TT}{te:TE}(hc:X.calm=true)(hN:X.N.Nodup)(hi:PI X tg iter wi)(ok:cS X.N X.env.scope scope own)
 (hg:∀(s:Shared)(H:Hp)(C:Addr)(cl:List (Str×Addr))(fp:List Addr),PG (X.Vp s H scope (compEnvC scope cl C X.env) fp) tg g) (ht:∀(s:Shared)(H:Hp)(C:Addr)(cl:List (Str×Addr))(fp:List Addr),wK (X.Vp s H scope (compEnvC scope cl C X.env) fp) ifs tt)
 (he:∀(s:Shared)(H:Hp)(C:Addr)(cl:List (Str×Addr))(fp:List Addr),PE (X.Vp s H scope (compEnvC scope cl C X.env) fp) elt te) (hs:∀x,foldedSetIterable iter X.env x=pure x:=by intro _;rfl):
 PE X (.ListComp elt [⟨tg,iter,ifs,0⟩] scope pos) (ya wi g tt te (own.map (·.2))):=by
 intro pins s σ H Q I h;rw[eval_ListComp];refine kF hc hN I hi ok hg ht he hs h λD C s' m H' I' q hn f=>⟨m,hn,λh'' sb=>?_⟩;obtain⟨f0,f1,f2,f3,f4,f5⟩:=f;exact⟨.ref D,H',I'.turned (t':=s'.toks) (λb o hb e=>(sb.2 b hb).trans e) f0 f1 f3 f4 f5,U,q⟩
theorem d_{i:Nat}{y:Str}{py:Pos}{elt tg iter:Expr}{ifs:List Expr}{scope:Scope}{own:List (Str×Nat)}{pos spos:Pos}{wi:TI}{g:TG}{tt:TT}{te:TE}(hc:X.calm=true)(hN:X.N.Nodup)(hy:X.N[i]?=some y)(hyl:X.env.scope.names.lookup y=some .local)
 (hsw:swapsWith (.ListComp elt [⟨tg,iter,ifs,0⟩] scope pos) (some (.Name y py)) spos.line X.env=pure true) (hi:PI X tg iter wi) (ok:cS X.N X.env.scope scope own)
 (hg:∀(s:Shared)(H:Hp)(C:Addr)(cl:List (Str×Addr))(fp:List Addr),PG (X.Vp s H scope (compEnvC scope cl C X.env) fp) tg g) (ht:∀(s:Shared)(H:Hp)(C:Addr)(cl:List (Str×Addr))(fp:List Addr),wK (X.Vp s H scope (compEnvC scope cl C X.env) fp) ifs tt)
 (he:∀(s:Shared)(H:Hp)(C:Addr)(cl:List (Str×Addr))(fp:List Addr),PE (X.Vp s H scope (compEnvC scope cl C X.env) fp) elt te) (hs:∀x,foldedSetIterable iter X.env x=pure x:=by intro _;rfl):
 PS X (.Assign [.Name y py] (.ListComp elt [⟨tg,iter,ifs,0⟩] scope pos) spos) (rX (ya wi g tt te (own.map (·.2))) (KU i)):=by
 intro pins s σ H D I h;rw[exec_Assign_Name_used _ _ _ _ hsw];refine AH (IQ (AH ?_));show wpAny _ X.A (do let _ <-comprehension (.ListComp elt [⟨tg,iter,ifs,0⟩] scope pos) scope X.env (firstIterPos [⟨tg,iter,ifs,0⟩] pos) (newList []) false (eval iter X.env) (some (assign (.Name y py) X.env))) _ _ s
 have h:ya wi g tt te (own.map (·.2)) σ H (λx H1=>KU i x σ H1 D.nx):=h;refine AH (DQ (kF (Qf:=λ_ s'=>SP X pins D .next s') hc hN I hi ok hg ht he hs h λL C s' m H' I' q hn f=>?_) λ_ s' hq=>BA (BA hq))
 show wpAny _ _ (assign (.Name y py) X.env (.ref L)) _ _ _;refine VT (Z7 (v:=V.ref L) I' hN hy (.inl hyl) U (λs2 I2 ⟨a,sb,ha⟩=>?_) (.inr hyl));obtain⟨f0,f1,f2,f3,f4,f5⟩:=f;have haC:C≠a:=by
  rcases ha with z|z
  ·rw[z];exact f1
  ·exactλe=>f4 y a z e.symm
 refine⟨m,hn.sameBut sb haC,λh3 sb3=>?_⟩;exact⟨_,H',I2.turned (t':=s2.toks) (λb o hb e=>(sb3.2 b hb).trans e) f0 f1 f3 f4 f5,q⟩
theorem kG{elt:Expr}{gs:List Comprehension}{scope:Scope}{pos py:Pos}{y:Str}{l:Nat}{env:Env}(hk:env.scope.kind=.function)(hy:env.scope.names.lookup y=some .local)(hl:(py.line==pos.line)=true)
 (ha:(scope.names.any λ(n,k)=>n==y&&(k==.local||k==.cell))=false):swapsWith (.ListComp elt gs scope pos) (some (.Name y py)) l env=pure true:=by
 have ky:env.kindOf y=some .local:=hy;have hb:env.blockKind=.function:=by unfold Env.blockKind;rw[hk];rfl
 unfold swapsWith;simp only[hb,ky,ha,Expr.pos,hl];rfl
end
theorem qQ{lo:Int}{n:Nat}{g:TG}{tt:TT}{te:TE}{vs:List Nat}{σ:St}{H1:Hp}{D:Addr}{Qd:Hp->Prop}(Pv:Nat->Hp->Prop)(h0:Pv 0 (upd H1 D (.lst [])))
 (hs:∀i H,i<n->Pv i H->g (.int (lo+i)) (wipe σ vs) H λσ2 H2=>wipe σ2 vs=wipe σ vs/\tt σ2 H2 λb H3=>
   if b=true then te σ2 H3 λy H4=>∃acc,H4 D=some (.lst acc)/\acc.length<sizeLine/\Pv (i+1) (upd H4 D (.lst (acc++[y])))else Pv (i+1) H3) (hd:∀H,Pv n H->Qd H):
 ∃W:Nat->Nat->Hp->Prop,(∃m,W 0 m (upd H1 D (.lst [])))/\∀i m H,W i m H->
  ((dg lo n).stop i H/\Qd H)\/((dg lo n).go i H/\∃Nx:Hp->Prop,(∀H',Nx H'->∃m',m'<m/\W (i+1) m' H')/\∀x H',(dg lo n).Vk i H x H'->g x (wipe σ vs) H' λσ2 H2=>wipe σ2 vs=wipe σ vs/\tt σ2 H2 λb H3=>
    if b=true then te σ2 H3 λy H4=>∃acc,H4 D=some (.lst acc)/\acc.length<sizeLine/\Nx (upd H4 D (.lst (acc++[y])))else Nx H3):=by
 refine⟨λi m H=>m=n-i/\i<=n/\Pv i H,⟨n,by simp,AY _,h0⟩,?_⟩;rintro i m H ⟨rfl,hi,p⟩;by_cases hlt:i<n
 ·refine .inr ⟨hlt,Pv (i+1),λH' p'=>⟨n-(i+1),by omega,U,hlt,p'⟩,λx H' y=>?_⟩;obtain⟨e,y⟩:=y;subst e y;exact hs i _ hlt p
 ·have e:i=n:=by omega
  subst e;exact .inl ⟨AU _,hd H p⟩
theorem XX{K:PySem.W.Frag}{a:Addr}{xs:List V}{g:TG}{tt:TT}{te:TE}{vs:List Nat}{σ:St}{H1:Hp}{D:Addr}{Qd:Hp->Prop}(Pv:Nat->Hp->Prop)(h0:Pv 0 (upd H1 D (.lst [])))(hl:∀i H,i<=xs.length->Pv i H->A1 K H a xs)
 (hs:∀i x H,xs[i]?=some x->Pv i H->g x (wipe σ vs) H λσ2 H2=>wipe σ2 vs=wipe σ vs/\tt σ2 H2 λb H3=>
   if b=true then te σ2 H3 λy H4=>∃acc,H4 D=some (.lst acc)/\acc.length<sizeLine/\Pv (i+1) (upd H4 D (.lst (acc++[y])))else Pv (i+1) H3) (hd:∀H,Pv xs.length H->Qd H):
 ∃W:Nat->Nat->Hp->Prop,(∃m,W 0 m (upd H1 D (.lst [])))/\∀i m H,W i m H->
  ((ON K a).stop i H/\Qd H)\/((ON K a).go i H/\∃Nx:Hp->Prop,(∀H',Nx H'->∃m',m'<m/\W (i+1) m' H')/\∀x H',(ON K a).Vk i H x H'->g x (wipe σ vs) H' λσ2 H2=>wipe σ2 vs=wipe σ vs/\tt σ2 H2 λb H3=>
    if b=true then te σ2 H3 λy H4=>∃acc,H4 D=some (.lst acc)/\acc.length<sizeLine/\Nx (upd H4 D (.lst (acc++[y])))else Nx H3):=by
 refine⟨λi m H=>m=xs.length-i/\i<=xs.length/\Pv i H,⟨xs.length,by simp,AY _,h0⟩,?_⟩;rintro i m H ⟨rfl,hi,p⟩;have q:=hl i H hi p;by_cases hlt:i<xs.length
 ·refine .inr ⟨⟨xs,xs[i],q,by simp[hlt]⟩,Pv (i+1),λH' p'=>⟨xs.length-(i+1),by omega,U,hlt,p'⟩,λx H' y=>?_⟩;obtain⟨e,y⟩:=y;subst e;exact hs i x _ (y xs q) p
 ·have e:i=xs.length:=by omega
  subst e;exact .inl ⟨⟨xs,q,AU _⟩,hd H p⟩
def ye(N:List Str)(sc scope:Scope)(own:List (Str×Nat)):Bool:=
 (match scope.kind with| .function=>true|_=>false)&&(scope.names.all λy=>decide (scope.names.lookup y.1=some y.2))&&(own.all λp=>decide (N[p.2]?=some p.1))&&
   (scope.names.all λy=>match y.2 with
     | .free=>(match sc.names.lookup y.1 with|some .cell=>true|some .free=>true|_=>false)
     | .local=>decide (y.1∈own.map (·.1))||decide (y.1∉N)
     | .cell=>decide (y.1∈own.map (·.1))||decide (y.1∉N)
     |_=>true)
theorem CS{N:List Str}{sc scope:Scope}{own:List (Str×Nat)}(h:ye N sc scope own=true):cS N sc scope own:=by
 unfold ye at h;simp only[AR,A0,Br]at h;obtain⟨⟨⟨h1,h2⟩,h3⟩,h4⟩:=h;refine⟨?_,h2,h3,λy hy e=>?_,λy hy e=>?_⟩
 ·split at h1
  ·assumption
  ·cases h1
 ·have q:=h4 y hy;simp only[e]at q
  split at q<;>first|exact .inl (by assumption)|exact .inr (by assumption)|cases q
 ·have q:=h4 y hy;rcases e with e|e<;>(simp only[e,Bool.or_eq_true,Br]at q;exact q)
end L2
namespace L2
open PySem PySem.Spec PyProof.Rows
section
variable{prog:Program}{w:World}{A:Around}{R:Result->Shared->Prop}{s:Shared}{elt t0 i0 t1 i1:Expr}{ifs0 ifs1:List Expr}{scope:Scope}{pos:Pos}{it acc:Value}{env:Env}
end
section
variable{X:Cx}
end
end L2
namespace L2
open PySem PySem.Spec PyProof.Rows
section
variable{κ:Type}[DecidableEq κ]
def Es(kvs:List (κ×V))(k:κ):Option V:=(kvs.find? λkv=>decide (kv.1=k)).map (·.2)
def putK(kvs:List (κ×V))(k:κ)(v:V):List (κ×V):=
 if(kvs.any λkv=>decide (kv.1=k))=true then kvs.map (λkv=>if kv.1=k then(kv.1,v)else kv)else kvs++[(k,v)]
theorem Ga{p:κ×V}{r:List (κ×V)}{k:κ}(e:p.1=k):Es (p::r) k=some p.2:=by simp[Es,GQ,e]
theorem F8{p:κ×V}{r:List (κ×V)}{k:κ}(e:¬p.1=k):Es (p::r) k=Es r k:=by simp[Es,GQ,e]
theorem UT(k:κ):∀kvs:List (κ×V),(kvs.any λkv=>decide (kv.1=k))=(Es kvs k).isSome
 | []=>rfl
 |p::r=>by
  rw[IS];by_cases e:p.1=k
  ·simp only[Ga e,AM e,Bool.true_or,UI]
  ·rw[F8 e,BJ e,SN];exact UT k r
theorem eB(k j:κ)(y:V):∀kvs:List (κ×V),Es (kvs.map λkv=>if kv.1=k then(kv.1,y)else kv) j=(Es kvs j).map λx=>if j=k then y else x
 | []=>rfl
 |p::r=>by
  have ih:=eB k j y r;rw[Ay];by_cases h:p.1=k
  ·rw[AJ h];by_cases e:p.1=j
   ·rw[Ga (p:=(p.1,y)) e,Ga e,FD,AJ (e.symm.trans h)]
   ·rw[F8 (p:=(p.1,y)) e,F8 e,ih]
  ·rw[AI h];by_cases e:p.1=j
   ·rw[Ga (p:=p) e,Ga e,FD,AI (λz=>h (e.trans z))]
   ·rw[F8 (p:=p) e,F8 e,ih]
theorem aL(k j:κ)(y:V):∀kvs:List (κ×V),Es kvs k=none->Es (kvs++[(k,y)]) j=if j=k then some y else Es kvs j
 | [],_=>by
   by_cases e:k=j
   ·rw[AJ e.symm];exact Ga (p:=(k,y)) e
   ·rw[AI (λz=>e z.symm)];exact F8 (p:=(k,y)) e
 |p::r,hn=>by
  rw[Nu];have hk:¬p.1=k:=λz=>by rw[Ga z]at hn;cases hn
  rw[F8 hk]at hn;have ih:=aL k j y r hn;by_cases e:p.1=j
  ·rw[Ga e,Ga e,AI (λz=>hk (e.trans z))]
  ·rw[F8 e,F8 e,ih]
theorem UU(kvs:List (κ×V))(k j:κ)(y:V):Es (putK kvs k y) j=if j=k then some y else Es kvs j:=by
 unfold putK;by_cases a:(kvs.any λkv=>decide (kv.1=k))=true
 ·rw[AJ a,eB];rw[UT]at a;by_cases e:j=k
  ·obtain⟨x,hx⟩:=Nf.mp a;rw[AJ e,e,hx,FD,AJ U]
  ·rw[AI e];cases Es kvs j with
   |none=>rfl
   |some x=>rw[FD,AI e]
 ·rw[AI a];refine aL k j y kvs ?_;rw[UT]at a;cases q:Es kvs k with
  |none=>rfl
  |some x=>rw[q]at a;exact(a U).elim
theorem Iq(kvs:List (κ×V))(k:κ)(v:V):(putK kvs k v).length<=kvs.length+1:=by
 unfold putK
 split
 ·rw[AA];omega
 ·rw[AL,Ab,GR];omega
theorem Qe.Vr{o:Option V}{u:Option Value}(r:Qe o u):o.isSome=u.isSome:=by
 cases o with
 |none=>cases u with
  |none=>rfl
  |some _=>exact(show False from r).elim
 |some _=>cases u with
  |none=>exact(show False from r).elim
  |some _=>rfl
theorem Qe.getD{o:Option V}{u:Option Value}{d:V}{d':Value}(r:Qe o u)(rd:RelV d d'):RelV (o.getD d) (u.getD d'):=by
 cases o with
 |none=>cases u with
  |none=>exact rd
  |some _=>exact(show False from r).elim
 |some _=>cases u with
  |none=>exact(show False from r).elim
  |some _=>exact r
theorem KV.val{kvs:List (κ×V)}{vs:List (κ×Value)}(r:KV kvs vs)(k:κ):Qe (Es kvs k) (valueAt vs k):=by
 unfold KV at r
 induction r with
 |nil=>exact True.intro
 | @cons p q ps qs h t ih=>
   obtain⟨h1,h2⟩:=h;by_cases e:p.1=k
   ·have e':q.1=k:=h1.symm.trans e;(have b:valueAt (q::qs) k=some q.2:=by simp[valueAt,GQ,e']);rw[Ga e,b];exact h2
   ·have e':¬q.1=k:=λz=>e (h1.trans z);(have b:valueAt (q::qs) k=valueAt qs k:=by simp[valueAt,GQ,e']);rw[F8 e,b];exact ih
theorem KV.any{kvs:List (κ×V)}{vs:List (κ×Value)}(r:KV kvs vs)(k:κ):(kvs.any λkv=>decide (kv.1=k))=vs.any λkv=>decide (kv.1=k):=by
 unfold KV at r
 induction r with
 |nil=>rfl
 |cons h t ih=>rw[IS,IS,ih,h.1]
theorem KV.repl{kvs:List (κ×V)}{vs:List (κ×Value)}(r:KV kvs vs)(k:κ){y:V}{u:Value}(ry:RelV y u):
 KV (kvs.map λkv=>if kv.1=k then(kv.1,y)else kv) (vs.map λkv=>if kv.1=k then(kv.1,u)else kv):=by
 unfold KV at r⊢
 induction r with
 |nil=>exact .nil
 | @cons p q ps qs h t ih=>
   rw[Ay,Ay];refine .cons ?_ ih;obtain⟨h1,h2⟩:=h;by_cases e:p.1=k
   ·rw[AJ e,AJ (h1.symm.trans e)];exact⟨h1,ry⟩
   ·rw[AI e,AI (λz=>e (h1.trans z))];exact⟨h1,h2⟩
theorem KV.put{kvs:List (κ×V)}{vs:List (κ×Value)}(r:KV kvs vs)(k:κ){y:V}{u:Value}(ry:RelV y u):KV (putK kvs k y) (stored vs k u):=by
 unfold putK stored;rw[r.any k];by_cases e:(vs.any λkv=>decide (kv.1=k))=true
 ·rw[AJ e,AJ e];exact r.repl k ry
 ·rw[AI e,AI e];exact Paired.snoc r ⟨U,ry⟩
theorem KV.keys{kvs:List (κ×V)}{vs:List (κ×Value)}(r:KV kvs vs):kvs.map (·.1)=vs.map (·.1):=by
 unfold KV at r
 induction r with
 |nil=>rfl
 |cons h t ih=>rw[Ay,Ay,ih,h.1]
theorem KV.length{kvs:List (κ×V)}{vs:List (κ×Value)}(r:KV kvs vs):kvs.length=vs.length:=Paired.length r
end
theorem Ze{P:Program}{w:World}{k:Key}{u:Value}(r:RelV (kV k) u):(Dk P w).is k u=true:=by
 cases k with
 |inl i=>obtain⟨t,e⟩:=(show∃t,u=Value.int i t from r);subst e;exact fZ P w i t
 |inr x=>obtain⟨t,e⟩:=(show∃t,u=Value.str x t from r);subst e;exact fh P w x t
theorem aM{P:Program}{w:World}:∀{ks:List Key}{us:List Value},Vals (ks.map kV) us->ItemsAre (Dk P w) ks us
 | [],_,r=>by rw[DF]at r;cases r;exact .nil
 |k::ks,_,r=>by
  rw[Ay]at r;cases r with
  |cons h t=>exact .cons (Ze h) (aM t)
abbrev KT(H:Hp):List (List Key×V)->List (List Key×Addr×Value)->Prop:=Paired λp q=>p.1=q.1/\H q.2.1=some (.tup (p.1.map kV))/\RelV p.2 q.2.2
theorem KT.val{H:Hp}{kvs:List (List Key×V)}{xs:List (List Key×Addr×Value)}(r:KT H kvs xs)(k:List Key):Qe (Es kvs k) ((atKey xs k).map (·.2)):=by
 induction r with
 |nil=>exact True.intro
 | @cons p q ps qs h t ih=>
   obtain⟨h1,_,h2⟩:=h;by_cases e:p.1=k
   ·have e':q.1=k:=h1.symm.trans e;(have b:atKey (q::qs) k=some q.2:=by simp[atKey,GQ,e']);rw[Ga e,b];exact h2
   ·have e':¬q.1=k:=λz=>e (h1.trans z);(have b:atKey (q::qs) k=atKey qs k:=by simp[atKey,GQ,e']);rw[F8 e,b];exact ih
theorem KT.repl{H:Hp}{kvs:List (List Key×V)}{xs:List (List Key×Addr×Value)}(r:KT H kvs xs)(k:List Key){y:V}{u:Value}(ry:RelV y u):
 KT H (kvs.map λkv=>if kv.1=k then(kv.1,y)else kv) (xs.map (putAt k u)):=by
 induction r with
 |nil=>exact .nil
 | @cons p q ps qs h t ih=>
   rw[Ay,Ay];refine .cons ?_ ih;obtain⟨h1,h2,h3⟩:=h;unfold putAt;by_cases e:p.1=k
   ·rw[AJ e,AJ (h1.symm.trans e)];exact⟨h1,h2,ry⟩
   ·rw[AI e,AI (λz=>e (h1.trans z))];exact⟨h1,h2,h3⟩
theorem KT.put{H:Hp}{kvs:List (List Key×V)}{xs:List (List Key×Addr×Value)}(r:KT H kvs xs)(k:List Key){b:Addr}{y:V}{u:Value}(hb:H b=some (.tup (k.map kV)))(ry:RelV y u):
 KT H (putK kvs k y) (storedH xs k b u):=by
 have e:(kvs.any λkv=>decide (kv.1=k))=(atKey xs k).isSome:=by
  rw[UT,(r.val k).Vr,VX]
 unfold putK storedH;rw[e];by_cases q:(atKey xs k).isSome=true
 ·rw[AJ q,AJ q];exact r.repl k ry
 ·rw[AI q,AI q];exact Paired.snoc r ⟨U,hb,ry⟩
theorem KT.keeps{H H':Hp}{kvs:List (List Key×V)}{xs:List (List Key×Addr×Value)}(r:KT H kvs xs)(ht:∀b ys,H b=some (.tup ys)->H' b=some (.tup ys)):KT H' kvs xs:=
 Paired.vG r λ_ _ z=>⟨z.1,ht _ _ z.2.1,z.2.2⟩
section
variable{P:Program}{w:World}{H:Hp}{h:Heap}{a:Addr}
theorem ue{u:HO}(ok:Kg P w H h)(e:Rd H a u):EN P w H h a u:=e.ok ok
theorem iY{kvs:List (Key×V)}(ok:Kg P w H h)(e:Rd H a (.dK kvs)):kvs.length<=sizeLine/\(a==sysModules)=false/\∃vs,KV kvs vs/\h.DictOf (Dk P w) a vs:=
 show EN P w H h a (.dK kvs)from ue ok e
theorem zO{kvs:List (Key×V)}(ok:Kg P w H h)(e:H a=some (.dK kvs)):kvs.length<=sizeLine/\(a==sysModules)=false/\∃vs,KV kvs vs/\h.DictOf (Dk P w) a vs:=iY ok (.inl e)
theorem X6{ks:List Key}(ok:Kg P w H h)(e:H a=some (.tup (ks.map kV))):(tupleKind (Dk P w)).is h ks a:=by
 obtain⟨_,its,r,o,h1,h2,n,h3⟩:=(show EN P w H h a (.tup (ks.map kV))from ok a _ e);exact⟨o,its.toArray,n,h1,h2,h3,by simpa using aM r⟩
theorem iZ{kvs:List (List Key×V)}(ok:Kg P w H h)(e:Rd H a (.dT kvs)):kvs.length<=sizeLine/\(a==sysModules)=false/\
 ∃xs,KT H kvs xs/\h.DictOfH (tupleKind (Dk P w)) a xs:=by
 obtain⟨z,y,xs,r,o,es,ep,h1,h2,h3,h4,h5⟩:=(show EN P w H h a (.dT kvs)from ue ok e);refine⟨z,y,xs,r,o,es,ep,h1,h2,h3,h4,λx hx=>?_,h5⟩;have all:∀{l:List (List Key×V)}{m:List (List Key×Addr×Value)},KT H l m->∀x∈m,(tupleKind (Dk P w)).is h x.1 x.2.1:=by
  intro l m q
  induction q with
  |nil=>intro x hx;exact nomatch hx
  | @cons p q ps qs hq t ih=>
    intro x hx;rcases AN.mp hx with e|hx
    ·subst e;exact X6 ok (by rw[<-hq.1];exact hq.2.1)
    ·exact ih x hx
 exact all r x hx
theorem uf{kvs:List (List Key×V)}(ok:Kg P w H h)(e:H a=some (.dT kvs)):kvs.length<=sizeLine/\(a==sysModules)=false/\
 ∃xs,KT H kvs xs/\h.DictOfH (tupleKind (Dk P w)) a xs:=iZ ok (.inl e)
end
def XY(H:Hp)(a:Addr)(y:V)(r:Option V):Prop:=
 (∃kvs k,Rd H a (.dK kvs)/\y=kV k/\r=Es kvs k)\/∃kvs k b,Rd H a (.dT kvs)/\y=.ref b/\H b=some (.tup (k.map kV))/\r=Es kvs k
def aN(H:Hp)(a:Addr)(y v:V)(H':Hp):Prop:=
 (∃kvs k,H a=some (.dK kvs)/\y=kV k/\kvs.length<sizeLine/\H'=upd H a (.dK (putK kvs k v)))\/
 ∃kvs k b,H a=some (.dT kvs)/\y=.ref b/\H b=some (.tup (k.map kV))/\kvs.length<sizeLine/\H'=upd H a (.dT (putK kvs k v))
theorem XY.k{H:Hp}{a:Addr}{kvs:List (Key×V)}{k:Key}(e:H a=some (.dK kvs)):XY H a (kV k) (Es kvs k):=.inl ⟨kvs,k,.inl e,U,U⟩
theorem XY.t{H:Hp}{a b:Addr}{kvs:List (List Key×V)}{k:List Key}(e:H a=some (.dT kvs))(eb:H b=some (.tup (k.map kV))):XY H a (.ref b) (Es kvs k):=.inr ⟨kvs,k,b,.inl e,U,eb,U⟩
theorem aN.k{H:Hp}{a:Addr}{kvs:List (Key×V)}{k:Key}{v:V}(e:H a=some (.dK kvs))(hl:kvs.length<sizeLine):aN H a (kV k) v (upd H a (.dK (putK kvs k v))):=.inl ⟨kvs,k,e,U,hl,U⟩
theorem aN.t{H:Hp}{a b:Addr}{kvs:List (List Key×V)}{k:List Key}{v:V}(e:H a=some (.dT kvs))(eb:H b=some (.tup (k.map kV)))(hl:kvs.length<sizeLine):
 aN H a (.ref b) v (upd H a (.dT (putK kvs k v))):=.inr ⟨kvs,k,b,e,U,eb,hl,U⟩
section
variable{X:Cx}{pins:List (Addr×Obj)}{σ:St}{H:Hp}{s:Shared}{a:Addr}{y v:V}{u r:Value}{o:Option V}{A:Around}{E:Value->Shared->Prop}
theorem Inv.big(I:Inv X pins σ H s):sysModules<s.heap.objs.size:=by
 have h:mainGlobals<s.heap.objs.size:=(I.mod.glob.keeps I.bk).lt;exact Nat.lt_trans (by decide) h
theorem tN{Q:Value->Shared->Prop}(hu:A.units+1<cLine)(I:Inv X pins σ H s)(g:XY H a y o)(ry:RelV y u)(h:∀s',Inv X pins σ H s'->Q (.bool (!o.isSome)) s'):
 wpAny (model X.prog X.w) A (compareOp .NotIn u (.ref a)) Q E s:=by
 rcases g with ⟨kvs,k,e,ey,l⟩|⟨kvs,k,b,e,ey,eb,l⟩
 ·subst ey;obtain⟨z,hd,vs,rel,dd⟩:=iY I.hok e;refine wpAny_notIn_of (Ze ry) hd dd.mapOf ?_;rw[<-(rel.val k).Vr,<-l];exact h _ (I.tok _)
 ·subst ey;cases (show u=Value.ref b from ry);obtain⟨z,hd,xs,rel,dd⟩:=iZ I.hok e;refine wpAny_notIn_heap (JE hu) (X6 I.hok eb) hd dd ?_;have q:=(rel.val k).Vr;rw[VX]at q;rw[<-q,<-l];exact h _ (I.tok _)
theorem bY{h':Heap}{t':Nat}{ob:HO}(I:Inv X pins σ H s)(mu:vq (H a))(hs:Heap.SameBut a s.heap h')(he:∃q,h'.get? a=some q)(new:EN X.prog X.w (upd H a ob) h' a ob):
 Inv X pins σ (upd H a ob) {s with heap:=h',toks:=t'}:=
 I.write (x:=a) (e:=a) mu (.inl U) (λb q hb z=>(hs.2 b hb).trans z) he new
theorem wL{P:Program}{w:World}{H':Hp}{h':Heap}{kvs:List (Key×V)}{vs:List (Key×Value)}(z:kvs.length<=sizeLine)(hd:(a==sysModules)=false)(rel:KV kvs vs)(dd:h'.DictOf (Dk P w) a vs):
 EN P w H' h' a (.dK kvs):=⟨z,hd,vs,rel,dd⟩
theorem mG{H':Hp}{Q:Unit->Shared->Prop}(hu:A.units+1<cLine)(I:Inv X pins σ H s)(g:aN H a y v H')(ry:RelV y u)(rv:RelV v r)(h:∀s',Inv X pins σ H' s'->Q () s'):
 wpAny (model X.prog X.w) A (setItem (.ref a) u r) Q E s:=by
 rcases g with ⟨kvs,k,e,ey,l,eH⟩|⟨kvs,k,b,e,ey,eb,l,eH⟩
 ·subst ey eH;obtain⟨z,hd,vs,rel,dd⟩:=zO I.hok e;have hz:vs.length<=sizeLine:=by rw[<-rel.length];exact z
  have hl:(putK kvs k v).length<=sizeLine:=by have:=Iq kvs k v;omega
  refine wpAny_setItem_pairs (hsz:=hz) (Ze ry) dd λh' ug hs=>h _ ?_;have he:∃q,h'.get? a=some q:=let ⟨q,_,_,hq,_⟩:=ug;⟨q,hq⟩;exact bY I (by rw[e];exact True.intro) hs he (wL hl hd (rel.put k rv) ug)
 ·subst ey eH;cases (show u=Value.ref b from ry);obtain⟨z,hd,xs,rel,dd⟩:=uf I.hok e;have hz:xs.length<=sizeLine:=by rw[<-Paired.length rel];exact z
  have hl:(putK kvs k v).length<=sizeLine:=by have:=Iq kvs k v;omega
  refine wpAny_setItem_heap (hsz:=hz) (JE hu) (X6 I.hok eb) dd λh' ug hs=>h _ ?_;obtain⟨q,es,ep,hq,h2,h3,h4,_,h5⟩:=ug;refine bY I (by rw[e];exact True.intro) hs ⟨q,hq⟩ ⟨hl,hd,_,(rel.put k eb rv).keeps λc ys ec=>?_,q,es,ep,hq,h2,h3,h4,h5⟩;rw[Aj (Zb ec e (λz=>nomatch z))];exact ec
end
section
variable{X:Cx}{pins:List (Addr×Obj)}{σ:St}{H:Hp}{s:Shared}{a:Addr}{kvs:List (Key×V)}{k:Key}{u:Value}{A:Around}{E:Value->Shared->Prop}
end
def yf(i:Expr):Prop:=∀ov iv,subscripted i false ov iv=operate [ov,iv] (getItem ov iv)
theorem tO{prog:Program}{w:World}{A:Around}{E:Value->Shared->Prop}{s:Shared}{env:Env}{value slice:Expr}{pos:Pos}{T id:String}{Q:Value->Shared->Prop}
 (hl:typeLookup (.type T) "__getitem__"=pure (some (.builtin id))) (hs:yf slice)
 (h:wpAny (model prog w) A (eval value env) (λo s₁=>wpAny (model prog w) A (eval slice env) (λi s₂=>s₂.TypeIs o T/\wpAny (model prog w) A (getItem o i) Q E s₂) E s₁) E s):
 wpAny (model prog w) A (eval (.Subscript value slice pos) env) Q E s:=by
 refine ZF (DT h (λo s₁ h₁=>DT h₁ (λi s₂ h₂=>?_) λ_ _ x=>x) λ_ _ x=>x);obtain⟨hT,h₂⟩:=h₂;unfold subscriptTail;refine AH ?_;rw[getitemInPython_of_ne hT.not_modules];refine AH (PB hT hl ?_);have fin:wpAny (model prog w) A (subscripted slice false o i) (λr s₃=>wpAny (model prog w) A (letTemporaryGo value o r>>=λ_=>pure r) Q E s₃) E s₂:=by
  rw[hs o i];exact wpAny_operating (DT h₂ (λr s₃ h₃=>AH (wpAny_letTemporaryGo (BA h₃))) λ_ _ x=>x)
 first
  |exact BA (AH fin)
  |exact AH (BA (AH fin))
  |exact AH fin
def kH(ty td:TE):TE:=λσ H Q=>ty σ H λy H1=>td σ H1 λx H2=>∃a o,x=.ref a/\XY H2 a y o/\Q (.bl (!o.isSome)) H2
def zP(td ty tv:TE):TS:=λD σ H=>tv σ H λv H1=>td σ H1 λx H2=>ty σ H2 λy H3=>∃a H4,x=.ref a/\aN H3 a y v H4/\D.nx σ H4
section
variable{X:Cx}{o i e value:Expr}{pos pos' tpos:Pos}{td ty tv:TE}
theorem mH(hu:X.A.units+1<cLine)(hi:PE X i ty)(ho:PE X o td):PC X .NotIn i o (kH ty td):=by
 intro pins s σ H Q I h;refine DQ (hi pins s σ H _ I h) λiv s1 ⟨y,H1,I1,ry,q1⟩=>DQ (ho pins s1 σ H1 _ I1 q1) λu s2 ⟨x,H2,I2,rx,a,ov,ex,g,q2⟩=>?_;subst ex;obtain rfl:u=Value.ref a:=rx;exact tN hu I2 g ry λs3 I3=>⟨.bl (!ov.isSome),H2,I3,U,q2⟩
theorem kI(hu:X.A.units+1<cLine)(ho:PE X o td)(hi:PE X i ty)(hv:PE X value tv)(hs:swapsWith value (some (.Subscript o i pos')) pos.line X.env=pure false):
 PS X (.Assign [.Subscript o i pos'] value pos) (zP td ty tv):=by
 intro pins s σ H D I h;refine wpAny_Assign_Subscript (DQ (hv pins s σ H _ I h) λr s1 ⟨v,H1,I1,rv,q1⟩=>DQ (ho pins s1 σ H1 _ I1 q1) λu s2 ⟨x,H2,I2,rx,q2⟩=>DQ (hi pins s2 σ H2 _ I2 q2) λiv s3 ⟨y,H3,I3,ry,a,H4,ex,g,q3⟩=>?_) hs;subst ex;obtain rfl:u=Value.ref a:=rx;exact mG hu I3 g ry rv λs4 I4=>⟨σ,H4,I4,q3⟩
end
theorem qR{P:Program}{w:World}{H:Hp}(h:Heap)(hb:sysModules<h.objs.size):EN P w H (h.push {cls:=.type "dict",data:=.dict #[]}) h.objs.size (.dK []):=
 ⟨AY _,Bd.mpr (CI (BV hb)),[],.nil,Heap.DictOf.new h⟩
theorem qS{P:Program}{w:World}{H:Hp}(h:Heap)(hb:sysModules<h.objs.size):EN P w H (h.push {cls:=.type "dict",data:=.dict #[]}) h.objs.size (.dT []):=
 ⟨AY _,Bd.mpr (CI (BV hb)),[],.nil,_,#[],0,A9 _ U,⟨U,U,U⟩,U,U,DA⟩
def wM:TE:=λ_ H Q=>∀p,H p=none->Q (.ref p) (upd H p (.dK []))
def wN:TE:=λ_ H Q=>∀p,H p=none->Q (.ref p) (upd H p (.dT []))
section
variable{X:Cx}{pos:Pos}
theorem qT:PE X (.Dict [] [] pos) wM:=λpins s σ H Q I h=>
 Wj ⟨.ref s.heap.objs.size,_,I.laid (a:=s.heap.objs.size) (o:=.dK []) (t':=s.toks) (λ_ _ q=>Ae _ q) (AU _) (qR s.heap I.big),U,h _ (I.hok.fresh (AU _))⟩
theorem eE:PE X (.Dict [] [] pos) wN:=λpins s σ H Q I h=>
 Wj ⟨.ref s.heap.objs.size,_,I.laid (a:=s.heap.objs.size) (o:=.dT []) (t':=s.toks) (λ_ _ q=>Ae _ q) (AU _) (qS s.heap I.big),U,h _ (I.hok.fresh (AU _))⟩
end
structure M2(X:Cx)(o:Expr)(m:Str)(apos:Pos)(e f:Expr)(cpos:Pos):Prop where
 base:attributeBase o m X.env (eval o X.env)=eval o X.env
 few:((backTo cpos (starEach [e,f] X.env)).all (λx=>!x.1)&&(backToKw cpos (keywordEach [] X.env)).all (λx=>x.1.isSome)
  &&decide (([e,f]:List Expr).length+([]:List Keyword).length+(if([]:List Keyword).isEmpty then 0 else 1)<30))=true
 line:(apos.endLine==cpos.line)=true
 trees:backTo cpos (starEach [e,f] X.env)=[(false,eval e X.env),(false,eval f X.env)]
def IsD(H:Hp)(a:Addr):Prop:=(∃kvs,Rd H a (.dK kvs))\/∃kvs,Rd H a (.dT kvs)
theorem pL{X:Cx}{pins:List (Addr×Obj)}{σ:St}{H:Hp}{s:Shared}{a:Addr}(I:Inv X pins σ H s)(d:IsD H a):
 s.TypeIs (.ref a) "dict"/\(∀b,Value.ref a=.ref b->∃ob,s.heap.get? b=some ob/\ob.dict=none)/\(a==sysModules)=false:=by
 rcases d with ⟨kvs,e⟩|⟨kvs,e⟩
 ·obtain⟨_,hd,vs,_,dd⟩:=iY I.hok e;refine⟨dd.typeIs,λb q=>?_,hd⟩;cases q;obtain⟨ob,_,_,h1,h2,_⟩:=dd;exact⟨ob,h1,h2.2.1⟩
 ·obtain⟨_,hd,xs,_,dd⟩:=iZ I.hok e;refine⟨dd.typeIs,λb q=>?_,hd⟩;cases q;obtain⟨ob,_,_,h1,h2,_⟩:=dd;exact⟨ob,h1,h2.2.1⟩
section
variable{X:Cx}{pins:List (Addr×Obj)}{σ:St}{H:Hp}{s:Shared}{a:Addr}{y d:V}{u r:Value}{o:Option V}{A:Around}{E:Value->Shared->Prop}
theorem wO{Q:Value->Shared->Prop}(hu:A.units+1<cLine)(I:Inv X pins σ H s)(g:XY H a y o)(ry:RelV y u)(rd:RelV d r)(h:∀w' s',Inv X pins σ H s'->RelV (o.getD d) w'->Q w' s'):
 wpAny (model X.prog X.w) A (call (.builtin "dict.get") [.ref a,u,r]) Q E s:=by
 rcases g with ⟨kvs,k,e,ey,l⟩|⟨kvs,k,b,e,ey,eb,l⟩
 ·subst ey;obtain⟨z,hd,vs,rel,dd⟩:=iY I.hok e;refine Ol PySem.F.slot_dict_get dd.typeIs PySem.F.entry_dict_get (PySem.F.args_dict_get_3 _ _ _) (Ow (Dk X.prog X.w) a (Ze ry) hd r) ⟨_,dd.mapOf,h _ _ (I.tok _) ?_⟩;rw[l];exact(rel.val k).getD rd
 ·subst ey;cases (show u=Value.ref b from ry);obtain⟨z,hd,xs,rel,dd⟩:=iZ I.hok e;refine Ol PySem.F.slot_dict_get dd.typeIs PySem.F.entry_dict_get (PySem.F.args_dict_get_3 _ _ _) (meetsH_dict_get_default (tupleKind (Dk X.prog X.w)) a b hd r) ⟨JE hu,k,xs,X6 I.hok eb,dd,h _ _ (I.tok _) ?_⟩;rw[l];exact(rel.val k).getD rd
end
def wQ(td ty tx:TE):TE:=λσ H Q=>td σ H λx H1=>∃a,x=.ref a/\IsD H1 a/\ty σ H1 λy H2=>tx σ H2 λz H3=>∃o,XY H3 a y o/\Q (o.getD z) H3
section
variable{X:Cx}{o e f:Expr}{apos cpos:Pos}{td ty tx:TE}
theorem qU(hu:X.A.units+1<cLine)(ho:PE X o td)(he:PE X e ty)(hf:PE X f tx)(m:M2 X o "get" apos e f cpos):PE X (.Call (.Attribute o "get" apos) [e,f] [] cpos) (wQ td ty tx):=by
 intro pins s σ H Q I h;refine Mt m.base m.few m.line PySem.F.plainAttrs_dict PySem.F.slot_dict_get PySem.F.type_dict_get (DQ (ho pins s σ H _ I h) λu s1 ⟨x,H1,I1,rx,a,ex,d,q1⟩=>?_);subst ex;obtain rfl:u=Value.ref a:=rx;obtain⟨t1,t2,_⟩:=pL I1 d;refine⟨t1,t2,?_⟩;rw[m.trees];refine GL U (Hh (DM (DQ (he pins s1 σ H1 _ I1 q1) λiv s2 ⟨y,H2,I2,ry,q2⟩=>
  DM (DQ (hf pins s2 σ H2 _ I2 q2) λfv s3 ⟨z,H3,I3,rz,ov,g,q3⟩=>Gn ?_))))
 exact wO hu I3 g ry rz λw' s4 I4 rw'=>⟨_,H3,I4,rw',q3⟩
end
section
variable{X:Cx}{pins:List (Addr×Obj)}{σ:St}{H:Hp}{s:Shared}{a:Addr}{kvs:List (Key×V)}{A:Around}{E:Value->Shared->Prop}
end
section
variable{X:Cx}{pins:List (Addr×Obj)}{σ:St}{H:Hp}{s:Shared}{a:Addr}{y:V}{u:Value}{A:Around}{E:Value->Shared->Prop}
end
end L2
namespace L2
open PySem PySem.Spec PyProof.Rows
section
variable{prog:Program}{w:World}{A:Around}{E:Value->Shared->Prop}
end
section
variable{X:Cx}
end
end L2
namespace L2
open PySem PySem.Spec PyProof.Rows
theorem ZK:bootBuiltins "reversed"=some (.type "reversed"):=by decide +kernel
section
variable{X:Cx}{pins:List (Addr×Obj)}{σ:St}{H:Hp}{s:Shared}{h':Heap}
theorem Inv.tP{t':Nat}{ch:List Addr}(I:Inv X pins σ H s)(k:∀b o,b∉ch->s.heap.get? b=some o->h'.get? b=some o)(hf:∀b∈ch,Lk X pins H b):Inv X pins σ H {s with heap:=h',toks:=t'}:=by
 have o_:∀b u,H b=some u->b∉ch:=λb u e z=>by
  have q:=(hf b z).1;rw[q]at e;cases e
 refine I.step (g':=s.gens) (d':=s.drawn) (ch:=ch) (λb hb=>⟨(hf b hb).2.2.2.1,(hf b hb).2.1,(hf b hb).2.2.2.2.1,(hf b hb).2.2.2.2.2⟩) (λb o _ _ hc e _=>k b o hc e) (λb o _ _ hc e _=>⟨o.slots,k b o hc e⟩)
  (λ_ _ _ _ n=>n) (λb o hc e=>⟨o,k b o hc e⟩) (λ_ _ e=>e) (λ_ _ _ e=>e) (λb ps e=>⟨#[],by rw[e];simp⟩) (λm hm=>?_) (λb u e=>?_) I.bare
 ·obtain⟨o,es,ep,ho,r⟩:=hm;exact⟨o,es,ep,k _ o (λz=>(hf _ z).2.1 rfl) ho,r⟩
 ·refine(I.hok b u e).stay (λc v hc q=>k c v ?_ q) (λ_ q=>q) λ_ _ q=>q;rcases hc with z|z
  ·rw[z];exact o_ b u e
  ·exact o_ c _ z
theorem Inv.Vs{t':Nat}{ch:List Addr}{T:Addr}{ob:HO}(I:Inv X pins σ H s)(k:∀b o,b∉ch->s.heap.get? b=some o->h'.get? b=some o)(hf:∀b∈ch,Lk X pins H b)(hT:s.heap.objs.size<=T)
 (new:EN X.prog X.w (upd H T ob) h' T ob):Inv X pins σ (upd H T ob) {s with heap:=h',toks:=t'}:=by
 have hn:H T=none:=I.hok.fresh hT;have o_:∀b u,H b=some u->b∉ch:=λb u e z=>by
  have q:=(hf b z).1;rw[q]at e;cases e
 refine I.step (g':=s.gens) (d':=s.drawn) (ch:=ch) (λb hb=>⟨(hf b hb).2.2.2.1,(hf b hb).2.1,(hf b hb).2.2.2.2.1,(hf b hb).2.2.2.2.2⟩) (λb o _ _ hc e _=>k b o hc e) (λb o _ _ hc e _=>⟨o.slots,k b o hc e⟩)
  (λb o _ e n=>?_) (λb o hc e=>⟨o,k b o hc e⟩) (λb xs e=>?_) (λb o u e=>?_) (λb ps e=>⟨#[],?_⟩) (λm hm=>?_) (λb u e=>?_) I.bare
 ·rw[Aj (BV (BH (Az e) hT))];exact n
 ·rw[Aj (BY e hn)];exact e
 ·rw[Aj (BY e hn)];exact e
 ·rw[Aj (BY e hn),e];simp
 ·obtain⟨o,es,ep,ho,r⟩:=hm;exact⟨o,es,ep,k _ o (λz=>(hf _ z).2.1 rfl) ho,r⟩
 ·by_cases hb:b=T
  ·subst hb;rw[AD]at e;cases e;exact new
  ·rw[Aj hb]at e;(refine(I.hok b u e).stay (λc v hc q=>k c v ?_ q) (λc q=>by rw[Aj (BY q hn)];exact q) λc xs q=>by rw[Aj (BY q hn)];exact q);rcases hc with z|z
   ·rw[z];exact o_ b u e
   ·exact o_ c _ z
end
section
variable{X:Cx}
theorem wR{tg:Expr}{pins:List (Addr×Obj)}{σ:St}{H:Hp}{s:Shared}{R:It->Hp->Prop}{J:It}{tn:Nat->Heap->Prop}{tk:Nat}(I:Inv X pins σ H s)(o:Obj)
 (T:Turn X.prog X.w X.K tg J [s.heap.objs.size] s.heap.objs.size tn) (st:tn 0 (s.heap.push o)) (q:R J H):zv X pins σ tg R (.ref s.heap.objs.size) {s with heap:=s.heap.push o,toks:=tk}:=by
 refine⟨s.heap.objs.size,[s.heap.objs.size],tn,J,H,U,I.kept λb ob e=>Ae _ e,T,st,λb hb=>?_,q⟩;have e:b=s.heap.objs.size:=by simpa using hb
 subst e;exact I.XR (AU _) (I.hok.fresh (AU _))
end
def wU(lo c:Int)(n:Nat):It:=⟨λi _=>i<n,λi H x H'=>H'=H/\x=.int (lo+(i:Nat)*c),λi _=>n<=i⟩
theorem f7{P:Program}{w:World}{K:PySem.W.Frag}{tg:Expr}(it:Addr)(lo c:Int)(n:Nat):Turn P w K tg (wU lo c n) [it] it (λi h=>IsRangeIter h it (lo+(i:Nat)*c) ((n:Int)-(i:Nat)) c) where
 mem:=by simp
 obj:=λi h st b hb=>by
  have e:b=it:=by simpa using hb
  subst e;exact⟨_,st,λv z=>nomatch z⟩
 keep:=λi h h' st k=>k it (by simp) _ st
 item:=by
  intro X hP hw hK hc i pins s σ H E I hf st hg;subst hP hw hK;obtain⟨f0,f1,f2,f3,f4,f5⟩:=hf it (by simp);have W:=Walks.range (prog:=X.prog) (w:=X.w) (I.ok.hd hc) it lo c n;refine W.item i s _ _ hg st λv h' tk hv st' kk=>?_;obtain⟨t,rfl⟩:=hv;have I1:Inv X pins σ H {s with heap:=h',toks:=tk}:=I.turned (λb o hb e=>kk b o (by simpa using hb) e) f0 f1 f3 f4 f5;exact⟨_,U,oN (s:={s with heap:=h',toks:=tk}) (n:="range_iterator") st' U rfl (by decide) ⟨.int (lo+(i:Nat)*c),H,I1,⟨t,U⟩,⟨U,U⟩,st',λb hb=>(hf b hb).1⟩⟩
 done:=by
  intro X hP hw hK hc i pins s σ H E I hf st hg;subst hP hw hK;obtain⟨f0,f1,f2,f3,f4,f5⟩:=hf it (by simp);exact Oq (I.ok.hd hc) st (by have:n<=i:=hg;omega) λh' eb=>⟨U,I.turned (t':=s.toks) (λb o hb e=>eb b o hb e) f0 f1 f3 f4 f5⟩
 self:=λA i s Q E st h=>Ot st h
def RgC(i j c:Int)(n:Nat):Prop:=c≠0/\c.natAbs<1073741824/\Builtin.Range.small i j c=true/\Builtin.Range.rangeSize i j c=n
def zQ(ta:TA):TI:=λσ H R=>ta σ H λvs H1=>∃(i j c:Int)(n:Nat),vs=[.int i,.int j,.int c]/\RgC i j c n/\R (wU i c n) H1
section
variable{X:Cx}{tg:Expr}
theorem mJ{a b c:Expr}{ta:TA}{p pos:Pos}(hg:Gl X "range")(hm:X.mg "range"=none)(ha:PA X [a,b,c] ta)
 (hs:starEach [a,b,c] X.env=(false,eval a X.env)::starEach [b,c] X.env:=by rfl) (hpl:(backTo pos (starEach [b,c] X.env)).any (·.1)=false:=by rfl):
 PI X tg (.Call (.Name "range" p) [a,b,c] [] pos) (zQ ta):=by
 intro pins s σ H R I h;refine Zg (Km I hg hm boot_range (B7 (DQ (ha pos pins s σ H _ I h) λus s1 ⟨vs,H1,I1,r1,q1⟩=>?_) hs hpl));obtain⟨i,j,k,n,e,⟨c0,c1,c2,c3⟩,q⟩:=q1;subst e;cases r1 with
 |cons r rr=>
  cases rr with
  |cons r' rr=>
   cases rr with
   |cons r'' rr=>
    cases rr;obtain⟨t,rfl⟩:=r;obtain⟨t',rfl⟩:=r';obtain⟨t'',rfl⟩:=r'';refine call_range_3 c0 ?_ (.inl (PyProof.noPylong_small c1));refine UG (IsRange.new ..) c2 ?_;have I2:Inv X pins σ H1 {s1 with heap:=s1.heap.push {cls:=.type "range",data:=.fields #[.int i t,.int j t',.int k t'']}}:=I1.kept (t':=s1.toks) λb o e=>Ae _ e;refine wR (tk:=s1.toks) I2 _ (f7 _ i k n) ?_ q;(have e1:i+((0:Nat):Int)*k=i:=by simp);(have e2:(n:Int)-((0:Nat):Int)=Builtin.Range.rangeSize i j k:=by rw[c3];simp);show IsRangeIter _ _ (i+((0:Nat):Int)*k) ((n:Int)-((0:Nat):Int)) k;rw[e1,e2];exact A9 _ U
end
section
variable{X:Cx}{tg:Expr}
end
section
variable{prog:Program}{w:World}{A:Around}{E:Value->Shared->Prop}{s:Shared}
end
section
variable{X:Cx}{pins:List (Addr×Obj)}{σ:St}{H:Hp}{s:Shared}{d:Addr}{o:Obj}
end
section
variable{P:Program}{w:World}{K:PySem.W.Frag}{tg:Expr}{d:Addr}{o:Obj}{es:Array DictEntry}{ep:Nat}
end
section
variable{X:Cx}{tg e:Expr}{td:TE}{apos cpos:Pos}
end
def wV(K:PySem.W.Frag)(a:Addr):It:=
 ⟨λi H=>∃(xs:List V)(x:V),A1 K H a xs/\xs[i]?=some x,λi H v H'=>∃T x,v=.ref T/\H T=none/\H'=upd H T (.tup [.int (i:Nat),x])/\∀xs,A1 K H a xs->xs[i]?=some x,λi H=>∃xs:List V,A1 K H a xs/\xs.length<=i⟩
theorem mK{P:Program}{w:World}{K:PySem.W.Frag}{elts:List Expr}{kk:Nat}{tpos:Pos}(a e it:Addr):
 Turn P w K (.Tuple elts kk tpos) (wV K a) [e,it] e (λi h=>(∃old,IsEnum h e it ((i:Nat):Int) old)/\h.IsListIter it a i/\e≠it) where
 mem:=by simp
 obj:=λi h st b hb=>by
  obtain⟨⟨old,he⟩,⟨o,ho,hc,hd⟩,_⟩:=st;have e':b=e\/b=it:=by simpa using hb
  rcases e' with z|z
  ·rw[z];exact⟨_,he,λv q=>nomatch q⟩
  ·rw[z];exact⟨o,ho,λv q=>by rw[hd]at q;cases q⟩
 keep:=λi h h' st k=>let ⟨⟨old,he⟩,hi,hne⟩:=st;⟨⟨old,k e (by simp) _ he⟩,hi.at λo q=>k it (by simp) o q,hne⟩
 item:=by
  intro X hP hw hK hc i pins s σ H E I hf st hg;subst hP hw hK;obtain⟨⟨old,he⟩,hit,hne⟩:=st;obtain⟨xs,x,hq,hx⟩:=hg;obtain⟨its,rv,p,hz⟩:=I.list hq;obtain⟨u,hu,ru⟩:=rv.get hx;have hel:e<s.heap.objs.size:=Az he;have hil:it<s.heap.objs.size:=by obtain⟨_,q,_⟩:=hit;exact Az q
  refine wpAny_pyNext_enum_item he hit p.isList (x:=u) (by simpa using hu) hne λh' ho vR hT hsz hk=>?_;refine⟨_,U,MR (s:={s with heap:=h',toks:=s.toks+1}) ho λh'' he' sb=>?_⟩;have hT2:h''.get? s.heap.objs.size=some {cls:=.type "tuple",data:=.seq #[.int i s.toks,u]}:=(sb.2 _ (JO hel)).trans hT;have new:EN X.prog X.w (upd H s.heap.objs.size (.tup [.int (i:Nat),x])) h'' s.heap.objs.size (.tup [.int (i:Nat),x]):=
   ⟨by show 2<=sizeLine;decide,[.int i s.toks,u],.cons ⟨_,U⟩ (.cons ru .nil),⟨_,hT2,U,_,U⟩⟩
  have I1:Inv X pins σ (upd H s.heap.objs.size (.tup [.int (i:Nat),x])) {s with heap:=h'',toks:=s.toks+1}:=
   I.Vs (ch:=[e,it]) (λb ob hb q=>(sb.2 b (λz=>hb (by simp[z]))).trans (hk b ob (λz=>hb (by simp[z])) (λz=>hb (by simp[z])) q)) hf (AU _) new
  refine⟨.ref s.heap.objs.size,_,I1,U,⟨_,x,U,I.hok.fresh (AU _),U,λys hy=>by rw[I.UR hy hq];exact hx⟩,⟨⟨u,?_⟩,vR.at λo q=>(sb.2 it (CI hne)).trans q,hne⟩,λb hb=>?_⟩
  ·(have e1:((i+1:Nat):Int)=(i:Int)+1:=by omega);rw[e1];exact he'
  ·have hb':b<s.heap.objs.size:=by
    (have e':b=e\/b=it:=by simpa using hb);rcases e' with z|z
    ·rw[z];exact hel
    ·rw[z];exact hil
   rw[Aj (BV hb')];exact(hf b hb).1
 done:=by
  intro X hP hw hK hc i pins s σ H E I hf st hg;subst hP hw hK;obtain⟨⟨old,he⟩,hit,hne⟩:=st;obtain⟨xs,hq,hx⟩:=hg;obtain⟨its,rv,p,hz⟩:=I.list hq;obtain⟨f0,f1,f2,f3,f4,f5⟩:=hf it (by simp);have hl:=rv.length;exact wpAny_pyNext_enum_end (I.ok.hd hc) he hit p.isList (by simp;omega) λh' eb=>⟨U,I.turned (t':=s.toks) (λb o hb q=>eb b o hb q) f0 f1 f3 f4 f5⟩
 self:=λA i s Q E st h=>let ⟨⟨_,he⟩,_⟩:=st;Ja he h
def zR(K:PySem.W.Frag)(ta:TA):TI:=λσ H R=>ta σ H λvs H1=>∃a xs,vs=[.ref a]/\A1 K H1 a xs/\R (wV K a) H1
theorem kJ{X:Cx}{e:Expr}{ta:TA}{p pos tpos:Pos}{elts:List Expr}{kk:Nat}(hg:Gl X "enumerate")(hm:X.mg "enumerate"=none)(ha:PA X [e] ta)(hs:starEach [e] X.env=[(false,eval e X.env)]:=by rfl):
 PI X (.Tuple elts kk tpos) (.Call (.Name "enumerate" p) [e] [] pos) (zR X.K ta):=by
 intro pins s σ H R I h;refine Zg (Km I hg hm boot_enumerate (B7 (DQ (ha pos pins s σ H _ I h) λus s1 ⟨vs,H1,I1,r1,q1⟩=>?_) hs U));obtain⟨a,xs,ex,hq,q⟩:=q1;subst ex;cases r1 with
 |cons r rr=>
  cases rr;cases r;obtain⟨its,rv,p',hz⟩:=I1.list hq;refine call_enumerate_list p'.isList λh' he hit hsz hk=>Ja he ?_;have I2:Inv X pins σ H1 {s1 with heap:=h'}:=I1.kept (t':=s1.toks) hk;refine⟨s1.heap.objs.size+1,[s1.heap.objs.size+1,s1.heap.objs.size],_,_,H1,U,I2,mK a (s1.heap.objs.size+1) s1.heap.objs.size,⟨⟨.none,he⟩,hit,Wk _⟩,λb hb=>?_,q⟩;have e':b=s1.heap.objs.size+1\/b=s1.heap.objs.size:=by simpa using hb
  have hle:s1.heap.objs.size<=b:=by
   rcases e' with z|z
   ·rw[z];exact Ds _ _
   ·rw[z];exact AU _
  exact I1.XR hle (I1.hok.fresh hle)
theorem mL:bootBuiltins "zip"=some (.type "zip"):=by decide +kernel
end L2
section
namespace Bits
open PySem PyProof.Rows
end Bits
end
section
namespace TL
open PySem PySem.Builtin PySem.Builtin.Str PySem.StrLaws
end TL
end
namespace L2
open PySem PySem.Spec PyProof.Rows
section
variable{X:Cx}{pins:List (Addr×Obj)}{σ:St}{H:Hp}{s:Shared}{Q:VK}
end
section
variable{X:Cx}
end
section
variable{X:Cx}{o e:Expr}{to te:TE}
end
end L2
namespace L2
open PySem PySem.Spec PyProof.Rows
section
variable{X:Cx}
end
end L2
namespace Att
open PySem PySem.W PySem.Calls PyProof.Rows
section
variable{prog:Program}{w:World}{A:Around}{E:Value->Shared->Prop}{s:Shared}{K:Frag}
end
end Att
namespace L2
open PySem PySem.Spec PyProof.Rows
end L2
namespace L2
open PySem PySem.Spec PyProof.Rows
end L2
namespace L2
open PySem PySem.Spec PyProof.Rows
def inClass(s:Stmt)(j:Nat):Stmt:=match s with
 | .ClassDef _ _ _ body _ _ _ _ _ _ _=>body.getD j (.Pass ⟨0,0,0,0⟩)
 |_=>.Pass ⟨0,0,0,0⟩
def Je(s:Stmt):Arguments:=match s with
 | .FunctionDef _ a _ _ _ _ _ _ _ _=>a
 |_=>{posonlyargs:=[],args:=[],vararg:=none,kwonlyargs:=[],kw_defaults:=[],kwarg:=none,defaults:=[]}
def IC(s:Stmt):List Stmt:=match s with
 | .FunctionDef _ _ b _ _ _ _ _ _ _=>b
 |_=>[]
def Ad(s:Stmt):Scope:=match s with
 | .FunctionDef _ _ _ _ _ _ sc _ _ _=>sc
 |_=>{kind:=.function,names:=[],isGenerator:=false,isCoroutine:=false}
abbrev T5:cN:=λ_ _ _ _ _ _=>False
abbrev E0:XK:=λ_ _ _=>False
theorem cV{X:Cx}:Passes T5 X E0:=λ_ _ _ _ _ _ _ h=>h.elim
structure sI(K:PySem.W.Frag)(x qual:Str)(st:Stmt)(f:Addr)(fd:FuncData):Prop where
 ex:∃(oc:Value)(od:Option Addr)(kV doc pm:Value)(an:Option Addr)(cdv ct:Value)(osl:Array (Option Value)),
  fd=PySem.W.fnOf x qual (Je st) (IC st) (Ad st) .none kV doc pm an cdv ct/\K.lookup f=some ⟨oc,od,.func fd,osl⟩/\PySem.W.codeIn K cdv qual=true
 kp:PySem.W.keepIn K (.ref f)=true
section
variable{P:Program}{w:World}{K:PySem.W.Frag}{mg:Str->Option Value}{base:Heap}
theorem sI.ok{x qual:Str}{st:Stmt}{f:Addr}{fd:FuncData}{N ps:List Str}{k:Nat}{sp:Sp}(F:sI K x qual st f fd)(S:Ao N ps (Ad st))(len:∀vs H Q E,sp vs H Q E->vs.length=ps.length)
 (hbody:∀(cdv:Value)(A:Around)(outer:List Env)(s:Shared)(H:Hp)(vs:List V)(Q:VK)(E:XK),Er k (A.deeper (envOfC qual (Ad st) s.heap.objs.size f cdv))->sp vs H Q E->
   ∃t,Z8 (dX T5 P w K mg base N qual (Ad st) f cdv A outer s H E).v_ (IC st) t/\t {nx:=λ_ H'=>Q .DX H',rt:=Q} (start N vs) H):HU P w K mg base T5 (k+1) f fd ps sp:=by
 obtain⟨oc,od,kV,doc,pm,an,cdv,ct,osl,rfl,lk,hcd⟩:=F.ex;refine zL lk hcd S len λA outer s H vs Q E hr j6=>?_;obtain⟨t,h,q⟩:=hbody cdv A outer s H vs Q E hr j6;exact⟨t,h.v_,q⟩
theorem sI.binds{x qual:Str}{st:Stmt}{f:Addr}{fd:FuncData}{ps:List Str}(F:sI K x qual st f fd)
 (h:∀(kV doc pm:Value)(an:Option Addr)(cdv ct:Value)(us:List Value),us.length=ps.length->bindArgs (PySem.W.fnOf x qual (Je st) (IC st) (Ad st) .none kV doc pm an cdv ct) ⟨us,[]⟩=pure (ps.zip us)):Binds K fd ps []:=by
 obtain⟨oc,od,kV,doc,pm,an,cdv,ct,osl,rfl,lk,hcd⟩:=F.ex;exact .all (h kV doc pm an cdv ct)
theorem U5{x qual:Str}{st:Stmt}{f:Addr}{oc:Value}{od an:Option Addr}{osl:Array (Option Value)}{kV doc pm cdv ct:Value}(l:K.lookup f=some ⟨oc,od,.func (PySem.W.fnOf x qual (Je st) (IC st) (Ad st) .none kV doc pm an cdv ct),osl⟩)
 (c:PySem.W.codeIn K cdv qual=true) (k:PySem.W.keepIn K (.ref f)=true):sI K x qual st f (PySem.W.fnOf x qual (Je st) (IC st) (Ad st) .none kV doc pm an cdv ct):=⟨⟨oc,od,kV,doc,pm,an,cdv,ct,osl,U,l,c⟩,k⟩
end
theorem cW{A:Around}{k:Nat}(hr:Er k A):A.units+1<cLine:=Nat.lt_of_le_of_lt (Nat.add_le_add_left (by decide:1<=64) _) hr.units
section
variable{X:Cx}
theorem pv(i:Nat){x:Str}{pos:Pos}(hN:X.N[i]?=some x:=by rfl)(hv:vz X.env.scope x:=by first|exact Or.inl rfl|exact Or.inr (Or.inl rfl)|exact Or.inr (Or.inr rfl))(hd:(x==("__debug__":Str))=false:=by decide)
 (hcd:(x==("__classdict__":Str))=false:=by decide):PE X (.Name x pos) (CD i):=v8 hN hv hd hcd
end
theorem GZ{A B:Prop}(h:B):if false=true then A else B:=by
 rw[AI Au];exact h
theorem F7{A B:Prop}(h:A):if true=true then A else B:=by
 rw[AJ U];exact h
theorem DL{c A B:Prop}[Decidable c](h1:c->A)(h2:¬c->B):if c then A else B:=by
 by_cases h:c
 ·rw[AJ h];exact h1 h
 ·rw[AI h];exact h2 h
def A7(H H':Hp):Prop:=∀b o,H b=some o->H' b=some o
theorem A7.refl(H:Hp):A7 H H:=λ_ _ h=>h
theorem A7.trans{H H1 H2:Hp}(a:A7 H H1)(b:A7 H1 H2):A7 H H2:=λc o h=>b c o (a c o h)
theorem A7.free{H H':Hp}(e:A7 H H'){l:Addr}(h:H' l=Option.none):H l=Option.none:=by
 cases q:H l with
 |none=>rfl
 |some o=>
  rw[e l o q]at h;cases h
theorem A7.seq{K:PySem.W.Frag}{H H':Hp}{a:Addr}{xs:List V}(e:A7 H H')(h:A1 K H a xs):A1 K H' a xs:=by
 rcases h with (h|⟨o,h⟩)|h
 ·exact .inl (.inl (e _ _ h))
 ·exact .inl (.inr ⟨o,e _ _ h⟩)
 ·exact .inr h
section
variable{κ:Type}[DecidableEq κ]
end
theorem at_of{xs:List V}{z:Int}{j:Nat}{v:V}(e:z=(j:Int))(h:xs[j]?=some v):mE xs z=some v:=by
 rw[e];exact tH h
theorem zS{α:Type}{l:List α}(hN:l.Nodup){i j:Nat}{x:α}(a:l[i]?=some x)(b:l[j]?=some x):i=j:=by
 obtain⟨h1,e1⟩:=AZ.mp a;obtain⟨h2,e2⟩:=AZ.mp b;exact(Wg hN).mp (e1.trans e2.symm)
end L2
namespace L2
open PySem PySem.Spec PyProof.Rows
section
variable{X:Cx}
def zT(i j:Int):Prop:=0<j/\j<18446744073709551616
theorem UW:RO X (binaryOp .FloorDiv) (rI zT λi j=>.int (i/j)):=zz λi j _ _ _ _ _ hc q=>by
 have h1:(0:Int)<j:=hc.1;have h2:j<18446744073709551616:=hc.2;refine floordiv_int (by omega) (by rw[Int.fdiv_eq_ediv_of_nonneg i (by omega)];exact q) (.inl (PyProof.noPylong_of_log2 ?_));have h0:j.natAbs≠0:=by omega
 have h30:j.natAbs.log2<64:=(Nat.log2_lt h0).mpr (by omega);omega
theorem tQ{α:Type}(its:List α)(k:Nat)(u:α)(hk:k<=its.length):
 (its.toArray.extract 0 k).push u++its.toArray.extract k=(its.take k++u::its.drop k).toArray:=by
 apply Array.ext';simp only[Array.toList_append,VY,Array.toList_extract,List.extract_eq_take_drop,L0,Nat.sub_zero,Bm,List.singleton_append,Ri,Ar];rw[De (l:=its.drop k) (by rw[A2];omega)]
theorem Vals.insert{xs:List V}{us:List Value}{x:V}{u:Value}(r:Vals xs us)(ru:RelV x u)(k:Nat):Vals (xs.take k++x::xs.drop k) (us.take k++u::us.drop k):=
 (r.take k).append (.cons ru (r.drop k))
inductive AA4(x:V)(vs:List V)(H:Hp)(Q:VK):Prop
 |mk(l:Addr)(xs:List V)(k:Nat)(y:V)(h0:x=.ref l)(h1:vs=[.int k,y])(h2:H l=some (.lst xs))(h3:k<=xs.length)(h4:xs.length<sizeLine)(h5:Q .DX (upd H l (.lst (xs.take k++y::xs.drop k))))
def tR:V->List V->Hp->VK->Prop:=λx vs H Q=>AA4 x vs H Q
theorem qV{k:Nat}(h:k<16777217):¬(!Builtin.List.listFitsIndex (k:Int))=true:=by
 have e:Builtin.List.listFitsIndex (k:Int)=true:=by
  unfold Builtin.List.listFitsIndex;rw[AR];exact⟨AM (by omega),AM (by omega)⟩
 rw[e];decide
theorem Vt:z7 X "list.insert" tR:=by
 intro pins s σ H x vs v us Q I rx rv h;obtain⟨l,xs,k,y,rfl,rfl,hH,hk,hz,q⟩:=h;cases rx;obtain⟨uk,u,rfl,rk,ru⟩:=rv.two;obtain⟨t,rfl⟩:=rk;obtain⟨z,its,n,r,hl,e⟩:=I.iW hH;have hsl:sizeLine=16777216:=D7;have hfit:=qV (k:=k) (by omega);generalize hi:(k:Int)=i at hfit⊢;have hsz:its.toArray.size<=sizeLine:=by rw[Ar];omega
 refine Tz F.slot_list_insert ⟨_,e,U⟩ F.entry_list_insert (F.args_list_insert_3 _ _ _) (AutoSeq1.list_insert_list_int_val_1 l its.toArray n i t u hfit hsz) ⟨e,?_⟩;refine⟨.DX,_,I.vP (its':=its.take k++u::its.drop k) hH e ?_ (r.insert ru k) ?_,U,q⟩
 ·show(its.toArray.extract 0 (if i<0 then(i+(its.toArray.size:Int)).toNat else min (i.toNat) its.toArray.size)).push u++its.toArray.extract (if i<0 then(i+(its.toArray.size:Int)).toNat else min (i.toNat) its.toArray.size)=_;have e1:(if i<0 then(i+(its.toArray.size:Int)).toNat else min (i.toNat) its.toArray.size)=k:=by
   rw[AI (by omega),Ar];omega
  rw[e1];exact tQ its k u (by omega)
 ·rw[AL,Ab,Bb,A2];omega
def wW(X:Cx)(tf:TE)(t:TA):TE:=λσ H Q=>tf σ H λx H1=>∃(f:Addr)(fd:FuncData)(ps:List Str)(sp:Sp)(k:Nat),x=.ref f/\HU X.prog X.w X.K X.mg X.base T5 k f fd ps sp/\Er k X.A/\
 PySem.W.keepIn X.K (.ref f)=true/\Binds X.K fd ps []/\t σ H1 λvs H2=>sp vs H2 Q E0
theorem qW{fe e:Expr}{es:List Expr}{pos:Pos}{tf:TE}{t:TA}(hf:PE X fe tf)(ha:PA X (e::es) t)
 (hev:eval (.Call fe (e::es) [] pos) X.env=(do callWith pos (<-eval fe X.env) [] (backTo pos (starEach (e::es) X.env)) (backToKw pos (keywordEach [] X.env))):=by rfl)
 (he:starEach (e::es) X.env=(false,eval e X.env)::starEach es X.env:=by rfl) (hpl:(backTo pos (starEach es X.env)).any (·.1)=false:=by rfl):
 PE X (.Call fe (e::es) [] pos) (wW X tf t):=by
 intro pins s σ H Q I h;refine Zg (DQ (hf pins s σ H _ I h) λu s1 ⟨x,H1,I1,rx,f,fd,ps,sp,k,ex,F,hr,hk,hb,q⟩=>?_) hev;subst ex;cases (show u=Value.ref f from rx);refine PySem.W.callWith_K (h₀:=X.base) I.ok.mod.vt hk (DQ (ha pos pins s1 σ H1 _ I1 q) λus s2 ⟨vs,H2,I2,r,q2⟩=>⟨I2.Zh,?_⟩) he hpl;refine pG (E:=E0) F hr hb .nil cV I2 r ?_;rw[Bk];exact q2
end
end L2
namespace PySem
open Sem (wp)
theorem mP:typeLookup (.type "list_reverseiterator") "__len__"=pure none:=by rw[typeLookup_type,Ph];kernel_rfl
theorem qX:typeLookup (.type "list_reverseiterator") "__length_hint__"=pure (some (.builtin "list_reverseiterator.__length_hint__")):=by rw[typeLookup_type,Ph];kernel_rfl
def Pr(n:Nat):Obj:={cls:=.type "list",data:=.seq #[] n}
section
variable{prog:Program}{w:World}{A:Around}{E:Value->Shared->Prop}{s:Shared}{it l:Addr}{items:Array Value}
theorem cX{i:Int}{Q:Bool->Shared->Prop}(o:s.heap.IsRevIter it l i)(h:Q false s):wpAny (model prog w) A (Builtin.List.listLengthHint (.ref it)) Q E s:=by
 unfold Builtin.List.listLengthHint;refine AH (PB o.typeIs mP ?_)
 wp_delta
 refine GS (λz=>absurd z (by decide)) λ_=>GS (λz=>absurd z (by decide)) λ_=>AH (PB o.typeIs qX ?_);generalize hid:("list_reverseiterator.__length_hint__":String)=i0
 wp_delta
 rw[show splitId i0=some ("list_reverseiterator","__length_hint__")from by subst hid;decide +kernel];subst hid;refine AH (Wl (T:="list_reverseiterator") (b:=true) o.typeIs (by rw[isSubtype_type];kernel_rfl) ?_);exact GS (λz=>absurd z (by decide)) λ_=>GS (λ_=>GS (λz=>absurd z (by decide +kernel)) λ_=>BA h) λz=>absurd (by decide +kernel) z
theorem cY{n:Nat}{c:Addr}{i:Int}(o:s.heap.IsRevIter it l i)(oc:s.heap.get? c=some (Pr n)):c≠it:=λz=>by
 obtain⟨ob,ho,hc,_⟩:=o;rw[<-z,oc]at ho;cases ho;exact absurd (show Value.type "list"=Value.type "list_reverseiterator" from hc) (by decide)
theorem Zm{Q:Value->Shared->Prop}(calm:A.handled=none)(o:s.heap.IsRevIter it l ((items.size:Int)-1))(ol:s.heap.IsList l items)(hz:items.size<=sizeLine)
 (k:∀h2 tk acc n,(∀b ob,b≠it->s.heap.get? b=some ob->h2.get? b=some ob)->h2.get? s.heap.objs.size=some {cls:=.type "list",dict:=none,data:=.seq acc n,slots:=#[]}->
   ItemsOf (λi v=>items[items.size-1-i]?=some v) acc items.size->Q (.ref s.heap.objs.size) {s with heap:=h2,toks:=tk}):
 wpAny (model prog w) A (call (.type "list") [.ref it]) Q E s:=by
 have nl:l≠it:=λz=>by
  obtain⟨oa,ha,hc,_⟩:=o;obtain⟨ob,hb,hd,_⟩:=ol;rw[z,ha]at hb;cases hb;exact absurd (hc.symm.trans hd) (by decide)
 generalize hS:s.heap.objs.size=S at k⊢;have nS:l≠S:=λz=>by
  obtain⟨ob,hb,_⟩:=ol;exact absurd (Az hb) (by rw[z,hS];exact DU _)
 refine callType_codes (Q₁:=λv q=>v=.ref S/\q={s with heap:=s.heap.push (Pr 0)}) F.called_list (F.typeCall_list_1 _) F.entry_list_init (code_list_new _ ⟨by rw[hS],U⟩) λv q hq=>?_;obtain⟨rfl,rfl⟩:=hq;have own:(s.heap.push (Pr 0)).get? S=some (Pr 0):=by rw[<-hS];exact A9 _ U
 refine⟨⟨_,own,U⟩,F.args_list_init_2 _ _,?_⟩;show wpAny _ _ (Builtin.List.listItems (.ref S)>>=λold=>Builtin.List.listUpdate (.ref S) (λ_=>#[])>>=λ_=>letGo old.toList.reverse>>=λ_=>Builtin.List.listExtendWith (.ref S) (.ref it) .none) _ _ _;refine AH (PyProof.Rows.listItems_at own U (AH (PyProof.Rows.listUpdate_at own U (AH (Qa ?_)) (AY _) (AY _))));generalize hg:(s.heap.push (Pr 0)).update S (Obj.mapSeq λ_=>#[])=g;have og:g.get? S=some (Pr 0):=by rw[<-hg];exact PyProof.Rows.get?_update_seq own λ_=>#[]
 have kg:∀b ob,s.heap.get? b=some ob->g.get? b=some ob:=λb ob e=>by
  rw[<-hg,Rj _ _ _ _ (by rw[<-hS];exact BV (Az e))];exact Ae _ e
 have oi:g.IsRevIter it l ((items.size:Int)-1):=o.at λob e=>kg _ _ e;have ogl:g.IsList l items:=ol.at λob e=>kg _ _ e;have ni:S≠it:=cY (s:={s with heap:=g}) oi og;unfold Builtin.List.listExtendWith;refine AH (wpAny_typeOf (s:={s with heap:=g}) oi.typeIs ?_);have f1:Builtin.List.listSameRef (.ref S) (.ref it)=false:=by simp[Builtin.List.listSameRef,ni]
 have f2:(Value.type "list_reverseiterator"==Value.type "list"||Value.type "list_reverseiterator"==Value.type "tuple")=false:=by decide
 rw[f1,SN,f2,AI Au];refine AH (wpAny_pyIter_revIter oi (AH (GX (cX oi (GS (λz=>absurd z (by decide)) λ_=>BA ⟨plainId_quiet F.plain_extend_loop _,?_⟩)))));refine codeAny_extend_loopS (Walks.listRev (prog:=prog) (w:=w) (A:=A.in1.in1) calm it l nl items).toS hz S (λm=>by
  rcases AN.mp m with z|m
  ·exact ni z
  ·exact nS (Af.mp m).symm) .none items.size 0 _ #[] 0 rfl (AY _) ⟨AY _,by simpa using oi,ogl⟩ og (ItemsOf.nil _) λq acc n mv oq ha=>?_
 rw[Moved.eq_with mv];refine⟨U,k q.heap q.toks acc n (λb ob hb e=>mv.heap b ob (λm=>?_) (kg b ob e)) oq ha⟩;rcases AN.mp m with z|m
 ·exact absurd (Az e) (by rw[z,hS];exact DU _)
 ·exact hb (Af.mp m)
end
end PySem
namespace L2
open PySem PySem.Spec PyProof.Rows
section
variable{X:Cx}
theorem mQ{its:List Value}{acc:Array Value}(h:ItemsOf (λi v=>its.toArray[its.toArray.size-1-i]?=some v) acc its.toArray.size):acc=its.reverse.toArray:=by
 apply Array.ext';rw[Ri];apply Mu;intro i;have hs:acc.size=its.length:=by rw[h.1,Ar]
 by_cases hi:i<its.length
 ·have e:acc[i]?=some (acc[i]'(by omega)):=Dn (by omega);have q:=h.2 i _ e;rw[Ar]at q;rw[List.getElem?_reverse hi,Array.getElem?_toList,e,<-q];simp
 ·rw[CT (by rw[Fl];omega),CT (by rw[Fo];omega)]
inductive XLR(K:PySem.W.Frag)(vs:List V)(H1:Hp)(Q:VK):Prop
 |mk(a:Addr)(xs:List V)(h0:vs=[.ref a])(h1:A1 K H1 a xs)(h2:∀l,H1 l=none->Q (.ref l) (upd H1 l (.lst xs.reverse)))
def qY(K:PySem.W.Frag)(ta:TA):TE:=λσ H Q=>ta σ H λvs H1=>XLR K vs H1 Q
theorem SR{e:Expr}{ta:TA}{p p2 pos pos2:Pos}(hc:X.calm=true)(hg:Gl X "reversed")(hm:X.mg "reversed"=none)(hgl:Gl X "list")(hml:X.mg "list"=none)(ha:PA X [e] ta)(hs:starEach [e] X.env=[(false,eval e X.env)]:=by rfl)
 (hs2:starEach [.Call (.Name "reversed" p2) [e] [] pos2] X.env=[(false,eval (.Call (.Name "reversed" p2) [e] [] pos2) X.env)]:=by rfl):
 PE X (.Call (.Name "list" p) [.Call (.Name "reversed" p2) [e] [] pos2] [] pos) (qY X.K ta):=by
 intro pins s σ H Q I h;refine DN (Km I hgl hml boot_list ?_);refine B7 ?_ hs2 U;rw[hs2];show wpAny _ _ (spliced ((false,eval (.Call (.Name "reversed" p2) [e] [] pos2) X.env)::backTo pos (starEach [] X.env))) _ _ s;refine DM ?_;refine Zg (Km I hg hm ZK (B7 (DQ (ha pos2 pins s σ H _ I h) λus s1 ⟨vs,H1,I1,r1,q1⟩=>?_) hs U));obtain⟨a,xs,ev,hq,q⟩:=q1;subst ev;cases r1 with
 |cons r rr=>
  cases rr;cases r;obtain⟨its,rv,p',hz⟩:=I1.list hq;have hl:=rv.length;have hit:(s1.heap.push (revObj a ((its.toArray.size:Int)-1))).IsRevIter s1.heap.objs.size a ((its.toArray.size:Int)-1):=⟨_,A9 _ U,U,U⟩;refine call_reversed_list p'.isList (Gn ?_);have hl2:(s1.heap.push (revObj a ((its.toArray.size:Int)-1))).IsList a its.toArray:=by
   obtain⟨o,ho,r⟩:=p'.isList;exact⟨o,Ae _ ho,r⟩
  refine Zm (s:={s1 with heap:=s1.heap.push (revObj a ((its.toArray.size:Int)-1))}) (I.ok.hd hc) hit hl2 (by rw[Ar];omega) λh' tk acc' c' hk hS' hacc=>?_;have ea:=mQ hacc;subst ea;have hsz:(s1.heap.push (revObj a ((its.toArray.size:Int)-1))).objs.size=s1.heap.objs.size+1:=ZG ..;have kp:∀b o,s1.heap.get? b=some o->h'.get? b=some o:=λb o e=>hk b o (BV (Az e)) (Ae _ e);have hle:s1.heap.objs.size<=(s1.heap.push (revObj a ((its.toArray.size:Int)-1))).objs.size:=by rw[hsz];exact EX _
  refine⟨.ref _,upd H1 (s1.heap.push (revObj a ((its.toArray.size:Int)-1))).objs.size (.lst xs.reverse),I1.laid kp hle (show EN X.prog X.w _ h' _ (.lst xs.reverse)from⟨by rw[Fo];exact hz,its.reverse,c',rv.reverse,hS'⟩),U,q _ (I1.hok.fresh hle)⟩
end
end L2
namespace L2
open PySem PySem.Spec PyProof.Rows
section
variable{X:Cx}{pins:List (Addr×Obj)}{σ:St}{H:Hp}{s:Shared}{A:Around}{E:Value->Shared->Prop}
theorem Inv.turn{c:Addr}{h':Heap}{t':Nat}(I:Inv X pins σ H s)(f:Lk X pins H c)(hs:Heap.SameBut c s.heap h'):Inv X pins σ H {s with heap:=h',toks:=t'}:=
 I.turned (λd o hd q=>(hs.2 d hd).trans q) f.1 f.2.1 f.2.2.2.1 f.2.2.2.2.1 f.2.2.2.2.2
theorem aO{c:Addr}{ys:Array Value}{n:Nat}{g:Array Value->Array Value}{R:Unit->Shared->Prop}(I:Inv X pins σ H s)(f:Lk X pins H c)(o:s.heap.get? c=some (seqObj "list" ys n))(z1:ys.size<=sizeLine)(z2:(g ys).size<=sizeLine)
 (k:∀s2 n2,Inv X pins σ H s2->s2.heap.get? c=some (seqObj "list" (g ys) n2)->(∀d,d≠c->s2.heap.get? d=s.heap.get? d)->R () s2):wpAny (model X.prog X.w) A (Builtin.List.listUpdate (.ref c) g) R E s:=
 have sb:=Fp s.heap c (Obj.mapSeq g)
 listUpdate_at o U (k _ _ (I.turn (t':=s.toks) f sb) (get?_update_seq o g) λd hd=>sb.2 d hd) z1 (VZ z2)
def laidOut(b:Bool)(ks:Array Value)(its:List Value):Array Keyed:=if b=true then(ks.zip its.toArray).reverse else ks.zip its.toArray
def UX(b:Bool)(r:Array Keyed):Array Value:=if b=true then(r.map (·.2)).reverse else r.map (·.2)
theorem cZ(b:Bool)(ks:Array Value)(its:List Value):(laidOut b ks its).Perm (ks.zip its.toArray):=by
 unfold laidOut;cases b
 ·exact .refl _
 ·simp only[MI];exact Array.perm_iff_toList_perm.mpr (by rw[Array.toList_reverse];exact Gp _)
theorem Zn(b:Bool)(r:Array Keyed):(UX b r).size=r.size:=by
 unfold UX;cases b<;>simp
variable{a kS:Addr}{b:Bool}{its:List Value}{kz:List Int}
structure rm(X:Cx)(pins:List (Addr×Obj))(H:Hp)(a kS:Addr):Prop where
 fa:Lk X pins H a
 fk:Lk X pins H kS
 ne:kS≠a
structure Lies(X:Cx)(pins:List (Addr×Obj))(σ:St)(H:Hp)(a kS:Addr)(ep:Nat)(ks:Array Value)(s:Shared):Prop where
 inv:Inv X pins σ H s
 keys:∃n,s.heap.get? kS=some (seqObj "list" ks n)
 hole:s.heap.get? a=some (seqObj "list" #[] ep)
theorem aP{ks:Array Value}(hk:IntsAre ks.toList kz)(hl:kz.length=its.length):ks.size=its.length:=by
 have:=hk.length;rw[Fl]at this;omega
theorem Ys{ep:Nat}{ks:Array Value}{st:SortSt}{P:PySem.Fin->Shared->Prop}(D:rm X pins H a kS)(L:Lies X pins σ H a kS ep ks s)(hk:IntsAre ks.toList kz)(hl:kz.length=its.length)(hz:its.length<=sizeLine)
 (h1:(arrOf st).Perm (ks.zip its.toArray)) (h2:SortedTo (arrOf st) (arrOf st).size) (h3:failedOf st=none) (h4:Stable intKind (arrOf st) (laidOut b ks its))
 (k:∀s2 out n,Inv X pins σ H s2->s2.heap.get? a=some (seqObj "list" out n)->KskOutSt b kz its out.toList->P (.done (.ret .none)) s2):
 wpAny (model X.prog X.w) A (ksk_tail a b ep (.ref kS) st) P E s:=by
 obtain⟨I,⟨n,ok⟩,oa⟩:=L;have e1:=aP hk hl;have e2:(UX b (arrOf st)).size=its.length:=by rw[Zn,h1.size_eq,Array.size_zip,e1,Ar];omega
 unfold ksk_tail;dsimp only;refine AH (aO I D.fk ok (by omega) (AY _) λs2 n2 I2 _ same=>?_);have yg:s2.heap.get? a=some (seqObj "list" #[] ep):=(same a D.ne.symm).trans oa;refine AH (Qa (AH (seqEpoch_at yg U (AH (aO (g:=λ_=>UX b (arrOf st)) I2 D.fa yg (AY _) (by omega) λs3 n3 I3 o3 _=>?_)))));rw[h3,bne_self_eq_false];exact BA (k s3 _ n3 I3 o3 (ksk_outSt hk h1 h2 h4))
theorem mR{ep:Nat}{ks:Array Value}{P:PySem.Fin->Shared->Prop}(D:rm X pins H a kS)(L:Lies X pins σ H a kS ep ks s)(hk:IntsAre ks.toList kz)(hl:kz.length=its.length)(hz:its.length<=sizeLine)
 (k:∀s2 out n,Inv X pins σ H s2->s2.heap.get? a=some (seqObj "list" out n)->KskOutSt b kz its out.toList->P (.done (.ret .none)) s2):
 wpAny (model X.prog X.w) A (ksk_end a b its.toArray ep (.ref kS) ks) P E s:=by
 have e1:=aP hk hl;have pm:=cZ b ks its;have e2:(laidOut b ks its).size=its.length:=by rw[pm.size_eq,Array.size_zip,e1,Ar];omega
 have said:∀t:Sem PySem.Fin,wpAny (model X.prog X.w) A t P E s->wpAny (model X.prog X.w) A (if b=true then(rule "list.sort.reverse">>=λ_=>t)else t) P E s:=λt ht=>by
  cases b
  ·exact ht
  ·exact AH (Jl ht)
 unfold ksk_end;dsimp only;refine said _ ?_;show wpAny _ _ (do
  let kind <-if its.toArray.size<2 then pure general' else keyKind' ks
  let ((),st)<-(if its.toArray.size<2 then pure ()else sortRuns').run (SortSt.mk' kind (laidOut b ks its) #[] 7 none)
  ksk_tail a b ep (.ref kS) st) _ _ _
 rw[Ar];by_cases few:its.length<2
 ·simp only[AJ few];refine AH (BA ?_);rw[StateT.run_pure];refine AH (BA (Ys D L hk hl hz (st:=SortSt.mk' general' (laidOut b ks its) #[] 7 none) pm (λi j hij hj=>?_) U (Stable.refl _) k));have hj':j<(laidOut b ks its).size:=hj;obtain rfl:i=j:=by omega
  exact Qc _
 ·simp only[AI few];rw[ksk_kind hk (by omega)];refine AH (BA (AH (DT (wpS_sortRunsSt (κ:=intKind) (a₀:=laidOut b ks its) (st:=SortSt.mk' oneType' (laidOut b ks its) #[] 7 none)
   (Q:=λ_ r=>(arrOf r).Perm (ks.zip its.toArray)/\failedOf r=none/\SortedTo (arrOf r) (arrOf r).size/\Stable intKind (arrOf r) (laidOut b ks its))
   intKind_oneLt ((ksk_keysOfInt (ksk_intKeys hk)).perm pm) ⟨.refl _,U,U⟩ U (Stable.refl _) (by omega) λr q1 q2 q3 q4=>⟨q1.trans pm,q2,by rw[q1.size_eq];exact sortedTo_of_int q3,q4⟩) (λr s2 hr=>?_) λ_ _ z=>z)))
  obtain⟨⟨⟩,r⟩:=r;obtain⟨rfl,q1,q2,q3,q4⟩:=hr;exact Ys D L hk hl hz q1 q3 q2 q4 k
def bZ(X:Cx)(A:Around)(σ:St)(H:Hp)(f:Value)(its:List Value)(kz:List Int):Prop:=
 ∀(i:Nat)(v:Value)(k:Int),its[i]?=some v->kz[i]?=some k->∀(Zc:List (Addr×Obj))(s':Shared),Inv X Zc σ H s'->
  wpAny (model X.prog X.w) A (call f [v]) (λu s''=>(∃t,u=.int k t)/\Inv X Zc σ H s'') (λ_ _=>False) s'
theorem kK(ys:Array Value)(n:Nat)(v:Option Value):(seqObj "list" ys n).data≠.cell v:=λz=>nomatch z
theorem mS{f:Value}{ep:Nat}{P:PySem.Fin->Shared->Prop}(D:rm X pins H a kS)(L:Lies X pins σ H a kS ep #[] s)(hl:kz.length=its.length)(hz:its.length<=sizeLine)(turn:bZ X A σ H f its kz)
 (k:∀s2 out n,Inv X pins σ H s2->s2.heap.get? a=some (seqObj "list" out n)->KskOutSt b kz its out.toList->P (.done (.ret .none)) s2):
 wpAny (model X.prog X.w) A (ksk_rest a f b its.toArray ep (.ref kS)) P E s:=by
 unfold ksk_rest;refine AH (Jl ?_);rw[List.forIn_toArray];refine AH (ksk_fold (λi q=>∃ks,Lies X pins σ H a kS ep ks q/\IntsAre ks.toList (kz.take i)) its 0 s ⟨#[],L,.nil⟩ (λj v q hv hq=>?_) λq hq=>?_)
 ·obtain⟨ks,⟨I,⟨n,ok⟩,oa⟩,hi⟩:=hq;rw[LZ]at hi⊢;have lt:=(AZ.mp hv).1;obtain⟨y,hy⟩:∃y,kz[j]?=some y:=⟨kz[j],Ak (hl▸lt)⟩;have sz:ks.size<=j:=by
   have:=hi.length;rw[Fl,Bb]at this;omega
  have pinned:=I.pinned (fp:=[kS,a]) (λc m=>(AN.mp m).elim (λe=>e▸D.fk) λm=>Af.mp m▸D.fa)
   (λc m=>(AN.mp m).elim (λe=>⟨_,e▸ok,kK _ _⟩) λm=>⟨_,Af.mp m▸oa,kK _ _⟩)
  refine AH (SO (DT (turn j v y hv hy _ q pinned) (λu q2 hu=>?_) λ_ _ z=>z.elim));obtain⟨⟨t,rfl⟩,I2⟩:=hu;have was:∀{c:Addr}{o:Obj},c∈[kS,a]->q.heap.get? c=some o->q2.heap.get? c=some o:=λ{c o} m e=>(I2.pin (c,o) (BD _ (BD _ (N5 m e)))).1;have yg:=was (.tail _ (.head _)) oa;refine AH (aO I2.PY D.fk (was (.head _) ok) (by omega) (by rw[Array.size_push];omega) λq3 n3 I3 o3 same=>BA ⟨U,ks.push (.int y t),⟨I3,⟨n3,o3⟩,(same a D.ne.symm).trans yg⟩,?_⟩);rw[VY,Va,hy];exact ksk_snoc hi
 ·obtain⟨ks,L2,hi⟩:=hq;obtain⟨n,ok⟩:=L2.keys;rw[LZ,<-hl,BR]at hi;exact AH (listItems_at ok U (mR D L2 hi hl hz k))
theorem qZ{f:Value}{n:Nat}{P:PySem.Fin->Shared->Prop}(I:Inv X pins σ H s)(fa:Lk X pins H a)(oa:s.heap.get? a=some (seqObj "list" its.toArray n))(hl:kz.length=its.length)(hz:its.length<=sizeLine)(turn:bZ X A σ H f its kz)
 (k:∀s2 out n,Inv X pins σ H s2->s2.heap.get? a=some (seqObj "list" out n)->KskOutSt b kz its out.toList->P (.done (.ret .none)) s2):
 wpAny (model X.prog X.w) A (ksk_tree a f b) P E s:=by
 unfold ksk_tree;refine AH (listItems_at oa U (AH (aO I fa oa (by rw[Ar];exact hz) (AY _) λs2 n2 I2 o2 _=>?_)));refine AH (seqEpoch_at o2 U (AH (wpAny_newTuple ?_ hz)));refine AH (wpAny_newList ?_ (AY _));have sz:(s2.heap.push (seqObj "tuple" its.toArray 0)).objs.size=s2.heap.objs.size+1:=ZG ..;have kp:∀c o,s2.heap.get? c=some o->((s2.heap.push (seqObj "tuple" its.toArray 0)).push (seqObj "list" #[] 0)).get? c=some o:=λc o e=>Ae _ (Ae _ e);have up:s2.heap.objs.size<=(s2.heap.push (seqObj "tuple" its.toArray 0)).objs.size:=by omega
 have D:rm X pins H a (s2.heap.push (seqObj "tuple" its.toArray 0)).objs.size:=⟨fa,I2.XR up (I2.hok.fresh up),by rw[sz];exact JO (EJ (Az o2))⟩;exact GX (mS (s:={s2 with heap:=(s2.heap.push (seqObj "tuple" its.toArray 0)).push (seqObj "list" #[] 0)}) D ⟨I2.kept (t':=s2.toks) kp,⟨0,A9 _ U⟩,kp _ _ o2⟩ hl hz turn k)
theorem mT{l:Addr}{f:Value}{kw:List (Str×Value)}{Q:Value->Shared->Prop}(I:Inv X pins σ H s)(ol:s.heap.IsList l its.toArray)(hl:kz.length=its.length)(hz:its.length<=sizeLine)
 (ok1:argsOk "sorted" ⟨[.ref l],kw⟩) (ok2:∀x,argsOk "list.sort" ⟨[.ref x],kw⟩) (is:∀x,Builtin.«list.sort» ⟨[.ref x],kw⟩=ksk_tree x f b) (turn:bZ X A.in1.in1 σ H f its kz)
 (k:∀d s2 out n,Lk X pins H d->Inv X pins σ H s2->s2.heap.get? d=some (seqObj "list" out n)->KskOutSt b kz its out.toList->Q (.ref d) s2):
 wpAny (model X.prog X.w) A (call (.builtin "sorted") [.ref l] kw) Q E s:=by
 refine call_function_entry_kw kind_sorted plain_sorted entry_sorted ok1 ?_;unfold Builtin.«sorted»;refine AH (m:=checkCount "sorted" 1 1 _) (BA (AH (collect_list ol ?_ hz)));generalize hh:(s.heap.push (seqObj "list" #[] 0)).update s.heap.objs.size (Obj.mapSeq (·++its.toArray))=g;have gs:g.objs.size=s.heap.objs.size+1:=by rw[<-hh,Heap.size_update,ZG]
 have gk:∀c o,s.heap.get? c=some o->g.get? c=some o:=λc o e=>by
  have:c≠s.heap.objs.size:=BV (Az e);rw[<-hh,Rj _ _ _ _ this,Heap.get?_push_ne _ _ _ this];exact e
 have I1:Inv X pins σ H {s with heap:=g}:=I.kept (t':=s.toks) gk;refine AH (wpAny_newList ?_ hz);have fd:Lk X pins H g.objs.size:=I1.XR (AU _) (I1.hok.fresh (AU _));have od:(g.push (seqObj "list" its.toArray 0)).get? g.objs.size=some (seqObj "list" its.toArray 0):=A9 _ U;refine AH (GX (wpAny_call_entry_kw (s:={s with heap:=g.push (seqObj "list" its.toArray 0)}) slot_list_sort ⟨_,od,U⟩ entry_list_sort ?_ (ok2 _)));show wpAny _ _ (Builtin.«list.sort» ⟨[.ref g.objs.size],kw⟩) _ _ _;rw[is];exact qZ (s:={s with heap:=g.push (seqObj "list" its.toArray 0)}) (I1.kept (t':=s.toks) λc o e=>Ae _ e) fd od hl hz turn λs2 out n I2 o2 ko=>⟨_,U,BA ⟨_,U,k _ s2 out n fd I2 o2 ko⟩⟩
end
end L2
namespace L2
open PySem PySem.Spec PyProof.Rows
section
variable{X:Cx}{pins:List (Addr×Obj)}{σ:St}{H:Hp}{s:Shared}{A:Around}{E:Value->Shared->Prop}{b:Bool}{vs:List Value}{kz:List Int}
theorem Er.in2{k:Nat}{A:Around}(r:Er (k+2) A):Er k A.in1.in1:=r.in1.in1
theorem tS{k:Nat}{f:Addr}{fd:FuncData}{ps:List Str}{sp:Sp}{Q:VK}{us:List Value}{xs:List V}(F:HU X.prog X.w X.K X.mg X.base T5 k f fd ps sp)(hr:Er (k+2) X.A)(hb:Binds X.K fd ps [])
 (I:Inv X pins σ H s) (r:Vals xs us) (h:sp xs H Q E0):wpAny (model X.prog X.w) X.A.in1.in1 (call (.ref f) us) (EP X pins σ Q) E s:=by
 have hl:(us++[]).length=ps.length:=by rw[Bk,<-r.length];exact F.len _ _ _ _ h
 refine ZE (LY (F.run X.A.in1.in1 X.stack s H ⟨us,[]⟩ (us++[]) xs Q E0 hr.in2 I.vO.in1.in1 (hb s us I.Zh hl) (by rw[Bk];exact r) h) λr s' hq=>?_);cases r with
 |error e=>exact False.elim hq
 |ok fl=>
  cases fl with
  |ret u=>exact I.after hq
  |next=>exact False.elim hq
  |brk=>exact False.elim hq
  |cont=>exact False.elim hq
def NR(b:Bool)(kz:List Int)(xs ys:List V):Prop:=
 ∃ps:List (Int×V),ps.Perm (kz.zip xs)/\ys=ps.map Prod.snd/\ps.Pairwise (λp q=>if b then q.1<=p.1 else p.1<=q.1)/\∀c,ps.filter (λp=>p.1==c)=(kz.zip xs).filter (λp=>p.1==c)
def Vu(u:Value):V:=(yQ u).getD .DX
theorem kL{x:V}{u:Value}(r:RelV x u):Vu u=x:=by unfold Vu;rw[r.abs];rfl
theorem eF:∀{xs:List V}{us:List Value},Vals xs us->us.map Vu=xs
 |_,_,.nil=>rfl
 |_,_,.cons r t=>by rw[Ay,kL r,eF t]
theorem kM:∀{xs:List V}{us:List Value}{u:Value},Vals xs us->u∈us->RelV (Vu u) u
 |_,_,_,.nil,h=>absurd h (by simp)
 |_,_,_,.cons r t,h=>by
  rcases AN.mp h with rfl|h
  ·rw[kL r];exact r
  ·exact kM t h
theorem eG:∀{us:List Value},(∀u∈us,RelV (Vu u) u)->Vals (us.map Vu) us
 | [],_=>.nil
 |u::r,h=>.cons (h u (.head _)) (eG λv hv=>h v (.tail _ hv))
theorem f9{b:Bool}{kz:List Int}{xs:List V}{vs out:List Value}(r:Vals xs vs)(hlen:kz.length=vs.length)(k:KskOutSt b kz vs out):∃ys,Vals ys out/\NR b kz xs ys/\ys.length=xs.length:=by
 obtain⟨ps,hp,ho,hs,hst⟩:=k;have hz:(kz.zip vs).map (λp:Int×Value=>(p.1,Vu p.2))=kz.zip xs:=by
  rw[<-eF r,List.zip_map_right];rfl
 have hmem:∀u∈out,RelV (Vu u) u:=λu hu=>by
  rw[ho]at hu;obtain⟨p,hp',rfl⟩:=AG.mp hu;exact kM r (K6 (hp.mem_iff.mp hp':(p.1,p.2)∈kz.zip vs)).2
 have hP:(ps.map (λp:Int×Value=>(p.1,Vu p.2))).Perm (kz.zip xs):=by rw[<-hz];exact hp.map _
 refine⟨out.map Vu,eG hmem,⟨ps.map (λp:Int×Value=>(p.1,Vu p.2)),hP,?_,?_,λc=>?_⟩,?_⟩
 ·rw[ho,An,An];rfl
 ·rw[Mv];exact hs
 ·rw[<-hz,DI,DI];exact B5 _ (hst c)
 ·have h1:=hP.length_eq;rw[AA,List.length_zip]at h1;have h2:=r.length;rw[AA,ho,AA];omega
end
section
variable{X:Cx}
def pM(K:PySem.W.Frag)(b:Bool)(sp:Sp)(ta:TA):TE:=λσ H Q=>ta σ H λvs H1=>∃(a:Addr)(xs:List V)(kz:List Int),vs=[.ref a]/\A1 K H1 a xs/\kz.length=xs.length/\
 (∀(i:Nat)(x:V)(k:Int),xs[i]?=some x->kz[i]?=some k->sp [x] H1 (λv H2=>v=.int k/\H2=H1) E0)/\∀(l:Addr)(ys:List V),H1 l=none->NR b kz xs ys->ys.length=xs.length->Q (.ref l) (upd H1 l (.lst ys))
theorem eK{pins:List (Addr×Obj)}{σ:St}{H:Hp}{s:Shared}{Q:VK}{k:Nat}{f:Addr}{fd:FuncData}{ps:List Str}{sp:Sp}{b:Bool}{kw:List (Str×Value)}{a:Addr}{xs:List V}{kz:List Int}
 (F:HU X.prog X.w X.K X.mg X.base T5 k f fd ps sp) (hr:Er (k+2) X.A) (hb:Binds X.K fd ps [])
 (ha1:∀l,argsOk "sorted" ⟨[.ref l],kw⟩) (ha2:∀x,argsOk "list.sort" ⟨[.ref x],kw⟩) (ht:∀x,Builtin.«list.sort» ⟨[.ref x],kw⟩=ksk_tree x (.ref f) b)
 (I:Inv X pins σ H s) (hS:A1 X.K H a xs) (hlen:kz.length=xs.length) (hk:∀(i:Nat)(x:V)(k:Int),xs[i]?=some x->kz[i]?=some k->sp [x] H (λv H2=>v=.int k/\H2=H) E0)
 (q:∀(l:Addr)(ys:List V),H l=none->NR b kz xs ys->ys.length=xs.length->Q (.ref l) (upd H l (.lst ys))):
 wpAny (model X.prog X.w) X.A (call (.builtin "sorted") [.ref a] kw) (EP X pins σ Q) X.xe s:=by
 obtain⟨its,rv,pl,hz⟩:=I.list hS;have hl:=rv.length;refine mT (kz:=kz) (f:=.ref f) (b:=b) I pl.isList (by omega) (by omega) (ha1 a) ha2 ht (λi v k hv hkk Zc s' I'=>?_) λD s' out ep fD I' o' ko=>?_
 ·obtain⟨x,hx⟩:∃x,xs[i]?=some x:=⟨_,Ak (by have:=(AZ.mp hv).1;omega)⟩;obtain⟨u,hu,ru⟩:=rv.get hx;rw[hu]at hv;cases hv;refine DQ (tS F hr hb I' (.cons ru .nil) (hk i x k hx hkk)) λw s'' hw=>?_;obtain⟨y,H2,I2,ry,ey,eH⟩:=hw;subst ey eH;exact⟨ry,I2⟩
 ·obtain⟨ys,rys,sb,hly⟩:=f9 rv (by omega) ko;have hLt:D<s'.heap.objs.size:=Az o';have hH:H D=none:=fD.1;have I2:Inv X pins σ (upd H D (.lst ys)) s':=by
   refine I'.step (g':=s'.gens) (t':=s'.toks) (d':=s'.drawn) (h':=s'.heap) (ch:=[D]) (λc hc=>?_) (λ_ _ _ _ _ e _=>e) (λc o _ _ _ e _=>⟨o.slots,e⟩) (λc o hc e n=>?_) (λc o _ e=>⟨o,e⟩) (λc zs e=>?_) (λc o u e=>?_) (λc zs e=>⟨#[],?_⟩) (λ_ z=>z) (λc u e=>?_) I'.bare
   ·rw[Af.mp hc];exact⟨fD.2.2.2.1,fD.2.1,fD.2.2.2.2.1,fD.2.2.2.2.2⟩
   ·rw[Aj (λz=>hc (by rw[z];exact .head _))];exact n
   ·rw[Aj (BY e hH)];exact e
   ·rw[Aj (BY e hH)];exact e
   ·rw[Aj (BY e hH),e];simp
   ·by_cases hc:c=D
    ·subst hc;rw[AD]at e;cases e;exact⟨by omega,out.toList,ep,rys,o'⟩
    ·rw[Aj hc]at e;exact(I'.hok c u e).stay (λ_ _ _ z=>z) (λd z=>by rw[Aj (BY z hH)];exact z) λd zs z=>by rw[Aj (BY z hH)];exact z
  exact⟨.ref D,_,I2,U,q D ys hH sb hly⟩
variable{k:Nat}{f:Addr}{fd:FuncData}{ps:List Str}{sp:Sp}{x:Str}{p pos p2 kp cp rp:Pos}{e:Expr}{ta:TA}{j:Nat}
theorem qe(F:HU X.prog X.w X.K X.mg X.base T5 k f fd ps sp)(hr:Er (k+2) X.A)(hb:Binds X.K fd ps [])(hg:Gl X "sorted")(hm:X.mg "sorted"=none)(hgf:Gl X x)(hmf:X.mg x=some (.ref f))(ha:PA X [e] ta)
 (hdb:(x==("__debug__":Str))=false:=by decide) (hs:starEach [e] X.env=[(false,eval e X.env)]:=by rfl):
 PE X (.Call (.Name "sorted" p) [e] [⟨some "key",.Name x p2,kp⟩] pos) (pM X.K false sp ta):=by
 intro pins s σ H Q I h;refine DN (Km I hg hm boot_sorted ?_);refine RE (by rw[hs];rfl) U ?_;refine evalArgs_kw2 (by rfl) ?_ hs;refine DQ (ha pos pins s σ H _ I h) λus s1 ⟨vs,H1,I1,r1,q1⟩=>?_;obtain⟨a,xs,kz,ev,hS,hlen,hk,q⟩:=q1;subst ev;obtain⟨u,rfl,ru⟩:=vals1 r1;cases ru;show wpAny _ _ (evalAll ((do let v <-eval (.Name x p2) X.env;standAt pos;pure v)::[])) _ _ s1
 refine MJ (AH (Po I1 hgf hmf (AH (IQ (BA ?_))) hdb));refine Vb ?_;exact eK (kw:=[("key",.ref f)]) F hr hb (λl=>ksk_s1 _ _) (λl=>ksk_l1 _ _) (λy=>ksk_t1 f y) I1 hS hlen hk q
theorem mU(F:HU X.prog X.w X.K X.mg X.base T5 k f fd ps sp)(hr:Er (k+2) X.A)(hb:Binds X.K fd ps [])(hg:Gl X "sorted")(hm:X.mg "sorted"=none)(hgf:Gl X x)(hmf:X.mg x=some (.ref f))(ha:PA X [e] ta)
 (hdb:(x==("__debug__":Str))=false:=by decide) (hs:starEach [e] X.env=[(false,eval e X.env)]:=by rfl):
 PE X (.Call (.Name "sorted" p) [e] [⟨some "key",.Name x p2,kp⟩,⟨some "reverse",.Constant (.bool true) j cp,rp⟩] pos) (pM X.K true sp ta):=by
 intro pins s σ H Q I h;refine DN (Km I hg hm boot_sorted ?_);refine RE (by rw[hs];rfl) U ?_;refine evalArgs_kw2 (by rfl) ?_ hs;refine DQ (ha pos pins s σ H _ I h) λus s1 ⟨vs,H1,I1,r1,q1⟩=>?_;obtain⟨a,xs,kz,ev,hS,hlen,hk,q⟩:=q1;subst ev;obtain⟨u,rfl,ru⟩:=vals1 r1;cases ru;show wpAny _ _ (evalAll ((do let v <-eval (.Name x p2) X.env;standAt pos;pure v)::(do let v <-eval (.Constant (.bool true) j cp) X.env;standAt pos;pure v)::[])) _ _ s1
 refine MJ (AH (Po I1 hgf hmf (AH (IQ (BA ?_))) hdb));refine MJ (AH (Constant_bool (AH (IQ (BA ?_)))));refine Vb ?_;exact eK (kw:=[("key",.ref f),("reverse",.bool true)]) F hr hb (λl=>ksk_s2 _ _ _) (λl=>ksk_l2 _ _ _) (λy=>ksk_t2 f y true) I1 hS hlen hk q
end
inductive MO(w:World):List DictEntry->List (Key×V)->Prop
 |nil:MO w [] []
 |cons {h:Int} {ky vl:Value} {k:Key} {v:V} {es:List DictEntry} {kvs:List (Key×V)}:XG k ky=true->h=yF w k->RelV v vl->MO w es kvs->MO w ({hash:=h,key:=ky,val:=vl}::es) ((k,v)::kvs)
structure II(w:World)(K:PySem.W.Frag)(a:Addr)(kvs:List (Key×V)):Prop where
 ex:∃(es:Array DictEntry)(ep:Nat),K.lookup a=some {cls:=.type "dict",data:=.dict es ep}/\MO w es.toList kvs
 nd:(kvs.map (·.1)).Nodup
theorem MO.keys{w:World}{P:Program}:∀{es:List DictEntry}{kvs:List (Key×V)},MO w es kvs->∀e∈es,∃k,(Dk P w).is k e.key=true/\e.hash=(Dk P w).hash k
 |_,_,.nil,e,h=>absurd h (by simp)
 |_,_,.cons h1 h2 _ t,e,h=>by
  rcases AN.mp h with rfl|h
  ·exact⟨_,h1,h2⟩
  ·exact MO.keys t e h
theorem MO.pairs{w:World}{P:Program}:∀{es:List DictEntry}{kvs:List (Key×V)},MO w es kvs->∃vs:List (Key×Value),PySem.Pairs (Dk P w) es vs/\KV kvs vs
 |_,_,.nil=>⟨[],.nil,.nil⟩
 |_,_,.cons (k:=k) (vl:=vl) h1 h2 r t=>by
  obtain⟨vs,h3,h4⟩:=MO.pairs (P:=P) t;exact⟨(k,vl)::vs,.cons h1 U h3,.cons ⟨U,r⟩ h4⟩
section
variable{X:Cx}{pins:List (Addr×Obj)}{σ:St}{H:Hp}{s:Shared}
theorem II.at_{a:Addr}{kvs:List (Key×V)}(D:II X.w X.K a kvs)(I:Inv X pins σ H s):∃vs,KV kvs vs/\s.heap.DictOf (Dk X.prog X.w) a vs:=by
 obtain⟨es,ep,hk,de⟩:=D.ex;obtain⟨vs,h3,h4⟩:=MO.pairs (P:=X.prog) de;refine⟨vs,h4,_,es,ep,I.Zh a _ hk,⟨U,U,U⟩,U,λe he=>MO.keys de e (by simpa using he),h3,?_⟩;rw[<-h4.keys];exact D.nd
inductive XKG(w:World)(K:PySem.W.Frag)(x y:V)(H2:Hp)(Q:VK):Prop
 |mk(a:Addr)(kvs:List (Key×V))(k:Key)(v:V)(h0:x=.ref a)(h1:II w K a kvs)(h2:y=kV k)(h3:Es kvs k=some v)(h4:Q v H2)
def zU(w:World)(K:PySem.W.Frag)(td ty:TE):TE:=λσ H Q=>td σ H λx H1=>ty σ H1 λy H2=>XKG w K x y H2 Q
theorem Nk{o i:Expr}{pos:Pos}{td ty:TE}(ho:PE X o td)(hi:PE X i ty)(hs:yf i):PE X (.Subscript o i pos) (zU X.w X.K td ty):=by
 intro pins s σ H Q I h;refine tO PySem.F.slot_dict_getitem.lookup hs (DQ (ho pins s σ H _ I h) λu s1 ⟨x,H1,I1,rx,q1⟩=>DQ (hi pins s1 σ H1 _ I1 q1) λiv s2 ⟨y,H2,I2,ry,a,kvs,k,v,ex,D,ey,l,q2⟩=>?_);subst ex ey;obtain rfl:u=Value.ref a:=rx;obtain⟨vs,rel,dd⟩:=D.at_ I2;refine⟨dd.typeIs,?_⟩;obtain⟨w',hw,rw'⟩:=Qe.some_of (v:=v) (o:=valueAt vs k) (by rw[<-l];exact rel.val k);exact wpAny_getItem_of (Ze ry) dd.mapOf hw ⟨v,H2,I2.tok _,rw',q2⟩
end
end L2
namespace PySem
open Sem (wp)
theorem kN{P:Program}{w:World}{A:Around}(hh:A.handled=none)(it l:Addr)(hne:l≠it)(items:Array Value):
 Draws P w A it [it,l] (items.size+1) (λi v=>items[i-1]?=some v) (λi h=>1<=i/\h.IsListIter it l (i-1)/\h.IsList l items) where
 live:=λ_ _ z=>let ⟨o,ho,_⟩:=z.2.1;⟨o,ho⟩
 frame:=λ_ _ _ z hk=>⟨z.1,z.2.1.at λo e=>hk it (by simp) o e,z.2.2.at λo e=>hk l (by simp) o e⟩
 item:=λi s Q E hi z hQ=>by
  have h1:=z.1;have hl:i-1<items.size:=by omega
  refine wpAny_nextOf_list_item z.2.1 z.2.2 (x:=items[i-1]) (Dn hl) λh' a b=>?_;refine hQ _ h' s.toks (Dn hl) ⟨by omega,?_,z.2.2.extBut b.extBut hne⟩ b;have e:i-1+1=i+1-1:=by omega
  rw[e]at a;exact a
 done:=λs Q E z hE=>wpAny_nextOf_list_end hh z.2.1 z.2.2 (by simp) hE
theorem ZL(a b:Value):checkTypeCall "enumerate" ⟨[a,b],[]⟩=pure ():=by kernel_rfl
theorem Zo(a b:Value):checkBuiltinCall "enumerate.__new__" ⟨[.type "enumerate",a,b],[]⟩=pure ():=by kernel_rfl
abbrev Qh(l:Addr):Obj:={cls:=.type "list_iterator",data:=.fields #[.ref l,.int 0 0]}
def yh(it:Addr):Obj:={cls:=.type "enumerate",data:=.fields #[.none,.bool false,.ref it,rawInt 1,.none,.none]}
theorem f_(l:Addr)(o:Obj)(items:Array Value)(n:Nat)(t:Tok)(hc:o.cls=.type "list")(hd:o.data=.seq items n):Meets (Builtin.«enumerate.__new__» ⟨[.type "enumerate",.ref l,.int 1 t],[]⟩) λ_ R s=>
 s.heap.get? l=some o/\R (.ok (.ret (.ref (s.heap.push (Qh l)).objs.size))) {s with heap:=(s.heap.push (Qh l)).push (yh s.heap.objs.size)}:=by
 obtain⟨oc,od,dt,sl⟩:=o;cases (show oc=.type "list" from hc);cases (show dt=.seq items n from hd);refine .of_wp λP w A R s hs=>?_;obtain⟨hp,g,d,tk,os⟩:=s;have self:=sub_enumerate;have isl:Heap.IsList (Shared.heap ⟨hp,g,d,tk,os⟩) l items:=⟨_,hs.1,U,n,U⟩
 wp_walk using Io hs.1
 refine wpAny_stack_any λ_=>BA ?_
 split
 case h_1 c0 _ _ _ _ _=>cases (c0==Value.type "enumerate")<;>(wp_walk using Io hs.1,Gm isl)<;>exact⟨_,U,hs.2⟩
 case h_2=>(wp_walk using Io hs.1,Gm isl);exact⟨_,U,hs.2⟩
section
variable{P:Program}{w:World}{A:Around}{E:Value->Shared->Prop}{s:Shared}
theorem jD{l:Addr}{items:Array Value}{t:Tok}{Q:Value->Shared->Prop}(hL:s.heap.IsList l items)
 (k:∀g,IsEnum g (s.heap.objs.size+1) s.heap.objs.size 1 .none->g.IsListIter s.heap.objs.size l 0->(∀b o,s.heap.get? b=some o->g.get? b=some o)->Q (.ref (s.heap.objs.size+1)) {s with heap:=g}):
 wpAny (model P w) A (call (.type "enumerate") [.ref l,.int 1 t]) Q E s:=by
 obtain⟨o,h0,hc,n,hd⟩:=hL;refine callType_new F.called_enumerate (by decide) (ZL _ _) (Zo _ _) (λobj=>RG obj _ _) F.entry_enumerate_new (f_ l o items n t hc hd) ⟨h0,?_⟩;generalize hg:s.heap.push (Qh l)=g1;have z1:g1.objs.size=s.heap.objs.size+1:=by rw[<-hg];exact Bp ..
 have k1:g1.get? s.heap.objs.size=some (Qh l):=by rw[<-hg];exact A9 _ U
 have he:=A9 g1 (o:=yh s.heap.objs.size) U;show _/\_;rw[z1]at he⊢;exact⟨⟨_,he,U⟩,k _ he ⟨_,Ae _ k1,U,U⟩ λb o x=>Ae _ (by rw[<-hg];exact Ae _ x)⟩
end
end PySem
namespace L2
open PySem PySem.Spec PyProof.Rows
def mV(K:PySem.W.Frag)(a:Addr):It:=
 ⟨λi H=>∃(xs:List V)(x:V),A1 K H a xs/\xs[i]?=some x,λi H v H'=>∃T x,v=.ref T/\H T=none/\H'=upd H T (.tup [.int ((i:Nat)+1),x])/\∀xs,A1 K H a xs->xs[i]?=some x,λi H=>∃xs:List V,A1 K H a xs/\xs.length=i⟩
theorem jE{P:Program}{w:World}{K:PySem.W.Frag}{elts:List Expr}{kk:Nat}{tpos:Pos}(a e it:Addr):
 Turn P w K (.Tuple elts kk tpos) (mV K a) [e,it] e (λi h=>(∃old,IsEnum h e it (((i+1:Nat):Nat):Int) old)/\h.IsListIter it a i/\e≠it/\a≠it/\a≠e) where
 mem:=by simp
 obj:=λi h st b hb=>by
  obtain⟨⟨old,he⟩,⟨o,ho,hc,hd⟩,_⟩:=st;have e':b=e\/b=it:=by simpa using hb
  rcases e' with z|z
  ·rw[z];exact⟨_,he,λv q=>nomatch q⟩
  ·rw[z];exact⟨o,ho,λv q=>by rw[hd]at q;cases q⟩
 keep:=λi h h' st k=>let ⟨⟨old,he⟩,hi,hne⟩:=st;⟨⟨old,k e (by simp) _ he⟩,hi.at λo q=>k it (by simp) o q,hne⟩
 item:=by
  intro X hP hw hK hc i pins s σ H E I hf st hg;subst hP hw hK;obtain⟨⟨old,he⟩,hit,hne,hni,hae⟩:=st;obtain⟨xs,x,hq,hx⟩:=hg;obtain⟨its,rv,p,hz⟩:=I.list hq;obtain⟨u,hu,ru⟩:=rv.get hx;have hel:e<s.heap.objs.size:=Az he;have hil:it<s.heap.objs.size:=by obtain⟨_,q,_⟩:=hit;exact Az q
  have hA:X.A.in1.handled=none:=by simp[I.ok.hd hc]
  have AEf:=(AZ.mp hu).1;refine wpAny_pyNext_enum_itemD (kN hA it a hni its.toArray) (i:=i+1) he ⟨by omega,hit,p.isList⟩ (by rw[Ar];omega) hne (by simp[hne,CI hae]) λx' h' tk hP ho hs' hT hsz hk=>?_;have ex:x'=u:=by
   have hP':its.toArray[i+1-1]?=some x':=hP;rw[GI]at hP';(have:its[i]?=some x':=by simpa using hP');exact BB (this.symm.trans hu)
  subst ex;obtain⟨_,vR,_⟩:=hs';refine⟨_,U,MR (s:={s with heap:=h',toks:=tk+1}) ho λh'' he' sb=>?_⟩;have hT2:h''.get? s.heap.objs.size=some {cls:=.type "tuple",data:=.seq #[.int ((i+1:Nat):Int) tk,x']}:=(sb.2 _ (JO hel)).trans hT;have e1:((i+1:Nat):Int)=(i:Int)+1:=by omega
  have new:EN X.prog X.w (upd H s.heap.objs.size (.tup [.int ((i:Nat)+1),x])) h'' s.heap.objs.size (.tup [.int ((i:Nat)+1),x]):=
   ⟨by show 2<=sizeLine;decide,[.int ((i+1:Nat):Int) tk,x'],.cons ⟨_,by rw[e1]⟩ (.cons ru .nil),⟨_,hT2,U,_,U⟩⟩
  have I1:Inv X pins σ (upd H s.heap.objs.size (.tup [.int ((i:Nat)+1),x])) {s with heap:=h'',toks:=tk+1}:=
   I.Vs (ch:=[e,it]) (λb ob hb q=>(sb.2 b (λz=>hb (by simp[z]))).trans (hk b ob (λz=>hb (by simp[z])) (λz=>hb (by simp[z])) q)) hf (AU _) new
  refine⟨.ref s.heap.objs.size,_,I1,U,⟨_,x,U,I.hok.fresh (AU _),U,λys hy=>by rw[I.UR hy hq];exact hx⟩,⟨⟨x',?_⟩,?_,hne,hni,hae⟩,λb hb=>?_⟩
  ·(have e2:((i+1+1:Nat):Int)=((i+1:Nat):Int)+1:=by omega);rw[e2];exact he'
  ·exact vR.at λo q=>(sb.2 it (CI hne)).trans q
  ·have hb':b<s.heap.objs.size:=by
    (have e':b=e\/b=it:=by simpa using hb);rcases e' with z|z
    ·rw[z];exact hel
    ·rw[z];exact hil
   rw[Aj (BV hb')];exact(hf b hb).1
 done:=by
  intro X hP hw hK hc i pins s σ H E I hf st hg;subst hP hw hK;obtain⟨⟨old,he⟩,hit,hne,hni,hae⟩:=st;obtain⟨xs,hq,hx⟩:=hg;obtain⟨its,rv,p,hz⟩:=I.list hq;obtain⟨f0,f1,f2,f3,f4,f5⟩:=hf it (by simp);have hl:=rv.length;have hA:X.A.in1.handled=none:=by simp[I.ok.hd hc]
  have hi:i=its.length:=by omega
  exact wpAny_pyNext_enum_endD (kN hA it a hni its.toArray) he ⟨by rw[Ar];omega,by rw[Ar,GI,<-hi];exact hit,p.isList⟩ λh' eb=>⟨U,I.turned (t':=s.toks) (λb o hb q=>eb b o hb q) f0 f1 f3 f4 f5⟩
 self:=λA i s Q E st h=>let ⟨⟨_,he⟩,_⟩:=st;Ja he h
def wX(K:PySem.W.Frag)(ta:TA):TI:=λσ H R=>ta σ H λvs H1=>∃a xs,vs=[.ref a,.int 1]/\A1 K H1 a xs/\R (mV K a) H1
theorem qf{X:Cx}{e e2:Expr}{ta:TA}{p pos tpos:Pos}{elts:List Expr}{kk:Nat}(hg:Gl X "enumerate")(hm:X.mg "enumerate"=none)(ha:PA X [e,e2] ta)
 (hs:starEach [e,e2] X.env=(false,eval e X.env)::starEach [e2] X.env:=by rfl) (hpl:(backTo pos (starEach [e2] X.env)).any (·.1)=false:=by rfl):
 PI X (.Tuple elts kk tpos) (.Call (.Name "enumerate" p) [e,e2] [] pos) (wX X.K ta):=by
 intro pins s σ H R I h;refine Zg (Km I hg hm boot_enumerate (B7 (DQ (ha pos pins s σ H _ I h) λus s1 ⟨vs,H1,I1,r1,q1⟩=>?_) hs hpl));obtain⟨a,xs,ex,hq,q⟩:=q1;subst ex;obtain⟨u,v,rfl,ru,t,rfl⟩:=r1.two;cases ru;obtain⟨its,rv,p',hz⟩:=I1.list hq;have la:a<s1.heap.objs.size:=p'.lt;refine jD p'.isList λh' he hit hk=>Ja he ?_;have I2:Inv X pins σ H1 {s1 with heap:=h'}:=I1.kept (t':=s1.toks) hk;refine⟨s1.heap.objs.size+1,[s1.heap.objs.size+1,s1.heap.objs.size],_,_,H1,U,I2,jE a (s1.heap.objs.size+1) s1.heap.objs.size,⟨⟨.none,he⟩,hit,Wk _,BV la,BV (EJ la)⟩,λb hb=>?_,q⟩;have e':b=s1.heap.objs.size+1\/b=s1.heap.objs.size:=by simpa using hb
 have hle:s1.heap.objs.size<=b:=e'.elim (λz=>z▸EX _) λz=>z▸AU _;exact I1.XR hle (I1.hok.fresh hle)
theorem Qi{J:It}{n:Nat}{g:TG}{tb:TS}{D:Ends}{σ:St}{H:Hp}(pr:Nat->List V)(Pv:Nat->St->Hp->Prop)(h0:Pv 0 σ H)
 (hj:∀i σ H,i<=n->Pv i σ H->(i<n->J.go i H)/\(i=n->J.stop i H)/\∀v H',J.Vk i H v H'->∃t,v=.ref t/\H t=none/\H'=upd H t (.tup (pr i)))
 (hs:∀i σ H t,i<n->Pv i σ H->H t=none->g (.ref t) σ (upd H t (.tup (pr i))) λσ2 H2=>tb {D with nx:=Pv (i+1),ct:=Pv (i+1),bk:=D.nx} σ2 H2) (hd:∀σ H,Pv n σ H->D.nx σ H):
 ∃W:Nat->Nat->St->Hp->Prop,(∃m,W 0 m σ H)/\∀i m σ H,W i m σ H->
  (J.stop i H/\D.nx σ H)\/(J.go i H/\∃N:St->Hp->Prop,(∀σ' H',N σ' H'->∃m',m'<m/\W (i+1) m' σ' H')/\∀x H',J.Vk i H x H'->g x σ H' λσ2 H2=>tb {D with nx:=N,ct:=N,bk:=D.nx} σ2 H2):=by
 refine⟨λi m σ H=>m=n-i/\i<=n/\Pv i σ H,⟨n,by simp,AY _,h0⟩,?_⟩;rintro i m σ H ⟨rfl,hi,p⟩;obtain⟨a,b,c⟩:=hj i σ H hi p;by_cases hlt:i<n
 ·refine .inr ⟨a hlt,Pv (i+1),λσ' H' p'=>⟨n-(i+1),by omega,U,hlt,p'⟩,λx H' y=>?_⟩;obtain⟨t,rfl,nt,rfl⟩:=c x H' y;exact hs i σ H t hlt p nt
 ·have e:i=n:=by omega
  exact .inl ⟨b e,hd σ H (e▸p)⟩
theorem wY{K:PySem.W.Frag}{a:Addr}{xs:List V}{H:Hp}{i:Nat}(pr:Nat->List V)(hp:∀x,xs[i]?=some x->pr i=[.int ((i:Int)+1),x])(h:A1 K H a xs):(i<xs.length->(mV K a).go i H)/\(i=xs.length->(mV K a).stop i H)/\∀v H',(mV K a).Vk i H v H'->∃t,v=.ref t/\H t=none/\H'=upd H t (.tup (pr i)):=
 ⟨λl=>⟨xs,xs[i],h,Ak l⟩,λe=>⟨xs,h,e.symm⟩,λv H' ⟨t,x,e,nt,eH,k⟩=>⟨t,e,nt,by rw[hp x (k xs h)];exact eH⟩⟩
theorem uh{K:PySem.W.Frag}{a:Addr}{xs:List V}{H:Hp}{i:Nat}(pr:Nat->List V)(hp:∀x,xs[i]?=some x->pr i=[.int (i:Nat),x])(h:A1 K H a xs):(i<xs.length->(wV K a).go i H)/\(i=xs.length->(wV K a).stop i H)/\∀v H',(wV K a).Vk i H v H'->∃t,v=.ref t/\H t=none/\H'=upd H t (.tup (pr i)):=
 ⟨λl=>⟨xs,xs[i],h,Ak l⟩,λe=>⟨xs,h,by omega⟩,λv H' ⟨t,x,e,nt,eH,k⟩=>⟨t,e,nt,by rw[hp x (k xs h)];exact eH⟩⟩
def wZ(K:PySem.W.Frag)(tl:TE):TI:=λσ H R=>tl σ H λx H1=>∃(a:Addr)(xs:List V),x=.ref a/\A1 K H1 a xs/\(xs.length<=sizeLine->R (ON K a) H1)
theorem qg{X:Cx}{tg l:Expr}{tl:TE}(hl:PE X l tl):PI X tg l (wZ X.K tl):=by
 intro pins s σ H R I h;refine DQ (hl pins s σ H _ I h) λv s1 ⟨x,H1,I1,r1,a,xs,e,hq,q⟩=>?_;subst e;cases r1;obtain⟨its,rv,p,hz⟩:=I1.list hq;refine Gm p.isList ⟨s1.heap.objs.size,[s1.heap.objs.size],_,_,H1,U,I1.kept (t':=s1.toks) λb o e=>Ae _ e,Z9 a _,⟨_,A9 _ U,U,U⟩,λb hb=>?_,q hz⟩;cases (show b=s1.heap.objs.size by simpa using hb);exact I1.XR (AU _) (I1.hok.fresh (AU _))
end L2
namespace PySem
open Sem (wp)
def XM(ex:List Addr)(h h':Heap):Prop:=(∀c o,c∉ex->h.get? c=some o->h'.get? c=some o)/\h'.objs.size=h.objs.size
theorem XM.of{a:Addr}{ex:List Addr}{h h':Heap}(s:Heap.SameBut a h h')(m:a∈ex):XM ex h h':=⟨λc o n e=>s.extBut c o (λq=>n (q▸m)) e,s.1⟩
theorem XM.trans{ex:List Addr}{h h' h'':Heap}(s:XM ex h h')(t:XM ex h' h''):XM ex h h'':=⟨λc o n e=>t.1 c o n (s.1 c o n e),t.2.trans s.2⟩
structure um(z TI TO i1 i2:Addr)(f1 f2:List Addr):Prop where
 nd:[z,TI,TO,i1,i2].Nodup
 a1:∀b∈f1,b≠z/\b≠TI/\b≠TO/\b≠i2
 a2:∀b∈f2,b≠z/\b≠TI/\b≠TO/\b≠i1
section
variable{P:Program}{w:World}{A:Around}{E:Value->Shared->Prop}{s:Shared}{z TI TO i1 i2:Addr}{f1 f2:List Addr}{n1 n2 i:Nat}{P1 P2:Nat->Value->Prop}{S1 S2:Nat->Heap->Prop}{a b:Value}
theorem mW{Q:Value->Shared->Prop}(D1:Draws P w A i1 f1 n1 P1 S1)(D2:Draws P w A i2 f2 n2 P2 S2)(ap:um z TI TO i1 i2 f1 f2)(hz:IsZip s.heap z TI TO .none)(hI:IsPair s.heap TI (.ref i1) (.ref i2))(hO:IsPair s.heap TO a b)
 (t1:S1 i s.heap) (t2:S2 i s.heap) (l1:i<n1) (l2:i<n2)
 (k:∀x y g tk,P1 i x->P2 i y->IsZip g z TI TO (rawInt s.heap.objs.size)->IsPair g TI (.ref i1) (.ref i2)->IsPair g TO x y->S1 (i+1) g->S2 (i+1) g->IsPair g s.heap.objs.size x y->(∀c o,c∉[z,TO,i1,i2]->s.heap.get? c=some o->g.get? c=some o)->Q (.ref s.heap.objs.size) {s with heap:=g,toks:=tk}):
 wpAny (model P w) A (Builtin.«zip.__next__» ⟨[.ref z],[]⟩) (λfin s'=>∃v,fin=.done (.ret v)/\Q v s') E s:=by
 have nd:=ap.nd;simp only[BQ,AN,Aq,JH,RT,Mw,DA,and_true]at nd;obtain⟨⟨wc,sJ,z1,z2⟩,⟨IO,I1,I2⟩,⟨O1,O2⟩,n12⟩:=nd;have mz:z∈[z,TO,i1,i2]:=by simp
 have mO:TO∈[z,TO,i1,i2]:=by simp
 have m1:i1∈[z,TO,i1,i2]:=by simp
 have m2:i2∈[z,TO,i1,i2]:=by simp
 have nI:TI∉[z,TO,i1,i2]:=by simp only[AN,Aq,JH,RT];exact⟨CI wc,IO,I1,I2⟩
 obtain⟨hp,gn,dr,tk0,os⟩:=s;change IsZip hp z TI TO .none at hz;change IsPair hp TI _ _ at hI;change IsPair hp TO _ _ at hO;change S1 i hp at t1;change S2 i hp at t2;show wpAny _ _ (field (.ref z) 2>>=_) _ _ _;refine AH (D9 hz U (x:=.bool false) U ?_);show wpAny _ _ (field (.ref z) 3>>=_) _ _ _;refine AH (D9 hz U (x:=.ref TI) U (AH (Fq hI U ?_)));show wpAny _ _ (Builtin.SmallTypes.ownedTupleIsFree (.ref z)>>=_) _ _ _;refine AH (show wpAny _ _ (Builtin.SmallTypes.ownedTupleIsFree (.ref z)) _ _ _ from ?_);unfold Builtin.SmallTypes.ownedTupleIsFree;refine AH (D9 hz U (x:=.none) U (BA ?_));simp only[MI];refine AH (Jl (AH (D9 hz U (x:=.ref TO) U (AH (GJ hz (by simp) λp1 q1 e1=>?_)))));change IsZip p1 z TI TO .ellipsis at q1;change Heap.SameBut z hp p1 at e1;have K1:XM [z,TO,i1,i2] hp p1:=.of e1 mz;have u1:S1 i p1:=D1.frame _ _ _ t1 λb m o e=>e1.extBut _ _ (ap.a1 b m).1 e;have u2:S2 i p1:=D2.frame _ _ _ t2 λb m o e=>e1.extBut _ _ (ap.a2 b m).1 e;refine AH ?_;simp only[Wm,List.zipIdx_nil,O_,Lz];refine AH (AH (SQ (show wpAny _ _ (Builtin.SmallTypes.nextOf (.ref i1)>>=_) _ _ _ from AH (D1.item i _ _ _ l1 u1 λx p2 tk1 hx v1 e2=>BA ?_))));change Heap.SameBut i1 p1 p2 at e2;have K2:=K1.trans (.of e2 m1);have o2:IsPair p2 TO a b:=e2.extBut _ _ O1 (e1.extBut _ _ (CI sJ) hO);have v2:S2 i p2:=D2.frame _ _ _ u2 λb m o e=>e2.extBut _ _ (ap.a2 b m).2.2.2 e;refine AH (Fq (s:=⟨p2,gn,dr,tk1,os⟩) o2 U (AH (RH (s:=⟨p2,gn,dr,tk1,os⟩) o2 λp3 o3 e3=>AH (Qa (BA ?_)))));change IsPair p3 TO x b at o3;change Heap.SameBut TO p2 p3 at e3;have K3:=K2.trans (.of e3 mO);have w1:S1 (i+1) p3:=D1.frame _ _ _ v1 λb m o e=>e3.extBut _ _ (ap.a1 b m).2.2.1 e;have w2:S2 i p3:=D2.frame _ _ _ v2 λb m o e=>e3.extBut _ _ (ap.a2 b m).2.2.1 e;refine AH (AH (SQ (show wpAny _ _ (Builtin.SmallTypes.nextOf (.ref i2)>>=_) _ _ _ from AH (D2.item i _ _ _ l2 w2 λy p4 yi hy x2 e4=>BA ?_))));change Heap.SameBut i2 p3 p4 at e4;have K4:=K3.trans (.of e4 m2);have o4:IsPair p4 TO x b:=e4.extBut _ _ O2 o3;have x1:S1 (i+1) p4:=D1.frame _ _ _ w1 λb m o e=>e4.extBut _ _ (ap.a1 b m).2.2.2 e;refine AH (Fq (s:=⟨p4,gn,dr,yi,os⟩) o4 U (AH (RH (s:=⟨p4,gn,dr,yi,os⟩) o4 λp5 o5 e5=>AH (Qa (BA (BA ?_))))));change IsPair p5 TO x y at o5;change Heap.SameBut TO p4 p5 at e5;have K5:=K4.trans (.of e5 mO);have y1:S1 (i+1) p5:=D1.frame _ _ _ x1 λb m o e=>e5.extBut _ _ (ap.a1 b m).2.2.1 e;have y2:S2 (i+1) p5:=D2.frame _ _ _ x2 λb m o e=>e5.extBut _ _ (ap.a2 b m).2.2.1 e;have q5:IsZip p5 z TI TO .ellipsis:=e5.extBut _ _ sJ (e4.extBut _ _ z2 (e3.extBut _ _ sJ (e2.extBut _ _ z1 q1)));refine AH (Fq (s:=⟨p5,gn,dr,yi,os⟩) o5 U (AH (wpAny_newTuple ?_)));have zl:z<p5.objs.size:=Az q5;have q6:IsZip (p5.push {cls:=.type "tuple",data:=.seq #[x,y]}) z TI TO .ellipsis:=Ae _ q5;show wpAny _ _ (Builtin.SmallTypes.ownedTupleHandOut (.ref z) (.ref p5.objs.size)>>=_) _ _ _;refine AH (show wpAny _ _ (Builtin.SmallTypes.ownedTupleHandOut (.ref z) (.ref p5.objs.size)) _ _ _ from ?_);unfold Builtin.SmallTypes.ownedTupleHandOut;refine AH (GJ q6 (by simp) λp7 q7 e7=>?_);change IsZip p7 z TI TO (rawInt p5.objs.size)at q7;refine GJ q7 (by simp) λp8 q8 e8=>BA ⟨_,U,?_⟩;change IsZip p8 z TI TO (rawInt p5.objs.size)at q8;change Heap.SameBut z (p5.push {cls:=.type "tuple",data:=.seq #[x,y]}) p7 at e7;change Heap.SameBut z p7 p8 at e8;have up:∀c o,c≠z->(p5.push {cls:=.type "tuple",data:=.seq #[x,y]}).get? c=some o->p8.get? c=some o:=λc o n e=>e8.extBut _ _ n (e7.extBut _ _ n e);have u5:∀c o,c≠z->p5.get? c=some o->p8.get? c=some o:=λc o n e=>up c o n (Ae _ e);have hT:IsPair p8 p5.objs.size x y:=up _ _ (JO zl) (A9 _ U);have sz:p5.objs.size=hp.objs.size:=K5.2;rw[sz]at q8 hT;show Q (.ref p5.objs.size) _;rw[sz];exact k x y p8 yi hx hy q8 (u5 _ _ (CI wc) (K5.1 _ _ nI hI)) (u5 _ _ (CI sJ) o5) (D1.frame _ _ _ y1 λb m o e=>u5 _ _ (ap.a1 b m).1 e) (D2.frame _ _ _ y2 λb m o e=>u5 _ _ (ap.a2 b m).1 e) hT λc o n e=>u5 c o (λq=>n (q▸mz)) (K5.1 c o n e)
theorem qi{Q:Fin->Shared->Prop}(D1:Draws P w A i1 f1 n1 P1 S1)(ap:um z TI TO i1 i2 f1 f2)(hz:IsZip s.heap z TI TO .none)(hI:IsPair s.heap TI (.ref i1) (.ref i2))(t1:S1 n1 s.heap)
 (k:∀g e,(∀c o,c∉[z,TO,i1,i2]->s.heap.get? c=some o->g.get? c=some o)->(∃o,g.get? e=some o/\o.cls=.type "StopIteration")->E (.ref e) {s with heap:=g}):
 wpAny (model P w) A (Builtin.«zip.__next__» ⟨[.ref z],[]⟩) Q E s:=by
 have nd:=ap.nd;simp only[BQ,AN,Aq,JH,RT,Mw,DA,and_true]at nd;obtain⟨⟨wc,sJ,z1,z2⟩,_⟩:=nd;obtain⟨hp,gn,dr,tk0,os⟩:=s;change IsZip hp z TI TO .none at hz;change IsPair hp TI _ _ at hI;change S1 n1 hp at t1;show wpAny _ _ (field (.ref z) 2>>=_) _ _ _;refine AH (D9 hz U (x:=.bool false) U ?_);show wpAny _ _ (field (.ref z) 3>>=_) _ _ _;refine AH (D9 hz U (x:=.ref TI) U (AH (Fq hI U ?_)));show wpAny _ _ (Builtin.SmallTypes.ownedTupleIsFree (.ref z)>>=_) _ _ _;refine AH (show wpAny _ _ (Builtin.SmallTypes.ownedTupleIsFree (.ref z)) _ _ _ from ?_);unfold Builtin.SmallTypes.ownedTupleIsFree;refine AH (D9 hz U (x:=.none) U (BA ?_));simp only[MI];refine AH (Jl (AH (D9 hz U (x:=.ref TO) U (AH (GJ hz (by simp) λp1 q1 e1=>?_)))));change IsZip p1 z TI TO .ellipsis at q1;change Heap.SameBut z hp p1 at e1;have u1:S1 n1 p1:=D1.frame _ _ _ t1 λb m o e=>e1.extBut _ _ (ap.a1 b m).1 e;refine AH ?_;simp only[Wm,List.zipIdx_nil,O_,Lz];refine AH (AH (SQ (show wpAny _ _ (Builtin.SmallTypes.nextOf (.ref i1)>>=_) _ _ _ from AH (D1.done _ _ _ u1 λp2 e x2 he=>?_))));obtain⟨oe,ge,ce⟩:=he;change Heap.ExtBut i1 p1 p2 at x2;have q2:IsZip p2 z TI TO .ellipsis:=x2 _ _ z1 q1;have ez:e≠z:=λx=>by subst x;rw[q2]at ge;cases ge;simp at ce
 refine GJ (s:=⟨p2,gn,dr,tk0,os⟩) q2 (by simp) λp3 _ e3=>k p3 e (λc o n y=>?_) ⟨oe,e3.extBut _ _ ez ge,ce⟩;have nz:c≠z:=λq=>n (q▸by simp);have n1':c≠i1:=λq=>n (q▸by simp);exact e3.extBut _ _ nz (x2 _ _ n1' (e1.extBut _ _ nz y))
end
end PySem
namespace PySem
open Sem (wp)
open PyProof.Rows (slot_tupleiter_next entry_tupleiter_next args_tupleiter_next)
section
variable{P:Program}{w:World}{A:Around}{E:Value->Shared->Prop}{s:Shared}{it t:Addr}{i:Nat}{items:Array Value}
theorem qj{α:Type}{Q:α->Shared->Prop}(hn:A.handled=none)(k:∀g e,(∀c o,s.heap.get? c=some o->g.get? c=some o)->(∃o,g.get? e=some o/\o.cls=.type "StopIteration")->E (.ref e) {s with heap:=g}):wpAny (model P w) A (Builtin.SmallTypes.stopIteration:Sem α) Q E s:=by
 unfold Builtin.SmallTypes.stopIteration newExc newTuple raiseNew;refine AH (AH (Ms (AH (wpAny_of_eq (a:=Value.none) (by simp only[firstArgMember];rfl) (Ms (AH (wpAny_handled ?_)) (by size_fits)))) (by size_fits)));rw[hn];exact AH (BA (wpAny_throw (k _ _ (λc o e=>Ae _ (Ae _ e)) ⟨_,A9 _ U,U⟩)))
theorem pN(hn:A.in1.handled=none)(ne:t≠it):Draws P w A it [it,t] items.size (λi v=>items[i]?=some v) (λi h=>h.IsTupleIter it t i/\h.IsTuple t items) where
 live:=λ_ _ z=>let ⟨o,ho,_⟩:=z.1;⟨o,ho⟩
 frame:=λ_ _ _ z hk=>⟨let ⟨o,ho,r⟩:=z.1;⟨o,hk it (by simp) o ho,r⟩,let ⟨o,ho,r⟩:=z.2;⟨o,hk t (by simp) o ho,r⟩⟩
 item:=λi s Q E hi z k=>by
  obtain⟨o,go,gc,gd⟩:=id z.1;obtain⟨ot,gt,_,n,gn⟩:=z.2;unfold Builtin.SmallTypes.nextOf;refine AH (Fw (name:=Str.ofString "__next__") z.1.typeIs IL (J3 IL z.1.typeIs RI ?_ (Rk _)));show wpAny _ _ (field (.ref it) 0>>=λq=>if(q==Value.none)=true then _ else _) _ _ s;refine AH (D9 go gd (x:=.ref t) U ?_);rw[AI (show¬(Value.ref t==Value.none)=true from nofun)];refine AH (D9 go gd (x:=.int i 0) U (AH (Fq gt gn ?_)));simp only[Bg,Dn hi];refine AH (wpAny_setField go gd (by simp) (BA ⟨_,U,BA (k _ _ s.toks (Dn hi) ⟨⟨_,Jw _ go (Obj.isFreed_of_fields (UJ gd _)),(Obj.cls_mapFields ..).trans gc,by rw[UJ gd];simp[rawInt]⟩,z.2.extBut (Fp ..).extBut ne⟩ (Fp ..))⟩))
 done:=λs Q E z k=>by
  obtain⟨o,go,gc,gd⟩:=id z.1;obtain⟨ot,gt,_,n,gn⟩:=z.2;unfold Builtin.SmallTypes.nextOf;refine AH (Fw (name:=Str.ofString "__next__") z.1.typeIs IL (J3 IL z.1.typeIs RI ?_ (Rk _)));show wpAny _ _ (field (.ref it) 0>>=λq=>if(q==Value.none)=true then _ else _) _ _ s;refine AH (D9 go gd (x:=.ref t) U ?_);rw[AI (show¬(Value.ref t==Value.none)=true from nofun)];refine AH (D9 go gd (x:=.int items.size 0) U (AH (Fq gt gn ?_)));simp only[Bg,Array.getElem?_eq_none (AU _)];refine AH (Jl (AH (wpAny_setField go gd (by simp) (qj hn λg e h1 h2=>k g e (λc o nc q=>h1 _ _ ((Fp ..).extBut _ _ nc q)) h2))))
end
end PySem
namespace PySem
open Sem (wp)
abbrev PR(t:Addr):Obj:={cls:=.type "tuple_iterator",data:=.fields #[.ref t,.int 0 0]}
abbrev IU(a b:Value):Obj:={cls:=.type "tuple",data:=.seq #[a,b]}
def XZ(h:Heap)(t l:Addr):Heap:=((((h.push (PR t)).push (Qh l)).push (IU (.ref h.objs.size) (.ref (h.objs.size+1)))).push (IU .none .none)).push {cls:=.type "zip",data:=.fields #[.none,.bool false,.bool false,.ref (h.objs.size+2),.ref (h.objs.size+3)]}
theorem kO(h:Heap)(t l:Addr):IsZip (XZ h t l) (h.objs.size+4) (h.objs.size+2) (h.objs.size+3) .none/\IsPair (XZ h t l) (h.objs.size+2) (.ref h.objs.size) (.ref (h.objs.size+1))/\IsPair (XZ h t l) (h.objs.size+3) .none .none/\
 (XZ h t l).IsTupleIter h.objs.size t 0/\(XZ h t l).IsListIter (h.objs.size+1) l 0/\∀c o,h.get? c=some o->(XZ h t l).get? c=some o:=by
 unfold XZ;generalize h1:h.push (PR t)=g1;have z1:g1.objs.size=h.objs.size+1:=by rw[<-h1];exact Bp ..
 have k1:g1.get? h.objs.size=some (PR t):=by rw[<-h1];exact A9 _ U
 have c1:∀c o,h.get? c=some o->g1.get? c=some o:=λc o e=>by rw[<-h1];exact Ae _ e
 generalize h2:g1.push (Qh l)=g2;have z2:g2.objs.size=h.objs.size+2:=by rw[<-h2,Bp,z1]
 have k2:g2.get? (h.objs.size+1)=some (Qh l):=by rw[<-h2,<-z1];exact A9 _ U
 have c2:∀c o,g1.get? c=some o->g2.get? c=some o:=λc o e=>by rw[<-h2];exact Ae _ e
 generalize h3:g2.push (IU (.ref h.objs.size) (.ref (h.objs.size+1)))=g3;have z3:g3.objs.size=h.objs.size+3:=by rw[<-h3,Bp,z2]
 have k3:g3.get? (h.objs.size+2)=some (IU (.ref h.objs.size) (.ref (h.objs.size+1))):=by rw[<-h3,<-z2];exact A9 _ U
 have c3:∀c o,g2.get? c=some o->g3.get? c=some o:=λc o e=>by rw[<-h3];exact Ae _ e
 generalize h4:g3.push (IU .none .none)=g4;have z4:g4.objs.size=h.objs.size+4:=by rw[<-h4,Bp,z3]
 have k4:g4.get? (h.objs.size+3)=some (IU .none .none):=by rw[<-h4,<-z3];exact A9 _ U
 have c4:∀c o,g3.get? c=some o->g4.get? c=some o:=λc o e=>by rw[<-h4];exact Ae _ e
 have k5:=A9 g4 (o:={cls:=.type "zip",data:=.fields #[.none,.bool false,.bool false,.ref (h.objs.size+2),.ref (h.objs.size+3)]}) U;rw[z4]at k5;have c5:∀c o,g4.get? c=some o->(g4.push {cls:=.type "zip",data:=.fields #[.none,.bool false,.bool false,.ref (h.objs.size+2),.ref (h.objs.size+3)]}).get? c=some o:=λc o e=>Ae _ e;exact⟨k5,c5 _ _ (c4 _ _ k3),c5 _ _ k4,⟨_,c5 _ _ (c4 _ _ (c3 _ _ (c2 _ _ k1))),U,U⟩,⟨_,c5 _ _ (c4 _ _ (c3 _ _ k2)),U,U⟩,λc o e=>c5 _ _ (c4 _ _ (c3 _ _ (c2 _ _ (c1 _ _ e))))⟩
theorem gA(t l:Addr)(us vs:Array Value):Meets (Builtin.«zip.__new__» ⟨[.type "zip",.ref t,.ref l],[]⟩) λ_ R s=>s.heap.IsTuple t us/\s.heap.IsList l vs/\R (.ok (.ret (.ref (s.heap.objs.size+4)))) {s with heap:=XZ s.heap t l}:=by
 refine .of_wp λP w A R s hs=>?_;obtain⟨hp,g,d,tk,os⟩:=s;obtain⟨h1,h2,k⟩:=hs;have self:=sub_zip;have isT:Heap.IsTuple (Shared.heap ⟨hp,g,d,tk,os⟩) t us:=h1;have isL:Heap.IsList (Shared.heap ⟨hp.push (PR t),g,d,tk,os⟩) l vs:=Heap.IsList.push h2 _
 wp_walk using wpAny_pyIter_tuple isT,Gm isL
 refine⟨_,U,?_⟩;have z1:(hp.push (PR t)).objs.size=hp.objs.size+1:=Bp ..;have z2:((hp.push (PR t)).push (Qh l)).objs.size=hp.objs.size+2:=by rw[Bp,z1]
 have z3:(((hp.push (PR t)).push (Qh l)).push (IU (.ref hp.objs.size) (.ref (hp.objs.size+1)))).objs.size=hp.objs.size+3:=by rw[Bp,z2]
 have z4:((((hp.push (PR t)).push (Qh l)).push (IU (.ref hp.objs.size) (.ref (hp.objs.size+1)))).push (IU .none .none)).objs.size=hp.objs.size+4:=by rw[Bp,z3]
 show R (.ok (.ret (.ref ((((hp.push (PR t)).push (Qh l)).push (IU (.ref hp.objs.size) (.ref (hp.push (PR t)).objs.size))).push (IU .none .none)).objs.size))) ⟨((((hp.push (PR t)).push (Qh l)).push (IU (.ref hp.objs.size) (.ref (hp.push (PR t)).objs.size))).push (IU .none .none)).push {cls:=.type "zip",data:=.fields #[.none,.bool false,.bool false,.ref ((hp.push (PR t)).push (Qh l)).objs.size,.ref (((hp.push (PR t)).push (Qh l)).push (IU (.ref hp.objs.size) (.ref (hp.push (PR t)).objs.size))).objs.size]},g,d,tk,os⟩;rw[z1,z2,z3,z4];exact k
section
variable{P:Program}{w:World}{A:Around}{E:Value->Shared->Prop}{s:Shared}
theorem jF{t l:Addr}{us vs:Array Value}{Q:Value->Shared->Prop}(h1:s.heap.IsTuple t us)(h2:s.heap.IsList l vs)(k:Q (.ref (s.heap.objs.size+4)) {s with heap:=XZ s.heap t l}):wpAny (model P w) A (call (.type "zip") [.ref t,.ref l]) Q E s:=
 callType_new F.called_zip (by decide) (F.typeCall_zip_2 _ _) (F.newCall_zip_2 _ _) (λobj=>RG obj _ _) F.entry_zip_new (gA t l us vs) ⟨h1,h2,⟨_,(kO s.heap t l).1,U⟩,k⟩
variable{z TI TO i1 i2:Addr}{f1 f2:List Addr}{n1 n2 i:Nat}{P1 P2:Nat->Value->Prop}{S1 S2:Nat->Heap->Prop}{a b:Value}
theorem jG{Q:Option Value->Shared->Prop}(D1:Draws P w A.in1 i1 f1 n1 P1 S1)(D2:Draws P w A.in1 i2 f2 n2 P2 S2)(ap:um z TI TO i1 i2 f1 f2)(hz:IsZip s.heap z TI TO .none)(hI:IsPair s.heap TI (.ref i1) (.ref i2))(hO:IsPair s.heap TO a b)
 (t1:S1 i s.heap) (t2:S2 i s.heap) (l1:i<n1) (l2:i<n2)
 (k:∀x y g tk,P1 i x->P2 i y->IsZip g z TI TO (rawInt s.heap.objs.size)->IsPair g TI (.ref i1) (.ref i2)->IsPair g TO x y->S1 (i+1) g->S2 (i+1) g->IsPair g s.heap.objs.size x y->(∀c o,c∉[z,TO,i1,i2]->s.heap.get? c=some o->g.get? c=some o)->Q (some (.ref s.heap.objs.size)) {s with heap:=g,toks:=tk}):
 wpAny (model P w) A (pyNext (.ref z)) Q E s:=by
 have ty:s.TypeIs (.ref z) "zip":=⟨_,hz,U⟩;unfold pyNext;exact AH (SO (Fw (name:=Str.ofString "__next__") ty K8 (J3 K8 ty Wn (mW D1 D2 ap hz hI hO t1 t2 l1 l2 λx y g tk c1 c2 c3 c4 c5 c6 c7 c8 c9=>BA (k x y g tk c1 c2 c3 c4 c5 c6 c7 c8 c9)) (Vc _))))
theorem mX{Q:Option Value->Shared->Prop}(D1:Draws P w A.in1 i1 f1 n1 P1 S1)(ap:um z TI TO i1 i2 f1 f2)(hz:IsZip s.heap z TI TO .none)(hI:IsPair s.heap TI (.ref i1) (.ref i2))(t1:S1 n1 s.heap)
 (k:∀g,(∀c o,c∉[z,TO,i1,i2]->s.heap.get? c=some o->g.get? c=some o)->Q none {s with heap:=g}):wpAny (model P w) A (pyNext (.ref z)) Q E s:=by
 have ty:s.TypeIs (.ref z) "zip":=⟨_,hz,U⟩;unfold pyNext;refine AH (SO (Fw (name:=Str.ofString "__next__") ty K8 (J3 K8 ty Wn (qi D1 ap hz hI t1 λg e h1 h2=>?_) (Vc _))));obtain⟨o,ho,hc⟩:=h2;exact AH (Wl (T:="StopIteration") (b:=true) ⟨o,ho,hc⟩ isSubtype_stop (BA (k _ h1)))
end
end PySem
namespace L2
open PySem PySem.Spec PyProof.Rows
def vS(K:PySem.W.Frag)(a b:Addr):It:=
 ⟨λi H=>∃(xs ys:List V)(x y:V),OM K H a xs/\A1 K H b ys/\xs[i]?=some x/\ys[i]?=some y,
  λi H v H'=>∃T x y,v=.ref T/\H T=none/\H'=upd H T (.tup [x,y])/\(∀xs,OM K H a xs->xs[i]?=some x)/\∀ys,A1 K H b ys->ys[i]?=some y,
  λi H=>∃xs ys:List V,OM K H a xs/\A1 K H b ys/\xs.length=i⟩
theorem mY{P:Program}{w:World}{K:PySem.W.Frag}{elts:List Expr}{kk:Nat}{tpos:Pos}{a b z TI TO i1 i2:Addr}(ap:um z TI TO i1 i2 [i1,a] [i2,b])(na:a≠i1)(nb:b≠i2):
 Turn P w K (.Tuple elts kk tpos) (vS K a b) [z,TI,TO,i1,i2] z (λi h=>IsZip h z TI TO .none/\IsPair h TI (.ref i1) (.ref i2)/\(∃x y,IsPair h TO x y)/\h.IsTupleIter i1 a i/\h.IsListIter i2 b i) where
 mem:=by simp
 obj:=λi h st c hc=>by
  obtain⟨hz,hI,⟨x,y,hO⟩,⟨o1,e1,_,d1⟩,⟨o2,e2,_,d2⟩⟩:=st;have e':c=z\/c=TI\/c=TO\/c=i1\/c=i2:=by simpa using hc
  rcases e' with q|q|q|q|q
  ·rw[q];exact⟨_,hz,λv q=>nomatch q⟩
  ·rw[q];exact⟨_,hI,λv q=>nomatch q⟩
  ·rw[q];exact⟨_,hO,λv q=>nomatch q⟩
  ·rw[q];exact⟨o1,e1,λv q=>by rw[d1]at q;cases q⟩
  ·rw[q];exact⟨o2,e2,λv q=>by rw[d2]at q;cases q⟩
 keep:=λi h h' st k=>by
  obtain⟨hz,hI,⟨x,y,hO⟩,⟨o1,e1,r1⟩,h2⟩:=st;exact⟨k z (by simp) _ hz,k TI (by simp) _ hI,⟨x,y,k TO (by simp) _ hO⟩,⟨o1,k i1 (by simp) _ e1,r1⟩,h2.at λo q=>k i2 (by simp) o q⟩
 item:=by
  intro X hP hw hK hc i pins s σ H E I hf st hg;subst hP hw hK;obtain⟨hz,hI,⟨x0,y0,hO⟩,h1,h2⟩:=st;obtain⟨xs,ys,x,y,ur,we,hx,hy⟩:=hg;obtain⟨its,rv,p,_⟩:=I.tuple ur;obtain⟨its2,rv2,p2,_⟩:=I.list we;obtain⟨u,hu,ru⟩:=rv.get hx;obtain⟨u2,yY,ru2⟩:=rv2.get hy;have hA:X.A.in1.handled=none:=by simp[I.ok.hd hc]
  have hA2:X.A.in1.in1.handled=none:=by simp[I.ok.hd hc]
  have zl:z<s.heap.objs.size:=Az hz;have il:=(AZ.mp hu).1;have il2:=(AZ.mp yY).1;refine jG (pN (items:=its.toArray) hA2 na) (Draws.list hA i2 b nb its2.toArray) ap hz hI hO (i:=i) ⟨h1,p⟩ ⟨h2,p2.isList⟩ (by rw[Ar];exact il) (by rw[Ar];exact il2) λx' y' g tk e1 e2 z' I' O' s1 s2 hT hk=>?_;cases (show u=x' from BB (hu.symm.trans (by simpa using e1)));cases (show u2=y' from BB (yY.symm.trans (by simpa using e2)));refine⟨_,U,wpAny_letOwnedTupleGo_zip (s:={s with heap:=g,toks:=tk}) z' λg2 z'' sb=>?_⟩;have keep:∀c o,c∉[z,TI,TO,i1,i2]->s.heap.get? c=some o->g2.get? c=some o:=λc o n q=>(sb.2 c (λr=>n (by simp[r]))).trans (hk c o (λr=>n (by simp only[AN,Aq,JH]at r⊢;rcases r with r|r|r|r<;>simp[r])) q);have hT2:g2.get? s.heap.objs.size=some {cls:=.type "tuple",data:=.seq #[u,u2]}:=(sb.2 _ (JO zl)).trans hT;have new:EN X.prog X.w (upd H s.heap.objs.size (.tup [x,y])) g2 s.heap.objs.size (.tup [x,y]):=⟨by show 2<=sizeLine;decide,[u,u2],.cons ru (.cons ru2 .nil),⟨_,hT2,U,_,U⟩⟩;have J:Inv X pins σ (upd H s.heap.objs.size (.tup [x,y])) {s with heap:=g2,toks:=tk}:=I.Vs (ch:=[z,TI,TO,i1,i2]) keep hf (AU _) new;have nd:=ap.nd;simp only[BQ,AN,Aq,JH,RT,Mw,DA,and_true]at nd;obtain⟨⟨wc,sJ,z1,z2⟩,_⟩:=nd;refine⟨.ref s.heap.objs.size,_,J,U,⟨_,x,y,U,I.hok.fresh (AU _),U,λl hl=>by rw[I.lq hl ur];exact hx,λl hl=>by rw[I.UR hl we];exact hy⟩,⟨z'',(sb.2 _ (CI wc)).trans I',⟨u,u2,(sb.2 _ (CI sJ)).trans O'⟩,let ⟨o,e,r⟩:=s1.1;⟨o,(sb.2 _ (CI z1)).trans e,r⟩,s2.1.at λo q=>(sb.2 _ (CI z2)).trans q⟩,λc ym=>?_⟩;have lt:c<s.heap.objs.size:=by
   (have e':c=z\/c=TI\/c=TO\/c=i1\/c=i2:=by simpa using ym);rcases e' with q|q|q|q|q
   ·rw[q];exact zl
   ·rw[q];exact Az hI
   ·rw[q];exact Az hO
   ·rw[q];obtain⟨_,e1,_⟩:=h1;exact Az e1
   ·rw[q];obtain⟨_,e2,_⟩:=h2;exact Az e2
  rw[Aj (BV lt)];exact(hf c ym).1
 done:=by
  intro X hP hw hK hc i pins s σ H E I hf st hg;subst hP hw hK;obtain⟨hz,hI,⟨x0,y0,hO⟩,h1,h2⟩:=st;obtain⟨xs,ys,ur,we,hend⟩:=hg;obtain⟨its,rv,p,_⟩:=I.tuple ur;have hA2:X.A.in1.in1.handled=none:=by simp[I.ok.hd hc]
  have l1:=rv.length;have ei:i=its.toArray.size:=by rw[Ar];omega
  refine mX (pN (items:=its.toArray) hA2 na) ap hz hI ⟨ei▸h1,p⟩ λg hk=>⟨U,I.tP (t':=s.toks) (ch:=[z,TI,TO,i1,i2]) (λc o n q=>hk c o (λr=>n (by simp only[AN,Aq,JH]at r⊢;rcases r with r|r|r|r<;>simp[r])) q) hf⟩
 self:=λA i s Q E st h=>Wo st.1 h
theorem two_mk{n a b:Addr}(la:a<n)(lb:b<n):um (n+4) (n+2) (n+3) n (n+1) [n,a] [n+1,b]:=by
 refine⟨by simp,λc hc=>?_,λc hc=>?_⟩
 ·simp only[AN,Aq,JH]at hc;rcases hc with rfl|rfl
  ·refine⟨?_,?_,?_,?_⟩<;>simp
  ·refine⟨?_,?_,?_,?_⟩<;>exact BV (BH la (Ds _ _))
 ·simp only[AN,Aq,JH]at hc;rcases hc with rfl|rfl
  ·refine⟨?_,?_,?_,?_⟩<;>simp
  ·exact⟨BV (BH lb (Ds _ _)),BV (BH lb (Ds _ _)),BV (BH lb (Ds _ _)),BV lb⟩
def zV(K:PySem.W.Frag)(ta:TA):TI:=λσ H R=>ta σ H λvs H1=>∃a b xs ys,vs=[.ref a,.ref b]/\OM K H1 a xs/\A1 K H1 b ys/\R (vS K a b) H1
theorem tT{X:Cx}{e e2:Expr}{ta:TA}{p pos tpos:Pos}{elts:List Expr}{kk:Nat}(hg:Gl X "zip")(hm:X.mg "zip"=none)(ha:PA X [e,e2] ta)
 (hs:starEach [e,e2] X.env=(false,eval e X.env)::starEach [e2] X.env:=by rfl) (hpl:(backTo pos (starEach [e2] X.env)).any (·.1)=false:=by rfl):
 PI X (.Tuple elts kk tpos) (.Call (.Name "zip" p) [e,e2] [] pos) (zV X.K ta):=by
 intro pins s σ H R I h;refine Zg (Km I hg hm mL (B7 (DQ (ha pos pins s σ H _ I h) λus s1 ⟨vs,H1,I1,r1,a,b,xs,ys,ex,ur,we,q⟩=>?_) hs hpl));subst ex;obtain⟨u,v,rfl,ru,rv'⟩:=r1.two;cases ru;cases rv';obtain⟨its,rv,p1,_⟩:=I1.tuple ur;obtain⟨its2,rv2,p2,_⟩:=I1.list we;have la:a<s1.heap.objs.size:=by obtain⟨_,e,_⟩:=p1;exact Az e
 have lb:b<s1.heap.objs.size:=p2.lt;obtain⟨z1,z2,z3,z4,z5,z6⟩:=kO s1.heap a b;refine jF p1 p2.isList (Wo z1 ?_);have I2:Inv X pins σ H1 {s1 with heap:=XZ s1.heap a b}:=I1.kept (t':=s1.toks) z6;refine⟨s1.heap.objs.size+4,[s1.heap.objs.size+4,s1.heap.objs.size+2,s1.heap.objs.size+3,s1.heap.objs.size,s1.heap.objs.size+1],_,_,H1,U,I2,mY (two_mk la lb) (BV la) (BV (EJ lb)),⟨z1,z2,⟨_,_,z3⟩,z4,z5⟩,λc ym=>?_,q⟩;have e':c=s1.heap.objs.size+4\/c=s1.heap.objs.size+2\/c=s1.heap.objs.size+3\/c=s1.heap.objs.size\/c=s1.heap.objs.size+1:=by simpa using ym
 have hle:s1.heap.objs.size<=c:=by
  rcases e' with e'|e'|e'|e'|e'<;>rw[e']<;>first|exact AU _|exact Ds _ _
 exact I1.XR hle (I1.hok.fresh hle)
end L2
namespace PySem
open Sem (wp)
section
variable{P:Program}{w:World}{κ:Type}[DecidableEq κ]{kn:HeapKind P w κ}{A:Around}{E:Value->Shared->Prop}{s:Shared}{d a:Addr}{xs:List (κ×Addr×Value)}{k:κ}{x:Value}
theorem tU{Q:Value->Shared->Prop}(hu:kn.room A)(hk:kn.is s.heap k a)(hm:s.heap.DictOfH kn d xs)(hz:xs.length<=sizeLine)
 (h1:∀p,atKey xs k=some p->Q p.2 {s with toks:=s.toks+kn.draws k})
 (h2:atKey xs k=none->∀g,g.DictOfH kn d (storedH xs k a x)->Heap.SameBut d s.heap g->Q x {s with heap:=g,toks:=s.toks+kn.draws k}):wpAny (model P w) A (dictSetDefault d (.ref a) x) Q E s:=by
 obtain⟨o,es,ep,go,gx,gd,ge,gi,gn⟩:=hm;unfold dictSetDefault;refine GX (AH (kn.pyHash hu hk (AH (wpAny_dictFind_heap (s:={s with toks:=s.toks+kn.draws k}) hu hk go gd ge gi gn (λno=>?_) λj p hj=>?_))))
 ·have an:=atKey_none_of_get no;have nk:=not_mem_keys_of_get no;have sm:Heap.SameBut d s.heap (s.heap.update d (Obj.mapDictKeys λe=>e.push ⟨kn.hash k,.ref a,x⟩)):=Fp ..;refine AH (Jl (AH (wpAny_updateDictKeys (hz:=by have e:=size_of_entries ge;omega) (s:={s with toks:=s.toks+kn.draws k}) go gd (BA (h2 an _ ?_ sm)))));rw[storedH_new an];refine⟨_,_,ep+1,Jw _ go (Obj.isFreed_of_dict (RJ gd _)),gx.mapDictKeys _,RJ gd _,by simp[ge,entryOfKey],λy hy=>?_,?_⟩
  ·rcases AQ.mp hy with hy|hy
   ·exact kn.keeps (gi y hy) go gd sm
   ·cases Af.mp hy;exact kn.keeps hk go gd sm
  ·rw[As,Bo];exact⟨gn,by simp,λu z9 v hv q=>nk (by have e:u=k:=q.trans (Af.mp hv);rw[<-e];exact z9)⟩
 ·refine AH (wpAny_dictEntries (s:={s with toks:=s.toks+kn.draws k}) go gd ?_);rw[entry_at ge j,hj];exact AH (Jl (BA (h1 p (atKey_of_get gn hj))))
theorem Zq(hd:(d==sysModules)=false):MeetsIn P w (Builtin.«dict.setdefault» ⟨[.ref d,.ref a,x],[]⟩) λA R s=>kn.room A.in1/\∃k xs,kn.is s.heap k a/\s.heap.DictOfH kn d xs/\xs.length<=sizeLine/\
 (∀p,atKey xs k=some p->R (.ok (.ret p.2)) {s with toks:=s.toks+kn.draws k})/\(atKey xs k=none->∀g,g.DictOfH kn d (storedH xs k a x)->Heap.SameBut d s.heap g->R (.ok (.ret x)) {s with heap:=g,toks:=s.toks+kn.draws k}):=
 .of_wp λA R s ⟨hu,k,xs,hk,hm,hz,h1,h2⟩=>by
  unfold Builtin.«dict.setdefault» Builtin.Dict.keyAndDefault;refine AH (AH (wpAny_notOrdered_dict hm.typeIs ?_));show wpAny _ _ (pure (d,Value.ref a,some x)) _ _ s;refine BA ?_;show wpAny _ _ (if(d==sysModules)=true then _ else(dictSetDefault d (.ref a) x>>=_)) _ _ s;rw[hd,AI Au];exact AH (tU hu hk hm hz (λp e=>BA ⟨_,U,h1 p e⟩) λe g m b=>BA ⟨_,U,h2 e g m b⟩)
end
end PySem
namespace L2
open PySem PySem.Spec PyProof.Rows
def zW(td ty tx:TE):TE:=λσ H Q=>td σ H λx H1=>∃a,x=.ref a/\IsD H1 a/\ty σ H1 λy H2=>tx σ H2 λz H3=>∃(kvs:List (List Key×V))(k:List Key)(b:Addr),y=.ref b/\H3 a=some (.dT kvs)/\H3 b=some (.tup (k.map kV))/\kvs.length<sizeLine/\
 (∀v,Es kvs k=some v->Q v H3)/\(Es kvs k=none->Q z (upd H3 a (.dT (putK kvs k z))))
section
variable{X:Cx}{o e f:Expr}{apos cpos:Pos}{td ty tx:TE}
theorem jH(hu:X.A.units+1<cLine)(ho:PE X o td)(he:PE X e ty)(hf:PE X f tx)(m:M2 X o "setdefault" apos e f cpos):PE X (.Call (.Attribute o "setdefault" apos) [e,f] [] cpos) (zW td ty tx):=by
 intro pins s σ H Q I h;refine Mt m.base m.few m.line PySem.F.plainAttrs_dict PySem.F.slot_dict_setdefault PySem.F.type_dict_setdefault (DQ (ho pins s σ H _ I h) λu s1 ⟨x,H1,I1,rx,a,ex,d,q1⟩=>?_);subst ex;obtain rfl:u=Value.ref a:=rx;obtain⟨t1,t2,_⟩:=pL I1 d;refine⟨t1,t2,?_⟩;rw[m.trees];refine GL U (Hh (DM (DQ (he pins s1 σ H1 _ I1 q1) λiv s2 ⟨y,H2,I2,ry,q2⟩=>
  DM (DQ (hf pins s2 σ H2 _ I2 q2) λfv s3 ⟨z,H3,I3,rz,kvs,k,b,ey,ea,eb,hl,q3,q4⟩=>Gn ?_))))
 subst ey;cases (show iv=Value.ref b from ry);obtain⟨hz,hd,xs,rel,dd⟩:=uf I3.hok ea;have hz':xs.length<=sizeLine:=by rw[<-Paired.length rel];exact hz
 have rv:=rel.val k;refine Ol PySem.F.slot_dict_setdefault dd.typeIs PySem.F.entry_dict_setdefault (PySem.F.args_dict_setdefault_3 _ _ _) (Zq (kn:=tupleKind (Dk X.prog X.w)) (d:=a) (a:=b) (x:=fv) hd) ⟨JE hu,k,xs,X6 I3.hok eb,dd,hz',λp e=>?_,λe g ug hs=>?_⟩
 ·rw[e]at rv;cases hv:Es kvs k with
  |none=>rw[hv]at rv;exact rv.elim
  |some v=>rw[hv]at rv;exact⟨v,H3,I3.tok _,rv,q3 v hv⟩
 ·rw[e]at rv;cases hv:Es kvs k with
  |some v=>rw[hv]at rv;exact rv.elim
  |none=>
   (have hl':(putK kvs k z).length<=sizeLine:=by have:=Iq kvs k z;omega);obtain⟨q,es,ep,hq,g2,g3,g4,_,g5⟩:=ug;refine⟨z,_,bY (ob:=.dT (putK kvs k z)) I3 (by rw[ea];exact True.intro) hs ⟨q,hq⟩ ⟨hl',hd,_,(rel.put k eb rz).keeps λc ys ec=>?_,q,es,ep,hq,g2,g3,g4,g5⟩,rz,q4 hv⟩;rw[Aj (Zb ec ea (λz=>nomatch z))];exact ec
def wg(w:World)(K:PySem.W.Frag)(td ty tx:TE):TE:=λσ H Q=>td σ H λx H1=>∃(a:Addr)(kvs:List (Key×V)),x=.ref a/\II w K a kvs/\(a==sysModules)=false/\ty σ H1 λy H2=>tx σ H2 λz H3=>∃k:Key,y=kV k/\Q ((Es kvs k).getD z) H3
theorem qk(ho:PE X o td)(he:PE X e ty)(hf:PE X f tx)(m:M2 X o "get" apos e f cpos):PE X (.Call (.Attribute o "get" apos) [e,f] [] cpos) (wg X.w X.K td ty tx):=by
 intro pins s σ H Q I h;refine Mt m.base m.few m.line PySem.F.plainAttrs_dict PySem.F.slot_dict_get PySem.F.type_dict_get (DQ (ho pins s σ H _ I h) λu s1 ⟨x,H1,I1,rx,a,kvs,ex,D,lo,q1⟩=>?_);subst ex;obtain rfl:u=Value.ref a:=rx;obtain⟨vs,rel,dd⟩:=D.at_ I1;refine⟨dd.typeIs,λb q=>?_,?_⟩
 ·cases q;obtain⟨ob,_,_,g1,g2,_⟩:=dd;exact⟨ob,g1,g2.2.1⟩
 rw[m.trees];refine GL U (Hh (DM (DQ (he pins s1 σ H1 _ I1 q1) λiv s2 ⟨y,H2,I2,ry,q2⟩=>
  DM (DQ (hf pins s2 σ H2 _ I2 q2) λfv s3 ⟨z,H3,I3,rz,k,ey,q3⟩=>Gn ?_))))
 subst ey;obtain⟨vs,rel,dd⟩:=D.at_ I3;exact Ol PySem.F.slot_dict_get dd.typeIs PySem.F.entry_dict_get (PySem.F.args_dict_get_3 _ _ _) (Ow (Dk X.prog X.w) a (Ze ry) lo fv) ⟨_,dd.mapOf,_,H3,I3.tok _,(rel.val k).getD rz,q3⟩
theorem mZ:bootBuiltins "set"=some (.type "set"):=by decide +kernel
theorem tV(l:List Int):∀σ:List Int,σ.Nodup->((l.foldl step_dedup σ).length=σ.length+l.length↔(σ++l).Nodup)/\(l.foldl step_dedup σ).length<=σ.length+l.length:=by
 induction l with
 |nil=>intro σ h;rw[Bk];exact⟨⟨λ_=>h,λ_=>rfl⟩,AU _⟩
 |cons a l ih=>
  intro σ h;rw[EL,Ab];by_cases c:σ.any (·==a)=true
  ·rw[show step_dedup σ a=σ from AJ c];obtain⟨h1,h2⟩:=ih σ h;(have hm:a∈σ:=by obtain⟨x,hx,e⟩:=Wq.mp c;exact EE.mp e▸hx);refine⟨⟨λe=>by omega,λnd=>?_⟩,by omega⟩;rw[Bo]at nd;exact absurd rfl (nd.2.2 a hm a (Ac ..))
  ·rw[show step_dedup σ a=σ++[a]from AI c];have hm:a∉σ:=λz=>c (Wq.mpr ⟨a,z,Nv a⟩);have h':(σ++[a]).Nodup:=by
    rw[Bo];exact⟨h,by simp,λx hx y hy q=>hm (by rw[<-Af.mp hy,<-q];exact hx)⟩
   obtain⟨h1,h2⟩:=ih (σ++[a]) h';rw[Bm,AL]at h1;rw[AL]at h2;have e1:([a]:List Int).length=1:=rfl;refine⟨⟨λe=>h1.mp (by omega),λnd=>by have:=h1.mpr nd;omega⟩,by omega⟩
theorem getD_map(ns:List Int):(List.range ns.length).map (λi=>ns.getD i 0)=ns:=by
 apply Mu;intro i;rw[Ai];by_cases h:i<ns.length
 ·rw[List.getElem?_range h,Ak h];show some (ns.getD i 0)=_;rw[A3,Ak h];rfl
 ·rw[CT (by rw[Vd];omega),CT (by omega)];rfl
def wj(K:PySem.W.Frag):List V->Hp->VK->Prop:=λvs H Q=>∃(a:Addr)(ns:List Int),vs=[V.ref a]/\A1 K H a (ns.map V.int)/\ns.length+1<4096/\∀p S n,H p=none->(n=ns.length↔ns.Nodup)->Q (.ref p) (upd H p (.set S n))
theorem qm(hc:X.calm=true):RV X (.type "set") (wj X.K):=by
 intro pins s σ H vs us Q I r h;obtain⟨a,ns,rfl,hq,hl,k⟩:=h;obtain⟨u,rfl,ru⟩:=vals1 r;cases ru;obtain⟨its,rv,p,hz⟩:=I.list hq;have il:its.length=ns.length:=by have:=rv.length;rw[AA]at this;exact this.symm
 refine PySem.call_set_list (items:=its.toArray) (ns:=ns) (I.ok.hd hc) p.isList (by simpa using intsAre_of rv) (by rw[Ar,il];exact hl) λh' tk hS hk=>?_;have ez:its.toArray.size=ns.length:=by rw[Ar,il]
 rw[ez]at hS;have hn:(firstMet (λi=>ns.getD i 0) ns.length).length=ns.length↔ns.Nodup:=by
  unfold firstMet;rw[getD_map];have:=(tV ns [] DA).1;rw[FE]at this;have e0:([]:List Int).length=0:=rfl;rw[e0,LZ]at this;exact this
 exact⟨.ref _,_,I.laid (a:=s.heap.objs.size) (o:=.set _ _) (λb ob e=>hk b ob (Az e) e) (AU _) hS,U,k _ _ _ (I.hok.fresh (AU _)) hn⟩
theorem mh:RV X (.builtin "len") (λvs H Q=>∃p S n,vs=[V.ref p]/\H p=some (.set S n)/\Q (.int (n:Nat)) H):=by
 intro pins s σ H vs us Q I r h;obtain⟨p,S,n,rfl,hp,q⟩:=h;obtain⟨u,rfl,ru⟩:=vals1 r;cases ru;obtain⟨o,es,ep,t,ho,hex,hd,_,_,hb,hf,hn⟩:=(show s.heap.SetOf (intKind X.prog X.w) p S n from I.hok p _ hp);subst hn;refine call_len_set ho hex hd hf (by unfold scanBound at hb;omega) ⟨.int _,H,I.tok _,⟨_,U⟩,q⟩
end
end L2
section
namespace L2
open PySem PySem.Spec PyProof.Rows
open PySem.W (WData Codec OpenSpec Well WellAll ReadsW ReadsAllW)
mutual
inductive Dw(K:PySem.W.Frag)(H:Hp):V->WData->Prop
 |DX:Dw K H .DX .none
 |bl (b:Bool):Dw K H (.bl b) (.bool b)
 |int (i:Int):Dw K H (.int i) (.int i)
 |str (x:Str):Dw K H (.str x) (.str x)
 |Yr (b:Array UInt8):Dw K H (.Yr b) (.bytes b.toList)
 |lst {a:Addr} {xs:List V} {ds:List WData}:A1 K H a xs->NS K H xs ds->Dw K H (.ref a) (.list ds)
 |tup {a:Addr} {xs:List V} {ds:List WData}:OM K H a xs->NS K H xs ds->Dw K H (.ref a) (.tuple ds)
inductive NS(K:PySem.W.Frag)(H:Hp):List V->List WData->Prop
 |nil:NS K H [] []
 |cons {v:V} {vs:List V} {d:WData} {ds:List WData}:Dw K H v d->NS K H vs ds->NS K H (v::vs) (d::ds)
end
theorem kP{K:PySem.W.Frag}{H:Hp}:∀ns:List Int,NS K H (ns.map V.int) (ns.map WData.int)
 | []=>.nil
 |n::r=>.cons (.int n) (kP r)
theorem kQ{K:PySem.W.Frag}{H:Hp}:∀(ns:List Int)(xs:List V),NS K H xs (ns.map WData.int)->xs=ns.map V.int
 | [],xs,h=>by
   cases h;rfl
 |n::r,xs,h=>by
  cases h with
  |cons h1 h2=>
   cases h1;rw[kQ r _ h2]<;>rfl
section
variable{P:Program}{w:World}{K:PySem.W.Frag}{H:Hp}{h:Heap}{R:PySem.W.WRecords}{cl:Str->Option Addr}
theorem wm{a:Addr}{xs:List V}(hok:Kg P w H h)(KX:K.In h)(q:A1 K H a xs):∃(its:List Value)(o:Obj)(n:Nat),Vals xs its/\h.get? a=some o/\o.cls=.type "list"/\o.data=.seq its.toArray n:=by
 rcases q with q|⟨o,its,n,e,hc,_,hd,_,hv⟩
 ·obtain⟨_,its,n,hv,e⟩:=(show EN P w H h a (.lst xs)from q.ok hok);exact⟨its,_,n,hv,e,U,U⟩
 ·exact⟨its.toList,o,n,hv,KX _ _ e,hc,by simp[hd]⟩
theorem wu{a:Addr}{xs:List V}(hok:Kg P w H h)(KX:K.In h)(q:OM K H a xs):∃(its:List Value)(o:Obj)(n:Nat),Vals xs its/\h.get? a=some o/\o.cls=.type "tuple"/\o.data=.seq its.toArray n:=by
 rcases q with q|⟨o,its,n,e,hc,hd,_,hv⟩
 ·obtain⟨_,its,hv,o,e,hc,n,hd⟩:=(show EN P w H h a (.tup xs)from q.ok hok);exact⟨its,o,n,hv,e,hc,hd⟩
 ·exact⟨its.toList,o,n,hv,KX _ _ e,hc,by simp[hd]⟩
mutual
theorem Dw.reads(hok:Kg P w H h)(KX:K.In h):∀(d:WData)(v:V)(u:Value),Dw K H v d->RelV v u->∃as,ReadsW R cl h u d as
 | .none,_,_,x,r=>by
   cases x;cases r;exact⟨_,ReadsW.none⟩
 | .bool b,_,_,x,r=>by
   cases x;cases r;exact⟨_,ReadsW.bool b⟩
 | .int i,_,_,x,r=>by
   cases x;obtain⟨t,rfl⟩:=r;exact⟨_,ReadsW.int i t⟩
 | .str s,_,_,x,r=>by
   cases x;obtain⟨t,rfl⟩:=r;exact⟨_,ReadsW.str s t⟩
 | .bytes b,_,_,x,r=>by
   cases x;obtain⟨t,rfl⟩:=r;exact⟨_,ReadsW.bytes _ t⟩
 | .list ds,_,_,x,r=>by
   cases x with
   |lst hs ha=>
    cases r;obtain⟨its,o,n,rv,ho,hc,hd⟩:=wm hok KX hs;obtain⟨as,hr⟩:=Dw.readsAll hok KX ds _ its ha rv;exact⟨_,ReadsW.list ho hc hd hr⟩
 | .tuple ds,_,_,x,r=>by
   cases x with
   |tup hs ha=>
    cases r;obtain⟨its,o,n,rv,ho,hc,hd⟩:=wu hok KX hs;obtain⟨as,hr⟩:=Dw.readsAll hok KX ds _ its ha rv;exact⟨_,ReadsW.tuple ho hc hd hr⟩
 | .float _,_,_,x,_=>by cases x
 | .dict _,_,_,x,_=>by cases x
 | .bytearray _,_,_,x,_=>by cases x
 | .set _,_,_,x,_=>by cases x
 | .frozenset _,_,_,x,_=>by cases x
 | .obj _ _,_,_,x,_=>by cases x
theorem Dw.readsAll(hok:Kg P w H h)(KX:K.In h):∀(ds:List WData)(vs:List V)(us:List Value),NS K H vs ds->Vals vs us->∃as,ReadsAllW R cl h us ds as
 | [],_,_,x,r=>by
   cases x;cases r;exact⟨_,ReadsAllW.nil⟩
 |d::ds,_,_,x,r=>by
  cases x with
  |cons h1 h2=>
   cases r with
   |cons r1 r2=>
    obtain⟨as,q1⟩:=Dw.reads hok KX d _ _ h1 r1;obtain⟨bs,q2⟩:=Dw.readsAll hok KX ds _ _ h2 r2;exact⟨_,ReadsAllW.cons q1 q2⟩
end
end
mutual
def aQ:WData->Bool
 | .none=>true
 | .bool _=>true
 | .int _=>true
 | .str _=>true
 | .bytes _=>true
 | .list xs=>UY xs
 | .tuple xs=>UY xs
 |_=>false
def UY:List WData->Bool
 | []=>true
 |x::r=>aQ x&&UY r
end
theorem eL{α:Type}{f:α->WData}(h:∀a,aQ (f a)=true):∀l:List α,UY (l.map f)=true
 | []=>rfl
 |x::r=>by
  show(aQ (f x)&&UY (r.map f))=true;rw[h x,eL h r]<;>rfl
theorem O3:∀(c:Codec)(a:c.denote),aQ (c.enc a)=true
 | .unit,_=>rfl
 | .bool,_=>rfl
 | .int _ _,_=>rfl
 | .nat _ _,_=>rfl
 | .u8,_=>rfl
 | .bytes _ _,_=>rfl
 | .text _ _ _ _,_=>rfl
 | .list _ _ c,a=>eL (λx=>O3 c x) a
 | .pair c d,a=>by
   show(aQ (c.enc a.1)&&(aQ (d.enc a.2)&&true))=true;rw[O3 c a.1,O3 d a.2]<;>rfl
 | .triple c d e,a=>by
   show(aQ (c.enc a.1)&&(aQ (d.enc a.2.1)&&(aQ (e.enc a.2.2)&&true)))=true;rw[O3 c a.1,O3 d a.2.1,O3 e a.2.2]<;>rfl
 | .option c,none=>rfl
 | .option c,some x=>O3 c x
theorem aR:∀(cs:List Codec)(a:Codec.denoteAll cs),UY (Codec.encAll cs a)=true
 | [],_=>rfl
 |c::cs,a=>by
  show(aQ (c.enc a.1)&&UY (Codec.encAll cs a.2))=true;rw[O3 c a.1,aR cs a.2]<;>rfl
theorem SS:∀{xs:List WData}{d:WData},d∈xs->d.weight<=WData.weightAll xs
 | [],d,h=>absurd h (by simp)
 |x::r,d,h=>by
  show d.weight<=x.weight+1+WData.weightAll r;rcases AN.mp h with e|m
  ·rw[e];omega
  ·have z:=SS m;omega
def toV:Value->V
 | .none=>.DX
 | .bool b=>.bl b
 | .int i _=>.int i
 | .str x _=>.str x
 | .bytes b _=>.Yr b
 | .ref a=>.ref a
 |_=>.DX
def cg(A:List Addr):Value->Prop
 | .none=>True
 | .bool _=>True
 | .int _ _=>True
 | .str _ _=>True
 | .bytes _ _=>True
 | .ref a=>a∈A
 |_=>False
theorem cg.mono{A B:List Addr}(h:∀a∈A,a∈B):∀{u:Value},cg A u->cg B u:=λ{u} x=>by
 cases u with
 |ref a=>exact h a x
 |none=>trivial
 |bool b=>trivial
 |int i t=>trivial
 |str s t=>trivial
 |bytes b t=>trivial
 |_=>exact False.elim x
theorem qo{A:List Addr}{u:Value}(x:cg A u):RelV (toV u) u:=by
 cases u with
 |ref a=>rfl
 |none=>rfl
 |bool b=>rfl
 |int i t=>exact⟨t,U⟩
 |str s t=>exact⟨t,U⟩
 |bytes b t=>exact⟨t,U⟩
 |_=>exact False.elim x
theorem NT{A:List Addr}:∀{vs:List Value},(∀u∈vs,cg A u)->Vals (vs.map toV) vs
 | [],_=>.nil
 |u::r,h=>.cons (qo (h u (Ac ..))) (NT λx hx=>h x (AV _ hx))
def NU(h:Heap)(A:List Addr)(a:Addr):Prop:=∃vs:List Value,vs.length<=sizeLine/\(∀u∈vs,cg A u)/\
 (h.get? a=some {cls:=.type "list",data:=.seq vs.toArray}\/h.get? a=some {cls:=.type "tuple",data:=.seq vs.toArray})
theorem NU.mono{h:Heap}{A B:List Addr}{a:Addr}(k:∀a∈A,a∈B)(x:NU h A a):NU h B a:=by
 obtain⟨vs,h1,h2,h3⟩:=x;exact⟨vs,h1,λu hu=>(h2 u hu).mono k,h3⟩
theorem MV{P:Params}{h:Heap}:∀{vs:List Value}{ds:List WData},WellAll P h vs ds->vs.length=ds.length
 |_,_,.nil=>rfl
 |_,_,.cons _ b=>by
  show _+1=_+1;rw[MV b]
theorem aS{P:Params}{h:Heap}{v:Value}{ds:List WData}(x:Well P h v (.list ds)):∃(a:Addr)(vs:List Value),v=.ref a/\h.get? a=some {cls:=.type "list",data:=.seq vs.toArray}/\WellAll P h vs ds:=by
 cases x with
 |list ho hall=>exact⟨_,_,U,ho,hall⟩
theorem Yt{P:Params}{h:Heap}{v:Value}{ds:List WData}(x:Well P h v (.tuple ds)):∃(a:Addr)(vs:List Value),v=.ref a/\h.get? a=some {cls:=.type "tuple",data:=.seq vs.toArray}/\WellAll P h vs ds:=by
 cases x with
 |tuple ho hall=>exact⟨_,_,U,ho,hall⟩
theorem aT{P:Params}{h:Heap}{us:List Value}{d:WData}{ds:List WData}(x:WellAll P h us (d::ds)):∃(v:Value)(vs:List Value),us=v::vs/\Well P h v d/\WellAll P h vs ds:=by
 cases x with
 |cons a b=>exact⟨_,_,U,a,b⟩
theorem kR{n:Nat}(h:n<=1048576):n<=sizeLine:=Aw h (by decide)
section
variable{P:Params}{h:Heap}
mutual
theorem qt:∀(d:WData)(v:Value),Well P h v d->aQ d=true->d.weight<=1048576->∃A:List Addr,cg A v/\∀a∈A,NU h A a
 | .none,_,x,_,_=>by
   cases x;exact⟨[],trivial,λa m=>absurd m (by simp)⟩
 | .bool b,_,x,_,_=>by
   cases x;exact⟨[],trivial,λa m=>absurd m (by simp)⟩
 | .int i,_,x,_,_=>by
   cases x;exact⟨[],trivial,λa m=>absurd m (by simp)⟩
 | .str s,_,x,_,_=>by
   cases x;exact⟨[],trivial,λa m=>absurd m (by simp)⟩
 | .bytes b,_,x,_,_=>by
   cases x;exact⟨[],trivial,λa m=>absurd m (by simp)⟩
 | .list ds,_,x,p,z=>by
   obtain⟨a,vs,rfl,ho,hall⟩:=aS x;have z2:WData.weightAll ds<=1048576:=z;obtain⟨A,h1,h2⟩:=UZ ds _ hall p λd hd=>Aw (SS hd) z2;have k:∀b∈A,b∈a::A:=λb hb=>AV _ hb;refine⟨a::A,Ac ..,λb hb=>?_⟩;rcases AN.mp hb with e|m
   ·rw[e];exact⟨vs,kR (by rw[MV hall];exact Aw (PySem.W.length_le_weightAllW ds) z2),λu hu=>(h1 u hu).mono k,.inl ho⟩
   ·exact(h2 b m).mono k
 | .tuple ds,_,x,p,z=>by
   obtain⟨a,vs,rfl,ho,hall⟩:=Yt x;have z2:WData.weightAll ds<=1048576:=z;obtain⟨A,h1,h2⟩:=UZ ds _ hall p λd hd=>Aw (SS hd) z2;have k:∀b∈A,b∈a::A:=λb hb=>AV _ hb;refine⟨a::A,Ac ..,λb hb=>?_⟩;rcases AN.mp hb with e|m
   ·rw[e];exact⟨vs,kR (by rw[MV hall];exact Aw (PySem.W.length_le_weightAllW ds) z2),λu hu=>(h1 u hu).mono k,.inr ho⟩
   ·exact(h2 b m).mono k
 | .float _,_,_,p,_=>Bool.noConfusion (show false=true from p)
 | .dict _,_,_,p,_=>Bool.noConfusion (show false=true from p)
 | .bytearray _,_,_,p,_=>Bool.noConfusion (show false=true from p)
 | .set _,_,_,p,_=>Bool.noConfusion (show false=true from p)
 | .frozenset _,_,_,p,_=>Bool.noConfusion (show false=true from p)
 | .obj _ _,_,_,p,_=>Bool.noConfusion (show false=true from p)
theorem UZ:∀(ds:List WData)(vs:List Value),WellAll P h vs ds->UY ds=true->(∀d∈ds,d.weight<=1048576)->∃A:List Addr,(∀u∈vs,cg A u)/\∀a∈A,NU h A a
 | [],_,x,_,_=>by
   cases x;exact⟨[],λu m=>absurd m (by simp),λa m=>absurd m (by simp)⟩
 |d::ds,_,x,p,z=>by
  obtain⟨v,vs,rfl,x1,x2⟩:=aT x;have q:aQ d=true/\UY ds=true:=RK.mp p;obtain⟨A,a1,a2⟩:=qt d v x1 q.1 (z d (Ac ..));obtain⟨B,b1,b2⟩:=UZ ds vs x2 q.2 λe he=>z e (AV _ he);have kA:∀b∈A,b∈A++B:=λb hb=>AQ.mpr (.inl hb);have kB:∀b∈B,b∈A++B:=λb hb=>AQ.mpr (.inr hb);refine⟨A++B,λu hu=>?_,λb hb=>?_⟩
  ·rcases AN.mp hu with e|m
   ·rw[e];exact a1.mono kA
   ·exact(b1 u m).mono kB
  ·rcases AQ.mp hb with m|m
   ·exact(a2 b m).mono kA
   ·exact(b2 b m).mono kB
end
end
def r9(o:Obj):Option HO:=match o.data with
 | .seq vs _=>if(o.cls==Value.type "list")=true then some (.Vj o (.lst (vs.toList.map toV)))else some (.Vj o (.tup (vs.toList.map toV)))
 |_=>none
def Ll(K:PySem.W.Frag)(h:Heap)(A:List Addr):Hp:=λb=>if b∈A then(if(K.lookup b).isNone=true then(h.get? b).bind r9 else none)else none
def cu(H:Hp):Prop:=∀b,H b=none\/∃o u,H b=some (.Vj o u)
theorem eN(vs:List Value):r9 {cls:=.type "list",data:=.seq vs.toArray}=some (.Vj {cls:=.type "list",data:=.seq vs.toArray} (.lst (vs.map toV))):=by
 show(if(Value.type "list"==Value.type "list")=true then some (HO.Vj {cls:=.type "list",data:=.seq vs.toArray} (.lst (vs.toArray.toList.map toV)))else some (HO.Vj {cls:=.type "list",data:=.seq vs.toArray} (.tup (vs.toArray.toList.map toV))))=_;rw[AJ (Nv _)]
theorem eO(vs:List Value):r9 {cls:=.type "tuple",data:=.seq vs.toArray}=some (.Vj {cls:=.type "tuple",data:=.seq vs.toArray} (.tup (vs.map toV))):=by
 show(if(Value.type "tuple"==Value.type "list")=true then some (HO.Vj {cls:=.type "tuple",data:=.seq vs.toArray} (.lst (vs.toArray.toList.map toV)))else some (HO.Vj {cls:=.type "tuple",data:=.seq vs.toArray} (.tup (vs.toArray.toList.map toV))))=_;rw[AI (by decide)]
section
variable{P:Program}{w:World}{K:PySem.W.Frag}{h:Heap}{A:List Addr}
theorem Xa{b:Addr}{o:Obj}(hb:b∈A)(hk:K.lookup b=none)(e:h.get? b=some o):Ll K h A b=r9 o:=by
 unfold Ll;rw[AJ hb,hk,AJ (show(none:Option Obj).isNone=true from rfl),e]<;>rfl
theorem tX{b:Addr}{u:HO}(q:Ll K h A b=some u):b∈A/\K.lookup b=none:=by
 unfold Ll at q;by_cases hb:b∈A
 ·rw[AJ hb]at q;cases hk:K.lookup b with
  |none=>exact⟨hb,U⟩
  |some o=>
   rw[hk,AI (by simp)]at q;cases q
 ·rw[AI hb]at q;cases q
theorem Xb(ar:∀a∈A,NU h A a){b:Addr}{u:HO}(q:Ll K h A b=some u):K.lookup b=none/\∃vs:List Value,vs.length<=sizeLine/\(∀u∈vs,cg A u)/\
 ((h.get? b=some {cls:=.type "list",data:=.seq vs.toArray}/\u=.Vj {cls:=.type "list",data:=.seq vs.toArray} (.lst (vs.map toV)))\/
  (h.get? b=some {cls:=.type "tuple",data:=.seq vs.toArray}/\u=.Vj {cls:=.type "tuple",data:=.seq vs.toArray} (.tup (vs.map toV)))):=by
 obtain⟨hb,hk⟩:=tX q;obtain⟨vs,h1,h2,h3⟩:=ar b hb;refine⟨hk,vs,h1,h2,?_⟩;rcases h3 with e|e
 ·rw[Xa hb hk e,eN]at q;exact .inl ⟨e,(BB q).symm⟩
 ·rw[Xa hb hk e,eO]at q;exact .inr ⟨e,(BB q).symm⟩
theorem mj(ar:∀a∈A,NU h A a):cu (Ll K h A):=λb=>by
 cases q:Ll K h A b with
 |none=>exact .inl U
 |some u=>
  obtain⟨_,vs,_,_,⟨_,e⟩|⟨_,e⟩⟩:=Xb ar q
  ·exact .inr ⟨_,_,by rw[e]⟩
  ·exact .inr ⟨_,_,by rw[e]⟩
theorem tY(ar:∀a∈A,NU h A a):Kg P w (Ll K h A) h:=λb u q=>by
 obtain⟨_,vs,h1,h2,⟨e,rfl⟩|⟨e,rfl⟩⟩:=Xb ar q
 ·exact⟨e,by rw[AA];exact h1,vs,_,NT h2,e⟩
 ·exact⟨e,by rw[AA];exact h1,vs,NT h2,_,e,U,_,U⟩
theorem Xc{c c':Value}{vs us:List Value}(e:(some {cls:=c,data:=.seq vs.toArray}:Option Obj)=some {cls:=c',data:=.seq us.toArray}):c=c'/\vs=us:=by
 have e1:=BB e;have e2:c=c':=B5 Obj.cls e1;have e3:Data.seq vs.toArray=Data.seq us.toArray:=B5 Obj.data e1;injection e3 with e4;refine⟨e2,?_⟩;have e5:=B5 Array.toList e4
 simpa using e5
theorem AA5(KX:K.In h)(ar:∀a∈A,NU h A a){a:Addr}{vs:List Value}(ha:a∈A)(e:h.get? a=some {cls:=.type "list",data:=.seq vs.toArray}):(∀u∈vs,cg A u)/\A1 K (Ll K h A) a (vs.map toV):=by
 obtain⟨us,h1,h2,h3⟩:=ar a ha;have hu:us=vs:=by
  rcases h3 with q|q
  ·rw[e]at q;exact(Xc q).2.symm
  ·rw[e]at q;exact absurd (Value.type.inj (Xc q).1) (by decide)
 subst hu;refine⟨h2,?_⟩;cases hk:K.lookup a with
 |none=>exact .inl (.inr ⟨_,by rw[Xa ha hk e,eN]⟩)
 |some o=>
  have e2:=KX a o hk;rw[e]at e2;obtain rfl:=BB e2;exact .inr ⟨_,us.toArray,_,hk,U,U,U,by rw[Ar];exact h1,by simpa using NT h2⟩
theorem AA6(KX:K.In h)(ar:∀a∈A,NU h A a){a:Addr}{vs:List Value}(ha:a∈A)(e:h.get? a=some {cls:=.type "tuple",data:=.seq vs.toArray}):(∀u∈vs,cg A u)/\OM K (Ll K h A) a (vs.map toV):=by
 obtain⟨us,h1,h2,h3⟩:=ar a ha;have hu:us=vs:=by
  rcases h3 with q|q
  ·rw[e]at q;exact absurd (Value.type.inj (Xc q).1) (by decide)
  ·rw[e]at q;exact(Xc q).2.symm
 subst hu;refine⟨h2,?_⟩;cases hk:K.lookup a with
 |none=>exact .inl (.inr ⟨_,by rw[Xa ha hk e,eO]⟩)
 |some o=>
  have e2:=KX a o hk;rw[e]at e2;obtain rfl:=BB e2;exact .inr ⟨_,us.toArray,_,hk,U,U,by rw[Ar];exact h1,by simpa using NT h2⟩
mutual
theorem wz{Pm:Params}(KX:K.In h)(ar:∀a∈A,NU h A a):∀(d:WData)(v:Value),Well Pm h v d->aQ d=true->cg A v->Dw K (Ll K h A) (toV v) d
 | .none,_,x,_,_=>by
   cases x;exact .DX
 | .bool b,_,x,_,_=>by
   cases x;exact .bl b
 | .int i,_,x,_,_=>by
   cases x;exact .int i
 | .str s,_,x,_,_=>by
   cases x;exact .str s
 | .bytes b,_,x,_,_=>by
   cases x;have z:=Dw.Yr (K:=K) (H:=Ll K h A) b.toArray;exact z
 | .list ds,_,x,p,hu=>by
   obtain⟨a,vs,rfl,ho,hall⟩:=aS x;obtain⟨h2,hs⟩:=AA5 KX ar hu ho;exact .lst hs (aU KX ar ds _ hall p h2)
 | .tuple ds,_,x,p,hu=>by
   obtain⟨a,vs,rfl,ho,hall⟩:=Yt x;obtain⟨h2,hs⟩:=AA6 KX ar hu ho;exact .tup hs (aU KX ar ds _ hall p h2)
 | .float _,_,_,p,_=>Bool.noConfusion (show false=true from p)
 | .dict _,_,_,p,_=>Bool.noConfusion (show false=true from p)
 | .bytearray _,_,_,p,_=>Bool.noConfusion (show false=true from p)
 | .set _,_,_,p,_=>Bool.noConfusion (show false=true from p)
 | .frozenset _,_,_,p,_=>Bool.noConfusion (show false=true from p)
 | .obj _ _,_,_,p,_=>Bool.noConfusion (show false=true from p)
theorem aU{Pm:Params}(KX:K.In h)(ar:∀a∈A,NU h A a):∀(ds:List WData)(vs:List Value),WellAll Pm h vs ds->UY ds=true->(∀u∈vs,cg A u)->NS K (Ll K h A) (vs.map toV) ds
 | [],_,x,_,_=>by
   cases x;exact .nil
 |d::ds,_,x,p,hu=>by
  obtain⟨v,vs,rfl,x1,x2⟩:=aT x;have q:aQ d=true/\UY ds=true:=RK.mp p;exact .cons (wz KX ar d v x1 q.1 (hu _ (Ac ..))) (aU KX ar ds vs x2 q.2 λu m=>hu u (AV _ m))
end
end
theorem mw{P:Program}{w:World}{K:PySem.W.Frag}{mg mb:Str->Option Value}{CX:cN}{k:Nat}{fa:Addr}{fd:FuncData}{ps:List Str}{sp:Sp}{s₁:Shared}{vals:List Value}{ds:List WData}{R:PySem.W.WRecords}{cl:Str->Option Addr}{d0:WData}
 (KX:K.In s₁.heap) (hns:s₁.heap.Ns mainGlobals mg) (hb:s₁.heap.Ns builtinsNs mb) (hbb:∀x:Str,x≠"__name__"->mb x=bootBuiltins x) (hlim:s₁.heap.NoLimit) (hg:s₁.gens=#[])
 (hwl:WellAll w.params s₁.heap vals ds) (hpl:UY ds=true) (hwt:∀d∈ds,d.weight<=1048576) (hr:Er k callerA)
 (F:∀base:Heap,K.In base->base.Ns mainGlobals mg->HU P w K mg base CX k fa fd ps sp) (hbind:∀(s:Shared)(us:List Value),us.length=ps.length->BindsTo s fd ⟨us,[]⟩ (ps.zip us)) (hlen:ds.length=ps.length)
 (j6:∀(H:Hp)(xs:List V),cu H->NS K H xs ds->sp xs H (λv H'=>Dw K H' v d0) λ_ _ _=>False)
 (w9:∀H e s',CX [] H s₁ (λ_ _ _=>False) e s'->False):
 codeAny (model P w) callerA (.call (.ref fa) ⟨vals,[]⟩) (λr s'=>∃u as,r=.ok (.ret u)/\ReadsW R cl s'.heap u d0 as/\OldK s₁.heap s'.heap/\s'.os=s₁.os/\AllBare s'.gens) s₁:=by
 obtain⟨A,ho,ar⟩:=UZ ds vals hwl hpl hwt;have hO:cu (Ll K s₁.heap A):=mj ar;have hok:Kg P w (Ll K s₁.heap A) s₁.heap:=tY ar;have hS:=aU KX ar ds vals hwl hpl ho;have hV:=NT ho;have hK:∀b u,Ll K s₁.heap A b=some u->K.lookup b=none:=λb u q=>(Xb ar q).1;have ud:∀{b:Addr}{o:Obj}{es:Array DictEntry}{ep:Nat},s₁.heap.get? b=some o->o.data=.dict es ep->Ll K s₁.heap A b=none:=λ{b o es ep} e d=>by
  cases q:Ll K s₁.heap A b with
  |none=>rfl
  |some u=>
   obtain⟨_,vs,_,_,⟨e2,_⟩|⟨e2,_⟩⟩:=Xb ar q
   ·rw[e2]at e;cases e;have d':Data.seq vs.toArray _=Data.dict es ep:=d;cases d'
   ·rw[e2]at e;cases e;have d':Data.seq vs.toArray _=Data.dict es ep:=d;cases d'
 generalize Ll K s₁.heap A=H at hO hok hS hK ud;have kT:∀{b:Addr}{o:Obj},s₁.heap.get? b=some o->H b=none->(ZJ s₁.heap H).get? b=some o:=λe n=>qK e n;have yo:∀{b:Addr}{m:Str->Option Value},s₁.heap.Ns b m->(ZJ s₁.heap H).Ns b m:=λ{b m}⟨o,es,ep,e,d,r⟩=>⟨o,es,ep,kT e (ud e d),d,r⟩;have nK:∀b o,K.lookup b=some o->H b=none:=λb o e=>by
  cases q:H b with
  |none=>rfl
  |some u=>
   rw[hK b u q]at e;cases e
 have hKb:K.In (ZJ s₁.heap H):=λb o e=>kT (KX b o e) (nK b o e);have hM:Mod K mg (ZJ s₁.heap H):=⟨hKb,yo hns,⟨mb,yo hb,hbb⟩,let ⟨mc,h1,h2⟩:=hlim;⟨mc,yo h1,h2⟩⟩;have e0:XT P w K mg (ZJ s₁.heap H) callerA [] s₁ H:=⟨U,hM,λb o e=>sf e,Bj (lY _ _),trivial,λb hb=>absurd (show b∈([]:List Addr)from hb) (by simp),hok,.of_eq hg⟩;have hl:vals.length=ps.length:=by rw[MV hwl];exact hlen
 refine LY ((F _ hKb (yo hns)).run callerA [] s₁ H ⟨vals,[]⟩ vals (vals.map toV) _ _ hr e0 (hbind s₁ vals hl) hV (j6 H _ hO hS)) λr s' x=>?_;cases r with
 |error e=>exact(w9 H e s' x).elim
 |ok fl=>
  cases fl with
  |next=>exact False.elim x
  |brk=>exact False.elim x
  |cont=>exact False.elim x
  |ret u=>
   obtain⟨v,H',os,bare,un,yp,r',q⟩:=x;have kept:∀b o,s₁.heap.get? b=some o->s'.heap.get? b=some o:=λb o e=>by
    cases q2:H b with
    |none=>exact un.keep b o e q2 (by intro z;exact absurd (show b∈([]:List Addr)from z) (by simp)) (by simp)
    |some u2=>
     rcases hO b with z|⟨ob,u3,z⟩
     ·rw[q2]at z;cases z
     ·have z2:=un.ZI b ob _ z;obtain⟨e1,_⟩:=hok b _ z;obtain⟨e2,_⟩:=yp b _ z2;rw[e]at e1;cases e1;exact e2
   have KX':K.In s'.heap:=λb o e=>kept b o (KX b o e);obtain⟨as,hrd⟩:=Dw.reads (R:=R) (cl:=cl) yp KX' d0 v u q r';exact⟨u,as,U,hrd,OldK.of_keep kept,os,bare⟩
theorem ZM{ds:List WData}(h:WData.layableAll ds=true):∀d∈ds,d.weight<=1048576:=λd hd=>
 (PySem.W.layableW_iff.mp (A0.mp h d hd)).2.2
theorem Yu:∀(cs:List Codec)(a:Codec.denoteAll cs),(Codec.encAll cs a).length=cs.length
 | [],_=>rfl
 |c::cs,a=>by
  show(Codec.encAll cs a.2).length+1=cs.length+1;rw[Yu cs a.2]
theorem m8{r:OpenSpec}{k:Nat}{q:Program}{loose:List Str}{XP:(Str->Option Value)->Heap->Prop}{YP:World->Heap->Prop}{d:DefRec}{K:Params->PySem.W.Frag}{CX:World->cN}{ps:List Str}{sp:World->Sp}
 (oR:r.wellSaid=true) (hdf:d.params.defaults=[]) (hlen:r.args.length=ps.length) (hr:Er k callerA)
 (hY:∀(w:World)(h:Heap),YP w h->(K w.params).In h)
 (F:∀(w:World)(mg:Str->Option Value)(fa:Addr)(h:Heap),YP w h->(K w.params).In h->h.Ns mainGlobals mg->mg d.name=some (.ref fa)->
   ∃fd:FuncData,(∀(s:Shared)(us:List Value),us.length=ps.length->BindsTo s fd ⟨us,[]⟩ (ps.zip us))/\
    ∀base:Heap,(K w.params).In base->base.Ns mainGlobals mg->HU r.prog w (K w.params) mg base (CX w) k fa fd ps (sp w))
 (j6:∀(w:World)(H:Hp)(xs:List V)(a:Codec.denoteAll r.args),cu H->Codec.withinAll r.args a=true->Codec.app r.args r.asked a=true->NS (K w.params) H xs (Codec.encAll r.args a)->
   sp w xs H (λv H'=>Dw (K w.params) H' v (r.ret.enc (Codec.app r.args r.f a))) λ_ _ _=>False)
 (w9:∀(w:World)(H:Hp)(s:Shared)(e:Value)(s':Shared),CX w [] H s (λ_ _ _=>False) e s'->False):
 PySem.W.WalkOS q loose XP YP r d [] (λf vs=>PySem.call f vs):=by
 intro w U0 s₁ mg mb G Y fa o pm cd doc dV kV ho hd hcd hD hmg hg args vals as hpre hlay hrd hwl hlo;obtain⟨a,e1,e2⟩:=PySem.W.os_pre_some hpre;obtain⟨e3,hwi⟩:=Codec.encAll_of_decAll r.args args a e1;subst e3;have KX:=hY w _ Y;obtain⟨fd,hb,hF⟩:=F w mg fa _ Y KX G.T.g hmg;refine PySem.W.enter_call (LY (mw (R:=[]) (cl:=classAt U0.heap) (d0:=r.ret.enc (Codec.app r.args r.f a)) KX G.T.g G.T.b G.T.builtins G.T.nolimit hg hwl (aR _ _) (ZM hlay) hr hF hb (by rw[Yu];exact hlen)
  (λH xs hO hS=>j6 w H xs a hO hwi e2 hS) λH e s'=>w9 w H s₁ e s') λr' s' hq=>?_)
 obtain⟨u,as',rfl,h1,h2,h3,h4⟩:=hq;exact⟨.inl ⟨u,_,as',U,λ_=>rfl,h1,(OpenSpec.post_iff oR hwi _ _).mpr U,λz=>Bool.noConfusion (show false=true from z)⟩,h2,h3,h4⟩
theorem jI{r:OpenSpec}{k:Nat}{q:Program}{loose:List Str}{XP:(Str->Option Value)->Heap->Prop}{YP:World->Heap->Prop}{d:DefRec}{K:Params->PySem.W.Frag}{CX:cN}{ps:List Str}{sp:PySem.W.Frag->Sp}
 (oR:r.wellSaid=true) (hdf:d.params.defaults=[]) (hlen:r.args.length=ps.length) (hr:Er k callerA)
 (hY:∀(w:World)(h:Heap),YP w h->(K w.params).In h)
 (F:∀(w:World)(mg:Str->Option Value)(fa:Addr)(h:Heap),YP w h->(K w.params).In h->h.Ns mainGlobals mg->mg d.name=some (.ref fa)->
   ∃fd:FuncData,(∀(s:Shared)(us:List Value),us.length=ps.length->BindsTo s fd ⟨us,[]⟩ (ps.zip us))/\
    ∀base:Heap,(K w.params).In base->base.Ns mainGlobals mg->HU r.prog w (K w.params) mg base CX k fa fd ps (sp (K w.params)))
 (j6:∀(K:PySem.W.Frag)(H:Hp)(xs:List V)(a:Codec.denoteAll r.args),cu H->Codec.withinAll r.args a=true->Codec.app r.args r.asked a=true->NS K H xs (Codec.encAll r.args a)->
   sp K xs H (λv H'=>Dw K H' v (r.ret.enc (Codec.app r.args r.f a))) λ_ _ _=>False)
 (w9:∀(H:Hp)(s:Shared)(e:Value)(s':Shared),CX [] H s (λ_ _ _=>False) e s'->False):
 PySem.W.WalkOS q loose XP YP r d [] (λf vs=>PySem.call f vs):=
 m8 (K:=K) (CX:=λ_=>CX) (sp:=λw=>sp (K w.params)) oR hdf hlen hr hY F (λw H xs a h1 h2 h3 h4=>j6 (K w.params) H xs a h1 h2 h3 h4) λ_ H s e s'=>w9 H s e s'
end L2
end
namespace So
open PySem PySem.Spec PyProof.Rows L2
def top(i:Nat):Stmt:=PySem.Challenge.pw_settingoff_s01_answers.main.body.getD i (.Pass ⟨0,0,0,0⟩)
abbrev YE:Stmt:=top 15
abbrev SV:Stmt:=top 16
abbrev bf:Stmt:=top 17
abbrev Vv:Stmt:=top 18
abbrev SW:Stmt:=top 19
abbrev bg:Stmt:=top 20
abbrev Mz:Stmt:=top 21
abbrev SX:Stmt:=top 23
abbrev bh:Stmt:=top 24
abbrev Jx:Stmt:=top 25
abbrev YF:Stmt:=top 26
abbrev JX:Stmt:=top 27
abbrev Iw:Stmt:=top 28
abbrev JY:Stmt:=top 29
abbrev M0:Stmt:=top 30
abbrev iI:Stmt:=top 31
abbrev YG:Stmt:=top 32
abbrev iJ:Stmt:=top 33
abbrev YH:Stmt:=top 34
abbrev OO:Stmt:=top 35
abbrev YI:Stmt:=top 36
abbrev Kn:Stmt:=top 37
abbrev YJ:Stmt:=top 38
abbrev bq:Stmt:=top 39
abbrev oS:Stmt:=top 40
abbrev SY:Stmt:=top 42
abbrev iK:Stmt:=top 43
abbrev Iz:Stmt:=top 49
abbrev Jy:Stmt:=top 50
abbrev OP:Stmt:=top 51
abbrev P9:Stmt:=top 52
abbrev Ko:Stmt:=top 53
abbrev Lm:Stmt:=top 54
abbrev Jz:Stmt:=top 57
abbrev YK:Stmt:=top 60
abbrev P_:Stmt:=top 61
abbrev br:Stmt:=top 62
abbrev oU:Stmt:=top 63
abbrev OQ:Stmt:=top 64
abbrev OR:Stmt:=top 65
abbrev bu:Stmt:=top 66
abbrev Vw:Stmt:=top 68
abbrev Sa:Stmt:=top 69
abbrev J0:Stmt:=top 70
abbrev I0:Stmt:=top 71
abbrev I_:Stmt:=top 72
abbrev IJ:Stmt:=top 73
abbrev M1:Stmt:=top 74
abbrev M3:Stmt:=top 75
abbrev Kp:Stmt:=top 76
abbrev M4:Stmt:=top 77
abbrev M5:Stmt:=top 78
abbrev OS:Stmt:=top 79
abbrev s_load:Stmt:=top 80
abbrev Sb:Stmt:=top 82
abbrev Sd:Stmt:=top 83
abbrev YL:Stmt:=top 84
abbrev Kq:Stmt:=top 86
abbrev OT:Stmt:=top 87
abbrev OU:Stmt:=top 88
abbrev OV:Stmt:=top 89
abbrev QA:Stmt:=top 90
abbrev M6:Stmt:=top 91
abbrev OW:Stmt:=top 92
abbrev Kr:Stmt:=top 93
abbrev Se:Stmt:=top 94
abbrev Sf:Stmt:=top 95
abbrev M7:Stmt:=top 96
abbrev OX:Stmt:=top 98
abbrev Sg:Stmt:=top 99
abbrev oV:Stmt:=top 100
abbrev iL:Stmt:=top 101
abbrev YM:Stmt:=top 103
abbrev YN:Stmt:=top 104
abbrev Sh:Stmt:=top 105
abbrev Vx:Stmt:=top 106
abbrev QB:Stmt:=top 107
abbrev Vy:Stmt:=top 108
abbrev Vz:Stmt:=top 109
abbrev QC:Stmt:=top 110
abbrev OY:Stmt:=top 111
abbrev Si:Stmt:=top 112
abbrev YO:Stmt:=top 113
abbrev QD:Stmt:=top 114
abbrev M8:Stmt:=top 115
abbrev V0:Stmt:=top 116
abbrev Sj:Stmt:=top 117
abbrev M9:Stmt:=top 118
abbrev Sk:Stmt:=top 119
abbrev Sl:Stmt:=top 120
abbrev V1:Stmt:=top 121
abbrev Sm:Stmt:=top 122
abbrev Sn:Stmt:=top 123
abbrev V2:Stmt:=top 124
abbrev Sq:Stmt:=top 125
abbrev Ss:Stmt:=top 126
abbrev M_:Stmt:=top 127
abbrev QE:Stmt:=top 128
abbrev YQ:Stmt:=top 129
abbrev V3:Stmt:=top 130
abbrev YR:Stmt:=top 132
abbrev OZ:Stmt:=top 133
abbrev V4:Stmt:=top 134
abbrev Ln:Stmt:=inClass (top 10) 0
abbrev Oa:Stmt:=inClass (top 11) 0
abbrev Oc:Stmt:=inClass (top 12) 0
abbrev NB:Stmt:=inClass (top 13) 0
abbrev Od:Stmt:=inClass (top 14) 0
abbrev Su:Stmt:=inClass (top 58) 0
structure Df(K:PySem.W.Frag)(mg:Str->Option Value)(x:Str)(st:Stmt)(ps:List Str) where
 f:Addr
 fd:FuncData
 fn:sI K x x st f fd
 mg:mg x=some (.ref f)
 bi:Binds K fd ps []
structure Kl(K:PySem.W.Frag)(mg:Str->Option Value)(x q:Str)(st:Stmt)(ps fs:List Str)(C f:Addr)(fd:FuncData):Prop where
 cl:pF K C
 mak:Mk K C f
 fn:sI K "__init__" q st f fd
 mg:mg x=some (.ref C)
 bi:Binds K fd ps []
 no:∀a∈fs,Jo K C a
theorem Cb{N P:List Str}{sc:Scope}(a:sc.kind=.function:=by rfl)(b:sc.isCoroutine=false:=by rfl)(c:sc.isGenerator=false:=by rfl)(d:N.Nodup:=by decide +kernel)(e:N.take P.length=P:=by rfl)(f:∀x∈P,sc.names.lookup x=some .local\/sc.names.lookup x=some .cell:=by decide +kernel)(g:∀y∈sc.names,y.2≠.free:=by decide +kernel):Ao N P sc:=⟨a,b,c,d,e,f,g⟩
section
variable{P:Program}{w:World}{K:PySem.W.Frag}{mg:Str->Option Value}{base:Heap}{X:Cx}{x q:Str}{st:Stmt}{N ps fs:List Str}{f C:Addr}{fd:FuncData}{sp:Sp}{j k:Nat}{e:Expr}{es:List Expr}{te:TE}{t:TA}{p pos:Pos}
abbrev Ok(P:Program)(w:World){K:PySem.W.Frag}{mg:Str->Option Value}(base:Heap){x:Str}{st:Stmt}{ps:List Str}(d:Df K mg x st ps)(k:Nat)(sp:Sp):Prop:=HU P w K mg base T5 k d.f d.fd ps sp
theorem Df.go(d:Df K mg x st ps)(S:Ao N ps (Ad st))
 (hb:∀(cdv:Value)(A:Around)(outer:List Env)(s:Shared)(H:Hp)(vs:List V)(Q:VK)(E:XK),Er k (A.deeper (envOfC x (Ad st) s.heap.objs.size d.f cdv))->sp vs H Q E->sizeLine=16777216->
   ∃t,Z8 (dX T5 P w K mg base N x (Ad st) d.f cdv A outer s H E).v_ (IC st) t/\t {nx:=λ_ H'=>Q .DX H',rt:=Q} (start N vs) H)
 (len:∀vs H Q E,sp vs H Q E->vs.length=ps.length:=by intro _ _ _ _ h;cases h;subst_vars;rfl):HU P w K mg base T5 (k+1) d.f d.fd ps sp:=d.fn.ok S len λa b c d e f g h i j=>hb a b c d e f g h i j D7
theorem Bu{d:Df X.K X.mg x st ps}(F:HU X.prog X.w X.K X.mg X.base T5 k d.f d.fd ps sp)(hr:Er j X.A)(ha:PA X (e::es) t)(hj:k<=j:=by decide)(hg:Gl X x:=by exact U)(hdb:(x==("__debug__":Str))=false:=by decide)
 (he:starEach (e::es) X.env=(false,eval e X.env)::starEach es X.env:=by rfl) (hpl:(backTo pos (starEach es X.env)).any (·.1)=false:=by rfl):PE X (.Call (.Name x p) (e::es) [] pos) (LA sp [] E0 t):=
 tF F (hr.mono hj) hg d.mg d.fn.kp d.bi .nil cV ha hdb he hpl
theorem Wx(d:Kl X.K X.mg x q st ps fs C f fd)(F:HU X.prog X.w X.K X.mg X.base T5 k f fd ps sp)(hr:Er j X.A)(ha:PA X (e::es) t)(hj:k+1<=j:=by decide)(hg:Gl X x:=by exact U)(hdb:(x==("__debug__":Str))=false:=by decide)
 (he:starEach (e::es) X.env=(false,eval e X.env)::starEach es X.env:=by rfl) (hpl:(backTo pos (starEach es X.env)).any (·.1)=false:=by rfl):PE X (.Call (.Name x p) (e::es) [] pos) (Pp C sp [] E0 t):=
 tG d.mak F (hr.mono hj) hg d.mg d.bi .nil cV ha hdb he hpl
theorem DJ{sc:Scope}{pos':Pos}(S:Ao X.N ps sc)(i:Nat)(he:PE X e te)(hi:X.N[i]?=some x:=by exact U)(hx:Loc X.env.scope x:=by exact Or.inl U)(hs:swapsWith e (some (.Name x pos')) pos.line X.env=pure false:=by rfl)
 (hf:X.fn x=true\/X.env.scope.names.lookup x=some .local:=by first|exact .inl rfl|exact .inr rfl|assumption):PS X (.Assign [.Name x pos'] e pos) (rX te (KU i)):=pA S.nd hi hx he hs hf
theorem JI(hm:X.mg "len"=none)(he:PE X e te)(hg:Gl X "len":=by exact U)(h1:starEach [e] X.env=(false,eval e X.env)::starEach [] X.env:=by rfl)(h2:(backTo pos (starEach [] X.env)).any (·.1)=false:=by rfl):
 PE X (.Call (.Name "len" p) [e] [] pos) (wF (rZ X.K) (CM te C_)):=NQ cQ hg hm PySem.boot_len (AB he AF h1) (by decide) (by decide) h1 h2
theorem Lg{i:Int}{t:Tok}(hm:X.mg x=some (.int i t))(hg:Gl X x:=by exact U)(hd:(x==("__debug__":Str))=false:=by decide):PE X (.Name x pos) (tC (.int i)):=KZ hg hm ⟨_,U⟩ hd
end
def Cw(K:PySem.W.Frag)(a:Addr)(xs:List V):Prop:=∃(o:Obj)(its:Array Value)(n:Nat),K.lookup a=some o/\o.cls=.type "tuple"/\o.data=.seq its n/\its.size<=sizeLine/\Vals xs its.toList
set_option genInjectivity false in
set_option genSizeOf false in
structure All(w:World)(K:PySem.W.Frag)(mg:Str->Option Value) where
 Lp:Tok
 Lq:mg "OUT_OF_RANGE"=some (.int (-1) Lp)
 NC:Tok
 IM:mg "WRONG_LISTS"=some (.int (-2) NC)
 Ks:Tok
 E9:mg "WAITS_ALREADY"=some (.int (-3) Ks)
 Ku:Tok
 GN:mg "NEVER_OR_SAME"=some (.int (-4) Ku)
 V5:Tok
 HV:mg "NO_ROOM"=some (.int (-5) V5)
 Sv:Tok
 Sw:mg "NO_ENTRY"=some (.int (-6) Sv)
 ND:Tok
 J8:mg "NOT_WAITING"=some (.int (-10) ND)
 iM:Tok
 L_:mg "ROOM"=some (.int (1000) iM)
 YS:Tok
 PZ:mg "PLACES"=some (.int (64) YS)
 bx:Tok
 bz:mg "SCALE"=some (.int (1000000000000000000000000000000000000) bx)
 oW:mg "abs"=none
 KQ:mg "enumerate"=none
 Cd:mg "len"=none
 U6:mg "list"=none
 oX:mg "max"=none
 MA:mg "range"=none
 Lh:mg "reversed"=none
 oY:mg "set"=none
 Ua:mg "sorted"=none
 ie:mg "sum"=none
 oZ:mg "zip"=none
 NV:Df K mg "ids_of" YE ["waiters"]
 N6:Df K mg "place_of" SV ["rooms","x"]
 Xd:Df K mg "waits" bf ["rooms","x"]
 Qj:Df K mg "without" Vv ["waiters","ids"]
 N7:Df K mg "told_ids" SW ["ids"]
 Xe:Df K mg "leave" bg ["rooms","x"]
 J9:Df K mg "clear_rooms" Mz ["rooms"]
 Gw:Df K mg "worth_of" SX ["entry"]
 Xf:Df K mg "holds" bh ["entry","cond","key"]
 Hr:Df K mg "first_at_least" Jx ["highs","bound"]
 Ub:Df K mg "height" YF ["entry","order"]
 Gj:Df K mg "greatest_so_far" JX ["chain","order"]
 GB:Df K mg "placed_by_height" Iw ["chain","arrivals","order"]
 Gk:Df K mg "placed_by_order" JY ["chain","arrivals","order"]
 J_:Df K mg "met_entries" M0 ["chain","back","n","cond","key"]
 aV:Df K mg "link" iI ["rooms","c","x","order","key"]
 Uc:Df K mg "unlink" YG ["rooms","c","back","n","cond","key"]
 aW:Df K mg "move" iJ ["rooms","c","d","met","order"]
 Ud:Df K mg "rising" YH ["chain"]
 LB:Df K mg "sort_chain" OO ["rooms","c","falling"]
 Ue:Df K mg "rotate" YI ["rooms","c","n"]
 IV:Df K mg "reverse_chain" Kn ["rooms","c"]
 Ug:Df K mg "merged" YJ ["ours","theirs"]
 Xg:Df K mg "merge" bq ["rooms","c","d"]
 ig:Df K mg "cut" oS ["rooms","c","d","n"]
 N8:Df K mg "partners" SY ["callers","side","key"]
 aX:Df K mg "pair" iK ["rooms","d","x","side","key"]
 GC:Df K mg "how_many_numbers" Iz ["place"]
 Hs:Df K mg "how_many_lists" Jy ["place"]
 LC:Df K mg "row_length" OP ["kind"]
 MW:Df K mg "in_ranges" P9 ["names","numbers"]
 IW:Df K mg "call_in_range" Ko ["place","numbers"]
 JQ:Df K mg "row_in_range" Lm ["kind","row"]
 Ht:Df K mg "common_divisor" Jz ["top","bottom"]
 Uh:Df K mg "stands" YK ["word","mask","value"]
 MX:Df K mg "can_stand" P_ ["mask","value"]
 Xh:Df K mg "could" br ["rooms","word"]
 ir:Df K mg "put" oU ["rooms","word"]
 LD:Df K mg "switch_bit" OQ ["k"]
 LF:Df K mg "set_switch" OR ["rooms","k","how"]
 Xi:Df K mg "watch" bu ["rooms","x","mask","value"]
 Qk:Df K mg "rows_of" Vw ["numbers","length"]
 N9:Df K mg "parts_of" Sa ["numbers","kind"]
 Hu:Df K mg "watchers_right" J0 ["word","rows"]
 GD:Df K mg "keyed_rows_right" I0 ["kind","rows"]
 GF:Df K mg "one_for_each_key" I_ ["rows"]
 Fj:Df K mg "groups_incomplete" IJ ["rows"]
 KA:Df K mg "parts_right" M1 ["kind","parts"]
 KC:Df K mg "no_id_twice" M3 ["watcher_rows","parts"]
 IX:Df K mg "fill_watchers" Kp ["rooms","rows"]
 KD:Df K mg "fill_chains" M4 ["rooms","parts"]
 KG:Df K mg "fill_points" M5 ["rooms","parts"]
 LG:Df K mg "fill_doors" OS ["rooms","parts"]
 aY:Df K mg "load" s_load ["rooms","word","lists"]
 N_:Df K mg "group_of" Sb ["guests","key"]
 OA:Df K mg "dissolve" Sd ["rooms","m","key"]
 Ui:Df K mg "arrive" YL ["rooms","m","x","n","key"]
 IY:Df K mg "watchers_told" Kq ["watchers"]
 LH:Df K mg "entry_told" OT ["entry"]
 LI:Df K mg "chain_told" OU ["entries"]
 LJ:Df K mg "point_told" OV ["guests"]
 MY:Df K mg "door_told" QA ["callers"]
 KH:Df K mg "with_length" M6 ["numbers"]
 LK:Df K mg "parts_told" OW ["tellings"]
 IZ:Df K mg "switches_told" Kr ["rooms"]
 OB:Df K mg "all_told" Se ["rooms"]
 OC:Df K mg "how_many" Sf ["places"]
 KI:Df K mg "counts_told" M7 ["rooms"]
 LL:Df K mg "count_held" OX ["rooms","c","cond","key"]
 OD:Df K mg "disorder" Sg ["rooms","c"]
 iu:Df K mg "kth" oV ["rooms","c","k"]
 aZ:Df K mg "rank" iL ["rooms","x"]
 Gb:Df K mg "do_put" YM ["rooms","numbers"]
 Gd:Df K mg "do_set" YN ["rooms","numbers"]
 Ec:Df K mg "do_watch" Sh ["rooms","numbers"]
 FW:Df K mg "do_link" Vx ["rooms","numbers"]
 Dz:Df K mg "do_unlink" QB ["rooms","numbers"]
 FY:Df K mg "do_move" Vy ["rooms","numbers"]
 FZ:Df K mg "do_sort" Vz ["rooms","numbers"]
 D0:Df K mg "do_rotate" QC ["rooms","numbers"]
 DY:Df K mg "do_reverse" OY ["rooms","numbers"]
 Ed:Df K mg "do_merge" Si ["rooms","numbers"]
 Ge:Df K mg "do_cut" YO ["rooms","numbers"]
 D3:Df K mg "do_arrive" QD ["rooms","numbers"]
 C5:Df K mg "do_dissolve" M8 ["rooms","numbers"]
 Fc:Df K mg "do_pair" V0 ["rooms","numbers"]
 Ef:Df K mg "do_leave" Sj ["rooms","numbers"]
 C7:Df K mg "do_switches" M9 ["rooms","numbers"]
 Eg:Df K mg "do_chain" Sk ["rooms","numbers"]
 Eh:Df K mg "do_point" Sl ["rooms","numbers"]
 Fd:Df K mg "do_door" V1 ["rooms","numbers"]
 Ei:Df K mg "do_place" Sm ["rooms","numbers"]
 Ej:Df K mg "do_count" Sn ["rooms","numbers"]
 Fe:Df K mg "do_told" V2 ["rooms","numbers"]
 Ek:Df K mg "do_clear" Sq ["rooms","numbers"]
 El:Df K mg "do_could" Ss ["rooms","numbers"]
 C9:Df K mg "do_disorder" M_ ["rooms","numbers"]
 D5:Df K mg "do_counts" QE ["rooms","numbers"]
 Gf:Df K mg "do_kth" YQ ["rooms","numbers"]
 Ff:Df K mg "do_rank" V3 ["rooms","numbers"]
 Uj:Df K mg "answer" YR ["rooms","place","numbers","lists"]
 LM:Df K mg "lists_from" OZ ["calls","at","many"]
 HW:Df K mg "answers" V4 ["calls"]
 GG:Addr
 OE:Addr
 MZ:FuncData
 Dm:Kl K mg "Watcher" "Watcher.__init__" Ln ["self","who","mask","value"] ["who","mask","value"] GG OE MZ
 JA:Addr
 Uk:Addr
 Ql:FuncData
 GH:Kl K mg "Entry" "Entry.__init__" Oa ["self","who","key"] ["who","key"] JA Uk Ql
 JB:Addr
 Ul:Addr
 Qm:FuncData
 ES:Kl K mg "Guest" "Guest.__init__" Oc ["self","who","key","need"] ["who","key","need"] JB Ul Qm
 Gg:Addr
 Qn:Addr
 OF:FuncData
 DE:Kl K mg "Caller" "Caller.__init__" NB ["self","who","key","side"] ["who","key","side"] Gg Qn OF
 Bw:Addr
 Um:Addr
 Qo:FuncData
 BG:Kl K mg "Rooms" "Rooms.__init__" Od ["self"] ["word","watchers","chains","points","doors"] Bw Um Qo
 B0:Addr
 af:Addr
 Xj:FuncData
 Ck:Kl K mg "Key" "Key.__init__" Su ["self","top","bottom"] ["top","bottom","worth"] B0 af Xj
 F9:Addr
 Uo:mg "RANGES"=some (.ref F9)
 Gx:Addr
 Gy:Addr
 Gz:Addr
 G0:Addr
 G1:Addr
 G2:Addr
 G3:Addr
 G4:Addr
 G5:Addr
 G6:Addr
 Fz:Addr
 F0:Addr
 F3:Addr
 F4:Addr
 F5:Addr
 eS:(F9==sysModules)=false
 Dq:II w K F9 [(.inr "word",.ref Gx),(.inr "switch",.ref Gy),(.inr "how",.ref Gz),(.inr "number",.ref G0),(.inr "who",.ref G1),(.inr "order",.ref G2),(.inr "cond",.ref G3),(.inr "flag",.ref G4),(.inr "many",.ref G5),(.inr "kept",.ref G6),(.inr "before",.ref Fz),(.inr "need",.ref F0),(.inr "turns",.ref F3),(.inr "top",.ref F4),(.inr "bottom",.ref F5)]
 Sx:Cw K Gx [.int (0),.int (576460752303423487)]
 Sy:Cw K Gy [.int (0),.int (58)]
 Sz:Cw K Gz [.int (0),.int (2)]
 S0:Cw K G0 [.int (0),.int (63)]
 S8:Cw K G1 [.int (1),.int (1000000000)]
 S9:Cw K G2 [.int (0),.int (5)]
 S_:Cw K G3 [.int (0),.int (6)]
 TF:Cw K G4 [.int (0),.int (1)]
 TH:Cw K G5 [.int (1),.int (1000)]
 TJ:Cw K G6 [.int (0),.int (1000)]
 QF:Cw K Fz [.int (0),.int (999)]
 QG:Cw K F0 [.int (2),.int (1000)]
 QH:Cw K F3 [.int (0),.int (1000000000)]
 QI:Cw K F4 [.int (-1000000000000000000),.int (1000000000000000000)]
 QJ:Cw K F5 [.int (1),.int (1000000000000000000)]
 ID:Addr
 Xk:mg "FORMS"=some (.ref ID)
 Ia:Addr
 Ib:Addr
 Ic:Addr
 Ie:Addr
 Ig:Addr
 Ih:Addr
 Ii:Addr
 Ij:Addr
 Ik:Addr
 Il:Addr
 G7:Addr
 G8:Addr
 G9:Addr
 G_:Addr
 HA:Addr
 HB:Addr
 HC:Addr
 HD:Addr
 HE:Addr
 HF:Addr
 HG:Addr
 HH:Addr
 HJ:Addr
 HK:Addr
 HL:Addr
 HM:Addr
 HN:Addr
 HP:Addr
 HQ:Addr
 kU:(ID==sysModules)=false
 CQ:II w K ID [(.inl 0,.ref Ia),(.inl 1,.ref Ib),(.inl 2,.ref Ic),(.inl 3,.ref Ie),(.inl 4,.ref Ig),(.inl 5,.ref Ih),(.inl 6,.ref Ii),(.inl 7,.ref Ij),(.inl 8,.ref Ik),(.inl 9,.ref Il),(.inl 10,.ref G7),(.inl 11,.ref G8),(.inl 12,.ref G9),(.inl 13,.ref G_),(.inl 14,.ref HA),(.inl 15,.ref HB),(.inl 16,.ref HC),(.inl 17,.ref HD),(.inl 18,.ref HE),(.inl 19,.ref HF),(.inl 20,.ref HG),(.inl 21,.ref HH),(.inl 22,.ref HJ),(.inl 23,.ref HK),(.inl 24,.ref HL),(.inl 25,.ref HM),(.inl 26,.ref HN),(.inl 27,.ref HP),(.inl 28,.ref HQ)]
 V6:Cw K Ia [.str "word"]
 V7:Cw K Ib [.str "switch",.str "how"]
 V8:Cw K Ic [.str "who",.str "word",.str "word"]
 V9:Cw K Ie [.str "number",.str "who",.str "order",.str "top",.str "bottom"]
 V_:Cw K Ig [.str "number",.str "flag",.str "many",.str "cond",.str "top",.str "bottom"]
 WA:Cw K Ih [.str "number",.str "number",.str "flag",.str "many",.str "cond",.str "top",.str "bottom",.str "order"]
 WB:Cw K Ii [.str "number",.str "flag"]
 WC:Cw K Ij [.str "number",.str "turns"]
 WD:Cw K Ik [.str "number"]
 WE:Cw K Il [.str "number",.str "number"]
 TM:Cw K G7 [.str "number",.str "number",.str "kept"]
 TN:Cw K G8 [.str "number",.str "who",.str "many",.str "top",.str "bottom"]
 TQ:Cw K G9 [.str "number",.str "top",.str "bottom"]
 TR:Cw K G_ [.str "number",.str "who",.str "flag",.str "top",.str "bottom"]
 TU:Cw K HA [.str "who"]
 TV:Cw K HB []
 TX:Cw K HC [.str "number"]
 TY:Cw K HD [.str "number"]
 TZ:Cw K HE [.str "number"]
 Tc:Cw K HF [.str "who"]
 Td:Cw K HG [.str "number",.str "cond",.str "top",.str "bottom"]
 Te:Cw K HH []
 Tf:Cw K HJ [.str "word"]
 Tg:Cw K HK []
 Th:Cw K HL [.str "word"]
 Ti:Cw K HM [.str "number"]
 Tj:Cw K HN []
 Tn:Cw K HP [.str "number",.str "before"]
 To:Cw K HQ [.str "who"]
 Jf:Addr
 b7:mg "LISTS"=some (.ref Jf)
 b8:(Jf==sysModules)=false
 b9:II w K Jf [(.inl 22,.int 4)]
 Jp:Addr
 ah:mg "ROWS"=some (.ref Jp)
 Jq:Addr
 Jr:Addr
 Js:Addr
 Jt:Addr
 Ju:Addr
 pP:(Jp==sysModules)=false
 RP:II w K Jp [(.inr "watcher",.ref Jq),(.inr "entry",.ref Jr),(.inr "guest",.ref Js),(.inr "caller",.ref Jt),(.inr "part",.ref Ju)]
 YT:Cw K Jq [.str "who",.str "word",.str "word"]
 YU:Cw K Jr [.str "who",.str "top",.str "bottom"]
 YV:Cw K Js [.str "who",.str "top",.str "bottom",.str "need"]
 YW:Cw K Jt [.str "who",.str "top",.str "bottom",.str "flag"]
 YX:Cw K Ju [.str "number",.str "many"]
 JC:Addr
 b_:mg "DOERS"=some (.ref JC)
 kW:(JC==sysModules)=false
 CY:II w K JC [(.inl 0,.ref Gb.f),(.inl 1,.ref Gd.f),(.inl 2,.ref Ec.f),(.inl 3,.ref FW.f),(.inl 4,.ref Dz.f),(.inl 5,.ref FY.f),(.inl 6,.ref FZ.f),(.inl 7,.ref D0.f),(.inl 8,.ref DY.f),(.inl 9,.ref Ed.f),(.inl 10,.ref Ge.f),(.inl 11,.ref D3.f),(.inl 12,.ref C5.f),(.inl 13,.ref Fc.f),(.inl 14,.ref Ef.f),(.inl 15,.ref C7.f),(.inl 16,.ref Eg.f),(.inl 17,.ref Eh.f),(.inl 18,.ref Fd.f),(.inl 19,.ref Ei.f),(.inl 20,.ref Ej.f),(.inl 21,.ref Fe.f),(.inl 23,.ref Ek.f),(.inl 24,.ref El.f),(.inl 25,.ref C9.f),(.inl 26,.ref D5.f),(.inl 27,.ref Gf.f),(.inl 28,.ref Ff.f)]
theorem LN:Ao ["waiters","waiter"] ["waiters"] (Ad YE):=Cb
theorem Ir:Ao ["rooms","x","what","places","number","waiters","ids"] ["rooms","x"] (Ad SV):=Cb
theorem qu:Ao ["rooms","x"] ["rooms","x"] (Ad bf):=Cb
theorem Li:Ao ["waiters","ids","gone","x","waiter"] ["waiters","ids"] (Ad Vv):=Cb
theorem gB:Ao ["ids"] ["ids"] (Ad SW):=Cb
theorem Le:Ao ["rooms","x","chain","guests","callers"] ["rooms","x"] (Ad bg):=Cb
theorem Qp:Ao ["rooms","fresh"] ["rooms"] (Ad Mz):=Cb
theorem gC:Ao ["entry"] ["entry"] (Ad SX):=Cb
theorem eT:Ao ["entry","cond","key","worth"] ["entry","cond","key"] (Ad bh):=Cb
theorem EG:Ao ["highs","bound","low","high","middle"] ["highs","bound"] (Ad Jx):=Cb
theorem m_:Ao ["entry","order"] ["entry","order"] (Ad YF):=Cb
theorem Ew:Ao ["chain","order","highs","entry","own"] ["chain","order"] (Ad JX):=Cb
theorem C3:Ao ["chain","arrivals","order","placed","highs","entry","own","bound","spot"] ["chain","arrivals","order"] (Ad Iw):=Cb
theorem T6:Ao ["chain","arrivals","order"] ["chain","arrivals","order"] (Ad JY):=Cb
theorem JR:Ao ["chain","back","n","cond","key","met","entry"] ["chain","back","n","cond","key"] (Ad M0):=Cb
theorem tZ:Ao ["rooms","c","x","order","key"] ["rooms","c","x","order","key"] (Ad iI):=Cb
theorem ai:Ao ["rooms","c","back","n","cond","key","ids"] ["rooms","c","back","n","cond","key"] (Ad YG):=Cb
theorem kX:Ao ["rooms","c","d","met","order","ids"] ["rooms","c","d","met","order"] (Ad iJ):=Cb
theorem nA:Ao ["chain"] ["chain"] (Ad YH):=Cb
theorem Zr:Ao ["rooms","c","falling"] ["rooms","c","falling"] (Ad OO):=Cb
theorem WG:Ao ["rooms","c","n","chain","turns"] ["rooms","c","n"] (Ad YI):=Cb
theorem WY:Ao ["rooms","c"] ["rooms","c"] (Ad Kn):=Cb
theorem LO:Ao ["ours","theirs","result","ours_at","theirs_at"] ["ours","theirs"] (Ad YJ):=Cb
theorem qv:Ao ["rooms","c","d"] ["rooms","c","d"] (Ad bq):=Cb
theorem pQ:Ao ["rooms","c","d","n","rest"] ["rooms","c","d","n"] (Ad oS):=Cb
theorem QK:Ao ["callers","side","key","one"] ["callers","side","key"] (Ad SY):=Cb
theorem cA:Ao ["rooms","d","x","side","key","found","first"] ["rooms","d","x","side","key"] (Ad iK):=Cb
theorem RY:Ao ["place"] ["place"] (Ad Iz):=Cb
theorem VP:Ao ["place"] ["place"] (Ad Jy):=Cb
theorem Zs:Ao ["kind"] ["kind"] (Ad OP):=Cb
theorem Oe:Ao ["names","numbers","name","number"] ["names","numbers"] (Ad P9):=Cb
theorem WZ:Ao ["place","numbers"] ["place","numbers"] (Ad Ko):=Cb
theorem X7:Ao ["kind","row"] ["kind","row"] (Ad Lm):=Cb
theorem EH:Ao ["top","bottom","divisor","rest","left"] ["top","bottom"] (Ad Jz):=Cb
theorem nB:Ao ["word","mask","value"] ["word","mask","value"] (Ad YK):=Cb
theorem cz:Ao ["mask","value"] ["mask","value"] (Ad P_):=Cb
theorem YY:Ao ["rooms","word","one"] ["rooms","word"] (Ad br):=Cb
theorem pR:Ao ["rooms","word","told"] ["rooms","word"] (Ad oU):=Cb
theorem KJ:Ao ["k","bit","step"] ["k"] (Ad OQ):=Cb
theorem Rp:Ao ["rooms","k","how","bit"] ["rooms","k","how"] (Ad OR):=Cb
theorem qw:Ao ["rooms","x","mask","value"] ["rooms","x","mask","value"] (Ad bu):=Cb
theorem Tp:Ao ["numbers","length","at"] ["numbers","length"] (Ad Vw):=Cb
theorem HS:Ao ["numbers","kind","parts","before","at","start"] ["numbers","kind"] (Ad Sa):=Cb
theorem Mh:Ao ["word","rows","row"] ["word","rows"] (Ad J0):=Cb
theorem LP:Ao ["kind","rows","row"] ["kind","rows"] (Ad I0):=Cb
theorem IK:Ao ["rows","lasts","row"] ["rows"] (Ad I_):=Cb
theorem FN:Ao ["rows","sizes","row","size"] ["rows"] (Ad IJ):=Cb
theorem Lr:Ao ["kind","parts","number","rows"] ["kind","parts"] (Ad M1):=Cb
theorem Et:Ao ["watcher_rows","parts","ids","number","rows","row"] ["watcher_rows","parts"] (Ad M3):=Cb
theorem J1:Ao ["rooms","rows","row"] ["rooms","rows"] (Ad Kp):=Cb
theorem HX:Ao ["rooms","parts","number","rows","row"] ["rooms","parts"] (Ad M4):=Cb
theorem HY:Ao ["rooms","parts","number","rows","row"] ["rooms","parts"] (Ad M5):=Cb
theorem IP:Ao ["rooms","parts","number","rows","row"] ["rooms","parts"] (Ad OS):=Cb
theorem T7:Ao ["rooms","word","lists","watcher_rows","chain_parts","point_parts","door_parts"] ["rooms","word","lists"] (Ad s_load):=Cb
theorem QL:Ao ["guests","key","guest"] ["guests","key"] (Ad Sb):=Cb
theorem Wy:Ao ["rooms","m","key","ids"] ["rooms","m","key"] (Ad Sd):=Cb
theorem Qq:Ao ["rooms","m","x","n","key","group","need","ids"] ["rooms","m","x","n","key"] (Ad YL):=Cb
theorem J2:Ao ["watchers","numbers","watcher"] ["watchers"] (Ad Kq):=Cb
theorem Zt:Ao ["entry"] ["entry"] (Ad OT):=Cb
theorem NF:Ao ["entries","numbers","entry"] ["entries"] (Ad OU):=Cb
theorem NG:Ao ["guests","numbers","guest"] ["guests"] (Ad OV):=Cb
theorem Of:Ao ["callers","numbers","caller"] ["callers"] (Ad QA):=Cb
theorem ZN:Ao ["numbers"] ["numbers"] (Ad M6):=Cb
theorem KL:Ao ["tellings","numbers","number","telling"] ["tellings"] (Ad OW):=Cb
theorem Wa:Ao ["rooms"] ["rooms"] (Ad Kr):=Cb
theorem ET:Ao ["rooms","chains","points","doors","entries","guests","callers"] ["rooms"] (Ad Se):=Cb
theorem QM:Ao ["places","waiters"] ["places"] (Ad Sf):=Cb
theorem ZO:Ao ["rooms"] ["rooms"] (Ad M7):=Cb
theorem NH:Ao ["rooms","c","cond","key","entry"] ["rooms","c","cond","key"] (Ad OX):=Cb
theorem Iu:Ao ["rooms","c","pairs","worths","entry","spot"] ["rooms","c"] (Ad Sg):=Cb
theorem w_:Ao ["rooms","c","k"] ["rooms","c","k"] (Ad oV):=Cb
theorem kY:Ao ["rooms","x","found"] ["rooms","x"] (Ad iL):=Cb
theorem nE:Ao ["rooms","numbers"] ["rooms","numbers"] (Ad YM):=Cb
theorem nF:Ao ["rooms","numbers"] ["rooms","numbers"] (Ad YN):=Cb
theorem gD:Ao ["rooms","numbers"] ["rooms","numbers"] (Ad Sh):=Cb
theorem Yv:Ao ["rooms","numbers","key"] ["rooms","numbers"] (Ad Vx):=Cb
theorem U7:Ao ["rooms","numbers","key"] ["rooms","numbers"] (Ad QB):=Cb
theorem Tq:Ao ["rooms","numbers","key","met"] ["rooms","numbers"] (Ad Vy):=Cb
theorem jJ:Ao ["rooms","numbers"] ["rooms","numbers"] (Ad Vz):=Cb
theorem c_:Ao ["rooms","numbers"] ["rooms","numbers"] (Ad QC):=Cb
theorem Zu:Ao ["rooms","numbers"] ["rooms","numbers"] (Ad OY):=Cb
theorem gE:Ao ["rooms","numbers"] ["rooms","numbers"] (Ad Si):=Cb
theorem nG:Ao ["rooms","numbers"] ["rooms","numbers"] (Ad YO):=Cb
theorem U8:Ao ["rooms","numbers","key"] ["rooms","numbers"] (Ad QD):=Cb
theorem ZP:Ao ["rooms","numbers"] ["rooms","numbers"] (Ad M8):=Cb
theorem Yw:Ao ["rooms","numbers","key"] ["rooms","numbers"] (Ad V0):=Cb
theorem gF:Ao ["rooms","numbers"] ["rooms","numbers"] (Ad Sj):=Cb
theorem ZQ:Ao ["rooms","numbers"] ["rooms","numbers"] (Ad M9):=Cb
theorem gG:Ao ["rooms","numbers"] ["rooms","numbers"] (Ad Sk):=Cb
theorem gH:Ao ["rooms","numbers"] ["rooms","numbers"] (Ad Sl):=Cb
theorem jK:Ao ["rooms","numbers"] ["rooms","numbers"] (Ad V1):=Cb
theorem gI:Ao ["rooms","numbers"] ["rooms","numbers"] (Ad Sm):=Cb
theorem gJ:Ao ["rooms","numbers"] ["rooms","numbers"] (Ad Sn):=Cb
theorem jL:Ao ["rooms","numbers"] ["rooms","numbers"] (Ad V2):=Cb
theorem gK:Ao ["rooms","numbers"] ["rooms","numbers"] (Ad Sq):=Cb
theorem gM:Ao ["rooms","numbers"] ["rooms","numbers"] (Ad Ss):=Cb
theorem ZR:Ao ["rooms","numbers"] ["rooms","numbers"] (Ad M_):=Cb
theorem dB:Ao ["rooms","numbers"] ["rooms","numbers"] (Ad QE):=Cb
theorem nH:Ao ["rooms","numbers"] ["rooms","numbers"] (Ad YQ):=Cb
theorem jM:Ao ["rooms","numbers"] ["rooms","numbers"] (Ad V3):=Cb
theorem nJ:Ao ["rooms","place","numbers","lists"] ["rooms","place","numbers","lists"] (Ad YR):=Cb
theorem GV:Ao ["calls","at","many","lists","start","turn","end"] ["calls","at","many"] (Ad OZ):=Cb
theorem EC:Ao ["calls","rooms","result","at","place","start","end","lists","told","one"] ["calls"] (Ad V4):=Cb
theorem X8:Ao ["self","who","mask","value"] ["self","who","mask","value"] (Ad Ln):=Cb
theorem Zv:Ao ["self","who","key"] ["self","who","key"] (Ad Oa):=Cb
theorem Zw:Ao ["self","who","key","need"] ["self","who","key","need"] (Ad Oc):=Cb
theorem ZS:Ao ["self","who","key","side"] ["self","who","key","side"] (Ad NB):=Cb
theorem FO:Ao ["self","number"] ["self"] (Ad Od):=Cb
theorem Wz:Ao ["self","top","bottom","shared"] ["self","top","bottom"] (Ad Su):=Cb
theorem zX{K:PySem.W.Frag}{h:Heap}{mg:Str->Option Value}(X:K.In h)(G:h.Ns mainGlobals mg){x:Str}{st:Stmt}{ps:List Str}{f:Addr}{oc:Value}{od an:Option Addr}{osl:Array (Option Value)}{kV doc pm cdv ct:Value}
 (a:PySem.W.nsIn K mainGlobals x=some (some (.ref f))) (l:K.lookup f=some ⟨oc,od,.func (PySem.W.fnOf x x (Je st) (IC st) (Ad st) .none kV doc pm an cdv ct),osl⟩) (c:PySem.W.codeIn K cdv x=true) (k:PySem.W.keepIn K (.ref f)=true)
 (b:∀(kV doc pm:Value)(an:Option Addr)(cdv ct:Value)(us:List Value),us.length=ps.length->bindArgs (PySem.W.fnOf x x (Je st) (IC st) (Ad st) .none kV doc pm an cdv ct) ⟨us,[]⟩=pure (ps.zip us)):Nonempty (Df K mg x st ps):=
 ⟨f,_,U5 l c k,PySem.W.mg_of X G a,(U5 l c k).binds b⟩
theorem vU{f:FuncData}{a0:Str}{us:List Value}(hl:us.length=1)(h:∀x0,bindArgs f ⟨[x0],[]⟩=pure (([a0]:List Str).zip [x0])):bindArgs f ⟨us,[]⟩=pure (([a0]:List Str).zip us):=match us,hl with| [x0],_=>h x0
theorem AA7{f:FuncData}{a0 a1:Str}{us:List Value}(hl:us.length=2)(h:∀x0 x1,bindArgs f ⟨[x0,x1],[]⟩=pure (([a0,a1]:List Str).zip [x0,x1])):bindArgs f ⟨us,[]⟩=pure (([a0,a1]:List Str).zip us):=match us,hl with| [x0,x1],_=>h x0 x1
theorem yr{f:FuncData}{a0 a1 a2:Str}{us:List Value}(hl:us.length=3)(h:∀x0 x1 x2,bindArgs f ⟨[x0,x1,x2],[]⟩=pure (([a0,a1,a2]:List Str).zip [x0,x1,x2])):bindArgs f ⟨us,[]⟩=pure (([a0,a1,a2]:List Str).zip us):=match us,hl with| [x0,x1,x2],_=>h x0 x1 x2
theorem yt{f:FuncData}{a0 a1 a2 a3:Str}{us:List Value}(hl:us.length=4)(h:∀x0 x1 x2 x3,bindArgs f ⟨[x0,x1,x2,x3],[]⟩=pure (([a0,a1,a2,a3]:List Str).zip [x0,x1,x2,x3])):bindArgs f ⟨us,[]⟩=pure (([a0,a1,a2,a3]:List Str).zip us):=match us,hl with| [x0,x1,x2,x3],_=>h x0 x1 x2 x3
theorem AA8{f:FuncData}{a0 a1 a2 a3 a4:Str}{us:List Value}(hl:us.length=5)(h:∀x0 x1 x2 x3 x4,bindArgs f ⟨[x0,x1,x2,x3,x4],[]⟩=pure (([a0,a1,a2,a3,a4]:List Str).zip [x0,x1,x2,x3,x4])):bindArgs f ⟨us,[]⟩=pure (([a0,a1,a2,a3,a4]:List Str).zip us):=match us,hl with| [x0,x1,x2,x3,x4],_=>h x0 x1 x2 x3 x4
theorem AA9{f:FuncData}{a0 a1 a2 a3 a4 a5:Str}{us:List Value}(hl:us.length=6)(h:∀x0 x1 x2 x3 x4 x5,bindArgs f ⟨[x0,x1,x2,x3,x4,x5],[]⟩=pure (([a0,a1,a2,a3,a4,a5]:List Str).zip [x0,x1,x2,x3,x4,x5])):bindArgs f ⟨us,[]⟩=pure (([a0,a1,a2,a3,a4,a5]:List Str).zip us):=match us,hl with| [x0,x1,x2,x3,x4,x5],_=>h x0 x1 x2 x3 x4 x5
theorem ABA{f:FuncData}{a0 a1 a2 a3 a4 a5 a6:Str}{us:List Value}(hl:us.length=7)(h:∀x0 x1 x2 x3 x4 x5 x6,bindArgs f ⟨[x0,x1,x2,x3,x4,x5,x6],[]⟩=pure (([a0,a1,a2,a3,a4,a5,a6]:List Str).zip [x0,x1,x2,x3,x4,x5,x6])):bindArgs f ⟨us,[]⟩=pure (([a0,a1,a2,a3,a4,a5,a6]:List Str).zip us):=match us,hl with| [x0,x1,x2,x3,x4,x5,x6],_=>h x0 x1 x2 x3 x4 x5 x6
theorem ABB{f:FuncData}{a0 a1 a2 a3 a4 a5 a6 a7:Str}{us:List Value}(hl:us.length=8)(h:∀x0 x1 x2 x3 x4 x5 x6 x7,bindArgs f ⟨[x0,x1,x2,x3,x4,x5,x6,x7],[]⟩=pure (([a0,a1,a2,a3,a4,a5,a6,a7]:List Str).zip [x0,x1,x2,x3,x4,x5,x6,x7])):bindArgs f ⟨us,[]⟩=pure (([a0,a1,a2,a3,a4,a5,a6,a7]:List Str).zip us):=match us,hl with| [x0,x1,x2,x3,x4,x5,x6,x7],_=>h x0 x1 x2 x3 x4 x5 x6 x7
theorem ABC{f:FuncData}{a0 a1 a2 a3 a4 a5 a6 a7 a8:Str}{us:List Value}(hl:us.length=9)(h:∀x0 x1 x2 x3 x4 x5 x6 x7 x8,bindArgs f ⟨[x0,x1,x2,x3,x4,x5,x6,x7,x8],[]⟩=pure (([a0,a1,a2,a3,a4,a5,a6,a7,a8]:List Str).zip [x0,x1,x2,x3,x4,x5,x6,x7,x8])):bindArgs f ⟨us,[]⟩=pure (([a0,a1,a2,a3,a4,a5,a6,a7,a8]:List Str).zip us):=match us,hl with| [x0,x1,x2,x3,x4,x5,x6,x7,x8],_=>h x0 x1 x2 x3 x4 x5 x6 x7 x8
theorem xA{K:PySem.W.Frag}{h:Heap}{mg:Str->Option Value}(X:K.In h)(G:h.Ns mainGlobals mg){x:Str}{st:Stmt}{ps:List Str}{f:Addr}{oc:Value}{od an:Option Addr}{osl:Array (Option Value)}{kV doc pm cdv ct:Value}
 (a:PySem.W.nsIn K mainGlobals x=some (some (.ref f))) (l:K.lookup f=some ⟨oc,od,.func (PySem.W.fnOf x x (Je st) (IC st) (Ad st) .none kV doc pm an cdv ct),osl⟩) (c:PySem.W.codeIn K cdv x=true) (k:PySem.W.keepIn K (.ref f)=true)
 (b:∀(kV doc pm:Value)(an:Option Addr)(cdv ct:Value)(us:List Value),us.length=ps.length->bindArgs (PySem.W.fnOf x x (Je st) (IC st) (Ad st) .none kV doc pm an cdv ct) ⟨us,[]⟩=pure (ps.zip us)):∃d:Df K mg x st ps,∀(s:Shared)(us:List Value),us.length=ps.length->BindsTo s d.fd ⟨us,[]⟩ (ps.zip us):=
 ⟨⟨f,_,U5 l c k,PySem.W.mg_of X G a,(U5 l c k).binds b⟩,λ_ us hu=>.of_eq (b _ _ _ _ _ _ us hu)⟩
theorem zY{K:PySem.W.Frag}{h:Heap}{mg:Str->Option Value}(X:K.In h)(G:h.Ns mainGlobals mg){x q:Str}{st:Stmt}{ps fs:List Str}{C f:Addr}{oc:Value}{od an:Option Addr}{osl:Array (Option Value)}{kV doc pm cdv ct:Value}
 (aC:PySem.W.nsIn K mainGlobals x=some (some (.ref C))) (a:PySem.W.findIn K (.ref C) "__init__"=some (some (.ref f))) (i:PySem.W.isFn K (.ref f)=true)
 (l:K.lookup f=some ⟨oc,od,.func (PySem.W.fnOf "__init__" q (Je st) (IC st) (Ad st) .none kV doc pm an cdv ct),osl⟩) (c:PySem.W.codeIn K cdv q=true) (k:PySem.W.keepIn K (.ref f)=true)
 (pg:PySem.W.plainGet K C Str.empty=true) (hd:PySem.W.hasDictIn K C=true) (po:PySem.W.plainOver K C=true) (sa:PySem.W.findIn K (.ref C) "__setattr__"=some (some (.builtin "object.__setattr__"))) (m:PySem.W.makesIn K C=true) (kc:PySem.W.keepIn K (.ref C)=true)
 (no:∀a∈fs,Jo K C a)
 (b:∀(kV doc pm:Value)(an:Option Addr)(cdv ct:Value)(us:List Value),us.length=ps.length->bindArgs (PySem.W.fnOf "__init__" q (Je st) (IC st) (Ad st) .none kV doc pm an cdv ct) ⟨us,[]⟩=pure (ps.zip us)):∃C f fd,Kl K mg x q st ps fs C f fd:=
 ⟨C,f,_,⟨pg,hd,po,sa⟩,⟨m,a,i,kc⟩,U5 l c k,PySem.W.mg_of X G aC,(U5 l c k).binds b,no⟩
theorem xB{K:PySem.W.Frag}{C:Addr}:∀a∈([]:List Str),Jo K C a:=λ_ h=>absurd h Aq
theorem tu{K:PySem.W.Frag}{C:Addr}{f:Str}{fs:List Str}(h:PySem.W.findIn K (.ref C) f=some none)(t:∀a∈fs,Jo K C a):∀a∈f::fs,Jo K C a:=λa m=>(AN.mp m).elim (λe=>e▸h) (t a)
theorem int_mk{K:PySem.W.Frag}{h:Heap}{mg:Str->Option Value}(X:K.In h)(G:h.Ns mainGlobals mg){x:Str}{n:Int}{t:Tok}(a:PySem.W.nsIn K mainGlobals x=some (some (.int n t))):∃t,mg x=some (.int n t):=⟨t,PySem.W.mg_of X G a⟩
theorem ABk{K:PySem.W.Frag}{h:Heap}{mg:Str->Option Value}(X:K.In h)(G:h.Ns mainGlobals mg){x:Str}{o:Addr}(a:PySem.W.nsIn K mainGlobals x=some (some (.ref o))):∃o,mg x=some (.ref o):=⟨o,PySem.W.mg_of X G a⟩
abbrev CU{K:PySem.W.Frag}{h:Heap}(_X:K.In h)(a:Addr)(xs:List V):Prop:=Cw K a xs
theorem Pa{w:World}{K:PySem.W.Frag}{h:Heap}{mg:Str->Option Value}(X:K.In h)(G:h.Ns mainGlobals mg){x:Str}{a:Addr}{es:Array DictEntry}{ep:Nat}{kvs:List (Key×V)}(n:PySem.W.nsIn K mainGlobals x=some (some (.ref a)))(l:K.lookup a=some {cls:=.type "dict",data:=.dict es ep})(d:MO w es.toList kvs)(nd:(kvs.map (·.1)).Nodup):mg x=some (.ref a)/\II w K a kvs:=
 ⟨PySem.W.mg_of X G n,⟨⟨es,ep,l,d⟩,nd⟩⟩
theorem tw{K:PySem.W.Frag}{h:Heap}(_X:K.In h){a:Addr}{its:Array Value}{n:Nat}{od:Option Addr}{osl:Array (Option Value)}{xs:List V}(l:K.lookup a=some ⟨.type "tuple",od,.seq its n,osl⟩)(z:its.size<=sizeLine)(v:Vals xs its.toList):Cw K a xs:=⟨_,_,_,l,U,U,z,v⟩
theorem DP{K:PySem.W.Frag}{h:Heap}{mg:Str->Option Value}(X:K.In h)(G:h.Ns mainGlobals mg){x:Str}{f:Addr}{v:Value}(e:mg x=some (.ref f))(a:PySem.W.nsIn K mainGlobals x=some (some v)):RelV (.ref f) v:=BB ((PySem.W.mg_of X G a).symm.trans e)
theorem xC{K:PySem.W.Frag}{h:Heap}{mg:Str->Option Value}(X:K.In h)(G:h.Ns mainGlobals mg){x:Str}(a:PySem.W.nsIn K mainGlobals x=some none):mg x=none:=PySem.W.mg_none_of X G a
def worth(k:Vbdeag.Key):Int:=k.num*1000000000000000000000000000000000000/(k.den:Int)
structure Bh(k:Vbdeag.Key):Prop where
 d1:1<=k.den
 d2:(k.den:Int)<=1000000000000000000
 n1:-1000000000000000000<=k.num
 n2:k.num<=1000000000000000000
 low:Nat.gcd k.num.natAbs k.den=1
theorem nL{a b:Int}(h1:1<=a)(h2:a<=1000000000000000000)(h3:1<=b)(h4:b<=1000000000000000000):1<=a*b/\a*b<=1000000000000000000000000000000000000:=by
 constructor
 ·have:=Int.mul_le_mul h1 h3 (by decide) (by omega)
  simpa using this
 ·have:=Int.mul_le_mul h2 h4 (by omega) (by decide);exact this
theorem Up{a b:Vbdeag.Key}(ha:Bh a)(hb:Bh b):a.num*(b.den:Int)<b.num*(a.den:Int)↔worth a<worth b:=by
 obtain⟨a1,a2,_,_,_⟩:=ha;obtain⟨b1,b2,_,_,_⟩:=hb;have a1':(1:Int)<=a.den:=by omega
 have b1':(1:Int)<=b.den:=by omega
 obtain⟨m1,m2⟩:=nL a1' a2 b1' b2;have qa:=Pj (a.num*1000000000000000000000000000000000000) a.den;have qb:=Pj (b.num*1000000000000000000000000000000000000) b.den;have ra:=Int.emod_nonneg (a.num*1000000000000000000000000000000000000) (show(a.den:Int)≠0 by omega);have ra2:=UK (a.num*1000000000000000000000000000000000000) (show(0:Int)<a.den by omega);have rb:=Int.emod_nonneg (b.num*1000000000000000000000000000000000000) (show(b.den:Int)≠0 by omega);have rb2:=UK (b.num*1000000000000000000000000000000000000) (show(0:Int)<b.den by omega);show _↔a.num*1000000000000000000000000000000000000/(a.den:Int)<b.num*1000000000000000000000000000000000000/(b.den:Int);generalize a.num*1000000000000000000000000000000000000/(a.den:Int)=x at*;generalize b.num*1000000000000000000000000000000000000/(b.den:Int)=y at*;generalize a.num*1000000000000000000000000000000000000%(a.den:Int)=r at*;generalize b.num*1000000000000000000000000000000000000%(b.den:Int)=t at*;generalize (a.den:Int)=p at*;generalize (b.den:Int)=q at*;generalize a.num=u at*;generalize b.num=v at*;have e1:u*q*1000000000000000000000000000000000000=q*r+p*q*x:=by
  have:u*q*1000000000000000000000000000000000000=q*(u*1000000000000000000000000000000000000):=by rw[Om u q,NP]
  rw[this,<-qa,XF]
  congr 1
  rw[<-NP,Om q p]
 have e2:v*p*1000000000000000000000000000000000000=p*t+p*q*y:=by
  have:v*p*1000000000000000000000000000000000000=p*(v*1000000000000000000000000000000000000):=by rw[Om v p,NP]
  rw[this,<-qb,XF]
  congr 1
  rw[<-NP]
 have c1:0<=q*r:=Int.mul_nonneg (by omega) ra;have c2:q*r<p*q:=by
  rw[Om p q];exact MS ra2 (by omega)
 have c3:0<=p*t:=Int.mul_nonneg (by omega) rb;have c4:p*t<p*q:=MS rb2 (by omega);generalize p*q=m at*;generalize q*r=c at*;generalize p*t=d at*;constructor
 ·intro h;have h1:(1:Int)*1000000000000000000000000000000000000<=(v*p-u*q)*1000000000000000000000000000000000000:=KS (by omega) (by decide);rw[Int.sub_mul,e1,e2]at h1;by_cases hxy:x<y
  ·exact hxy
  ·exfalso;have h2:m*y<=m*x:=Kf (by omega) (by omega);omega
 ·intro h;by_cases h0:u*q<v*p
  ·exact h0
  ·exfalso;have h1:v*p*1000000000000000000000000000000000000<=u*q*1000000000000000000000000000000000000:=KS (by omega) (by decide);rw[e1,e2]at h1;have h2:m*(x+1)<=m*y:=Kf (by omega) (by omega);rw[XF]at h2;omega
theorem xD{a b:Vbdeag.Key}(ha:Bh a)(hb:Bh b)(h:a.num*(b.den:Int)=b.num*(a.den:Int)):a=b:=by
 obtain⟨a1,_,_,_,al⟩:=ha;obtain⟨b1,_,_,_,bl⟩:=hb;have hn:a.num.natAbs*b.den=b.num.natAbs*a.den:=by
  have:=B5 Int.natAbs h;rw[Int.natAbs_mul,Int.natAbs_mul]at this
  simpa using this
 have d1:a.den∣b.den:=by
  have c:Nat.Coprime a.den a.num.natAbs:=by unfold Nat.Coprime;rw[La];exact al
  exact c.dvd_of_dvd_mul_left ⟨b.num.natAbs,by rw[hn,VM]⟩
 have d2:b.den∣a.den:=by
  have c:Nat.Coprime b.den b.num.natAbs:=by unfold Nat.Coprime;rw[La];exact bl
  exact c.dvd_of_dvd_mul_left ⟨a.num.natAbs,by rw[<-hn,VM]⟩
 have e:a.den=b.den:=Nat.dvd_antisymm d1 d2;obtain⟨an,ad⟩:=a;obtain⟨bn,bd⟩:=b;have e':ad=bd:=e;subst e';have h':an*(ad:Int)=bn*(ad:Int):=h;have b1':1<=ad:=b1;have:an=bn:=Int.eq_of_mul_eq_mul_right (show(ad:Int)≠0 by omega) h';rw[this]
theorem IE{a b:Vbdeag.Key}(ha:Bh a)(hb:Bh b):a.lt b=decide (worth a<worth b):=by
 unfold Vbdeag.Key.lt;exact CW.mpr (Up ha hb)
theorem Pb{a b:Vbdeag.Key}(ha:Bh a)(hb:Bh b):a.le b=decide (worth a<=worth b):=by
 unfold Vbdeag.Key.le;refine CW.mpr ?_;rw[<-Int.not_lt,<-Int.not_lt,Up hb ha]
theorem Uq{a b:Vbdeag.Key}(ha:Bh a)(hb:Bh b):(a==b)=decide (worth a=worth b):=by
 by_cases h:a=b
 ·subst h;simp
 ·rw[BJ]
  ·exact Bd.mpr h
  ·intro z;refine h (xD ha hb ?_);have h1:=Up ha hb;have h2:=Up hb ha;omega
theorem AO{H:Hp}{a:Addr}{o:HO}(h:H a=none):A7 H (upd H a o):=λb u e=>by rw[Aj (BY e h)];exact e
theorem A7.own{H H1:Hp}{a:Addr}{o:HO}(s:A7 H H1)(h:H a=none):A7 H (L2.upd H1 a o):=λb u e=>by
 rw[Aj (BY e h)];exact s b u e
theorem take_snoc{α:Type}{l:List α}{i:Nat}{x:α}(h:l[i]?=some x):l.take (i+1)=l.take i++[x]:=by
 rw[Va,h];rfl
def refs{α:Type}(zs:List (Addr×α)):List V:=zs.map λz=>V.ref z.1
theorem Al{α:Type}(zs:List (Addr×α)):(refs zs).length=zs.length:=AA _
theorem Ex{α:Type}{zs:List (Addr×α)}{i:Nat}{x:V}(h:(refs zs)[i]?=some x):∃z,zs[i]?=some z/\x=V.ref z.1:=by
 unfold refs at h;rw[Ai]at h;cases e:zs[i]? with
 |none=>rw[e]at h;cases h
 |some z=>rw[e]at h;exact⟨z,U,(BB h).symm⟩
theorem BU{α:Type}{zs:List (Addr×α)}{i:Nat}{z:Addr×α}(h:zs[i]?=some z):(refs zs)[i]?=some (V.ref z.1):=by
 unfold refs;rw[Ai,h];rfl
theorem kZ{ns:List Int}{i:Nat}{x:V}(h:(ns.map V.int)[i]?=some x):∃n,ns[i]?=some n/\x=V.int n:=by
 rw[Ai]at h;cases e:ns[i]? with
 |none=>rw[e]at h;cases h
 |some z=>rw[e]at h;exact⟨z,U,(BB h).symm⟩
theorem t8{α:Type}{K:PySem.W.Frag}{a:Addr}{zs:List (V×α)}{i:Nat}{tt:TT}{te:TE}{σ:L2.St}{H1:Hp}{D:Addr}{Qd:Hp->Prop}(hS:A1 K H1 a (zs.map (·.1)))(hz:zs.length<=sizeLine)(hi:i<σ.length)(hD:H1 D=none)
 (p:V×α->Bool) (f:V×α->V)
 (ht:∀z∈zs,∀H,A7 H1 H->∀R:Bool->Hp->Prop,R (p z) H->tt ((σ.set i none).set i (some z.1)) H R)
 (he:∀z∈zs,p z=true->∀H,A7 H1 H->∀R:VK,R (f z) H->te ((σ.set i none).set i (some z.1)) H R)
 (hq:Qd (upd H1 D (.lst ((zs.filter p).map f)))):
 ∃W:Nat->Nat->Hp->Prop,(∃m,W 0 m (upd H1 D (.lst [])))/\∀j m H,W j m H->
  ((ON K a).stop j H/\Qd H)\/((ON K a).go j H/\∃Nx:Hp->Prop,(∀H',Nx H'->∃m',m'<m/\W (j+1) m' H')/\∀x H',(ON K a).Vk j H x H'->KU i x (wipe σ [i]) H' λσ2 H2=>wipe σ2 [i]=wipe σ [i]/\tt σ2 H2 λb H3=>
    if b=true then te σ2 H3 λy H4=>∃acc,H4 D=some (.lst acc)/\acc.length<sizeLine/\Nx (upd H4 D (.lst (acc++[y])))else Nx H3):=by
 refine XX (xs:=zs.map (·.1)) (Qd:=Qd) (λj H=>H=upd H1 D (.lst (((zs.take j).filter p).map f))) U (λj H _ e=>by rw[e];exact(AO hD).seq hS) (λj x H hx e=>?_) λH e=>?_
 ·obtain⟨z,hz1,rfl⟩:∃z,zs[j]?=some z/\x=z.1:=by
   rw[Ai]at hx;cases q:zs[j]? with
   |none=>rw[q]at hx;cases hx
   |some z=>rw[q]at hx;exact⟨z,U,(BB hx).symm⟩
  have mem:=AS hz1;have ew:wipe σ [i]=σ.set i none:=rfl;subst e;show wipe ((wipe σ [i]).set i (some z.1)) [i]=wipe σ [i]/\_;rw[ew];refine⟨?_,?_⟩
  ·show((σ.set i none).set i (some z.1)).set i none=σ.set i none;rw[DZ,DZ]
  ·refine ht z mem _ (AO hD) _ ?_;cases hp:p z with
   |false=>
    rw[AI Au];rw[take_snoc hz1,Cr];simp[hp]
   |true=>
    rw[AJ U];refine he z mem hp _ (AO hD) _ ⟨_,AD,?_,?_⟩
    ·rw[AA];have h1:=BL p (zs.take j);rw[Bb]at h1;have h2:=(AZ.mp hz1).1;omega
    ·rw[Cj,take_snoc hz1,Cr];simp[hp]
 ·rw[e,AA,BR];exact hq
theorem JD{α:Type}{K:PySem.W.Frag}{a:Addr}{zs:List (Addr×α)}{i:Nat}{tt:TT}{te:TE}{σ:L2.St}{H1:Hp}{D:Addr}{Qd:Hp->Prop}(hS:A1 K H1 a (refs zs))(hz:zs.length<=sizeLine)(hi:i<σ.length)(hD:H1 D=none)
 (p:Addr×α->Bool) (f:Addr×α->V)
 (ht:∀z∈zs,∀H,A7 H1 H->∀R:Bool->Hp->Prop,R (p z) H->tt ((σ.set i none).set i (some (.ref z.1))) H R)
 (he:∀z∈zs,p z=true->∀H,A7 H1 H->∀R:VK,R (f z) H->te ((σ.set i none).set i (some (.ref z.1))) H R)
 (hq:Qd (upd H1 D (.lst ((zs.filter p).map f)))):
 ∃W:Nat->Nat->Hp->Prop,(∃m,W 0 m (upd H1 D (.lst [])))/\∀j m H,W j m H->
  ((ON K a).stop j H/\Qd H)\/((ON K a).go j H/\∃Nx:Hp->Prop,(∀H',Nx H'->∃m',m'<m/\W (j+1) m' H')/\∀x H',(ON K a).Vk j H x H'->KU i x (wipe σ [i]) H' λσ2 H2=>wipe σ2 [i]=wipe σ [i]/\tt σ2 H2 λb H3=>
    if b=true then te σ2 H3 λy H4=>∃acc,H4 D=some (.lst acc)/\acc.length<sizeLine/\Nx (upd H4 D (.lst (acc++[y])))else Nx H3):=by
 refine t8 (zs:=zs.map λz=>(V.ref z.1,z)) (Qd:=Qd) (by rw[An];exact hS) (by rw[AA];exact hz) hi hD (λq=>p q.2) (λq=>f q.2) (λq hq'=>?_) (λq hq' hp=>?_) ?_
 ·obtain⟨z,hz',rfl⟩:=AG.mp hq';exact ht z hz'
 ·obtain⟨z,hz',rfl⟩:=AG.mp hq';exact he z hz' hp
 ·rw[DI,An];exact hq
def Jh(K:PySem.W.Frag)(H:Hp)(a:Addr)(x:Int):Prop:=∃C dx fs,H a=some (.ins C dx fs)/\pF K C/\Jo K C "who"/\fs.lookup ("who":Str)=some (V.int x)
theorem Jh.same{K:PySem.W.Frag}{H H':Hp}{a:Addr}{x:Int}(s:A7 H H')(h:Jh K H a x):Jh K H' a x:=by
 obtain⟨C,dx,fs,e,r⟩:=h;exact⟨C,dx,fs,s _ _ e,r⟩
def yu(x m v:Int):List (Str×V):=[("who",.int x),("mask",.int m),("value",.int v)]
def xE(x:Int)(k:Addr):List (Str×V):=[("who",.int x),("key",.ref k)]
def xF(x:Int)(k:Addr)(n:Int):List (Str×V):=[("who",.int x),("key",.ref k),("need",.int n)]
def xG(x:Int)(k:Addr)(n:Int):List (Str×V):=[("who",.int x),("key",.ref k),("side",.int n)]
def fsK(t b v:Int):List (Str×V):=[("top",.int t),("bottom",.int b),("worth",.int v)]
section
variable{P:Program}{w:World}{K:PySem.W.Frag}{mg:Str->Option Value}{base:Heap}
inductive Im(T:All w K mg)(vs:List V)(H:Hp)(Q:VK)(E:XK):Prop
 |mk(p dx:Addr)(x m v:Int):vs=[.ref p,.int x,.int m,.int v]->H p=some (.ins T.GG dx [])->Q .DX (upd H p (.ins T.GG dx (yu x m v)))->Im T vs H Q E
inductive KN(T:All w K mg)(vs:List V)(H:Hp)(Q:VK)(E:XK):Prop
 |mk(p dx:Addr)(x:Int)(k:Addr):vs=[.ref p,.int x,.ref k]->H p=some (.ins T.JA dx [])->Q .DX (upd H p (.ins T.JA dx (xE x k)))->KN T vs H Q E
inductive KO(T:All w K mg)(vs:List V)(H:Hp)(Q:VK)(E:XK):Prop
 |mk(p dx:Addr)(x:Int)(k:Addr)(n:Int):vs=[.ref p,.int x,.ref k,.int n]->H p=some (.ins T.JB dx [])->Q .DX (upd H p (.ins T.JB dx (xF x k n)))->KO T vs H Q E
inductive JS(T:All w K mg)(vs:List V)(H:Hp)(Q:VK)(E:XK):Prop
 |mk(p dx:Addr)(x:Int)(k:Addr)(n:Int):vs=[.ref p,.int x,.ref k,.int n]->H p=some (.ins T.Gg dx [])->Q .DX (upd H p (.ins T.Gg dx (xG x k n)))->JS T vs H Q E
theorem O4(T:All w K mg):HU P w K mg base T5 1 T.OE T.MZ ["self","who","mask","value"] (Im T):=by
 refine T.Dm.fn.ok X8 (λvs H Q E h=>?_) (λcdv A outer s H vs Q E hr h=>?_)
 ·obtain⟨p,dx,x,m,v,rfl,_⟩:=h;rfl
 ·obtain⟨p,dx,x,m,v,rfl,hp,k⟩:=h;refine⟨_,(AE (Cp (pv 0) (pv 1) U)
   (AE (Cp (pv 0) (pv 2) U)
   (AK (Cp (pv 0) (pv 3) U)))),?_⟩
  refine⟨_,U,_,U,p,_,dx,_,U,hp,T.Dm.cl,T.Dm.no _ (by simp),(show(0:Nat)<1000 by decide),?_⟩;refine⟨_,U,_,U,p,_,dx,_,U,AD,T.Dm.cl,T.Dm.no _ (by simp),(show(1:Nat)<1000 by decide),?_⟩;refine⟨_,U,_,U,p,_,dx,_,U,AD,T.Dm.cl,T.Dm.no _ (by simp),(show(2:Nat)<1000 by decide),?_⟩;rw[Cj,Cj];exact k
theorem Rq(T:All w K mg):HU P w K mg base T5 1 T.Uk T.Ql ["self","who","key"] (KN T):=by
 refine T.GH.fn.ok Zv (λvs H Q E h=>?_) (λcdv A outer s H vs Q E hr h=>?_)
 ·obtain⟨p,dx,x,m,rfl,_⟩:=h;rfl
 ·obtain⟨p,dx,x,m,rfl,hp,k⟩:=h;refine⟨_,(AE (Cp (pv 0) (pv 1) U)
   (AK (Cp (pv 0) (pv 2) U))),?_⟩
  refine⟨_,U,_,U,p,_,dx,_,U,hp,T.GH.cl,T.GH.no _ (by simp),(show(0:Nat)<1000 by decide),?_⟩;refine⟨_,U,_,U,p,_,dx,_,U,AD,T.GH.cl,T.GH.no _ (by simp),(show(1:Nat)<1000 by decide),?_⟩;rw[Cj];exact k
theorem Rr(T:All w K mg):HU P w K mg base T5 1 T.Ul T.Qm ["self","who","key","need"] (KO T):=by
 refine T.ES.fn.ok Zw (λvs H Q E h=>?_) (λcdv A outer s H vs Q E hr h=>?_)
 ·obtain⟨p,dx,x,m,v,rfl,_⟩:=h;rfl
 ·obtain⟨p,dx,x,m,v,rfl,hp,k⟩:=h;refine⟨_,(AE (Cp (pv 0) (pv 1) U)
   (AE (Cp (pv 0) (pv 2) U)
   (AK (Cp (pv 0) (pv 3) U)))),?_⟩
  refine⟨_,U,_,U,p,_,dx,_,U,hp,T.ES.cl,T.ES.no _ (by simp),(show(0:Nat)<1000 by decide),?_⟩;refine⟨_,U,_,U,p,_,dx,_,U,AD,T.ES.cl,T.ES.no _ (by simp),(show(1:Nat)<1000 by decide),?_⟩;refine⟨_,U,_,U,p,_,dx,_,U,AD,T.ES.cl,T.ES.no _ (by simp),(show(2:Nat)<1000 by decide),?_⟩;rw[Cj,Cj];exact k
theorem Qs(T:All w K mg):HU P w K mg base T5 1 T.Qn T.OF ["self","who","key","side"] (JS T):=by
 refine T.DE.fn.ok ZS (λvs H Q E h=>?_) (λcdv A outer s H vs Q E hr h=>?_)
 ·obtain⟨p,dx,x,m,v,rfl,_⟩:=h;rfl
 ·obtain⟨p,dx,x,m,v,rfl,hp,k⟩:=h;refine⟨_,(AE (Cp (pv 0) (pv 1) U)
   (AE (Cp (pv 0) (pv 2) U)
   (AK (Cp (pv 0) (pv 3) U)))),?_⟩
  refine⟨_,U,_,U,p,_,dx,_,U,hp,T.DE.cl,T.DE.no _ (by simp),(show(0:Nat)<1000 by decide),?_⟩;refine⟨_,U,_,U,p,_,dx,_,U,AD,T.DE.cl,T.DE.no _ (by simp),(show(1:Nat)<1000 by decide),?_⟩;refine⟨_,U,_,U,p,_,dx,_,U,AD,T.DE.cl,T.DE.no _ (by simp),(show(2:Nat)<1000 by decide),?_⟩;rw[Cj,Cj];exact k
theorem qx{d r:Nat}(h:0<r):Nat.gcd r (d%r)=Nat.gcd d r:=by
 rw[La d r,Nat.gcd_rec r d,La]
inductive Mi(T:All w K mg)(vs:List V)(H:Hp)(Q:VK)(E:XK):Prop
 |mk(t b:Int):vs=[.int t,.int b]->0<b->Q (.int (Nat.gcd t.natAbs b.toNat:Nat)) H->Mi T vs H Q E
theorem Mj(T:All w K mg):Ok P w base T.Ht 1 (Mi T):=by
 refine T.Ht.go EH λcdv A outer s H vs Q E hr h Cc=>?_;obtain⟨t,b,rfl,hb,k⟩:=h;refine⟨_,(AE (DJ EH 2 (pv 1))
  (AE (DJ EH 3 (NQ qN U T.oW boot_abs (AB (pv 0) AF)))
  (AE (PX BK (BX K_ (pv 3) Ag)
    (AE (DJ EH 4 (CA pB (pv 2) (pv 3)))
    (AE (DJ EH 2 (pv 3))
    (AK (DJ EH 3 (pv 4))))))
  (AK (Am (pv 2)))))),?_⟩
 refine⟨_,U,_,U,_,U,?_⟩;refine⟨λm σ H'=>∃(d r:Nat)(l:Option V),m=r/\H'=H/\σ=[some (.int t),some (.int b),some (.int d),some (.int r),l]/\0<d/\Nat.gcd d r=Nat.gcd t.natAbs b.toNat,⟨t.natAbs,b.toNat,t.natAbs,none,U,U,?_,by omega,La _ _⟩,?_⟩
 ·have e1:((b.toNat:Nat):Int)=b:=by omega
  have e2:((t.natAbs:Nat):Int)=if t<0 then-t else t:=by split<;>omega
  rw[e1,e2];rfl
 ·rintro m σ H' ⟨d,_,l,rfl,rfl,rfl,hd,hg⟩;refine⟨_,U,_,_,U,U,_,U,?_⟩;refine DL (λh=>?_) λh=>?_
  ·have hr0:0<m:=by
    have:=AX h;omega
   refine⟨λσ' H'=>∃m',m'<m/\_,λ_ _ z=>z,?_⟩;refine⟨_,U,_,U,_,_,U,U,(by show(0:Int)<(m:Int);omega),?_⟩;refine⟨_,U,_,U,?_⟩;refine⟨d%m,Nat.mod_lt _ hr0,m,d%m,_,U,U,U,hr0,?_⟩;rw[qx hr0];exact hg
  ·refine⟨_,U,?_⟩;have hr0:m=0:=by
    have:¬((0:Int)<(m:Int)):=λz=>h (AM z);omega
   subst hr0;rw[Nat.gcd_zero_right]at hg;rw[hg];exact k
end
theorem JG{t b:Int}(b1:1<=b)(b2:b<=1000000000000000000)(t1:-1000000000000000000<=t)(t2:t<=1000000000000000000):Bh (Vbdeag.keyOf t b.toNat):=by
 have hb:0<b.toNat:=by omega
 have hg:0<Nat.gcd t.natAbs b.toNat:=Ng _ hb;have dt:((Nat.gcd t.natAbs b.toNat:Nat):Int)∣t:=Int.ofNat_dvd_left.mpr (Nat.gcd_dvd_left _ _);have db:Nat.gcd t.natAbs b.toNat∣b.toNat:=Ve _ _;have hq:0<b.toNat/Nat.gcd t.natAbs b.toNat:=Nat.div_pos (Nat.le_of_dvd hb db) hg;have hle:b.toNat/Nat.gcd t.natAbs b.toNat<=b.toNat:=Nat.div_le_self _ _;have na:(t/((Nat.gcd t.natAbs b.toNat:Nat):Int)).natAbs=t.natAbs/Nat.gcd t.natAbs b.toNat:=by
  rw[Int.natAbs_ediv_of_dvd dt];rfl
 have hn:t.natAbs/Nat.gcd t.natAbs b.toNat<=t.natAbs:=Nat.div_le_self _ _;refine⟨hq,?_,?_,?_,?_⟩
 ·show((b.toNat/Nat.gcd t.natAbs b.toNat:Nat):Int)<=1000000000000000000;omega
 ·show-1000000000000000000<=t/((Nat.gcd t.natAbs b.toNat:Nat):Int);omega
 ·show t/((Nat.gcd t.natAbs b.toNat:Nat):Int)<=1000000000000000000;omega
 ·show Nat.gcd (t/((Nat.gcd t.natAbs b.toNat:Nat):Int)).natAbs (b.toNat/Nat.gcd t.natAbs b.toNat)=1;rw[na];exact Nat.gcd_div_gcd_div_gcd_of_pos_right hb
def Du(k:Vbdeag.Key):List (Str×V):=fsK k.num (k.den:Int) (worth k)
section
variable{P:Program}{w:World}{K:PySem.W.Frag}{mg:Str->Option Value}{base:Heap}
inductive KR(T:All w K mg)(vs:List V)(H:Hp)(Q:VK)(E:XK):Prop
 |mk(p dx:Addr)(t b:Int):vs=[.ref p,.int t,.int b]->H p=some (.ins T.B0 dx [])->1<=b->b<=1000000000000000000->-1000000000000000000<=t->t<=1000000000000000000->Q .DX (upd H p (.ins T.B0 dx (Du (Vbdeag.keyOf t b.toNat))))->KR T vs H Q E
theorem EU(T:All w K mg):HU P w K mg base T5 2 T.af T.Xj ["self","top","bottom"] (KR T):=by
 refine T.Ck.fn.ok Wz (λvs H Q E h=>?_) (λcdv A outer s H vs Q E hr h=>?_)
 ·obtain⟨p,dx,t,b,rfl,_⟩:=h;rfl
 ·obtain⟨p,dx,t,b,rfl,hp,b1,b2,t1,t2,k⟩:=h;refine⟨_,(AE (DJ Wz 3 (Bu (Mj T) hr (AB (pv 1) (AB (pv 2) AF))))
   (AE (Cp (pv 0) (CA UW (pv 1) (pv 3)) U)
   (AE (Cp (pv 0) (CA UW (pv 2) (pv 3)) U)
   (AK (Cp (pv 0) (CA UW (CA iF (Av (pv 0)) (Lg T.bz)) (Av (pv 0))) U))))),?_⟩
  have ok:=JG b1 b2 t1 t2;have hb:0<b.toNat:=by omega
  have hg:0<Nat.gcd t.natAbs b.toNat:=Ng _ hb;have hg2:Nat.gcd t.natAbs b.toNat<=b.toNat:=Nat.le_of_dvd hb (Ve _ _);have eb:b/((Nat.gcd t.natAbs b.toNat:Nat):Int)=((Vbdeag.keyOf t b.toNat).den:Int):=by
   show b/((Nat.gcd t.natAbs b.toNat:Nat):Int)=((b.toNat/Nat.gcd t.natAbs b.toNat:Nat):Int);rw[Int.natCast_ediv]
   congr 1
   omega
  refine⟨_,U,_,U,t,b,U,by omega,?_⟩;refine⟨_,U,_,U,_,_,U,U,⟨by omega,by omega⟩,_,U,p,_,dx,_,U,hp,T.Ck.cl,T.Ck.no _ (by simp),(show(0:Nat)<1000 by decide),?_⟩;refine⟨_,U,_,U,_,_,U,U,⟨by omega,by omega⟩,_,U,p,_,dx,_,U,AD,T.Ck.cl,T.Ck.no _ (by simp),(show(1:Nat)<1000 by decide),?_⟩;dsimp only;rw[eb,Cj];refine⟨_,U,p,_,dx,_,V.int (Vbdeag.keyOf t b.toNat).num,U,AD,T.Ck.cl,T.Ck.no _ (by simp),U,?_⟩;refine⟨_,_,U,U,.inl ⟨?_,?_⟩,?_⟩
  ·have:=ok.n1;omega
  ·have:=ok.n2;omega
  refine⟨_,U,p,_,dx,_,V.int ((Vbdeag.keyOf t b.toNat).den:Int),U,AD,T.Ck.cl,T.Ck.no _ (by simp),U,?_⟩;refine⟨_,_,U,U,⟨?_,?_⟩,?_⟩
  ·have:=ok.d1;omega
  ·have:=ok.d2;omega
  refine⟨_,U,p,_,dx,_,U,AD,T.Ck.cl,T.Ck.no _ (by simp),(show(2:Nat)<1000 by decide),?_⟩;rw[Cj];exact k
end
section
variable{P:Program}{w:World}{K:PySem.W.Frag}{mg:Str->Option Value}{base:Heap}
inductive aj(T:All w K mg)(vs:List V)(H:Hp)(Q:VK)(E:XK):Prop
 |mk(l:Addr)(zs:List (Addr×Int)):vs=[.ref l]->A1 K H l (refs zs)->zs.length<=sizeLine->(∀z∈zs,Jh K H z.1 z.2)->(∀p,H p=none->Q (.ref p) (upd H p (.lst (zs.map λz=>V.int z.2))))->aj T vs H Q E
theorem Nc(T:All w K mg):Ok P w base T.NV 1 (aj T):=by
 refine T.NV.go LN λcdv A outer s H vs Q E hr h Cc=>?_;obtain⟨l,zs,rfl,hS,hz,hw,k⟩:=h;refine⟨_,(AK (Am (Fi (own:=[("waiter",1)]) (tt:=GY) (te:=(RX K (CD 1) "who")) U LN.nd (Bx (pv 0)) (CS (by rfl)) (λ_ _ _ _ _=>BW (i:=1) LN.nd U (Or.inl U)) (λ_ _ _ _ _=>Dt) (λ_ _ _ _ _=>(Av (pv 1)))))),?_⟩;refine⟨_,U,l,U,⟨_,hS⟩,λD hD=>JD hS hz (by show 1<2;decide) hD (λ_=>true) (λz=>V.int z.2) (λz hz' H' _ R hR=>hR) (λz hz' _ H' hs R hR=>?_) ?_⟩
 ·obtain⟨C,dx,fs,e,c,n,lk⟩:=(hw z hz').same hs;exact⟨_,U,_,C,dx,fs,_,U,e,c,n,lk,hR⟩
 ·rw[Dh.mpr λ_ _=>rfl];exact k D hD
inductive QN(T:All w K mg)(vs:List V)(H:Hp)(Q:VK)(E:XK):Prop
 |mk(l:Addr)(ns:List Int):vs=[.ref l]->H l=some (.lst (ns.map V.int))->ns.length<=100000->(∀(H':Hp)(p:Addr),A7 H H'->H p=none->H' p=some (.lst ((0::(ns.length:Int)::ns).map V.int))->Q (.ref p) H')->QN T vs H Q E
theorem Cn(T:All w K mg):Ok P w base T.N7 1 (QN T):=by
 refine T.N7.go gB λcdv A outer s H vs Q E hr h Cc=>?_;obtain⟨l,ns,rfl,hS,hz,k⟩:=h;refine⟨_,(AK (Am (CA H_ (BS (AB Ag (AB (JI T.Cd (pv 0)) AF))) (pv 0)))),?_⟩;refine⟨_,U,l,_,U,.inl (A1.of hS),(by show 2<=sizeLine;decide),λp hp=>?_⟩;refine⟨_,U,p,l,_,_,U,U,AD,(AO hp) _ _ hS,(by rw[AA];show 2+ns.length<=sizeLine;omega),λq hq=>?_⟩;have hq':H q=none:=(AO hp).free hq;exact k _ q ((AO hp).trans (AO hq)) hq' (by rw[AD];simp)
def Dv(T:All w K mg)(H:Hp)(a:Addr)(k:Vbdeag.Key):Prop:=∃dx,H a=some (.ins T.B0 dx (Du k))
theorem Dv.same{T:All w K mg}{H H':Hp}{a:Addr}{k:Vbdeag.Key}(s:A7 H H')(h:Dv T H a k):Dv T H' a k:=⟨h.choose,s _ _ h.choose_spec⟩
def Dg(T:All w K mg)(H:Hp)(a:Addr)(e:Vbdeag.Entry):Prop:=∃dx ka,H a=some (.ins T.JA dx (xE e.id ka))/\Dv T H ka e.key
def Hj(T:All w K mg)(H:Hp)(a:Addr)(e:Vbdeag.Guest):Prop:=∃dx ka,H a=some (.ins T.JB dx (xF e.id ka e.need))/\Dv T H ka e.key
def Hl(T:All w K mg)(H:Hp)(a:Addr)(e:Vbdeag.Side):Prop:=∃dx ka,H a=some (.ins T.Gg dx (xG e.id ka (if e.right=true then 1 else 0)))/\Dv T H ka e.key
def Ji(T:All w K mg)(H:Hp)(a:Addr)(e:Vbdeag.Watch):Prop:=∃dx,H a=some (.ins T.GG dx (yu e.id e.mask e.value))
theorem Dg.same{T:All w K mg}{H H':Hp}{a:Addr}{e:Vbdeag.Entry}(s:A7 H H')(h:Dg T H a e):Dg T H' a e:=by
 obtain⟨dx,ka,h1,h2⟩:=h;exact⟨dx,ka,s _ _ h1,h2.same s⟩
theorem Hj.same{T:All w K mg}{H H':Hp}{a:Addr}{e:Vbdeag.Guest}(s:A7 H H')(h:Hj T H a e):Hj T H' a e:=by
 obtain⟨dx,ka,h1,h2⟩:=h;exact⟨dx,ka,s _ _ h1,h2.same s⟩
theorem Hl.same{T:All w K mg}{H H':Hp}{a:Addr}{e:Vbdeag.Side}(s:A7 H H')(h:Hl T H a e):Hl T H' a e:=by
 obtain⟨dx,ka,h1,h2⟩:=h;exact⟨dx,ka,s _ _ h1,h2.same s⟩
theorem Ji.same{T:All w K mg}{H H':Hp}{a:Addr}{e:Vbdeag.Watch}(s:A7 H H')(h:Ji T H a e):Ji T H' a e:=⟨h.choose,s _ _ h.choose_spec⟩
theorem Dg.who{T:All w K mg}{H:Hp}{a:Addr}{e:Vbdeag.Entry}(h:Dg T H a e):Jh K H a e.id:=by
 obtain⟨dx,ka,h1,h2⟩:=h;exact⟨_,dx,_,h1,T.GH.cl,T.GH.no _ (by simp),U⟩
theorem Hj.who{T:All w K mg}{H:Hp}{a:Addr}{e:Vbdeag.Guest}(h:Hj T H a e):Jh K H a e.id:=by
 obtain⟨dx,ka,h1,h2⟩:=h;exact⟨_,dx,_,h1,T.ES.cl,T.ES.no _ (by simp),U⟩
theorem Hl.who{T:All w K mg}{H:Hp}{a:Addr}{e:Vbdeag.Side}(h:Hl T H a e):Jh K H a e.id:=by
 obtain⟨dx,ka,h1,h2⟩:=h;exact⟨_,dx,_,h1,T.DE.cl,T.DE.no _ (by simp),U⟩
theorem Ji.who{T:All w K mg}{H:Hp}{a:Addr}{e:Vbdeag.Watch}(h:Ji T H a e):Jh K H a e.id:=by
 obtain⟨dx,h1⟩:=h;exact⟨_,dx,_,h1,T.Dm.cl,T.Dm.no _ (by simp),U⟩
inductive QO(T:All w K mg)(vs:List V)(H:Hp)(Q:VK)(E:XK):Prop
 |mk(a:Addr)(e:Vbdeag.Entry):vs=[.ref a]->Dg T H a e->Q (.int (worth e.key)) H->QO T vs H Q E
theorem E5(T:All w K mg):Ok P w base T.Gw 1 (QO T):=by
 refine T.Gw.go gC λcdv A outer s H vs Q E hr h Cc=>?_;obtain⟨a,e,rfl,⟨dx,ka,h1,dk,h2⟩,k⟩:=h;refine⟨_,(AK (Am (Av (Av (pv 0))))),?_⟩;exact⟨_,U,a,_,dx,_,V.ref ka,U,h1,T.GH.cl,T.GH.no _ (by simp),U,ka,_,dk,_,V.int (worth e.key),U,h2,T.Ck.cl,T.Ck.no _ (by simp),U,k⟩
end
section
variable{P:Program}{w:World}{K:PySem.W.Frag}{mg:Str->Option Value}{base:Heap}
inductive Jj(T:All w K mg)(vs:List V)(H:Hp)(Q:VK)(E:XK):Prop
 |mk(l m:Addr)(zs:List (Addr×Int))(ids:List Int):vs=[.ref l,.ref m]->A1 K H l (refs zs)->A1 K H m (ids.map V.int)->zs.length<=100000->ids.length<=100000->(∀z∈zs,Jh K H z.1 z.2)->(∀(H':Hp)(p:Addr),A7 H H'->H p=none->H' p=some (.lst (refs (zs.filter λz=>!ids.contains z.2)))->Q (.ref p) H')->Jj T vs H Q E
theorem FI(T:All w K mg):Ok P w base T.Qj 1 (Jj T):=by
 refine T.Qj.go Li λcdv A outer s H vs Q E hr h Cc=>?_;obtain⟨l,m,zs,ids,rfl,hS,hm,hz,hi,hw,k⟩:=h;refine⟨_,(AE (pA (i:=2) Li.nd U (Or.inr U) qT)
  (AE (EK BK U (Bx (pv 1)) (BW (i:=3) Li.nd U (Or.inl U))
    (AK (kI (cW hr) (pv 2) (pv 3) Ip U)))
  (AK (Am (Fi (own:=[("waiter",4)]) (tt:=(tB (kH (RX K (CD 4) "who") (CD 2)))) (te:=(CD 4)) U Li.nd (Bx (pv 0)) (CS (by rfl)) (λ_ _ _ _ _=>BW (i:=4) Li.nd U (Or.inl U)) (λ_ _ _ _ _=>Pq (v9 (mH (cW hr) (Av (pv 4)) (pv 2)))) (λ_ _ _ _ _=>(pv 4))))))),?_⟩
 intro d hd;refine⟨_,U,m,U,⟨_,(AO hd).seq hm⟩,FT (K:=K) (a:=m) (xs:=ids.map V.int) (λi σ H'=>∃(kvs:List (L2.Key×V))(v:Option V),σ=[some (.ref l),some (.ref m),some (.ref d),v,none]/\H'=upd H d (.dK kvs)/\kvs.length<=i/\∀n:Int,(Es kvs (.inl n)).isSome=(ids.take i).contains n)
  ⟨[],none,U,U,AU _,λn=>by simp[Es]⟩ (λi σ H' _ ⟨_,_,_,e,_⟩=>by rw[e];exact(AO hd).seq hm) ?_ ?_⟩
 ·rintro i y σ H' hi' ⟨kvs,v,rfl,rfl,hl,hc⟩;obtain⟨n,hn,rfl⟩:=kZ hi';have hlt:i<ids.length:=(AZ.mp hn).1;refine⟨_,U,_,U,d,_,U,aN.k (k:=Sum.inl n) AD (by omega),putK kvs (Sum.inl n) (V.bl true),_,U,Cj,Aw (Iq _ _ _) (Eo hl),λz=>?_⟩;rw[UU,take_snoc hn,BF];by_cases e:(Sum.inl z:L2.Key)=Sum.inl n
  ·rw[AJ e];have:z=n:=Mc e;subst this;simp
  ·rw[AI e,hc z,BF];have:z≠n:=λq=>e (by rw[q]);simp[this]
 ·rintro σ H' ⟨kvs,v,rfl,rfl,hl,hc⟩;rw[AA,BR]at hc;have s1:A7 H (upd H d (.dK kvs)):=AO hd;refine⟨_,U,l,U,⟨_,s1.seq hS⟩,λD hD=>JD (s1.seq hS) (by omega) (by show 4<5;decide) hD (λz=>!(Es kvs (Sum.inl z.2)).isSome) (λz=>V.ref z.1) (λz hz' H' hs R hR=>?_) (λz hz' _ H' hs R hR=>⟨_,U,hR⟩) ?_⟩
  ·obtain⟨C,dx,fs,e,c,n,lk⟩:=(hw z hz').same (s1.trans hs);exact⟨_,U,_,C,dx,fs,_,U,e,c,n,lk,_,U,d,_,U,XY.k (k:=Sum.inl z.2) (hs _ _ AD),_,U,hR⟩
  ·refine k _ D (s1.trans (AO hD)) (s1.free hD) ?_;rw[AD];(have:(zs.filter λz=>!(Es kvs (Sum.inl z.2)).isSome)=zs.filter λz=>!ids.contains z.2:=CJ λz _=>by rw[hc]);rw[this];rfl
def MP(cond:Int)(a b:Int):Bool:=
 if cond=1 then decide (a=b)else if cond=2 then decide (a<b)else if cond=3 then decide (b<a)else if cond=4 then !decide (a=b)else if cond=5 then decide (a<=b)else if cond=6 then decide (b<=a)else true
inductive Ur(T:All w K mg)(vs:List V)(H:Hp)(Q:VK)(E:XK):Prop
 |mk(a ka:Addr)(e:Vbdeag.Entry)(c:Int)(q:Vbdeag.Key):vs=[.ref a,.int c,.ref ka]->Dg T H a e->Dv T H ka q->Q (.bl (MP c (worth e.key) (worth q))) H->Ur T vs H Q E
theorem eU(T:All w K mg):Ok P w base T.Xf 2 (Ur T):=by
 refine T.Xf.go eT λcdv A outer s H vs Q E hr h Cc=>?_;obtain⟨a,ka,e,c,q,rfl,he,⟨dk,hk⟩,k⟩:=h;refine⟨_,(AE (DJ eT 3 (Bu (E5 T) hr (AB (pv 0) AF)))
  (AE (B_ (BX E7 (pv 1) Ag) (AK (Am (Iv E7 (pv 3) (Av (pv 2))))) Bc)
  (AE (B_ (BX E7 (pv 1) Ag) (AK (Am (Iv RW (pv 3) (Av (pv 2))))) Bc)
  (AE (B_ (BX E7 (pv 1) Ag) (AK (Am (Iv K_ (pv 3) (Av (pv 2))))) Bc)
  (AE (B_ (BX E7 (pv 1) Ag) (AK (Am (Iv U3 (pv 3) (Av (pv 2))))) Bc)
  (AE (B_ (BX E7 (pv 1) Ag) (AK (Am (Iv iU (pv 3) (Av (pv 2))))) Bc)
  (AE (B_ (BX E7 (pv 1) Ag) (AK (Am (Iv Zd (pv 3) (Av (pv 2))))) Bc)
  (AK (Am Ip))))))))),?_⟩
 refine⟨_,U,a,e,U,he,?_⟩;have no:=T.Ck.no "worth" (by simp);have dI:∀x y:Int,decide (V.int x=V.int y)=decide (x=y):=λx y=>CW.mpr ⟨λz=>V.int.inj z,λz=>by rw[z]⟩;unfold MP at k;refine⟨_,U,U,_,U,DL (λh=>?_) λh=>?_⟩
 ·have hc:c=1:=V.int.inj (AX h);rw[AJ hc,<-dI]at k;exact⟨_,U,_,U,ka,_,dk,_,V.int (worth q),U,hk,T.Ck.cl,no,U,U,k⟩
 have n1:¬c=1:=λz=>h (AM (by rw[z]));rw[AI n1]at k;refine⟨_,U,U,_,U,DL (λh=>?_) λh=>?_⟩
 ·have hc:c=2:=V.int.inj (AX h);rw[AJ hc]at k;exact⟨_,U,_,U,ka,_,dk,_,V.int (worth q),U,hk,T.Ck.cl,no,U,_,_,U,U,k⟩
 have n2:¬c=2:=λz=>h (AM (by rw[z]));rw[AI n2]at k;refine⟨_,U,U,_,U,DL (λh=>?_) λh=>?_⟩
 ·have hc:c=3:=V.int.inj (AX h);rw[AJ hc]at k;exact⟨_,U,_,U,ka,_,dk,_,V.int (worth q),U,hk,T.Ck.cl,no,U,_,_,U,U,k⟩
 have n3:¬c=3:=λz=>h (AM (by rw[z]));rw[AI n3]at k;refine⟨_,U,U,_,U,DL (λh=>?_) λh=>?_⟩
 ·have hc:c=4:=V.int.inj (AX h);rw[AJ hc,<-dI]at k;exact⟨_,U,_,U,ka,_,dk,_,V.int (worth q),U,hk,T.Ck.cl,no,U,U,k⟩
 have n4:¬c=4:=λz=>h (AM (by rw[z]));rw[AI n4]at k;refine⟨_,U,U,_,U,DL (λh=>?_) λh=>?_⟩
 ·have hc:c=5:=V.int.inj (AX h);rw[AJ hc]at k;exact⟨_,U,_,U,ka,_,dk,_,V.int (worth q),U,hk,T.Ck.cl,no,U,_,_,U,U,k⟩
 have n5:¬c=5:=λz=>h (AM (by rw[z]));rw[AI n5]at k;refine⟨_,U,U,_,U,DL (λh=>?_) λh=>?_⟩
 ·have hc:c=6:=V.int.inj (AX h);rw[AJ hc]at k;exact⟨_,U,_,U,ka,_,dk,_,V.int (worth q),U,hk,T.Ck.cl,no,U,_,_,U,U,k⟩
 have n6:¬c=6:=λz=>h (AM (by rw[z]));rw[AI n6]at k;exact k
end
def IG(wd:Int)(aw ac ap ad:Addr):List (Str×V):=[("word",.int wd),("watchers",.ref aw),("chains",.ref ac),("points",.ref ap),("doors",.ref ad)]
structure Lo where
 dx:Addr
 aw:Addr
 ac:Addr
 ap:Addr
 ad:Addr
 zw:List (Addr×Vbdeag.Watch)
 zc:List (Addr×List (Addr×Vbdeag.Entry))
 zp:List (Addr×List (Addr×Vbdeag.Guest))
 zd:List (Addr×List (Addr×Vbdeag.Side))
def Lo.foot(L:Lo)(r:Addr):List Addr:=r::L.aw::L.ac::L.ap::L.ad::(L.zc.map (·.1)++(L.zp.map (·.1)++L.zd.map (·.1)))
section
variable{P:Program}{w:World}{K:PySem.W.Frag}{mg:Str->Option Value}{base:Heap}
structure Ah(T:All w K mg)(H:Hp)(r:Addr)(b:Vbdeag.Bank)(L:Lo):Prop where
 obj:H r=some (.ins T.Bw L.dx (IG b.word L.aw L.ac L.ap L.ad))
 lw:H L.aw=some (.lst (refs L.zw))
 lc:H L.ac=some (.lst (refs L.zc))
 lp:H L.ap=some (.lst (refs L.zp))
 ld:H L.ad=some (.lst (refs L.zd))
 ww:∀z∈L.zw,Ji T H z.1 z.2
 cc:∀z∈L.zc,H z.1=some (.lst (refs z.2))/\∀y∈z.2,Dg T H y.1 y.2
 pp:∀z∈L.zp,H z.1=some (.lst (refs z.2))/\∀y∈z.2,Hj T H y.1 y.2
 dd:∀z∈L.zd,H z.1=some (.lst (refs z.2))/\∀y∈z.2,Hl T H y.1 y.2
 nd:(L.foot r).Nodup
 bw:b.watches=L.zw.map (·.2)
 bc:b.chains=L.zc.map λz=>z.2.map (·.2)
 bp:b.points=L.zp.map λz=>z.2.map (·.2)
 bd:b.doors=L.zd.map λz=>z.2.map (·.2)
theorem Ah.same{T:All w K mg}{H H':Hp}{r:Addr}{b:Vbdeag.Bank}{L:Lo}(s:A7 H H')(h:Ah T H r b L):Ah T H' r b L:=
 ⟨s _ _ h.obj,s _ _ h.lw,s _ _ h.lc,s _ _ h.lp,s _ _ h.ld,λz m=>(h.ww z m).same s,λz m=>⟨s _ _ (h.cc z m).1,λy n=>((h.cc z m).2 y n).same s⟩,λz m=>⟨s _ _ (h.pp z m).1,λy n=>((h.pp z m).2 y n).same s⟩,
  λz m=>⟨s _ _ (h.dd z m).1,λy n=>((h.dd z m).2 y n).same s⟩,h.nd,h.bw,h.bc,h.bp,h.bd⟩
def CZ{α:Type}(f:α->Nat)(zs:List (Addr×α)):List (Addr×Int):=zs.map λy=>(y.1,(f y.2:Int))
def Lo.rows(L:Lo):List (Addr×List (Addr×Int)):=
 [(L.aw,CZ (·.id) L.zw)]++L.zc.map (λz=>(z.1,CZ (·.id) z.2))++L.zp.map (λz=>(z.1,CZ (·.id) z.2))++L.zd.map (λz=>(z.1,CZ (·.id) z.2))
theorem C2{α:Type}(f:α->Nat)(zs:List (Addr×α)):refs (CZ f zs)=refs zs:=by unfold refs CZ;rw[An];rfl
theorem Dr{α:Type}(a b:List (Addr×α)):refs (a++b)=refs a++refs b:=As
theorem C1{α:Type}{f:α->Nat}{zs:List (Addr×α)}{y:Addr×Int}(h:y∈CZ f zs):∃z∈zs,y=(z.1,(f z.2:Int)):=by
 obtain⟨z,hz,e⟩:=AG.mp h;exact⟨z,hz,e.symm⟩
theorem Ah.rows{T:All w K mg}{H:Hp}{r:Addr}{b:Vbdeag.Bank}{L:Lo}(h:Ah T H r b L):∀z∈L.rows,H z.1=some (.lst (refs z.2))/\∀y∈z.2,Jh K H y.1 y.2:=by
 intro z m;unfold Lo.rows at m;rcases AQ.mp m with m|m
 ·rcases AQ.mp m with m|m
  ·rcases AQ.mp m with m|m
   ·rw[Af.mp m];refine⟨by dsimp only;rw[C2];exact h.lw,λy n=>?_⟩;obtain⟨x,hx,rfl⟩:=C1 n;exact(h.ww x hx).who
   ·obtain⟨u,hu,rfl⟩:=AG.mp m;refine⟨by dsimp only;rw[C2];exact(h.cc u hu).1,λy n=>?_⟩;obtain⟨x,hx,rfl⟩:=C1 n;exact((h.cc u hu).2 x hx).who
  ·obtain⟨u,hu,rfl⟩:=AG.mp m;refine⟨by dsimp only;rw[C2];exact(h.pp u hu).1,λy n=>?_⟩;obtain⟨x,hx,rfl⟩:=C1 n;exact((h.pp u hu).2 x hx).who
 ·obtain⟨u,hu,rfl⟩:=AG.mp m;refine⟨by dsimp only;rw[C2];exact(h.dd u hu).1,λy n=>?_⟩;obtain⟨x,hx,rfl⟩:=C1 n;exact((h.dd u hu).2 x hx).who
inductive eV(T:All w K mg)(vs:List V)(H:Hp)(Q:VK)(E:XK):Prop
 |mk(r:Addr)(x:Int)(b:Vbdeag.Bank)(L:Lo):vs=[.ref r,.int x]->0<=x->Ah T H r b L->L.zc.length<=64->L.zp.length<=64->L.zd.length<=64->(∀H':Hp,A7 H H'->Q (.bl (Vbdeag.waits b x.toNat)) H')->eV T vs H Q E
end
end So
namespace So
def mx(m:Option Int)(x:Int):Int:=match m with
 |none=>x
 |some y=>if y>x then y else x
def pm(m:Option Int):List Int->List Int
 | []=>[]
 |x::r=>mx m x::pm (some (mx m x)) r
theorem iO(m:Option Int):∀l:List Int,(pm m l).length=l.length
 | []=>rfl
 |x::r=>by show(pm _ r).length+1=r.length+1;rw[iO]
def O6(m:Option Int)(l:List Int):Option Int:=match l.getLast? with
 |none=>m
 |some y=>some y
theorem kh(x:Int):∀(m:Option Int)(l:List Int),pm m (l++[x])=pm m l++[mx (O6 m (pm m l)) x]
 |m,[]=>rfl
 |m,a::r=>by
  show mx m a::pm _ (r++[x])=mx m a::pm _ r++[_];rw[kh x _ r];have e:O6 m (mx m a::pm (some (mx m a)) r)=O6 (some (mx m a)) (pm (some (mx m a)) r):=by
   unfold O6;cases h:pm (some (mx m a)) r with
   |nil=>rfl
   |cons y t=>rw[List.getLast?_cons_cons]
              cases q:(y::t).getLast? with
              |none=>simp at q
              |some z=>rfl
  show _=mx m a::pm _ r++[mx (O6 m (mx m a::pm (some (mx m a)) r)) x];rw[e];rfl
theorem dD{m:Option Int}{x:Int}:x<=mx m x/\∀y,m=some y->y<=mx m x:=by
 cases m with
 |none=>exact⟨Qc _,λy h=>by cases h⟩
 |some z=>
  constructor
  ·show x<=if z>x then z else x
   split<;>omega
  ·intro y h;cases h;show z<=if z>x then z else x
   split<;>omega
theorem oh{m:Option Int}{x:Int}:mx m x=x\/m=some (mx m x):=by
 cases m with
 |none=>exact .inl U
 |some z=>
  unfold mx;by_cases h:z>x
  ·exact .inr (by simp[h])
  ·exact .inl (by simp[h])
theorem uu:∀(m:Option Int)(l:List Int)(y:Int),m=some y->∀z∈pm m l,y<=z
 |m,[],y,h,z,hz=>absurd hz (by simp[pm])
 |m,x::r,y,h,z,hz=>by
  rcases AN.mp hz with rfl|hz
  ·exact dD.2 y h
  ·have:=uu _ r _ U z hz;have h2:=(dD (m:=m) (x:=x)).2 y h;omega
theorem eW:∀(m:Option Int)(l:List Int),(pm m l).Pairwise (·<=·)
 |m,[]=>List.Pairwise.nil
 |m,x::r=>List.Pairwise.cons (λz hz=>uu _ r _ U z hz) (eW _ r)
theorem xJ{x:Int}:∀(m:Option Int)(l:List Int),(∀y,m=some y->y<=x)->(∀z∈pm m l,x<=z)->pm (some x) l=pm m l
 |m,[],_,_=>rfl
 |m,a::r,h1,h2=>by
  have q:=h2 _ (Ac ..);have e:mx (some x) a=mx m a:=by
   have g1:=(dD (m:=m) (x:=a)).1;rcases oh (m:=m) (x:=a)with g|g
   ·rw[g]at q⊢;unfold mx;simp only;rw[AI (by omega)]
   ·have:=h1 _ g;(have ex:mx m a=x:=by omega);rw[ex];unfold mx;simp only;by_cases ha:x>a
    ·rw[AJ ha]
    ·rw[AI ha];omega
  show mx (some x) a::pm (some (mx (some x) a)) r=mx m a::pm (some (mx m a)) r;rw[e]
theorem pS{x:Int}:∀(m:Option Int)(l:List Int)(s:Nat),s<=l.length->(∀y,m=some y->y<=x)->(∀z∈(pm m l).take s,z<=x)->(∀z∈(pm m l).drop s,x<=z)->
 pm m (l.take s++x::l.drop s)=(pm m l).take s++x::(pm m l).drop s
 |m,l,0,_,h1,_,h3=>by
  show mx m x::pm (some (mx m x)) l=x::pm m l;have e:mx m x=x:=by
   rcases oh (m:=m) (x:=x)with g|g
   ·exact g
   ·have:=h1 _ g;have:=(dD (m:=m) (x:=x)).1;omega
  rw[e,xJ m l h1 h3]
 |m,[],s+1,hs,_,_,_=>by simp at hs
 |m,a::r,s+1,hs,h1,h2,h3=>by
  have ih:=pS (x:=x) (some (mx m a)) r s (by simpa using hs) (λy hy=>by cases hy;exact h2 _ (by show _∈List.take (s+1) (mx m a::pm _ r);simp)) (λz hz=>h2 z (by show _∈List.take (s+1) (mx m a::pm _ r);simp[hz])) (λz hz=>h3 z hz);show mx m a::pm (some (mx m a)) (r.take s++x::r.drop s)=mx m a::(pm (some (mx m a)) r).take s++x::(pm (some (mx m a)) r).drop s;rw[ih];rfl
theorem ak{α:Type}(h:α->Int)(f:α->Vbdeag.Entry)(p:Vbdeag.Entry->Bool)(bound:Int)(e:α):∀(m:Option Int)(l:List α)(s:Nat),(∀a∈l,p (f a)=decide (bound<=h a))->s<=l.length->(∀y,m=some y->y<bound)->
 (∀z∈(pm m (l.map h)).take s,z<bound)->(∀z∈(pm m (l.map h)).drop s,bound<=z)->Vbdeag.before p (f e) (l.map f)=(l.take s++e::l.drop s).map f
 |m,[],s,_,hs,_,_,_=>by
  have:s=0:=by simpa using hs
  subst this;rfl
 |m,a::r,0,hp,_,h1,_,h3=>by
  have q:=h3 (mx m (h a)) (Ac ..);have g:bound<=h a:=by
   rcases oh (m:=m) (x:=h a)with g|g
   ·omega
   ·have:=h1 _ g;omega
  show(if p (f a)=true then f e::f a::r.map f else f a::Vbdeag.before p (f e) (r.map f))=f e::f a::r.map f;rw[AJ (by rw[hp a (Ac ..)];exact AM g)]
 |m,a::r,s+1,hp,hs,h1,h2,h3=>by
  have q:=h2 (mx m (h a)) (by show _∈List.take (s+1) (mx m (h a)::pm _ (r.map h));simp);have g:=(dD (m:=m) (x:=h a)).1;have ih:=ak h f p bound e (some (mx m (h a))) r s (λb hb=>hp b (AV _ hb)) (by simpa using hs) (λy hy=>by cases hy;exact q) (λz hz=>h2 z (by show _∈List.take (s+1) (mx m (h a)::pm _ (r.map h));simp[hz])) (λz hz=>h3 z hz);show(if p (f a)=true then f e::f a::r.map f else f a::Vbdeag.before p (f e) (r.map f))=f a::(r.take s++e::r.drop s).map f;rw[AI (by rw[hp a (Ac ..)];intro z;have:=AX z;omega),ih]
def hgt(order:Int)(e:Vbdeag.Entry):Int:=if order=4\/order=5 then-worth e.key else worth e.key
def bnd(order:Int)(e:Vbdeag.Entry):Int:=if order=3\/order=5 then hgt order e else hgt order e+1
def uv(order:Nat)(e y:Vbdeag.Entry):Bool:=match order with
 |2=>e.key.lt y.key
 |3=>e.key.le y.key
 |4=>y.key.lt e.key
 |_=>y.key.le e.key
theorem Zx{order:Nat}(h2:2<=order)(h5:order<=5)(e:Vbdeag.Entry)(l:List Vbdeag.Entry):Vbdeag.linked order e l=Vbdeag.before (uv order e) e l:=by
 match order,h2,h5 with
 |2,_,_=>rfl
 |3,_,_=>rfl
 |4,_,_=>rfl
 |5,_,_=>rfl
theorem nM{order:Nat}(h2:2<=order)(h5:order<=5){e y:Vbdeag.Entry}(he:Bh e.key)(hy:Bh y.key):uv order e y=decide (bnd (order:Int) e<=hgt (order:Int) y):=by
 match order,h2,h5 with
 |2,_,_=>
  show e.key.lt y.key=decide (worth e.key+1<=worth y.key);rw[IE he hy];exact CW.mpr (by omega)
 |3,_,_=>
  show e.key.le y.key=decide (worth e.key<=worth y.key);rw[Pb he hy]
 |4,_,_=>
  show y.key.lt e.key=decide (-worth e.key+1<=-worth y.key);rw[IE hy he];exact CW.mpr (by omega)
 |5,_,_=>
  show y.key.le e.key=decide (-worth e.key<=-worth y.key);rw[Pb hy he];exact CW.mpr (by omega)
end So
namespace So
open Vbdeag (Entry taken takenFrom)
theorem Qt(p:Entry->Bool):∀(l:List Entry)(n:Nat),(taken p l n).1=(l.filter p).take n
 | [],n=>by simp[taken]
 |e::r,0=>by simp[taken]
 |e::r,n+1=>by
  unfold taken;rw[AI (Wr n)];cases h:p e with
  |true=>
   rw[AJ U,BN,h,AJ U,Rl];show e::(taken p r (n+1-1)).1=_;rw[GI,Qt p r n]
  |false=>
   rw[AI Au,BN,h,AI Au];exact Qt p r (n+1)
theorem filter_all{α:Type}{l:List α}{q:α->Bool}(h:∀a∈l,q a=true):l.filter q=l:=Dh.mpr h
theorem Qu(p:Entry->Bool):∀(l:List Entry)(n:Nat),(l.map (·.id)).Nodup->(taken p l n).2=l.filter λe=>!(((l.filter p).take n).map (·.id)).contains e.id
 | [],n,_=>by simp[taken]
 |e::r,0,_=>by
  have:(taken p (e::r) 0).2=e::r:=by simp[taken]
  rw[this,filter_all λa _=>by simp]
 |e::r,n+1,nd=>by
  obtain⟨n1,n2⟩:=BQ.mp (show(e.id::r.map (·.id)).Nodup from nd);have sub:∀m,∀i∈((r.filter p).take m).map (·.id),i∈r.map (·.id):=λm i hi=>by
   obtain⟨a,ha,rfl⟩:=AG.mp hi;exact AG.mpr ⟨a,(A5.mp (Ct ha)).1,U⟩
  unfold taken;rw[AI (Wr n)];cases h:p e with
  |true=>
   rw[AJ U];show(taken p r (n+1-1)).2=_;rw[GI,Qu p r n n2,BN (p:=p),h,AJ U,Rl,Ay,BN];rw[AI (by simp)];refine CJ λa ha=>?_;have:a.id≠e.id:=λz=>n1 (by rw[<-z];exact AG.mpr ⟨a,ha,U⟩)
   congr 1
   rw[JF,Bd.mpr this,SN]
  |false=>
   rw[AI Au];show e::(taken p r (n+1)).2=_;rw[Qu p r (n+1) n2,BN (p:=p),h,AI Au,BN];rw[AJ];rw[Mx,BF];exact BJ λz=>n1 (sub _ _ z)
def WH(back:Bool)(n:Nat)(p:Entry->Bool)(l:List Entry):List Entry:=(if back=true then(l.filter p).reverse else l.filter p).take n
theorem U9(back:Bool)(p:Entry->Bool)(l:List Entry)(n:Nat)(nd:(l.map (·.id)).Nodup):takenFrom back p l n=(WH back n p l,l.filter λe=>!((WH back n p l).map (·.id)).contains e.id):=by
 unfold takenFrom WH;cases back with
 |false=>
  rw[AI Au,AI Au];have h1:=Qt p l n;have h2:=Qu p l n nd;rw[<-h2,<-h1]
 |true=>
  rw[AJ U,AJ U];have xK:(l.reverse.map (·.id)).Nodup:=by rw[Ep];exact(Gp _).nodup_iff.mpr nd
  have h1:=Qt p l.reverse n;have h2:=Qu p l.reverse n xK;rw[Rm]at h1 h2;show((taken p l.reverse n).1,(taken p l.reverse n).2.reverse)=_;rw[h1,h2,Rm,List.reverse_reverse]
end So
namespace So
open Vbdeag (Entry)
open L2 (V NR)
open PySem (Addr)
theorem Yx{γ:Type}(r:Int->Int->Prop)(anti:∀a b,r a b->r b a->a=b):∀(ps qs:List (Int×γ)),ps.Pairwise (λp q=>r p.1 q.1)->qs.Pairwise (λp q=>r p.1 q.1)->(∀c,ps.filter (λp=>p.1==c)=qs.filter (λp=>p.1==c))->ps=qs
 | [],[],_,_,_=>rfl
 | [],q::qs,_,_,h=>by
   have:=h q.1;rw[PD,BN,AJ (by simp)]at this;exact absurd this (by simp)
 |p::ps,[],_,_,h=>by
  have:=h p.1;rw[PD,BN,AJ (by simp)]at this;exact absurd this (by simp)
 |p::ps,q::qs,hp,hq,h=>by
  obtain⟨p1,p2⟩:=Cs.mp hp;obtain⟨q1,q2⟩:=Cs.mp hq;have e:p.1=q.1:=by
   (have a1:p∈(q::qs).filter (λx=>x.1==p.1):=by rw[<-h];exact A5.mpr ⟨Ac ..,by simp⟩);(have a2:q∈(p::ps).filter (λx=>x.1==q.1):=by rw[h];exact A5.mpr ⟨Ac ..,by simp⟩);rcases AN.mp (A5.mp a1).1 with z|z
   ·rw[z]
   ·rcases AN.mp (A5.mp a2).1 with y|y
    ·rw[y]
    ·exact anti _ _ (p1 q y) (q1 p z)
  have h0:=h p.1;rw[BN,AJ (by simp),BN,AJ (by simp[e])]at h0;have e1:p=q:=(List.cons.inj h0).1;subst e1
  congr 1
  refine Yx r anti ps qs p2 q2 λc=>?_;have:=h c;rw[BN,BN]at this;by_cases z:(p.1==c)=true
  ·rw[AJ z,AJ z]at this;exact(List.cons.inj this).2
  ·rw[AI z,AI z]at this;exact this
section
variable{α:Type}
def ins(k:α->Int)(e:α):List α->List α
 | []=>[e]
 |y::r=>if k e<k y then e::y::r else y::ins k e r
def nN(k:α->Int)(zs:List α):List α:=zs.foldl (λr e=>ins k e r) []
theorem Xl(k:α->Int)(e:α):∀{l:List α}{x:α},x∈ins k e l->x=e\/x∈l
 | [],x,h=>.inl (Af.mp h)
 |y::r,x,h=>by
  unfold ins at h
  split at h
  ·exact AN.mp h
  ·rcases AN.mp h with rfl|h
   ·exact .inr (Ac ..)
   ·exact(Xl k e h).imp id λz=>AV _ z
theorem ao(k:α->Int)(e:α):∀l:List α,l.Pairwise (λa b=>k a<=k b)->(ins k e l).Pairwise λa b=>k a<=k b
 | [],_=>DR ..
 |y::r,h=>by
  unfold ins;obtain⟨h1,h2⟩:=Cs.mp h
  split
  ·refine Cs.mpr ⟨λx hx=>?_,h⟩;rcases AN.mp hx with rfl|hx
   ·omega
   ·have:=h1 x hx;omega
  ·refine Cs.mpr ⟨λx hx=>?_,ao k e r h2⟩;rcases Xl k e hx with rfl|hx
   ·omega
   ·exact h1 x hx
theorem Yy(k:α->Int)(e:α)(c:Int):∀l:List α,l.Pairwise (λa b=>k a<=k b)->(ins k e l).filter (λz=>k z==c)=(l++[e]).filter (λz=>k z==c)
 | [],_=>rfl
 |y::r,h=>by
  unfold ins;obtain⟨h1,h2⟩:=Cs.mp h
  split
  ·rename_i hlt;have none:k e=c->(y::r).filter (λz=>k z==c)=[]:=λec=>Jc.mpr λx hx=>by
    have:k y<=k x:=by
     rcases AN.mp hx with rfl|hx
     ·exact Qc _
     ·exact h1 x hx
    have:k x≠c:=by omega
    simpa using this
   rw[Cr,BN (x:=e),BN (x:=e),PD];by_cases ec:k e=c
   ·rw[AJ (by simpa using ec),AJ (by simpa using ec),none ec,FE]
   ·rw[AI (by simpa using ec),AI (by simpa using ec),Bk]
  ·rw[Nu,BN,BN,Yy k e c r h2]
theorem iP(k:α->Int):∀(zs l:List α),l.Pairwise (λa b=>k a<=k b)->(zs.foldl (λr e=>ins k e r) l).Pairwise (λa b=>k a<=k b)/\∀c,(zs.foldl (λr e=>ins k e r) l).filter (λz=>k z==c)=(l++zs).filter (λz=>k z==c)
 | [],l,h=>⟨h,λc=>by rw[Bk];rfl⟩
 |e::zs,l,h=>by
  obtain⟨h1,h2⟩:=iP k zs (ins k e l) (ao k e l h);refine⟨h1,λc=>?_⟩;show(zs.foldl (λr e=>ins k e r) (ins k e l)).filter (λz=>k z==c)=_;rw[h2 c,Cr,Yy k e c l h,<-Cr,Bm];rfl
theorem cB(k:α->Int)(x:α):∀(zs l:List α),x∈zs.foldl (λr e=>ins k e r) l->x∈zs\/x∈l
 | [],l,h=>.inr h
 |e::zs,l,h=>by
  rcases cB k x zs _ h with h|h
  ·exact .inl (AV _ h)
  ·rcases Xl k e h with rfl|h
   ·exact .inl (Ac ..)
   ·exact .inr h
theorem U_{b:Bool}{kz:List Int}{zs:List (Addr×α)}{ys:List V}{k0:Addr×α->Int}(hk:kz=zs.map k0)(h:NR b kz (zs.map λz=>V.ref z.1) ys):ys=(nN (λz=>if b=true then-k0 z else k0 z) zs).map λz=>V.ref z.1:=by
 obtain⟨ps,hp,hy,hs,hf⟩:=h;obtain⟨g1,g2⟩:=iP (λz=>if b=true then-k0 z else k0 z) zs [] List.Pairwise.nil;have hz:kz.zip (zs.map λz=>V.ref z.1)=zs.map λz=>(k0 z,V.ref z.1):=by
  rw[hk,List.zip_map']
 rw[hz]at hf;have e:ps=(nN (λz=>if b=true then-k0 z else k0 z) zs).map λz=>(k0 z,V.ref z.1):=by
  refine Yx (λp q=>if b then q<=p else p<=q) (λa c=>?_) _ _ hs ?_ λc=>?_
  ·cases b
   ·exactλh1 h2=>Int.le_antisymm h1 h2
   ·exactλh1 h2=>Int.le_antisymm h2 h1
  ·rw[Mv];refine g1.imp λ{x y} h=>?_;cases b
   ·exact h
   ·have h':-k0 x<=-k0 y:=h;show k0 y<=k0 x;omega
  ·rw[hf c,DI,DI]
   congr 1
   have:=g2 (if b=true then-c else c);rw[FE]at this;have q:∀l:List (Addr×α),l.filter ((λp:Int×V=>p.1==c)∘λz=>(k0 z,V.ref z.1))=l.filter λz=>(if b=true then-k0 z else k0 z)==(if b=true then-c else c):=λl=>CJ λz _=>by
    cases b
    ·rfl
    ·show(k0 z==c)=(-k0 z==-c);by_cases h:k0 z=c
     ·rw[h];simp
     ·rw[Bd.mpr h,Bd.mpr (by omega)]
   rw[q,q];exact this.symm
 rw[hy,e,An];rfl
end
def dF(f:Bool)(e:Entry):Int:=if f=true then-worth e.key else worth e.key
theorem Yz{α:Type}(g:α->Entry)(f:Bool)(e:α)(he:Bh (g e).key):∀l:List α,(∀y∈l,Bh (g y).key)->(ins (λz=>dF f (g z)) e l).map g=Vbdeag.linked (if f=true then 4 else 2) (g e) (l.map g)
 | [],_=>by cases f<;>rfl
 |y::r,h=>by
  have ih:=Yz g f e he r λy hy=>h y (AV _ hy);have hy:=h y (Ac ..);cases f with
  |false=>
   show _=Vbdeag.before (λy=>(g e).key.lt y.key) (g e) (g y::r.map g);have ih:_=Vbdeag.before (λy=>(g e).key.lt y.key) (g e) (r.map g):=ih;unfold ins Vbdeag.before;rw[IE he hy,<-ih];by_cases z:worth (g e).key<worth (g y).key
   ·rw[AJ (AM z),AJ (show dF false (g e)<dF false (g y)from z)];rfl
   ·rw[AI (λq=>z (AX q)),AI (show¬dF false (g e)<dF false (g y)from z)];rfl
  |true=>
   show _=Vbdeag.before (λy=>y.key.lt (g e).key) (g e) (g y::r.map g);have ih:_=Vbdeag.before (λy=>y.key.lt (g e).key) (g e) (r.map g):=ih;unfold ins Vbdeag.before;rw[IE hy he,<-ih];by_cases z:worth (g y).key<worth (g e).key
   ·rw[AJ (AM z),AJ (show dF true (g e)<dF true (g y)from(show-worth (g e).key< -worth (g y).key by omega))];rfl
   ·rw[AI (λq=>z (AX q)),AI (show¬dF true (g e)<dF true (g y)from(show¬-worth (g e).key< -worth (g y).key by omega))];rfl
theorem Tr{α:Type}(g:α->Entry)(f:Bool):∀(zs l:List α),(∀y∈zs,Bh (g y).key)->(∀y∈l,Bh (g y).key)->(zs.foldl (λr e=>ins (λz=>dF f (g z)) e r) l).map g=(zs.map g).foldl (λr e=>Vbdeag.linked (if f=true then 4 else 2) e r) (l.map g)
 | [],l,_,_=>rfl
 |e::zs,l,h1,h2=>by
  have he:=h1 e (Ac ..);have:=Tr g f zs (ins (λz=>dF f (g z)) e l) (λy hy=>h1 y (AV _ hy)) λy hy=>(Xl _ e hy).elim (λz=>z▸he) (h2 y);show(zs.foldl (λr e=>ins (λz=>dF f (g z)) e r) (ins (λz=>dF f (g z)) e l)).map g=(zs.map g).foldl _ (Vbdeag.linked _ (g e) (l.map g));rw[this,Yz g f e he l h2]
theorem Y0(f:Bool)(zs:List (Addr×Entry))(h:∀y∈zs,Bh y.2.key):(nN (λz=>if f=true then-worth z.2.key else worth z.2.key) zs).map (·.2)=Vbdeag.sorted f (zs.map (·.2)):=
 Tr (λz:Addr×Entry=>z.2) f zs [] h λ_ z=>absurd z Aq
end So
namespace So
open Vbdeag (Bank Entry Guest Side Watch Key everyone at_ whereIn place rankOf)
theorem pT{x:Nat}:∀{l:List Nat},x∈l->l[at_ l x]?=some x/\∀m,m<at_ l x->∀y,l[m]?=some y->y≠x
 | [],h=>absurd h Aq
 |a::l,h=>by
  by_cases e:a=x
  ·(have e0:at_ (a::l) x=0:=by unfold at_;rw[Lb,AI (by simp[e])];rfl);rw[e0];exact⟨B5 some e,λm hm=>absurd hm (FF m)⟩
  ·(have e1:at_ (a::l) x=at_ l x+1:=by unfold at_;rw[Lb,AJ (by simp[e])];rfl);have ih:=pT (l:=l) ((AN.mp h).resolve_left λz=>e z.symm);rw[e1];refine⟨ih.1,λm hm y hy=>?_⟩;cases m with
   |zero=>exactλz=>e ((BB hy).trans z)
   |succ m=>exact ih.2 m (Ox hm) y hy
theorem Kc{a x:Nat}{l:List Nat}:at_ (a::l) x=if a=x then 0 else at_ l x+1:=by
 unfold at_;rw[Lb];by_cases e:a=x
 ·rw[AI (by simp[e]),AJ e];rfl
 ·rw[AJ (by simp[e]),AI e];rfl
theorem getD_at{α:Type}{ls:List (List α)}{n:Nat}{l:List α}(h:ls[n]?=some l):ls.getD n []=l:=by rw[A3,h];rfl
theorem WI{k:Int}{ls:List (List Nat)}{x n:Nat}{l:List Nat}(hl:ls.length<=64)(h:ls[n]?=some l)(hx:x∈l)(hn:∀j,j<n->∀l',ls[j]?=some l'->x∉l'):whereIn k ls x=some [k,(n:Int),(at_ l x:Int)]:=by
 have hlt:=(AZ.mp h).1;have f:(List.range 64).find? (λi=>(ls.getD i []).contains x)=some n:=by
  rw[List.find?_range_eq_some];refine⟨?_,JU.mpr (by omega),λj hj=>?_⟩
  ·show(ls.getD n []).contains x=true;rw[getD_at h,BF];exact AM hx
  ·(have hj':j<ls.length:=by omega);have e:=hn j hj ls[j] (Ak hj');have g:ls.getD j []=ls[j]:=getD_at (Ak hj');show(!(ls.getD j []).contains x)=true;rw[g,BF,BJ e];rfl
 unfold whereIn;show((List.range 64).find? λi=>(ls.getD i []).contains x).map _=_;rw[f];show some [k,(n:Int),(at_ (ls.getD n []) x:Int)]=_;rw[getD_at h]
theorem Jk{k:Int}{ls:List (List Nat)}{x:Nat}(h:∀l∈ls,x∉l):whereIn k ls x=none:=by
 unfold whereIn;have f:(List.range Vbdeag.MANY).find? (λi=>(ls.getD i []).contains x)=none:=by
  rw[DO];intro i _ z;by_cases hi:i<ls.length
  ·rw[getD_at (Ak hi),BF]at z;exact h _ (Ny hi) (AX z)
  ·rw[A3,CT (by omega)]at z;exact absurd z (by simp)
 rw[f];rfl
theorem jN{ls:List (List Nat)}{x:Nat}(h:∃l∈ls,x∈l):∃(n:Nat)(l:List Nat),ls[n]?=some l/\x∈l/\(∀j:Nat,j<n->∀l',ls[j]?=some l'->x∉l'):=by
 obtain⟨l,hl',hx⟩:=h;obtain⟨n,hn⟩:=Bt.mp hl'
 suffices H:∀(m n:Nat)(l:List Nat),n<=m->ls[n]?=some l->x∈l->∃(n:Nat)(l:List Nat),ls[n]?=some l/\x∈l/\(∀j:Nat,j<n->∀l',ls[j]?=some l'->x∉l')from H n n l (AU _) hn hx
 intro m
 induction m with
 |zero=>
  intro n l h0 h1 h2;exact⟨n,l,h1,h2,λj hj=>by omega⟩
 |succ m ih=>
  intro n l h0 h1 h2;by_cases z:∀j,j<n->∀l',ls[j]?=some l'->x∉l'
  ·exact⟨n,l,h1,h2,z⟩
  ·have:∃j:Nat,j<n/\∃l',ls[j]?=some l'/\x∈l':=by
    refine CF λq=>z λj hj l' hl' hx'=>q ⟨j,hj,l',hl',hx'⟩
   obtain⟨j,hj,l',e,hx'⟩:=this;exact ih j l' (by omega) e hx'
def WJ(b:Bank):List (List (List Nat)):=[[b.watches.map λw=>w.id],b.chains.map λl=>l.map λe=>e.id,b.points.map λl=>l.map λe=>e.id,b.doors.map λl=>l.map λe=>e.id]
structure Full(b:Bank):Prop where
 nc:b.chains.length<=64
 np:b.points.length<=64
 nd:b.doors.length<=64
theorem aq{b:Bank}(F:Full b){k n x:Nat}{ls:List (List Nat)}{l:List Nat}(hk:(WJ b)[k]?=some ls)(hn:ls[n]?=some l)(hx:x∈l)(h1:∀j,j<n->∀l',ls[j]?=some l'->x∉l')(h2:∀j,j<k->∀ls',(WJ b)[j]?=some ls'->∀l'∈ls',x∉l'):place b x=[(k:Int)+1,(n:Int),(at_ l x:Int)]:=by
 have w:∀l:List Nat,x∉l->l.contains x=false:=λl h=>by rw[BF];exact BJ h
 unfold place;dsimp only
 match k,hk,h2 with
 |0,hk,h2=>
  cases hk;have:n=0:=by
   cases n with
   |zero=>rfl
   |succ n=>exact absurd hn (by simp)
  subst this;cases hn;rw[AJ (by rw[BF];exact AM hx)];rfl
 |1,hk,h2=>
  cases hk;rw[w _ (h2 0 (by decide) _ U _ (Af.mpr U)),AI Au,WI (by rw[AA];exact F.nc) hn hx h1];rfl
 |2,hk,h2=>
  cases hk;rw[w _ (h2 0 (by decide) _ U _ (Af.mpr U)),AI Au,Jk (h2 1 (by decide) _ U)];dsimp only;rw[WI (by rw[AA];exact F.np) hn hx h1];rfl
 |3,hk,h2=>
  cases hk;rw[w _ (h2 0 (by decide) _ U _ (Af.mpr U)),AI Au,Jk (h2 1 (by decide) _ U)];dsimp only;rw[Jk (h2 2 (by decide) _ U)];dsimp only;rw[WI (by rw[AA];exact F.nd) hn hx h1];rfl
 |k+4,hk,h2=>exact absurd hk (by simp[WJ])
theorem Y3{b:Bank}{x:Nat}(h2:∀j,j<4->∀ls',(WJ b)[j]?=some ls'->∀l'∈ls',x∉l'):place b x=[0,0,0]:=by
 have w:∀l:List Nat,x∉l->l.contains x=false:=λl h=>by rw[BF];exact BJ h
 unfold place;dsimp only;rw[w _ (h2 0 (by decide) _ U _ (Af.mpr U)),AI Au,Jk (h2 1 (by decide) _ U)];dsimp only;rw[Jk (h2 2 (by decide) _ U)];dsimp only;rw[Jk (h2 3 (by decide) _ U)]
theorem Og{b:Bank}{x:Nat}:x∈everyone b↔∃(j:Nat)(ls:List (List Nat))(l:List Nat),(WJ b)[j]?=some ls/\l∈ls/\x∈l:=by
 have e:everyone b=(WJ b).flatten.flatten:=by
  unfold everyone WJ;simp[List.flatMap,List.flatten]
 rw[e];constructor
 ·intro h;obtain⟨l,hl,hx⟩:=J4.mp h;obtain⟨ls,hls,hl⟩:=J4.mp hl;obtain⟨j,hj⟩:=Bt.mp hls;exact⟨j,ls,l,hj,hl,hx⟩
 ·rintro⟨j,ls,l,hj,hl,hx⟩;exact J4.mpr ⟨l,J4.mpr ⟨ls,AS hj,hl⟩,hx⟩
theorem eX{b:Bank}(F:Full b)(x:Nat):(Vbdeag.waits b x=false/\place b x=[0,0,0])\/(Vbdeag.waits b x=true/\∃(k n:Nat)(ls:List (List Nat))(l:List Nat),(WJ b)[k]?=some ls/\ls[n]?=some l/\x∈l/\(∀j,j<n->∀l',ls[j]?=some l'->x∉l')/\(∀j,j<k->∀ls',(WJ b)[j]?=some ls'->∀l'∈ls',x∉l')/\place b x=[(k:Int)+1,(n:Int),(at_ l x:Int)]):=by
 by_cases hx:x∈everyone b
 ·right;refine⟨by unfold Vbdeag.waits;rw[BF];exact AM hx,?_⟩;obtain⟨j,ls,l,hj,hl,hx⟩:=Og.mp hx;have fin:∀k:Nat,k<=4->(∀j:Nat,j<k->∀ls',(WJ b)[j]?=some ls'->∀l'∈ls',x∉l')\/∃(k':Nat)(ls:List (List Nat))(l:List Nat),(WJ b)[k']?=some ls/\l∈ls/\x∈l/\(∀j,j<k'->∀ls',(WJ b)[j]?=some ls'->∀l'∈ls',x∉l'):=by
   intro k
   induction k with
   |zero=>exactλ_=>.inl λj hj=>absurd hj (FF j)
   |succ k ih=>
    intro hk;rcases ih (by omega)with h|h
    ·by_cases z:∀ls',(WJ b)[k]?=some ls'->∀l'∈ls',x∉l'
     ·refine .inl λj hj=>?_;by_cases e:j=k
      ·subst e;exact z
      ·exact h j (by omega)
     ·refine .inr ?_;have:∃ls,(WJ b)[k]?=some ls/\∃l∈ls,x∈l:=CF λq=>z λls hls l hl hxl=>q ⟨ls,hls,l,hl,hxl⟩;obtain⟨ls,h1,l,h2,h3⟩:=this;exact⟨k,ls,l,h1,h2,h3,h⟩
    ·exact .inr h
  rcases fin 4 (AU _)with h|⟨k,ls,l,h1,h2,h3,h4⟩
  ·exfalso;have:j<4:=(AZ.mp hj).1;exact h j this ls hj l hl hx
  ·have len:ls.length<=64:=by
    match k,h1 with
    |0,h1=>cases h1;show 1<=64;decide
    |1,h1=>cases h1;rw[AA];exact F.nc
    |2,h1=>cases h1;rw[AA];exact F.np
    |3,h1=>cases h1;rw[AA];exact F.nd
    |k+4,h1=>exact absurd h1 (by simp[WJ])
   obtain⟨n,l',a,c,d⟩:=jN ⟨l,h2,h3⟩;exact⟨k,n,ls,l',h1,a,c,d,h4,aq F h1 a c d h4⟩
 ·left;refine⟨by unfold Vbdeag.waits;rw[BF];exact BJ hx,Y3 λj _ ls hls l hl hxl=>hx (Og.mpr ⟨j,ls,l,hls,hl,hxl⟩)⟩
section
variable(k:Entry->Int)
theorem ki{y:Entry}:∀{l:List Entry},l.Pairwise (λa b=>k a<=k b)->y.id∉l.map (λe=>e.id)->at_ ((ins k y l).map λe=>e.id) y.id=(l.filter λz=>decide (k z<=k y)).length
 | [],_,_=>by show at_ [y.id] y.id=0;rw[Kc,AJ U]
 |a::l,hp,hn=>by
  obtain⟨h1,h2⟩:=Cs.mp hp;rw[Ay,AN,RT]at hn;unfold ins;by_cases c:k y<k a
  ·rw[AJ c,Ay,Kc,AJ U];have:(a::l).filter (λz=>decide (k z<=k y))=[]:=Jc.mpr λz hz q=>by
    have q:=AX q;rcases AN.mp hz with rfl|hz
    ·omega
    ·have:=h1 z hz;omega
   rw[this];rfl
  ·rw[AI c,Ay,Kc,AI (CI hn.1),ki h2 hn.2,BN,AJ (AM (by omega))];rfl
theorem kj{y e:Entry}{x:Nat}(hy:y.id≠x):∀{l:List Entry},l.Pairwise (λa b=>k a<=k b)->l.find? (λz=>z.id==x)=some e->at_ ((ins k y l).map λe=>e.id) x=at_ (l.map λe=>e.id) x+if k y<k e then 1 else 0
 | [],_,h=>by cases h
 |a::l,hp,h=>by
  obtain⟨h1,h2⟩:=Cs.mp hp;unfold ins;by_cases ea:a.id=x
  ·rw[Jd (by simp[ea])]at h;obtain rfl:a=e:=BB h;by_cases c:k y<k a
   ·rw[AJ c,AJ c,Ay,Ay,Kc,AI hy]
   ·rw[AI c,AI c,Ay,Ay,Kc,Kc,AJ ea,AJ ea]
  ·rw[Ea (by simp[ea])]at h;by_cases c:k y<k a
   ·have me:=Dp h;have:=h1 e me;rw[AJ c,AJ (show k y<k e by omega),Ay,Ay,Kc,AI hy]
   ·rw[AI c,Ay,Ay,Kc,Kc,AI ea,AI ea,kj hy h2 h];omega
end
theorem eY{x:Nat}{l:List Entry}{y:Entry}:(l++[y]).find? (λz=>z.id==x)=match l.find? (λz=>z.id==x)with
  |some e=>some e
  |none=>if y.id=x then some y else none:=by
 rw[List.find?_append];cases l.find? (λz=>z.id==x)with
 |some e=>rfl
 |none=>
  show(none:Option Entry).or (List.find? (λz=>z.id==x) [y])=if y.id=x then some y else none;rw[Option.none_or];by_cases e:y.id=x
  ·rw[Jd (by simp[e]),AJ e]
  ·rw[Ea (by simp[e]),AI e];rfl
theorem eZ{x:Nat}{e y:Entry}:∀{l:List Entry},l.find? (λz=>z.id==x)=some e->∀n,rankOf x l=some n->rankOf x (l++[y])=some (n+if y.key.lt e.key=true then 1 else 0)
 | [],h,_,_=>by cases h
 |a::l,h,n,hr=>by
  by_cases ea:a.id=x
  ·rw[Jd (by simp[ea])]at h;obtain rfl:a=e:=BB h;(have:rankOf x (a::l)=some (l.filter λy=>y.key.lt a.key).length:=by unfold rankOf;rw[AJ ea]);rw[this]at hr;cases hr;show rankOf x (a::(l++[y]))=_;unfold rankOf;rw[AJ ea,Cr,AL]
   congr 2
   by_cases c:y.key.lt a.key=true
   ·rw[AJ c,BN,AJ c];rfl
   ·rw[AI c,BN,AI c];rfl
  ·rw[Ea (by simp[ea])]at h;have e1:rankOf x (a::l)=(rankOf x l).map λn=>match l.find? λy=>y.id==x with
    |some y=>if a.key.le y.key=true then n+1 else n
    |none=>n:=by rw[rankOf,AI ea];rfl
   rw[e1,h]at hr;cases hq:rankOf x l with
   |none=>rw[hq]at hr;cases hr
   |some m=>
    rw[hq]at hr;have ih:=eZ (y:=y) h m hq;show rankOf x (a::(l++[y]))=_;rw[rankOf,AI ea,ih,eY,h];have hr:(if a.key.le e.key=true then m+1 else m)=n:=BB hr;show some (if a.key.le e.key=true then(m+if y.key.lt e.key=true then 1 else 0)+1 else m+if y.key.lt e.key=true then 1 else 0)=_
    congr 1
    rw[<-hr];by_cases c:a.key.le e.key=true
    ·rw[AJ c,AJ c];omega
    ·rw[AI c,AI c]
theorem au{x:Nat}:∀{l:List Entry},l.find? (λz=>z.id==x)=none->rankOf x l=none
 | [],_=>rfl
 |a::l,h=>by
  have ea:¬a.id=x:=by
   have:=DO.mp h a (Ac ..)
   simpa using this
  rw[Ea (by simp[ea])]at h;rw[rankOf,AI ea,au h];rfl
theorem ee{x:Nat}{y:Entry}(hy:y.id=x):∀{l:List Entry},l.find? (λz=>z.id==x)=none->rankOf x (l++[y])=some (l.filter λz=>z.key.le y.key).length
 | [],_=>by show rankOf x [y]=some 0;rw[rankOf,AJ hy];rfl
 |a::l,h=>by
  have ea:¬a.id=x:=by
   have:=DO.mp h a (Ac ..)
   simpa using this
  rw[Ea (by simp[ea])]at h;show rankOf x (a::(l++[y]))=_;rw[rankOf,AI ea,ee hy h,eY,h];show some (match (if y.id=x then some y else none)with
   |some z=>if a.key.le z.key=true then _ else _
   |none=>_)=_
  rw[AJ hy,BN];show some (if a.key.le y.key=true then _ else _)=_;by_cases c:a.key.le y.key=true
  ·rw[AJ c,AJ c];rfl
  ·rw[AI c,AI c]
theorem jO{α β:Type}(f:β->α->β)(b:β)(l:List α)(a:α):(l++[a]).foldl f b=f (l.foldl f b) a:=by rw[Gq];rfl
theorem eu{α:Type}(k:α->Int):∀(zs l:List α),(zs.foldl (λr e=>ins k e r) l).Perm (zs++l)
 | [],l=>DB _
 |e::zs,l=>by
  have h:∀l:List α,(ins k e l).Perm (e::l):=λl=>by
   induction l with
   |nil=>exact DB _
   |cons a r ih=>
    unfold ins
    split
    ·exact DB _
    ·exact(List.Perm.cons a ih).trans (List.Perm.swap e a r)
  refine(eu k zs (ins k e l)).trans ?_;refine((h l).append_left zs).trans ?_;exact Hw
theorem find_perm{x:Nat}{l m:List Entry}(hp:l.Perm m)(nd:(m.map λe=>e.id).Nodup):l.find? (λz=>z.id==x)=m.find? (λz=>z.id==x):=by
 cases h:m.find? (λz=>z.id==x)with
 |none=>
  rw[DO]at h⊢;exactλz hz=>h z (hp.mem_iff.mp hz)
 |some e=>
  have m1:=Dp h;have p1:=List.find?_some h;have inj:∀a∈l,(a.id==x)=true->a=e:=λa ha hx=>by
   have ha':=hp.mem_iff.mp ha;(have e1:a.id=e.id:=by rw[EE.mp hx,EE.mp p1]);obtain⟨i,hi⟩:=Bt.mp ha';obtain⟨j,hj⟩:=Bt.mp m1;have:=Mf.mp nd;obtain⟨hi1,hi2⟩:=AZ.mp hi;obtain⟨hj1,hj2⟩:=AZ.mp hj;rcases Nat.lt_trichotomy i j with q|q|q
   ·exact absurd (by rw[J5,J5,hi2,hj2];exact e1) (this i j (by simpa using hi1) (by simpa using hj1) q)
   ·subst q;exact hi2.symm.trans hj2
   ·exact absurd (by rw[J5,J5,hi2,hj2];exact e1.symm) (this j i (by simpa using hj1) (by simpa using hi1) q)
  cases h':l.find? (λz=>z.id==x)with
  |none=>
   rw[DO]at h';exact absurd p1 (h' e (hp.mem_iff.mpr m1))
  |some a=>rw[inj a (Dp h') (by have:=List.find?_some h';exact this)]
def kw(e:Entry):Int:=worth e.key
theorem jP{l:List Entry}(h:∀y∈l,Bh y.key):Vbdeag.sorted false l=nN kw l:=by
 have:=Tr (λz:Entry=>z) false l [] h λ_ z=>absurd z Aq;rw[Oo,Oo]at this;exact(this.trans (by rw[Oo];rfl)).symm
theorem jQ{l:List Entry}{y:Entry}(nd:((l++[y]).map λe=>e.id).Nodup):(l.map λe=>e.id).Nodup/\y.id∉l.map λe=>e.id:=by
 rw[As,Bo]at nd;refine⟨nd.1,λz=>?_⟩;exact nd.2.2 _ z _ (Af.mpr U) U
theorem e_{x:Nat}:∀(n:Nat)(l:List Entry),l.length=n->(∀y∈l,Bh y.key)->(l.map λe=>e.id).Nodup->x∈l.map (λe=>e.id)->rankOf x l=some (at_ ((nN kw l).map λe=>e.id) x)
 |0,l,hl,_,_,hx=>by
  cases l with
  |nil=>exact absurd hx Aq
  |cons a l=>cases hl
 |n+1,l,hl,hk,nd,hx=>by
  rcases List.eq_nil_or_concat l with rfl|⟨m,y,rfl⟩
  ·exact absurd hx Aq
  rw[List.concat_eq_append]at*;have hm:m.length=n:=by rw[AL]at hl;exact VN hl
  obtain⟨uw,ny⟩:=jQ nd;have hk1:∀z∈m,Bh z.key:=λz hz=>hk z (CK _ hz);have ky:=hk y (BD _ (Af.mpr U));have es:nN kw (m++[y])=ins kw y (nN kw m):=jO ..;have so:(nN kw m).Pairwise λa b=>kw a<=kw b:=(iP kw m [] List.Pairwise.nil).1;have pm:(nN kw m).Perm m:=by have:=eu kw m [];rwa [Bk]at this
  rw[es];by_cases e:y.id=x
  ·subst e;have fn:m.find? (λz=>z.id==y.id)=none:=DO.mpr λz hz q=>ny (AG.mpr ⟨z,hz,EE.mp q⟩);rw[ee U fn,ki kw so λz=>ny ((pm.map _).mem_iff.mp z)]
   congr 1
   have:(m.filter λz=>z.key.le y.key)=m.filter λz=>decide (kw z<=kw y):=CJ λz hz=>Pb (hk1 z hz) ky;rw[this];exact((pm.filter _).length_eq).symm
  ·have hx':x∈m.map λe=>e.id:=by
    rw[As,AQ]at hx;exact hx.resolve_right λz=>e (Af.mp z).symm
   have ih:=e_ n m hm hk1 uw hx';cases hf:m.find? (λz=>z.id==x)with
   |none=>
    obtain⟨z,hz,q⟩:=AG.mp hx';exact absurd (EE.mpr q) (DO.mp hf z hz)
   |some a=>
    have ha:=Dp hf;rw[eZ hf _ ih,kj kw e so ((find_perm pm uw).trans hf)]
    congr 2
    rw[IE ky (hk1 a ha)];show(if decide (kw y<kw a)=true then 1 else 0)=_;by_cases c:kw y<kw a
    ·rw[AJ c,AJ (AM c)]
    ·rw[AI c,AI λz=>c (AX z)]
theorem t9{x:Nat}{l:List Entry}(hk:∀y∈l,Bh y.key)(nd:(l.map λe=>e.id).Nodup)(hx:x∈l.map (λe=>e.id)):rankOf x l=some (at_ ((Vbdeag.sorted false l).map λe=>e.id) x):=by
 rw[jP hk];exact e_ _ l U hk nd hx
theorem ku{x:Nat}{l:List Entry}(hx:x∉l.map (λe=>e.id)):rankOf x l=none:=
 au (DO.mpr λz hz q=>hx (AG.mpr ⟨z,hz,EE.mp q⟩))
theorem Y4{x:Nat}:∀{ls:List (List Entry)}{n:Nat}{l:List Entry},ls[n]?=some l->(∀j,j<n->∀l',ls[j]?=some l'->x∉l'.map λe=>e.id)->∀r,rankOf x l=some r->ls.findSome? (rankOf x)=some r
 | [],n,l,h,_,_,_=>by cases h
 |a::ls,0,l,h,_,r,hr=>by
  cases h;rw[Rn,hr]
 |a::ls,n+1,l,h,h2,r,hr=>by
  rw[Rn,ku (h2 0 (Nat.succ_pos n) a U)];exact Y4 (n:=n) h (λj hj l' e=>h2 (j+1) (Nat.succ_lt_succ hj) l' e) r hr
theorem t_{b:Bank}(F:Full b)(hk:∀l∈b.chains,∀y∈l,Bh y.key)(nd:(everyone b).Nodup)(x:Nat):∃k r,place b x=k::r/\(k≠2->b.chains.findSome? (rankOf x)=none)/\
 (k=2->∃n i:Nat,r=[(n:Int),(i:Int)]/\n<64/\x∈(b.chain n).map (λe=>e.id)/\b.chains.findSome? (rankOf x)=some (at_ ((Vbdeag.sorted false (b.chain n)).map λe=>e.id) x)):=by
 have none_of:(∀l∈b.chains,x∉l.map λe=>e.id)->b.chains.findSome? (rankOf x)=none:=λh=>List.findSome?_eq_none_iff.mpr λl hl=>ku (h l hl);rcases eX F x with ⟨h1,h2⟩|⟨h1,k,n,ls,l,a1,a2,a3,a4,a5,a6⟩
 ·refine⟨0,[0,0],h2,λ_=>none_of λl hl hx=>?_,λz=>absurd z (by decide)⟩;have:x∈everyone b:=Og.mpr ⟨1,_,_,U,AG.mpr ⟨l,hl,U⟩,hx⟩;unfold Vbdeag.waits at h1;rw[BF]at h1;exact UL h1 this
 ·refine⟨(k:Int)+1,_,a6,λhk2=>none_of λl' hl' hx=>?_,λhk2=>?_⟩
  ·have hne:k≠1:=λz=>hk2 (by rw[z];rfl)
   match k,a1,a5,hne with
   |0,a1,_,_=>
    cases a1;have:n=0:=by
     cases n with
     |zero=>rfl
     |succ n=>exact absurd a2 (by simp)
    subst this;cases a2;have xK:=nd;unfold everyone at xK;rw[Bo]at xK;exact xK.2.2 x a3 x (CK _ (Hx.mpr ⟨l',hl',hx⟩)) U
   |1,_,_,h=>exact h U
   |k+2,_,a5,_=>exact a5 1 (by omega) _ U _ (AG.mpr ⟨l',hl',U⟩) hx
  ·(have k1:k=1:=by omega);subst k1;cases a1;rw[Ai]at a2;cases hc:b.chains[n]? with
   |none=>rw[hc]at a2;cases a2
   |some m=>
    rw[hc]at a2;cases a2;have e1:b.chain n=m:=getD_at hc;have hm:m∈b.chains:=AS hc;have ndm:(m.map λe=>e.id).Nodup:=by
     unfold everyone at nd;rw[Bo]at nd;have:=(Bo.mp nd.2.1).1;exact(Pk.mp this).1 m hm
    refine⟨n,at_ (m.map λe=>e.id) x,U,?_,e1.symm▸a3,?_⟩
    ·have:=(AZ.mp hc).1;exact BH this F.nc
    ·rw[e1];refine Y4 hc (λj hj l' e=>?_) _ (t9 (hk m hm) ndm a3);exact a4 j hj _ (by rw[Ai,e];rfl)
theorem Rt(e:Entry):∀l:List Entry,Vbdeag.disorder (l++[e])=Vbdeag.disorder l+(l.filter λy=>e.key.lt y.key).length
 | []=>rfl
 |a::l=>by
  show((l++[e]).filter _).length+Vbdeag.disorder (l++[e])=(_+Vbdeag.disorder l)+_;rw[Rt e l,Cr,AL,BN (x:=a)];by_cases c:e.key.lt a.key=true
  ·rw[AJ c,BN,AJ c,Ab];show _+1+(_+_)=_+_+(_+1);omega
  ·rw[AI c,BN,AI c];show _+0+(_+_)=_+_+_;omega
end So
namespace So
open Vbdeag (Bank Entry Guest Side Watch Key everyone Read readMany readLists inR okX okW okC okKey)
def chunk(k:Nat):Nat->List Int->List (List Int)
 |0,_=>[]
 |_+1,[]=>[]
 |f+1,a::l=>(a::l).take k::chunk k f ((a::l).drop k)
def Bq(k:Nat)(l:List Int):List (List Int):=chunk k l.length l
theorem ay(k:Nat)(hk:1<=k):∀(f g:Nat)(l:List Int),l.length<=f->l.length<=g->chunk k f l=chunk k g l
 |0,g,[],_,_=>by cases g<;>rfl
 |0,g,a::l,h,_=>absurd h (Cu _)
 |f+1,0,[],_,_=>rfl
 |f+1,0,a::l,_,h=>absurd h (Cu _)
 |f+1,g+1,[],_,_=>rfl
 |f+1,g+1,a::l,h1,h2=>by
  show _::chunk k f _=_::chunk k g _;have e:((a::l).drop k).length=l.length+1-k:=by rw[A2,Ab]
  have h1:l.length+1<=f+1:=h1;have h2:l.length+1<=g+1:=h2;rw[ay k hk f g _ (by omega) (by omega)]
theorem HZ{k:Nat}(hk:1<=k){l:List Int}(h:l≠[]):Bq k l=l.take k::Bq k (l.drop k):=by
 cases l with
 |nil=>exact absurd rfl h
 |cons a l=>
  show _::chunk k l.length _=_::chunk k _ _;have e:((a::l).drop k).length=l.length+1-k:=by rw[A2,Ab]
  rw[ay k hk l.length _ _ (by omega) (AU _)]
theorem k6{k:Nat}(hk:1<=k):∀(i:Nat)(l:List Int),i*k<l.length->(Bq k l)[i]?=some ((l.drop (i*k)).take k)
 |0,l,h=>by
  rw[VO]at h⊢;rw[HZ hk (by intro z;rw[z]at h;cases h)];rfl
 |i+1,l,h=>by
  rw[JP]at h⊢;rw[HZ hk (by intro z;rw[z]at h;cases h)];show(Bq k (l.drop k))[i]?=_;rw[k6 hk i (l.drop k) (by rw[A2];omega),DC,Nat.add_comm k]
theorem YZ{k:Nat}(hk:1<=k):∀(n:Nat)(l:List Int),l.length<=n->(Bq k l).length=(l.length+k-1)/k
 |n,[],_=>by show 0=(0+k-1)/k;rw[J6 (by omega)]
 |0,a::l,h=>absurd h (Cu _)
 |n+1,a::l,h=>by
  have h:l.length+1<=n+1:=h;rw[HZ hk (by simp),Ab,YZ hk n _ (by rw[A2,Ab];omega),A2,Ab];by_cases c:k<=l.length+1
  ·(have:l.length+1+k-1=(l.length+1-k+k-1)+k:=by omega);rw[this,My _ (by omega)]
  ·(have e1:l.length+1-k+k-1=k-1:=by omega);rw[e1,J6 (by omega),show l.length+1+k-1=l.length+k by omega,My _ (by omega),J6 (by omega)]
theorem Xm{k:Nat}(hk:1<=k){i:Nat}{l:List Int}(h:i<(Bq k l).length):i*k<l.length:=by
 rw[YZ hk _ l (AU _)]at h;have h2:(i+1)*k<=l.length+k-1:=Aw (KY k h) (Nat.div_mul_le_self _ _);rw[JP]at h2;omega
theorem fB{k:Nat}(hk:1<=k):∀(c:Nat)(l r:List Int),l.length=c*k->(Bq k l).length=c/\Bq k (l++r)=Bq k l++Bq k r
 |0,l,r,h=>by
  rw[VO]at h;rw[N3.mp h];exact⟨U,U⟩
 |c+1,l,r,h=>by
  rw[JP]at h;have hl:l≠[]:=by intro z;rw[z]at h;simp at h;omega
  have ih:=fB hk c (l.drop k) r (by rw[A2];omega);rw[HZ hk hl,HZ (l:=l++r) hk (by simp[hl]),Ab,ih.1];refine⟨U,?_⟩;rw[List.take_append_of_le_length (by omega),List.drop_append_of_le_length (by omega),ih.2];rfl
structure XN{α:Type}(f:Read α)(k:Nat)(ok:List Int->Bool)(mk:List Int->α):Prop where
 k1:1<=k
 rd:∀l,f l=if ok (l.take k)=true then some (mk (l.take k),l.drop k)else none
 len:∀r,ok r=true->r.length=k
section
variable{α:Type}{f:Read α}{k:Nat}{ok:List Int->Bool}{mk:List Int->α}
theorem az(R:XN f k ok mk):∀(c:Nat)(l:List Int),readMany f c l=if c*k<=l.length/\(Bq k (l.take (c*k))).all ok=true then some ((Bq k (l.take (c*k))).map mk,l.drop (c*k))else none
 |0,l=>by
  rw[VO,JV,AJ ⟨AY _,U⟩,L0];rfl
 |c+1,l=>by
  have k1:=R.k1;show(f l).bind _=_;rw[R.rd];by_cases hok:ok (l.take k)=true
  ·rw[AJ hok];have hl:=R.len _ hok;rw[Bb]at hl;show(readMany f c (l.drop k)).map _=_;rw[az R c (l.drop k),A2];(have e1:(c+1)*k=k+c*k:=by rw[JP,Nat.add_comm]);rw[e1];by_cases c1:c*k<=l.length-k
   ·have hne:l.take (k+c*k)≠[]:=by
     intro z;have:=B5 List.length z;rw[Bb,GR]at this;omega
    have er:Bq k (l.take (k+c*k))=l.take k::Bq k ((l.drop k).take (c*k)):=by
     rw[HZ k1 hne,List.take_take,FG (Ds _ _),List.drop_take,DS]
    rw[er,DV,hok,CL];by_cases c2:(Bq k ((l.drop k).take (c*k))).all ok=true
    ·rw[AJ ⟨c1,c2⟩,AJ ⟨by omega,c2⟩,DC];rfl
    ·rw[AI λz=>c2 z.2,AI λz=>c2 z.2];rfl
   ·rw[AI λz=>c1 z.1,AI λz=>c1 (by omega)];rfl
  ·rw[AI hok];show none=_;rw[AI];rintro⟨h1,h2⟩;rw[JP]at h1 h2;have hne:l.take (c*k+k)≠[]:=by
    intro z;have:=B5 List.length z;rw[Bb,GR]at this;omega
   rw[HZ k1 hne,DV,AR,List.take_take,FG (Nat.le_add_left _ _)]at h2;exact hok h2.1
def IA(k:Nat):Nat->Int->List Int->Option (List (Int×List (List Int)))
 |_,_,[]=>some []
 |0,_,_::_=>none
 |n+1,before,i::r=>match r with
  | []=>none
  |c::r=>if(inR i 0 63&&inR c 1 1000)=true/\before<i then(if c.toNat*k<=r.length then(IA k n i (r.drop (c.toNat*k))).map λps=>(i,Bq k (r.take (c.toNat*k)))::ps else none)else none
def CV(mk:List Int->α)(ls:List (List α))(ps:List (Int×List (List Int))):List (List α):=ps.foldl (λls p=>ls.set p.1.toNat (p.2.map mk)) ls
theorem OG(R:XN f k ok mk):∀(n:Nat)(lo:Int)(ls:List (List α))(l:List Int)(m:Nat),0<=lo->64<=lo+n->l.length<=m->readLists f n lo ls l=match IA k m (lo-1) l with
  |none=>none
  |some ps=>if(ps.all λp=>p.2.all ok)=true then some (CV mk ls ps)else none
 |n,lo,ls,[],m,_,_,_=>by
  have e1:readLists f n lo ls []=some ls:=by cases n<;>rfl
  have e2:IA k m (lo-1) []=some []:=by cases m<;>rfl
  rw[e1,e2];rfl
 |n,lo,ls,i::r,0,_,_,h=>absurd h (Cu _)
 |n,lo,ls,[i],m+1,_,_,h=>by
  have e1:readLists f n lo ls [i]=none:=by cases n<;>rfl
  rw[e1];rfl
 |0,lo,ls,i::c::r,m+1,h0,h1,h2=>by
  have e2:IA k (m+1) (lo-1) (i::c::r)=if(inR i 0 63&&inR c 1 1000)=true/\lo-1<i then(if c.toNat*k<=r.length then(IA k m i (r.drop (c.toNat*k))).map λps=>(i,Bq k (r.take (c.toNat*k)))::ps else none)else none:=rfl;rw[e2,AI]
  ·rfl
  rintro⟨a,b⟩;rw[AR]at a;have:inR i 0 63=true:=a.1;unfold inR at this;rw[AR]at this;have:=AX this.2;have h1:64<=lo+((0:Nat):Int):=h1;omega
 |n+1,lo,ls,i::c::r,m+1,h0,h1,h2=>by
  have h2:r.length+1+1<=m+1:=h2;have e2:IA k (m+1) (lo-1) (i::c::r)=if(inR i 0 63&&inR c 1 1000)=true/\lo-1<i then(if c.toNat*k<=r.length then(IA k m i (r.drop (c.toNat*k))).map λps=>(i,Bq k (r.take (c.toNat*k)))::ps else none)else none:=rfl;have e3:readLists f (n+1) lo ls (i::c::r)=if(inR i lo 63&&inR c 1 1000)=true then(readMany f c.toNat r).bind λy=>readLists f n (i+1) (ls.set i.toNat y.1) y.2 else none:=rfl;rw[e2,e3];have eq:((inR i lo 63&&inR c 1 1000)=true)↔((inR i 0 63&&inR c 1 1000)=true/\lo-1<i):=by
   unfold inR;simp only[AR,Br];omega
  by_cases q:(inR i lo 63&&inR c 1 1000)=true
  ·rw[AJ q,AJ (eq.mp q),az R];by_cases c1:c.toNat*k<=r.length
   ·rw[AJ c1];have hi:0<=i/\lo<=i:=by
     have:=(eq.mp q);unfold inR at this;simp only[AR,Br]at this;omega
    have ih:=OG R n (i+1) (ls.set i.toNat ((Bq k (r.take (c.toNat*k))).map mk)) (r.drop (c.toNat*k)) m (by omega) (by omega) (by rw[A2];omega);rw[Int.add_sub_cancel]at ih;by_cases c2:(Bq k (r.take (c.toNat*k))).all ok=true
    ·rw[AJ ⟨c1,c2⟩];show readLists f n (i+1) _ _=_;rw[ih];cases IA k m i (r.drop (c.toNat*k))with
     |none=>rfl
     |some ps=>
      show(if(ps.all λp=>p.2.all ok)=true then _ else _)=if(((i,Bq k (r.take (c.toNat*k)))::ps).all λp=>p.2.all ok)=true then _ else _;rw[DV,c2,CL];rfl
    ·rw[AI λz=>c2 z.2];show none=_;cases IA k m i (r.drop (c.toNat*k))with
     |none=>rfl
     |some ps=>
      show none=if(((i,Bq k (r.take (c.toNat*k)))::ps).all λp=>p.2.all ok)=true then _ else _;rw[DV,AI];intro z;rw[AR]at z;exact c2 z.1
   ·rw[AI λz=>c1 z.1,AI c1];rfl
  ·rw[AI q,AI λz=>q (eq.mpr z)]
end
end So
namespace So
open PySem PySem.Spec PyProof.Rows L2
theorem a_(ns:List Int):(ns.map V.int).all MN=true:=A0.mpr λv h=>by obtain⟨n,_,rfl⟩:=AG.mp h;rfl
theorem uA(x:Int)(ns:List Int):yX (.int x) (ns.map V.int)=ns.contains x:=by
 unfold yX;rw[List.any_map]
 induction ns with
 |nil=>rfl
 |cons a l ih=>
  rw[IS,JF,ih]
  congr 1
  show(a==x)=(x==a);by_cases h:a=x
  ·rw[h]
  ·rw[Bd.mpr h,Bd.mpr (CI h)]
theorem fC{K:PySem.W.Frag}{H:Hp}{a:Addr}{ns:List Int}{x:Int}{Q:VK}(h:A1 K H a (ns.map V.int))(nn:∀n∈ns,0<=n)(hx:0<=x)(hm:x∈ns)(q:Q (.int (Vbdeag.at_ (ns.map Int.toNat) x.toNat:Nat)) H):aK K (.ref a) [.int x] H Q:=by
 have hm':x.toNat∈ns.map Int.toNat:=AG.mpr ⟨x,hm,U⟩;obtain⟨g1,g2⟩:=pT hm';rw[Ai]at g1;cases e:ns[Vbdeag.at_ (ns.map Int.toNat) x.toNat]? with
 |none=>rw[e]at g1;cases g1
 |some y=>
  rw[e]at g1;have hy:=nn y (AS e);have:y=x:=by have:=BB g1;omega
  subst this;refine⟨a,_,_,_,V.int y,U,U,h,U,a_ ns,by rw[Ai,e];rfl,Nv y,λm z z_ hz=>?_,q⟩;obtain⟨c,hc,rfl⟩:=kZ hz;have:=g2 m z_ c.toNat (by rw[Ai,hc];rfl);exact Bd.mpr λz=>this (by rw[z])
section
variable{P:Program}{w:World}{K:PySem.W.Frag}{mg:Str->Option Value}{base:Heap}
abbrev Kd:=Addr×List (Addr×List (Addr×Int))
def Lo.kinds(L:Lo)(p:Addr):List Kd:=[(p,[(L.aw,CZ (·.id) L.zw)]),(L.ac,L.zc.map λz=>(z.1,CZ (·.id) z.2)),(L.ap,L.zp.map λz=>(z.1,CZ (·.id) z.2)),(L.ad,L.zd.map λz=>(z.1,CZ (·.id) z.2))]
theorem Yb{α:Type}(f:α->Nat)(zs:List (Addr×α)):(CZ f zs).map (λy=>y.2.toNat)=(zs.map (·.2)).map f:=by
 unfold CZ;rw[An,An];exact Di λz _=>Bg _
theorem Ah.WJ{T:All w K mg}{H:Hp}{r:Addr}{b:Vbdeag.Bank}{L:Lo}(h:Ah T H r b L)(p:Addr):So.WJ b=(L.kinds p).map λk=>k.2.map λz=>z.2.map λy=>y.2.toNat:=by
 unfold So.WJ Lo.kinds;rw[h.bw,h.bc,h.bp,h.bd];simp only[Ay,DF,An,Yb];simp only[Vf,Yb,An]
theorem Ah.kinds{T:All w K mg}{H:Hp}{r:Addr}{b:Vbdeag.Bank}{L:Lo}(h:Ah T H r b L){p:Addr}(hp:H p=some (.lst [.ref L.aw])):∀k∈L.kinds p,H k.1=some (.lst (refs k.2))/\∀z∈k.2,(H z.1=some (.lst (refs z.2))/\∀y∈z.2,Jh K H y.1 y.2)/\∀y∈z.2,0<=y.2:=by
 have rr:∀{α:Type}(f:α->Nat)(zs:List (Addr×List (Addr×α))),refs (zs.map λz=>(z.1,CZ f z.2))=refs zs:=λf zs=>by unfold refs;rw[An];rfl
 have nn:∀{α:Type}(f:α->Nat)(zs:List (Addr×α)),∀y∈CZ f zs,0<=y.2:=λf zs y hy=>by obtain⟨z,_,rfl⟩:=C1 hy;exact By _
 have R:=h.rows;intro k hk;unfold Lo.kinds at hk;simp only[AN,Aq,JH]at hk;rcases hk with rfl|rfl|rfl|rfl
 ·refine⟨hp,λz hz=>?_⟩;rw[Af.mp hz];exact⟨R _ (by unfold Lo.rows;simp),nn _ _⟩
 ·refine⟨by rw[rr];exact h.lc,λz hz=>?_⟩;obtain⟨a,ha,rfl⟩:=AG.mp hz;exact⟨R _ (by unfold Lo.rows;simp only[AQ,AG];exact .inl (.inl (.inr ⟨a,ha,U⟩))),nn _ _⟩
 ·refine⟨by rw[rr];exact h.lp,λz hz=>?_⟩;obtain⟨a,ha,rfl⟩:=AG.mp hz;exact⟨R _ (by unfold Lo.rows;simp only[AQ,AG];exact .inl (.inr ⟨a,ha,U⟩)),nn _ _⟩
 ·refine⟨by rw[rr];exact h.ld,λz hz=>?_⟩;obtain⟨a,ha,rfl⟩:=AG.mp hz;exact⟨R _ (by unfold Lo.rows;simp only[AQ,AG];exact .inr ⟨a,ha,U⟩),nn _ _⟩
inductive Y5(T:All w K mg)(vs:List V)(H:Hp)(Q:VK)(E:XK):Prop
 |mk(l:Addr)(zs:List (Addr×Int)):vs=[.ref l]->A1 K H l (refs zs)->(∀z∈zs,Jh K H z.1 z.2)->(∀p,H p=none->Q (.ref p) (upd H p (.lst (zs.map λz=>V.int z.2))))->Y5 T vs H Q E
theorem Y6(T:All w K mg):Ok P w base T.NV 1 (Y5 T):=by
 refine T.NV.go LN λcdv A outer s H vs Q E hr h Cc=>?_;obtain⟨l,zs,rfl,hS,hw,k⟩:=h;refine⟨_,(AK (Am (Fi (own:=[("waiter",1)]) (tt:=GY) (te:=(RX K (CD 1) "who")) U LN.nd (qg (pv 0)) (CS (by rfl)) (λ_ _ _ _ _=>BW (i:=1) LN.nd U (Or.inl U)) (λ_ _ _ _ _=>Dt) (λ_ _ _ _ _=>(Av (pv 1)))))),?_⟩;refine⟨_,U,l,_,U,hS,λhz D hD=>JD hS (by rwa [Al]at hz) (by show 1<2;decide) hD (λ_=>true) (λz=>V.int z.2) (λz hz' H' _ R hR=>hR) (λz hz' _ H' hs R hR=>?_) ?_⟩
 ·obtain⟨C,dx,fs,e,c,n,lk⟩:=(hw z hz').same hs;exact⟨_,U,_,C,dx,fs,_,U,e,c,n,lk,hR⟩
 ·rw[Dh.mpr λ_ _=>rfl];exact k D hD
inductive W0(T:All w K mg)(vs:List V)(H:Hp)(Q:VK)(E:XK):Prop
 |mk(r:Addr)(x:Int)(b:Vbdeag.Bank)(L:Lo):vs=[.ref r,.int x]->0<=x->Ah T H r b L->L.zc.length<=64->L.zp.length<=64->L.zd.length<=64->(∀(H':Hp)(p:Addr),A7 H H'->H p=none->H' p=some (.lst ((Vbdeag.place b x.toNat).map V.int))->Q (.ref p) H')->W0 T vs H Q E
theorem QS(T:All w K mg):Ok P w base T.N6 2 (W0 T):=by
 refine T.N6.go Ir λcdv A outer s H vs Q E hr h Cc=>?_;obtain⟨r,x,b,L,rfl,hx,R,l1,l2,l3,k⟩:=h;refine⟨_,(AE (EK BK U (qf U T.KQ (AB (BS (AB (BS (AB (Av (pv 0)) AF)) (AB (Av (pv 0)) (AB (Av (pv 0)) (AB (Av (pv 0)) AF))))) (AB Ag AF))) (NZ U (Dd (BW (i:=2) Ir.nd U (Or.inl U)) (Dd (BW (i:=3) Ir.nd U (Or.inl U)) Ka)))
  (AK (EK BK U (kJ U T.KQ (AB (pv 3) AF)) (NZ U (Dd (BW (i:=4) Ir.nd U (Or.inl U)) (Dd (BW (i:=5) Ir.nd U (Or.inl U)) Ka)))
    (AE (DJ Ir 6 (Bu (Y6 T) hr (AB (pv 5) AF)))
    (AK (B_ (BX mF (pv 1) (pv 6) U) (AK (Am (BS (AB (pv 2) (AB (pv 4) (AB (GU PySem.F.plainAttrs_list PySem.F.slot_list_index PySem.F.type_list_index dz (pv 6) (AB (pv 1) AF)) AF)))))) Bc))))))
  (AK (Am (BS (AB Ag (AB Ag (AB Ag AF))))))),?_⟩
 have kr:=T.BG;have F:Full b:=⟨by rw[R.bc,AA];exact l1,by rw[R.bp,AA];exact l2,by rw[R.bd,AA];exact l3⟩;refine⟨_,U,r,_,L.dx,_,V.ref L.aw,U,R.obj,kr.cl,kr.no _ (by simp),U,(by show 1<=sizeLine;decide),λp np=>?_⟩;have s1:A7 H (upd H p (.lst [.ref L.aw])):=AO np;refine⟨_,U,r,_,L.dx,_,V.ref L.ac,U,s1 _ _ R.obj,kr.cl,kr.no _ (by simp),U,_,U,r,_,L.dx,_,V.ref L.ap,U,s1 _ _ R.obj,kr.cl,kr.no _ (by simp),U,_,U,r,_,L.dx,_,V.ref L.ad,U,s1 _ _ R.obj,kr.cl,kr.no _ (by simp),U,(by show 4<=sizeLine;decide),λq nq=>?_⟩;have s2:=s1.trans (AO (o:=.lst [.ref p,.ref L.ac,.ref L.ap,.ref L.ad]) nq);have hq:(upd (upd H p (.lst [.ref L.aw])) q (.lst [.ref p,.ref L.ac,.ref L.ap,.ref L.ad])) q=some (.lst (refs (L.kinds p))):=AD;have hp:(upd (upd H p (.lst [.ref L.aw])) q (.lst [.ref p,.ref L.ac,.ref L.ap,.ref L.ad])) p=some (.lst [.ref L.aw]):=AO nq _ _ AD;generalize upd (upd H p (.lst [.ref L.aw])) q (.lst [.ref p,.ref L.ac,.ref L.ap,.ref L.ad])=H2 at s2 hq hp⊢;have R2:=R.same s2;have KK:=R2.kinds hp;have ei:=R2.WJ p;refine⟨q,_,U,A1.of hq,Qi (n:=(L.kinds p).length) (λi=>[.int ((i:Int)+1),((refs (L.kinds p))[i]?).getD .DX]) (λi σ H'=>A7 H2 H'/\(∃a b c d e:Option V,σ=[some (.ref r),some (.int x),a,b,c,d,e])/\∀k∈(L.kinds p).take i,∀z∈k.2,x∉z.2.map (·.2)) ⟨A7.refl _,⟨_,_,_,_,_,U⟩,λk hk=>absurd hk (by simp)⟩
  (λi σ H' _ ⟨e,_⟩=>by
    have:=wY (i:=i) (λi=>[.int ((i:Int)+1),((refs (L.kinds p))[i]?).getD .DX]) (λv hv=>by rw[hv];rfl) (e.seq (A1.of (K:=K) hq));rw[Al]at this;exact this) ?_ ?_⟩
 ·rintro i σ H' t hi ⟨e,⟨a1,a2,a3,a4,a5,rfl⟩,no⟩ nt;obtain⟨kd,hk⟩:∃kd,(L.kinds p)[i]?=some kd:=⟨_,Ak hi⟩;have mk:=AS hk;obtain⟨hl,r_⟩:=KK kd mk;rw[show((refs (L.kinds p))[i]?).getD .DX=.ref kd.1 by rw[BU hk];rfl];have e1:=e.trans (AO (o:=.tup [.int ((i:Int)+1),.ref kd.1]) nt);refine⟨t,_,U,OM.of AD,U,_,_,U,_,_,U,U,?_⟩;generalize upd H' t (.tup [.int ((i:Int)+1),.ref kd.1])=H3 at e1⊢;refine⟨_,U,kd.1,_,U,A1.of (e1 _ _ hl),Qi (n:=kd.2.length) (λj=>[.int (j:Int),((refs kd.2)[j]?).getD .DX]) (λj σ H'=>A7 H2 H'/\(∃c d e:Option V,σ=[some (.ref r),some (.int x),some (.int ((i:Int)+1)),some (.ref kd.1),c,d,e])/\∀z∈kd.2.take j,x∉z.2.map (·.2)) ⟨e1,⟨_,_,_,U⟩,λk hk=>absurd hk (by simp)⟩
   (λj σ H' _ ⟨e,_⟩=>by
     have:=uh (i:=j) (λj=>[.int (j:Int),((refs kd.2)[j]?).getD .DX]) (λv hv=>by rw[hv];rfl) (e.seq (A1.of (K:=K) hl));rw[Al]at this;exact this) ?_ ?_⟩
  ·rintro j σ H4 t2 hj ⟨e4,⟨c1,c2,c3,rfl⟩,xM⟩ ux;obtain⟨z,hz⟩:∃z,kd.2[j]?=some z:=⟨_,Ak hj⟩;have mz:=AS hz;obtain⟨⟨hzl,ABD⟩,hnn⟩:=r_ z mz;rw[show((refs kd.2)[j]?).getD .DX=.ref z.1 by rw[BU hz];rfl];have e5:=e4.trans (AO (o:=.tup [.int (j:Int),.ref z.1]) ux);refine⟨t2,_,U,OM.of AD,U,_,_,U,_,_,U,U,?_⟩;generalize upd H4 t2 (.tup [.int (j:Int),.ref z.1])=H5 at e5⊢;refine⟨_,U,z.1,z.2,U,A1.of (e5 _ _ hzl),λy hy=>(ABD y hy).same e5,λd nd=>?_⟩;have e6:=e5.trans (AO (o:=.lst (z.2.map λz=>V.int z.2)) nd);(have yw:(upd H5 d (.lst (z.2.map λz=>V.int z.2))) d=some (.lst ((z.2.map (·.2)).map V.int)):=by rw[AD,An];rfl);generalize upd H5 d (.lst (z.2.map λz=>V.int z.2))=H6 at e6 yw⊢;refine⟨_,U,_,U,d,_,U,.inl (A1.of yw),U,a_ _,_,U,?_⟩;rw[AI Au,uA];refine DL (λhc=>?_) λhc=>?_
   ·(have hm:x∈z.2.map (·.2):=by rw[BF]at hc;exact AX hc);refine⟨_,U,_,U,_,U,.inl ⟨U,_,A1.of yw⟩,_,U,?_⟩;dsimp only[C_];show aK K _ _ _ _;refine fC (A1.of yw) (λn hn=>?_) hx hm ⟨(by show 3<=sizeLine;decide),λo xN=>?_⟩
    ·obtain⟨y,hy,rfl⟩:=AG.mp hn;exact hnn y hy
    ·have np':H o=none:=s2.free (e6.free xN);refine k _ o ((s2.trans e6).trans (AO xN)) np' ?_;rw[AD];have pl:Vbdeag.place b x.toNat=[(i:Int)+1,(j:Int),(Vbdeag.at_ ((z.2.map (·.2)).map Int.toNat) x.toNat:Int)]:=by
      refine aq F (ls:=kd.2.map λz=>z.2.map λy=>y.2.toNat) (l:=(z.2.map (·.2)).map Int.toNat) ?_ ?_ ?_ ?_ ?_
      ·rw[ei,Ai,hk];rfl
      ·rw[Ai,hz,An];rfl
      ·exact AG.mpr ⟨x,hm,U⟩
      ·intro j' hj' l' hl' hxl;rw[Ai]at hl';cases hz':kd.2[j']? with
       |none=>rw[hz']at hl';cases hl'
       |some z'=>
        rw[hz']at hl';cases hl';obtain⟨y,hy,ey⟩:=AG.mp hxl;have m':=AS hz';have:=(r_ z' m').2 y hy;exact xM z' (Bt.mpr ⟨j',by rw[MK,AJ hj',hz']⟩) (AG.mpr ⟨y,hy,by omega⟩)
      ·intro i' hi' ls' hls l' hl' hxl;rw[ei,Ai]at hls;cases hk':(L.kinds p)[i']? with
       |none=>rw[hk']at hls;cases hls
       |some kd'=>
        rw[hk']at hls;cases hls;obtain⟨z',hz',rfl⟩:=AG.mp hl';obtain⟨y,hy,ey⟩:=AG.mp hxl;have:=((KK kd' (AS hk')).2 z' hz').2 y hy;exact no kd' (Bt.mpr ⟨i',by rw[MK,AJ hi',hk']⟩) z' hz' (AG.mpr ⟨y,hy,by omega⟩)
     rw[pl];rfl
   ·refine⟨e6,⟨_,_,_,U⟩,λz' mz'=>?_⟩;rw[take_snoc hz]at mz';rcases AQ.mp mz' with m|m
    ·exact xM z' m
    ·rw[Af.mp m];exactλq=>hc (by rw[BF];exact AM q)
  ·rintro σ H4 ⟨e4,⟨c1,c2,c3,rfl⟩,xM⟩;rw[BR]at xM;refine⟨e4,⟨_,_,_,_,_,U⟩,λk' mk'=>?_⟩;rw[take_snoc hk]at mk';rcases AQ.mp mk' with m|m
   ·exact no k' m
   ·rw[Af.mp m];exact xM
 ·rintro σ H' ⟨e,⟨a1,a2,a3,a4,a5,rfl⟩,no⟩;rw[BR]at no;refine⟨(by show 3<=sizeLine;decide),λo xN=>?_⟩;refine k _ o ((s2.trans e).trans (AO xN)) (s2.free (e.free xN)) ?_;rw[AD,Y3]
  ·rfl
  ·intro i' _ ls' hls l' hl' hxl;rw[ei,Ai]at hls;cases hk':(L.kinds p)[i']? with
   |none=>rw[hk']at hls;cases hls
   |some kd'=>
    rw[hk']at hls;cases hls;obtain⟨z',hz',rfl⟩:=AG.mp hl';obtain⟨y,hy,ey⟩:=AG.mp hxl;have mk':=AS hk';have:=((KK kd' mk').2 z' hz').2 y hy;exact no kd' mk' z' hz' (AG.mpr ⟨y,hy,by omega⟩)
theorem Pc(T:All w K mg):Ok P w base T.Xd 3 (eV T):=by
 refine T.Xd.go qu λcdv A outer s H vs Q E hr h Cc=>?_;obtain⟨r,x,b,L,rfl,hx,R,l1,l2,l3,k⟩:=h;refine⟨_,(AK (Am (Iv K_ (Ax Aa (Bu (QS T) hr (AB (pv 0) (AB (pv 1) AF))) Ag) Ag))),?_⟩;have F:Full b:=⟨by rw[R.bc,AA];exact l1,by rw[R.bp,AA];exact l2,by rw[R.bd,AA];exact l3⟩;refine⟨_,U,_,U,r,x,b,L,U,hx,R,l1,l2,l3,λH' p s np e=>?_⟩;have hd:∃c t,Vbdeag.place b x.toNat=c::t/\decide ((0:Int)<c)=Vbdeag.waits b x.toNat:=by
  rcases eX F x.toNat with ⟨h1,h2⟩|⟨h1,c,n,_,_,_,_,_,_,_,h2⟩
  ·exact⟨_,_,h2,by rw[h1];rfl⟩
  ·exact⟨_,_,h2,by rw[h1];exact AM (by omega)⟩
 obtain⟨c,t,ec,ed⟩:=hd;rw[ec]at e;refine⟨p,_,_,.int c,U,U,A1.of e,at_of U rfl,_,_,U,U,?_⟩;show Q (.bl (decide ((0:Int)<c))) H';rw[ed];exact k H' s
end
theorem dI(x y:Int):decide (V.int x=V.int y)=decide (x=y):=CW.mpr ⟨λz=>V.int.inj z,λz=>by rw[z]⟩
section
variable{P:Program}{w:World}{K:PySem.W.Frag}{mg:Str->Option Value}{base:Heap}
inductive bA(T:All w K mg)(vs:List V)(H:Hp)(Q:VK)(E:XK):Prop
 |mk(a:Addr)(e:Vbdeag.Entry)(o:Int):vs=[.ref a,.int o]->Dg T H a e->Q (.int (hgt o e)) H->bA T vs H Q E
theorem bB(T:All w K mg):Ok P w base T.Ub 2 (bA T):=by
 refine T.Ub.go m_ λcdv A outer s H vs Q E hr h Cc=>?_;obtain⟨a,e,o,rfl,he,k⟩:=h;refine⟨_,(AE (B_ (U1 (BX E7 (pv 1) Ag) (Oz (BX E7 (pv 1) Ag))).pt (AK (Am (oQ iH (Bu (E5 T) hr (AB (pv 0) AF))))) Bc)
  (AK (Am (Bu (E5 T) hr (AB (pv 0) AF))))),?_⟩
 unfold hgt at k;refine⟨_,U,U,_,U,DL (λh=>?_) λh=>?_⟩
 ·have hc:o=4:=V.int.inj (AX h);rw[AJ (.inl hc)]at k;exact F7 ⟨_,U,a,e,U,he,_,U,k⟩
 ·have n4:¬o=4:=λz=>h (AM (by rw[z]));refine⟨_,U,U,_,U,DL (λh=>?_) λh=>?_⟩
  ·have hc:o=5:=V.int.inj (AX h);rw[AJ (.inr hc)]at k;exact⟨_,U,a,e,U,he,_,U,k⟩
  ·have n5:¬o=5:=λz=>h (AM (by rw[z]));rw[AI (by omega)]at k;exact⟨_,U,a,e,U,he,k⟩
inductive MB(T:All w K mg)(vs:List V)(H:Hp)(Q:VK)(E:XK):Prop
 |mk(l:Addr)(o:Int)(zs:List (Addr×Vbdeag.Entry)):vs=[.ref l,.int o]->A1 K H l (refs zs)->zs.length<=100000->(∀z∈zs,Dg T H z.1 z.2)->(∀p,H p=none->Q (.ref p) (upd H p (.lst ((pm none (zs.map λz=>hgt o z.2)).map V.int))))->MB T vs H Q E
theorem T8(T:All w K mg):Ok P w base T.Gj 3 (MB T):=by
 refine T.Gj.go Ew λcdv A outer s H vs Q E hr h Cc=>?_;obtain⟨l,o,zs,rfl,hS,hz,he,k⟩:=h;refine⟨_,(AE (DJ Ew 2 (BS AF))
  (AE (EK BK U (Bx (pv 0)) (BW (i:=3) Ew.nd U (Or.inl U))
    (AE (DJ Ew 4 (Bu (bB T) hr (AB (pv 3) (AB (pv 1) AF))))
    (AE (B_ (BX K_ (JI T.Cd (pv 2)) Ag) (AK (DJ Ew 4 (NQ (l9 U) U T.oX boot_max (AB (pv 4) (AB (Ax Aa (pv 2) (oQ iH Ag)) AF))))) Bc)
    (AK (C0 (GU PySem.F.plainAttrs_list PySem.F.slot_list_append PySem.F.type_list_append GA (pv 2) (AB (pv 4) AF)))))))
  (AK (Am (pv 2))))),?_⟩
 refine⟨AY _,λd hd=>?_⟩;refine⟨_,U,l,U,⟨_,(AO hd).seq hS⟩,FT (K:=K) (a:=l) (xs:=refs zs) (λi σ H'=>(∃u v:Option V,σ=[some (.ref l),some (.int o),some (.ref d),u,v])/\H'=upd H d (.lst ((pm none ((zs.take i).map λz=>hgt o z.2)).map V.int)))
  ⟨⟨none,none,U⟩,U⟩ (λi σ H' _ ⟨_,e⟩=>by rw[e];exact(AO hd).seq hS) ?_ ?_⟩
 ·rintro i y σ H' hi ⟨⟨u,v,rfl⟩,rfl⟩;obtain⟨z,hz1,rfl⟩:=Ex hi;have mz:=AS hz1;have hlt:=(AZ.mp hz1).1;have ss:A7 H (upd H d (.lst ((pm none ((zs.take i).map λz=>hgt o z.2)).map V.int))):=AO hd;refine⟨_,U,_,U,z.1,z.2,o,U,(he z mz).same ss,?_⟩;have uz:(pm none ((zs.take i).map λz=>hgt o z.2)).length=i:=by rw[iO,AA,Bb];omega
  have fin:∀x:Int,x=mx (O6 none (pm none ((zs.take i).map λz=>hgt o z.2))) (hgt o z.2)->
   upd (upd H d (.lst ((pm none ((zs.take i).map λz=>hgt o z.2)).map V.int))) d (.lst ((pm none ((zs.take i).map λz=>hgt o z.2)).map V.int++[.int x]))=upd H d (.lst ((pm none ((zs.take (i+1)).map λz=>hgt o z.2)).map V.int)):=by
   intro x hx;rw[Cj,take_snoc hz1,As,Ay,DF,kh,As,hx];rfl
  generalize hh:pm none ((zs.take i).map λz=>hgt o z.2)=hs at uz fin⊢;have szl:(hs.map V.int).length<sizeLine:=by rw[AA];omega
  refine⟨_,U,d,_,U,.inl (A1.of AD),_,_,U,U,_,U,DL (λh=>?_) λh=>?_⟩
  ·have hpos:0<hs.length:=by
    have:=AX h;rw[AA]at this;omega
   obtain⟨y,hy⟩:∃y,hs[hs.length-1]?=some y:=⟨_,Ak (by omega)⟩;have hlast:mE (hs.map V.int) (-1)=some (V.int y):=by
    unfold mE j7;rw[AI (by omega),AA,AJ (by omega)];(have:((-1:Int)+(hs.length:Int)).toNat=hs.length-1:=by omega);show(hs.map V.int)[((-1:Int)+(hs.length:Int)).toNat]?=_;rw[this,Ai,hy];rfl
   have el:O6 none hs=some y:=by
    unfold O6;rw[List.getLast?_eq_getElem?,hy]
   refine⟨_,U,_,U,_,U,d,_,_,_,U,U,A1.of AD,hlast,_,_,U,?_⟩;refine⟨_,U,.inl ⟨U,_,A1.of AD⟩,_,U,d,_,_,U,U,AD,szl,?_⟩;exact⟨⟨_,_,U⟩,fin _ (by rw[el];rfl)⟩
  ·have ABE:hs=[]:=by
    have:¬(0:Int)<((hs.map V.int).length:Int):=λz=>h (AM z);rw[AA]at this;exact N3.mp (by omega)
   refine⟨_,U,.inl ⟨U,_,A1.of AD⟩,_,U,d,_,_,U,U,AD,szl,?_⟩;exact⟨⟨_,_,U⟩,fin _ (by rw[ABE];rfl)⟩
 ·rintro σ H' ⟨⟨u,v,rfl⟩,rfl⟩;rw[Al,BR];exact⟨_,U,k d hd⟩
end
theorem gO{α:Type}{l:List α}{s:Nat}{x:α}(h:x∈l.take s):∃i,i<s/\l[i]?=some x:=by
 obtain⟨i,hi⟩:=Bt.mp h;rw[MK]at hi;by_cases q:i<s
 ·rw[AJ q]at hi;exact⟨i,q,hi⟩
 ·rw[AI q]at hi;cases hi
theorem gP{α:Type}{l:List α}{s:Nat}{x:α}(h:x∈l.drop s):∃i,s<=i/\l[i]?=some x:=by
 obtain⟨i,hi⟩:=Bt.mp h;rw[UM]at hi;exact⟨s+i,by omega,hi⟩
theorem fE{l:List Int}(h:l.Pairwise (·<=·)){i j:Nat}{x y:Int}(hx:l[i]?=some x)(hy:l[j]?=some y)(hij:i<=j):x<=y:=by
 obtain⟨hi,ei⟩:=AZ.mp hx;obtain⟨hj,ej⟩:=AZ.mp hy;by_cases q:i=j
 ·subst q;rw[ei]at ej;omega
 ·have:=Mf.mp h i j hi hj (by omega);rw[ei,ej]at this;exact this
section
variable{P:Program}{w:World}{K:PySem.W.Frag}{mg:Str->Option Value}{base:Heap}
inductive Ml(T:All w K mg)(vs:List V)(H:Hp)(Q:VK)(E:XK):Prop
 |mk(l:Addr)(b:Int)(hs:List Int):vs=[.ref l,.int b]->A1 K H l (hs.map V.int)->hs.length<=100000->hs.Pairwise (·<=·)->(∀s:Nat,s<=hs.length->(∀z∈hs.take s,z<b)->(∀z∈hs.drop s,b<=z)->Q (.int s) H)->Ml T vs H Q E
theorem Mm(T:All w K mg):Ok P w base T.Hr 1 (Ml T):=by
 refine T.Hr.go EG λcdv A outer s H vs Q E hr h Cc=>?_;obtain⟨l,b,hs,rfl,hS,hz,hr',k⟩:=h;refine⟨_,(AE (DJ EG 2 Ag)
  (AE (DJ EG 3 (JI T.Cd (pv 0)))
  (AE (PX BK (BX RW (pv 2) (pv 3))
    (AE (DJ EG 4 (CA UW (CA EY (pv 2) (pv 3)) Ag))
    (AK (B_ (BX RW (Ax Aa (pv 0) (pv 4)) (pv 1)) (AK (DJ EG 2 (CA EY (pv 4) Ag))) (AK (DJ EG 3 (pv 4)))))))
  (AK (Am (pv 2)))))),?_⟩
 refine⟨_,U,l,_,U,.inl hS,?_⟩;refine⟨λm σ H'=>∃(lo hi:Nat)(v:Option V),m=hi-lo/\H'=H/\σ=[some (.ref l),some (.int b),some (.int lo),some (.int hi),v]/\lo<=hi/\hi<=hs.length/\(∀i y,hs[i]?=some y->i<lo->y<b)/\(∀i y,hs[i]?=some y->hi<=i->b<=y),
  ⟨_,0,hs.length,none,U,U,by rw[AA];rfl,AY _,AU _,λi y _ h=>absurd h (FF _),λi y h1 h2=>?_⟩,?_⟩
 ·have:=(AZ.mp h1).1;omega
 ·rintro m σ H' ⟨lo,hi,v,rfl,rfl,rfl,h1,h2,h3,h4⟩;refine⟨_,U,_,U,_,_,U,U,_,U,DL (λh=>?_) λh=>?_⟩
  ·have hlt:lo<hi:=by
    have:=AX h;omega
   refine⟨λσ' H'=>∃m',m'<hi-lo/\_,λ_ _ z=>z,?_⟩;(have em:((lo:Int)+(hi:Int))/2=(((lo+hi)/2:Nat):Int):=by omega);obtain⟨y,hy⟩:∃y,hs[(lo+hi)/2]?=some y:=⟨_,Ak (by omega)⟩;refine⟨_,U,_,U,_,_,U,U,_,_,U,U,⟨by decide,by decide⟩,?_⟩;refine⟨_,U,_,U,l,_,_,_,U,U,hS,at_of (j:=(lo+hi)/2) (v:=V.int y) em (by rw[Ai,hy];rfl),_,U,_,_,U,U,_,U,DL (λh=>?_) λh=>?_⟩
   ·have hyb:y<b:=AX h;refine⟨_,U,_,_,U,U,?_⟩;refine⟨hi-((lo+hi)/2+1),by omega,(lo+hi)/2+1,hi,some (.int (((lo+hi)/2:Nat):Int)),U,U,?_,by omega,h2,λi z hz1 hz2=>?_,h4⟩
    ·show[_,_,some (V.int (((lo:Int)+(hi:Int))/2+1)),_,some (V.int (((lo:Int)+(hi:Int))/2))]=_;rw[em];rfl
    ·have:=fE hr' hz1 hy (by omega);omega
   ·have hyb:b<=y:=by
     have:¬y<b:=λz=>h (AM z);omega
    refine⟨_,U,?_⟩;refine⟨(lo+hi)/2-lo,by omega,lo,(lo+hi)/2,some (.int (((lo+hi)/2:Nat):Int)),U,U,?_,by omega,by omega,h3,λi z hz1 hz2=>?_⟩
    ·show[_,_,_,some (V.int (((lo:Int)+(hi:Int))/2)),some (V.int (((lo:Int)+(hi:Int))/2))]=_;rw[em]
    ·have:=fE hr' hy hz1 hz2;omega
  ·have hge:lo=hi:=by
    have:¬(lo:Int)<(hi:Int):=λz=>h (AM z);omega
   subst hge;refine⟨_,U,k lo h2 (λz hz'=>?_) λz hz'=>?_⟩
   ·obtain⟨i,hi,e⟩:=gO hz';exact h3 i z e hi
   ·obtain⟨i,hi,e⟩:=gP hz';exact h4 i z e hi
theorem fF{H:Hp}{a b:Addr}{o u:HO}(h:a≠b):upd (upd H a o) b u=upd (upd H b u) a o:=by
 funext c;unfold upd;by_cases h1:c=a
 ·subst h1;rw[AI h,AJ U,AJ U]
 ·by_cases h2:c=b
  ·subst h2;rw[AJ U,AI h1,AJ U]
  ·rw[AI h2,AI h1,AI h1,AI h2]
theorem qy{σ:L2.St}{H:Hp}{Q:VK}{o:Nat}{e:Vbdeag.Entry}(h6:σ[6]?=some (some (.int (hgt o e))))(h2:σ[2]?=some (some (.int o)))(q:Q (.int (bnd o e)) H):
 tIf (tOr (XJ (L6 uc (CD 2) (tC (.int 3)))) (XJ (L6 uc (CD 2) (tC (.int 5))))) (CD 6) (L6 (aA λi j=>.int (i+j)) (CD 6) (tC (.int 1))) σ H Q:=by
 unfold bnd at q;refine⟨_,h2,U,_,U,DL (λh=>?_) λh=>?_⟩
 ·have hc:(o:Int)=3:=V.int.inj (AX h);rw[AJ (.inl hc)]at q;exact F7 ⟨_,h6,q⟩
 ·have n3:¬(o:Int)=3:=λz=>h (AM (by rw[z]));refine⟨_,h2,U,_,U,DL (λh=>?_) λh=>?_⟩
  ·have hc:(o:Int)=5:=V.int.inj (AX h);rw[AJ (.inr hc)]at q;exact⟨_,h6,q⟩
  ·have n5:¬(o:Int)=5:=λz=>h (AM (by rw[z]));rw[AI (by omega)]at q;exact⟨_,h6,_,_,U,U,q⟩
inductive LQ(T:All w K mg)(vs:List V)(H:Hp)(Q:VK)(E:XK):Prop
 |mk(l m:Addr)(o:Nat)(zs as:List (Addr×Vbdeag.Entry)):vs=[.ref l,.ref m,.int o]->2<=o->o<=5->A1 K H l (refs zs)->A1 K H m (refs as)->zs.length+as.length<=100000->(∀z∈zs,Dg T H z.1 z.2/\Bh z.2.key)->(∀z∈as,Dg T H z.1 z.2/\Bh z.2.key)->(∀(H':Hp)(p:Addr)(ys:List (Addr×Vbdeag.Entry)),A7 H H'->H p=none->H' p=some (.lst (refs ys))->ys.map (·.2)=(as.map (·.2)).foldl (λr e=>Vbdeag.linked o e r) (zs.map (·.2))->(∀y∈ys,y∈zs\/y∈as)->ys.length=zs.length+as.length->Q (.ref p) H')->LQ T vs H Q E
theorem Ra(T:All w K mg):Ok P w base T.GB 4 (LQ T):=by
 refine T.GB.go C3 λcdv A outer s H vs Q E hr h Cc=>?_;obtain⟨l,m,o,zs,as,rfl,o2,o5,hS,hM,hz,he,ha,k⟩:=h;refine⟨_,(AE (DJ C3 3 (aI cR U T.U6 boot_list (AB (pv 0) AF)))
  (AE (DJ C3 4 (Bu (T8 T) hr (AB (pv 0) (AB (pv 2) AF))))
  (AE (EK BK U (Bx (pv 1)) (BW (i:=5) C3.nd U (Or.inl U))
    (AE (DJ C3 6 (Bu (bB T) hr (AB (pv 5) (AB (pv 2) AF))))
    (AE (DJ C3 7 (dc (U1 (BX E7 (pv 2) Ag) (Oz (BX E7 (pv 2) Ag))).pt (pv 6) (CA EY (pv 6) Ag)))
    (AE (DJ C3 8 (Bu (Mm T) hr (AB (pv 4) (AB (pv 7) AF))))
    (AE (C0 (GU PySem.F.plainAttrs_list PySem.F.slot_list_insert PySem.F.type_list_insert Vt (pv 3) (AB (pv 8) (AB (pv 5) AF))))
    (AK (C0 (GU PySem.F.plainAttrs_list PySem.F.slot_list_insert PySem.F.type_list_insert Vt (pv 4) (AB (pv 8) (AB (pv 6) AF))))))))))
  (AK (Am (pv 3)))))),?_⟩
 refine⟨_,U,l,_,U,.inl hS,λp hp=>?_⟩;have s1:A7 H (upd H p (.lst (refs zs))):=AO hp;refine⟨_,U,_,U,l,_,zs,U,s1.seq hS,by omega,λz hz'=>(he z hz').1.same s1,λq hq=>?_⟩;have s2:=s1.trans (AO (o:=.lst ((pm none (zs.map λz=>hgt o z.2)).map V.int)) hq);have hq0:H q=none:=s1.free hq;have pq:p≠q:=BY AD hq;refine⟨_,U,m,U,⟨_,s2.seq hM⟩,FT (K:=K) (a:=m) (xs:=refs as) (λi σ H'=>∃(ys:List (Addr×Vbdeag.Entry))(u v x y:Option V),σ=[some (.ref l),some (.ref m),some (.int o),some (.ref p),some (.ref q),u,v,x,y]/\H'=upd (upd H p (.lst (refs ys))) q (.lst ((pm none (ys.map λz=>hgt o z.2)).map V.int))/\
  ys.map (·.2)=((as.take i).map (·.2)).foldl (λr e=>Vbdeag.linked o e r) (zs.map (·.2))/\(∀y∈ys,y∈zs\/y∈as)/\ys.length=zs.length+i)
  ⟨zs,none,none,none,none,U,U,U,λy h=>.inl h,U⟩ (λi σ H' _ ⟨_,_,_,_,_,_,e,_⟩=>?_) ?_ ?_⟩
 ·rw[e];exact(A7.own (AO hp) hq0).seq hM
 ·rintro i y σ H' hi ⟨ys,u,v,x,y',rfl,rfl,hy,hin,uz⟩;obtain⟨z,hz1,rfl⟩:=Ex hi;have mz:=AS hz1;have hlt:=(AZ.mp hz1).1;have s3:A7 H (upd (upd H p (.lst (refs ys))) q (.lst ((pm none (ys.map λz=>hgt o z.2)).map V.int))):=A7.own (AO hp) hq0;refine⟨_,U,_,U,z.1,z.2,_,U,((ha z mz).1).same s3,?_⟩;refine qy U rfl ?_;have pl:(pm none (ys.map λz=>hgt o z.2)).length=ys.length:=by rw[iO,AA]
  refine⟨_,U,_,U,q,_,pm none (ys.map λz=>hgt o z.2),U,A1.of AD,by omega,eW _ _,λsp h1 h2 h3=>?_⟩;rw[pl]at h1;have hpp:(upd (upd H p (.lst (refs ys))) q (.lst ((pm none (ys.map λz=>hgt o z.2)).map V.int))) p=some (.lst (refs ys)):=by rw[Aj pq,AD]
  refine⟨_,U,.inl ⟨U,_,A1.of hpp⟩,_,U,_,U,p,refs ys,sp,V.ref z.1,U,U,hpp,by rw[Al];exact h1,by rw[Al];omega,?_⟩;have hqq:∀u,(upd (upd (upd H p (.lst (refs ys))) q (.lst ((pm none (ys.map λz=>hgt o z.2)).map V.int))) p u) q=some (.lst ((pm none (ys.map λz=>hgt o z.2)).map V.int)):=λu=>by rw[Aj pq.symm,AD]
  refine⟨_,U,.inl ⟨U,_,A1.of (hqq _)⟩,_,U,_,U,q,_,sp,V.int (hgt o z.2),U,U,hqq _,by rw[AA,pl];exact h1,by rw[AA,pl];omega,?_⟩;have bo:hgt o z.2<=bnd o z.2/\bnd o z.2<=hgt o z.2+1:=by unfold bnd;split<;>omega
  refine⟨ys.take sp++z::ys.drop sp,_,_,_,_,U,?_,?_,λy hy'=>?_,?_⟩
  ·rw[fF pq,Cj,fF pq.symm,Cj];have e1:(ys.take sp++z::ys.drop sp).map (λz=>hgt o z.2)=(ys.map λz=>hgt o z.2).take sp++hgt o z.2::(ys.map λz=>hgt o z.2).drop sp:=by
    rw[As,Ay,DW,EZ]
   rw[e1,pS none _ sp (by rw[AA];exact h1) (λy h=>by cases h) (λy hy'=>by have:=h2 y hy';omega) (λy hy'=>by have:=h3 y hy';omega)];unfold refs;rw[As,Ay,DW,EZ,As,Ay,DW,EZ]
  ·have kz:=(ha z mz).2;have ky:∀a∈ys,Bh a.2.key:=λa h=>(hin a h).elim (λq=>(he a q).2) λq=>(ha a q).2;(have e2:((as.take (i+1)).map (·.2))=(as.take i).map (·.2)++[z.2]:=by rw[take_snoc hz1,As];rfl);rw[e2,Gq,<-hy];show _=Vbdeag.linked o z.2 (ys.map (·.2));rw[Zx o2 o5,ak (λz:Addr×Vbdeag.Entry=>hgt o z.2) (·.2) _ (bnd o z.2) z none ys sp (λa h=>nM o2 o5 kz (ky a h)) h1 (λy h=>by cases h) h2 h3]
  ·rcases AQ.mp hy' with h|h
   ·exact hin y (Ct h)
   ·rcases AN.mp h with h|h
    ·rw[h];exact .inr mz
    ·exact hin y (Hi h)
  ·rw[AL,Ab,Bb,A2];omega
 ·rintro σ H' ⟨ys,u,v,x,y',rfl,rfl,hy,hin,uz⟩;rw[Al]at hy uz;rw[BR]at hy;refine⟨_,U,k _ p ys (A7.own (AO hp) hq0) hp (by rw[Aj pq,AD]) hy hin uz⟩
end
theorem bC{α:Type}:∀(as zs:List α),as.foldl (λr e=>r++[e]) zs=zs++as
 | [],zs=>by simp
 |a::r,zs=>by rw[EL,bC r];simp
theorem W2{α:Type}:∀(as zs:List α),as.foldl (λr e=>e::r) zs=as.reverse++zs
 | [],zs=>rfl
 |a::r,zs=>by rw[EL,W2 r];simp
section
variable{P:Program}{w:World}{K:PySem.W.Frag}{mg:Str->Option Value}{base:Heap}
inductive MC(T:All w K mg)(vs:List V)(H:Hp)(Q:VK)(E:XK):Prop
 |mk(l m:Addr)(o:Nat)(zs as:List (Addr×Vbdeag.Entry)):vs=[.ref l,.ref m,.int o]->o<=5->H l=some (.lst (refs zs))->H m=some (.lst (refs as))->zs.length+as.length<=100000->(∀z∈zs,Dg T H z.1 z.2/\Bh z.2.key)->(∀z∈as,Dg T H z.1 z.2/\Bh z.2.key)->(∀(H':Hp)(p:Addr)(ys:List (Addr×Vbdeag.Entry)),A7 H H'->H p=none->H' p=some (.lst (refs ys))->ys.map (·.2)=(as.map (·.2)).foldl (λr e=>Vbdeag.linked o e r) (zs.map (·.2))->(∀y∈ys,y∈zs\/y∈as)->ys.length=zs.length+as.length->Q (.ref p) H')->MC T vs H Q E
theorem MD(T:All w K mg):Ok P w base T.Gk 5 (MC T):=by
 refine T.Gk.go T6 λcdv A outer s H vs Q E hr h Cc=>?_;obtain⟨l,m,o,zs,as,rfl,o5,hS,hM,hz,he,ha,k⟩:=h;refine⟨_,(AE (B_ (BX E7 (pv 2) Ag) (AK (Am (CA H_ (pv 0) (pv 1)))) Bc)
  (AE (B_ (BX E7 (pv 2) Ag) (AK (Am (CA H_ (SR U rfl T.Lh U T.U6 (AB (pv 1) AF)) (pv 0)))) Bc)
  (AK (Am (Bu (Ra T) hr (AB (pv 0) (AB (pv 1) (AB (pv 2) AF)))))))),?_⟩
 refine⟨_,U,U,_,U,DL (λh=>?_) λh=>?_⟩
 ·have hc:o=0:=by have:=V.int.inj (AX h);omega
  subst hc;refine⟨_,U,_,U,l,m,_,_,U,U,hS,hM,by rw[Al,Al];omega,λp hp=>?_⟩;refine k _ p (zs++as) (AO hp) hp (by rw[AD,Dr]) ?_ (λy hy=>AQ.mp hy) (by rw[AL]);rw[As];exact(bC _ _).symm
 have n0:o≠0:=λz=>h (AM (by rw[z];rfl));refine⟨_,U,U,_,U,DL (λh=>?_) λh=>?_⟩
 ·have hc:o=1:=by have:=V.int.inj (AX h);omega
  subst hc;refine⟨_,U,m,_,U,A1.of hM,λq hq=>?_⟩;refine⟨_,U,q,l,_,_,U,U,AD,(AO hq) _ _ hS,by rw[Fo,Al,Al];omega,λp hp=>?_⟩;have er:(refs as).reverse++refs zs=refs (as.reverse++zs):=by rw[Dr];unfold refs;rw[Ep]
  refine k _ p (as.reverse++zs) ((AO hq).trans (AO hp)) ((AO hq).free hp) (by rw[AD,er]) ?_ (λy hy=>?_) (by rw[AL,Fo];omega)
  ·rw[As,Ep];exact(W2 _ _).symm
  ·rcases AQ.mp hy with h|h
   ·exact .inr (Nz.mp h)
   ·exact .inl h
 have n1:o≠1:=λz=>h (AM (by rw[z];rfl));exact⟨_,U,_,U,_,U,l,m,o,zs,as,U,by omega,o5,A1.of hS,A1.of hM,hz,he,ha,k⟩
end
theorem Us(xs:List V)(n:Nat):PN xs none (some (n:Int))=xs.take n:=by
 unfold PN;rw[HT.XW,HT.dw,L0,Nat.sub_zero];by_cases h:n<=xs.length
 ·rw[FG h]
 ·rw[Hy (by omega),BR,De (by omega)]
theorem Ut(xs:List V)(n:Nat):PN xs (some (n:Int)) none=xs.drop n:=by
 unfold PN;rw[HT.XW,HT.dw];by_cases h:n<=xs.length
 ·rw[FG h,De (by rw[A2];exact AU _)]
 ·rw[Hy (by omega),Eb (AU _),Eb (by omega),List.take_nil]
theorem bD{α:Type}(zs:List (Addr×α))(n:Nat):(refs zs).take n=refs (zs.take n):=by unfold refs;rw[DW]
theorem bE{α:Type}(zs:List (Addr×α))(n:Nat):(refs zs).drop n=refs (zs.drop n):=by unfold refs;rw[EZ]
theorem qz{α:Type}(zs:List (Addr×α)):(refs zs).reverse=refs zs.reverse:=by unfold refs;rw[Ep]
section
variable{P:Program}{w:World}{K:PySem.W.Frag}{mg:Str->Option Value}{base:Heap}
def WK(back:Int)(n:Nat)(p:Vbdeag.Entry->Bool)(zs:List (Addr×Vbdeag.Entry)):List (Addr×Vbdeag.Entry):=(if back=1 then(zs.filter λz=>p z.2).reverse else zs.filter λz=>p z.2).take n
inductive Qv(T:All w K mg)(vs:List V)(H:Hp)(Q:VK)(E:XK):Prop
 |mk(l ka:Addr)(back:Int)(n:Nat)(c:Int)(q:Vbdeag.Key)(zs:List (Addr×Vbdeag.Entry)):vs=[.ref l,.int back,.int n,.int c,.ref ka]->A1 K H l (refs zs)->zs.length<=100000->(∀z∈zs,Dg T H z.1 z.2)->Dv T H ka q->(∀(H':Hp)(p:Addr),A7 H H'->H p=none->H' p=some (.lst (refs (WK back n (λe=>MP c (worth e.key) (worth q)) zs)))->Q (.ref p) H')->Qv T vs H Q E
theorem Qw(T:All w K mg):Ok P w base T.J_ 3 (Qv T):=by
 refine T.J_.go JR λcdv A outer s H vs Q E hr h Cc=>?_;obtain⟨l,ka,back,n,c,q,zs,rfl,hS,hz,he,hk,k⟩:=h;refine⟨_,(AE (d_ (i:=5) (own:=[("entry",6)]) (tt:=(tB (LA (Ur T) [] E0 (CM (CD 6) (CM (CD 3) (CM (CD 4) C_)))))) (te:=(CD 6)) U JR.nd U rfl (kG U rfl rfl rfl) (Bx (pv 0)) (CS (by rfl)) (λ_ _ _ _ _=>BW (i:=6) JR.nd U (Or.inl U)) (λ_ _ _ _ _=>Pq (D_ (Bu (eU T) hr (AB (pv 6) (AB (pv 3) (AB (pv 4) AF)))))) (λ_ _ _ _ _=>(pv 6)))
  (AE (B_ (BX E7 (pv 1) Ag) (AK (DJ JR 5 (SR U rfl T.Lh U T.U6 (AB (pv 5) AF)))) Bc)
  (AK (Am (FU Gs (pv 5) L8 (ER (pv 2))))))),?_⟩
 refine⟨_,U,l,U,⟨_,hS⟩,λD hD=>JD hS (by omega) (by show 6<7;decide) hD (λz=>MP c (worth z.2.key) (worth q)) (λz=>V.ref z.1) (λz hz' H' hs R hR=>?_) (λz hz' _ H' hs R hR=>⟨_,U,hR⟩) ?_⟩
 ·exact⟨_,U,_,U,_,U,z.1,ka,z.2,c,q,U,(he z hz').same hs,hk.same hs,_,U,hR⟩
 ·unfold WK at k;have s1:A7 H (upd H D (.lst (refs (zs.filter λz=>MP c (worth z.2.key) (worth q))))):=AO hD;refine⟨_,U,U,_,U,DL (λh=>?_) λh=>?_⟩
  ·have hc:back=1:=V.int.inj (AX h);refine⟨_,U,D,_,U,A1.of AD,λp hp=>?_⟩;refine⟨_,U,_,U,_,U,p,_,U,A1.of AD,λp2 hp2=>?_⟩;refine k _ p2 ((s1.trans (AO hp)).trans (AO hp2)) ((s1.trans (AO hp)).free hp2) ?_;rw[AD,Us,AJ hc];show some (HO.lst ((refs (zs.filter λz=>MP c (worth z.2.key) (worth q))).reverse.take n))=_;rw[qz,bD]
  ·have hc:¬back=1:=λz=>h (AM (by rw[z]));refine⟨_,U,_,U,_,U,D,_,U,A1.of AD,λp2 hp2=>?_⟩;refine k _ p2 (s1.trans (AO hp2)) (s1.free hp2) ?_;rw[AD,Us,AI hc];show some (HO.lst ((refs (zs.filter λz=>MP c (worth z.2.key) (worth q))).take n))=_;rw[bD]
end
def Ma:Nat->List (Addr×Vbdeag.Entry)->List (Addr×Vbdeag.Entry)->List (Addr×Vbdeag.Entry)
 |0,_,_=>[]
 |_+1,[],m=>m
 |_+1,l,[]=>l
 |n+1,a::l,b::m=>if b.2.key.lt a.2.key=true then b::Ma n (a::l) m else a::Ma n l (b::m)
theorem Yc:∀(n:Nat)(l m:List (Addr×Vbdeag.Entry)),(Ma n l m).map (·.2)=Vbdeag.merged n (l.map (·.2)) (m.map (·.2))
 |0,_,_=>rfl
 |n+1,[],m=>by cases m<;>rfl
 |n+1,a::l,[]=>rfl
 |n+1,a::l,b::m=>by
  show(if b.2.key.lt a.2.key=true then b::Ma n (a::l) m else a::Ma n l (b::m)).map (·.2)=(if b.2.key.lt a.2.key=true then b.2::Vbdeag.merged n (a.2::l.map (·.2)) (m.map (·.2))else a.2::Vbdeag.merged n (l.map (·.2)) (b.2::m.map (·.2)))
  split
  ·rw[Ay,Yc n (a::l) m];rfl
  ·rw[Ay,Yc n l (b::m)];rfl
theorem bF(n:Nat)(m:List (Addr×Vbdeag.Entry)):Ma (n+1) [] m=m:=by cases m<;>rfl
theorem nO(n:Nat)(l:List (Addr×Vbdeag.Entry)):Ma (n+1) l []=l:=by cases l<;>rfl
theorem Yd:∀(n:Nat)(l m:List (Addr×Vbdeag.Entry))(y:Addr×Vbdeag.Entry),y∈Ma n l m->y∈l\/y∈m
 |0,_,_,y,h=>absurd h (by simp[Ma])
 |n+1,[],m,y,h=>by rw[bF]at h;exact .inr h
 |n+1,a::l,[],y,h=>.inl h
 |n+1,a::l,b::m,y,h=>by
  have h':y∈(if b.2.key.lt a.2.key=true then b::Ma n (a::l) m else a::Ma n l (b::m)):=h
  split at h'
  ·rcases AN.mp h' with rfl|h'
   ·exact .inr (Ac ..)
   ·rcases Yd n (a::l) m y h' with q|q
    ·exact .inl q
    ·exact .inr (AV _ q)
  ·rcases AN.mp h' with rfl|h'
   ·exact .inl (Ac ..)
   ·rcases Yd n l (b::m) y h' with q|q
    ·exact .inl (AV _ q)
    ·exact .inr q
theorem Xn{α:Type}{l:List α}{i:Nat}{x:α}(h:l[i]?=some x):l.drop i=x::l.drop (i+1):=by
 obtain⟨hi,e⟩:=AZ.mp h;rw[Mg hi,e]
section
variable{P:Program}{w:World}{K:PySem.W.Frag}{mg:Str->Option Value}{base:Heap}
inductive bG(T:All w K mg)(vs:List V)(H:Hp)(Q:VK)(E:XK):Prop
 |mk(l m:Addr)(zs as:List (Addr×Vbdeag.Entry)):vs=[.ref l,.ref m]->A1 K H l (refs zs)->A1 K H m (refs as)->zs.length+as.length<=100000->(∀z∈zs,Dg T H z.1 z.2/\Bh z.2.key)->(∀z∈as,Dg T H z.1 z.2/\Bh z.2.key)->(∀(H':Hp)(p:Addr),A7 H H'->H p=none->H' p=some (.lst (refs (Ma (zs.length+as.length+1) zs as)))->Q (.ref p) H')->bG T vs H Q E
theorem nQ(T:All w K mg):Ok P w base T.Ug 2 (bG T):=by
 refine T.Ug.go LO λcdv A outer s H vs Q E hr h Cc=>?_;obtain⟨l,m,zs,as,rfl,hS,hM,hz,he,ha,k⟩:=h;refine⟨_,(AE (DJ LO 2 (BS AF))
  (AE (DJ LO 3 Ag)
  (AE (DJ LO 4 Ag)
  (AE (PX BK (PW.pt (X0 (BX RW (pv 3) (JI T.Cd (pv 0))) (T3 (BX RW (pv 4) (JI T.Cd (pv 1))))))
    (AK (B_ (BX RW (Bu (E5 T) hr (AB (Ax Aa (pv 1) (pv 4)) AF)) (Bu (E5 T) hr (AB (Ax Aa (pv 0) (pv 3)) AF))) (AE (C0 (GU PySem.F.plainAttrs_list PySem.F.slot_list_append PySem.F.type_list_append GA (pv 2) (AB (Ax Aa (pv 1) (pv 4)) AF)))
      (AK (DJ LO 4 (CA EY (pv 4) Ag)))) (AE (C0 (GU PySem.F.plainAttrs_list PySem.F.slot_list_append PySem.F.type_list_append GA (pv 2) (AB (Ax Aa (pv 0) (pv 3)) AF)))
      (AK (DJ LO 3 (CA EY (pv 3) Ag)))))))
  (AK (Am (CA H_ (CA H_ (pv 2) (FU Gs (pv 0) (ER (pv 3)) L8)) (FU Gs (pv 1) (ER (pv 4)) L8)))))))),?_⟩
 refine⟨AY _,λd hd=>?_⟩;refine⟨λfuel σ H'=>∃(i j:Nat)(ys:List (Addr×Vbdeag.Entry)),fuel=zs.length+as.length-i-j/\H'=upd H d (.lst (refs ys))/\σ=[some (.ref l),some (.ref m),some (.ref d),some (.int i),some (.int j)]/\i<=zs.length/\j<=as.length/\ys.length=i+j/\
  Ma (zs.length+as.length+1) zs as=ys++Ma (zs.length+as.length+1-i-j) (zs.drop i) (as.drop j),⟨_,0,0,[],U,U,U,AY _,AY _,U,U⟩,?_⟩
 rintro fuel σ H' ⟨i,j,ys,rfl,rfl,rfl,hi,hj,uz,hmr⟩;have s1:A7 H (upd H d (.lst (refs ys))):=AO hd;have done:(i=zs.length\/j=as.length)->Ma (zs.length+as.length+1) zs as=ys++zs.drop i++as.drop j:=by
  intro h;have ef:zs.length+as.length+1-i-j=(zs.length+as.length-i-j)+1:=by omega
  rw[hmr,ef];rcases h with h|h
  ·rw[h,Ws,bF,Bk]
  ·rw[h,Ws,nO,Bk]
 have leave:(i=zs.length\/j=as.length)->vJ (L6 vQ (L6 vQ (CD 2) (yW (rj K) (CD 0) (cO (CD 3)) bW)) (yW (rj K) (CD 1) (cO (CD 4)) bW)) {nx:=λ_ H'=>Q .DX H',rt:=Q} [some (.ref l),some (.ref m),some (.ref d),some (.int i),some (.int j)] (upd H d (.lst (refs ys))):=by
  intro h;refine⟨_,U,_,U,_,U,_,U,l,_,U,s1.seq hS,λp1 n1=>?_⟩;rw[Ut,bE];have s2:=s1.trans (AO (o:=.lst (refs (zs.drop i))) n1);have hd2:(upd (upd H d (.lst (refs ys))) p1 (.lst (refs (zs.drop i)))) d=some (.lst (refs ys)):=(AO n1) _ _ AD;refine⟨d,p1,_,_,U,U,hd2,AD,by rw[Al,Al,A2];omega,λp2 n2=>?_⟩;have s3:=s2.trans (AO (o:=.lst (refs ys++refs (zs.drop i))) n2);refine⟨_,U,_,U,_,U,m,_,U,s3.seq hM,λp3 n3=>?_⟩;rw[Ut,bE];refine⟨p2,p3,_,_,U,U,(AO n3) _ _ AD,AD,by rw[AL,Al,Al,Al,A2,A2];omega,λp4 n4=>?_⟩;have s4:=s3.trans (AO (o:=.lst (refs (as.drop j))) n3);refine k _ p4 (s4.trans (AO n4)) (s4.free n4) ?_;rw[AD,done h,Dr,Dr]
 refine⟨_,U,_,U,l,_,U,.inl (s1.seq hS),_,_,U,U,_,U,DL (λh1=>?_) λh1=>?_⟩
 ·have hi':i<zs.length:=by
   have:=AX h1;rw[Al]at this;omega
  refine⟨_,U,_,U,m,_,U,.inl (s1.seq hM),_,_,U,U,_,U,DL (λh2=>?_) λh2=>?_⟩
  ·have hj':j<as.length:=by
    have:=AX h2;rw[Al]at this;omega
   obtain⟨a,ha1⟩:∃a,zs[i]?=some a:=⟨_,Ak hi'⟩;obtain⟨b,hb⟩:∃b,as[j]?=some b:=⟨_,Ak hj'⟩;have ma:=AS ha1;have mb:=AS hb;(have ef:zs.length+as.length+1-i-j=(zs.length+as.length-i-j)+1:=by omega);rw[ef,Xn ha1,Xn hb]at hmr;(have szl:(refs ys).length<sizeLine:=by rw[Al];omega);refine⟨λσ' H'=>∃f',f'<zs.length+as.length-i-j/\_,λ_ _ z=>z,?_⟩;refine⟨_,U,_,U,m,_,_,_,U,U,s1.seq hM,at_of U (BU hb),b.1,b.2,U,(ha b mb).1.same s1,_,U,_,U,l,_,_,_,U,U,s1.seq hS,at_of U (BU ha1),a.1,a.2,U,(he a ma).1.same s1,_,_,U,U,_,U,DL (λh3=>?_) λh3=>?_⟩
   ·(have hlt:b.2.key.lt a.2.key=true:=by rw[IE (ha b mb).2 (he a ma).2];exact h3);refine⟨_,U,.inl ⟨U,_,A1.of AD⟩,_,U,_,U,m,_,_,_,U,U,s1.seq hM,at_of U (BU hb),d,_,_,U,U,AD,szl,?_⟩;refine⟨_,U,_,_,U,U,?_⟩;refine⟨zs.length+as.length-i-(j+1),by omega,i,j+1,ys++[b],U,?_,U,hi,hj',by rw[AL,Gi];omega,?_⟩
    ·rw[Cj,Dr];rfl
    ·rw[hmr];show ys++(if b.2.key.lt a.2.key=true then b::Ma (zs.length+as.length-i-j) (a::zs.drop (i+1)) (as.drop (j+1))else _)=_;rw[AJ hlt,Xn ha1,Bm];(have eg:zs.length+as.length+1-i-(j+1)=zs.length+as.length-i-j:=by omega);rw[eg];rfl
   ·(have hlt:¬b.2.key.lt a.2.key=true:=by rw[IE (ha b mb).2 (he a ma).2];exact h3);refine⟨_,U,.inl ⟨U,_,A1.of AD⟩,_,U,_,U,l,_,_,_,U,U,s1.seq hS,at_of U (BU ha1),d,_,_,U,U,AD,szl,?_⟩;refine⟨_,U,_,_,U,U,?_⟩;refine⟨zs.length+as.length-(i+1)-j,by omega,i+1,j,ys++[a],U,?_,U,hi',hj,by rw[AL,Gi];omega,?_⟩
    ·rw[Cj,Dr];rfl
    ·rw[hmr];show ys++(if b.2.key.lt a.2.key=true then _ else a::Ma (zs.length+as.length-i-j) (zs.drop (i+1)) (b::as.drop (j+1)))=_;rw[AI hlt,Xn hb,Bm];(have eg:zs.length+as.length+1-(i+1)-j=zs.length+as.length-i-j:=by omega);rw[eg];rfl
  ·refine leave (.inr ?_);have:¬(j:Int)<((refs as).length:Int):=λz=>h2 (AM z);rw[Al]at this;omega
 ·refine GZ (leave (.inl ?_));have:¬(i:Int)<((refs zs).length:Int):=λz=>h1 (AM z);rw[Al]at this;omega
end
structure BE(H:Hp)(F:List Addr)(H':Hp)(F':List Addr):Prop where
 keep:∀a o,H a=some o->a∉F->H' a=some o
 grow:∀a o,H a=some o->∃o',H' a=some o'
 fresh:∀a∈F',a∈F\/H a=none
theorem BE.free{H H':Hp}{F F':List Addr}(m:BE H F H' F'){a:Addr}(h:H' a=none):H a=none:=by
 cases e:H a with
 |none=>rfl
 |some o=>obtain⟨o',q⟩:=m.grow a o e;rw[h]at q;cases q
theorem BE.trans{H H1 H2:Hp}{F F1 F2:List Addr}(m:BE H F H1 F1)(n:BE H1 F1 H2 F2):BE H F H2 F2 where
 keep:=λa o e hF=>n.keep a o (m.keep a o e hF) λh=>(m.fresh a h).elim hF λq=>by rw[e]at q;cases q
 grow:=λa o e=>by obtain⟨o1,q⟩:=m.grow a o e;exact n.grow a o1 q
 fresh:=λa h=>(n.fresh a h).elim (λh1=>m.fresh a h1) λq=>.inr (m.free q)
theorem BE.same{H H':Hp}{F:List Addr}(s:A7 H H'):BE H F H' F:=⟨λa o e _=>s a o e,λa o e=>⟨o,s a o e⟩,λa h=>.inl h⟩
theorem q_{H:Hp}{x:Addr}{o:HO}:∀a u,H a=some u->∃u',upd H x o a=some u':=λa u e=>by
 by_cases h:a=x
 ·subst h;exact⟨o,AD⟩
 ·exact⟨u,by rw[Aj h];exact e⟩
def O7:HO->Prop
 | .lst _=>True
 | .ins _ _ fs=>(fs.lookup ("word":Str)).isSome=true
 |_=>False
theorem X_{H:Hp}{a x:Addr}{C dx:Addr}{fs:List (Str×V)}{o:HO}(h:H a=some (.ins C dx fs))(n:fs.lookup ("word":Str)=none)(hx:H x=some o)(nr:O7 o):a≠x:=λz=>by
 subst z;rw[h]at hx;cases hx;have:(fs.lookup ("word":Str)).isSome=true:=nr;rw[n]at this;cases this
section
variable{P:Program}{w:World}{K:PySem.W.Frag}{mg:Str->Option Value}{base:Heap}{T:All w K mg}{H:Hp}{x:Addr}{o o':HO}
theorem Dv.upd{a:Addr}{k:Vbdeag.Key}(h:Dv T H a k)(hx:H x=some o)(nr:O7 o):Dv T (upd H x o') a k:=by
 obtain⟨dx,e⟩:=h;exact⟨dx,by rw[Aj (X_ e U hx nr)];exact e⟩
theorem Dg.upd{a:Addr}{e:Vbdeag.Entry}(h:Dg T H a e)(hx:H x=some o)(nr:O7 o):Dg T (upd H x o') a e:=by
 obtain⟨dx,ka,h1,h2⟩:=h;exact⟨dx,ka,by rw[Aj (X_ h1 U hx nr)];exact h1,h2.upd hx nr⟩
theorem Hj.upd{a:Addr}{e:Vbdeag.Guest}(h:Hj T H a e)(hx:H x=some o)(nr:O7 o):Hj T (upd H x o') a e:=by
 obtain⟨dx,ka,h1,h2⟩:=h;exact⟨dx,ka,by rw[Aj (X_ h1 U hx nr)];exact h1,h2.upd hx nr⟩
theorem Hl.upd{a:Addr}{e:Vbdeag.Side}(h:Hl T H a e)(hx:H x=some o)(nr:O7 o):Hl T (upd H x o') a e:=by
 obtain⟨dx,ka,h1,h2⟩:=h;exact⟨dx,ka,by rw[Aj (X_ h1 U hx nr)];exact h1,h2.upd hx nr⟩
theorem Ji.upd{a:Addr}{e:Vbdeag.Watch}(h:Ji T H a e)(hx:H x=some o)(nr:O7 o):Ji T (upd H x o') a e:=by
 obtain⟨dx,h1⟩:=h;exact⟨dx,by rw[Aj (X_ h1 U hx nr)];exact h1⟩
theorem Ah.there{r:Addr}{b:Vbdeag.Bank}{L:Lo}(R:Ah T H r b L):∀a∈L.foot r,∃o,H a=some o/\O7 o:=by
 intro a h;unfold Lo.foot at h;rcases AN.mp h with rfl|h
 ·exact⟨_,R.obj,U⟩
 rcases AN.mp h with rfl|h
 ·exact⟨_,R.lw,trivial⟩
 rcases AN.mp h with rfl|h
 ·exact⟨_,R.lc,trivial⟩
 rcases AN.mp h with rfl|h
 ·exact⟨_,R.lp,trivial⟩
 rcases AN.mp h with rfl|h
 ·exact⟨_,R.ld,trivial⟩
 rcases AQ.mp h with h|h
 ·obtain⟨z,hz,rfl⟩:=AG.mp h;exact⟨_,(R.cc z hz).1,trivial⟩
 rcases AQ.mp h with h|h
 ·obtain⟨z,hz,rfl⟩:=AG.mp h;exact⟨_,(R.pp z hz).1,trivial⟩
 ·obtain⟨z,hz,rfl⟩:=AG.mp h;exact⟨_,(R.dd z hz).1,trivial⟩
theorem Ah.Cv{r p:Addr}{b:Vbdeag.Bank}{L:Lo}(R:Ah T H r b L)(h:H p=none):p∉L.foot r:=λz=>by
 obtain⟨o,e,_⟩:=R.there p z;rw[h]at e;cases e
theorem BE.fin{H0 H':Hp}{F:List Addr}{r p:Addr}{b:Vbdeag.Bank}{L:Lo}{vs:List V}{Q:VK}
 (k:∀(H':Hp)(L':Lo)(p:Addr),Ah T H' r b L'->BE H0 F H' (L'.foot r)->H' p=some (.lst vs)->H0 p=none->p∉L'.foot r->Q (.ref p) H')
 (R:Ah T H r b L) (m:BE H0 F H (L.foot r)) (s:A7 H H') (hp:H p=none) (e:H' p=some (.lst vs)):Q (.ref p) H':=
 k H' L p (R.same s) (m.trans (BE.same s)) e (m.free hp) (R.Cv hp)
section
variable{r:Addr}{b:Vbdeag.Bank}{L:Lo}
theorem vV(h:(L.foot r).Nodup):L.aw≠r/\L.ac≠r/\L.ap≠r/\L.ad≠r/\(∀z∈L.zc,z.1≠r)/\(∀z∈L.zp,z.1≠r)/\∀z∈L.zd,z.1≠r:=by
 have h1:=(BQ.mp h).1;simp only[AN,AQ,AG,RT,not_exists,not_and]at h1;obtain⟨a1,a2,a3,a4,a5,a6,a7⟩:=h1;exact⟨λz=>a1 z.symm,λz=>a2 z.symm,λz=>a3 z.symm,λz=>a4 z.symm,λz hz e=>a5 z hz e,λz hz e=>a6 z hz e,λz hz e=>a7 z hz e⟩
theorem Ah.VA{b':Vbdeag.Bank}{L':Lo}(R:Ah T H r b L)(hw:∀z∈L'.zw,Ji T H z.1 z.2)(h1:H L'.aw=some (.lst (refs L'.zw)))(h2:H L'.ac=some (.lst (refs L'.zc)))(h3:H L'.ap=some (.lst (refs L'.zp)))(h4:H L'.ad=some (.lst (refs L'.zd)))
 (hc:∀z∈L'.zc,H z.1=some (.lst (refs z.2))/\∀y∈z.2,Dg T H y.1 y.2) (hp:∀z∈L'.zp,H z.1=some (.lst (refs z.2))/\∀y∈z.2,Hj T H y.1 y.2) (hd:∀z∈L'.zd,H z.1=some (.lst (refs z.2))/\∀y∈z.2,Hl T H y.1 y.2)
 (nd:(L'.foot r).Nodup) (bw:b'.watches=L'.zw.map (·.2)) (bc:b'.chains=L'.zc.map λz=>z.2.map (·.2)) (bp:b'.points=L'.zp.map λz=>z.2.map (·.2)) (bd:b'.doors=L'.zd.map λz=>z.2.map (·.2)) (hdx:L'.dx=L.dx):
 Ah T (upd H r (.ins T.Bw L.dx (IG b'.word L'.aw L'.ac L'.ap L'.ad))) r b' L':=by
 obtain⟨n1,n2,n3,n4,n5,n6,n7⟩:=vV nd;refine⟨by rw[AD,hdx],by rw[Aj n1];exact h1,by rw[Aj n2];exact h2,by rw[Aj n3];exact h3,by rw[Aj n4];exact h4,λz hz=>(hw z hz).upd R.obj U,λz hz=>⟨by rw[Aj (n5 z hz)];exact(hc z hz).1,λy hy=>((hc z hz).2 y hy).upd R.obj U⟩,
  λz hz=>⟨by rw[Aj (n6 z hz)];exact(hp z hz).1,λy hy=>((hp z hz).2 y hy).upd R.obj U⟩,λz hz=>⟨by rw[Aj (n7 z hz)];exact(hd z hz).1,λy hy=>((hd z hz).2 y hy).upd R.obj U⟩,nd,bw,bc,bp,bd⟩
theorem Ah.k7(R:Ah T H r b L)(v:Nat):Ah T (upd H r (.ins T.Bw L.dx (IG v L.aw L.ac L.ap L.ad))) r {b with word:=v} L:=
 R.VA (b':={b with word:=v}) (L':=L) R.ww R.lw R.lc R.lp R.ld R.cc R.pp R.dd R.nd R.bw R.bc R.bp R.bd U
theorem Ah.Tt(R:Ah T H r b L){p:Addr}{zs:List (Addr×Vbdeag.Watch)}(hp:H p=some (.lst (refs zs)))(hn:p∉L.foot r)(hz:∀z∈zs,Ji T H z.1 z.2):
 Ah T (upd H r (.ins T.Bw L.dx (IG b.word p L.ac L.ap L.ad))) r {b with watches:=zs.map (·.2)} {L with aw:=p,zw:=zs}:=by
 refine R.VA (b':={b with watches:=zs.map (·.2)}) (L':={L with aw:=p,zw:=zs}) hz hp R.lc R.lp R.ld R.cc R.pp R.dd ?_ U R.bc R.bp R.bd U;have h:=R.nd;unfold Lo.foot at h hn⊢;rw[BQ,BQ]at h⊢;obtain⟨h1,h2,h3⟩:=h;refine⟨λz=>?_,λz=>hn (AV _ (AV _ z)),h3⟩;rcases AN.mp z with z|z
 ·exact hn (by rw[<-show r=p from z];exact Ac ..)
 ·exact h1 (AV _ z)
end
end
theorem BE.set{H0 H:Hp}{F F1 F':List Addr}{x:Addr}{o:HO}(m:BE H0 F H F1)(hx:x∈F1)(hf:∀a∈F',a∈F1\/H0 a=none):BE H0 F (L2.upd H x o) F' where
 keep:=λa u e hF=>by
  rw[Aj λz=>?_]
  ·exact m.keep a u e hF
  ·rcases m.fresh x hx with q|q
   ·exact hF (by rw[z];exact q)
   ·rw[<-z,e]at q;cases q
 grow:=λa u e=>by obtain⟨o1,q⟩:=m.grow a u e;exact q_ a o1 q
 fresh:=λa h=>(hf a h).elim (λh1=>m.fresh a h1) λq=>.inr q
theorem Qx{α:Type}{p:α}:∀{l:List α}{i:Nat},l.Nodup->p∉l->(l.set i p).Nodup
 | [],_,_,_=>DA
 |a::l,0,h,hp=>BQ.mpr ⟨λz=>hp (AV _ z),(BQ.mp h).2⟩
 |a::l,i+1,h,hp=>by
  obtain⟨h1,h2⟩:=BQ.mp h;refine BQ.mpr ⟨λz=>?_,Qx h2 λz=>hp (AV _ z)⟩;rcases Bf z with z|z
  ·exact h1 z
  ·exact hp (by rw[z];exact Ac ..)
theorem Pe{α:Type}(zs:List (Addr×α))(i:Nat)(z:Addr×α):refs (zs.set i z)=(refs zs).set i (.ref z.1):=by unfold refs;rw[FH]
theorem fG{α:Type}(l B:List α)(c:Nat)(p:α)(h:c<l.length):(l++B).set c p=l.set c p++B:=List.set_append_left _ _ h
theorem Ye{α:Type}(l B:List α)(c:Nat)(p:α):(l++B).set (l.length+c) p=l++B.set c p:=by
 rw[List.set_append_right _ _ (Ds _ _),DS]
section
variable{P:Program}{w:World}{K:PySem.W.Frag}{mg:Str->Option Value}{base:Heap}{T:All w K mg}{H:Hp}{r:Addr}{b:Vbdeag.Bank}{L:Lo}
theorem bH{c:Nat}{p:Addr}{ys:List (Addr×Vbdeag.Entry)}(hc:c<L.zc.length):({L with zc:=L.zc.set c (p,ys)}:Lo).foot r=(L.foot r).set (5+c) p:=by
 unfold Lo.foot;have e:5+c=c+1+1+1+1+1:=by omega
 rw[e];simp only[ML,FH];rw[fG _ _ _ _ (by rw[AA];exact hc)]
theorem iQ{c:Nat}{p:Addr}{ys:List (Addr×Vbdeag.Guest)}(hc:c<L.zp.length):({L with zp:=L.zp.set c (p,ys)}:Lo).foot r=(L.foot r).set (5+(L.zc.length+c)) p:=by
 unfold Lo.foot;have e:5+(L.zc.length+c)=(L.zc.length+c)+1+1+1+1+1:=by omega
 rw[e];simp only[ML,FH];have e2:L.zc.length=(L.zc.map (·.1)).length:=by rw[AA]
 rw[e2,Ye,fG _ _ _ _ (by rw[AA];exact hc)]
theorem iR{c:Nat}{p:Addr}{ys:List (Addr×Vbdeag.Side)}:({L with zd:=L.zd.set c (p,ys)}:Lo).foot r=(L.foot r).set (5+(L.zc.length+(L.zp.length+c))) p:=by
 unfold Lo.foot;have e:5+(L.zc.length+(L.zp.length+c))=(L.zc.length+(L.zp.length+c))+1+1+1+1+1:=by omega
 rw[e];simp only[ML,FH];have e2:L.zc.length=(L.zc.map (·.1)).length:=by rw[AA]
 have e3:L.zp.length=(L.zp.map (·.1)).length:=by rw[AA]
 rw[e2,Ye,e3,Ye]
theorem NW(h:(L.foot r).Nodup):(L.ac≠r/\L.ac≠L.aw/\L.ac≠L.ap/\L.ac≠L.ad/\(∀z∈L.zc,z.1≠L.ac)/\(∀z∈L.zp,z.1≠L.ac)/\∀z∈L.zd,z.1≠L.ac)/\
 (L.ap≠r/\L.ap≠L.aw/\L.ap≠L.ac/\L.ap≠L.ad/\(∀z∈L.zc,z.1≠L.ap)/\(∀z∈L.zp,z.1≠L.ap)/\∀z∈L.zd,z.1≠L.ap)/\
 (L.ad≠r/\L.ad≠L.aw/\L.ad≠L.ac/\L.ad≠L.ap/\(∀z∈L.zc,z.1≠L.ad)/\(∀z∈L.zp,z.1≠L.ad)/\∀z∈L.zd,z.1≠L.ad)/\
 (L.aw≠r/\(∀z∈L.zc,z.1≠L.aw)/\(∀z∈L.zp,z.1≠L.aw)/\∀z∈L.zd,z.1≠L.aw):=by
 unfold Lo.foot at h;simp only[BQ,AN,AQ,AG,RT,not_exists,not_and]at h;obtain⟨⟨a1,a2,a3,a4,a5,a6,a7⟩,⟨b1,b2,b3,b4,b5,b6⟩,⟨c1,c2,c3,c4,c5⟩,⟨d1,d2,d3,d4⟩,⟨e1,e2,e3⟩,_⟩:=h;exact⟨⟨CI a2,CI b1,c1,c2,λz hz=>c3 z hz,λz hz=>c4 z hz,λz hz=>c5 z hz⟩,⟨CI a3,CI b2,CI c1,d1,λz hz=>d2 z hz,λz hz=>d3 z hz,λz hz=>d4 z hz⟩,
  ⟨CI a4,CI b3,CI c2,CI d1,λz hz=>e1 z hz,λz hz=>e2 z hz,λz hz=>e3 z hz⟩,⟨CI a1,λz hz=>b4 z hz,λz hz=>b5 z hz,λz hz=>b6 z hz⟩⟩
theorem Ah.setChain{c:Nat}{p:Addr}{ys:List (Addr×Vbdeag.Entry)}(R:Ah T H r b L)(hc:c<L.zc.length)(hp:H p=some (.lst (refs ys)))(hn:p∉L.foot r)(hy:∀y∈ys,Dg T H y.1 y.2):
 Ah T (L2.upd H L.ac (.lst ((refs L.zc).set c (.ref p)))) r (b.setChain c (ys.map (·.2))) {L with zc:=L.zc.set c (p,ys)}:=by
 obtain⟨⟨n1,n2,n3,n4,n5,n6,n7⟩,_⟩:=NW R.nd;have np:p≠L.ac:=λz=>hn (by rw[z];unfold Lo.foot;simp);refine⟨by rw[Aj n1.symm];exact R.obj,by rw[Aj n2.symm];exact R.lw,by rw[AD,Pe],by rw[Aj n3.symm];exact R.lp,by rw[Aj n4.symm];exact R.ld,λz hz=>(R.ww z hz).upd R.lc trivial,λz hz=>?_,
  λz hz=>⟨by rw[Aj (n6 z hz)];exact(R.pp z hz).1,λy hy=>((R.pp z hz).2 y hy).upd R.lc trivial⟩,λz hz=>⟨by rw[Aj (n7 z hz)];exact(R.dd z hz).1,λy hy=>((R.dd z hz).2 y hy).upd R.lc trivial⟩,?_,R.bw,?_,R.bp,R.bd⟩
 ·rcases Bf hz with hz|hz
  ·exact⟨by rw[Aj (n5 z hz)];exact(R.cc z hz).1,λy hy=>((R.cc z hz).2 y hy).upd R.lc trivial⟩
  ·rw[hz];exact⟨by rw[Aj np];exact hp,λy h=>(hy y h).upd R.lc trivial⟩
 ·rw[bH hc];exact Qx R.nd hn
 ·show(b.chains.set c _)=_;rw[R.bc,FH]
theorem Ah.setPoint{c:Nat}{p:Addr}{ys:List (Addr×Vbdeag.Guest)}(R:Ah T H r b L)(hc:c<L.zp.length)(hp:H p=some (.lst (refs ys)))(hn:p∉L.foot r)(hy:∀y∈ys,Hj T H y.1 y.2):
 Ah T (L2.upd H L.ap (.lst ((refs L.zp).set c (.ref p)))) r (b.setPoint c (ys.map (·.2))) {L with zp:=L.zp.set c (p,ys)}:=by
 obtain⟨_,⟨n1,n2,n3,n4,n5,n6,n7⟩,_⟩:=NW R.nd;have np:p≠L.ap:=λz=>hn (by rw[z];unfold Lo.foot;simp);refine⟨by rw[Aj n1.symm];exact R.obj,by rw[Aj n2.symm];exact R.lw,by rw[Aj n3.symm];exact R.lc,by rw[AD,Pe],by rw[Aj n4.symm];exact R.ld,λz hz=>(R.ww z hz).upd R.lp trivial,
  λz hz=>⟨by rw[Aj (n5 z hz)];exact(R.cc z hz).1,λy hy=>((R.cc z hz).2 y hy).upd R.lp trivial⟩,λz hz=>?_,λz hz=>⟨by rw[Aj (n7 z hz)];exact(R.dd z hz).1,λy hy=>((R.dd z hz).2 y hy).upd R.lp trivial⟩,?_,R.bw,R.bc,?_,R.bd⟩
 ·rcases Bf hz with hz|hz
  ·exact⟨by rw[Aj (n6 z hz)];exact(R.pp z hz).1,λy hy=>((R.pp z hz).2 y hy).upd R.lp trivial⟩
  ·rw[hz];exact⟨by rw[Aj np];exact hp,λy h=>(hy y h).upd R.lp trivial⟩
 ·rw[iQ hc];exact Qx R.nd hn
 ·show(b.points.set c _)=_;rw[R.bp,FH]
theorem Ah.setDoor{c:Nat}{p:Addr}{ys:List (Addr×Vbdeag.Side)}(R:Ah T H r b L)(hp:H p=some (.lst (refs ys)))(hn:p∉L.foot r)(hy:∀y∈ys,Hl T H y.1 y.2):
 Ah T (L2.upd H L.ad (.lst ((refs L.zd).set c (.ref p)))) r (b.setDoor c (ys.map (·.2))) {L with zd:=L.zd.set c (p,ys)}:=by
 obtain⟨_,_,⟨n1,n2,n3,n4,n5,n6,n7⟩,_⟩:=NW R.nd;have np:p≠L.ad:=λz=>hn (by rw[z];unfold Lo.foot;simp);refine⟨by rw[Aj n1.symm];exact R.obj,by rw[Aj n2.symm];exact R.lw,by rw[Aj n3.symm];exact R.lc,by rw[Aj n4.symm];exact R.lp,by rw[AD,Pe],λz hz=>(R.ww z hz).upd R.ld trivial,
  λz hz=>⟨by rw[Aj (n5 z hz)];exact(R.cc z hz).1,λy hy=>((R.cc z hz).2 y hy).upd R.ld trivial⟩,λz hz=>⟨by rw[Aj (n6 z hz)];exact(R.pp z hz).1,λy hy=>((R.pp z hz).2 y hy).upd R.ld trivial⟩,λz hz=>?_,?_,R.bw,R.bc,R.bp,?_⟩
 ·rcases Bf hz with hz|hz
  ·exact⟨by rw[Aj (n7 z hz)];exact(R.dd z hz).1,λy hy=>((R.dd z hz).2 y hy).upd R.ld trivial⟩
  ·rw[hz];exact⟨by rw[Aj np];exact hp,λy h=>(hy y h).upd R.ld trivial⟩
 ·rw[iR];exact Qx R.nd hn
 ·show(b.doors.set c _)=_;rw[R.bd,FH]
theorem JK{F:List Addr}{i:Nat}{p a:Addr}{H0:Hp}(h:a∈F.set i p)(hp:H0 p=none):a∈F\/H0 a=none:=by
 rcases Bf h with h|h
 ·exact .inl h
 ·exact .inr (by rw[h];exact hp)
theorem Ah.chain{c:Nat}(R:Ah T H r b L)(hc:c<L.zc.length):∃z,L.zc[c]?=some z/\H z.1=some (.lst (refs z.2))/\(∀y∈z.2,Dg T H y.1 y.2)/\b.chain c=z.2.map (·.2)/\z.1∈L.foot r:=by
 obtain⟨z,hz⟩:∃z,L.zc[c]?=some z:=⟨_,Ak hc⟩;have m:=AS hz;refine⟨z,hz,(R.cc z m).1,(R.cc z m).2,?_,?_⟩
 ·unfold Vbdeag.Bank.chain;rw[R.bc,A3,Ai,hz];rfl
 ·unfold Lo.foot;simp only[AN,AQ,AG];exact .inr (.inr (.inr (.inr (.inr (.inl ⟨z,m,U⟩)))))
theorem Ah.point{c:Nat}(R:Ah T H r b L)(hc:c<L.zp.length):∃z,L.zp[c]?=some z/\H z.1=some (.lst (refs z.2))/\(∀y∈z.2,Hj T H y.1 y.2)/\b.point c=z.2.map (·.2)/\z.1∈L.foot r:=by
 obtain⟨z,hz⟩:∃z,L.zp[c]?=some z:=⟨_,Ak hc⟩;have m:=AS hz;refine⟨z,hz,(R.pp z m).1,(R.pp z m).2,?_,?_⟩
 ·unfold Vbdeag.Bank.point;rw[R.bp,A3,Ai,hz];rfl
 ·unfold Lo.foot;simp only[AN,AQ,AG];exact .inr (.inr (.inr (.inr (.inr (.inr (.inl ⟨z,m,U⟩))))))
theorem Ah.door{c:Nat}(R:Ah T H r b L)(hc:c<L.zd.length):∃z,L.zd[c]?=some z/\H z.1=some (.lst (refs z.2))/\(∀y∈z.2,Hl T H y.1 y.2)/\b.door c=z.2.map (·.2)/\z.1∈L.foot r:=by
 obtain⟨z,hz⟩:∃z,L.zd[c]?=some z:=⟨_,Ak hc⟩;have m:=AS hz;refine⟨z,hz,(R.dd z m).1,(R.dd z m).2,?_,?_⟩
 ·unfold Vbdeag.Bank.door;rw[R.bd,A3,Ai,hz];rfl
 ·unfold Lo.foot;simp only[AN,AQ,AG];exact .inr (.inr (.inr (.inr (.inr (.inr (.inr ⟨z,m,U⟩))))))
end
end So
namespace So
open PySem PyProof.Rows
theorem Xo:∀(n a b:Nat),a<=n->(a^^^b)+2*(a&&&b)=a+b
 |n,0,b,_=>by rw[Nat.zero_xor,Nat.zero_and];omega
 |0,a+1,b,h=>absurd h (by omega)
 |n+1,a+1,b,h=>by
  have ih:=Xo n ((a+1)/2) (b/2) (by omega);have h1:((a+1)^^^b)/2=(a+1)/2^^^b/2:=Nat.xor_div_two;have h2:((a+1)&&&b)/2=(a+1)/2&&&b/2:=Nat.and_div_two;have h3:(((a+1)^^^b)%2=1)↔¬(((a+1)%2=1)↔(b%2=1)):=Nat.xor_mod_two_eq_one;have h4:(((a+1)&&&b)%2=1)↔((a+1)%2=1)/\b%2=1:=Nat.and_mod_two_eq_one;generalize (a+1)^^^b=x at*;generalize (a+1)&&&b=y at*;rw[<-h1,<-h2]at ih;omega
theorem T9(a b:Nat):Builtin.bitAnd (a:Int) (b:Int)=((a&&&b:Nat):Int):=by
 unfold Builtin.bitAnd;rw[AM (By a),AM (By b)];rfl
theorem uB(a b:Nat):Builtin.bitXor (a:Int) (b:Int)=((a^^^b:Nat):Int):=by
 rw[bitXor_and,T9];have:=Xo a a b (AU _);omega
theorem pU(a b:Nat):Builtin.bitOr (a:Int) (b:Int)=(a:Int)+(b:Int)-((a&&&b:Nat):Int):=by rw[bitOr_and,T9]
theorem k8(a k:Nat):a&&&2^k=if a.testBit k=true then 2^k else 0:=by
 refine Nat.eq_of_testBit_eq λi=>?_;rw[Nat.testBit_and,Lc];by_cases h:k=i
 ·subst h;cases q:a.testBit k<;>simp[Lc]
 ·cases q:a.testBit k<;>simp[Lc,h]
theorem jR(a k:Nat):Builtin.bitOr (a:Int) ((2^k:Nat):Int)-((2^k:Nat):Int)=((Vbdeag.turned a k 0:Nat):Int):=by
 have x:=Xo a a (2^k) (AU _);rw[pU];unfold Vbdeag.turned;rw[k8]at x⊢;generalize 2^k=p at*;cases q:a.testBit k with
 |true=>
  rw[q]at x;simp at x⊢;omega
 |false=>
  rw[q]at x;simp at x⊢
theorem nR(a k:Nat):Builtin.bitOr (a:Int) ((2^k:Nat):Int)=((Vbdeag.turned a k 1:Nat):Int):=by
 have x:=Xo a a (2^k) (AU _);rw[pU];unfold Vbdeag.turned;rw[k8]at x⊢;generalize 2^k=p at*;cases q:a.testBit k with
 |true=>
  rw[q]at x;simp at x⊢
 |false=>
  rw[q]at x;simp at x⊢;omega
theorem gQ(a k:Nat):Builtin.bitXor (a:Int) ((2^k:Nat):Int)=((Vbdeag.turned a k 2:Nat):Int):=by
 rw[uB];unfold Vbdeag.turned;simp
theorem nT{a k how:Nat}(ha:a<2^59)(hk:k<=58):Vbdeag.turned a k how<2^59:=by
 unfold Vbdeag.turned
 split
 ·exact Nat.xor_lt_two_pow ha (Nat.pow_lt_pow_right (by decide) (by omega))
 ·exact ha
end So
namespace So
open PySem PySem.Spec PyProof.Rows L2
theorem gR{α β:Type}{f:α->β}{l:List α}(nd:(l.map f).Nodup){p:α->Bool}{a:α}(h:a∈l)(hp:p a=false):f a∉(l.filter p).map f:=by
 intro z;obtain⟨c,hc,e⟩:=AG.mp z;obtain⟨hc1,hc2⟩:=A5.mp hc;have:c=a:=by
  obtain⟨i,hi⟩:=Bt.mp hc1;obtain⟨j,hj⟩:=Bt.mp h;have h1:(l.map f)[i]?=some (f c):=by rw[Ai,hi];rfl
  have h2:(l.map f)[j]?=some (f c):=by rw[Ai,hj];exact B5 some e.symm
  have:=zS nd h1 h2;subst this;rw[hi]at hj;exact BB hj
 subst this;rw[hc2]at hp;cases hp
theorem away{α:Type}(f:α->Nat){l:List α}(nd:(l.map f).Nodup)(p:α->Bool):(l.filter λa=>!(((l.filter p).map λa=>(f a:Int)).contains (f a:Int)))=l.filter λa=>!p a:=by
 refine CJ λa ha=>?_
 congr 1
 cases hp:p a with
 |true=>
  rw[BF];exact AM (AG.mpr ⟨a,A5.mpr ⟨ha,hp⟩,U⟩)
 |false=>
  rw[BF];refine BJ λz=>?_;obtain⟨c,hc,e⟩:=AG.mp z;exact gR nd ha hp (AG.mpr ⟨c,hc,by omega⟩)
theorem oj{α:Type}(f:α->Nat){zs:List (Addr×α)}(nd:((zs.map (·.2)).map f).Nodup)(p:α->Bool){ids:List Int}(hi:ids=((zs.filter λz=>p z.2).map λz=>(f z.2:Int))):
 refs ((CZ f zs).filter λz=>!ids.contains z.2)=refs (zs.filter λz=>!p z.2):=by
 have h:=away (λz:Addr×α=>f z.2) (l:=zs) (by rw[An]at nd;exact nd) λz=>p z.2;unfold CZ;rw[DI,hi];show refs ((zs.filter λz=>!((zs.filter λz=>p z.2).map λz=>(f z.2:Int)).contains (f z.2:Int)).map _)=_;rw[h];unfold refs;rw[An];rfl
theorem ED{α:Type}(zs:List (Addr×α))(p:α->Bool):(zs.filter λz=>p z.2).map (·.2)=(zs.map (·.2)).filter p:=by
 rw[DI];rfl
section
variable{P:Program}{w:World}{K:PySem.W.Frag}{mg:Str->Option Value}{base:Heap}
inductive WL(T:All w K mg)(vs:List V)(H:Hp)(Q:VK)(E:XK):Prop
 |mk(a m v:Nat):vs=[.int a,.int m,.int v]->Q (.bl (decide (a&&&m=v&&&m))) H->WL T vs H Q E
theorem WM(T:All w K mg):Ok P w base T.Uh 1 (WL T):=by
 refine T.Uh.go nB λcdv A outer s H vs Q E hr h Cc=>?_;obtain⟨a,m,v,rfl,k⟩:=h;refine⟨_,(AK (Am (Iv E7 (CA iG (pv 0) (pv 1)) (CA iG (pv 2) (pv 1))))),?_⟩;refine⟨_,U,_,U,_,_,U,U,_,U,_,U,_,_,U,U,U,?_⟩;have e:decide (V.int (Builtin.bitAnd (a:Int) (m:Int))=V.int (Builtin.bitAnd (v:Int) (m:Int)))=decide (a&&&m=v&&&m):=by
  rw[dI,T9,T9];exact CW.mpr (by omega)
 exact e▸k
def Done(T:All w K mg)(H:Hp)(r:Addr)(L:Lo)(b':Vbdeag.Bank)(VB:List Int)(Q:VK):Prop:=
 ∀(H':Hp)(L':Lo)(p:Addr),Ah T H' r b' L'->BE H (L.foot r) H' (L'.foot r)->H' p=some (.lst (VB.map V.int))->H p=none->p∉L'.foot r->Q (.ref p) H'
theorem Done.fin{T:All w K mg}{H H1 H':Hp}{r p:Addr}{L L':Lo}{b':Vbdeag.Bank}{VB:List Int}{Q:VK}(k:Done T H r L b' VB Q)(R:Ah T H1 r b' L')(m:BE H (L.foot r) H1 (L'.foot r))(s:A7 H1 H')(hp:H1 p=none)(e:H' p=some (.lst (VB.map V.int))):Q (.ref p) H':=
 BE.fin k R m s hp e
theorem YA(l:List Nat):Vbdeag.ids l=0::((l.map λn:Nat=>(n:Int)).length:Int)::l.map λn:Nat=>(n:Int):=rfl
theorem ME{L:Lo}{r:Addr}:r∈L.foot r:=Ac ..
theorem jS{b:Vbdeag.Bank}{zw:List (Addr×Vbdeag.Watch)}(bw:b.watches=zw.map (·.2))(v:Nat):((CZ (·.id) (zw.filter λz=>Vbdeag.fits v z.2)).map λz=>V.int z.2)=(((b.watches.filter (Vbdeag.fits v)).map (·.id)).map λn:Nat=>(n:Int)).map V.int:=by
 rw[bw,<-ED];unfold CZ;rw[An,An,An,An];rfl
inductive fH(T:All w K mg)(vs:List V)(H:Hp)(Q:VK)(E:XK):Prop
 |mk(r:Addr)(v:Nat)(b:Vbdeag.Bank)(L:Lo):vs=[.ref r,.int v]->Ah T H r b L->b.watches.length<=1000->(∀x∈b.watches,x.value&&&x.mask=x.value)->(∀(H':Hp)(p:Addr),A7 H H'->H p=none->H' p=some (.lst ((Vbdeag.ids ((b.watches.filter (Vbdeag.fits v)).map (·.id))).map V.int))->Q (.ref p) H')->fH T vs H Q E
theorem fJ(T:All w K mg):Ok P w base T.Xh 2 (fH T):=by
 refine T.Xh.go YY λcdv A outer s H vs Q E hr h Cc=>?_;obtain⟨r,v,b,L,rfl,R,hz,hv,k⟩:=h;refine⟨_,(AK (Am (Bu (Cn T) hr (AB (Bu (Nc T) hr (AB (Fi (own:=[("one",2)]) (tt:=(tB (LA (WL T) [] E0 (CM (CD 1) (CM (RX K (CD 2) "mask") (CM (RX K (CD 2) "value") C_)))))) (te:=(CD 2)) U YY.nd (Bx (Av (pv 0))) (CS (by rfl)) (λ_ _ _ _ _=>BW (i:=2) YY.nd U (Or.inl U)) (λ_ _ _ _ _=>Pq (D_ (Bu (WM T) hr (AB (pv 1) (AB (Av (pv 2)) (AB (Av (pv 2)) AF)))))) (λ_ _ _ _ _=>(pv 2))) AF)) AF)))),?_⟩;have kr:=T.BG;have kw:=T.Dm;have zl:L.zw.length<=1000:=by rw[R.bw,AA]at hz;exact hz
 refine⟨_,U,r,_,L.dx,_,V.ref L.aw,U,R.obj,kr.cl,kr.no _ (by simp),U,L.aw,U,⟨_,A1.of R.lw⟩,λD hD=>?_⟩;refine JD (zs:=L.zw) (A1.of R.lw) (by omega) (by show 2<3;decide) hD (λz=>Vbdeag.fits v z.2) (λz=>V.ref z.1) (λz hz' H' hs R' hR=>?_) (λz hz' _ H' hs R' hR=>⟨_,U,hR⟩) ?_
 ·obtain⟨dx,e⟩:=(R.ww z hz').same hs;refine⟨_,U,_,U,z.1,_,dx,_,V.int z.2.mask,U,e,kw.cl,kw.no _ (by simp),U,_,U,z.1,_,dx,_,V.int z.2.value,U,e,kw.cl,kw.no _ (by simp),U,v,z.2.mask,z.2.value,U,_,U,?_⟩;have hx:z.2∈b.watches:=by rw[R.bw];exact AG.mpr ⟨z,hz',U⟩
  have:decide (v&&&z.2.mask=z.2.value&&&z.2.mask)=Vbdeag.fits v z.2:=by
   rw[hv z.2 hx];rfl
  rw[this];exact hR
 have s2:A7 H (upd H D (.lst ((L.zw.filter λz=>Vbdeag.fits v z.2).map λz=>V.ref z.1))):=AO hD;refine⟨D,CZ (·.id) (L.zw.filter λz=>Vbdeag.fits v z.2),U,A1.of (by rw[C2];exact AD),?_,λy hy=>?_,λp hp=>?_⟩
 ·have:=BL (λz=>Vbdeag.fits v z.2) L.zw;unfold CZ;rw[AA];omega
 ·obtain⟨x,hx,rfl⟩:=C1 hy;exact((R.same s2).ww x (A5.mp hx).1).who
 generalize upd H D (.lst ((L.zw.filter λz=>Vbdeag.fits v z.2).map λz=>V.ref z.1))=H2 at s2 hp⊢;rw[jS R.bw];generalize hns:(((b.watches.filter (Vbdeag.fits v)).map (·.id)).map λn:Nat=>(n:Int))=ns;have nl:ns.length<=1000:=by
  rw[<-hns,AA,AA];exact Aw (BL _ _) hz
 have s3:=s2.trans (AO (o:=.lst (ns.map V.int)) hp);refine⟨p,ns,U,AD,by omega,λH6 t s6 nt et=>k H6 t (s3.trans s6) (s3.free nt) ?_⟩;rw[et,YA,hns]
theorem ABF(a b:V)(l:List V):PN (a::b::l) (some 2) none=l:=by
 show((a::b::l).drop (min 2 (l.length+2))).take (l.length+2-min 2 (l.length+2))=l;rw[FG (by omega),GI];exact BR
inductive pV(T:All w K mg)(vs:List V)(H:Hp)(Q:VK)(E:XK):Prop
 |mk(r:Addr)(v:Nat)(b:Vbdeag.Bank)(L:Lo):vs=[.ref r,.int v]->Ah T H r b L->b.watches.length<=1000->(b.watches.map (·.id)).Nodup->(∀x∈b.watches,x.value&&&x.mask=x.value)->Done T H r L {b with word:=v,watches:=b.watches.filter λx=>!Vbdeag.fits v x} (Vbdeag.ids ((b.watches.filter (Vbdeag.fits v)).map (·.id))) Q->pV T vs H Q E
theorem bI(T:All w K mg):Ok P w base T.ir 3 (pV T):=by
 refine T.ir.go pR λcdv A outer s H vs Q E hr h Cc=>?_;obtain⟨r,v,b,L,rfl,R,hz,nd,hv,k⟩:=h;refine⟨_,(AE (DJ pR 2 (Bu (fJ T) hr (AB (pv 0) (AB (pv 1) AF))))
  (AE (Cp (pv 0) (pv 1) U)
  (AE (Cp (pv 0) (Bu (FI T) hr (AB (Av (pv 0)) (AB (FU Gs (pv 2) (ER Ag) L8) AF))) U)
  (AK (Am (pv 2)))))),?_⟩
 have kr:=T.BG;have zl:L.zw.length<=1000:=by rw[R.bw,AA]at hz;exact hz
 refine⟨_,U,_,U,r,v,b,L,U,R,hz,hv,λH1 p s1 np ep=>?_⟩;have R1:=R.same s1;have m1:BE H (L.foot r) H1 (L.foot r):=BE.same s1;refine⟨_,U,_,U,r,_,L.dx,_,U,R1.obj,kr.cl,kr.no _ (by simp),(show(5:Nat)<1000 by decide),?_⟩;have R2:=R1.k7 v;have m2:BE H (L.foot r) (upd H1 r (.ins T.Bw L.dx (IG v L.aw L.ac L.ap L.ad))) (L.foot r):=m1.set ME λa h=>.inl h;have sM:(upd H1 r (.ins T.Bw L.dx (IG v L.aw L.ac L.ap L.ad))) p=_:=(Aj (Zb ep R1.obj (by intro z;cases z))).trans ep;rw[show EO (Str.ofString "word") (V.int (v:Int)) (IG b.word L.aw L.ac L.ap L.ad)=IG v L.aw L.ac L.ap L.ad from rfl];generalize upd H1 r (.ins T.Bw L.dx (IG v L.aw L.ac L.ap L.ad))=H2 at R2 m2 sM⊢;rw[YA]at sM;generalize hns:(((b.watches.filter (Vbdeag.fits v)).map (·.id)).map λn:Nat=>(n:Int))=ns at sM;have nl:ns.length<=1000:=by
  rw[<-hns,AA,AA];exact Aw (BL _ _) hz
 refine⟨_,U,r,_,L.dx,_,V.ref L.aw,U,R2.obj,kr.cl,kr.no _ (by simp),U,_,U,2,U,p,_,U,A1.of sM,λc nc=>?_⟩;rw[show PN ((0::(ns.length:Int)::ns).map V.int) (some 2) none=ns.map V.int from ABF _ _ _];have s3:A7 H2 (upd H2 c (.lst (ns.map V.int))):=AO nc;have hc:(upd H2 c (.lst (ns.map V.int))) c=some (.lst (ns.map V.int)):=AD;generalize upd H2 c (.lst (ns.map V.int))=H3 at s3 hc⊢;have R3:=R2.same s3;refine⟨L.aw,c,CZ (·.id) L.zw,ns,U,A1.of (by rw[C2];exact R3.lw),A1.of hc,by unfold CZ;rw[AA];omega,by omega,λy hy=>?_,λH4 q s4 nq eq=>?_⟩
 ·obtain⟨x,hx,rfl⟩:=C1 hy;exact(R3.ww x hx).who
 have R4:=R3.same s4;have e4:refs ((CZ (·.id) L.zw).filter λz=>!ns.contains z.2)=refs (L.zw.filter λz=>!Vbdeag.fits v z.2):=by
  refine oj (·.id) (by rw[<-R.bw];exact nd) (Vbdeag.fits v) ?_;rw[<-hns,R.bw,<-ED,An,An];rfl
 rw[e4]at eq;have nq3:q∉L.foot r:=R3.Cv nq;refine⟨_,U,r,_,L.dx,_,U,R4.obj,kr.cl,kr.no _ (by simp),(show(5:Nat)<1000 by decide),?_⟩;have R5:=R4.Tt eq nq3 λz hz'=>R4.ww z (A5.mp hz').1;have m4:BE H (L.foot r) H4 (L.foot r):=m2.trans (BE.same (s3.trans s4));have nq0:H q=none:=m2.free (s3.free nq);have m5:BE H (L.foot r) (upd H4 r (.ins T.Bw L.dx (IG v q L.ac L.ap L.ad))) (({L with aw:=q,zw:=L.zw.filter λz=>!Vbdeag.fits v z.2}:Lo).foot r):=m4.set ME λa h=>by
  unfold Lo.foot at h⊢;rcases AN.mp h with h|h
  ·exact .inl (by rw[h];exact Ac ..)
  ·rcases AN.mp h with h|h
   ·exact .inr (by rw[h];exact nq0)
   ·exact .inl (AV _ (AV _ h))
 have yx:=s4 _ _ (s3 _ _ sM);have ep5:(upd H4 r (.ins T.Bw L.dx (IG v q L.ac L.ap L.ad))) p=some (.lst ((0::(ns.length:Int)::ns).map V.int)):=(Aj (Zb yx R4.obj (by intro z;cases z))).trans yx;have pq:p≠q:=λz=>by rw[z]at sM;exact absurd (s3 _ _ sM) (by rw[nq];exact nofun)
 refine⟨_,U,k _ _ p ?_ m5 (by rw[YA,hns];exact ep5) np λh=>?_⟩
 ·have eb:({b with word:=v,watches:=b.watches.filter λx=>!Vbdeag.fits v x}:Vbdeag.Bank)={({b with word:=v}:Vbdeag.Bank)with watches:=(L.zw.filter λz=>!Vbdeag.fits v z.2).map (·.2)}:=by
   rw[ED L.zw λx=>!Vbdeag.fits v x,<-R.bw]
  rw[eb];exact R5
 ·have nf:=R.Cv np;unfold Lo.foot at h nf;rcases AN.mp h with h|h
  ·exact nf (by rw[h];exact Ac ..)
  ·rcases AN.mp h with h|h
   ·exact pq h
   ·exact nf (AV _ (AV _ h))
end
section
variable{P:Program}{w:World}{K:PySem.W.Frag}{mg:Str->Option Value}{base:Heap}
inductive Ru(T:All w K mg)(vs:List V)(H:Hp)(Q:VK)(E:XK):Prop
 |mk(k:Nat):vs=[.int k]->k<=58->Q (.int ((2^k:Nat):Int)) H->Ru T vs H Q E
theorem Zy(T:All w K mg):Ok P w base T.LD 1 (Ru T):=by
 refine T.LD.go KJ λcdv A outer s H vs Q E hr h Cc=>?_;obtain⟨k,rfl,hk,q⟩:=h;refine⟨_,(AE (DJ KJ 1 Ag)
  (AE (EK BK U (Na U T.MA (AB (pv 0) AF)) (BW (i:=2) KJ.nd U (Or.inl U))
    (AK (DJ KJ 1 (CA iF (pv 1) Ag))))
  (AK (Am (pv 1))))),?_⟩
 refine⟨_,U,_,U,by omega,by omega,?_⟩;refine Z_ (n:=(k:Int).toNat) (λi σ H'=>H'=H/\∃v:Option V,σ=[some (.int k),some (.int ((2^i:Nat):Int)),v]) ⟨U,none,U⟩ ?_ ?_
 ·rintro i σ H' hi ⟨rfl,v,rfl⟩;refine⟨_,U,_,_,U,U,.inr ⟨by decide,by decide⟩,U,some (.int (0+(i:Int))),?_⟩;have e:((2^i:Nat):Int)*2=((2^(i+1):Nat):Int):=by rw[Nat.pow_succ];omega
  show[_,some (V.int (((2^i:Nat):Int)*2)),_]=_;rw[e]
 ·rintro σ H' ⟨rfl,v,rfl⟩;refine⟨_,U,?_⟩;rw[Bg];exact q
inductive Rv(T:All w K mg)(vs:List V)(H:Hp)(Q:VK)(E:XK):Prop
 |mk(r:Addr)(k how:Nat)(b:Vbdeag.Bank)(L:Lo):vs=[.ref r,.int k,.int how]->k<=58->how<=2->Ah T H r b L->b.watches.length<=1000->(b.watches.map (·.id)).Nodup->(∀x∈b.watches,x.value&&&x.mask=x.value)->Done T H r L {b with word:=Vbdeag.turned b.word k how,watches:=b.watches.filter λx=>!Vbdeag.fits (Vbdeag.turned b.word k how) x} (Vbdeag.ids ((b.watches.filter (Vbdeag.fits (Vbdeag.turned b.word k how))).map (·.id))) Q->Rv T vs H Q E
theorem Zz(T:All w K mg):Ok P w base T.LF 4 (Rv T):=by
 refine T.LF.go Rp λcdv A outer s H vs Q E hr h Cc=>?_;obtain⟨r,k,how,b,L,rfl,hk,hh,R,h1,h2,h3,q⟩:=h;refine⟨_,(AE (DJ Rp 3 (Bu (Zy T) hr (AB (pv 1) AF)))
  (AE (B_ (BX E7 (pv 2) Ag) (AK (Am (Bu (bI T) hr (AB (pv 0) (AB (CA iE (CA ua (Av (pv 0)) (pv 3)) (pv 3)) AF))))) Bc)
  (AE (B_ (BX E7 (pv 2) Ag) (AK (Am (Bu (bI T) hr (AB (pv 0) (AB (CA ua (Av (pv 0)) (pv 3)) AF))))) Bc)
  (AK (Am (Bu (bI T) hr (AB (pv 0) (AB (CA wB (Av (pv 0)) (pv 3)) AF)))))))),?_⟩
 have kr:=T.BG;refine⟨_,U,k,U,hk,?_⟩;refine⟨_,U,U,_,U,DL (λh=>?_) λh=>?_⟩
 ·have hc:how=0:=by have:=V.int.inj (AX h);omega
  subst hc;refine⟨_,U,_,U,r,_,L.dx,_,V.int b.word,U,R.obj,kr.cl,kr.no _ (by simp),U,_,U,_,_,U,U,_,U,_,_,U,U,?_⟩;exact⟨r,Vbdeag.turned b.word k 0,b,L,by rw[<-jR];rfl,R,h1,h2,h3,q⟩
 have n0:how≠0:=λz=>h (AM (by rw[z];rfl));refine⟨_,U,U,_,U,DL (λh=>?_) λh=>?_⟩
 ·have hc:how=1:=by have:=V.int.inj (AX h);omega
  subst hc;refine⟨_,U,_,U,r,_,L.dx,_,V.int b.word,U,R.obj,kr.cl,kr.no _ (by simp),U,_,U,_,_,U,U,?_⟩;exact⟨r,Vbdeag.turned b.word k 1,b,L,by rw[<-nR];rfl,R,h1,h2,h3,q⟩
 have n1:how≠1:=λz=>h (AM (by rw[z];rfl));have hc:how=2:=by omega
 subst hc;refine⟨_,U,_,U,r,_,L.dx,_,V.int b.word,U,R.obj,kr.cl,kr.no _ (by simp),U,_,U,_,_,U,U,?_⟩;exact⟨r,Vbdeag.turned b.word k 2,b,L,by rw[<-gQ];rfl,R,h1,h2,h3,q⟩
theorem Done.one{T:All w K mg}{H H1:Hp}{r:Addr}{L L':Lo}{b':Vbdeag.Bank}{n:Int}{Q:VK}(k:Done T H r L b' [n] Q)(R:Ah T H1 r b' L')(m:BE H (L.foot r) H1 (L'.foot r)):∀p,H1 p=none->Q (.ref p) (upd H1 p (.lst [.int n])):=
 λp hp=>k.fin R m (AO hp) hp AD
end
theorem Qy{H:Hp}{x dx:Addr}{o u:HO}(nx:H x=none)(nd:H dx=none):A7 H (upd (upd H dx u) x o):=λb v e=>by
 rw[Aj (BY e nx),Aj (BY e nd)];exact e
section
variable{P:Program}{w:World}{K:PySem.W.Frag}{mg:Str->Option Value}{base:Heap}
theorem Ah.rA{T:All w K mg}{H:Hp}{r o:Addr}{b:Vbdeag.Bank}{L:Lo}{x:Vbdeag.Watch}(R:Ah T H r b L)(ho:Ji T H o x):
 Ah T (L2.upd H L.aw (.lst (refs L.zw++[.ref o]))) r {b with watches:=b.watches++[x]} {L with zw:=L.zw++[(o,x)]}:=by
 obtain⟨⟨_,c2,_⟩,⟨_,p2,_⟩,⟨_,d2,_⟩,⟨w1,w2,w3,w4⟩⟩:=NW R.nd;refine⟨by rw[Aj w1.symm];exact R.obj,by rw[AD,Dr];rfl,by rw[Aj c2];exact R.lc,by rw[Aj p2];exact R.lp,by rw[Aj d2];exact R.ld,λz hz=>?_,λz hz=>⟨by rw[Aj (w2 z hz)];exact(R.cc z hz).1,λy hy=>((R.cc z hz).2 y hy).upd R.lw trivial⟩,
  λz hz=>⟨by rw[Aj (w3 z hz)];exact(R.pp z hz).1,λy hy=>((R.pp z hz).2 y hy).upd R.lw trivial⟩,λz hz=>⟨by rw[Aj (w4 z hz)];exact(R.dd z hz).1,λy hy=>((R.dd z hz).2 y hy).upd R.lw trivial⟩,R.nd,?_,R.bc,R.bp,R.bd⟩
 ·rcases AQ.mp hz with hz|hz
  ·exact(R.ww z hz).upd R.lw trivial
  ·rw[Af.mp hz];exact ho.upd R.lw trivial
 ·show b.watches++[x]=_;rw[As,<-R.bw];rfl
theorem uD{L:Lo}{r:Addr}:L.aw∈L.foot r:=by unfold Lo.foot;simp
theorem Pu{L:Lo}{r:Addr}:L.ac∈L.foot r:=by unfold Lo.foot;simp
theorem cC{L:Lo}{r:Addr}:L.ap∈L.foot r:=by unfold Lo.foot;simp
theorem uE{L:Lo}{r:Addr}:L.ad∈L.foot r:=by unfold Lo.foot;simp
structure Co(L:Lo):Prop where
 c:L.zc.length=64
 p:L.zp.length=64
 d:L.zd.length=64
inductive VC(T:All w K mg)(vs:List V)(H:Hp)(Q:VK)(E:XK):Prop
 |mk(m v:Nat):vs=[.int m,.int v]->Q (.bl (decide (v&&&m=v))) H->VC T vs H Q E
theorem VD(T:All w K mg):Ok P w base T.MX 1 (VC T):=by
 refine T.MX.go cz λcdv A outer s H vs Q E hr h Cc=>?_;obtain⟨m,v,rfl,k⟩:=h;refine⟨_,(AK (Am (Iv E7 (CA iG (pv 1) (pv 0)) (pv 1)))),?_⟩;refine⟨_,U,_,U,_,_,U,U,_,U,U,?_⟩;have e:decide (V.int (Builtin.bitAnd (v:Int) (m:Int))=V.int (v:Int))=decide (v&&&m=v):=by
  rw[dI,T9];exact CW.mpr (by omega)
 exact e▸k
inductive fK(T:All w K mg)(vs:List V)(H:Hp)(Q:VK)(E:XK):Prop
 |mk(r:Addr)(x m v:Nat)(b:Vbdeag.Bank)(L:Lo):vs=[.ref r,.int x,.int m,.int v]->Ah T H r b L->Co L->b.watches.length<=1000->Done T H r L (Vbdeag.answered b (Vbdeag.watch b x m v)).1 (Vbdeag.answered b (Vbdeag.watch b x m v)).2 Q->fK T vs H Q E
theorem rB(T:All w K mg):Ok P w base T.Xi 4 (fK T):=by
 refine T.Xi.go qw λcdv A outer s H vs Q E hr h Cc=>?_;obtain⟨r,x,m,v,b,L,rfl,R,S,hz,k⟩:=h;refine⟨_,(AE (B_ (D_ (Bu (Pc T) hr (AB (pv 0) (AB (pv 1) AF)))) (AK (Am (BS (AB (Lg T.E9) AF)))) Bc)
  (AE (B_ (Hz (D_ (Bu (VD T) hr (AB (pv 2) (AB (pv 3) AF))))) (AK (Am (BS (AB (Lg T.GN) AF)))) Bc)
  (AE (B_ (D_ (Bu (WM T) hr (AB (Av (pv 0)) (AB (pv 2) (AB (pv 3) AF))))) (AK (Am (Bu (Cn T) hr (AB (BS (AB (pv 1) AF)) AF)))) Bc)
  (AE (B_ (BX Zd (JI T.Cd (Av (pv 0))) (Lg T.L_)) (AK (Am (BS (AB (Lg T.HV) AF)))) Bc)
  (AE (C0 (GU PySem.F.plainAttrs_list PySem.F.slot_list_append PySem.F.type_list_append GA (Av (pv 0)) (AB (Wx T.Dm (O4 T) hr (AB (pv 1) (AB (pv 2) (AB (pv 3) AF)))) AF)))
  (AK (Am (BS (AB Ag AF))))))))),?_⟩
 have kr:=T.BG;have zl:L.zw.length=b.watches.length:=by rw[R.bw,AA]
 unfold Vbdeag.watch at k;refine⟨_,U,_,U,r,x,b,L,U,By _,R,Bj S.c,Bj S.p,Bj S.d,λH1 s1=>⟨_,U,?_⟩⟩;have R1:=R.same s1;have m1:BE H (L.foot r) H1 (L.foot r):=BE.same s1;rw[Bg];cases hw:Vbdeag.waits b x with
 |true=>
  rw[AJ hw]at k;exact F7 ⟨by show 1<=sizeLine;decide,k.one R1 m1⟩
 |false=>
  rw[AI (by rw[hw];decide)]at k;refine GZ ?_;refine⟨_,U,_,U,m,v,U,_,U,DL (λh=>?_) λh=>?_⟩
  ·(have hne:v&&&m≠v:=λz=>by rw[AM z]at h;cases h);rw[AJ hne]at k;exact⟨by show 1<=sizeLine;decide,k.one R1 m1⟩
  have heq:v&&&m=v:=CF λq=>h (by rw[BJ q];rfl);rw[AI (λz=>z heq)]at k;refine⟨_,U,r,_,L.dx,_,V.int b.word,U,R1.obj,kr.cl,kr.no _ (by simp),U,_,U,_,U,b.word,m,v,U,_,U,?_⟩;have ef:decide (b.word&&&m=v&&&m)=Vbdeag.fits b.word ⟨x,m,v⟩:=by rw[heq];rfl
  rw[ef];cases hf:Vbdeag.fits b.word ⟨x,m,v⟩with
  |true=>
   rw[AJ hf]at k;refine F7 ⟨_,U,by show 1<=sizeLine;decide,λp hp=>?_⟩;refine⟨p,[(x:Int)],U,AD,by show 1<=100000;decide,λH2 q s2 nq eq=>?_⟩;exact k.fin (R1.same (AO hp)) (m1.trans (BE.same (AO hp))) s2 nq (by rw[eq];rfl)
  |false=>
   rw[AI (by rw[hf];decide)]at k;refine GZ ?_;refine⟨_,U,r,_,L.dx,_,V.ref L.aw,U,R1.obj,kr.cl,kr.no _ (by simp),U,L.aw,_,U,.inl (A1.of R1.lw),_,_,U,U,_,U,DL (λh=>?_) λh=>?_⟩
   ·have hc:1000<=b.watches.length:=by
     have:=AX h;rw[Al,zl]at this;omega
    rw[AJ (show Vbdeag.CAP<=b.watches.length from hc)]at k;exact⟨by show 1<=sizeLine;decide,k.one R1 m1⟩
   ·have hc:¬1000<=b.watches.length:=λz=>h (AM (by rw[Al,zl];omega));rw[AI (show¬Vbdeag.CAP<=b.watches.length from hc)]at k;refine⟨_,U,r,_,L.dx,_,V.ref L.aw,U,R1.obj,kr.cl,kr.no _ (by simp),U,.inl ⟨U,_,A1.of R1.lw⟩,_,U,_,U,_,U,λo dx no Qz nod=>?_⟩;refine⟨o,dx,x,m,v,U,AD,U,?_⟩;rw[Cj];have s2:A7 H1 (upd (upd H1 dx (.own o)) o (.ins T.GG dx (yu x m v))):=Qy no Qz;have R2:=R1.same s2;have ho:Ji T (upd (upd H1 dx (.own o)) o (.ins T.GG dx (yu x m v))) o ⟨x,m,v⟩:=⟨dx,AD⟩;refine⟨L.aw,_,_,U,U,R2.lw,by rw[Al];omega,?_⟩;refine⟨by show 1<=sizeLine;decide,?_⟩;have R3:=R2.rA ho;exact k.one (L':={L with zw:=L.zw++[(o,⟨x,m,v⟩)]}) R3 ((m1.trans (BE.same s2)).set uD λa h=>.inl h)
end
theorem EV{n c:Nat}(h:c<n):j7 n (c:Int)=some c:=by
 unfold j7;rw[AJ (by omega),AJ (by omega)];simp
section
variable{P:Program}{w:World}{K:PySem.W.Frag}{mg:Str->Option Value}{base:Heap}
inductive k9(T:All w K mg)(vs:List V)(H:Hp)(Q:VK)(E:XK):Prop
 |mk(r ka:Addr)(c x o:Nat)(q:Vbdeag.Key)(b:Vbdeag.Bank)(L:Lo):vs=[.ref r,.int c,.int x,.int o,.ref ka]->c<64->o<=5->Dv T H ka q->Bh q->Ah T H r b L->Co L->(b.chain c).length<=1000->(∀e∈b.chain c,Bh e.key)->Done T H r L (Vbdeag.answered b (Vbdeag.link b c x o q)).1 (Vbdeag.answered b (Vbdeag.link b c x o q)).2 Q->k9 T vs H Q E
theorem uF(T:All w K mg):Ok P w base T.aV 6 (k9 T):=by
 refine T.aV.go tZ λcdv A outer s H vs Q E hr h Cc=>?_;obtain⟨r,ka,c,x,o,q,b,L,rfl,hc,ho,hk,kq,R,S,hz,hke,k⟩:=h;refine⟨_,(AE (B_ (D_ (Bu (Pc T) hr (AB (pv 0) (AB (pv 2) AF)))) (AK (Am (BS (AB (Lg T.E9) AF)))) Bc)
  (AE (B_ (BX Zd (JI T.Cd (Ax Aa (Av (pv 0)) (pv 1))) (Lg T.L_)) (AK (Am (BS (AB (Lg T.HV) AF)))) Bc)
  (AE (Fy (Bu (MD T) hr (AB (Ax Aa (Av (pv 0)) (pv 1)) (AB (BS (AB (Wx T.GH (Rq T) hr (AB (pv 2) (AB (pv 4) AF))) AF)) (AB (pv 3) AF)))) (Fx (Av (pv 0)) (pv 1) set_list))
  (AK (Am (BS (AB Ag AF))))))),?_⟩
 have kr:=T.BG;have nC:=kr.no "chains" (by simp);unfold Vbdeag.link at k;have hcl:c<L.zc.length:=by rw[S.c];exact hc
 refine⟨_,U,_,U,r,x,b,L,U,By _,R,Bj S.c,Bj S.p,Bj S.d,λH1 s1=>⟨_,U,?_⟩⟩;have R1:=R.same s1;have m1:BE H (L.foot r) H1 (L.foot r):=BE.same s1;rw[Bg];cases hw:Vbdeag.waits b x with
 |true=>
  rw[AJ hw]at k;exact F7 ⟨by show 1<=sizeLine;decide,k.one R1 m1⟩
 |false=>
  rw[AI (by rw[hw];decide)]at k;refine GZ ?_;obtain⟨z,hz1,hz2,E2,EA,hz5⟩:=R1.chain hcl;have zl:z.2.length=(b.chain c).length:=by rw[EA,AA]
  refine⟨_,U,r,_,L.dx,_,V.ref L.ac,U,R1.obj,kr.cl,nC,U,_,U,L.ac,_,_,_,U,U,A1.of R1.lc,at_of U (BU hz1),z.1,_,U,.inl (A1.of hz2),_,_,U,U,_,U,DL (λh=>?_) λh=>?_⟩
  ·have hcap:1000<=(b.chain c).length:=by
    have:=AX h;rw[Al,zl]at this;omega
   rw[AJ (show Vbdeag.CAP<=(b.chain c).length from hcap)]at k;exact⟨by show 1<=sizeLine;decide,k.one R1 m1⟩
  ·have hcap:¬1000<=(b.chain c).length:=λz'=>h (AM (by rw[Al,zl];omega));rw[AI (show¬Vbdeag.CAP<=(b.chain c).length from hcap)]at k;refine⟨_,U,r,_,L.dx,_,V.ref L.ac,U,R1.obj,kr.cl,nC,U,_,U,L.ac,_,_,_,U,U,A1.of R1.lc,at_of U (BU hz1),_,U,_,U,λoe dx no Qz nod=>?_⟩;refine⟨oe,dx,x,ka,U,AD,U,?_⟩;rw[Cj];have s2:A7 H1 (upd (upd H1 dx (.own oe)) oe (.ins T.JA dx (xE x ka))):=Qy no Qz;have ke:Dg T (upd (upd H1 dx (.own oe)) oe (.ins T.JA dx (xE x ka))) oe ⟨x,q⟩:=⟨dx,ka,AD,(hk.same s1).same s2⟩;generalize upd (upd H1 dx (.own oe)) oe (.ins T.JA dx (xE x ka))=H2 at s2 ke⊢;have R2:=R1.same s2;refine⟨by show 1<=sizeLine;decide,λl1 n1=>?_⟩;have s3:A7 H2 (upd H2 l1 (.lst [.ref oe])):=AO n1;have R3:=R2.same s3;refine⟨_,U,z.1,l1,o,z.2,[(oe,⟨x,q⟩)],U,ho,(s2.trans s3) _ _ hz2,AD,by rw[zl];show _+1<=100000;omega,λy hy=>⟨((E2 y hy).same s2).same s3,?_⟩,λy hy=>?_,λH4 p ys s4 np ep ey hin hlen=>?_⟩
   ·exact hke y.2 (by rw[EA];exact AG.mpr ⟨y,hy,U⟩)
   ·rw[Af.mp hy];exact⟨ke.same s3,kq⟩
   have R4:=R3.same s4;have Xp:A7 H1 H4:=(s2.trans s3).trans s4;refine⟨_,U,r,_,L.dx,_,V.ref L.ac,U,R4.obj,kr.cl,nC,U,_,U,L.ac,_,_,c,U,U,R4.lc,EV (by rw[Al];exact hcl),?_⟩;refine⟨by show 1<=sizeLine;decide,?_⟩;have np1:H p=none:=s1.free ((s2.trans s3).free np);(have R5:=R4.setChain hcl ep (R3.Cv np) λy hy=>(hin y hy).elim (λq=>(E2 y q).same Xp) λq=>by rw[Af.mp q];exact(ke.same s3).same s4);(have eb:ys.map (·.2)=Vbdeag.linked o ⟨x,q⟩ (b.chain c):=by rw[ey,EA];rfl);rw[eb]at R5;exact k.one (L':={L with zc:=L.zc.set c (p,ys)}) R5 ((m1.trans (BE.same Xp)).set Pu λa h=>by rw[bH hcl]at h;exact JK h np1)
end
theorem Tu{c:Nat}(hc:c<=6){q:Vbdeag.Key}{e:Vbdeag.Entry}(kq:Bh q)(ke:Bh e.key):MP (c:Int) (worth e.key) (worth q)=Vbdeag.asks c q e:=by
 match c,hc with
 |0,_=>rfl
 |1,_=>exact(Uq ke kq).symm
 |2,_=>exact(IE ke kq).symm
 |3,_=>exact(IE kq ke).symm
 |4,_=>
  show(!decide (worth e.key=worth q))=(e.key !=q);rw[<-Uq ke kq];rfl
 |5,_=>exact(Pb ke kq).symm
 |6,_=>exact(Pb kq ke).symm
theorem Z0(ns:List Nat)(n:Nat):(ns.map λn:Nat=>(n:Int)).contains (n:Int)=ns.contains n:=by
 rw[BF,BF];refine CW.mpr ⟨λh=>?_,λh=>AG.mpr ⟨n,h,U⟩⟩;obtain⟨m,hm,e⟩:=AG.mp h;have:m=n:=by omega
 rw[<-this];exact hm
theorem Q0{α:Type}(f:α->Nat)(zs:List (Addr×α))(ns:List Nat):refs ((CZ f zs).filter λz=>!(ns.map λn:Nat=>(n:Int)).contains z.2)=refs (zs.filter λz=>!ns.contains (f z.2)):=by
 unfold CZ;rw[DI];have:(zs.filter ((λz:Addr×Int=>!(ns.map λn:Nat=>(n:Int)).contains z.2)∘λy=>(y.1,(f y.2:Int))))=zs.filter λz=>!ns.contains (f z.2):=CJ λz _=>by
  show(!(ns.map λn:Nat=>(n:Int)).contains (f z.2:Int))=_;rw[Z0]
 rw[this];unfold refs;rw[An];rfl
theorem fL(back:Nat)(hb:back<=1)(n:Nat)(p:Vbdeag.Entry->Bool)(zs:List (Addr×Vbdeag.Entry)):(WK (back:Int) n p zs).map (·.2)=WH (back==1) n p (zs.map (·.2)):=by
 unfold WK WH;rw[DW];by_cases h:back=1
 ·subst h;rw[AJ (by decide),AJ (by decide),Ep,ED]
 ·have:back=0:=by omega
  subst this;rw[AI (by decide),AI (by decide),ED]
theorem fM{back:Int}{n:Nat}{p:Vbdeag.Entry->Bool}{zs:List (Addr×Vbdeag.Entry)}{z:Addr×Vbdeag.Entry}(h:z∈WK back n p zs):z∈zs:=by
 unfold WK at h;have h:=Ct h
 split at h
 ·exact(A5.mp (Nz.mp h)).1
 ·exact(A5.mp h).1
theorem rC{back:Int}{n:Nat}{p:Vbdeag.Entry->Bool}{zs:List (Addr×Vbdeag.Entry)}:(WK back n p zs).length<=zs.length:=by
 unfold WK;refine Aw (RL _ _) ?_
 split
 ·rw[Fo];exact BL _ _
 ·exact BL _ _
theorem jT{back:Bool}{n:Nat}{p q:Vbdeag.Entry->Bool}{l:List Vbdeag.Entry}(h:∀e∈l,p e=q e):WH back n p l=WH back n q l:=by
 unfold WH;rw[CJ h]
section
variable{P:Program}{w:World}{K:PySem.W.Frag}{mg:Str->Option Value}{base:Heap}
inductive bJ(T:All w K mg)(vs:List V)(H:Hp)(Q:VK)(E:XK):Prop
 |mk(r ka:Addr)(c back n cond:Nat)(q:Vbdeag.Key)(b:Vbdeag.Bank)(L:Lo):vs=[.ref r,.int c,.int back,.int n,.int cond,.ref ka]->c<64->back<=1->cond<=6->Dv T H ka q->Bh q->Ah T H r b L->Co L->(b.chain c).length<=1000->(∀e∈b.chain c,Bh e.key)->((b.chain c).map (·.id)).Nodup->Done T H r L (Vbdeag.answered b (Vbdeag.unlink b c (back==1) n cond q)).1 (Vbdeag.answered b (Vbdeag.unlink b c (back==1) n cond q)).2 Q->bJ T vs H Q E
theorem nU(T:All w K mg):Ok P w base T.Uc 4 (bJ T):=by
 refine T.Uc.go ai λcdv A outer s H vs Q E hr h Cc=>?_;obtain⟨r,ka,c,back,n,cond,q,b,L,rfl,hc,hb,hco,hk,kq,R,S,hz,hke,nd,k⟩:=h;refine⟨_,(AE (DJ ai 6 (Bu (Nc T) hr (AB (Bu (Qw T) hr (AB (Ax Aa (Av (pv 0)) (pv 1)) (AB (pv 2) (AB (pv 3) (AB (pv 4) (AB (pv 5) AF)))))) AF)))
  (AE (Fy (Bu (FI T) hr (AB (Ax Aa (Av (pv 0)) (pv 1)) (AB (pv 6) AF))) (Fx (Av (pv 0)) (pv 1) set_list))
  (AK (Am (Bu (Cn T) hr (AB (pv 6) AF)))))),?_⟩
 have kr:=T.BG;have nC:=kr.no "chains" (by simp);have hcl:c<L.zc.length:=by rw[S.c];exact hc
 obtain⟨z,hz1,hz2,E2,EA,hz5⟩:=R.chain hcl;have zl:z.2.length=(b.chain c).length:=by rw[EA,AA]
 unfold Vbdeag.unlink at k;rw[U9 _ _ _ _ nd]at k;refine⟨_,U,r,_,L.dx,_,V.ref L.ac,U,R.obj,kr.cl,nC,U,_,U,L.ac,_,_,_,U,U,A1.of R.lc,at_of U (BU hz1),_,U,_,U,_,U,_,U,z.1,ka,back,n,cond,q,z.2,U,A1.of hz2,by omega,E2,hk,λH1 p1 s1 n1 e1=>?_⟩;have em:(WK (back:Int) n (λe=>MP cond (worth e.key) (worth q)) z.2).map (·.2)=WH (back==1) n (Vbdeag.asks cond q) (b.chain c):=by
  rw[fL back hb,<-EA];exact jT λe he=>Tu hco kq (hke e he)
 have ml:=rC (back:=(back:Int)) (n:=n) (p:=λe=>MP cond (worth e.key) (worth q)) (zs:=z.2);have mm:∀y∈WK (back:Int) n (λe=>MP cond (worth e.key) (worth q)) z.2,y∈z.2:=λy h=>fM h;generalize WK (back:Int) n (λe=>MP cond (worth e.key) (worth q)) z.2=ms at e1 em ml mm;rw[<-em,An]at k;have R1:=R.same s1;refine⟨p1,CZ (·.id) ms,U,A1.of (by rw[C2];exact e1),by unfold CZ;rw[AA];omega,λy hy=>?_,λp2 n2=>?_⟩
 ·obtain⟨x,hx,rfl⟩:=C1 hy;exact((E2 x (mm x hx)).same s1).who
 have ei:((CZ (·.id) ms).map λz=>V.int z.2)=((ms.map λz=>z.2.id).map λn:Nat=>(n:Int)).map V.int:=by
  unfold CZ;rw[An,An,An];rfl
 rw[ei];have s2:A7 H1 (upd H1 p2 (.lst (((ms.map λz=>z.2.id).map λn:Nat=>(n:Int)).map V.int))):=AO n2;have R2:=R1.same s2;refine⟨_,U,r,_,L.dx,_,V.ref L.ac,U,R2.obj,kr.cl,nC,U,_,U,L.ac,_,_,_,U,U,A1.of R2.lc,at_of U (BU hz1),_,U,z.1,p2,CZ (·.id) z.2,_,U,A1.of (by rw[C2];exact s2 _ _ (s1 _ _ hz2)),A1.of AD,by unfold CZ;rw[AA];omega,by rw[AA,AA];omega,λy hy=>?_,λH3 p3 s3 n3 e3=>?_⟩
 ·obtain⟨x,hx,rfl⟩:=C1 hy;exact(((E2 x hx).same s1).same s2).who
 rw[Q0]at e3;have R3:=R2.same s3;have Xp:A7 H H3:=(s1.trans s2).trans s3;refine⟨_,U,r,_,L.dx,_,V.ref L.ac,U,R3.obj,kr.cl,nC,U,_,U,L.ac,_,_,c,U,U,R3.lc,EV (by rw[Al];exact hcl),?_⟩;have np:H p3=none:=(s1.trans s2).free n3;have R4:=R3.setChain hcl e3 (R2.Cv n3) λy hy=>(E2 y (A5.mp hy).1).same Xp;have m4:=((BE.same (F:=L.foot r) Xp).set (F':=({L with zc:=L.zc.set c (p3,z.2.filter λz=>!(ms.map λz=>z.2.id).contains z.2.id)}:Lo).foot r) (o:=.lst ((refs L.zc).set c (.ref p3))) Pu λa h=>by rw[bH hcl]at h;exact JK h np);have hp2:(L2.upd H3 L.ac (.lst ((refs L.zc).set c (.ref p3)))) p2=some (.lst (((ms.map λz=>z.2.id).map λn:Nat=>(n:Int)).map V.int)):=by
  rw[Aj λz'=>R1.Cv n2 (by rw[z'];exact Pu)];exact s3 _ _ AD
 refine⟨_,U,p2,_,U,hp2,by rw[AA,AA];omega,λH5 t s5 nt et=>?_⟩;have en:(Vbdeag.ids ((ms.map λx=>x.2).map λe=>e.id))=0::((((ms.map λz=>z.2.id).map λn:Nat=>(n:Int)).length:Nat):Int)::((ms.map λz=>z.2.id).map λn:Nat=>(n:Int)):=by
  rw[An];rfl
 refine k.fin ?_ m4 s5 nt (by rw[et];exact B5 (λl=>some (HO.lst (List.map V.int l))) en.symm);have eb:(z.2.filter λz=>!(ms.map λz=>z.2.id).contains z.2.id).map (·.2)=(b.chain c).filter λe=>!(ms.map ((λx=>x.id)∘λx=>x.2)).contains e.id:=by
  rw[EA];exact ED z.2 λe=>!(ms.map λz=>z.2.id).contains e.id
 rw[eb]at R4;exact R4
end
section
variable{P:Program}{w:World}{K:PySem.W.Frag}{mg:Str->Option Value}{base:Heap}
theorem Ah.Gh{T:All w K mg}{H H3:Hp}{F:List Addr}{r p:Addr}{b:Vbdeag.Bank}{L:Lo}{c:Nat}{ys:List (Addr×Vbdeag.Entry)}(R:Ah T H3 r b L)(m:BE H F H3 (L.foot r))(S:Co L)(hc:c<L.zc.length)(e:H3 p=some (.lst (refs ys)))(np:H p=none)(nf:p∉L.foot r)(hy:∀y∈ys,Dg T H3 y.1 y.2):
 Ah T (L2.upd H3 L.ac (.lst ((refs L.zc).set c (.ref p)))) r (b.setChain c (ys.map (·.2))) {L with zc:=L.zc.set c (p,ys)}/\BE H F (L2.upd H3 L.ac (.lst ((refs L.zc).set c (.ref p)))) (({L with zc:=L.zc.set c (p,ys)}:Lo).foot r)/\Co {L with zc:=L.zc.set c (p,ys)}:=
 ⟨R.setChain hc e nf hy,m.set Pu λa h=>by rw[bH hc]at h;exact JK h np,⟨by show(L.zc.set c (p,ys)).length=64;rw[Cq];exact S.c,S.p,S.d⟩⟩
theorem Done.none{T:All w K mg}{H H1:Hp}{r:Addr}{L L':Lo}{b':Vbdeag.Bank}{Q:VK}(k:Done T H r L b' (Vbdeag.ids []) Q)(R:Ah T H1 r b' L')(m:BE H (L.foot r) H1 (L'.foot r)){σ:L2.St}:
 LA (QN T) [] E0 (CM (XS C_) C_) σ H1 Q:=by
 refine⟨by show 0<=sizeLine;exact AY _,λl hl=>?_⟩;refine⟨l,[],U,AD,AY _,λH' p s np e=>?_⟩;exact k.fin (R.same (AO hl)) (m.trans (BE.same (AO hl))) s np e
inductive bK(T:All w K mg)(vs:List V)(H:Hp)(Q:VK)(E:XK):Prop
 |mk(a:Addr)(zs:List (Addr×Vbdeag.Entry)):vs=[.ref a]->A1 K H a (refs zs)->(∀y∈zs,Dg T H y.1 y.2)->(∀y∈zs,Bh y.2.key)->(∀(p:Addr)(ws:List (Addr×Vbdeag.Entry)),H p=none->(∀y∈ws,y∈zs)->ws.map (·.2)=Vbdeag.sorted false (zs.map (·.2))->Q (.ref p) (upd H p (.lst (refs ws))))->bK T vs H Q E
theorem WN(T:All w K mg):Ok P w base T.Ud 4 (bK T):=by
 refine T.Ud.go nA λcdv A outer s H vs Q E hr h Cc=>?_;obtain⟨a,zs,rfl,hS,hE,hk,k⟩:=h;refine⟨_,(AK (Am (qe (E5 T) (hr.mono (by decide)) T.Gw.bi U T.Ua U T.Gw.mg (AB (pv 0) AF)))),?_⟩;refine⟨_,U,a,refs zs,zs.map λy=>worth y.2.key,U,hS,by rw[AA,Al],λi x q h1 h2=>?_,λp ys np hs hl=>?_⟩
 ·obtain⟨y,hy,rfl⟩:=Ex h1;rw[Ai,hy]at h2;exact⟨y.1,y.2,U,hE y (AS hy),(BB h2)▸⟨U,U⟩⟩
 ·have e:=U_ (k0:=λy:Addr×Vbdeag.Entry=>worth y.2.key) U hs;rw[e];exact k p _ np (λy hy=>(cB _ y _ _ hy).elim id λq=>absurd q Aq) (Y0 false zs hk)
inductive Rx(T:All w K mg)(vs:List V)(H:Hp)(Q:VK)(E:XK):Prop
 |mk(r:Addr)(c f:Nat)(b:Vbdeag.Bank)(L:Lo):vs=[.ref r,.int c,.int f]->c<64->f<=1->Ah T H r b L->Co L->(b.chain c).length<=1000->(∀e∈b.chain c,Bh e.key)->Done T H r L (b.setChain c (Vbdeag.sorted (f==1) (b.chain c))) (Vbdeag.ids []) Q->Rx T vs H Q E
theorem Z1(T:All w K mg):Ok P w base T.LB 5 (Rx T):=by
 refine T.LB.go Zr λcdv A outer s H vs Q E hr h Cc=>?_;obtain⟨r,c,f,b,L,rfl,hc,hf,R,S,hz,hke,k⟩:=h;refine⟨_,(AE (B_ (BX E7 (pv 2) Ag) (AK (Fy (mU (E5 T) (hr.mono (by decide)) T.Gw.bi U T.Ua U T.Gw.mg (AB (Ax Aa (Av (pv 0)) (pv 1)) AF)) (Fx (Av (pv 0)) (pv 1) set_list))) (AK (Fy (Bu (WN T) hr (AB (Ax Aa (Av (pv 0)) (pv 1)) AF)) (Fx (Av (pv 0)) (pv 1) set_list))))
  (AK (Am (Bu (Cn T) hr (AB (BS AF) AF))))),?_⟩
 have kr:=T.BG;have nC:=kr.no "chains" (by simp);have hcl:c<L.zc.length:=by rw[S.c];exact hc
 obtain⟨z,hz1,hz2,E2,EA,hz5⟩:=R.chain hcl;have zl:z.2.length=(b.chain c).length:=by rw[EA,AA]
 have hk:∀y∈z.2,Bh y.2.key:=λy hy=>hke y.2 (by rw[EA];exact AG.mpr ⟨y,hy,U⟩);have keys:∀(i:Nat)(x:V)(q:Int),(refs z.2)[i]?=some x->(z.2.map λy=>worth y.2.key)[i]?=some q->QO T [x] H (λv H2=>v=.int q/\H2=H) E0:=λi x q h1 h2=>by
  obtain⟨y,hy,rfl⟩:=Ex h1;rw[Ai,hy]at h2;exact⟨y.1,y.2,U,E2 y (AS hy),(BB h2)▸⟨U,U⟩⟩
 have done:∀(fl:Bool)(l:Addr)(ys:List V),(f==1)=fl->H l=none->NR fl (z.2.map λy=>worth y.2.key) (refs z.2) ys->∃ws,ys=refs ws/\(∀y∈ws,y∈z.2)/\ws.map (·.2)=Vbdeag.sorted (f==1) (b.chain c):=λfl l ys hfl _ hs=>by
  refine⟨_,U_ (k0:=λy:Addr×Vbdeag.Entry=>worth y.2.key) U hs,λy hy=>?_,?_⟩
  ·exact(cB _ y _ _ hy).elim id λq=>absurd q Aq
  ·rw[hfl,EA];exact Y0 fl z.2 hk
 refine⟨_,U,U,_,U,DL (λh=>?_) λh=>?_⟩
 ·have hfl:(f==1)=true:=by
   rw[dI]at h;have:=AX h;(have:f=1:=by omega);rw[this];rfl
  refine⟨_,U,r,_,L.dx,_,V.ref L.ac,U,R.obj,kr.cl,nC,U,_,U,L.ac,_,_,_,U,U,A1.of R.lc,at_of U (BU hz1),z.1,refs z.2,_,U,A1.of hz2,by rw[AA,Al],keys,λp ys np hs hl=>?_⟩;obtain⟨ws,rfl,w2,w3⟩:=done true p ys hfl np hs;have s3:A7 H (upd H p (.lst (refs ws))):=AO np;have R3:=R.same s3;obtain⟨R4,m4,S4⟩:=R3.Gh (BE.same s3) S hcl AD np (R.Cv np) λy hy=>(E2 y (w2 y hy)).same s3;refine⟨_,U,r,_,L.dx,_,V.ref L.ac,U,R3.obj,kr.cl,nC,U,_,U,L.ac,_,_,c,U,U,R3.lc,EV (by rw[Al];exact hcl),?_⟩;rw[w3]at R4;exact k.none R4 m4
 ·have hfl:(f==1)=false:=by
   have:¬f=1:=λz=>h (by rw[z];rfl);simp[this]
  refine⟨_,U,r,_,L.dx,_,V.ref L.ac,U,R.obj,kr.cl,nC,U,_,U,L.ac,_,_,_,U,U,A1.of R.lc,at_of U (BU hz1),z.1,z.2,U,A1.of hz2,E2,hk,λp ws np w2 w3=>?_⟩;rw[<-EA,<-hfl]at w3;have s3:A7 H (upd H p (.lst (refs ws))):=AO np;have R3:=R.same s3;obtain⟨R4,m4,S4⟩:=R3.Gh (BE.same s3) S hcl AD np (R.Cv np) λy hy=>(E2 y (w2 y hy)).same s3;refine⟨_,U,r,_,L.dx,_,V.ref L.ac,U,R3.obj,kr.cl,nC,U,_,U,L.ac,_,_,c,U,U,R3.lc,EV (by rw[Al];exact hcl),?_⟩;rw[w3]at R4;exact k.none R4 m4
inductive Nm(T:All w K mg)(vs:List V)(H:Hp)(Q:VK)(E:XK):Prop
 |mk(r:Addr)(c:Nat)(b:Vbdeag.Bank)(L:Lo):vs=[.ref r,.int c]->c<64->Ah T H r b L->Co L->(b.chain c).length<=1000->Done T H r L (b.setChain c (b.chain c).reverse) (Vbdeag.ids []) Q->Nm T vs H Q E
theorem Wb(T:All w K mg):Ok P w base T.IV 2 (Nm T):=by
 refine T.IV.go WY λcdv A outer s H vs Q E hr h Cc=>?_;obtain⟨r,c,b,L,rfl,hc,R,S,hz,k⟩:=h;refine⟨_,(AE (Fy (SR U rfl T.Lh U T.U6 (AB (Ax Aa (Av (pv 0)) (pv 1)) AF)) (Fx (Av (pv 0)) (pv 1) set_list))
  (AK (Am (Bu (Cn T) hr (AB (BS AF) AF))))),?_⟩
 have kr:=T.BG;have nC:=kr.no "chains" (by simp);have hcl:c<L.zc.length:=by rw[S.c];exact hc
 obtain⟨z,hz1,hz2,E2,EA,hz5⟩:=R.chain hcl;have zl:z.2.length=(b.chain c).length:=by rw[EA,AA]
 refine⟨_,U,r,_,L.dx,_,V.ref L.ac,U,R.obj,kr.cl,nC,U,_,U,L.ac,_,_,_,U,U,A1.of R.lc,at_of U (BU hz1),z.1,refs z.2,U,A1.of hz2,λp np=>?_⟩;have er:(refs z.2).reverse=refs z.2.reverse:=by unfold refs;rw[Ep]
 rw[er];have s3:A7 H (upd H p (.lst (refs z.2.reverse))):=AO np;have R3:=R.same s3;obtain⟨R4,m4,S4⟩:=R3.Gh (BE.same s3) S hcl AD np (R.Cv np) λy hy=>(E2 y (Nz.mp hy)).same s3;refine⟨_,U,r,_,L.dx,_,V.ref L.ac,U,R3.obj,kr.cl,nC,U,_,U,L.ac,_,_,c,U,U,R3.lc,EV (by rw[Al];exact hcl),?_⟩;have e3:z.2.reverse.map (·.2)=(b.chain c).reverse:=by rw[EA,Ep]
 rw[e3]at R4;exact k.none R4 m4
inductive bL(T:All w K mg)(vs:List V)(H:Hp)(Q:VK)(E:XK):Prop
 |mk(r:Addr)(c n:Nat)(b:Vbdeag.Bank)(L:Lo):vs=[.ref r,.int c,.int n]->c<64->Ah T H r b L->Co L->(b.chain c).length<=1000->Done T H r L (b.setChain c (Vbdeag.rotated n (b.chain c))) (Vbdeag.ids []) Q->bL T vs H Q E
theorem nV(T:All w K mg):Ok P w base T.Ue 2 (bL T):=by
 refine T.Ue.go WG λcdv A outer s H vs Q E hr h Cc=>?_;obtain⟨r,c,n,b,L,rfl,hc,R,S,hz,k⟩:=h;refine⟨_,(AE (DJ WG 3 (Ax Aa (Av (pv 0)) (pv 1)))
  (AE (B_ (BX K_ (JI T.Cd (pv 3)) Ag) (AE (DJ WG 4 (CA pB (pv 2) (JI T.Cd (pv 3))))
    (AK (Fy (CA H_ (FU Gs (pv 3) (ER (pv 4)) L8) (FU Gs (pv 3) L8 (ER (pv 4)))) (Fx (Av (pv 0)) (pv 1) set_list)))) Bc)
  (AK (Am (Bu (Cn T) hr (AB (BS AF) AF)))))),?_⟩
 have kr:=T.BG;have nC:=kr.no "chains" (by simp);have hcl:c<L.zc.length:=by rw[S.c];exact hc
 obtain⟨z,hz1,hz2,E2,EA,hz5⟩:=R.chain hcl;have zl:z.2.length=(b.chain c).length:=by rw[EA,AA]
 refine⟨_,U,r,_,L.dx,_,V.ref L.ac,U,R.obj,kr.cl,nC,U,_,U,L.ac,_,_,_,U,U,A1.of R.lc,at_of U (BU hz1),?_⟩;refine⟨_,U,z.1,_,U,.inl (A1.of hz2),_,_,U,U,_,U,DL (λh=>?_) λh=>?_⟩
 ·have hpos:0<z.2.length:=by
   have:=AX h;rw[Al]at this;omega
  have en:((n:Int)%((refs z.2).length:Int))=((n%z.2.length:Nat):Int):=by rw[Al];rfl
  refine⟨_,U,_,U,z.1,_,U,.inl (A1.of hz2),_,_,U,U,by rw[Al];omega,?_⟩;refine⟨_,U,_,U,_,U,z.1,_,U,A1.of hz2,λp1 n1=>?_⟩;rw[en,Ut];have s1:A7 H (upd H p1 (.lst ((refs z.2).drop (n%z.2.length)))):=AO n1;refine⟨_,U,_,U,_,U,z.1,_,U,s1.seq (A1.of hz2),λp2 n2=>?_⟩;rw[Us];have s2:A7 _ (upd _ p2 (.lst ((refs z.2).take (n%z.2.length)))):=AO n2;refine⟨p1,p2,_,_,U,U,s2 _ _ AD,AD,?_,λp3 n3=>?_⟩
  ·rw[A2,Bb,Al];omega
  have s3:=AO (o:=.lst ((refs z.2).drop (n%z.2.length)++(refs z.2).take (n%z.2.length))) n3;have Xp:=(s1.trans s2).trans s3;have er:(refs z.2).drop (n%z.2.length)++(refs z.2).take (n%z.2.length)=refs (z.2.drop (n%z.2.length)++z.2.take (n%z.2.length)):=by unfold refs;rw[As,EZ,DW]
  have R3:=R.same Xp;rw[er]at Xp R3⊢;have R2:=R.same (s1.trans s2);obtain⟨R4,m4,S4⟩:=R3.Gh (BE.same Xp) S hcl AD ((s1.trans s2).free n3) (R2.Cv n3) λy hy=>(E2 y ((AQ.mp hy).elim Hi Ct)).same Xp;refine⟨_,U,r,_,L.dx,_,V.ref L.ac,U,R3.obj,kr.cl,nC,U,_,U,L.ac,_,_,c,U,U,R3.lc,EV (by rw[Al];exact hcl),?_⟩;have e3:(z.2.drop (n%z.2.length)++z.2.take (n%z.2.length)).map (·.2)=Vbdeag.rotated n (b.chain c):=by
   unfold Vbdeag.rotated;rw[<-zl,EA,As,EZ,DW]
  rw[e3]at R4;exact k.none R4 m4
 ·have e0:z.2=[]:=Z (by
   have:¬(0:Int)<((refs z.2).length:Int):=λq=>h (AM q);rw[Al]at this;omega)
  have eb:b.setChain c (Vbdeag.rotated n (b.chain c))=b:=by
   (have e1:b.chain c=[]:=by rw[EA,e0];rfl);(have e2:Vbdeag.rotated n ([]:List Vbdeag.Entry)=[]:=by unfold Vbdeag.rotated;simp);rw[e1,e2];have e3:b.chains[c]?=some []:=by
    rw[R.bc,Ai,hz1,FD,e0];rfl
   have e4:b.chains.set c []=b.chains:=Mu λi=>by
    rw[Vg]
    split
    ·rename_i hi;subst hi;rw[e3]
     split
     ·rfl
     ·rename_i hn;rw[CT (ZH.mp hn)]at e3;cases e3
    ·rfl
   unfold Vbdeag.Bank.setChain;rw[e4]
  rw[eb]at k;exact k.none R (BE.same (λ_ _ h=>h))
end
end So
namespace So
open Vbdeag (Bank Entry Guest Side Watch Key everyone)
theorem W3(p:Entry->Bool)(e:Entry):∀l:List Entry,(Vbdeag.before p e l).Perm (e::l)
 | []=>DB _
 |y::r=>by
  unfold Vbdeag.before
  split
  ·exact DB _
  ·exact((W3 p e r).cons y).trans (List.Perm.swap e y r)
theorem W4(o:Nat)(e:Entry)(l:List Entry):(Vbdeag.linked o e l).Perm (e::l):=by
 unfold Vbdeag.linked
 split
 ·exact Pn
 ·exact DB _
 all_goals exact W3 _ _ _
theorem Ls(o:Nat):∀(es l:List Entry),(es.foldl (λl e=>Vbdeag.linked o e l) l).Perm (es++l)
 | [],l=>DB _
 |e::es,l=>((Ls o es _).trans ((W4 o e l).append_left es)).trans Hw
theorem QT(f:Bool)(l:List Entry):(Vbdeag.sorted f l).Perm l:=by
 have:=Ls (if f=true then 4 else 2) l [];rw[Bk]at this;exact this
theorem dG(n:Nat)(l:List Entry):(Vbdeag.rotated n l).Perm l:=by
 unfold Vbdeag.rotated;refine Pn.trans ?_;rw[Ci]
theorem QU:∀(n:Nat)(l m:List Entry),l.length+m.length<n->(Vbdeag.merged n l m).Perm (l++m)
 |0,_,_,h=>absurd h (FF _)
 |n+1,[],m,_=>by unfold Vbdeag.merged;exact DB _
 |n+1,a::l,[],_=>by unfold Vbdeag.merged;rw[Bk]
 |n+1,a::l,b::m,h=>by
  unfold Vbdeag.merged;have h':l.length+1+(m.length+1)<n+1:=h
  split
  ·exact((QU n (a::l) m (by show l.length+1+m.length<n;omega)).cons b).trans Hw.symm
  ·exact(QU n l (b::m) (by show l.length+(m.length+1)<n;omega)).cons a
theorem OH(p:Entry->Bool):∀(l:List Entry)(n:Nat),((Vbdeag.taken p l n).1++(Vbdeag.taken p l n).2).Perm l
 | [],n=>DB _
 |e::r,n=>by
  unfold Vbdeag.taken
  split
  ·exact DB _
  ·split
   ·exact(OH p r (n-1)).cons e
   ·exact Hw.trans ((OH p r n).cons e)
theorem Lu(back:Bool)(p:Entry->Bool)(l:List Entry)(n:Nat):((Vbdeag.takenFrom back p l n).1++(Vbdeag.takenFrom back p l n).2).Perm l:=by
 unfold Vbdeag.takenFrom
 split
 ·exact((Gp _).append_left _).trans ((OH p _ n).trans (Gp l))
 ·exact OH p l n
theorem Xq{α:Type}(g:α->Nat)(x:Nat)(l:List α):∀(ls:List (List α))(i:Nat),i<ls.length->((ls.set i l).flatMap λl=>l.map g).count x+((ls.getD i []).map g).count x=(ls.flatMap λl=>l.map g).count x+(l.map g).count x
 | [],i,h=>absurd h (FF _)
 |a::ls,0,_=>by
  show(((l::ls).flatMap λl=>l.map g).count x)+(a.map g).count x=_;rw[Ba,Ba,Bs,Bs];omega
 |a::ls,i+1,h=>by
  have:=Xq g x l ls i (Ox h);show(((a::ls.set i l).flatMap λl=>l.map g).count x)+((ls.getD i []).map g).count x=_;rw[Ba,Ba,Bs,Bs];omega
theorem Xr{α:Type}(g:α->Nat)(p:α->Bool)(x:Nat):∀ls:List (List α),((ls.map λl=>l.filter p).flatMap λl=>l.map g).count x<=(ls.flatMap λl=>l.map g).count x
 | []=>AU _
 |a::ls=>by
  rw[Ay,Ba,Ba,Bs,Bs];have:=Xr g p x ls;have h:((a.filter p).map g).count x<=(a.map g).count x:=(Ro.map g).count_le x;omega
theorem IF(b:Bank)(x:Nat):(everyone b).count x=(b.watches.map λw=>w.id).count x+((b.chains.flatMap λl=>l.map λe=>e.id).count x+((b.points.flatMap λl=>l.map λe=>e.id).count x+(b.doors.flatMap λl=>l.map λe=>e.id).count x)):=by
 unfold Vbdeag.everyone;rw[Bs,Bs,Bs]
theorem Hf{b:Bank}{c:Nat}(l:List Entry)(x:Nat)(h:c<b.chains.length):(everyone (b.setChain c l)).count x+((b.chain c).map λe=>e.id).count x=(everyone b).count x+(l.map λe=>e.id).count x:=by
 have:=Xq (λe:Entry=>e.id) x l b.chains c h;rw[IF,IF];unfold Vbdeag.Bank.setChain Vbdeag.Bank.chain;dsimp only;omega
theorem WO{b:Bank}{c:Nat}(l:List Guest)(x:Nat)(h:c<b.points.length):(everyone (b.setPoint c l)).count x+((b.point c).map λe=>e.id).count x=(everyone b).count x+(l.map λe=>e.id).count x:=by
 have:=Xq (λe:Guest=>e.id) x l b.points c h;rw[IF,IF];unfold Vbdeag.Bank.setPoint Vbdeag.Bank.point;dsimp only;omega
theorem fN{b:Bank}{c:Nat}(l:List Side)(x:Nat)(h:c<b.doors.length):(everyone (b.setDoor c l)).count x+((b.door c).map λe=>e.id).count x=(everyone b).count x+(l.map λe=>e.id).count x:=by
 have:=Xq (λe:Side=>e.id) x l b.doors c h;rw[IF,IF];unfold Vbdeag.Bank.setDoor Vbdeag.Bank.door;dsimp only;omega
structure cE(w:Watch):Prop where
 m:w.mask<2^59
 v:w.value<2^59
 s:w.value&&&w.mask=w.value
structure T_(g:Guest):Prop where
 k:Bh g.key
 n1:1<=g.need
 n2:g.need<=1000
structure UA(b:Bank):Prop where
 nc:b.chains.length=64
 np:b.points.length=64
 nd:b.doors.length=64
 lw:b.watches.length<=1000
 lc:∀l∈b.chains,l.length<=1000
 lp:∀l∈b.points,l.length<=1000
 ld:∀l∈b.doors,l.length<=1000
 ow:∀w∈b.watches,cE w
 oc:∀l∈b.chains,∀e∈l,Bh e.key
 op:∀l∈b.points,∀g∈l,T_ g
 od:∀l∈b.doors,∀s∈l,Bh s.key
 wo:b.word<2^59
structure k_(l:List Nat)(n:Nat):Prop where
 one:l.Nodup
 dY:∀x∈l,1<=x/\x<=1000000000
 len:l.length<=n
theorem k_.sub{l m:List Nat}{n:Nat}(h:k_ m n)(c:∀x,l.count x<=m.count x):k_ l n:=by
 have nd:l.Nodup:=B9.mpr λx=>Aw (c x) (B9.mp h.one x);have sub:∀x∈l,x∈m:=λx hx=>UN.mp (BH (UN.mpr hx) (c x));exact⟨nd,λx hx=>h.dY x (sub x hx),Aw (List.Nodup.length_le_of_subset nd sub) h.len⟩
theorem k_.more{l:List Nat}{n x:Nat}(h:k_ l n)(nx:x∉l)(x1:1<=x)(x2:x<=1000000000):k_ (x::l) (n+1):=
 ⟨BQ.mpr ⟨nx,h.one⟩,λy hy=>(AN.mp hy).elim (λz=>z▸⟨x1,x2⟩) (h.dY y),Eo h.len⟩
theorem k_.le{l:List Nat}{n m:Nat}(h:k_ l n)(e:n<=m):k_ l m:=⟨h.one,h.dY,Aw h.len e⟩
theorem getD_mem{α:Type}{ls:List (List α)}{i:Nat}(h:i<ls.length):ls.getD i []∈ls:=by
 rw[A3,Ak h];exact Ny h
theorem UA.cm{b:Bank}(h:UA b){c:Nat}(hc:c<64):b.chain c∈b.chains:=getD_mem (by rw[h.nc];exact hc)
theorem UA.pm{b:Bank}(h:UA b){c:Nat}(hc:c<64):b.point c∈b.points:=getD_mem (by rw[h.np];exact hc)
theorem UA.dm{b:Bank}(h:UA b){c:Nat}(hc:c<64):b.door c∈b.doors:=getD_mem (by rw[h.nd];exact hc)
theorem UA.setChain{b:Bank}(h:UA b){c:Nat}{l:List Entry}(hl:l.length<=1000)(hk:∀e∈l,Bh e.key):UA (b.setChain c l):=
 {h with
  nc:=by show(b.chains.set c l).length=64;rw[Cq];exact h.nc
  lc:=λm hm=>(Bf hm).elim (h.lc m) λz=>by rw[z];exact hl
  oc:=λm hm=>(Bf hm).elim (h.oc m) λz=>by rw[z];exact hk}
theorem UA.setPoint{b:Bank}(h:UA b){c:Nat}{l:List Guest}(hl:l.length<=1000)(hk:∀e∈l,T_ e):UA (b.setPoint c l):=
 {h with
  np:=by show(b.points.set c l).length=64;rw[Cq];exact h.np
  lp:=λm hm=>(Bf hm).elim (h.lp m) λz=>by rw[z];exact hl
  op:=λm hm=>(Bf hm).elim (h.op m) λz=>by rw[z];exact hk}
theorem UA.setDoor{b:Bank}(h:UA b){c:Nat}{l:List Side}(hl:l.length<=1000)(hk:∀e∈l,Bh e.key):UA (b.setDoor c l):=
 {h with
  nd:=by show(b.doors.set c l).length=64;rw[Cq];exact h.nd
  ld:=λm hm=>(Bf hm).elim (h.ld m) λz=>by rw[z];exact hl
  od:=λm hm=>(Bf hm).elim (h.od m) λz=>by rw[z];exact hk}
structure Wf(b:Bank)(n:Nat):Prop where
 p:UA b
 i:k_ (everyone b) n
theorem Wf.le{b:Bank}{n m:Nat}(h:Wf b n)(e:n<=m):Wf b m:=⟨h.p,h.i.le e⟩
theorem fO:Wf Vbdeag.start 0:=by
 have e:everyone Vbdeag.start=[]:=by decide
 have r:∀{α:Type}{l:List α},l∈List.replicate 64 ([]:List α)->l=[]:=λh=>(UO.mp h).2;refine⟨⟨Ez,Ez,Ez,AY _,λl h=>?_,λl h=>?_,λl h=>?_,λw h=>absurd h Aq,λl h=>?_,λl h=>?_,λl h=>?_,by decide⟩,?_⟩
 ·rw[r h];exact AY _
 ·rw[r h];exact AY _
 ·rw[r h];exact AY _
 ·rw[r h];exactλ_ z=>absurd z Aq
 ·rw[r h];exactλ_ z=>absurd z Aq
 ·rw[r h];exactλ_ z=>absurd z Aq
 ·rw[e];exact⟨DA,λ_ z=>absurd z Aq,AU _⟩
theorem Wf.chain{b:Bank}{n:Nat}(h:Wf b n){c:Nat}(hc:c<64){l:List Entry}(hl:∀x,(l.map λe=>e.id).count x<=((b.chain c).map λe=>e.id).count x)(len:l.length<=1000)(sub:∀e∈l,Bh e.key):Wf (b.setChain c l) n:=
 ⟨h.p.setChain len sub,h.i.sub λx=>by have:=Hf l x (show c<b.chains.length by rw[h.p.nc];exact hc);have:=hl x;omega⟩
theorem Wf.iS{b:Bank}{n:Nat}(h:Wf b n){c:Nat}(hc:c<64){l:List Entry}(hp:l.Perm (b.chain c)):Wf (b.setChain c l) n:=
 h.chain hc (λx=>Bj ((hp.map _).count_eq x)) (by rw[hp.length_eq];exact h.p.lc _ (h.p.cm hc)) λe he=>h.p.oc _ (h.p.cm hc) e (hp.mem_iff.mp he)
end So
namespace So
open Vbdeag (Bank Entry Guest Side Watch Key everyone)
def Rw(n:Nat):Vbdeag.R->Prop
 | .err _=>True
 | .wait b=>Wf b (n+1)
 | .ok b off=>Wf b n/\off.length<=n+1
theorem F6{n:Nat}{c:Prop}[Decidable c]{a b:Vbdeag.R}(h1:c->Rw n a)(h2:¬c->Rw n b):Rw n (if c then a else b):=by
 by_cases h:c
 ·rw[AJ h];exact h1 h
 ·rw[AI h];exact h2 h
theorem Q2{b:Bank}{x:Nat}(h:¬Vbdeag.waits b x=true):x∉everyone b:=λz=>h (by unfold Vbdeag.waits;rw[BF];exact AM z)
theorem Tv{α:Type}(g:α->Nat){ls:List (List α)}{l:List α}(h:l∈ls):l.length<=(ls.flatMap λl=>l.map g).length:=by
 induction ls with
 |nil=>exact absurd h Aq
 |cons a r ih=>
  rw[Ba,AL,AA];rcases AN.mp h with rfl|h
  ·omega
  ·have:=ih h;omega
theorem Pw(b:Bank):(everyone b).length=b.watches.length+((b.chains.flatMap λl=>l.map λe=>e.id).length+((b.points.flatMap λl=>l.map λe=>e.id).length+(b.doors.flatMap λl=>l.map λe=>e.id).length)):=by
 unfold Vbdeag.everyone;rw[AL,AL,AL,AA]
section
variable{b:Bank}{n:Nat}
theorem Wf.u_(h:Wf b n):b.watches.length<=n:=by have:=h.i.len;rw[Pw]at this;omega
theorem Wf.vA(h:Wf b n){c:Nat}(hc:c<64):(b.chain c).length<=n:=by
 have:=h.i.len;rw[Pw]at this;have:=Tv (λe:Entry=>e.id) (h.p.cm hc);omega
theorem Wf.om(h:Wf b n){c:Nat}(hc:c<64):(b.point c).length<=n:=by
 have:=h.i.len;rw[Pw]at this;have:=Tv (λe:Guest=>e.id) (h.p.pm hc);omega
theorem Wf.vB(h:Wf b n){c:Nat}(hc:c<64):(b.door c).length<=n:=by
 have:=h.i.len;rw[Pw]at this;have:=Tv (λe:Side=>e.id) (h.p.dm hc);omega
theorem Uu{α:Type}(g:α->Nat)(p:α->Bool)(l:List α)(x:Nat):((l.filter p).map g).count x<=(l.map g).count x:=(Ro.map g).count_le x
theorem Wf.put(h:Wf b n){w:Nat}(hw:w<2^59):Rw n (Vbdeag.put b w):=by
 refine⟨⟨{h.p with lw:=Aw (BL _ _) h.p.lw,ow:=λv hv=>h.p.ow v (A5.mp hv).1,wo:=hw},h.i.sub λx=>?_⟩,?_⟩
 ·rw[IF,IF];have:=Uu (λw:Watch=>w.id) (λv=>!Vbdeag.fits w v) b.watches x;dsimp only;omega
 ·rw[AA];exact Aw (BL _ _) (VZ h.u_)
theorem Wf.set(h:Wf b n){k how:Nat}(hk:k<=58):Rw n (Vbdeag.set b k how):=h.put (nT h.p.wo hk)
theorem Wf.watch(h:Wf b n){x m v:Nat}(x1:1<=x)(x2:x<=1000000000)(hm:m<2^59)(hv:v<2^59):Rw n (Vbdeag.watch b x m v):=by
 unfold Vbdeag.watch;refine F6 (λ_=>trivial) λhw=>F6 (λ_=>trivial) λhs=>F6 (λ_=>⟨h,Eo (AY _)⟩) λ_=>F6 (λ_=>trivial) λhl=>?_;refine⟨{h.p with lw:=?_,ow:=λu hu=>?_},(h.i.more (Q2 hw) x1 x2).sub λy=>?_⟩
 ·rw[AL];have:¬1000<=b.watches.length:=hl;show _+1<=1000;omega
 ·rcases AQ.mp hu with hu|hu
  ·exact h.p.ow u hu
  ·rw[Af.mp hu];exact⟨hm,hv,CF hs⟩
 ·rw[IF,Dj,IF];dsimp only;rw[As,Bs,Ay,DF,Dj,Ft];dsimp only;omega
theorem Wf.link(h:Wf b n){c x o:Nat}{k:Key}(hc:c<64)(x1:1<=x)(x2:x<=1000000000)(kk:Bh k):Rw n (Vbdeag.link b c x o k):=by
 unfold Vbdeag.link;refine F6 (λ_=>trivial) λhw=>F6 (λ_=>trivial) λhl=>?_;have hp:=W4 o ⟨x,k⟩ (b.chain c);refine⟨h.p.setChain ?_ λe he=>?_,(h.i.more (Q2 hw) x1 x2).sub λy=>?_⟩
 ·rw[hp.length_eq];have:¬1000<=(b.chain c).length:=hl;show _+1<=1000;omega
 ·rcases AN.mp (hp.mem_iff.mp he)with rfl|he
  ·exact kk
  ·exact h.p.oc _ (h.p.cm hc) e he
 ·have h1:=Hf (Vbdeag.linked o ⟨x,k⟩ (b.chain c)) y (show c<b.chains.length by rw[h.p.nc];exact hc);rw[(hp.map λe=>e.id).count_eq y,Ay,Dj]at h1;rw[Dj];dsimp only at h1;omega
theorem MF{α:Type}(g:α->Nat)(l m:List α)(x:Nat):((l++m).map g).count x=(l.map g).count x+(m.map g).count x:=by rw[As,Bs]
theorem Wf.taken(h:Wf b n){c:Nat}(hc:c<64){p:Entry->Bool}{back:Bool}{m:Nat}:Wf (b.setChain c (Vbdeag.takenFrom back p (b.chain c) m).2) n/\(Vbdeag.takenFrom back p (b.chain c) m).1.length<=n/\(∀e∈(Vbdeag.takenFrom back p (b.chain c) m).1,Bh e.key):=by
 have hp:=Lu back p (b.chain c) m;have hl:=hp.length_eq;rw[AL]at hl;have h1:=h.vA hc;have h2:=h.p.lc _ (h.p.cm hc);refine⟨h.chain hc (λx=>?_) (by omega) λe he=>h.p.oc _ (h.p.cm hc) e (hp.mem_iff.mp (BD _ he)),by omega,λe he=>h.p.oc _ (h.p.cm hc) e (hp.mem_iff.mp (CK _ he))⟩;have:=(hp.map λe=>e.id).count_eq x;rw[MF]at this;omega
theorem Wf.unlink(h:Wf b n){c m cond:Nat}{back:Bool}{k:Key}(hc:c<64):Rw n (Vbdeag.unlink b c back m cond k):=by
 obtain⟨h1,h2,_⟩:=h.taken hc (p:=Vbdeag.asks cond k) (back:=back) (m:=m);exact⟨h1,by rw[AA];omega⟩
theorem Wf.move(h:Wf b n){c d m cond o:Nat}{back:Bool}{k:Key}(hc:c<64)(hd:d<64):Rw n (Vbdeag.move b c d back m cond k o):=by
 obtain⟨h1,h2,h3⟩:=h.taken hc (p:=Vbdeag.asks cond k) (back:=back) (m:=m);have hp:=Lu back (Vbdeag.asks cond k) (b.chain c) m;unfold Vbdeag.move;dsimp only;generalize Vbdeag.takenFrom back (Vbdeag.asks cond k) (b.chain c) m=y at h1 h2 h3 hp;refine F6 (λ_=>trivial) λhl=>⟨?_,by rw[AA];omega⟩;have hp2:=Ls o y.1 ((b.setChain c y.2).chain d);refine⟨h1.p.setChain ?_ λe he=>?_,h.i.sub λx=>?_⟩
 ·rw[hp2.length_eq,AL];have:¬1000<((b.setChain c y.2).chain d).length+y.1.length:=hl;omega
 ·rcases AQ.mp (hp2.mem_iff.mp he)with he|he
  ·exact h3 e he
  ·exact h1.p.oc _ (h1.p.cm hd) e he
 ·have a1:=Hf (List.foldl (λl e=>Vbdeag.linked o e l) ((b.setChain c y.2).chain d) y.1) x (show d<(b.setChain c y.2).chains.length by rw[h1.p.nc];exact hd);have a2:=Hf y.2 x (show c<b.chains.length by rw[h.p.nc];exact hc);have a3:=(hp.map λe=>e.id).count_eq x;rw[MF]at a3;rw[(hp2.map λe=>e.id).count_eq x,MF]at a1;omega
theorem JL{c d:Nat}(l:List Entry)(hcd:c≠d):(b.setChain c l).chain d=b.chain d:=by
 unfold Vbdeag.Bank.setChain Vbdeag.Bank.chain;dsimp only;rw[A3,A3,EB hcd]
theorem Wf.merge(h:Wf b n){c d:Nat}(hc:c<64)(hd:d<64):Rw n (Vbdeag.merge b c d):=by
 unfold Vbdeag.merge;refine F6 (λ_=>trivial) λhcd=>F6 (λ_=>trivial) λhl=>⟨?_,AY _⟩;have hp:=QU ((b.chain c).length+(b.chain d).length+1) (b.chain c) (b.chain d) (Hv _);generalize Vbdeag.merged ((b.chain c).length+(b.chain d).length+1) (b.chain c) (b.chain d)=l at hp;have h1:UA (b.setChain c l):=h.p.setChain (by rw[hp.length_eq,AL];exact ZH.mp hl) λe he=>(AQ.mp (hp.mem_iff.mp he)).elim (h.p.oc _ (h.p.cm hc) e) (h.p.oc _ (h.p.cm hd) e);refine⟨h1.setChain (AY _) λ_ z=>absurd z Aq,h.i.sub λx=>?_⟩;have a1:=Hf ([]:List Entry) x (show d<(b.setChain c l).chains.length by rw[h1.nc];exact hd);have a2:=Hf l x (show c<b.chains.length by rw[h.p.nc];exact hc);rw[JL l hcd]at a1;rw[(hp.map λe=>e.id).count_eq x,MF]at a2;rw[DF,Ft]at a1;omega
theorem Wf.cut(h:Wf b n){c d m:Nat}(hc:c<64)(hd:d<64):Rw n (Vbdeag.cut b c d m):=by
 unfold Vbdeag.cut;dsimp only;refine F6 (λ_=>trivial) λhcd=>F6 (λ_=>trivial) λhl=>⟨?_,AY _⟩;have h1:UA (b.setChain c ((b.chain c).take m)):=h.p.setChain (Aw (RL _ _) (h.p.lc _ (h.p.cm hc))) λe he=>h.p.oc _ (h.p.cm hc) e (Ct he);refine⟨h1.setChain (by rw[AL];exact ZH.mp hl) λe he=>(AQ.mp he).elim (h.p.oc _ (h.p.cm hd) e) λz=>h.p.oc _ (h.p.cm hc) e (Hi z),h.i.sub λx=>?_⟩;have a1:=Hf (b.chain d++(b.chain c).drop m) x (show d<(b.setChain c ((b.chain c).take m)).chains.length by rw[h1.nc];exact hd);have a2:=Hf ((b.chain c).take m) x (show c<b.chains.length by rw[h.p.nc];exact hc);rw[JL _ hcd,MF]at a1;have a3:=MF (λe:Entry=>e.id) ((b.chain c).take m) ((b.chain c).drop m) x;rw[Ci]at a3;omega
theorem Wf.pW(h:Wf b n){m:Nat}(hm:m<64)(p:Guest->Bool):Wf (b.setPoint m ((b.point m).filter p)) n:=by
 refine⟨h.p.setPoint (Aw (BL _ _) (h.p.lp _ (h.p.pm hm))) λe he=>h.p.op _ (h.p.pm hm) e (A5.mp he).1,h.i.sub λx=>?_⟩;have a1:=WO ((b.point m).filter p) x (show m<b.points.length by rw[h.p.np];exact hm);have a2:=Uu (λe:Guest=>e.id) p (b.point m) x;omega
theorem Wf.za(h:Wf b n){m:Nat}(hm:m<64)(p:Side->Bool):Wf (b.setDoor m ((b.door m).filter p)) n:=by
 refine⟨h.p.setDoor (Aw (BL _ _) (h.p.ld _ (h.p.dm hm))) λe he=>h.p.od _ (h.p.dm hm) e (A5.mp he).1,h.i.sub λx=>?_⟩;have a1:=fN ((b.door m).filter p) x (show m<b.doors.length by rw[h.p.nd];exact hm);have a2:=Uu (λe:Side=>e.id) p (b.door m) x;omega
theorem Wf.lA(h:Wf b n){m x:Nat}{q:Key}(hm:m<64)(x1:1<=x)(x2:x<=1000000000)(need:Nat)(n1:1<=need)(n2:need<=1000)(kq:Bh q)(group:List Guest)(hg:group.length<=n):
 Rw n (if Vbdeag.waits b x=true then .err 3
  else if group.length+1=need then .ok (b.setPoint m ((b.point m).filter λg=>g.key !=q)) (group.map (λg=>g.id)++[x])
  else if Vbdeag.CAP<=(b.point m).length then .err 5
  else .wait (b.setPoint m (b.point m++[⟨x,q,need⟩]))):=by
 refine F6 (λ_=>trivial) λhw=>F6 (λ_=>⟨h.pW hm _,?_⟩) λ_=>F6 (λ_=>trivial) λhl=>?_
 ·rw[AL,AA];show _+1<=n+1;omega
 ·refine⟨h.p.setPoint ?_ λe he=>?_,(h.i.more (Q2 hw) x1 x2).sub λy=>?_⟩
  ·rw[AL];have:¬1000<=(b.point m).length:=hl;show _+1<=1000;omega
  ·rcases AQ.mp he with he|he
   ·exact h.p.op _ (h.p.pm hm) e he
   ·rw[Af.mp he];exact⟨kq,n1,n2⟩
  ·have a1:=WO (b.point m++[⟨x,q,need⟩]) y (show m<b.points.length by rw[h.p.np];exact hm);rw[MF,Ay,DF,Dj,Ft]at a1;rw[Dj];dsimp only at a1;omega
theorem Wf.arrive(h:Wf b n){m x k:Nat}{q:Key}(hm:m<64)(x1:1<=x)(x2:x<=1000000000)(k1:1<=k)(k2:k<=1000)(kq:Bh q):Rw n (Vbdeag.arrive b m x k q):=by
 unfold Vbdeag.arrive;dsimp only;have hl:((b.point m).filter λg=>g.key==q).length<=n:=Aw (BL _ _) (h.om hm);cases hg:(b.point m).filter λg=>g.key==q with
 |nil=>exact h.lA hm x1 x2 k k1 k2 kq [] (AY _)
 |cons g r=>
  have:g∈(b.point m).filter λg=>g.key==q:=by rw[hg];exact Ac ..
  have:=h.p.op _ (h.p.pm hm) g (A5.mp this).1;exact h.lA hm x1 x2 g.need this.n1 this.n2 kq (g::r) (by rw[<-hg];exact hl)
theorem Wf.dissolve(h:Wf b n){m:Nat}{q:Key}(hm:m<64):Rw n (Vbdeag.dissolve b m q):=by
 refine⟨h.pW hm _,?_⟩;rw[AA];have:=BL (λg:Guest=>g.key==q) (b.point m);have:=h.om hm;omega
theorem Wf.pair(h:Wf b n){d x:Nat}{r:Bool}{q:Key}(hd:d<64)(x1:1<=x)(x2:x<=1000000000)(kq:Bh q):Rw n (Vbdeag.pair b d x r q):=by
 unfold Vbdeag.pair;refine F6 (λ_=>trivial) λhw=>?_
 split
 ·rename_i s hs;refine⟨h.za hd _,?_⟩;have:=List.length_pos_of_mem (Dp hs);have:=h.vB hd;show 2<=n+1;omega
 ·refine F6 (λ_=>trivial) λhl=>⟨h.p.setDoor ?_ λe he=>?_,(h.i.more (Q2 hw) x1 x2).sub λy=>?_⟩
  ·rw[AL];have:¬1000<=(b.door d).length:=hl;show _+1<=1000;omega
  ·rcases AQ.mp he with he|he
   ·exact h.p.od _ (h.p.dm hd) e he
   ·rw[Af.mp he];exact kq
  ·have a1:=fN (b.door d++[⟨x,q,r⟩]) y (show d<b.doors.length by rw[h.p.nd];exact hd);rw[MF,Ay,DF,Dj,Ft]at a1;rw[Dj];dsimp only at a1;omega
theorem Wf.leave(h:Wf b n){x:Nat}:Rw n (Vbdeag.leave b x):=by
 unfold Vbdeag.leave;refine F6 (λ_=>trivial) λ_=>⟨⟨⟨?_,?_,?_,?_,?_,?_,?_,?_,?_,?_,?_,h.p.wo⟩,h.i.sub λy=>?_⟩,AY _⟩
 ·rw[AA];exact h.p.nc
 ·rw[AA];exact h.p.np
 ·rw[AA];exact h.p.nd
 ·exact Aw (BL _ _) h.p.lw
 ·intro l hl;obtain⟨m,hm,rfl⟩:=AG.mp hl;exact Aw (BL _ _) (h.p.lc m hm)
 ·intro l hl;obtain⟨m,hm,rfl⟩:=AG.mp hl;exact Aw (BL _ _) (h.p.lp m hm)
 ·intro l hl;obtain⟨m,hm,rfl⟩:=AG.mp hl;exact Aw (BL _ _) (h.p.ld m hm)
 ·intro v hv;exact h.p.ow v (A5.mp hv).1
 ·intro l hl;obtain⟨m,hm,rfl⟩:=AG.mp hl;exactλe he=>h.p.oc m hm e (A5.mp he).1
 ·intro l hl;obtain⟨m,hm,rfl⟩:=AG.mp hl;exactλe he=>h.p.op m hm e (A5.mp he).1
 ·intro l hl;obtain⟨m,hm,rfl⟩:=AG.mp hl;exactλe he=>h.p.od m hm e (A5.mp he).1
 ·rw[IF,IF];have a1:=Uu (λw:Watch=>w.id) (λw=>w.id !=x) b.watches y;have a2:=Xr (λw:Entry=>w.id) (λw=>w.id !=x) y b.chains;have a3:=Xr (λw:Guest=>w.id) (λw=>w.id !=x) y b.points;have a4:=Xr (λw:Side=>w.id) (λw=>w.id !=x) y b.doors;dsimp only;omega
end
end So
namespace So
open PySem PySem.Spec PyProof.Rows L2
theorem Wf.rD{b:Vbdeag.Bank}{n c:Nat}(h:Wf b n)(hc:c<64):((b.chain c).map (·.id)).Nodup:=B9.mpr λx=>by
 have:=Hf ([]:List Vbdeag.Entry) x (show c<b.chains.length by rw[h.p.nc];exact hc);have:=B9.mp h.i.one x;rw[DF,Ft]at*;omega
theorem Wf.fP{b:Vbdeag.Bank}{n c:Nat}(h:Wf b n)(hc:c<64):((b.point c).map (·.id)).Nodup:=B9.mpr λx=>by
 have:=WO ([]:List Vbdeag.Guest) x (show c<b.points.length by rw[h.p.np];exact hc);have:=B9.mp h.i.one x;rw[DF,Ft]at*;omega
theorem dH{b:Vbdeag.Bank}{c:Nat}(l:List Vbdeag.Entry)(hc:c<b.chains.length):(b.setChain c l).chain c=l:=by
 unfold Vbdeag.Bank.setChain Vbdeag.Bank.chain;dsimp only;rw[A3,Cz hc];rfl
section
variable{P:Program}{w:World}{K:PySem.W.Frag}{mg:Str->Option Value}{base:Heap}
inductive lB(T:All w K mg)(vs:List V)(H:Hp)(Q:VK)(E:XK):Prop
 |mk(r m:Addr)(c d back n cond o N:Nat)(q:Vbdeag.Key)(b:Vbdeag.Bank)(L:Lo)(ms:List (Addr×Vbdeag.Entry)):vs=[.ref r,.int c,.int d,.ref m,.int o]->c<64->d<64->o<=5->Ah T H r b L->Co L->Wf b N->H m=some (.lst (refs ms))->m∉L.foot r->(∀y∈ms,Dg T H y.1 y.2)->ms.map (·.2)=WH (back==1) n (Vbdeag.asks cond q) (b.chain c)->Done T H r L (Vbdeag.answered b (Vbdeag.move b c d (back==1) n cond q o)).1 (Vbdeag.answered b (Vbdeag.move b c d (back==1) n cond q o)).2 Q->lB T vs H Q E
theorem uG(T:All w K mg):Ok P w base T.aW 6 (lB T):=by
 refine T.aW.go kX λcdv A outer s H vs Q E hr h Cc=>?_;obtain⟨r,m,c,d,back,n,cond,o,N,q,b,L,ms,rfl,hc,hd,ho,R,S,wf,hm,mf,yZ,em,k⟩:=h;refine⟨_,(AE (DJ kX 5 (Bu (Nc T) hr (AB (pv 3) AF)))
  (AE (B_ (PW.pt (X0 (BX U3 (pv 1) (pv 2)) (T3 (BX K_ (CA EY (JI T.Cd (Ax Aa (Av (pv 0)) (pv 2))) (JI T.Cd (pv 3))) (Lg T.L_))))) (AK (Am (BS (AB (Lg T.HV) AF)))) Bc)
  (AE (Fy (Bu (FI T) hr (AB (Ax Aa (Av (pv 0)) (pv 1)) (AB (pv 5) AF))) (Fx (Av (pv 0)) (pv 1) set_list))
  (AE (Fy (Bu (MD T) hr (AB (Ax Aa (Av (pv 0)) (pv 2)) (AB (pv 3) (AB (pv 4) AF)))) (Fx (Av (pv 0)) (pv 2) set_list))
  (AK (Am (Bu (Cn T) hr (AB (pv 5) AF)))))))),?_⟩
 have kr:=T.BG;have nC:=kr.no "chains" (by simp);have hcl:c<L.zc.length:=by rw[S.c];exact hc
 have hdl:d<L.zc.length:=by rw[S.c];exact hd
 have nd:=wf.rD hc;have ABG:=wf.p.lc _ (wf.p.cm hc);have AEk:=wf.p.lc _ (wf.p.cm hd);obtain⟨wt,_,wk⟩:=wf.taken hc (p:=Vbdeag.asks cond q) (back:=back==1) (m:=n);have pt:=(Lu (back==1) (Vbdeag.asks cond q) (b.chain c) n).length_eq;unfold Vbdeag.move at k;rw[U9 _ _ _ _ nd]at k wt wk pt;rw[<-em]at k wt wk pt;dsimp only at k wt wk pt;rw[AL,AA]at pt;have e2:(ms.map (·.2)).map (·.id)=ms.map λz=>z.2.id:=by rw[An];rfl
 rw[e2]at k wt pt;have ml:ms.length<=1000:=by omega
 refine⟨_,U,m,CZ (·.id) ms,U,A1.of (by rw[C2];exact hm),by unfold CZ;rw[AA];omega,λy hy=>?_,λp2 n2=>?_⟩
 ·obtain⟨x,hx,rfl⟩:=C1 hy;exact(yZ x hx).who
 have ei:((CZ (·.id) ms).map λz=>V.int z.2)=((ms.map λz=>z.2.id).map λn:Nat=>(n:Int)).map V.int:=by
  unfold CZ;rw[An,An,An];rfl
 rw[ei];have s2:A7 H (upd H p2 (.lst (((ms.map λz=>z.2.id).map λn:Nat=>(n:Int)).map V.int))):=AO n2;have hp2:(upd H p2 (.lst (((ms.map λz=>z.2.id).map λn:Nat=>(n:Int)).map V.int))) p2=some (.lst (((ms.map λz=>z.2.id).map λn:Nat=>(n:Int)).map V.int)):=AD;generalize upd H p2 (.lst (((ms.map λz=>z.2.id).map λn:Nat=>(n:Int)).map V.int))=H2 at s2 hp2⊢;have R2:=R.same s2;have m2:BE H (L.foot r) H2 (L.foot r):=BE.same s2;obtain⟨z,hz1,hz2,E2,EA,hz5⟩:=R2.chain hcl;obtain⟨zd,hd1,hd2,nX,hd4,hd5⟩:=R2.chain hdl;have zl:z.2.length=(b.chain c).length:=by rw[EA,AA]
 have zdl:zd.2.length=(b.chain d).length:=by rw[hd4,AA]
 refine(λ(rest:¬Vbdeag.CAP<((b.setChain c ((b.chain c).filter λe=>!(ms.map λz=>z.2.id).contains e.id)).chain d).length+(ms.map (·.2)).length->?G)=>?main) ?rest
 case main=>
  refine⟨_,U,_,U,U,_,U,DL (λh=>?_) λh=>?_⟩
  ·have hcd:c≠d:=λz=>by
    rw[z]at h;exact absurd h (by simp)
   refine⟨_,U,r,_,L.dx,_,V.ref L.ac,U,R2.obj,kr.cl,nC,U,_,U,L.ac,_,_,_,U,U,A1.of R2.lc,at_of U (BU hd1),zd.1,_,U,.inl (A1.of hd2),_,U,m,_,U,.inl (A1.of (s2 _ _ hm)),_,_,U,U,_,_,U,U,_,U,DL (λh'=>?_) λh'=>?_⟩
   ·have:(1000:Int)<((refs zd.2).length:Int)+((refs ms).length:Int):=AX h';rw[Al,Al]at this;rw[AJ (by rw[JL _ hcd,AA];show 1000<_;omega)]at k;exact⟨by show 1<=sizeLine;decide,k.one R2 m2⟩
   ·refine rest ?_;have:¬(1000:Int)<((refs zd.2).length:Int)+((refs ms).length:Int):=λq=>h' (AM q);rw[Al,Al]at this;rw[JL _ hcd,AA];show¬1000<_;omega
  ·refine GZ (rest ?_);have hcd:c=d:=CF λz=>h (by
    have:¬V.int (c:Int)=V.int (d:Int):=λq=>z (by injection q with q;omega);rw[BJ this];rfl)
   rw[<-hcd,dH _ (by rw[wf.p.nc];exact hc),AA];show¬1000<_;omega
 case rest=>
  intro room;rw[AI room]at k;refine⟨_,U,r,_,L.dx,_,V.ref L.ac,U,R2.obj,kr.cl,nC,U,_,U,L.ac,_,_,_,U,U,A1.of R2.lc,at_of U (BU hz1),_,U,z.1,p2,CZ (·.id) z.2,_,U,A1.of (by rw[C2];exact hz2),A1.of hp2,by unfold CZ;rw[AA];omega,by rw[AA,AA];omega,λy hy=>?_,λH3 p3 s3 n3 e3=>?_⟩
  ·obtain⟨x,hx,rfl⟩:=C1 hy;exact(E2 x hx).who
  rw[Q0]at e3;have R3:=R2.same s3;obtain⟨R4,m4,S4⟩:=R3.Gh (m2.trans (BE.same s3)) S hcl e3 (s2.free n3) (R2.Cv n3) λy hy=>(E2 y (A5.mp hy).1).same s3;refine⟨_,U,r,_,L.dx,_,V.ref L.ac,U,R3.obj,kr.cl,nC,U,_,U,L.ac,_,_,c,U,U,R3.lc,EV (by rw[Al];exact hcl),?_⟩;have eb:(z.2.filter λz=>!(ms.map λz=>z.2.id).contains z.2.id).map (·.2)=(b.chain c).filter λe=>!(ms.map λz=>z.2.id).contains e.id:=by
   rw[EA];exact ED z.2 λe=>!(ms.map λz=>z.2.id).contains e.id
  rw[eb]at R4;have nac:∀a,a∉L.foot r->a≠L.ac:=λa h z=>h (by rw[z];exact Pu);have hm4:(L2.upd H3 L.ac (.lst ((refs L.zc).set c (.ref p3)))) m=some (.lst (refs ms)):=by
   rw[Aj (nac m mf)];exact s3 _ _ (s2 _ _ hm)
  have sN:(L2.upd H3 L.ac (.lst ((refs L.zc).set c (.ref p3)))) p2=some (.lst (((ms.map λz=>z.2.id).map λn:Nat=>(n:Int)).map V.int)):=by
   rw[Aj (nac p2 (R.Cv n2))];exact s3 _ _ hp2
  have vX:∀y∈ms,Dg T (L2.upd H3 L.ac (.lst ((refs L.zc).set c (.ref p3)))) y.1 y.2:=λy hy=>(((yZ y hy).same s2).same s3).upd R3.lc trivial;have hac:L.ac=({L with zc:=L.zc.set c (p3,z.2.filter λz=>!(ms.map λz=>z.2.id).contains z.2.id)}:Lo).ac:=rfl;have hdx:L.dx=({L with zc:=L.zc.set c (p3,z.2.filter λz=>!(ms.map λz=>z.2.id).contains z.2.id)}:Lo).dx:=rfl;have fp:∀a,a∈({L with zc:=L.zc.set c (p3,z.2.filter λz=>!(ms.map λz=>z.2.id).contains z.2.id)}:Lo).foot r->a∈L.foot r\/H a=none:=λa h=>m4.fresh a h;generalize ({L with zc:=L.zc.set c (p3,z.2.filter λz=>!(ms.map λz=>z.2.id).contains z.2.id)}:Lo)=L4 at R4 m4 S4 hac hdx fp;generalize L2.upd H3 L.ac (.lst ((refs L.zc).set c (.ref p3)))=H4 at R4 m4 hm4 sN vX⊢;generalize b.setChain c ((b.chain c).filter λe=>!(ms.map λz=>z.2.id).contains e.id)=a at R4 k room wt;have iw:d<L4.zc.length:=by rw[S4.c];exact hd
  obtain⟨y,hy1,vC,vD,nY,hy5⟩:=R4.chain iw;have yl:y.2.length=(a.chain d).length:=by rw[nY,AA]
  have AEn:=wt.p.lc _ (wt.p.cm hd);refine⟨_,U,r,_,L4.dx,_,V.ref L4.ac,U,R4.obj,kr.cl,nC,U,_,U,L4.ac,_,_,_,U,U,A1.of R4.lc,at_of U (BU hy1),_,U,_,U,y.1,m,o,y.2,ms,U,ho,vC,hm4,by omega,λx hx=>⟨vD x hx,wt.p.oc _ (wt.p.cm hd) x.2 (by rw[nY];exact AG.mpr ⟨x,hx,U⟩)⟩,λx hx=>⟨vX x hx,wk x.2 (AG.mpr ⟨x,hx,U⟩)⟩,λH5 p5 ys s5 n5 e5 ey hin hlen=>?_⟩;have R5:=R4.same s5;obtain⟨R6,m6,S6⟩:=R5.Gh (m4.trans (BE.same s5)) S4 iw e5 (m4.free n5) (R4.Cv n5) λx hx=>(hin x hx).elim (λq=>(vD x q).same s5) λq=>(vX x q).same s5;refine⟨_,U,r,_,L4.dx,_,V.ref L4.ac,U,R5.obj,kr.cl,nC,U,_,U,L4.ac,_,_,d,U,U,R5.lc,EV (by rw[Al];exact iw),?_⟩;have hp6:(L2.upd H5 L4.ac (.lst ((refs L4.zc).set d (.ref p5)))) p2=some (.lst (((ms.map λz=>z.2.id).map λn:Nat=>(n:Int)).map V.int)):=by
   rw[Aj λq=>nac p2 (R.Cv n2) (by rw[hac];exact q)];exact s5 _ _ sN
  refine⟨_,U,p2,_,U,hp6,by rw[AA,AA];omega,λH7 t s7 nt et=>?_⟩;have en:(Vbdeag.ids (ms.map λz=>z.2.id))=0::((((ms.map λz=>z.2.id).map λn:Nat=>(n:Int)).length:Nat):Int)::((ms.map λz=>z.2.id).map λn:Nat=>(n:Int)):=rfl;refine k.fin ?_ m6 s7 nt (by rw[et,<-en];rfl);rw[ey,<-nY]at R6;exact R6
end
section
variable{P:Program}{w:World}{K:PySem.W.Frag}{mg:Str->Option Value}{base:Heap}
inductive fQ(T:All w K mg)(vs:List V)(H:Hp)(Q:VK)(E:XK):Prop
 |mk(r:Addr)(c d N:Nat)(b:Vbdeag.Bank)(L:Lo):vs=[.ref r,.int c,.int d]->c<64->d<64->Ah T H r b L->Co L->Wf b N->Done T H r L (Vbdeag.answered b (Vbdeag.merge b c d)).1 (Vbdeag.answered b (Vbdeag.merge b c d)).2 Q->fQ T vs H Q E
theorem rE(T:All w K mg):Ok P w base T.Xg 3 (fQ T):=by
 refine T.Xg.go qv λcdv A outer s H vs Q E hr h Cc=>?_;obtain⟨r,c,d,N,b,L,rfl,hc,hd,R,S,wf,k⟩:=h;refine⟨_,(AE (B_ (BX E7 (pv 1) (pv 2)) (AK (Am (BS (AB (Lg T.GN) AF)))) Bc)
  (AE (B_ (BX K_ (CA EY (JI T.Cd (Ax Aa (Av (pv 0)) (pv 1))) (JI T.Cd (Ax Aa (Av (pv 0)) (pv 2)))) (Lg T.L_)) (AK (Am (BS (AB (Lg T.HV) AF)))) Bc)
  (AE (Fy (Bu (nQ T) hr (AB (Ax Aa (Av (pv 0)) (pv 1)) (AB (Ax Aa (Av (pv 0)) (pv 2)) AF))) (Fx (Av (pv 0)) (pv 1) set_list))
  (AE (Fy (BS AF) (Fx (Av (pv 0)) (pv 2) set_list))
  (AK (Am (Bu (Cn T) hr (AB (BS AF) AF)))))))),?_⟩
 have kr:=T.BG;have nC:=kr.no "chains" (by simp);have hcl:c<L.zc.length:=by rw[S.c];exact hc
 have hdl:d<L.zc.length:=by rw[S.c];exact hd
 have m0:BE H (L.foot r) H (L.foot r):=BE.same λ_ _ h=>h;obtain⟨z,hz1,hz2,E2,EA,hz5⟩:=R.chain hcl;obtain⟨y,hy1,vC,vD,nY,hy5⟩:=R.chain hdl;have zl:z.2.length=(b.chain c).length:=by rw[EA,AA]
 have yl:y.2.length=(b.chain d).length:=by rw[nY,AA]
 unfold Vbdeag.merge at k;refine⟨_,U,_,U,U,_,U,DL (λh=>?_) λh=>?_⟩
 ·rw[dI]at h;have hcd:c=d:=by have:=AX h;omega
  rw[AJ hcd]at k;exact⟨by show 1<=sizeLine;decide,k.one R m0⟩
 ·have hcd:c≠d:=λq=>h (by rw[q];simp);rw[AI hcd]at k;refine⟨_,U,r,_,L.dx,_,V.ref L.ac,U,R.obj,kr.cl,nC,U,_,U,L.ac,_,_,_,U,U,A1.of R.lc,at_of U (BU hz1),z.1,_,U,.inl (A1.of hz2),_,U,r,_,L.dx,_,V.ref L.ac,U,R.obj,kr.cl,nC,U,_,U,L.ac,_,_,_,U,U,A1.of R.lc,at_of U (BU hy1),y.1,_,U,.inl (A1.of vC),_,_,U,U,_,_,U,U,_,U,DL (λh'=>?_) λh'=>?_⟩
  ·have:(1000:Int)<((refs z.2).length:Int)+((refs y.2).length:Int):=AX h';rw[Al,Al]at this;rw[AJ (show Vbdeag.CAP<(b.chain c).length+(b.chain d).length by show 1000<_;omega)]at k;exact⟨by show 1<=sizeLine;decide,k.one R m0⟩
  ·have:¬(1000:Int)<((refs z.2).length:Int)+((refs y.2).length:Int):=λq=>h' (AM q);rw[Al,Al]at this;rw[AI (show¬Vbdeag.CAP<(b.chain c).length+(b.chain d).length by show¬1000<_;omega)]at k;refine⟨_,U,r,_,L.dx,_,V.ref L.ac,U,R.obj,kr.cl,nC,U,_,U,L.ac,_,_,_,U,U,A1.of R.lc,at_of U (BU hz1),_,U,r,_,L.dx,_,V.ref L.ac,U,R.obj,kr.cl,nC,U,_,U,L.ac,_,_,_,U,U,A1.of R.lc,at_of U (BU hy1),z.1,y.1,z.2,y.2,U,A1.of hz2,A1.of vC,by omega,
    λx hx=>⟨E2 x hx,wf.p.oc _ (wf.p.cm hc) x.2 (by rw[EA];exact AG.mpr ⟨x,hx,U⟩)⟩,λx hx=>⟨vD x hx,wf.p.oc _ (wf.p.cm hd) x.2 (by rw[nY];exact AG.mpr ⟨x,hx,U⟩)⟩,λH1 p1 s1 n1 e1=>?_⟩
   have R1:=R.same s1;have em:=Yc (z.2.length+y.2.length+1) z.2 y.2;have mm:=Yd (z.2.length+y.2.length+1) z.2 y.2;rw[zl,yl,<-EA,<-nY]at em;rw[zl,yl]at e1 mm;generalize Ma ((b.chain c).length+(b.chain d).length+1) z.2 y.2=ws at e1 em mm;obtain⟨R2,m2,S2⟩:=R1.Gh (BE.same s1) S hcl e1 n1 (R.Cv n1) λx hx=>(mm x hx).elim (λq=>(E2 x q).same s1) λq=>(vD x q).same s1;refine⟨_,U,r,_,L.dx,_,V.ref L.ac,U,R1.obj,kr.cl,nC,U,_,U,L.ac,_,_,c,U,U,R1.lc,EV (by rw[Al];exact hcl),?_⟩;rw[em]at R2;generalize ({L with zc:=L.zc.set c (p1,ws)}:Lo)=vE at R2 m2 S2;generalize L2.upd H1 L.ac (.lst ((refs L.zc).set c (.ref p1)))=H2 at R2 m2⊢;generalize b.setChain c (Vbdeag.merged ((b.chain c).length+(b.chain d).length+1) (b.chain c) (b.chain d))=a at R2 k;(have hd2:d<vE.zc.length:=by rw[S2.c];exact hd);refine⟨by show 0<=sizeLine;exact AY _,λp3 n3=>?_⟩;have s3:A7 H2 (upd H2 p3 (.lst [])):=AO n3;have R3:=R2.same s3;obtain⟨R4,m4,S4⟩:=R3.Gh (ys:=[]) (m2.trans (BE.same s3)) S2 hd2 AD (m2.free n3) (R2.Cv n3) λx hx=>absurd hx Aq;refine⟨_,U,r,_,vE.dx,_,V.ref vE.ac,U,R3.obj,kr.cl,nC,U,_,U,vE.ac,_,_,d,U,U,R3.lc,EV (by rw[Al];exact hd2),?_⟩;exact k.none R4 m4
inductive pX(T:All w K mg)(vs:List V)(H:Hp)(Q:VK)(E:XK):Prop
 |mk(r:Addr)(c d n N:Nat)(b:Vbdeag.Bank)(L:Lo):vs=[.ref r,.int c,.int d,.int n]->c<64->d<64->Ah T H r b L->Co L->Wf b N->Done T H r L (Vbdeag.answered b (Vbdeag.cut b c d n)).1 (Vbdeag.answered b (Vbdeag.cut b c d n)).2 Q->pX T vs H Q E
theorem xO(T:All w K mg):Ok P w base T.ig 2 (pX T):=by
 refine T.ig.go pQ λcdv A outer s H vs Q E hr h Cc=>?_;obtain⟨r,c,d,n,N,b,L,rfl,hc,hd,R,S,wf,k⟩:=h;refine⟨_,(AE (B_ (BX E7 (pv 1) (pv 2)) (AK (Am (BS (AB (Lg T.GN) AF)))) Bc)
  (AE (DJ pQ 4 (FU Gs (Ax Aa (Av (pv 0)) (pv 1)) (ER (pv 3)) L8))
  (AE (B_ (BX K_ (CA EY (JI T.Cd (Ax Aa (Av (pv 0)) (pv 2))) (JI T.Cd (pv 4))) (Lg T.L_)) (AK (Am (BS (AB (Lg T.HV) AF)))) Bc)
  (AE (Fy (FU Gs (Ax Aa (Av (pv 0)) (pv 1)) L8 (ER (pv 3))) (Fx (Av (pv 0)) (pv 1) set_list))
  (AE (Fy (CA H_ (Ax Aa (Av (pv 0)) (pv 2)) (pv 4)) (Fx (Av (pv 0)) (pv 2) set_list))
  (AK (Am (Bu (Cn T) hr (AB (BS AF) AF))))))))),?_⟩
 have kr:=T.BG;have nC:=kr.no "chains" (by simp);have hcl:c<L.zc.length:=by rw[S.c];exact hc
 have hdl:d<L.zc.length:=by rw[S.c];exact hd
 have m0:BE H (L.foot r) H (L.foot r):=BE.same λ_ _ h=>h;obtain⟨z,hz1,hz2,E2,EA,hz5⟩:=R.chain hcl;have zl:z.2.length=(b.chain c).length:=by rw[EA,AA]
 have ABG:=wf.p.lc _ (wf.p.cm hc);unfold Vbdeag.cut at k;dsimp only at k;refine⟨_,U,_,U,U,_,U,DL (λh=>?_) λh=>?_⟩
 ·rw[dI]at h;have hcd:c=d:=by have:=AX h;omega
  rw[AJ hcd]at k;exact⟨by show 1<=sizeLine;decide,k.one R m0⟩
 ·have hcd:c≠d:=λq=>h (by rw[q];simp);rw[AI hcd]at k;refine⟨_,U,r,_,L.dx,_,V.ref L.ac,U,R.obj,kr.cl,nC,U,_,U,L.ac,_,_,_,U,U,A1.of R.lc,at_of U (BU hz1),_,U,_,U,z.1,_,U,A1.of hz2,λp1 n1=>?_⟩;rw[Ut];have er:(refs z.2).drop n=refs (z.2.drop n):=by unfold refs;rw[EZ]
  rw[er];have s1:A7 H (upd H p1 (.lst (refs (z.2.drop n)))):=AO n1;have hp1:(upd H p1 (.lst (refs (z.2.drop n)))) p1=some (.lst (refs (z.2.drop n))):=AD;generalize upd H p1 (.lst (refs (z.2.drop n)))=H1 at s1 hp1⊢;have R1:=R.same s1;obtain⟨y,hy1,vC,vD,nY,hy5⟩:=R1.chain hdl;have yl:y.2.length=(b.chain d).length:=by rw[nY,AA]
  have el:((b.chain c).drop n).length=(z.2.drop n).length:=by rw[A2,A2,zl]
  refine⟨_,U,r,_,L.dx,_,V.ref L.ac,U,R1.obj,kr.cl,nC,U,_,U,L.ac,_,_,_,U,U,A1.of R1.lc,at_of U (BU hy1),y.1,_,U,.inl (A1.of vC),_,U,p1,_,U,.inl (A1.of hp1),_,_,U,U,_,_,U,U,_,U,DL (λh'=>?_) λh'=>?_⟩
  ·have:(1000:Int)<((refs y.2).length:Int)+((refs (z.2.drop n)).length:Int):=AX h';rw[Al,Al]at this;rw[AJ (show Vbdeag.CAP<(b.chain d).length+((b.chain c).drop n).length by rw[el];show 1000<_;omega)]at k;exact⟨by show 1<=sizeLine;decide,k.one R1 (BE.same s1)⟩
  ·have room:¬(1000:Int)<((refs y.2).length:Int)+((refs (z.2.drop n)).length:Int):=λq=>h' (AM q);rw[Al,Al]at room;rw[AI (show¬Vbdeag.CAP<(b.chain d).length+((b.chain c).drop n).length by rw[el];show¬1000<_;omega)]at k;refine⟨_,U,r,_,L.dx,_,V.ref L.ac,U,R1.obj,kr.cl,nC,U,_,U,L.ac,_,_,_,U,U,A1.of R1.lc,at_of U (BU hz1),_,U,_,U,z.1,_,U,A1.of (s1 _ _ hz2),λp2 n2=>?_⟩;rw[Us];(have er2:(refs z.2).take n=refs (z.2.take n):=by unfold refs;rw[DW]);rw[er2];have s2:A7 H1 (upd H1 p2 (.lst (refs (z.2.take n)))):=AO n2;have hp2:(upd H1 p2 (.lst (refs (z.2.take n)))) p2=some (.lst (refs (z.2.take n))):=AD;generalize upd H1 p2 (.lst (refs (z.2.take n)))=H2 at s2 hp2⊢;have R2:=R1.same s2;obtain⟨R3,m3,S3⟩:=R2.Gh (BE.same (s1.trans s2)) S hcl hp2 (s1.free n2) (R1.Cv n2) λx hx=>(E2 x (Ct hx)).same (s1.trans s2);refine⟨_,U,r,_,L.dx,_,V.ref L.ac,U,R2.obj,kr.cl,nC,U,_,U,L.ac,_,_,c,U,U,R2.lc,EV (by rw[Al];exact hcl),?_⟩;(have e3:(z.2.take n).map (·.2)=(b.chain c).take n:=by rw[EA,DW]);rw[e3]at R3;have hp3:(L2.upd H2 L.ac (.lst ((refs L.zc).set c (.ref p2)))) p1=some (.lst (refs (z.2.drop n))):=by
    rw[Aj λq=>R.Cv n1 (by rw[q];exact Pu)];exact s2 _ _ hp1
   have yy:∀x∈z.2,Dg T (L2.upd H2 L.ac (.lst ((refs L.zc).set c (.ref p2)))) x.1 x.2:=λx hx=>((E2 x hx).same (s1.trans s2)).upd R2.lc trivial;generalize ({L with zc:=L.zc.set c (p2,z.2.take n)}:Lo)=L3 at R3 m3 S3;generalize L2.upd H2 L.ac (.lst ((refs L.zc).set c (.ref p2)))=H3 at R3 m3 hp3 yy⊢;have ed:(b.setChain c ((b.chain c).take n)).chain d=b.chain d:=JL _ hcd;generalize b.setChain c ((b.chain c).take n)=a at R3 k ed;(have nX:d<L3.zc.length:=by rw[S3.c];exact hd);obtain⟨x,yz,hx2,hx3,hx4,hx5⟩:=R3.chain nX;rw[ed]at hx4;(have xl:x.2.length=(b.chain d).length:=by rw[hx4,AA]);refine⟨_,U,r,_,L3.dx,_,V.ref L3.ac,U,R3.obj,kr.cl,nC,U,_,U,L3.ac,_,_,_,U,U,A1.of R3.lc,at_of U (BU yz),_,U,x.1,p1,_,_,U,U,hx2,hp3,by rw[Al,Al];omega,λp4 n4=>?_⟩;rw[<-Dr];have s4:A7 H3 (upd H3 p4 (.lst (refs (x.2++z.2.drop n)))):=AO n4;have R4:=R3.same s4;obtain⟨R5,m5,S5⟩:=R4.Gh (m3.trans (BE.same s4)) S3 nX AD (m3.free n4) (R3.Cv n4) λv hv=>(AQ.mp hv).elim (λq=>(hx3 v q).same s4) λq=>(yy v (Hi q)).same s4;refine⟨_,U,r,_,L3.dx,_,V.ref L3.ac,U,R4.obj,kr.cl,nC,U,_,U,L3.ac,_,_,d,U,U,R4.lc,EV (by rw[Al];exact nX),?_⟩;(have e5:(x.2++z.2.drop n).map (·.2)=b.chain d++(b.chain c).drop n:=by rw[As,hx4,EA,EZ]);rw[e5]at R5;exact k.none R5 m5
end
section
variable{P:Program}{w:World}{K:PySem.W.Frag}{mg:Str->Option Value}{base:Heap}
theorem Ah.Yg{T:All w K mg}{H H3:Hp}{F:List Addr}{r p:Addr}{b:Vbdeag.Bank}{L:Lo}{c:Nat}{ys:List (Addr×Vbdeag.Guest)}(R:Ah T H3 r b L)(m:BE H F H3 (L.foot r))(S:Co L)(hc:c<L.zp.length)(e:H3 p=some (.lst (refs ys)))(np:H p=none)(nf:p∉L.foot r)(hy:∀y∈ys,Hj T H3 y.1 y.2):
 Ah T (L2.upd H3 L.ap (.lst ((refs L.zp).set c (.ref p)))) r (b.setPoint c (ys.map (·.2))) {L with zp:=L.zp.set c (p,ys)}/\BE H F (L2.upd H3 L.ap (.lst ((refs L.zp).set c (.ref p)))) (({L with zp:=L.zp.set c (p,ys)}:Lo).foot r)/\Co {L with zp:=L.zp.set c (p,ys)}:=
 ⟨R.setPoint hc e nf hy,m.set cC λa h=>by rw[iQ hc]at h;exact JK h np,⟨S.c,by show(L.zp.set c (p,ys)).length=64;rw[Cq];exact S.p,S.d⟩⟩
theorem Ah.lC{T:All w K mg}{H H3:Hp}{F:List Addr}{r p:Addr}{b:Vbdeag.Bank}{L:Lo}{c:Nat}{ys:List (Addr×Vbdeag.Side)}(R:Ah T H3 r b L)(m:BE H F H3 (L.foot r))(S:Co L)(hc:c<L.zd.length)(e:H3 p=some (.lst (refs ys)))(np:H p=none)(nf:p∉L.foot r)(hy:∀y∈ys,Hl T H3 y.1 y.2):
 Ah T (L2.upd H3 L.ad (.lst ((refs L.zd).set c (.ref p)))) r (b.setDoor c (ys.map (·.2))) {L with zd:=L.zd.set c (p,ys)}/\BE H F (L2.upd H3 L.ad (.lst ((refs L.zd).set c (.ref p)))) (({L with zd:=L.zd.set c (p,ys)}:Lo).foot r)/\Co {L with zd:=L.zd.set c (p,ys)}:=
 ⟨R.setDoor e nf hy,m.set uE λa h=>by rw[iR]at h;exact JK h np,⟨S.c,S.p,by show(L.zd.set c (p,ys)).length=64;rw[Cq];exact S.d⟩⟩
theorem bM{L:Lo}{r:Addr}(h:(L.foot r).Nodup):(L.zc.map (·.1)++(L.zp.map (·.1)++L.zd.map (·.1))).Nodup:=by
 unfold Lo.foot at h;exact(BQ.mp (BQ.mp (BQ.mp (BQ.mp (BQ.mp h).2).2).2).2).2
theorem bN{α:Type}{zs:List (Addr×α)}{c:Nat}{z y:Addr×α}{n:Addr×α}(nd:(zs.map (·.1)).Nodup)(hz:zs[c]?=some z)(hy:y∈zs.set c n):y=n\/(y∈zs/\y.1≠z.1):=by
 obtain⟨i,hi⟩:=Bt.mp hy;rw[Vg]at hi
 split at hi
 ·split at hi
  ·exact .inl (BB hi).symm
  ·cases hi
 ·rename_i ne;refine .inr ⟨AS hi,λe=>ne ?_⟩;have hc:c<(zs.map (·.1)).length:=by rw[AA];exact(AZ.mp hz).1
  refine(List.getElem?_inj hc nd).mp ?_;rw[Ai,Ai,hz,hi,FD,FD,e]
theorem set_same{α:Type}:∀{l:List α}{i:Nat}{x:α},l[i]?=some x->l.set i x=l
 | [],i,x,h=>rfl
 |a::l,0,x,h=>by cases h;rfl
 |a::l,i+1,x,h=>by
  show a::l.set i x=a::l;rw[set_same (l:=l) h]
theorem nZ{L:Lo}{r:Addr}{c:Nat}{z:Addr×List (Addr×Vbdeag.Guest)}(hz:L.zp[c]?=some z):(L.foot r)[5+(L.zc.length+c)]?=some z.1:=by
 have e:5+(L.zc.length+c)=(L.zc.length+c)+1+1+1+1+1:=by omega
 unfold Lo.foot;rw[e];simp only[N4];rw[Ey (by rw[AA];omega),AA,DS,Me (by rw[AA];exact(AZ.mp hz).1),Ai,hz];rfl
theorem ng{L:Lo}{r:Addr}{c:Nat}{z:Addr×List (Addr×Vbdeag.Side)}(hz:L.zd[c]?=some z):(L.foot r)[5+(L.zc.length+(L.zp.length+c))]?=some z.1:=by
 have e:5+(L.zc.length+(L.zp.length+c))=(L.zc.length+(L.zp.length+c))+1+1+1+1+1:=by omega
 unfold Lo.foot;rw[e];simp only[N4];rw[Ey (by rw[AA];omega),AA,DS,Ey (by rw[AA];omega),AA,DS,Ai,hz];rfl
theorem Ah.rG{T:All w K mg}{H:Hp}{r o:Addr}{b:Vbdeag.Bank}{L:Lo}{c:Nat}{x:Vbdeag.Guest}{z:Addr×List (Addr×Vbdeag.Guest)}(R:Ah T H r b L)(hz:L.zp[c]?=some z)(ho:Hj T H o x):
 Ah T (L2.upd H z.1 (.lst (refs z.2++[.ref o]))) r (b.setPoint c (b.point c++[x])) {L with zp:=L.zp.set c (z.1,z.2++[(o,x)])}/\({L with zp:=L.zp.set c (z.1,z.2++[(o,x)])}:Lo).foot r=L.foot r:=by
 have mz:=AS hz;have hcl:c<L.zp.length:=(AZ.mp hz).1;obtain⟨⟨_,_,_,_,_,c6,_⟩,⟨_,_,_,_,_,p6,_⟩,⟨_,_,_,_,_,d6,_⟩,⟨_,_,w3,_⟩⟩:=NW R.nd;obtain⟨_,_,_,_,_,r6,_⟩:=vV R.nd;have nd:=bM R.nd;rw[Bo,Bo]at nd;obtain⟨_,⟨uw,_,nd2⟩,nd3⟩:=nd;have hC:∀y∈L.zc,y.1≠z.1:=λy hy=>nd3 _ (AG.mpr ⟨y,hy,U⟩) _ (CK _ (AG.mpr ⟨z,mz,U⟩));have hD:∀y∈L.zd,y.1≠z.1:=λy hy e=>nd2 _ (AG.mpr ⟨z,mz,U⟩) _ (AG.mpr ⟨y,hy,U⟩) e.symm;have oz:H z.1=some (.lst (refs z.2)):=(R.pp z mz).1;have ff:({L with zp:=L.zp.set c (z.1,z.2++[(o,x)])}:Lo).foot r=L.foot r:=by rw[iQ hcl,set_same (nZ hz)]
 have ep:b.point c=z.2.map (·.2):=by
  unfold Vbdeag.Bank.point;rw[R.bp,A3,Ai,hz];rfl
 refine⟨⟨by rw[Aj (r6 z mz).symm];exact R.obj,by rw[Aj (w3 z mz).symm];exact R.lw,by rw[Aj (c6 z mz).symm];exact R.lc,?_,by rw[Aj (d6 z mz).symm];exact R.ld,λy hy=>(R.ww y hy).upd oz trivial,λy hy=>⟨by rw[Aj (hC y hy)];exact(R.cc y hy).1,λu hu=>((R.cc y hy).2 u hu).upd oz trivial⟩,
  λy hy=>?_,λy hy=>⟨by rw[Aj (hD y hy)];exact(R.dd y hy).1,λu hu=>((R.dd y hy).2 u hu).upd oz trivial⟩,by rw[ff];exact R.nd,R.bw,R.bc,?_,R.bd⟩,ff⟩
 ·rw[Aj (p6 z mz).symm,R.lp];show some (HO.lst (refs L.zp))=some (HO.lst (refs (L.zp.set c (z.1,z.2++[(o,x)]))));rw[Pe,set_same (BU hz)]
 ·rcases bN uw hz hy with rfl|⟨hy,ne⟩
  ·refine⟨by rw[AD,Dr];rfl,λu hu=>?_⟩;rcases AQ.mp hu with hu|hu
   ·exact((R.pp z mz).2 u hu).upd oz trivial
   ·rw[Af.mp hu];exact ho.upd oz trivial
  ·exact⟨by rw[Aj ne];exact(R.pp y hy).1,λu hu=>((R.pp y hy).2 u hu).upd oz trivial⟩
 ·show b.points.set c _=_;rw[R.bp,FH,ep,As];rfl
theorem Ah.nh{T:All w K mg}{H:Hp}{r o:Addr}{b:Vbdeag.Bank}{L:Lo}{c:Nat}{x:Vbdeag.Side}{z:Addr×List (Addr×Vbdeag.Side)}(R:Ah T H r b L)(hz:L.zd[c]?=some z)(ho:Hl T H o x):
 Ah T (L2.upd H z.1 (.lst (refs z.2++[.ref o]))) r (b.setDoor c (b.door c++[x])) {L with zd:=L.zd.set c (z.1,z.2++[(o,x)])}/\({L with zd:=L.zd.set c (z.1,z.2++[(o,x)])}:Lo).foot r=L.foot r:=by
 have mz:=AS hz;have hcl:c<L.zd.length:=(AZ.mp hz).1;obtain⟨⟨_,_,_,_,_,_,c7⟩,⟨_,_,_,_,_,_,p7⟩,⟨_,_,_,_,_,_,d7⟩,⟨_,_,_,w4⟩⟩:=NW R.nd;obtain⟨_,_,_,_,_,_,r7⟩:=vV R.nd;have nd:=bM R.nd;rw[Bo,Bo]at nd;obtain⟨_,⟨_,uw,nd2⟩,nd3⟩:=nd;have hC:∀y∈L.zc,y.1≠z.1:=λy hy=>nd3 _ (AG.mpr ⟨y,hy,U⟩) _ (BD _ (AG.mpr ⟨z,mz,U⟩));have hP:∀y∈L.zp,y.1≠z.1:=λy hy=>nd2 _ (AG.mpr ⟨y,hy,U⟩) _ (AG.mpr ⟨z,mz,U⟩);have oz:H z.1=some (.lst (refs z.2)):=(R.dd z mz).1;have ff:({L with zd:=L.zd.set c (z.1,z.2++[(o,x)])}:Lo).foot r=L.foot r:=by rw[iR,set_same (ng hz)]
 have ep:b.door c=z.2.map (·.2):=by
  unfold Vbdeag.Bank.door;rw[R.bd,A3,Ai,hz];rfl
 refine⟨⟨by rw[Aj (r7 z mz).symm];exact R.obj,by rw[Aj (w4 z mz).symm];exact R.lw,by rw[Aj (c7 z mz).symm];exact R.lc,by rw[Aj (p7 z mz).symm];exact R.lp,?_,λy hy=>(R.ww y hy).upd oz trivial,λy hy=>⟨by rw[Aj (hC y hy)];exact(R.cc y hy).1,λu hu=>((R.cc y hy).2 u hu).upd oz trivial⟩,
  λy hy=>⟨by rw[Aj (hP y hy)];exact(R.pp y hy).1,λu hu=>((R.pp y hy).2 u hu).upd oz trivial⟩,λy hy=>?_,by rw[ff];exact R.nd,R.bw,R.bc,R.bp,?_⟩,ff⟩
 ·rw[Aj (d7 z mz).symm,R.ld];show some (HO.lst (refs L.zd))=some (HO.lst (refs (L.zd.set c (z.1,z.2++[(o,x)]))));rw[Pe,set_same (BU hz)]
 ·rcases bN uw hz hy with rfl|⟨hy,ne⟩
  ·refine⟨by rw[AD,Dr];rfl,λu hu=>?_⟩;rcases AQ.mp hu with hu|hu
   ·exact((R.dd z mz).2 u hu).upd oz trivial
   ·rw[Af.mp hu];exact ho.upd oz trivial
  ·exact⟨by rw[Aj ne];exact(R.dd y hy).1,λu hu=>((R.dd y hy).2 u hu).upd oz trivial⟩
 ·show b.doors.set c _=_;rw[R.bd,FH,ep,As];rfl
end
section
variable{P:Program}{w:World}{K:PySem.W.Frag}{mg:Str->Option Value}{base:Heap}
inductive W5(T:All w K mg)(vs:List V)(H:Hp)(Q:VK)(E:XK):Prop
 |mk(l ka:Addr)(q:Vbdeag.Key)(zs:List (Addr×Vbdeag.Guest)):vs=[.ref l,.ref ka]->A1 K H l (refs zs)->zs.length<=100000->(∀z∈zs,Hj T H z.1 z.2/\Bh z.2.key)->Dv T H ka q->Bh q->(∀p,H p=none->Q (.ref p) (upd H p (.lst (refs (zs.filter λz=>z.2.key==q)))))->W5 T vs H Q E
theorem W6(T:All w K mg):Ok P w base T.N_ 1 (W5 T):=by
 refine T.N_.go QL λcdv A outer s H vs Q E hr h Cc=>?_;obtain⟨l,ka,q,zs,rfl,hS,hz,hg,hk,kq,k⟩:=h;refine⟨_,(AK (Am (Fi (own:=[("guest",2)]) (tt:=(XJ (L6 uc (RX K (RX K (CD 2) "key") "worth") (RX K (CD 1) "worth")))) (te:=(CD 2)) U QL.nd (Bx (pv 0)) (CS (by rfl)) (λ_ _ _ _ _=>BW (i:=2) QL.nd U (Or.inl U)) (λ_ _ _ _ _=>Pq (BX E7 (Av (Av (pv 2))) (Av (pv 1)))) (λ_ _ _ _ _=>(pv 2))))),?_⟩;refine⟨_,U,l,U,⟨_,hS⟩,λD hD=>JD hS (by omega) (by show 2<3;decide) hD (λz=>z.2.key==q) (λz=>V.ref z.1) (λz hz' H' hs R hR=>?_) (λz hz' _ H' hs R hR=>⟨_,U,hR⟩) ?_⟩
 ·obtain⟨⟨dx,kb,h1,dk,h2⟩,kz⟩:=hg z hz';obtain⟨dq,h3⟩:=hk;refine⟨_,U,z.1,_,dx,_,V.ref kb,U,hs _ _ h1,T.ES.cl,T.ES.no _ (by simp),U,kb,_,dk,_,V.int (worth z.2.key),U,hs _ _ h2,T.Ck.cl,T.Ck.no _ (by simp),U,_,U,ka,_,dq,_,V.int (worth q),U,hs _ _ h3,T.Ck.cl,T.Ck.no _ (by simp),U,U,_,U,?_⟩;rw[dI,<-Uq kz kq];exact hR
 ·exact k D hD
inductive W7(T:All w K mg)(vs:List V)(H:Hp)(Q:VK)(E:XK):Prop
 |mk(r ka:Addr)(m N:Nat)(q:Vbdeag.Key)(b:Vbdeag.Bank)(L:Lo):vs=[.ref r,.int m,.ref ka]->m<64->Dv T H ka q->Bh q->Ah T H r b L->Co L->Wf b N->Done T H r L (Vbdeag.answered b (Vbdeag.dissolve b m q)).1 (Vbdeag.answered b (Vbdeag.dissolve b m q)).2 Q->W7 T vs H Q E
theorem gT(T:All w K mg):Ok P w base T.OA 2 (W7 T):=by
 refine T.OA.go Wy λcdv A outer s H vs Q E hr h Cc=>?_;obtain⟨r,ka,m,N,q,b,L,rfl,hm,hk,kq,R,S,wf,k⟩:=h;refine⟨_,(AE (DJ Wy 3 (Bu (Nc T) hr (AB (Bu (W6 T) hr (AB (Ax Aa (Av (pv 0)) (pv 1)) (AB (pv 2) AF))) AF)))
  (AE (Fy (Bu (FI T) hr (AB (Ax Aa (Av (pv 0)) (pv 1)) (AB (pv 3) AF))) (Fx (Av (pv 0)) (pv 1) set_list))
  (AK (Am (Bu (Cn T) hr (AB (pv 3) AF)))))),?_⟩
 have kr:=T.BG;have nC:=kr.no "points" (by simp);have hml:m<L.zp.length:=by rw[S.p];exact hm
 obtain⟨z,hz1,hz2,E2,EA,hz5⟩:=R.point hml;have zl:z.2.length=(b.point m).length:=by rw[EA,AA]
 have y9:=wf.p.lp _ (wf.p.pm hm);have nd:=wf.fP hm;have kz:∀y∈z.2,Bh y.2.key:=λy hy=>(wf.p.op _ (wf.p.pm hm) y.2 (by rw[EA];exact AG.mpr ⟨y,hy,U⟩)).k;refine⟨_,U,r,_,L.dx,_,V.ref L.ap,U,R.obj,kr.cl,nC,U,_,U,L.ap,_,_,_,U,U,A1.of R.lp,at_of U (BU hz1),_,U,z.1,ka,q,z.2,U,A1.of hz2,by omega,λy hy=>⟨E2 y hy,kz y hy⟩,hk,kq,λp1 n1=>?_⟩;have s1:A7 H (upd H p1 (.lst (refs (z.2.filter λz=>z.2.key==q)))):=AO n1;have hp1:(upd H p1 (.lst (refs (z.2.filter λz=>z.2.key==q)))) p1=some (.lst (refs (z.2.filter λz=>z.2.key==q))):=AD;generalize upd H p1 (.lst (refs (z.2.filter λz=>z.2.key==q)))=H1 at s1 hp1⊢;have fl:(z.2.filter λz=>z.2.key==q).length<=z.2.length:=BL _ _;refine⟨p1,CZ (·.id) (z.2.filter λz=>z.2.key==q),U,A1.of (by rw[C2];exact hp1),by unfold CZ;rw[AA];omega,λy hy=>?_,λp2 n2=>?_⟩
 ·obtain⟨x,hx,rfl⟩:=C1 hy;exact((E2 x (A5.mp hx).1).same s1).who
 have ei:((CZ (·.id) (z.2.filter λz=>z.2.key==q)).map λz=>V.int z.2)=((z.2.filter λz=>z.2.key==q).map λz=>(z.2.id:Int)).map V.int:=by
  unfold CZ;rw[An,An];rfl
 rw[ei];have s2:A7 H1 (upd H1 p2 (.lst (((z.2.filter λz=>z.2.key==q).map λz=>(z.2.id:Int)).map V.int))):=AO n2;have hp2:(upd H1 p2 (.lst (((z.2.filter λz=>z.2.key==q).map λz=>(z.2.id:Int)).map V.int))) p2=some (.lst (((z.2.filter λz=>z.2.key==q).map λz=>(z.2.id:Int)).map V.int)):=AD;generalize upd H1 p2 (.lst (((z.2.filter λz=>z.2.key==q).map λz=>(z.2.id:Int)).map V.int))=H2 at s2 hp2⊢;have R1:=R.same s1;have R2:=R1.same s2;have s12:=s1.trans s2;refine⟨_,U,r,_,L.dx,_,V.ref L.ap,U,R2.obj,kr.cl,nC,U,_,U,L.ap,_,_,_,U,U,A1.of R2.lp,at_of U (BU hz1),_,U,z.1,p2,CZ (·.id) z.2,_,U,A1.of (by rw[C2];exact s12 _ _ hz2),A1.of hp2,by unfold CZ;rw[AA];omega,by rw[AA];omega,λy hy=>?_,λH3 p3 s3 n3 e3=>?_⟩
 ·obtain⟨x,hx,rfl⟩:=C1 hy;exact((E2 x hx).same s12).who
 rw[oj (·.id) (by rw[<-EA];exact nd) (λg:Vbdeag.Guest=>g.key==q) U]at e3;have R3:=R2.same s3;obtain⟨R4,m4,S4⟩:=R3.Yg (BE.same (s12.trans s3)) S hml e3 (s12.free n3) (R2.Cv n3) λy hy=>(E2 y (A5.mp hy).1).same (s12.trans s3);refine⟨_,U,r,_,L.dx,_,V.ref L.ap,U,R3.obj,kr.cl,nC,U,_,U,L.ap,_,_,m,U,U,R3.lp,EV (by rw[Al];exact hml),?_⟩;have sN:(L2.upd H3 L.ap (.lst ((refs L.zp).set m (.ref p3)))) p2=some (.lst (((z.2.filter λz=>z.2.key==q).map λz=>(z.2.id:Int)).map V.int)):=by
  rw[Aj λz'=>R1.Cv n2 (by rw[z'];exact cC)];exact s3 _ _ hp2
 refine⟨_,U,p2,_,U,sN,by rw[AA];omega,λH5 t s5 nt et=>?_⟩;refine k.fin ?_ m4 s5 nt ?_
 ·have e4:(z.2.filter λz=>!(z.2.key==q)).map (·.2)=(b.point m).filter λg=>g.key !=q:=by
   rw[EA];exact ED z.2 λg=>!(g.key==q)
  rw[e4]at R4;exact R4
 ·have en:((b.point m).filter λg=>g.key==q).map (λg=>g.id)=(z.2.filter λz=>z.2.key==q).map λz=>z.2.id:=by
   rw[EA,<-ED,An];rfl
  rw[et];show _=some (HO.lst ((Vbdeag.ids (((b.point m).filter λg=>g.key==q).map λg=>g.id)).map V.int));rw[en,YA,An];rfl
end
section
variable{P:Program}{w:World}{K:PySem.W.Frag}{mg:Str->Option Value}{base:Heap}
def YB(n:Nat):List Vbdeag.Guest->Nat
 | []=>n
 |g::_=>g.need
theorem nj(b:Vbdeag.Bank)(m x n:Nat)(q:Vbdeag.Key):Vbdeag.arrive b m x n q=if Vbdeag.waits b x=true then .err 3
 else if((b.point m).filter λg=>g.key==q).length+1=YB n ((b.point m).filter λg=>g.key==q)then .ok (b.setPoint m ((b.point m).filter λg=>g.key !=q)) (((b.point m).filter λg=>g.key==q).map (λg=>g.id)++[x])
 else if Vbdeag.CAP<=(b.point m).length then .err 5
 else .wait (b.setPoint m (b.point m++[⟨x,q,YB n ((b.point m).filter λg=>g.key==q)⟩])):=by
 unfold Vbdeag.arrive;dsimp only;cases (b.point m).filter λg=>g.key==q<;>rfl
inductive bO(T:All w K mg)(vs:List V)(H:Hp)(Q:VK)(E:XK):Prop
 |mk(r ka:Addr)(m x n N:Nat)(q:Vbdeag.Key)(b:Vbdeag.Bank)(L:Lo):vs=[.ref r,.int m,.int x,.int n,.ref ka]->m<64->Dv T H ka q->Bh q->Ah T H r b L->Co L->Wf b N->Done T H r L (Vbdeag.answered b (Vbdeag.arrive b m x n q)).1 (Vbdeag.answered b (Vbdeag.arrive b m x n q)).2 Q->bO T vs H Q E
theorem nu(T:All w K mg):Ok P w base T.Ui 4 (bO T):=by
 refine T.Ui.go Qq λcdv A outer s H vs Q E hr h Cc=>?_;obtain⟨r,ka,m,x,n,N,q,b,L,rfl,hm,hk,kq,R,S,wf,k⟩:=h;refine⟨_,(AE (B_ (D_ (Bu (Pc T) hr (AB (pv 0) (AB (pv 2) AF)))) (AK (Am (BS (AB (Lg T.E9) AF)))) Bc)
  (AE (DJ Qq 5 (Bu (W6 T) hr (AB (Ax Aa (Av (pv 0)) (pv 1)) (AB (pv 4) AF))))
  (AE (DJ Qq 6 (dc (BX K_ (JI T.Cd (pv 5)) Ag) (Av (Ax Aa (pv 5) Ag)) (pv 3)))
  (AE (B_ (BX E7 (CA EY (JI T.Cd (pv 5)) Ag) (pv 6)) (AE (DJ Qq 7 (Bu (Nc T) hr (AB (pv 5) AF)))
    (AE (Fy (Bu (FI T) hr (AB (Ax Aa (Av (pv 0)) (pv 1)) (AB (pv 7) AF))) (Fx (Av (pv 0)) (pv 1) set_list))
    (AK (Am (Bu (Cn T) hr (AB (CA H_ (pv 7) (BS (AB (pv 2) AF))) AF)))))) Bc)
  (AE (B_ (BX Zd (JI T.Cd (Ax Aa (Av (pv 0)) (pv 1))) (Lg T.L_)) (AK (Am (BS (AB (Lg T.HV) AF)))) Bc)
  (AE (C0 (GU PySem.F.plainAttrs_list PySem.F.slot_list_append PySem.F.type_list_append GA (Ax Aa (Av (pv 0)) (pv 1)) (AB (Wx T.ES (Rr T) hr (AB (pv 2) (AB (pv 4) (AB (pv 6) AF)))) AF)))
  (AK (Am (BS (AB Ag AF)))))))))),?_⟩
 have kr:=T.BG;have nC:=kr.no "points" (by simp);have hml:m<L.zp.length:=by rw[S.p];exact hm
 have y9:=wf.p.lp _ (wf.p.pm hm);have nd:=wf.fP hm;rw[nj]at k;refine⟨_,U,_,U,r,x,b,L,U,By _,R,Bj S.c,Bj S.p,Bj S.d,λH0 s0=>⟨_,U,?_⟩⟩;have R0:=R.same s0;have m0:BE H (L.foot r) H0 (L.foot r):=BE.same s0;rw[Bg];cases hw:Vbdeag.waits b x with
 |true=>
  rw[AJ hw]at k;exact F7 ⟨by show 1<=sizeLine;decide,k.one R0 m0⟩
 |false=>
  rw[AI (by rw[hw];decide)]at k;refine GZ ?_;obtain⟨z,hz1,hz2,E2,EA,hz5⟩:=R0.point hml;have zl:z.2.length=(b.point m).length:=by rw[EA,AA]
  have kz:∀y∈z.2,Bh y.2.key:=λy hy=>(wf.p.op _ (wf.p.pm hm) y.2 (by rw[EA];exact AG.mpr ⟨y,hy,U⟩)).k;refine⟨_,U,r,_,L.dx,_,V.ref L.ap,U,R0.obj,kr.cl,nC,U,_,U,L.ap,_,_,_,U,U,A1.of R0.lp,at_of U (BU hz1),_,U,z.1,ka,q,z.2,U,A1.of hz2,by omega,λy hy=>⟨E2 y hy,kz y hy⟩,hk.same s0,kq,λp1 n1=>?_⟩;have eg:(b.point m).filter (λg=>g.key==q)=(z.2.filter λz=>z.2.key==q).map (·.2):=by rw[EA];exact(ED z.2 λg:Vbdeag.Guest=>g.key==q).symm
  have fl:(z.2.filter λz=>z.2.key==q).length<=z.2.length:=BL _ _;have fm:∀y∈z.2.filter λz=>z.2.key==q,y∈z.2:=λy hy=>(A5.mp hy).1;rw[eg]at k;have s1:A7 H0 (upd H0 p1 (.lst (refs (z.2.filter λz=>z.2.key==q)))):=AO n1;have hp1:(upd H0 p1 (.lst (refs (z.2.filter λz=>z.2.key==q)))) p1=some (.lst (refs (z.2.filter λz=>z.2.key==q))):=AD;have aw:∀ids:List Int,ids=((z.2.filter λz=>z.2.key==q).map λz=>(z.2.id:Int))->refs ((CZ (·.id) z.2).filter λz=>!ids.contains z.2)=refs (z.2.filter λz=>!(z.2.key==q)):=λids hi=>oj (·.id) (by rw[<-EA];exact nd) (λg:Vbdeag.Guest=>g.key==q) hi;generalize upd H0 p1 (.lst (refs (z.2.filter λz=>z.2.key==q)))=H1 at s1 hp1⊢;generalize z.2.filter (λz=>z.2.key==q)=gs at k fl fm hp1 aw eg;have R1:=R0.same s1;have m1:=m0.trans (BE.same s1);have nf1:p1∉L.foot r:=R0.Cv n1;have first:gs=[]\/∃g,gs[0]?=some g/\YB n (gs.map (·.2))=g.2.need:=by
   cases gs with
   |nil=>exact .inl U
   |cons g r=>exact .inr ⟨g,U,U⟩
  refine(λ(rest:?G)=>?main) ?rest
  case main=>
   refine⟨_,U,p1,_,U,.inl (A1.of hp1),_,_,U,U,_,U,DL (λh=>?_) λh=>?_⟩
   ·rcases first with e0|⟨g,h0,e⟩
    ·rw[e0]at h;exact absurd h (by decide)
    ·obtain⟨dx,kb,h1,_⟩:=(E2 g (fm _ (AS h0))).same s1;refine⟨_,U,p1,_,_,_,U,U,A1.of hp1,at_of (j:=0) U (BU h0),g.1,_,dx,_,V.int g.2.need,U,h1,T.ES.cl,T.ES.no _ (by simp),U,?_⟩;rw[<-e];exact rest
   ·rcases first with e0|⟨g,h0,e⟩
    ·(have e:YB n (gs.map (·.2))=n:=by rw[e0];rfl);have:=rest;rw[e]at this;exact⟨_,U,this⟩
    ·exfalso;refine h (AM ?_);have:=(AZ.mp h0).1;rw[Al];omega
  case rest=>
   generalize YB n (gs.map (·.2))=need at k;have gl:(gs.map (·.2)).length=gs.length:=AA _;have eI:∀i:Int,decide (V.int (i+1)=V.int (need:Int))=decide (i+1=(need:Int)):=λi=>dI _ _;refine⟨_,U,p1,_,U,.inl (A1.of hp1),_,_,U,U,_,U,U,_,U,DL (λh=>?_) λh=>?_⟩
   ·have h':((refs gs).length:Int)+1=(need:Int):=V.int.inj (AX h);rw[Al]at h';rw[AJ (show(gs.map (·.2)).length+1=need by omega)]at k;refine⟨_,U,p1,CZ (·.id) gs,U,A1.of (by rw[C2];exact hp1),by unfold CZ;rw[AA];omega,λy hy=>?_,λp2 n2=>?_⟩
    ·obtain⟨x,hx,rfl⟩:=C1 hy;exact((E2 x (fm x hx)).same s1).who
    have ei:((CZ (·.id) gs).map λz=>V.int z.2)=(gs.map λz=>(z.2.id:Int)).map V.int:=by
     unfold CZ;rw[An,An];rfl
    rw[ei];have s2:A7 H1 (upd H1 p2 (.lst ((gs.map λz=>(z.2.id:Int)).map V.int))):=AO n2;have hp2:(upd H1 p2 (.lst ((gs.map λz=>(z.2.id:Int)).map V.int))) p2=some (.lst ((gs.map λz=>(z.2.id:Int)).map V.int)):=AD;generalize upd H1 p2 (.lst ((gs.map λz=>(z.2.id:Int)).map V.int))=H2 at s2 hp2⊢;have R2:=R1.same s2;have m2:=m1.trans (BE.same s2);have s12:=s1.trans s2;refine⟨_,U,r,_,L.dx,_,V.ref L.ap,U,R2.obj,kr.cl,nC,U,_,U,L.ap,_,_,_,U,U,A1.of R2.lp,at_of U (BU hz1),_,U,z.1,p2,CZ (·.id) z.2,_,U,A1.of (by rw[C2];exact s12 _ _ hz2),A1.of hp2,by unfold CZ;rw[AA];omega,by rw[AA];omega,λy hy=>?_,λH3 p3 s3 n3 e3=>?_⟩
    ·obtain⟨x,hx,rfl⟩:=C1 hy;exact((E2 x hx).same s12).who
    rw[aw _ U]at e3;have R3:=R2.same s3;obtain⟨R4,m4,S4⟩:=R3.Yg (m2.trans (BE.same s3)) S hml e3 (m2.free n3) (R2.Cv n3) λy hy=>(E2 y (A5.mp hy).1).same (s12.trans s3);refine⟨_,U,r,_,L.dx,_,V.ref L.ap,U,R3.obj,kr.cl,nC,U,_,U,L.ap,_,_,m,U,U,R3.lp,EV (by rw[Al];exact hml),?_⟩;have sN:(L2.upd H3 L.ap (.lst ((refs L.zp).set m (.ref p3)))) p2=some (.lst ((gs.map λz=>(z.2.id:Int)).map V.int)):=by
     rw[Aj λz'=>R1.Cv n2 (by rw[z'];exact cC)];exact s3 _ _ hp2
    have e4:(z.2.filter λz=>!(z.2.key==q)).map (·.2)=(b.point m).filter λg=>g.key !=q:=by
     rw[EA];exact ED z.2 λg=>!(g.key==q)
    rw[e4]at R4;generalize L2.upd H3 L.ap (.lst ((refs L.zp).set m (.ref p3)))=H4 at R4 m4 sN⊢;refine⟨_,U,_,U,by show 1<=sizeLine;decide,λp5 n5=>?_⟩;have s5:A7 H4 (upd H4 p5 (.lst [.int x])):=AO n5;refine⟨p2,p5,_,_,U,U,s5 _ _ sN,AD,by rw[AA,AA];show _+1<=_;omega,λp6 n6=>?_⟩;have s6:=AO (o:=.lst ((gs.map λz=>(z.2.id:Int)).map V.int++[.int x])) n6;(have e6:(gs.map λz=>(z.2.id:Int)).map V.int++[V.int (x:Int)]=((gs.map λz=>(z.2.id:Int))++[(x:Int)]).map V.int:=by rw[As];rfl);rw[e6]at s6⊢;refine⟨p6,_,U,AD,by rw[AL,AA];show _+1<=_;omega,λH7 t s7 nt et=>?_⟩;refine k.fin (R4.same (s5.trans s6)) (m4.trans (BE.same (s5.trans s6))) s7 nt ?_;have en:Vbdeag.ids ((gs.map (·.2)).map (λg=>g.id)++[x])=0::((((gs.map λz=>(z.2.id:Int))++[(x:Int)]).length:Nat):Int)::((gs.map λz=>(z.2.id:Int))++[(x:Int)]):=by
     rw[YA,As,An,An];rfl
    rw[et,<-en];rfl
   ·have hne:¬(gs.map (·.2)).length+1=need:=λq'=>h (AM (by
     show V.int (((refs gs).length:Int)+1)=V.int (need:Int);rw[Al,<-q',gl];rfl))
    rw[AI hne]at k;refine⟨_,U,r,_,L.dx,_,V.ref L.ap,U,R1.obj,kr.cl,nC,U,_,U,L.ap,_,_,_,U,U,A1.of R1.lp,at_of U (BU hz1),z.1,_,U,.inl (A1.of (s1 _ _ hz2)),_,_,U,U,_,U,DL (λh=>?_) λh=>?_⟩
    ·have hcap:1000<=(b.point m).length:=by
      have:=AX h;rw[Al,zl]at this;omega
     rw[AJ (show Vbdeag.CAP<=(b.point m).length from hcap)]at k;exact⟨by show 1<=sizeLine;decide,k.one R1 m1⟩
    ·have hcap:¬1000<=(b.point m).length:=λz'=>h (AM (by rw[Al,zl];omega));rw[AI (show¬Vbdeag.CAP<=(b.point m).length from hcap)]at k;refine⟨_,U,r,_,L.dx,_,V.ref L.ap,U,R1.obj,kr.cl,nC,U,_,U,L.ap,_,_,_,U,U,A1.of R1.lp,at_of U (BU hz1),.inl ⟨U,_,A1.of (s1 _ _ hz2)⟩,_,U,_,U,_,U,λoe dx no Qz nod=>?_⟩;refine⟨oe,dx,x,ka,need,U,AD,U,?_⟩;rw[Cj];have s2:A7 H1 (upd (upd H1 dx (.own oe)) oe (.ins T.JB dx (xF x ka need))):=Qy no Qz;have ho:Hj T (upd (upd H1 dx (.own oe)) oe (.ins T.JB dx (xF x ka need))) oe ⟨x,q,need⟩:=⟨dx,ka,AD,((hk.same s0).same s1).same s2⟩;generalize upd (upd H1 dx (.own oe)) oe (.ins T.JB dx (xF x ka need))=H2 at s2 ho⊢;have R2:=R1.same s2;refine⟨z.1,_,_,U,U,s2 _ _ (s1 _ _ hz2),by rw[Al];omega,?_⟩;refine⟨by show 1<=sizeLine;decide,?_⟩;obtain⟨R3,ff⟩:=R2.rG hz1 ho;exact k.one R3 ((m1.trans (BE.same s2)).set hz5 λa h=>.inl (by rw[ff]at h;exact h))
end
section
variable{P:Program}{w:World}{K:PySem.W.Frag}{mg:Str->Option Value}{base:Heap}
def Px(b:Bool):Int:=if b=true then 1 else 0
theorem uH(a b:Bool):(!decide (V.int (Px a)=V.int (Px b)))=(a !=b):=by
 cases a<;>cases b<;>rfl
inductive W8(T:All w K mg)(vs:List V)(H:Hp)(Q:VK)(E:XK):Prop
 |mk(l ka:Addr)(sd:Bool)(q:Vbdeag.Key)(zs:List (Addr×Vbdeag.Side)):vs=[.ref l,.int (Px sd),.ref ka]->A1 K H l (refs zs)->zs.length<=100000->(∀z∈zs,Hl T H z.1 z.2/\Bh z.2.key)->Dv T H ka q->Bh q->(∀p,H p=none->Q (.ref p) (upd H p (.lst (refs (zs.filter λz=>z.2.key==q&&z.2.right !=sd)))))->W8 T vs H Q E
theorem gU(T:All w K mg):Ok P w base T.N8 1 (W8 T):=by
 refine T.N8.go QK λcdv A outer s H vs Q E hr h Cc=>?_;obtain⟨l,ka,sd,q,zs,rfl,hS,hz,hg,hk,kq,k⟩:=h;refine⟨_,(AK (Am (Fi (own:=[("one",3)]) (tt:=(vI (XJ (L6 uc (RX K (RX K (CD 3) "key") "worth") (RX K (CD 2) "worth"))) (XJ (L6 rNe (RX K (CD 3) "side") (CD 1))))) (te:=(CD 3)) U QK.nd (Bx (pv 0)) (CS (by rfl)) (λ_ _ _ _ _=>BW (i:=3) QK.nd U (Or.inl U)) (λ_ _ _ _ _=>Pq (PW.pt (X0 (BX E7 (Av (Av (pv 3))) (Av (pv 2))) (T3 (BX U3 (Av (pv 3)) (pv 1)))))) (λ_ _ _ _ _=>(pv 3))))),?_⟩;refine⟨_,U,l,U,⟨_,hS⟩,λD hD=>JD hS (by omega) (by show 3<4;decide) hD (λz=>z.2.key==q&&z.2.right !=sd) (λz=>V.ref z.1) (λz hz' H' hs R hR=>?_) (λz hz' _ H' hs R hR=>⟨_,U,hR⟩) ?_⟩
 ·obtain⟨⟨dx,kb,h1,dk,h2⟩,kz⟩:=hg z hz';obtain⟨dq,h3⟩:=hk;refine⟨_,U,z.1,_,dx,_,V.ref kb,U,hs _ _ h1,T.DE.cl,T.DE.no _ (by simp),U,kb,_,dk,_,V.int (worth z.2.key),U,hs _ _ h2,T.Ck.cl,T.Ck.no _ (by simp),U,_,U,ka,_,dq,_,V.int (worth q),U,hs _ _ h3,T.Ck.cl,T.Ck.no _ (by simp),U,U,_,U,?_⟩;rw[dI,<-Uq kz kq];cases he:z.2.key==q with
  |false=>
   rw[he]at hR;exact GZ hR
  |true=>
   rw[he,CL]at hR;refine F7 ⟨_,U,z.1,_,dx,_,V.int (Px z.2.right),U,hs _ _ h1,T.DE.cl,T.DE.no _ (by simp),U,_,U,U,_,U,?_⟩;rw[uH];exact hR
 ·exact k D hD
inductive lD(T:All w K mg)(vs:List V)(H:Hp)(Q:VK)(E:XK):Prop
 |mk(r ka:Addr)(d x N:Nat)(sd:Bool)(q:Vbdeag.Key)(b:Vbdeag.Bank)(L:Lo):vs=[.ref r,.int d,.int x,.int (Px sd),.ref ka]->d<64->Dv T H ka q->Bh q->Ah T H r b L->Co L->Wf b N->Done T H r L (Vbdeag.answered b (Vbdeag.pair b d x sd q)).1 (Vbdeag.answered b (Vbdeag.pair b d x sd q)).2 Q->lD T vs H Q E
theorem uI(T:All w K mg):Ok P w base T.aX 4 (lD T):=by
 refine T.aX.go cA λcdv A outer s H vs Q E hr h Cc=>?_;obtain⟨r,ka,d,x,N,sd,q,b,L,rfl,hm,hk,kq,R,S,wf,k⟩:=h;refine⟨_,(AE (B_ (D_ (Bu (Pc T) hr (AB (pv 0) (AB (pv 2) AF)))) (AK (Am (BS (AB (Lg T.E9) AF)))) Bc)
  (AE (DJ cA 5 (Bu (gU T) hr (AB (Ax Aa (Av (pv 0)) (pv 1)) (AB (pv 3) (AB (pv 4) AF)))))
  (AE (B_ (BX K_ (JI T.Cd (pv 5)) Ag) (AE (DJ cA 6 (Av (Ax Aa (pv 5) Ag)))
    (AE (Fy (Bu (FI T) hr (AB (Ax Aa (Av (pv 0)) (pv 1)) (AB (BS (AB (pv 6) AF)) AF))) (Fx (Av (pv 0)) (pv 1) set_list))
    (AK (Am (Bu (Cn T) hr (AB (BS (AB (pv 6) (AB (pv 2) AF))) AF)))))) Bc)
  (AE (B_ (BX Zd (JI T.Cd (Ax Aa (Av (pv 0)) (pv 1))) (Lg T.L_)) (AK (Am (BS (AB (Lg T.HV) AF)))) Bc)
  (AE (C0 (GU PySem.F.plainAttrs_list PySem.F.slot_list_append PySem.F.type_list_append GA (Ax Aa (Av (pv 0)) (pv 1)) (AB (Wx T.DE (Qs T) hr (AB (pv 2) (AB (pv 4) (AB (pv 3) AF)))) AF)))
  (AK (Am (BS (AB Ag AF))))))))),?_⟩
 have kr:=T.BG;have nC:=kr.no "doors" (by simp);have hml:d<L.zd.length:=by rw[S.d];exact hm
 have y9:=wf.p.ld _ (wf.p.dm hm);unfold Vbdeag.pair at k;refine⟨_,U,_,U,r,x,b,L,U,By _,R,Bj S.c,Bj S.p,Bj S.d,λH0 s0=>⟨_,U,?_⟩⟩;have R0:=R.same s0;have m0:BE H (L.foot r) H0 (L.foot r):=BE.same s0;rw[Bg];cases hw:Vbdeag.waits b x with
 |true=>
  rw[AJ hw]at k;exact F7 ⟨by show 1<=sizeLine;decide,k.one R0 m0⟩
 |false=>
  rw[AI (by rw[hw];decide)]at k;refine GZ ?_;obtain⟨z,hz1,hz2,E2,EA,hz5⟩:=R0.door hml;have zl:z.2.length=(b.door d).length:=by rw[EA,AA]
  have kz:∀y∈z.2,Bh y.2.key:=λy hy=>wf.p.od _ (wf.p.dm hm) y.2 (by rw[EA];exact AG.mpr ⟨y,hy,U⟩);refine⟨_,U,r,_,L.dx,_,V.ref L.ad,U,R0.obj,kr.cl,nC,U,_,U,L.ad,_,_,_,U,U,A1.of R0.ld,at_of U (BU hz1),_,U,_,U,z.1,ka,sd,q,z.2,U,A1.of hz2,by omega,λy hy=>⟨E2 y hy,kz y hy⟩,hk.same s0,kq,λp1 n1=>?_⟩;have eg:(b.door d).filter (λs=>s.key==q&&s.right !=sd)=(z.2.filter λz=>z.2.key==q&&z.2.right !=sd).map (·.2):=by rw[EA];exact(ED z.2 λg:Vbdeag.Side=>g.key==q&&g.right !=sd).symm
  have fl:(z.2.filter λz=>z.2.key==q&&z.2.right !=sd).length<=z.2.length:=BL _ _;have fm:∀y∈z.2.filter λz=>z.2.key==q&&z.2.right !=sd,y∈z.2:=λy hy=>(A5.mp hy).1;have ef:(b.door d).find? (λs=>s.key==q&&s.right !=sd)=((z.2.filter λz=>z.2.key==q&&z.2.right !=sd).map (·.2)).head?:=by rw[<-List.head?_filter,eg]
  rw[ef]at k;have s1:A7 H0 (upd H0 p1 (.lst (refs (z.2.filter λz=>z.2.key==q&&z.2.right !=sd)))):=AO n1;have hp1:(upd H0 p1 (.lst (refs (z.2.filter λz=>z.2.key==q&&z.2.right !=sd)))) p1=some (.lst (refs (z.2.filter λz=>z.2.key==q&&z.2.right !=sd))):=AD;generalize upd H0 p1 (.lst (refs (z.2.filter λz=>z.2.key==q&&z.2.right !=sd)))=H1 at s1 hp1⊢;generalize z.2.filter (λz=>z.2.key==q&&z.2.right !=sd)=gs at k fl fm hp1 eg;have R1:=R0.same s1;have m1:=m0.trans (BE.same s1);refine⟨_,U,p1,_,U,.inl (A1.of hp1),_,_,U,U,_,U,?_⟩;cases gs with
  |cons g gs=>
   refine DL (λh=>?_) λh=>absurd (AM (show(0:Int)<((refs (g::gs)).length:Int)by rw[Al];show(0:Int)<((gs.length+1:Nat):Int);omega)) h;rw[Ay,List.head?_cons]at k;have mg':=fm g (Ac ..);obtain⟨dx,kb,h1,_⟩:=(E2 g mg').same s1;refine⟨_,U,p1,_,_,_,U,U,A1.of hp1,at_of (j:=0) U (BU (z:=g) U),g.1,_,dx,_,V.int g.2.id,U,h1,T.DE.cl,T.DE.no _ (by simp),U,?_⟩;refine⟨_,U,r,_,L.dx,_,V.ref L.ad,U,R1.obj,kr.cl,nC,U,_,U,L.ad,_,_,_,U,U,A1.of R1.ld,at_of U (BU hz1),_,U,by show 1<=sizeLine;decide,λp2 n2=>?_⟩;have s2:A7 H1 (upd H1 p2 (.lst [.int g.2.id])):=AO n2;have s12:=s1.trans s2;have R2:=R1.same s2;have m2:=m1.trans (BE.same s2);refine⟨z.1,p2,CZ (·.id) z.2,[(g.2.id:Int)],U,A1.of (by rw[C2];exact s12 _ _ hz2),A1.of AD,by unfold CZ;rw[AA];omega,by show 1<=100000;decide,λy hy=>?_,λH3 p3 s3 n3 e3=>?_⟩
   ·obtain⟨x,hx,rfl⟩:=C1 hy;exact((E2 x hx).same s12).who
   have wa:=Q0 (λe:Vbdeag.Side=>e.id) z.2 [g.2.id];rw[show([g.2.id].map λn:Nat=>(n:Int))=[(g.2.id:Int)]from rfl]at wa;rw[wa]at e3;have R3:=R2.same s3;obtain⟨R4,m4,S4⟩:=R3.lC (m2.trans (BE.same s3)) S hml e3 (m2.free n3) (R2.Cv n3) λy hy=>(E2 y (A5.mp hy).1).same (s12.trans s3);refine⟨_,U,r,_,L.dx,_,V.ref L.ad,U,R3.obj,kr.cl,nC,U,_,U,L.ad,_,_,d,U,U,R3.ld,EV (by rw[Al];exact hml),?_⟩;have e4:(z.2.filter λy=>![g.2.id].contains y.2.id).map (·.2)=(b.door d).filter λt=>t.id !=g.2.id:=by
    rw[EA,ED z.2 λe:Vbdeag.Side=>![g.2.id].contains e.id];refine CJ λe _=>?_;rw[JF,Vh,Bool.or_false];rfl
   rw[e4]at R4;refine⟨_,U,_,U,by show 2<=sizeLine;decide,λp5 n5=>?_⟩;refine⟨p5,[(g.2.id:Int),(x:Int)],U,AD,by show 2<=100000;decide,λH6 t s6 nt et=>?_⟩;exact k.fin (R4.same (AO n5)) (m4.trans (BE.same (AO n5))) s6 nt (by rw[et];rfl)
  |nil=>
   refine DL (λh=>absurd h (by decide)) λh=>?_;rw[DF,List.head?_nil]at k;refine⟨_,U,r,_,L.dx,_,V.ref L.ad,U,R1.obj,kr.cl,nC,U,_,U,L.ad,_,_,_,U,U,A1.of R1.ld,at_of U (BU hz1),z.1,_,U,.inl (A1.of (s1 _ _ hz2)),_,_,U,U,_,U,DL (λh=>?_) λh=>?_⟩
   ·have hcap:1000<=(b.door d).length:=by
     have:=AX h;rw[Al,zl]at this;omega
    rw[AJ (show Vbdeag.CAP<=(b.door d).length from hcap)]at k;exact⟨by show 1<=sizeLine;decide,k.one R1 m1⟩
   ·have hcap:¬1000<=(b.door d).length:=λz'=>h (AM (by rw[Al,zl];omega));rw[AI (show¬Vbdeag.CAP<=(b.door d).length from hcap)]at k;refine⟨_,U,r,_,L.dx,_,V.ref L.ad,U,R1.obj,kr.cl,nC,U,_,U,L.ad,_,_,_,U,U,A1.of R1.ld,at_of U (BU hz1),.inl ⟨U,_,A1.of (s1 _ _ hz2)⟩,_,U,_,U,_,U,λoe dx no Qz nod=>?_⟩;refine⟨oe,dx,x,ka,Px sd,U,AD,U,?_⟩;rw[Cj];have s2:A7 H1 (upd (upd H1 dx (.own oe)) oe (.ins T.Gg dx (xG x ka (Px sd)))):=Qy no Qz;have ho:Hl T (upd (upd H1 dx (.own oe)) oe (.ins T.Gg dx (xG x ka (Px sd)))) oe ⟨x,q,sd⟩:=⟨dx,ka,AD,((hk.same s0).same s1).same s2⟩;generalize upd (upd H1 dx (.own oe)) oe (.ins T.Gg dx (xG x ka (Px sd)))=H2 at s2 ho⊢;have R2:=R1.same s2;refine⟨z.1,_,_,U,U,s2 _ _ (s1 _ _ hz2),by rw[Al];omega,?_⟩;refine⟨by show 1<=sizeLine;decide,?_⟩;obtain⟨R3,ff⟩:=R2.nh hz1 ho;exact k.one R3 ((m1.trans (BE.same s2)).set hz5 λa h=>.inl (by rw[ff]at h;exact h))
end
theorem Y7{A B B' C:List Addr}(h:(A++(B++C)).Nodup)(hB:B'.Nodup)(hn:∀x∈B',x∉A++(B++C)):(A++(B'++C)).Nodup:=by
 refine B9.mpr λx=>?_;have h1:=B9.mp h x;have h2:=B9.mp hB x;rw[Bs,Bs]at h1⊢;by_cases hx:x∈B'
 ·have h3:(A++(B++C)).count x=0:=UP.mpr (hn x hx);rw[Bs,Bs]at h3;omega
 ·have h3:B'.count x=0:=UP.mpr hx;omega
section
variable{P:Program}{w:World}{K:PySem.W.Frag}{mg:Str->Option Value}{base:Heap}{T:All w K mg}{H:Hp}{r:Addr}{b:Vbdeag.Bank}{L:Lo}
structure UB{α:Type}(L:Lo)(r D:Addr)(ps:List (Addr×α)):Prop where
 d:D∉L.foot r
 p:∀p∈ps,p.1∉L.foot r/\p.1≠D
 nd:(ps.map (·.1)).Nodup
theorem WQ{A B C E1:List Addr}{ac D:Addr}{ps:List Addr}(h:(A++([ac]++(B++(C++E1)))).Nodup)(hD:D∉A++([ac]++(B++(C++E1))))(hp:∀x∈ps,x∉A++([ac]++(B++(C++E1)))/\x≠D)(nd:ps.Nodup):(A++([D]++(B++(ps++E1)))).Nodup:=by
 have h1:(A++([D]++(B++(C++E1)))).Nodup:=Y7 h (DR ..) λx hx=>by rw[Af.mp hx];exact hD
 have e1:A++([D]++(B++(C++E1)))=(A++([D]++B))++(C++E1):=by simp only[Bm]
 have e2:A++([D]++(B++(ps++E1)))=(A++([D]++B))++(ps++E1):=by simp only[Bm]
 rw[e2];refine Y7 (e1▸h1) nd λx hx=>?_;obtain⟨q1,q2⟩:=hp x hx;rw[<-e1];intro hm;rcases AQ.mp hm with hm|hm
 ·exact q1 (CK _ hm)
 ·rcases AQ.mp hm with hm|hm
  ·exact q2 (Af.mp hm)
  ·exact q1 (BD _ (BD _ hm))
theorem Yh(L:Lo)(r:Addr):L.foot r=[r,L.aw]++([L.ac]++([L.ap,L.ad]++(L.zc.map (·.1)++(L.zp.map (·.1)++L.zd.map (·.1))))):=rfl
theorem Yi(L:Lo)(r:Addr):L.foot r=[r,L.aw,L.ac]++([L.ap]++(([L.ad]++L.zc.map (·.1))++(L.zp.map (·.1)++L.zd.map (·.1)))):=by
 unfold Lo.foot;simp
theorem Yj(L:Lo)(r:Addr):L.foot r=[r,L.aw,L.ac,L.ap]++([L.ad]++((L.zc.map (·.1)++L.zp.map (·.1))++(L.zd.map (·.1)++[]))):=by
 unfold Lo.foot;simp
theorem UB.map{α:Type}{D:Addr}{ps:List (Addr×α)}(h:UB L r D ps):∀x∈ps.map (·.1),x∉L.foot r/\x≠D:=λx hx=>by
 obtain⟨p,hp,rfl⟩:=AG.mp hx;exact h.p p hp
theorem Ah.nv{D:Addr}{ps:List (Addr×List (Addr×Vbdeag.Entry))}(R:Ah T H r b L)(hD:H D=some (.lst (refs ps)))(hp:∀p∈ps,H p.1=some (.lst (refs p.2))/\∀y∈p.2,Dg T H y.1 y.2)(n:UB L r D ps):
 Ah T (upd H r (.ins T.Bw L.dx (IG b.word L.aw D L.ap L.ad))) r {b with chains:=ps.map λz=>z.2.map (·.2)} {L with ac:=D,zc:=ps}:=by
 refine R.VA (b':={b with chains:=ps.map λz=>z.2.map (·.2)}) (L':={L with ac:=D,zc:=ps}) R.ww R.lw hD R.lp R.ld hp R.pp R.dd ?_ R.bw U R.bp R.bd U;have h1:=n.d;have h2:=n.map;have h3:=R.nd;rw[Yh L r]at h1 h2 h3;rw[Yh];exact WQ h3 h1 h2 n.nd
theorem Ah.n9{D:Addr}{ps:List (Addr×List (Addr×Vbdeag.Guest))}(R:Ah T H r b L)(hD:H D=some (.lst (refs ps)))(hp:∀p∈ps,H p.1=some (.lst (refs p.2))/\∀y∈p.2,Hj T H y.1 y.2)(n:UB L r D ps):
 Ah T (upd H r (.ins T.Bw L.dx (IG b.word L.aw L.ac D L.ad))) r {b with points:=ps.map λz=>z.2.map (·.2)} {L with ap:=D,zp:=ps}:=by
 refine R.VA (b':={b with points:=ps.map λz=>z.2.map (·.2)}) (L':={L with ap:=D,zp:=ps}) R.ww R.lw R.lc hD R.ld R.cc hp R.dd ?_ R.bw R.bc U R.bd U;have h1:=n.d;have h2:=n.map;have h3:=R.nd;rw[Yi L r]at h1 h2 h3;rw[Yi];exact WQ h3 h1 h2 n.nd
theorem Ah.rH{D:Addr}{ps:List (Addr×List (Addr×Vbdeag.Side))}(R:Ah T H r b L)(hD:H D=some (.lst (refs ps)))(hp:∀p∈ps,H p.1=some (.lst (refs p.2))/\∀y∈p.2,Hl T H y.1 y.2)(n:UB L r D ps):
 Ah T (upd H r (.ins T.Bw L.dx (IG b.word L.aw L.ac L.ap D))) r {b with doors:=ps.map λz=>z.2.map (·.2)} {L with ad:=D,zd:=ps}:=by
 refine R.VA (b':={b with doors:=ps.map λz=>z.2.map (·.2)}) (L':={L with ad:=D,zd:=ps}) R.ww R.lw R.lc R.lp hD R.cc R.pp hp ?_ R.bw R.bc R.bp U rfl;have h1:=n.d;have h2:=n.map;have h3:=R.nd;rw[Yj L r]at h1 h2 h3;rw[Yj];exact WQ h3 h1 h2 n.nd
theorem cF{A B C E1:List Addr}{ac D a:Addr}{ps:List Addr}(h:a∈A++([D]++(B++(ps++E1)))):a∈A++([ac]++(B++(C++E1)))\/a=D\/a∈ps:=by
 rcases AQ.mp h with h|h
 ·exact .inl (CK _ h)
 rcases AQ.mp h with h|h
 ·exact .inr (.inl (Af.mp h))
 rcases AQ.mp h with h|h
 ·exact .inl (BD _ (BD _ (CK _ h)))
 rcases AQ.mp h with h|h
 ·exact .inr (.inr h)
 ·exact .inl (BD _ (BD _ (BD _ (BD _ h))))
theorem gW{D a:Addr}{ps:List (Addr×List (Addr×Vbdeag.Entry))}(h:a∈({L with ac:=D,zc:=ps}:Lo).foot r):a∈L.foot r\/a=D\/a∈ps.map (·.1):=by
 rw[Yh]at h⊢;exact cF h
theorem gX{D a:Addr}{ps:List (Addr×List (Addr×Vbdeag.Guest))}(h:a∈({L with ap:=D,zp:=ps}:Lo).foot r):a∈L.foot r\/a=D\/a∈ps.map (·.1):=by
 rw[Yi]at h⊢;exact cF h
theorem jU{D a:Addr}{ps:List (Addr×List (Addr×Vbdeag.Side))}(h:a∈({L with ad:=D,zd:=ps}:Lo).foot r):a∈L.foot r\/a=D\/a∈ps.map (·.1):=by
 rw[Yj]at h⊢;exact cF h
theorem fR{α:Type}(f:α->Nat)(zs:List (Addr×α))(x:Nat):refs ((CZ f zs).filter λz=>![(x:Int)].contains z.2)=refs (zs.filter λy=>f y.2!=x):=by
 have h:=Q0 f zs [x];rw[show([x].map λn:Nat=>(n:Int))=[(x:Int)]from rfl]at h;rw[h]
 congr 1
 refine CJ λe _=>?_;rw[JF,Vh,Bool.or_false];rfl
theorem cG{α:Type}(f:α->Nat){a D:Addr}{zs:List (Addr×List (Addr×α))}{i x:Nat}{σ:L2.St}{H1:Hp}{Qd:Hp->Prop}(hS:A1 K H1 a (refs zs))(hz:zs.length<=1000)
 (r_:∀z∈zs,H1 z.1=some (.lst (refs z.2))/\z.2.length<=1000/\∀y∈z.2,Jh K H1 y.1 (f y.2)) (hi:i<σ.length) (h1:i≠1) (hx:σ[1]?=some (some (.int x))) (hD:H1 D=none)
 (hq:∀(H':Hp)(ps:List (Addr×List (Addr×α))),A7 H1 H'->H' D=some (.lst (refs ps))->ps.map (·.2)=zs.map (λz=>z.2.filter λy=>f y.2!=x)->(∀p∈ps,H' p.1=some (.lst (refs p.2))/\H1 p.1=none/\p.1≠D)->(ps.map (·.1)).Nodup->Qd H'):
 ∃W:Nat->Nat->Hp->Prop,(∃m,W 0 m (upd H1 D (.lst [])))/\∀j m H,W j m H->
  ((ON K a).stop j H/\Qd H)\/((ON K a).go j H/\∃Nx:Hp->Prop,(∀H',Nx H'->∃m',m'<m/\W (j+1) m' H')/\∀x H',(ON K a).Vk j H x H'->KU i x (wipe σ [i]) H' λσ2 H2=>wipe σ2 [i]=wipe σ [i]/\GY σ2 H2 λb H3=>
    if b=true then(LA (Jj T) [] E0 (CM (CD i) (CM (XS (CM (CD 1) C_)) C_))) σ2 H3 λy H4=>∃acc,H4 D=some (.lst acc)/\acc.length<sizeLine/\Nx (upd H4 D (.lst (acc++[y])))else Nx H3):=by
 have Cc:sizeLine=16777216:=D7;refine XX (xs:=refs zs) (Qd:=Qd) (λj H=>∃ps:List (Addr×List (Addr×α)),A7 H1 H/\H D=some (.lst (refs ps))/\ps.map (·.2)=(zs.take j).map (λz=>z.2.filter λy=>f y.2!=x)/\(∀p∈ps,H p.1=some (.lst (refs p.2))/\H1 p.1=none/\p.1≠D)/\(ps.map (·.1)).Nodup)
  ⟨[],AO hD,AD,U,λ_ q=>absurd q Aq,DA⟩ (λj H _ ⟨ps,e,_⟩=>e.seq hS) (λj v H hv ⟨ps,e,d,em,ep,nd⟩=>?_) λH ⟨ps,e,d,em,ep,nd⟩=>?_
 ·obtain⟨z,hz1,rfl⟩:=Ex hv;have mem:=AS hz1;obtain⟨r1,r2,r3⟩:=r_ z mem;show wipe ((wipe σ [i]).set i (some (V.ref z.1))) [i]=wipe σ [i]/\_;have ew:wipe σ [i]=σ.set i none:=rfl;rw[ew];refine⟨?_,?_⟩
  ·show((σ.set i none).set i (some (V.ref z.1))).set i none=σ.set i none;rw[DZ,DZ]
  ·unfold GY;dsimp only;rw[AJ U];refine⟨V.ref z.1,by rw[DZ,Cz hi],V.int x,by rw[DZ,EB h1];exact hx,by show 1<=sizeLine;decide,λq nq=>?_⟩;have sq:A7 H (upd H q (.lst [.int x])):=AO nq;refine⟨z.1,q,CZ f z.2,[(x:Int)],U,A1.of (by rw[C2];exact sq _ _ (e _ _ r1)),A1.of AD,by unfold CZ;rw[AA];omega,by show 1<=100000;decide,λy hy=>?_,λH' p s np uW=>?_⟩
   ·obtain⟨u,hu,rfl⟩:=C1 hy;exact((r3 u hu).same e).same sq
   rw[fR]at uW;have hd':H' D=some (.lst (refs ps)):=s _ _ (sq _ _ d);have pZ:p≠D:=λz'=>by
    rw[z',sq _ _ d]at np;cases np
   have psl:ps.length<=1000:=by
    have:=B5 List.length em;rw[AA,AA,Bb]at this;omega
   have npH:H p=none:=sq.free np;refine⟨refs ps,hd',by rw[Al];omega,ps++[(p,z.2.filter λy=>f y.2!=x)],A7.own ((e.trans sq).trans s) hD,?_,?_,λu hu=>?_,?_⟩
   ·rw[AD,Dr];rfl
   ·rw[As,em,take_snoc hz1,As];rfl
   ·rcases AQ.mp hu with hu|hu
    ·obtain⟨u1,u2,u3⟩:=ep u hu;exact⟨by rw[Aj u3];exact s _ _ (sq _ _ u1),u2,u3⟩
    ·rw[Af.mp hu];exact⟨by rw[Aj pZ];exact uW,e.free npH,pZ⟩
   ·rw[As];refine Bo.mpr ⟨nd,DR ..,λu hu v hv=>?_⟩;obtain⟨t,ht,rfl⟩:=AG.mp hu;have hv:v=p:=Af.mp hv;rw[hv];intro z';have:=(ep t ht).1;rw[z',npH]at this;cases this
 ·rw[Al,BR]at em;exact hq H ps e d em ep nd
end
section
variable{P:Program}{w:World}{K:PySem.W.Frag}{mg:Str->Option Value}{base:Heap}
theorem QV{α:Type}(f:α->Nat)(x:Nat){ps zs:List (Addr×List (Addr×α))}(h:ps.map (·.2)=zs.map λz=>z.2.filter λy=>f y.2!=x):(ps.map λz=>z.2.map (·.2))=(zs.map λz=>z.2.map (·.2)).map λl=>l.filter λe=>f e !=x:=by
 have e:(ps.map λz=>z.2.map (·.2))=(ps.map (·.2)).map λl=>l.map (·.2):=by rw[An];rfl
 rw[e,h,An,An];refine Di λz _=>?_;exact ED z.2 λe=>f e !=x
theorem Ah.jV{T:All w K mg}{H:Hp}{r:Addr}{b:Vbdeag.Bank}{L:Lo}(R:Ah T H r b L)(h:∀l∈b.chains,l.length<=1000):∀z∈L.zc,H z.1=some (.lst (refs z.2))/\z.2.length<=1000/\∀y∈z.2,Jh K H y.1 (y.2.id:Nat):=λz hz=>by
 refine⟨(R.cc z hz).1,?_,λy hy=>((R.cc z hz).2 y hy).who⟩;have:=h (z.2.map (·.2)) (by rw[R.bc];exact AG.mpr ⟨z,hz,U⟩);rw[AA]at this;exact this
theorem Ah.gY{T:All w K mg}{H0 H H':Hp}{F:List Addr}{r D:Addr}{b:Vbdeag.Bank}{L:Lo}{x:Nat}{ps:List (Addr×List (Addr×Vbdeag.Entry))}(R:Ah T H r b L)(m:BE H0 F H (L.foot r))(s:A7 H H')(hD:H D=none)(d:H' D=some (.lst (refs ps)))(em:ps.map (·.2)=L.zc.map (λz=>z.2.filter λy=>y.2.id !=x))(ep:∀p∈ps,H' p.1=some (.lst (refs p.2))/\H p.1=none/\p.1≠D)(nd:(ps.map (·.1)).Nodup):
 Ah T (upd H' r (.ins T.Bw L.dx (IG b.word L.aw D L.ap L.ad))) r {b with chains:=b.chains.map λl=>l.filter λe=>e.id !=x} {L with ac:=D,zc:=ps}/\BE H0 F (upd H' r (.ins T.Bw L.dx (IG b.word L.aw D L.ap L.ad))) (({L with ac:=D,zc:=ps}:Lo).foot r):=by
 have R':=R.same s;have R2:=R'.nv d (λp hp=>⟨(ep p hp).1,λy hy=>by
  have:p.2∈ps.map (·.2):=AG.mpr ⟨p,hp,U⟩;rw[em]at this;obtain⟨z,hz,e⟩:=AG.mp this;rw[<-e]at hy;exact(R'.cc z hz).2 y (A5.mp hy).1⟩) ⟨R.Cv hD,λp hp=>⟨R.Cv (ep p hp).2.1,(ep p hp).2.2⟩,nd⟩
 rw[QV (λe:Vbdeag.Entry=>e.id) x em,<-R.bc]at R2;refine⟨R2,(m.trans (BE.same s)).set ME λa h=>?_⟩;rcases gW h with h|rfl|h
 ·exact .inl h
 ·exact .inr (m.free hD)
 ·obtain⟨p,hp,rfl⟩:=AG.mp h;exact .inr (m.free (ep p hp).2.1)
theorem Ah.jW{T:All w K mg}{H:Hp}{r:Addr}{b:Vbdeag.Bank}{L:Lo}(R:Ah T H r b L)(h:∀l∈b.points,l.length<=1000):∀z∈L.zp,H z.1=some (.lst (refs z.2))/\z.2.length<=1000/\∀y∈z.2,Jh K H y.1 (y.2.id:Nat):=λz hz=>by
 refine⟨(R.pp z hz).1,?_,λy hy=>((R.pp z hz).2 y hy).who⟩;have:=h (z.2.map (·.2)) (by rw[R.bp];exact AG.mpr ⟨z,hz,U⟩);rw[AA]at this;exact this
theorem Ah.gZ{T:All w K mg}{H0 H H':Hp}{F:List Addr}{r D:Addr}{b:Vbdeag.Bank}{L:Lo}{x:Nat}{ps:List (Addr×List (Addr×Vbdeag.Guest))}(R:Ah T H r b L)(m:BE H0 F H (L.foot r))(s:A7 H H')(hD:H D=none)(d:H' D=some (.lst (refs ps)))(em:ps.map (·.2)=L.zp.map (λz=>z.2.filter λy=>y.2.id !=x))(ep:∀p∈ps,H' p.1=some (.lst (refs p.2))/\H p.1=none/\p.1≠D)(nd:(ps.map (·.1)).Nodup):
 Ah T (upd H' r (.ins T.Bw L.dx (IG b.word L.aw L.ac D L.ad))) r {b with points:=b.points.map λl=>l.filter λe=>e.id !=x} {L with ap:=D,zp:=ps}/\BE H0 F (upd H' r (.ins T.Bw L.dx (IG b.word L.aw L.ac D L.ad))) (({L with ap:=D,zp:=ps}:Lo).foot r):=by
 have R':=R.same s;have R2:=R'.n9 d (λp hp=>⟨(ep p hp).1,λy hy=>by
  have:p.2∈ps.map (·.2):=AG.mpr ⟨p,hp,U⟩;rw[em]at this;obtain⟨z,hz,e⟩:=AG.mp this;rw[<-e]at hy;exact(R'.pp z hz).2 y (A5.mp hy).1⟩) ⟨R.Cv hD,λp hp=>⟨R.Cv (ep p hp).2.1,(ep p hp).2.2⟩,nd⟩
 rw[QV (λe:Vbdeag.Guest=>e.id) x em,<-R.bp]at R2;refine⟨R2,(m.trans (BE.same s)).set ME λa h=>?_⟩;rcases gX h with h|rfl|h
 ·exact .inl h
 ·exact .inr (m.free hD)
 ·obtain⟨p,hp,rfl⟩:=AG.mp h;exact .inr (m.free (ep p hp).2.1)
theorem Ah.n_{T:All w K mg}{H:Hp}{r:Addr}{b:Vbdeag.Bank}{L:Lo}(R:Ah T H r b L)(h:∀l∈b.doors,l.length<=1000):∀z∈L.zd,H z.1=some (.lst (refs z.2))/\z.2.length<=1000/\∀y∈z.2,Jh K H y.1 (y.2.id:Nat):=λz hz=>by
 refine⟨(R.dd z hz).1,?_,λy hy=>((R.dd z hz).2 y hy).who⟩;have:=h (z.2.map (·.2)) (by rw[R.bd];exact AG.mpr ⟨z,hz,U⟩);rw[AA]at this;exact this
theorem Ah.jX{T:All w K mg}{H0 H H':Hp}{F:List Addr}{r D:Addr}{b:Vbdeag.Bank}{L:Lo}{x:Nat}{ps:List (Addr×List (Addr×Vbdeag.Side))}(R:Ah T H r b L)(m:BE H0 F H (L.foot r))(s:A7 H H')(hD:H D=none)(d:H' D=some (.lst (refs ps)))(em:ps.map (·.2)=L.zd.map (λz=>z.2.filter λy=>y.2.id !=x))(ep:∀p∈ps,H' p.1=some (.lst (refs p.2))/\H p.1=none/\p.1≠D)(nd:(ps.map (·.1)).Nodup):
 Ah T (upd H' r (.ins T.Bw L.dx (IG b.word L.aw L.ac L.ap D))) r {b with doors:=b.doors.map λl=>l.filter λe=>e.id !=x} {L with ad:=D,zd:=ps}/\BE H0 F (upd H' r (.ins T.Bw L.dx (IG b.word L.aw L.ac L.ap D))) (({L with ad:=D,zd:=ps}:Lo).foot r):=by
 have R':=R.same s;have R2:=R'.rH d (λp hp=>⟨(ep p hp).1,λy hy=>by
  have:p.2∈ps.map (·.2):=AG.mpr ⟨p,hp,U⟩;rw[em]at this;obtain⟨z,hz,e⟩:=AG.mp this;rw[<-e]at hy;exact(R'.dd z hz).2 y (A5.mp hy).1⟩) ⟨R.Cv hD,λp hp=>⟨R.Cv (ep p hp).2.1,(ep p hp).2.2⟩,nd⟩
 rw[QV (λe:Vbdeag.Side=>e.id) x em,<-R.bd]at R2;refine⟨R2,(m.trans (BE.same s)).set ME λa h=>?_⟩;rcases jU h with h|rfl|h
 ·exact .inl h
 ·exact .inr (m.free hD)
 ·obtain⟨p,hp,rfl⟩:=AG.mp h;exact .inr (m.free (ep p hp).2.1)
inductive fS(T:All w K mg)(vs:List V)(H:Hp)(Q:VK)(E:XK):Prop
 |mk(r:Addr)(x N:Nat)(b:Vbdeag.Bank)(L:Lo):vs=[.ref r,.int x]->Ah T H r b L->Co L->Wf b N->Done T H r L (Vbdeag.answered b (Vbdeag.leave b x)).1 (Vbdeag.answered b (Vbdeag.leave b x)).2 Q->fS T vs H Q E
theorem rJ(T:All w K mg):Ok P w base T.Xe 4 (fS T):=by
 refine T.Xe.go Le λcdv A outer s H vs Q E hr h Cc=>?_;obtain⟨r,x,N,b,L,rfl,R,S,wf,k⟩:=h;refine⟨_,(AE (B_ (Hz (D_ (Bu (Pc T) hr (AB (pv 0) (AB (pv 1) AF))))) (AK (Am (BS (AB (Lg T.J8) AF)))) Bc)
  (AE (Cp (pv 0) (Bu (FI T) hr (AB (Av (pv 0)) (AB (BS (AB (pv 1) AF)) AF))) U)
  (AE (Cp (pv 0) (Fi (own:=[("chain",2)]) (tt:=GY) (te:=(LA (Jj T) [] E0 (CM (CD 2) (CM (XS (CM (CD 1) C_)) C_)))) U Le.nd (Bx (Av (pv 0))) (CS (by rfl)) (λ_ _ _ _ _=>BW (i:=2) Le.nd U (Or.inl U)) (λ_ _ _ _ _=>Dt) (λ_ _ _ _ _=>(Bu (FI T) hr (AB (pv 2) (AB (BS (AB (pv 1) AF)) AF))))) U)
  (AE (Cp (pv 0) (Fi (own:=[("guests",3)]) (tt:=GY) (te:=(LA (Jj T) [] E0 (CM (CD 3) (CM (XS (CM (CD 1) C_)) C_)))) U Le.nd (Bx (Av (pv 0))) (CS (by rfl)) (λ_ _ _ _ _=>BW (i:=3) Le.nd U (Or.inl U)) (λ_ _ _ _ _=>Dt) (λ_ _ _ _ _=>(Bu (FI T) hr (AB (pv 3) (AB (BS (AB (pv 1) AF)) AF))))) U)
  (AE (Cp (pv 0) (Fi (own:=[("callers",4)]) (tt:=GY) (te:=(LA (Jj T) [] E0 (CM (CD 4) (CM (XS (CM (CD 1) C_)) C_)))) U Le.nd (Bx (Av (pv 0))) (CS (by rfl)) (λ_ _ _ _ _=>BW (i:=4) Le.nd U (Or.inl U)) (λ_ _ _ _ _=>Dt) (λ_ _ _ _ _=>(Bu (FI T) hr (AB (pv 4) (AB (BS (AB (pv 1) AF)) AF))))) U)
  (AK (Am (Bu (Cn T) hr (AB (BS AF) AF))))))))),?_⟩
 have kr:=T.BG;have nW:=kr.no "watchers" (by simp);have nC:=kr.no "chains" (by simp);have nP:=kr.no "points" (by simp);have nD:=kr.no "doors" (by simp);unfold Vbdeag.leave at k;refine⟨_,U,_,U,r,x,b,L,U,By _,R,Bj S.c,Bj S.p,Bj S.d,λH0 s0=>⟨_,U,?_⟩⟩;have R0:=R.same s0;have m0:BE H (L.foot r) H0 (L.foot r):=BE.same s0;rw[Bg];cases hw:Vbdeag.waits b x with
 |false=>
  rw[AJ hw]at k;exact F7 ⟨by show 1<=sizeLine;decide,k.one R0 m0⟩
 |true=>
  rw[AI (by rw[hw];decide)]at k;refine GZ ?_;have zwl:L.zw.length=b.watches.length:=by rw[R.bw,AA]
  have lw:=wf.p.lw;refine⟨_,U,r,_,L.dx,_,V.ref L.aw,U,R0.obj,kr.cl,nW,U,_,U,by show 1<=sizeLine;decide,λp1 n1=>?_⟩;have s1:A7 H0 (upd H0 p1 (.lst [.int x])):=AO n1;have R1:=R0.same s1;refine⟨L.aw,p1,CZ (·.id) L.zw,[(x:Int)],U,A1.of (by rw[C2];exact R1.lw),A1.of AD,by unfold CZ;rw[AA];omega,by show 1<=100000;decide,λy hy=>?_,λH2 p2 s2 n2 e2=>?_⟩
  ·obtain⟨u,hu,rfl⟩:=C1 hy;exact(R1.ww u hu).who
  rw[fR]at e2;have R2:=R1.same s2;have m2:=(m0.trans (BE.same s1)).trans (BE.same s2);refine⟨_,U,r,_,L.dx,_,U,R2.obj,kr.cl,nW,(show(5:Nat)<1000 by decide),?_⟩;rw[show EO (Str.ofString "watchers") (V.ref p2) (IG b.word L.aw L.ac L.ap L.ad)=IG b.word p2 L.ac L.ap L.ad from rfl];have R3:=R2.Tt e2 (R1.Cv n2) λz hz=>R2.ww z (A5.mp hz).1;have ew:(L.zw.filter λy=>y.2.id !=x).map (·.2)=b.watches.filter λw=>w.id !=x:=by rw[R.bw];exact ED L.zw λw:Vbdeag.Watch=>w.id !=x
  rw[ew]at R3;have m3:BE H (L.foot r) (upd H2 r (.ins T.Bw L.dx (IG b.word p2 L.ac L.ap L.ad))) (({L with aw:=p2,zw:=L.zw.filter λy=>y.2.id !=x}:Lo).foot r):=m2.set ME λa h=>by
   unfold Lo.foot at h⊢;rcases AN.mp h with h|h
   ·exact .inl (by rw[h];exact Ac ..)
   ·rcases AN.mp h with h|h
    ·exact .inr (by rw[h];exact(m0.trans (BE.same s1)).free n2)
    ·exact .inl (AV _ (AV _ h))
  have S3:Co ({L with aw:=p2,zw:=L.zw.filter λy=>y.2.id !=x}:Lo):=⟨S.c,S.p,S.d⟩;generalize ({L with aw:=p2,zw:=L.zw.filter λy=>y.2.id !=x}:Lo)=L3 at R3 m3 S3;generalize upd H2 r (.ins T.Bw L.dx (IG b.word p2 L.ac L.ap L.ad))=H3 at R3 m3⊢;refine⟨_,U,r,_,L3.dx,_,V.ref L3.ac,U,R3.obj,kr.cl,nC,U,L3.ac,U,⟨_,A1.of R3.lc⟩,λD4 n4=>?_⟩;refine cG (λe:Vbdeag.Entry=>e.id) (A1.of R3.lc) (by rw[S3.c];decide) (R3.jV wf.p.lc) (by show 2<5;decide) (by decide) U n4 λH4 Zj s4 d4 em4 yx nd4=>?_;obtain⟨R5,m5⟩:=R3.gY m3 s4 n4 d4 em4 yx nd4;have R4:=R3.same s4;refine⟨_,U,r,_,L3.dx,_,U,R4.obj,kr.cl,nC,(show(5:Nat)<1000 by decide),?_⟩;rw[show∀wd:Int,EO (Str.ofString "chains") (V.ref D4) (IG wd L3.aw L3.ac L3.ap L3.ad)=IG wd L3.aw D4 L3.ap L3.ad fromλ_=>rfl];have S5:Co ({L3 with ac:=D4,zc:=Zj}:Lo):=⟨by have:=B5 List.length em4;rw[AA,AA]at this;show Zj.length=64;rw[this];exact S3.c,S3.p,S3.d⟩;generalize ({L3 with ac:=D4,zc:=Zj}:Lo)=L5 at R5 m5 S5;dsimp only at R5 m5⊢;generalize upd H4 r (.ins T.Bw L3.dx (IG b.word L3.aw D4 L3.ap L3.ad))=H5 at R5 m5⊢;refine⟨_,U,r,_,L5.dx,_,V.ref L5.ap,U,R5.obj,kr.cl,nP,U,L5.ap,U,⟨_,A1.of R5.lp⟩,λD6 n6=>?_⟩;refine cG (λe:Vbdeag.Guest=>e.id) (A1.of R5.lp) (by rw[S5.p];decide) (R5.jW wf.p.lp) (by show 3<5;decide) (by decide) U n6 λH6 dJ s6 d6 em6 ep6 nd6=>?_;obtain⟨R7,m7⟩:=R5.gZ m5 s6 n6 d6 em6 ep6 nd6;have R6:=R5.same s6;refine⟨_,U,r,_,L5.dx,_,U,R6.obj,kr.cl,nP,(show(5:Nat)<1000 by decide),?_⟩;rw[show∀wd:Int,EO (Str.ofString "points") (V.ref D6) (IG wd L5.aw L5.ac L5.ap L5.ad)=IG wd L5.aw L5.ac D6 L5.ad fromλ_=>rfl];have S7:Co ({L5 with ap:=D6,zp:=dJ}:Lo):=⟨S5.c,by have:=B5 List.length em6;rw[AA,AA]at this;show dJ.length=64;rw[this];exact S5.p,S5.d⟩;generalize ({L5 with ap:=D6,zp:=dJ}:Lo)=L7 at R7 m7 S7;dsimp only at R7 m7⊢;generalize upd H6 r (.ins T.Bw L5.dx (IG b.word L5.aw L5.ac D6 L5.ad))=H7 at R7 m7⊢;refine⟨_,U,r,_,L7.dx,_,V.ref L7.ad,U,R7.obj,kr.cl,nD,U,L7.ad,U,⟨_,A1.of R7.ld⟩,λD8 n8=>?_⟩;refine cG (λe:Vbdeag.Side=>e.id) (A1.of R7.ld) (by rw[S7.d];decide) (R7.n_ wf.p.ld) (by show 4<5;decide) (by decide) U n8 λH8 lE s8 d8 em8 ep8 nd8=>?_;obtain⟨R9,m9⟩:=R7.jX m7 s8 n8 d8 em8 ep8 nd8;have R8:=R7.same s8;refine⟨_,U,r,_,L7.dx,_,U,R8.obj,kr.cl,nD,(show(5:Nat)<1000 by decide),?_⟩;rw[show∀wd:Int,EO (Str.ofString "doors") (V.ref D8) (IG wd L7.aw L7.ac L7.ap L7.ad)=IG wd L7.aw L7.ac L7.ap D8 fromλ_=>rfl];exact k.none R9 m9
end
section
variable{P:Program}{w:World}{K:PySem.W.Frag}{mg:Str->Option Value}{base:Heap}
structure Xs(H1 H:Hp)(D:Addr)(ps:List Addr):Prop where
 s:A7 H1 H
 d:H D=some (.lst (ps.map V.ref))
 p:∀p∈ps,H p=some (.lst [])/\H1 p=none/\p≠D
 nd:ps.Nodup
theorem Yk{i n:Nat}{σ:L2.St}{H1:Hp}{D:Addr}{Qd:Hp->Prop}(hn:n<=1000)(hD:H1 D=none)(hq:∀H ps,Xs H1 H D ps->ps.length=n->Qd H):
 ∃W:Nat->Nat->Hp->Prop,(∃m,W 0 m (upd H1 D (.lst [])))/\∀j m H,W j m H->
  ((dg 0 n).stop j H/\Qd H)\/((dg 0 n).go j H/\∃Nx:Hp->Prop,(∀H',Nx H'->∃m',m'<m/\W (j+1) m' H')/\∀x H',(dg 0 n).Vk j H x H'->KU i x (wipe σ [i]) H' λσ2 H2=>wipe σ2 [i]=wipe σ [i]/\GY σ2 H2 λb H3=>
    if b=true then(XS C_) σ2 H3 λy H4=>∃acc,H4 D=some (.lst acc)/\acc.length<sizeLine/\Nx (upd H4 D (.lst (acc++[y])))else Nx H3):=by
 have Cc:sizeLine=16777216:=D7;refine qQ (Qd:=Qd) (λj H=>∃ps,Xs H1 H D ps/\ps.length=j) ⟨[],⟨AO hD,AD,λ_ q=>absurd q Aq,DA⟩,U⟩ (λj H hj ⟨ps,e,el⟩=>?_) λH ⟨ps,e,el⟩=>hq H ps e el;show wipe ((wipe σ [i]).set i (some (V.int (0+(j:Int))))) [i]=wipe σ [i]/\_;have ew:wipe σ [i]=σ.set i none:=rfl;rw[ew];refine⟨?_,?_⟩
 ·show((σ.set i none).set i _).set i none=σ.set i none;rw[DZ,DZ]
 ·unfold GY;dsimp only;rw[AJ U];refine⟨AY _,λq nq=>?_⟩;have sq:A7 H (upd H q (.lst [])):=AO nq;have qD:q≠D:=λz=>by rw[z,e.d]at nq;cases nq
  refine⟨ps.map V.ref,sq _ _ e.d,by rw[AA];omega,ps++[q],⟨A7.own (e.s.trans sq) hD,by rw[AD,As];rfl,λp hp=>?_,?_⟩,by rw[AL,el];rfl⟩
  ·rcases AQ.mp hp with hp|hp
   ·obtain⟨u1,u2,u3⟩:=e.p p hp;exact⟨by rw[Aj u3];exact sq _ _ u1,u2,u3⟩
   ·rw[Af.mp hp];exact⟨by rw[Aj qD];exact AD,e.s.free nq,qD⟩
  ·refine Bo.mpr ⟨e.nd,DR ..,λu hu v hv=>?_⟩;have hv:v=q:=Af.mp hv;rw[hv];intro z';have:=(e.p u hu).1;rw[z',nq]at this;cases this
def CG(α:Type)(ps:List Addr):List (Addr×List (Addr×α)):=ps.map λa=>(a,[])
theorem Lv(α:Type)(ps:List Addr):refs (CG α ps)=ps.map V.ref:=by
 unfold refs CG;rw[An];rfl
theorem GW(α:Type)(ps:List Addr):(CG α ps).map (·.1)=ps:=by
 unfold CG;rw[An];exact List.map_id ps
theorem NI(α β:Type)(g:α->β)(ps:List Addr)(n:Nat)(h:ps.length=n):((CG α ps).map λz=>z.2.map λy=>g y.2)=List.replicate n []:=by
 unfold CG;rw[An];subst h
 induction ps with
 |nil=>rfl
 |cons a r ih=>rw[Ay,ih,Ab,List.replicate_succ];rfl
theorem bP{A B:List Addr}(hA:A.Nodup)(hB:B.Nodup)(h:∀a∈A,a∉B):(A++B).Nodup:=Bo.mpr ⟨hA,hB,λa ha b hb e=>h a ha (e▸hb)⟩
theorem Xs.all{H1 H:Hp}{D:Addr}{ps:List Addr}(e:Xs H1 H D ps)(hD:H1 D=none):(D::ps).Nodup/\(∀a∈D::ps,H1 a=none)/\∀a∈D::ps,∃o,H a=some o:=
 ⟨BQ.mpr ⟨λh=>(e.p D h).2.2 rfl,e.nd⟩,λa h=>(AN.mp h).elim (λz=>z▸hD) λz=>(e.p a z).2.1,λa h=>(AN.mp h).elim (λz=>z▸⟨_,e.d⟩) λz=>⟨_,(e.p a z).1⟩⟩
theorem uJ{p aw D4 D6 D8:Addr}{l m n:List Addr}(h:([p]++([aw]++((D4::l)++((D6::m)++(D8::n))))).Nodup):(p::aw::D4::D6::D8::(l++(m++n))).Nodup:=by
 refine B9.mpr λx=>?_;have:=B9.mp h x;simp only[Bs,Dj,Ft]at this⊢;omega
inductive Ry(T:All w K mg)(vs:List V)(H:Hp)(Q:VK)(E:XK):Prop
 |mk(p dx:Addr):vs=[.ref p]->H p=some (.ins T.Bw dx [])->(∀(H':Hp)(L:Lo),Ah T H' p Vbdeag.start L->Co L->(∀a o,H a=some o->a≠p->H' a=some o)->(∀a∈L.foot p,a=p\/H a=none)->Q .DX H')->Ry T vs H Q E
theorem Rz(T:All w K mg):HU P w K mg base T5 1 T.Um T.Qo ["self"] (Ry T):=by
 refine T.BG.fn.ok FO (λvs H Q E h=>?_) (λcdv A outer s H vs Q E hr h=>?_)
 ·obtain⟨p,dx,rfl,_⟩:=h;rfl
 ·obtain⟨p,dx,rfl,hp,k⟩:=h;refine⟨_,(AE (Cp (pv 0) Ag U)
   (AE (Cp (pv 0) (BS AF) U)
   (AE (Cp (pv 0) (Fi (own:=[("number",1)]) (tt:=GY) (te:=(XS C_)) U FO.nd (Na U T.MA (AB (Lg T.PZ) AF)) (CS (by rfl)) (λ_ _ _ _ _=>BW (i:=1) FO.nd U (Or.inl U)) (λ_ _ _ _ _=>Dt) (λ_ _ _ _ _=>(BS AF))) U)
   (AE (Cp (pv 0) (Fi (own:=[("number",1)]) (tt:=GY) (te:=(XS C_)) U FO.nd (Na U T.MA (AB (Lg T.PZ) AF)) (CS (by rfl)) (λ_ _ _ _ _=>BW (i:=1) FO.nd U (Or.inl U)) (λ_ _ _ _ _=>Dt) (λ_ _ _ _ _=>(BS AF))) U)
   (AK (Cp (pv 0) (Fi (own:=[("number",1)]) (tt:=GY) (te:=(XS C_)) U FO.nd (Na U T.MA (AB (Lg T.PZ) AF)) (CS (by rfl)) (λ_ _ _ _ _=>BW (i:=1) FO.nd U (Or.inl U)) (λ_ _ _ _ _=>Dt) (λ_ _ _ _ _=>(BS AF))) U)))))),?_⟩
  have kr:=T.BG;refine⟨_,U,p,_,dx,_,U,hp,kr.cl,kr.no _ (by simp),(show(0:Nat)<1000 by decide),?_⟩;refine⟨AY _,λaw y_=>?_⟩;have oA:aw≠p:=λz=>by rw[z,AD]at y_;cases y_
  refine⟨_,U,p,_,dx,EO (Str.ofString "word") (.int 0) [],U,by rw[Aj (CI oA),AD],kr.cl,kr.no _ (by simp),(show(1:Nat)<1000 by decide),?_⟩;have zA:H aw=none:=by rw[Aj oA]at y_;exact y_
  have k3:∀a o,H a=some o->a≠p->(upd (upd (upd H p (.ins T.Bw dx (EO (Str.ofString "word") (.int 0) []))) aw (.lst [])) p (.ins T.Bw dx (EO (Str.ofString "watchers") (.ref aw) (EO (Str.ofString "word") (.int 0) [])))) a=some o:=λa o e np=>by
   rw[Aj np,Aj (BY e zA),Aj np];exact e
  have p3:(upd (upd (upd H p (.ins T.Bw dx (EO (Str.ofString "word") (.int 0) []))) aw (.lst [])) p (.ins T.Bw dx (EO (Str.ofString "watchers") (.ref aw) (EO (Str.ofString "word") (.int 0) [])))) p=some (.ins T.Bw dx (EO (Str.ofString "watchers") (.ref aw) (EO (Str.ofString "word") (.int 0) []))):=AD;have w3:(upd (upd (upd H p (.ins T.Bw dx (EO (Str.ofString "word") (.int 0) []))) aw (.lst [])) p (.ins T.Bw dx (EO (Str.ofString "watchers") (.ref aw) (EO (Str.ofString "word") (.int 0) [])))) aw=some (.lst []):=by rw[Aj oA,AD]
  generalize upd (upd (upd H p (.ins T.Bw dx (EO (Str.ofString "word") (.int 0) []))) aw (.lst [])) p (.ins T.Bw dx (EO (Str.ofString "watchers") (.ref aw) (EO (Str.ofString "word") (.int 0) [])))=H3 at k3 p3 w3⊢;refine⟨64,U,by decide,by decide,λD4 n4=>Yk (n:=64) (by decide) n4 λH4 Zj E4 l4=>?_⟩;refine⟨_,U,p,_,dx,_,U,E4.s _ _ p3,kr.cl,kr.no _ (by simp),(show(2:Nat)<1000 by decide),?_⟩;obtain⟨A4,B4,C4⟩:=E4.all n4;have fT:∀a∈D4::Zj,a≠p:=λa h z=>by have:=B4 a h;rw[z,p3]at this;cases this
  have nd4:∀a∈Zj,a≠p:=λa h=>fT a (AV _ h);refine⟨64,U,by decide,by decide,λD6 n6=>Yk (n:=64) (by decide) n6 λH6 dJ E6 l6=>?_⟩;refine⟨_,U,p,_,dx,_,U,E6.s _ _ AD,kr.cl,kr.no _ (by simp),(show(3:Nat)<1000 by decide),?_⟩;obtain⟨A6,B6,C6⟩:=E6.all n6;have p_:∀a∈D6::dJ,a≠p:=λa h z=>by have:=B6 a h;rw[z,AD]at this;cases this
  refine⟨64,U,by decide,by decide,λD8 n8=>Yk (n:=64) (by decide) n8 λH8 lE E8 l8=>?_⟩;refine⟨_,U,p,_,dx,_,U,E8.s _ _ AD,kr.cl,kr.no _ (by simp),(show(4:Nat)<1000 by decide),?_⟩;obtain⟨A8,B8,C8⟩:=E8.all n8;have sO:∀a∈D8::lE,a≠p:=λa h z=>by have:=B8 a h;rw[z,AD]at this;cases this
  have sP:∀a o,H4 a=some o->a≠p->H6 a=some o:=λa o e z=>E6.s _ _ (by rw[Aj z];exact e);have vF:∀a o,H6 a=some o->a≠p->H8 a=some o:=λa o e z=>E8.s _ _ (by rw[Aj z];exact e);have f6:∀a,a≠p->(∀o,H4 a=some o->¬a∈D6::dJ):=λa z o e h=>by
   have:=B6 a h;rw[Aj z,e]at this;cases this
  have f8:∀a,a≠p->(∀o,H6 a=some o->¬a∈D8::lE):=λa z o e h=>by
   have:=B8 a h;rw[Aj z,e]at this;cases this
  have w4:=E4.s _ _ w3;have w6:=sP _ _ w4 oA;have w8:=vF _ _ w6 oA;have g4:∀a∈D4::Zj,∃o,H6 a=some o:=λa h=>by obtain⟨o,e⟩:=C4 a h;exact⟨o,sP _ _ e (fT a h)⟩
  have nw4:aw∉D4::Zj:=λh=>by have:=B4 aw h;rw[w3]at this;cases this
  refine k _ {dx:=dx,aw:=aw,ac:=D4,ap:=D6,ad:=D8,zw:=[],zc:=CG _ Zj,zp:=CG _ dJ,zd:=CG _ lE} ?_ ⟨by show(CG _ Zj).length=64;unfold CG;rw[AA];exact l4,by show(CG _ dJ).length=64;unfold CG;rw[AA];exact l6,by show(CG _ lE).length=64;unfold CG;rw[AA];exact l8⟩ (λa o e z=>?_) λa h=>?_
  ·have hm4:=E4.p;refine⟨AD,by rw[Aj oA];exact w8,?_,?_,?_,λz hz=>absurd hz Aq,λz hz=>?_,λz hz=>?_,λz hz=>?_,?_,U,?_,?_,?_⟩
   ·show _=some (HO.lst (refs (CG _ Zj)));rw[Aj (fT D4 (Ac ..)),Lv];exact vF _ _ (sP _ _ E4.d (fT D4 (Ac ..))) (fT D4 (Ac ..))
   ·show _=some (HO.lst (refs (CG _ dJ)));rw[Aj (p_ D6 (Ac ..)),Lv];exact vF _ _ E6.d (p_ D6 (Ac ..))
   ·show _=some (HO.lst (refs (CG _ lE)));rw[Aj (sO D8 (Ac ..)),Lv];exact E8.d
   ·obtain⟨a,ha,rfl⟩:=AG.mp hz;have na:=fT a (AV _ ha);exact⟨by rw[Aj na];exact vF _ _ (sP _ _ (E4.p a ha).1 na) na,λy hy=>absurd hy Aq⟩
   ·obtain⟨a,ha,rfl⟩:=AG.mp hz;have na:=p_ a (AV _ ha);exact⟨by rw[Aj na];exact vF _ _ (E6.p a ha).1 na,λy hy=>absurd hy Aq⟩
   ·obtain⟨a,ha,rfl⟩:=AG.mp hz;have na:=sO a (AV _ ha);exact⟨by rw[Aj na];exact(E8.p a ha).1,λy hy=>absurd hy Aq⟩
   ·show(p::aw::D4::D6::D8::((CG _ Zj).map (·.1)++((CG _ dJ).map (·.1)++(CG _ lE).map (·.1)))).Nodup;rw[GW,GW,GW];refine uJ (bP (DR ..) (bP (DR ..) (bP A4 (bP A6 A8 λa ha=>?_) λa ha=>?_) λa ha=>?_) λa ha=>?_)
    ·obtain⟨o,e⟩:=C6 a ha;exact f8 a (p_ a ha) o e
    ·obtain⟨o,e⟩:=C4 a ha;intro h;rcases AQ.mp h with h|h
     ·exact f6 a (fT a ha) o e h
     ·exact f8 a (fT a ha) o (sP _ _ e (fT a ha)) h
    ·rw[Af.mp ha];intro h;rcases AQ.mp h with h|h
     ·exact nw4 h
     rcases AQ.mp h with h|h
     ·exact f6 aw oA _ w4 h
     ·exact f8 aw oA _ w6 h
    ·rw[Af.mp ha];intro h;rcases AQ.mp h with h|h
     ·exact oA (Af.mp h).symm
     rcases AQ.mp h with h|h
     ·exact fT p h U
     rcases AQ.mp h with h|h
     ·exact p_ p h U
     ·exact sO p h U
   ·exact(NI _ _ id Zj 64 l4).symm
   ·exact(NI _ _ id dJ 64 l6).symm
   ·exact(NI _ _ id lE 64 l8).symm
  ·rw[Aj z];exact vF _ _ (sP _ _ (E4.s _ _ (k3 a o e z)) z) z
  ·have h:a∈p::aw::D4::D6::D8::((CG _ Zj).map (·.1)++((CG _ dJ).map (·.1)++(CG _ lE).map (·.1))):=h;rw[GW,GW,GW]at h;have fr4:a∈D4::Zj->H a=none:=λh=>by
    cases e:H a with
    |none=>rfl
    |some o=>have:=B4 a h;rw[k3 a o e (fT a h)]at this;cases this
   have fr6:a∈D6::dJ->H a=none:=λh=>by
    cases e:H a with
    |none=>rfl
    |some o=>exact absurd h (f6 a (p_ a h) o (E4.s _ _ (k3 a o e (p_ a h))))
   have fr8:a∈D8::lE->H a=none:=λh=>by
    cases e:H a with
    |none=>rfl
    |some o=>exact absurd h (f8 a (sO a h) o (sP _ _ (E4.s _ _ (k3 a o e (sO a h))) (sO a h)))
   rcases AN.mp h with h|h
   ·exact .inl h
   refine .inr ?_;rcases AN.mp h with h|h
   ·rw[h];exact zA
   rcases AN.mp h with h|h
   ·exact fr4 (by rw[h];exact Ac ..)
   rcases AN.mp h with h|h
   ·exact fr6 (by rw[h];exact Ac ..)
   rcases AN.mp h with h|h
   ·exact fr8 (by rw[h];exact Ac ..)
   rcases AQ.mp h with h|h
   ·exact fr4 (AV _ h)
   rcases AQ.mp h with h|h
   ·exact fr6 (AV _ h)
   ·exact fr8 (AV _ h)
end
end So
namespace So
open Vbdeag (Bank Entry Guest Side Watch Key everyone)
theorem Gu{z lo hi:Int}:Vbdeag.inR z lo hi=true↔lo<=z/\z<=hi:=by
 unfold Vbdeag.inR;rw[AR,UQ,UQ]
def Uv(x:Nat):Prop:=1<=x/\x<=1000000000
theorem Q3{l r:List Int}{x:Nat}(h:Vbdeag.readId l=some (x,r)):Uv x/\r.length+1<=l.length:=by
 unfold Vbdeag.readId at h
 split at h
 ·split at h
  ·rename_i hx;cases h;obtain⟨h1,h2⟩:=Gu.mp hx;exact⟨⟨by omega,by omega⟩,AU _⟩
  ·exact absurd h (by simp)
 ·exact absurd h (by simp)
theorem Tw{l r:List Int}{k:Key}(h:Vbdeag.readKey l=some (k,r)):Bh k/\r.length+1<=l.length:=by
 unfold Vbdeag.readKey at h
 split at h
 ·split at h
  ·rename_i n d r' hx;cases h;obtain⟨hx,hg⟩:=hx;unfold Vbdeag.okKey at hx;rw[AR,Gu,Gu]at hx;obtain⟨⟨h1,h2⟩,h3,h4⟩:=hx;refine⟨⟨?_,?_,h1,h2,hg⟩,EX _⟩
   ·show 1<=d.toNat;omega
   ·show((d.toNat:Nat):Int)<=_;omega
  ·exact absurd h (by simp)
 ·exact absurd h (by simp)
theorem RQ{w:Int}(h:Vbdeag.okW w=true):w.toNat<2^59:=by
 obtain⟨h1,h2⟩:=Gu.mp h;have:(2:Nat)^59=576460752303423488:=by decide
 omega
theorem bind_some{α β:Type}{o:Option α}{f:α->Option β}{b:β}(h:o.bind f=some b):∃a,o=some a/\f a=some b:=by
 cases o with
 |none=>exact absurd h (by simp)
 |some a=>exact⟨a,U,h⟩
theorem map_some{α β:Type}{o:Option α}{f:α->β}{b:β}(h:o.map f=some b):∃a,o=some a/\f a=b:=by
 cases o with
 |none=>exact absurd h (by simp)
 |some a=>exact⟨a,U,by simpa using h⟩
theorem dM{l r:List Int}{x:Watch}(h:Vbdeag.readWatch l=some (x,r)):(Uv x.id/\cE x)/\r.length+1<=l.length:=by
 obtain⟨⟨i,l1⟩,h1,h2⟩:=bind_some h;obtain⟨a1,a2⟩:=Q3 h1;dsimp only at h2
 split at h2
 ·split at h2
  ·rename_i m v r' hx;cases h2;obtain⟨hx,hg⟩:=hx;rw[AR]at hx;refine⟨⟨a1,RQ hx.1,RQ hx.2,hg⟩,?_⟩;rw[Ab,Ab]at a2;omega
  ·exact absurd h2 (by simp)
 ·exact absurd h2 (by simp)
theorem dN{l r:List Int}{x:Entry}(h:Vbdeag.readEntry l=some (x,r)):(Uv x.id/\Bh x.key)/\r.length+1<=l.length:=by
 obtain⟨⟨i,l1⟩,h1,h2⟩:=bind_some h;obtain⟨a1,a2⟩:=Q3 h1;obtain⟨⟨k,l2⟩,h3,h4⟩:=map_some h2;obtain⟨a3,a4⟩:=Tw h3;cases h4;dsimp only at*;exact⟨⟨a1,a3⟩,by omega⟩
theorem dO{l r:List Int}{x:Guest}(h:Vbdeag.readGuest l=some (x,r)):(Uv x.id/\T_ x)/\r.length+1<=l.length:=by
 obtain⟨⟨i,l1⟩,h1,h2⟩:=bind_some h;obtain⟨a1,a2⟩:=Q3 h1;obtain⟨⟨k,l2⟩,h3,h4⟩:=bind_some h2;obtain⟨a3,a4⟩:=Tw h3;dsimp only at*
 split at h4
 ·split at h4
  ·rename_i n r' hx;cases h4;obtain⟨b1,b2⟩:=Gu.mp hx;refine⟨⟨a1,a3,?_,?_⟩,?_⟩
   ·show 1<=n.toNat;omega
   ·show n.toNat<=1000;omega
   ·rw[Ab]at a4;omega
  ·exact absurd h4 (by simp)
 ·exact absurd h4 (by simp)
theorem gb{l r:List Int}{x:Side}(h:Vbdeag.readSide l=some (x,r)):(Uv x.id/\Bh x.key)/\r.length+1<=l.length:=by
 obtain⟨⟨i,l1⟩,h1,h2⟩:=bind_some h;obtain⟨a1,a2⟩:=Q3 h1;obtain⟨⟨k,l2⟩,h3,h4⟩:=bind_some h2;obtain⟨a3,a4⟩:=Tw h3;dsimp only at*
 split at h4
 ·split at h4
  ·rename_i n r' hx;cases h4;rw[Ab]at a4;exact⟨⟨a1,a3⟩,by omega⟩
  ·exact absurd h4 (by simp)
 ·exact absurd h4 (by simp)
theorem Q4:∀(n:Nat)(l:List Int)(a:List Watch),Vbdeag.readWatches n l=some a->a.length<=n/\a.length<=l.length/\∀w∈a,Uv w.id/\cE w
 |n,[],a,h=>by
  have:a=[]:=by cases n<;>(unfold Vbdeag.readWatches at h;cases h;rfl)
  rw[this];exact⟨AY _,AY _,λ_ z=>absurd z Aq⟩
 |0,y::l,a,h=>absurd h (by unfold Vbdeag.readWatches;simp)
 |n+1,y::l,a,h=>by
  unfold Vbdeag.readWatches at h;obtain⟨⟨x,r⟩,h1,h2⟩:=bind_some h;obtain⟨t,h3,rfl⟩:=map_some h2;obtain⟨a1,a2⟩:=dM h1;obtain⟨b1,b2,b3⟩:=Q4 n r t h3;refine⟨Eo b1,?_,λw hw=>?_⟩
  ·show t.length+1<=_;omega
  ·rcases AN.mp hw with rfl|hw
   ·exact a1
   ·exact b3 w hw
section
variable{α:Type}{f:Vbdeag.Read α}{P:α->Prop}
theorem W9(hf:∀l x r,f l=some (x,r)->P x/\r.length+1<=l.length):∀(n:Nat)(l:List Int)(a:List α)(r:List Int),Vbdeag.readMany f n l=some (a,r)->a.length=n/\a.length+r.length<=l.length/\∀x∈a,P x
 |0,l,a,r,h=>by
  unfold Vbdeag.readMany at h;cases h;exact⟨U,by rw[GR];omega,λ_ z=>absurd z Aq⟩
 |n+1,l,a,r,h=>by
  unfold Vbdeag.readMany at h;obtain⟨⟨x,l1⟩,h1,h2⟩:=bind_some h;obtain⟨⟨t,l2⟩,h3,h4⟩:=map_some h2;cases h4;obtain⟨a1,a2⟩:=hf _ _ _ h1;obtain⟨b1,b2,b3⟩:=W9 hf n l1 t l2 h3;dsimp only at*;refine⟨by rw[Ab,b1],by rw[Ab];omega,λw hw=>?_⟩;rcases AN.mp hw with rfl|hw
  ·exact a1
  ·exact b3 w hw
theorem fU{α:Type}(g:α->Nat)(l:List α):∀(ls:List (List α))(i:Nat),((ls.set i l).flatMap λl=>l.map g).length<=(ls.flatMap λl=>l.map g).length+l.length
 | [],i=>AY _
 |a::ls,0=>by
  show((l::ls).flatMap λl=>l.map g).length<=_;rw[Ba,Ba,AL,AL,AA];omega
 |a::ls,i+1=>by
  have:=fU g l ls i;show((a::ls.set i l).flatMap λl=>l.map g).length<=_;rw[Ba,Ba,AL,AL];omega
theorem LS(g:α->Nat)(hf:∀l x r,f l=some (x,r)->P x/\r.length+1<=l.length):∀(n:Nat)(lo:Int)(ls:List (List α))(l:List Int)(ls':List (List α)),Vbdeag.readLists f n lo ls l=some ls'->ls'.length=ls.length/\(∀m∈ls',m∈ls\/(m.length<=1000/\∀x∈m,P x))/\(ls'.flatMap λl=>l.map g).length<=(ls.flatMap λl=>l.map g).length+l.length
 |n,lo,ls,[],ls',h=>by
  have:ls'=ls:=by cases n<;>(unfold Vbdeag.readLists at h;cases h;rfl)
  rw[this];exact⟨U,λm hm=>.inl hm,AU _⟩
 |0,lo,ls,y::l,ls',h=>by
  have:Vbdeag.readLists f 0 lo ls (y::l)=none:=by cases l<;>rfl
  rw[this]at h;cases h
 |n+1,lo,ls,[y],ls',h=>by
  unfold Vbdeag.readLists at h;cases h
 |n+1,lo,ls,i::k::l,ls',h=>by
  unfold Vbdeag.readLists at h
  split at h
  ·rename_i hk;rw[AR,Gu,Gu]at hk;obtain⟨⟨t,l2⟩,h1,h2⟩:=bind_some h;obtain⟨a1,a2,a3⟩:=W9 hf _ _ _ _ h1;obtain⟨b1,b2,b3⟩:=LS g hf n _ _ _ _ h2;dsimp only at*;refine⟨by rw[b1,Cq],λm hm=>?_,?_⟩
   ·rcases b2 m hm with hm|hm
    ·rcases Bf hm with hm|rfl
     ·exact .inl hm
     ·exact .inr ⟨by omega,a3⟩
    ·exact .inr hm
   ·have:=fU g t ls i.toNat;rw[Ab,Ab];omega
  ·cases h
end
theorem Q5:∀l:List Nat,Vbdeag.distinct l=true->l.Nodup
 | [],_=>DA
 |x::r,h=>by
  unfold Vbdeag.distinct at h;rw[AR,Mx,BF]at h;exact BQ.mpr ⟨UL h.1,Q5 r h.2⟩
theorem uK{w:Int}{ws cs ps ds:List Int}{b:Bank}(hw:Vbdeag.okW w=true)(h:Vbdeag.load w ws cs ps ds=some b):Wf b (ws.length+(cs.length+(ps.length+ds.length))):=by
 unfold Vbdeag.load at h;obtain⟨a,h1,h⟩:=bind_some h;obtain⟨c,h2,h⟩:=bind_some h;obtain⟨p,h3,h⟩:=bind_some h;obtain⟨d,h4,h⟩:=bind_some h;dsimp only at h
 split at h
 ·rename_i hd;cases h;rw[AR]at hd;obtain⟨a1,a2,a3⟩:=Q4 _ _ _ h1;obtain⟨c1,c2,c3⟩:=LS (λe:Entry=>e.id) (P:=λx:Entry=>Uv x.id/\Bh x.key) (λ_ _ _=>dN) _ _ _ _ _ h2;obtain⟨p1,p2,p3⟩:=LS (λe:Guest=>e.id) (P:=λx:Guest=>Uv x.id/\T_ x) (λ_ _ _=>dO) _ _ _ _ _ h3;obtain⟨d1,d2,d3⟩:=LS (λe:Side=>e.id) (P:=λx:Side=>Uv x.id/\Bh x.key) (λ_ _ _=>gb) _ _ _ _ _ h4;have r:∀{α:Type}{l:List α},l∈List.replicate 64 ([]:List α)->l=[]:=λh=>(UO.mp h).2;have c2':∀m∈c,m.length<=1000/\∀x∈m,Uv x.id/\Bh x.key:=λm hm=>(c2 m hm).elim (λz=>by rw[r z];exact⟨AY _,λ_ z=>absurd z Aq⟩) id;have p2':∀m∈p,m.length<=1000/\∀x∈m,Uv x.id/\T_ x:=λm hm=>(p2 m hm).elim (λz=>by rw[r z];exact⟨AY _,λ_ z=>absurd z Aq⟩) id;have d2':∀m∈d,m.length<=1000/\∀x∈m,Uv x.id/\Bh x.key:=λm hm=>(d2 m hm).elim (λz=>by rw[r z];exact⟨AY _,λ_ z=>absurd z Aq⟩) id;have AEp:(Vbdeag.start.chains.flatMap λl=>l.map λe=>e.id).length=0/\(Vbdeag.start.points.flatMap λl=>l.map λe=>e.id).length=0/\(Vbdeag.start.doors.flatMap λl=>l.map λe=>e.id).length=0:=by decide
  refine⟨⟨c1,p1,d1,a1,λm hm=>(c2' m hm).1,λm hm=>(p2' m hm).1,λm hm=>(d2' m hm).1,λw hw=>(a3 w hw).2,λm hm x hx=>((c2' m hm).2 x hx).2,λm hm x hx=>((p2' m hm).2 x hx).2,λm hm x hx=>((d2' m hm).2 x hx).2,RQ hw⟩,⟨Q5 _ hd.1,λx hx=>?_,?_⟩⟩
  ·unfold Vbdeag.everyone at hx;rcases AQ.mp hx with hx|hx
   ·obtain⟨v,hv,rfl⟩:=AG.mp hx;exact(a3 v hv).1
   rcases AQ.mp hx with hx|hx
   ·obtain⟨m,hm,hx⟩:=Hx.mp hx;obtain⟨v,hv,rfl⟩:=AG.mp hx;exact((c2' m hm).2 v hv).1
   rcases AQ.mp hx with hx|hx
   ·obtain⟨m,hm,hx⟩:=Hx.mp hx;obtain⟨v,hv,rfl⟩:=AG.mp hx;exact((p2' m hm).2 v hv).1
   ·obtain⟨m,hm,hx⟩:=Hx.mp hx;obtain⟨v,hv,rfl⟩:=AG.mp hx;exact((d2' m hm).2 v hv).1
  ·rw[Pw];dsimp only;omega
 ·cases h
end So
namespace So
open Vbdeag (Bank Entry Guest Side Watch Key everyone)
theorem qA{α:Type}(g:α->Nat):∀(ls:List (List α))(k:Nat),((List.range k).map λi=>(ls.getD i []).length).sum<=(ls.flatMap λl=>l.map g).length
 | [],k=>by
   (have:((List.range k).map λi=>(([]:List (List α)).getD i []).length)=(List.range k).map λ_=>0:=Di λi _=>by simp);rw[this];have:∀l:List Nat,(l.map λ_=>0).sum=0:=λl=>by induction l with|nil=>rfl|cons a r ih=>rw[Ay,FP,ih]
   rw[this];exact AY _
 |a::ls,0=>AY _
 |a::ls,k+1=>by
  rw[List.range_succ_eq_map,Ay,FP,An,Ba,AL,AA];have:=qA g ls k;show a.length+((List.range k).map λi=>(ls.getD i []).length).sum<=_;omega
theorem Nl{α β:Type}(f:α->List β)(m:Nat)(h:∀a,(f a).length<=m):∀l:List α,(l.flatMap f).length<=m*l.length
 | []=>AY _
 |a::l=>by
  rw[Ba,AL,Ab,Nat.mul_succ];have:=Nl f m h l;have:=h a;omega
theorem NJ{α:Type}(f:α->List Int)(g:α->Nat)(h:∀a,(f a).length<=4)(ls:List (List α)):(Vbdeag.shownLists f ls).length<=128+4*(ls.flatMap λl=>l.map g).length:=by
 have s:=qA g ls 64;unfold Vbdeag.shownLists;have key:∀is:List Nat,(is.flatMap λi=>match ls.getD i []with
  | []=>[]
  |a::r=>(i:Int)::((r.length:Int)+1)::(a::r).flatMap f).length<=2*is.length+4*(is.map λi=>(ls.getD i []).length).sum:=λis=>by
  induction is with
  |nil=>exact AY _
  |cons i is ih=>
   rw[Ba,AL,Ay,FP,Ab];have:(match ls.getD i []with
    | []=>[]
    |a::r=>(i:Int)::((r.length:Int)+1)::(a::r).flatMap f).length<=2+4*(ls.getD i []).length:=by
    split
    ·exact AY _
    ·rename_i a r e;rw[e,Ab,Ab];have:=Nl f 4 h (a::r);omega
   omega
 have k:=key (List.range 64);rw[Vd]at k;refine Aw k ?_;omega
theorem rK(b:Bank):(Vbdeag.told b).length<=389+4*(everyone b).length:=by
 unfold Vbdeag.told Vbdeag.listed Vbdeag.toldWatches Vbdeag.toldChains Vbdeag.toldPoints Vbdeag.toldDoors;rw[Pw];have a1:=Nl Vbdeag.shownWatch 3 (λ_=>AU _) b.watches;have a2:=NJ Vbdeag.shownEntry (λe=>e.id) (λ_=>by show 3<=4;decide) b.chains;have a3:=NJ Vbdeag.shownGuest (λe=>e.id) (λ_=>AU _) b.points;have a4:=NJ Vbdeag.shownSide (λe=>e.id) (λ_=>AU _) b.doors;rw[Ab,AL,AL,AL,Ab,Ab,Ab,Ab];omega
def more:Vbdeag.Call->Nat
 | .load _ ws cs ps ds=>ws.length+(cs.length+(ps.length+ds.length))
 |_=>0
theorem Rw.done{b:Bank}{n:Nat}(h:Wf b n){r:Vbdeag.R}(hr:Rw n r):Wf (Vbdeag.answered b r).1 (n+1)/\(Vbdeag.answered b r).2.length<=400+4*(n+1):=by
 cases r with
 |err k=>exact⟨h.le (EX _),by show 1<=_;omega⟩
 |wait c=>exact⟨hr,by show 1<=_;omega⟩
 |ok c off=>
  refine⟨hr.1.le (EX _),?_⟩;have:off.length<=n+1:=hr.2;show(Vbdeag.ids off).length<=_;unfold Vbdeag.ids Vbdeag.listed;rw[Ab,Ab,AA];omega
theorem Rw.asked{b:Bank}{n:Nat}(h:Wf b n){ok:Bool}{r:Vbdeag.R}(hr:ok=true->Rw n r):Wf (Vbdeag.asked ok b r).1 (n+1)/\(Vbdeag.asked ok b r).2.length<=400+4*(n+1):=by
 unfold Vbdeag.asked;exact Rw.done h (F6 hr λ_=>trivial)
theorem Py{b:Bank}{n:Nat}(h:Wf b n){ok:Bool}{a:List Int}(ha:ok=true->a.length<=400+4*(n+1)):Wf (Vbdeag.told_ ok b a).1 (n+1)/\(Vbdeag.told_ ok b a).2.length<=400+4*(n+1):=by
 unfold Vbdeag.told_;refine⟨h.le (EX _),?_⟩;dsimp only
 split
 ·exact ha ‹_›
 ·show 1<=_;omega
theorem GO{c:Int}(h:Vbdeag.okC c=true):c.toNat<64:=by
 obtain⟨h1,h2⟩:=Gu.mp h;omega
theorem O8{x:Int}(h:Vbdeag.okX x=true):1<=x.toNat/\x.toNat<=1000000000:=by
 obtain⟨h1,h2⟩:=Gu.mp h;omega
theorem Yl{n d:Int}(h:Vbdeag.okKey n d=true):Bh (Vbdeag.keyOf n d.toNat):=by
 unfold Vbdeag.okKey at h;rw[AR,Gu,Gu]at h;exact JG h.2.1 h.2.2 h.1.1 h.1.2
theorem place_len(b:Bank)(x:Nat):(Vbdeag.place b x).length=3:=by
 have wi:∀{k:Int}{ls:List (List Nat)}{a:List Int},Vbdeag.whereIn k ls x=some a->a.length=3:=λh=>by
  unfold Vbdeag.whereIn at h;obtain⟨i,_,rfl⟩:=map_some h;rfl
 unfold Vbdeag.place;dsimp only
 split
 ·rfl
 ·split
  ·exact wi ‹_›
  ·split
   ·exact wi ‹_›
   ·split
    ·exact wi ‹_›
    ·rfl
theorem lF{b:Bank}{n:Nat}(h:Wf b n)(c:Vbdeag.Call):Wf (Vbdeag.stepCall b c).1 (n+1+more c)/\(Vbdeag.stepCall b c).2.length<=400+4*(n+1):=by
 have a2:∀{p q:Bool},(p&&q)=true->p=true/\q=true:=λh=>by rwa [AR]at h
 cases c with
 |put w=>exact Rw.asked h λz=>h.put (RQ z)
 |set k how=>exact Rw.asked h λz=>h.set (by have:=Gu.mp (a2 z).1;omega)
 |watch x m v=>exact Rw.asked h λz=>h.watch (O8 (a2 z).1).1 (O8 (a2 z).1).2 (RQ (a2 (a2 z).2).1) (RQ (a2 (a2 z).2).2)
 |link c x o t d=>exact Rw.asked h λz=>h.link (GO (a2 z).1) (O8 (a2 (a2 z).2).1).1 (O8 (a2 (a2 z).2).1).2 (Yl (a2 (a2 (a2 z).2).2).2)
 |unlink c back m cond kn kd=>exact Rw.asked h λz=>h.unlink (GO (a2 z).1)
 |move c d back m cond kn kd o=>exact Rw.asked h λz=>h.move (GO (a2 z).1) (GO (a2 (a2 z).2).1)
 |sort c f=>exact Rw.asked h λz=>⟨h.iS (GO (a2 z).1) (QT _ _),AY _⟩
 |rotate c m=>exact Rw.asked h λz=>⟨h.iS (GO (a2 z).1) (dG _ _),AY _⟩
 |reverse c=>exact Rw.asked h λz=>⟨h.iS (GO z) (Gp _),AY _⟩
 |merge c d=>exact Rw.asked h λz=>h.merge (GO (a2 z).1) (GO (a2 z).2)
 |cut c d m=>exact Rw.asked h λz=>h.cut (GO (a2 z).1) (GO (a2 (a2 z).2).1)
 |arrive m x k kn kd=>
  exact Rw.asked h λz=>by
   obtain⟨z1,z2⟩:=a2 z;obtain⟨z2,z3⟩:=a2 z2;obtain⟨z3,z4⟩:=a2 z3;have:=Gu.mp z3;exact h.arrive (GO z1) (O8 z2).1 (O8 z2).2 (by omega) (by omega) (Yl z4)
 |dissolve m kn kd=>exact Rw.asked h λz=>h.dissolve (GO (a2 z).1)
 |pair d x s kn kd=>exact Rw.asked h λz=>h.pair (GO (a2 z).1) (O8 (a2 (a2 z).2).1).1 (O8 (a2 (a2 z).2).1).2 (Yl (a2 (a2 (a2 z).2).2).2)
 |leave x=>exact Rw.asked h λ_=>h.leave
 |switches=>
  refine⟨h.le (EX _),?_⟩;show(Vbdeag.toldWatches b).length+1+1<=_;have a1:=Nl Vbdeag.shownWatch 3 (λ_=>AU _) b.watches;have:=h.u_;unfold Vbdeag.toldWatches;omega
 |chain c=>
  refine Py h λz=>?_;have a1:=Nl Vbdeag.shownEntry 3 (λ_=>AU _) (b.chain c.toNat);have:=h.vA (GO z);rw[Ab];omega
 |point c=>
  refine Py h λz=>?_;have a1:=Nl Vbdeag.shownGuest 4 (λ_=>AU _) (b.point c.toNat);have:=h.om (GO z);rw[Ab];omega
 |door c=>
  refine Py h λz=>?_;have a1:=Nl Vbdeag.shownSide 4 (λ_=>AU _) (b.door c.toNat);have:=h.vB (GO z);rw[Ab];omega
 |place x=>exact Py h λ_=>by rw[place_len];omega
 |count c cond kn kd=>exact Py h λ_=>by show 1<=_;omega
 |told=>
  refine⟨h.le (EX _),?_⟩;have:=rK b;have:=h.i.len;show(Vbdeag.told b).length<=_;omega
 |load w ws cs ps ds=>
  unfold Vbdeag.stepCall;dsimp only
  split
  ·exact⟨h.le (by omega),by show 1<=_;omega⟩
  ·rename_i hw;have hw:Vbdeag.okW w=true:=by simpa using hw
   split
   ·rename_i c hc;exact⟨(uK hw hc).le (by show _<=n+1+(_+_);omega),by show 2<=_;omega⟩
   ·exact⟨h.le (by omega),by show 1<=_;omega⟩
 |clear=>exact⟨fO.le (AY _),by show 2<=_;omega⟩
 |could w=>
  unfold Vbdeag.stepCall;dsimp only
  split
  ·exact⟨h.le (by omega),by show 1<=_;omega⟩
  ·rename_i hw;(have hw:Vbdeag.okW w=true:=by simpa using hw);exact⟨h.le (by omega),(Rw.done h (h.put (RQ hw))).2⟩
 |disorder c=>exact Py h λ_=>by show 1<=_;omega
 |counts=>exact⟨h.le (EX _),by show 4<=_;omega⟩
 |kth c k=>
  unfold Vbdeag.stepCall;dsimp only
  split
  ·exact⟨h.le (by omega),by show 1<=_;omega⟩
  ·refine⟨h.le (by omega),?_⟩;dsimp only
   split
   ·show 3<=_;omega
   ·show 1<=_;omega
 |rank x=>
  unfold Vbdeag.stepCall;dsimp only
  split
  ·exact⟨h.le (by omega),by show 1<=_;omega⟩
  ·refine⟨h.le (by omega),?_⟩;dsimp only
   split
   ·show 1<=_;omega
   ·show 1<=_;omega
end So
namespace So
open PySem PySem.Spec PyProof.Rows L2
theorem Pf{α:Type}(f:α->List Int)(m:Nat)(h:∀a,(f a).length<=m):∀l:List α,(l.flatMap f).length<=m*l.length
 | []=>AY _
 |a::l=>by
  rw[Ba,AL,Ab,Nat.mul_succ];have:=Pf f m h l;have:=h a;omega
theorem Uw{K:PySem.W.Frag}{α:Type}{a d:Addr}{H0 H1:Hp}{zs:List (Addr×α)}{f:Addr×α->List Int}{pre:List Int}{te:TE}{D:Ends}
 (s1:A7 H0 H1) (hd0:H0 d=none) (hd1:H1 d=some (.lst (pre.map V.int))) (hS:A1 K H0 a (refs zs)) (hm:zs.length<=100000) (hf:∀z,(f z).length<=4) (hp:pre.length<=10)
 (he:∀z∈zs,∀H',A7 H0 H'->∀R:VK,(∀xQ q,A7 H' xQ->xQ q=some (.lst ((f z).map V.int))->R (.ref q) xQ)->te [some (.ref a),some (.ref d),some (.ref z.1)] H' R)
 (hk:∀(v:Option V) H',A7 H0 H'->H' d=some (.lst ((pre++zs.flatMap f).map V.int))->D.nx [some (.ref a),some (.ref d),v] H'):
 vL (oO K (CD 0)) (KU 2) (uY (tBM K "list" kD (CD 1) (CM te C_))) D [some (.ref a),some (.ref d),none] H1:=by
 have Cc:sizeLine=16777216:=D7;refine⟨_,U,a,U,⟨_,s1.seq hS⟩,FT (K:=K) (a:=a) (xs:=refs zs) (λi σ H'=>A7 H0 H'/\(∃v:Option V,σ=[some (.ref a),some (.ref d),v])/\H' d=some (.lst ((pre++(zs.take i).flatMap f).map V.int))) ⟨s1,⟨_,U⟩,by rw[JV,N1,Bk];exact hd1⟩ (λi σ H' _ h=>h.1.seq hS) ?_ ?_⟩
 ·rintro i x σ H' hx ⟨s,⟨v,rfl⟩,hd⟩;obtain⟨z,hz,rfl⟩:=Ex hx;have mz:=AS hz;refine⟨_,U,.inl ⟨U,_,A1.of hd⟩,he z mz H' s _ λH2 q s2 hq=>?_⟩;have hd2:=s2 _ _ hd;have b1:=Pf f 4 hf (zs.take i);rw[Bb]at b1;have b2:=hf z;refine⟨d,q,_,_,U,U,hd2,hq,by rw[AA,AA,AL];omega,?_⟩;refine⟨A7.own (s.trans s2) hd0,⟨_,U⟩,?_⟩;rw[AD,take_snoc hz,CB,<-As,Bm];simp
 ·rintro σ H' ⟨s,⟨v,rfl⟩,hd⟩;rw[Al,BR]at hd;exact hk v H' s hd
section
variable{P:Program}{w:World}{K:PySem.W.Frag}{mg:Str->Option Value}{base:Heap}
def Tells(H:Hp)(VB:List Int)(Q:VK):Prop:=∀(H':Hp)(p:Addr),A7 H H'->H p=none->H' p=some (.lst (VB.map V.int))->Q (.ref p) H'
inductive Nn(T:All w K mg)(vs:List V)(H:Hp)(Q:VK)(E:XK):Prop
 |mk(a:Addr)(zs:List (Addr×Vbdeag.Watch)):vs=[.ref a]->H a=some (.lst (refs zs))->zs.length<=100000->(∀z∈zs,Ji T H z.1 z.2)->Tells H ((zs.map (·.2)).flatMap Vbdeag.shownWatch) Q->Nn T vs H Q E
theorem Wc(T:All w K mg):Ok P w base T.IY 1 (Nn T):=by
 refine T.IY.go J2 λcdv A outer s H vs Q E hr h Cc=>?_;obtain⟨a,zs,rfl,hS,hz,hw,k⟩:=h;refine⟨_,(AE (DJ J2 1 (BS AF))
  (AE (EK BK U (Bx (pv 0)) (BW (i:=2) J2.nd U (Or.inl U))
    (AK (C0 (GU PySem.F.plainAttrs_list PySem.F.slot_list_extend PySem.F.type_list_extend Jg (pv 1) (AB (BS (AB (Av (pv 2)) (AB (Av (pv 2)) (AB (Av (pv 2)) AF)))) AF)))))
  (AK (Am (pv 1))))),?_⟩
 have kw:=T.Dm;refine⟨by show 0<=sizeLine;decide,λd nd=>?_⟩;refine Uw (K:=K) (zs:=zs) (f:=λz=>Vbdeag.shownWatch z.2) (pre:=[]) (AO nd) nd AD (A1.of hS) hz (λz=>by show 3<=4;decide) (by decide) (λz mz H' s R hR=>?_) λv H' s hd=>⟨_,U,?_⟩
 ·obtain⟨dx,e⟩:=(hw z mz).same s;refine⟨_,U,z.1,_,dx,_,V.int z.2.id,U,e,kw.cl,kw.no _ (by simp),U,_,U,z.1,_,dx,_,V.int z.2.mask,U,e,kw.cl,kw.no _ (by simp),U,_,U,z.1,_,dx,_,V.int z.2.value,U,e,kw.cl,kw.no _ (by simp),U,by show 3<=sizeLine;decide,λq nq=>hR _ q (AO nq) AD⟩
 ·refine k H' d s nd ?_;rw[hd,FE,J7]
inductive R_(T:All w K mg)(vs:List V)(H:Hp)(Q:VK)(E:XK):Prop
 |mk(a:Addr)(e:Vbdeag.Entry):vs=[.ref a]->Dg T H a e->Tells H (Vbdeag.shownEntry e) Q->R_ T vs H Q E
theorem SA(T:All w K mg):Ok P w base T.LH 1 (R_ T):=by
 refine T.LH.go Zt λcdv A outer s H vs Q E hr h Cc=>?_;obtain⟨a,e,rfl,⟨dx,ka,ea,dk,ek⟩,k⟩:=h;refine⟨_,(AK (Am (BS (AB (Av (pv 0)) (AB (Av (Av (pv 0))) (AB (Av (Av (pv 0))) AF)))))),?_⟩;have ke:=T.GH;have kk:=T.Ck;exact⟨_,U,a,_,dx,_,V.int e.id,U,ea,ke.cl,ke.no _ (by simp),U,_,U,a,_,dx,_,V.ref ka,U,ea,ke.cl,ke.no _ (by simp),U,ka,_,dk,_,V.int e.key.num,U,ek,kk.cl,kk.no _ (by simp),U,
  _,U,a,_,dx,_,V.ref ka,U,ea,ke.cl,ke.no _ (by simp),U,ka,_,dk,_,V.int e.key.den,U,ek,kk.cl,kk.no _ (by simp),U,by show 3<=sizeLine;decide,λq nq=>k _ q (AO nq) nq AD⟩
inductive NK(T:All w K mg)(vs:List V)(H:Hp)(Q:VK)(E:XK):Prop
 |mk(a:Addr)(zs:List (Addr×Vbdeag.Entry)):vs=[.ref a]->H a=some (.lst (refs zs))->zs.length<=100000->(∀z∈zs,Dg T H z.1 z.2)->Tells H (((zs.map (·.2)).length:Int)::(zs.map (·.2)).flatMap Vbdeag.shownEntry) Q->NK T vs H Q E
theorem SD(T:All w K mg):Ok P w base T.LI 2 (NK T):=by
 refine T.LI.go NF λcdv A outer s H vs Q E hr h Cc=>?_;obtain⟨a,zs,rfl,hS,hz,hw,k⟩:=h;refine⟨_,(AE (DJ NF 1 (BS (AB (JI T.Cd (pv 0)) AF)))
  (AE (EK BK U (Bx (pv 0)) (BW (i:=2) NF.nd U (Or.inl U))
    (AK (C0 (GU PySem.F.plainAttrs_list PySem.F.slot_list_extend PySem.F.type_list_extend Jg (pv 1) (AB (Bu (SA T) hr (AB (pv 2) AF)) AF)))))
  (AK (Am (pv 1))))),?_⟩
 refine⟨_,U,a,_,U,.inl (A1.of hS),by show 1<=sizeLine;decide,λd nd=>?_⟩;rw[Al];refine Uw (K:=K) (zs:=zs) (f:=λz=>Vbdeag.shownEntry z.2) (pre:=[(zs.length:Int)]) (AO nd) nd AD (A1.of hS) hz (λz=>by show 3<=4;decide) (by show 1<=10;decide) (λz mz H' s R hR=>?_) λv H' s hd=>⟨_,U,?_⟩
 ·exact⟨_,U,z.1,z.2,U,(hw z mz).same s,λH2 q s2 _ e=>hR H2 q s2 e⟩
 ·refine k H' d s nd ?_;rw[hd,AA,J7];rfl
inductive NL(T:All w K mg)(vs:List V)(H:Hp)(Q:VK)(E:XK):Prop
 |mk(a:Addr)(zs:List (Addr×Vbdeag.Guest)):vs=[.ref a]->H a=some (.lst (refs zs))->zs.length<=100000->(∀z∈zs,Hj T H z.1 z.2)->Tells H (((zs.map (·.2)).length:Int)::(zs.map (·.2)).flatMap Vbdeag.shownGuest) Q->NL T vs H Q E
theorem SE(T:All w K mg):Ok P w base T.LJ 1 (NL T):=by
 refine T.LJ.go NG λcdv A outer s H vs Q E hr h Cc=>?_;obtain⟨a,zs,rfl,hS,hz,hw,k⟩:=h;refine⟨_,(AE (DJ NG 1 (BS (AB (JI T.Cd (pv 0)) AF)))
  (AE (EK BK U (Bx (pv 0)) (BW (i:=2) NG.nd U (Or.inl U))
    (AK (C0 (GU PySem.F.plainAttrs_list PySem.F.slot_list_extend PySem.F.type_list_extend Jg (pv 1) (AB (BS (AB (Av (pv 2)) (AB (Av (Av (pv 2))) (AB (Av (Av (pv 2))) (AB (Av (pv 2)) AF))))) AF)))))
  (AK (Am (pv 1))))),?_⟩
 have ke:=T.ES;have kk:=T.Ck;refine⟨_,U,a,_,U,.inl (A1.of hS),by show 1<=sizeLine;decide,λd nd=>?_⟩;rw[Al];refine Uw (K:=K) (zs:=zs) (f:=λz=>Vbdeag.shownGuest z.2) (pre:=[(zs.length:Int)]) (AO nd) nd AD (A1.of hS) hz (λz=>by show 4<=4;decide) (by show 1<=10;decide) (λz mz H' s R hR=>?_) λv H' s hd=>⟨_,U,?_⟩
 ·obtain⟨dx,ka,ea,dk,ek⟩:=(hw z mz).same s;exact⟨_,U,z.1,_,dx,_,V.int z.2.id,U,ea,ke.cl,ke.no _ (by simp),U,_,U,z.1,_,dx,_,V.ref ka,U,ea,ke.cl,ke.no _ (by simp),U,ka,_,dk,_,V.int z.2.key.num,U,ek,kk.cl,kk.no _ (by simp),U,
   _,U,z.1,_,dx,_,V.ref ka,U,ea,ke.cl,ke.no _ (by simp),U,ka,_,dk,_,V.int z.2.key.den,U,ek,kk.cl,kk.no _ (by simp),U,_,U,z.1,_,dx,_,V.int z.2.need,U,ea,ke.cl,ke.no _ (by simp),U,by show 4<=sizeLine;decide,λq nq=>hR _ q (AO nq) AD⟩
 ·refine k H' d s nd ?_;rw[hd,AA,J7];rfl
inductive Oh(T:All w K mg)(vs:List V)(H:Hp)(Q:VK)(E:XK):Prop
 |mk(a:Addr)(zs:List (Addr×Vbdeag.Side)):vs=[.ref a]->H a=some (.lst (refs zs))->zs.length<=100000->(∀z∈zs,Hl T H z.1 z.2)->Tells H (((zs.map (·.2)).length:Int)::(zs.map (·.2)).flatMap Vbdeag.shownSide) Q->Oh T vs H Q E
theorem VE(T:All w K mg):Ok P w base T.MY 1 (Oh T):=by
 refine T.MY.go Of λcdv A outer s H vs Q E hr h Cc=>?_;obtain⟨a,zs,rfl,hS,hz,hw,k⟩:=h;refine⟨_,(AE (DJ Of 1 (BS (AB (JI T.Cd (pv 0)) AF)))
  (AE (EK BK U (Bx (pv 0)) (BW (i:=2) Of.nd U (Or.inl U))
    (AK (C0 (GU PySem.F.plainAttrs_list PySem.F.slot_list_extend PySem.F.type_list_extend Jg (pv 1) (AB (BS (AB (Av (pv 2)) (AB (Av (Av (pv 2))) (AB (Av (Av (pv 2))) (AB (Av (pv 2)) AF))))) AF)))))
  (AK (Am (pv 1))))),?_⟩
 have ke:=T.DE;have kk:=T.Ck;refine⟨_,U,a,_,U,.inl (A1.of hS),by show 1<=sizeLine;decide,λd nd=>?_⟩;rw[Al];refine Uw (K:=K) (zs:=zs) (f:=λz=>Vbdeag.shownSide z.2) (pre:=[(zs.length:Int)]) (AO nd) nd AD (A1.of hS) hz (λz=>by show 4<=4;decide) (by show 1<=10;decide) (λz mz H' s R hR=>?_) λv H' s hd=>⟨_,U,?_⟩
 ·obtain⟨dx,ka,ea,dk,ek⟩:=(hw z mz).same s;exact⟨_,U,z.1,_,dx,_,V.int z.2.id,U,ea,ke.cl,ke.no _ (by simp),U,_,U,z.1,_,dx,_,V.ref ka,U,ea,ke.cl,ke.no _ (by simp),U,ka,_,dk,_,V.int z.2.key.num,U,ek,kk.cl,kk.no _ (by simp),U,
   _,U,z.1,_,dx,_,V.ref ka,U,ea,ke.cl,ke.no _ (by simp),U,ka,_,dk,_,V.int z.2.key.den,U,ek,kk.cl,kk.no _ (by simp),U,_,U,z.1,_,dx,_,V.int (if z.2.right=true then 1 else 0),U,ea,ke.cl,ke.no _ (by simp),U,by show 4<=sizeLine;decide,λq nq=>hR _ q (AO nq) AD⟩
 ·refine k H' d s nd ?_;rw[hd,AA,J7];rfl
inductive Q6(T:All w K mg)(vs:List V)(H:Hp)(Q:VK)(E:XK):Prop
 |mk(a:Addr)(ns:List Int):vs=[.ref a]->H a=some (.lst (ns.map V.int))->ns.length<=1000000->Tells H (Vbdeag.listed ns) Q->Q6 T vs H Q E
theorem JT(T:All w K mg):Ok P w base T.KH 1 (Q6 T):=by
 refine T.KH.go ZN λcdv A outer s H vs Q E hr h Cc=>?_;obtain⟨a,ns,rfl,hS,hz,k⟩:=h;refine⟨_,(AK (Am (CA H_ (BS (AB (JI T.Cd (pv 0)) AF)) (pv 0)))),?_⟩;refine⟨_,U,a,_,U,.inl (A1.of hS),by show 1<=sizeLine;decide,λp np=>⟨_,U,p,a,_,_,U,U,AD,AO np _ _ hS,by rw[AA];show 1+ns.length<=sizeLine;omega,λq nq=>?_⟩⟩;refine k _ q ((AO np).trans (AO nq)) ((AO np).free nq) ?_;rw[AD,AA];rfl
end
theorem cH{α:Type}{K:PySem.W.Frag}{a D:Addr}{zs:List (Addr×α)}{f:Addr×α->List Int}{i:Nat}{te:TE}{σ:L2.St}{H1:Hp}{Qd:Hp->Prop}(hS:A1 K H1 a (refs zs))(hz:zs.length<=1000)(hi:i<σ.length)(hD:H1 D=none)
 (he:∀z∈zs,∀H,A7 H1 H->∀R:VK,Tells H (f z) R->te ((σ.set i none).set i (some (.ref z.1))) H R)
 (hq:∀(H':Hp)(ts:List (Addr×List Int)),A7 H1 H'->H' D=some (.lst (refs ts))->ts.map (·.2)=zs.map f->(∀t∈ts,H' t.1=some (.lst (t.2.map V.int)))->Qd H'):
 ∃W:Nat->Nat->Hp->Prop,(∃m,W 0 m (upd H1 D (.lst [])))/\∀j m H,W j m H->
  ((ON K a).stop j H/\Qd H)\/((ON K a).go j H/\∃Nx:Hp->Prop,(∀H',Nx H'->∃m',m'<m/\W (j+1) m' H')/\∀x H',(ON K a).Vk j H x H'->KU i x (wipe σ [i]) H' λσ2 H2=>wipe σ2 [i]=wipe σ [i]/\GY σ2 H2 λb H3=>
    if b=true then te σ2 H3 λy H4=>∃acc,H4 D=some (.lst acc)/\acc.length<sizeLine/\Nx (upd H4 D (.lst (acc++[y])))else Nx H3):=by
 have Cc:sizeLine=16777216:=D7;refine XX (xs:=refs zs) (Qd:=Qd) (λj H=>∃ts:List (Addr×List Int),A7 H1 H/\H D=some (.lst (refs ts))/\ts.map (·.2)=(zs.take j).map f/\∀t∈ts,H t.1=some (.lst (t.2.map V.int))/\t.1≠D)
  ⟨[],AO hD,AD,U,λ_ q=>absurd q Aq⟩ (λj H _ ⟨ts,e,_⟩=>e.seq hS) (λj v H hv ⟨ts,e,d,em,et⟩=>?_) λH ⟨ts,e,d,em,et⟩=>?_
 ·obtain⟨z,hz1,rfl⟩:=Ex hv;show wipe ((wipe σ [i]).set i (some (V.ref z.1))) [i]=wipe σ [i]/\_;have ew:wipe σ [i]=σ.set i none:=rfl;rw[ew];refine⟨?_,?_⟩
  ·show((σ.set i none).set i (some (V.ref z.1))).set i none=σ.set i none;rw[DZ,DZ]
  ·unfold GY;dsimp only;rw[AJ U];refine he z (AS hz1) H e _ λH' p s np ep=>?_;have pZ:p≠D:=BY d np|>.symm;have tl:ts.length<=1000:=by
    have:=B5 List.length em;rw[AA,AA,Bb]at this;omega
   refine⟨refs ts,s _ _ d,by rw[Al];omega,ts++[(p,f z)],A7.own (e.trans s) hD,by rw[AD,Dr];rfl,by rw[As,em,take_snoc hz1,As];rfl,λt ht=>?_⟩;rcases AQ.mp ht with ht|ht
   ·obtain⟨u1,u2⟩:=et t ht;exact⟨by rw[Aj u2];exact s _ _ u1,u2⟩
   ·rw[Af.mp ht];exact⟨by rw[Aj pZ];exact ep,pZ⟩
 ·rw[Al,BR]at em;exact hq H ts e d em λt ht=>(et t ht).1
def HR(tl:List (List Int))(n:Nat):List Int:=(List.range n).flatMap λj=>if 0<(tl.getD j []).headD 0 then(j:Int)::tl.getD j []else[]
theorem QW(tl:List (List Int))(n:Nat):HR tl (n+1)=HR tl n++(if 0<(tl.getD n []).headD 0 then(n:Int)::tl.getD n []else[]):=by
 unfold HR;rw[List.range_succ,CB]
 congr 1
 exact List.flatMap_singleton ..
theorem Oi{α:Type}(f:α->List Int)(ls:List (List α))(h:ls.length=64):HR (ls.map λl=>(l.length:Int)::l.flatMap f) 64=Vbdeag.shownLists f ls:=by
 unfold HR Vbdeag.shownLists;show List.flatMap _ (List.range 64)=List.flatMap _ (List.range 64);rw[Wt,Wt]
 congr 1
 refine Di λj hj=>?_;have hj:j<ls.length:=by rw[h];exact JU.mp hj
 have e1:ls.getD j []=ls[j]:=by rw[A3,Ak hj];rfl
 have e2:(ls.map λl=>(l.length:Int)::l.flatMap f).getD j []=((ls[j].length:Int)::ls[j].flatMap f):=by rw[A3,Ai,Ak hj];rfl
 rw[e1,e2];cases ls[j]with
 |nil=>rfl
 |cons a r=>
  rw[AJ (by show(0:Int)<((r.length+1:Nat):Int);omega)];show _=(j:Int)::((r.length:Int)+1)::_;rw[Ab];rfl
section
variable{P:Program}{w:World}{K:PySem.W.Frag}{mg:Str->Option Value}{base:Heap}
inductive SG(T:All w K mg)(vs:List V)(H:Hp)(Q:VK)(E:XK):Prop
 |mk(a:Addr)(ts:List (Addr×List Int)):vs=[.ref a]->H a=some (.lst (refs ts))->ts.length<=64->(∀t∈ts,H t.1=some (.lst (t.2.map V.int))/\1<=t.2.length/\t.2.length<=100000)->Tells H (HR (ts.map (·.2)) ts.length) Q->SG T vs H Q E
theorem NN(T:All w K mg):Ok P w base T.LK 1 (SG T):=by
 refine T.LK.go KL λcdv A outer s H vs Q E hr h Cc=>?_;obtain⟨a,ts,rfl,hS,hz,ht,k⟩:=h;refine⟨_,(AE (DJ KL 1 (BS AF))
  (AE (EK BK U (kJ U T.KQ (AB (pv 0) AF)) (NZ U (Dd (BW (i:=2) KL.nd U (Or.inl U)) (Dd (BW (i:=3) KL.nd U (Or.inl U)) Ka)))
    (AK (B_ (BX K_ (Ax Aa (pv 3) Ag) Ag) (AE (C0 (GU PySem.F.plainAttrs_list PySem.F.slot_list_append PySem.F.type_list_append GA (pv 1) (AB (pv 2) AF)))
      (AK (C0 (GU PySem.F.plainAttrs_list PySem.F.slot_list_extend PySem.F.type_list_extend Jg (pv 1) (AB (pv 3) AF))))) Bc)))
  (AK (Am (pv 1))))),?_⟩
 refine⟨by show 0<=sizeLine;decide,λd nd=>?_⟩;have s1:A7 H (upd H d (.lst [])):=AO nd;have hd1:(upd H d (.lst [])) d=some (.lst []):=AD;generalize upd H d (.lst [])=H1 at s1 hd1⊢;refine⟨_,U,a,_,U,A1.of (s1 _ _ hS),Qi (n:=ts.length) (λi=>[.int (i:Int),((refs ts)[i]?).getD .DX]) (λi σ H'=>A7 H H'/\(∃u v:Option V,σ=[some (.ref a),some (.ref d),u,v])/\H' d=some (.lst ((HR (ts.map (·.2)) i).map V.int))/\(HR (ts.map (·.2)) i).length<=i*100001) ⟨s1,⟨_,_,U⟩,hd1,AY _⟩
  (λi σ H' _ ⟨e,_⟩=>by
    have:=uh (i:=i) (λi=>[.int (i:Int),((refs ts)[i]?).getD .DX]) (λv hv=>by rw[hv];rfl) (e.seq (A1.of (K:=K) hS));rw[Al]at this;exact this) ?_ ?_⟩
 ·rintro i σ H' t hi ⟨e,⟨u,v,rfl⟩,hd,hl⟩ nt;obtain⟨z,hz1⟩:∃z,ts[i]?=some z:=⟨_,Ak hi⟩;obtain⟨h1,h2,h3⟩:=ht z (AS hz1);rw[show((refs ts)[i]?).getD .DX=.ref z.1 by rw[BU hz1];rfl];have e1:=e.trans (AO (o:=.tup [.int (i:Int),.ref z.1]) nt);have hd2:=AO (o:=.tup [.int (i:Int),.ref z.1]) nt _ _ hd;refine⟨t,_,U,OM.of AD,U,_,_,U,_,_,U,U,?_⟩;generalize upd H' t (.tup [.int (i:Int),.ref z.1])=H3 at e1 hd2⊢;have E2:=e1 _ _ h1;have eg:(ts.map (·.2)).getD i []=z.2:=by rw[A3,Ai,hz1];rfl
  obtain⟨c,t',ez⟩:∃c t',z.2=c::t':=by
   cases q:z.2 with
   |nil=>rw[q]at h2;exact absurd h2 (by decide)
   |cons c t'=>exact⟨c,t',U⟩
  refine⟨_,U,z.1,_,_,.int c,U,U,A1.of E2,by rw[ez];exact at_of U rfl,_,_,U,U,_,U,DL (λhc=>?_) λhc=>?_⟩
  ·have hc:(0:Int)<c:=AX hc;(have ep:HR (ts.map (·.2)) (i+1)=HR (ts.map (·.2)) i++((i:Int)::z.2):=by rw[QW,eg,AJ (by rw[ez];exact hc)]);refine⟨_,U,.inl ⟨U,_,A1.of hd2⟩,_,U,d,_,_,U,U,hd2,by rw[AA];omega,?_⟩;(have hzd:z.1≠d:=λq=>by rw[q]at h1;rw[h1]at nd;cases nd);refine⟨_,U,.inl ⟨U,_,A1.of AD⟩,_,U,d,z.1,_,_,U,U,AD,by rw[Aj hzd];exact E2,by simp only[AL,AA,Ab,GR];omega,?_⟩;rw[Cj];refine⟨A7.own e1 nd,⟨_,_,U⟩,?_,?_⟩
   ·rw[AD,ep];simp
   ·rw[ep,AL,Ab];omega
  ·have hc:¬(0:Int)<c:=λq=>hc (AM q);(have ep:HR (ts.map (·.2)) (i+1)=HR (ts.map (·.2)) i:=by rw[QW,eg,AI (by rw[ez];exact hc),Bk]);refine⟨e1,⟨_,_,U⟩,by rw[ep];exact hd2,?_⟩;rw[ep];exact Aw hl (KY _ (EX _))
 ·rintro σ H' ⟨e,⟨u,v,rfl⟩,hd,hl⟩;exact⟨_,U,k H' d e nd hd⟩
inductive Np(T:All w K mg)(vs:List V)(H:Hp)(Q:VK)(E:XK):Prop
 |mk(r:Addr)(b:Vbdeag.Bank)(L:Lo):vs=[.ref r]->Ah T H r b L->b.watches.length<=1000->Tells H ((b.word:Int)::Vbdeag.listed (Vbdeag.toldWatches b)) Q->Np T vs H Q E
theorem Nq(T:All w K mg):Ok P w base T.IZ 2 (Np T):=by
 refine T.IZ.go Wa λcdv A outer s H vs Q E hr h Cc=>?_;obtain⟨r,b,L,rfl,R,hz,k⟩:=h;refine⟨_,(AK (Am (CA H_ (BS (AB (Av (pv 0)) AF)) (Bu (JT T) hr (AB (Bu (Wc T) hr (AB (Av (pv 0)) AF)) AF))))),?_⟩;have kr:=T.BG;have zl:L.zw.length<=1000:=by rw[R.bw,AA]at hz;exact hz
 have fl:((L.zw.map (·.2)).flatMap Vbdeag.shownWatch).length<=3*1000:=Aw (Pf _ 3 (λ_=>AU _) _) (by rw[AA];omega);refine⟨_,U,r,_,L.dx,_,V.int b.word,U,R.obj,kr.cl,kr.no _ (by simp),U,by show 1<=sizeLine;decide,λp np=>?_⟩;have s1:A7 H (upd H p (.lst [V.int b.word])):=AO np;have hp:(upd H p (.lst [V.int b.word])) p=some (.lst [V.int b.word]):=AD;generalize upd H p (.lst [V.int b.word])=H1 at s1 hp⊢;have R1:=R.same s1;refine⟨_,U,r,_,L.dx,_,V.ref L.aw,U,R1.obj,kr.cl,kr.no _ (by simp),U,L.aw,L.zw,U,R1.lw,by omega,R1.ww,λH2 q s2 nq eq=>?_⟩;refine⟨q,_,U,eq,by omega,λH3 t s3 nt et=>?_⟩;refine⟨p,t,_,_,U,U,s3 _ _ (s2 _ _ hp),et,by rw[AA];show 1+((_:List Int).length+1)<=sizeLine;omega,λo no=>?_⟩;refine k _ o (((s1.trans s2).trans s3).trans (AO no)) (s1.free (s2.free (s3.free no))) ?_;rw[AD];unfold Vbdeag.toldWatches;rw[R.bw];rfl
end
theorem OJ{tl:List (List Int)}{m:Nat}(h:∀t∈tl,t.length<=m):∀n,(HR tl n).length<=n*(m+1)
 |0=>AY _
 |n+1=>by
  have ih:=OJ h n;have g:(tl.getD n []).length<=m:=by
   by_cases c:n<tl.length
   ·rw[A3,Ak c];exact h _ (Ny c)
   ·rw[A3,CT (by omega)];exact AY _
  rw[QW,AL,JP];have:(if 0<(tl.getD n []).headD 0 then(n:Int)::tl.getD n []else[]).length<=m+1:=by
   split
   ·rw[Ab];omega
   ·exact AY _
  omega
section
variable{P:Program}{w:World}{K:PySem.W.Frag}{mg:Str->Option Value}{base:Heap}
structure vZ(b:Vbdeag.Bank):Prop where
 w:b.watches.length<=1000
 c:∀l∈b.chains,l.length<=1000
 p:∀l∈b.points,l.length<=1000
 d:∀l∈b.doors,l.length<=1000
theorem WR{α:Type}{g:α->List Int}{zs:List (Addr×List (Addr×α))}{ts:List (Addr×List Int)}(hg:∀x,(g x).length<=4)(et:ts.map (·.2)=zs.map λz=>((z.2.map (·.2)).length:Int)::(z.2.map (·.2)).flatMap g)(hz:∀z∈zs,z.2.length<=1000):ts.length=zs.length/\∀t∈ts,1<=t.2.length/\t.2.length<=4001:=by
 refine⟨by simpa using B5 List.length et,λt ht=>?_⟩;have:t.2∈ts.map (·.2):=AG.mpr ⟨t,ht,U⟩;rw[et]at this;obtain⟨z,hz',e⟩:=AG.mp this;rw[<-e,Ab];have:=Pf g 4 hg (z.2.map (·.2));rw[AA]at this;have:=hz z hz';omega
inductive W_(T:All w K mg)(vs:List V)(H:Hp)(Q:VK)(E:XK):Prop
 |mk(r:Addr)(b:Vbdeag.Bank)(L:Lo):vs=[.ref r]->Ah T H r b L->Co L->vZ b->Tells H (Vbdeag.told b) Q->W_ T vs H Q E
theorem gf(T:All w K mg):Ok P w base T.OB 3 (W_ T):=by
 refine T.OB.go ET λcdv A outer s H vs Q E hr h Cc=>?_;obtain⟨r,b,L,rfl,R,S,B,k⟩:=h;refine⟨_,(AE (DJ ET 1 (Bu (NN T) hr (AB (Fi (own:=[("entries",4)]) (tt:=GY) (te:=(LA (NK T) [] E0 (CM (CD 4) C_))) U ET.nd (Bx (Av (pv 0))) (CS (by rfl)) (λ_ _ _ _ _=>BW (i:=4) ET.nd U (Or.inl U)) (λ_ _ _ _ _=>Dt) (λ_ _ _ _ _=>(Bu (SD T) hr (AB (pv 4) AF)))) AF)))
  (AE (DJ ET 2 (Bu (NN T) hr (AB (Fi (own:=[("guests",5)]) (tt:=GY) (te:=(LA (NL T) [] E0 (CM (CD 5) C_))) U ET.nd (Bx (Av (pv 0))) (CS (by rfl)) (λ_ _ _ _ _=>BW (i:=5) ET.nd U (Or.inl U)) (λ_ _ _ _ _=>Dt) (λ_ _ _ _ _=>(Bu (SE T) hr (AB (pv 5) AF)))) AF)))
  (AE (DJ ET 3 (Bu (NN T) hr (AB (Fi (own:=[("callers",6)]) (tt:=GY) (te:=(LA (Oh T) [] E0 (CM (CD 6) C_))) U ET.nd (Bx (Av (pv 0))) (CS (by rfl)) (λ_ _ _ _ _=>BW (i:=6) ET.nd U (Or.inl U)) (λ_ _ _ _ _=>Dt) (λ_ _ _ _ _=>(Bu (VE T) hr (AB (pv 6) AF)))) AF)))
  (AK (Am (CA H_ (CA H_ (CA H_ (Bu (Nq T) hr (AB (pv 0) AF)) (Bu (JT T) hr (AB (pv 1) AF))) (Bu (JT T) hr (AB (pv 2) AF))) (Bu (JT T) hr (AB (pv 3) AF)))))))),?_⟩
 have kr:=T.BG;have bc:∀z∈L.zc,z.2.length<=1000:=λz hz=>by have:=B.c (z.2.map (·.2)) (by rw[R.bc];exact AG.mpr ⟨z,hz,U⟩);rwa [AA]at this
 have bp:∀z∈L.zp,z.2.length<=1000:=λz hz=>by have:=B.p (z.2.map (·.2)) (by rw[R.bp];exact AG.mpr ⟨z,hz,U⟩);rwa [AA]at this
 have bd:∀z∈L.zd,z.2.length<=1000:=λz hz=>by have:=B.d (z.2.map (·.2)) (by rw[R.bd];exact AG.mpr ⟨z,hz,U⟩);rwa [AA]at this
 refine⟨_,U,r,_,L.dx,_,V.ref L.ac,U,R.obj,kr.cl,kr.no _ (by simp),U,L.ac,U,⟨_,A1.of R.lc⟩,λD hD=>?_⟩;refine cH (K:=K) (zs:=L.zc) (f:=λz=>((z.2.map (·.2)).length:Int)::(z.2.map (·.2)).flatMap Vbdeag.shownEntry) (A1.of R.lc) (by rw[S.c];decide) (by show 4<7;decide) hD (λz hz H1 s1 R' hR=>⟨_,U,z.1,z.2,U,s1 _ _ (R.cc z hz).1,Aw (bc z hz) (by decide),λy hy=>((R.cc z hz).2 y hy).same s1,hR⟩) λH1 ts s1 qB et ht=>?_;obtain⟨l1,t1⟩:=WR (g:=Vbdeag.shownEntry) (λ_=>by show 3<=4;decide) et bc;refine⟨D,ts,U,qB,by rw[l1,S.c];decide,λt hh=>⟨ht t hh,(t1 t hh).1,Aw (t1 t hh).2 (by decide)⟩,λH2 p2 s2 np2 e2=>?_⟩;have c1:HR (ts.map (·.2)) ts.length=Vbdeag.toldChains b:=by
  unfold Vbdeag.toldChains;rw[l1,S.c,et,<-Oi Vbdeag.shownEntry b.chains (by rw[R.bc,AA,S.c]),R.bc,An];rfl
 have c2:(Vbdeag.toldChains b).length<=300000:=by
  rw[<-c1,l1,S.c];refine Aw (OJ (m:=4001) (λt hh=>?_) 64) (by decide);obtain⟨u,hu,rfl⟩:=AG.mp hh;exact(t1 u hu).2
 rw[c1]at e2;have s2:=s1.trans s2;have R2:=R.same s2;clear c1 l1 t1 et ht qB hD D;refine⟨_,U,r,_,L.dx,_,V.ref L.ap,U,R2.obj,kr.cl,kr.no _ (by simp),U,L.ap,U,⟨_,A1.of R2.lp⟩,λD hD=>?_⟩;refine cH (K:=K) (zs:=L.zp) (f:=λz=>((z.2.map (·.2)).length:Int)::(z.2.map (·.2)).flatMap Vbdeag.shownGuest) (A1.of R2.lp) (by rw[S.p];decide) (by show 5<7;decide) hD (λz hz H1 s1 R' hR=>⟨_,U,z.1,z.2,U,s1 _ _ (R2.pp z hz).1,Aw (bp z hz) (by decide),λy hy=>((R2.pp z hz).2 y hy).same s1,hR⟩) λH3 ts s3 qB et ht=>?_;obtain⟨l1,t1⟩:=WR (g:=Vbdeag.shownGuest) (λ_=>by show 4<=4;decide) et bp;refine⟨D,ts,U,qB,by rw[l1,S.p];decide,λt hh=>⟨ht t hh,(t1 t hh).1,Aw (t1 t hh).2 (by decide)⟩,λH4 p4 s4 fT e4=>?_⟩;have d1:HR (ts.map (·.2)) ts.length=Vbdeag.toldPoints b:=by
  unfold Vbdeag.toldPoints;rw[l1,S.p,et,<-Oi Vbdeag.shownGuest b.points (by rw[R.bp,AA,S.p]),R.bp,An];rfl
 have d2:(Vbdeag.toldPoints b).length<=300000:=by
  rw[<-d1,l1,S.p];refine Aw (OJ (m:=4001) (λt hh=>?_) 64) (by decide);obtain⟨u,hu,rfl⟩:=AG.mp hh;exact(t1 u hu).2
 rw[d1]at e4;have s4:=s3.trans s4;have R4:=R2.same s4;clear d1 l1 t1 et ht qB hD D;refine⟨_,U,r,_,L.dx,_,V.ref L.ad,U,R4.obj,kr.cl,kr.no _ (by simp),U,L.ad,U,⟨_,A1.of R4.ld⟩,λD hD=>?_⟩;refine cH (K:=K) (zs:=L.zd) (f:=λz=>((z.2.map (·.2)).length:Int)::(z.2.map (·.2)).flatMap Vbdeag.shownSide) (A1.of R4.ld) (by rw[S.d];decide) (by show 6<7;decide) hD (λz hz H1 s1 R' hR=>⟨_,U,z.1,z.2,U,s1 _ _ (R4.dd z hz).1,Aw (bd z hz) (by decide),λy hy=>((R4.dd z hz).2 y hy).same s1,hR⟩) λH5 ts s5 qB et ht=>?_;obtain⟨l1,t1⟩:=WR (g:=Vbdeag.shownSide) (λ_=>by show 4<=4;decide) et bd;refine⟨D,ts,U,qB,by rw[l1,S.d];decide,λt hh=>⟨ht t hh,(t1 t hh).1,Aw (t1 t hh).2 (by decide)⟩,λH6 p6 s6 p_ e6=>?_⟩;have f1:HR (ts.map (·.2)) ts.length=Vbdeag.toldDoors b:=by
  unfold Vbdeag.toldDoors;rw[l1,S.d,et,<-Oi Vbdeag.shownSide b.doors (by rw[R.bd,AA,S.d]),R.bd,An];rfl
 have f2:(Vbdeag.toldDoors b).length<=300000:=by
  rw[<-f1,l1,S.d];refine Aw (OJ (m:=4001) (λt hh=>?_) 64) (by decide);obtain⟨u,hu,rfl⟩:=AG.mp hh;exact(t1 u hu).2
 rw[f1]at e6;have s6:=s5.trans s6;have R6:=R4.same s6;clear f1 l1 t1 et ht qB hD D;have w2:(Vbdeag.toldWatches b).length<=3000:=Aw (Pf _ 3 (λ_=>AU _) _) (by have:=B.w;omega);refine⟨_,U,r,b,L,U,R6,B.w,λH7 p7 s7 np7 e7=>?_⟩;refine⟨_,U,p2,_,U,s7 _ _ (s6 _ _ (s4 _ _ e2)),by omega,λH8 p8 s8 sO e8=>?_⟩;refine⟨p7,p8,_,_,U,U,s8 _ _ e7,e8,by simp only[AA,Ab,Vbdeag.listed];omega,λp9 np9=>?_⟩;have s9:A7 H8 (upd H8 p9 (.lst ((((b.word:Int)::Vbdeag.listed (Vbdeag.toldWatches b)).map V.int)++(Vbdeag.listed (Vbdeag.toldChains b)).map V.int))):=AO np9;have e9:(upd H8 p9 (.lst ((((b.word:Int)::Vbdeag.listed (Vbdeag.toldWatches b)).map V.int)++(Vbdeag.listed (Vbdeag.toldChains b)).map V.int))) p9=some (.lst ((((b.word:Int)::Vbdeag.listed (Vbdeag.toldWatches b))++Vbdeag.listed (Vbdeag.toldChains b)).map V.int)):=by rw[AD,As]
 generalize upd H8 p9 (.lst ((((b.word:Int)::Vbdeag.listed (Vbdeag.toldWatches b)).map V.int)++(Vbdeag.listed (Vbdeag.toldChains b)).map V.int))=H9 at s9 e9⊢;refine⟨_,U,p4,_,U,s9 _ _ (s8 _ _ (s7 _ _ (s6 _ _ e4))),by omega,λyd p10 pK AEq e10=>?_⟩;refine⟨p9,p10,_,_,U,U,pK _ _ e9,e10,by simp only[AA,Ab,AL,Vbdeag.listed];omega,λzB ABL=>?_⟩;have d9:=AO (o:=.lst ((((((b.word:Int)::Vbdeag.listed (Vbdeag.toldWatches b))++Vbdeag.listed (Vbdeag.toldChains b)).map V.int)++(Vbdeag.listed (Vbdeag.toldPoints b)).map V.int))) ABL;have e11:(upd yd zB (.lst ((((((b.word:Int)::Vbdeag.listed (Vbdeag.toldWatches b))++Vbdeag.listed (Vbdeag.toldChains b)).map V.int)++(Vbdeag.listed (Vbdeag.toldPoints b)).map V.int)))) zB=some (.lst (((((b.word:Int)::Vbdeag.listed (Vbdeag.toldWatches b))++Vbdeag.listed (Vbdeag.toldChains b))++Vbdeag.listed (Vbdeag.toldPoints b)).map V.int)):=by rw[AD,<-As]
 generalize upd yd zB (.lst ((((((b.word:Int)::Vbdeag.listed (Vbdeag.toldWatches b))++Vbdeag.listed (Vbdeag.toldChains b)).map V.int)++(Vbdeag.listed (Vbdeag.toldPoints b)).map V.int)))=xR at d9 e11⊢;refine⟨_,U,p6,_,U,d9 _ _ (pK _ _ (s9 _ _ (s8 _ _ (s7 _ _ e6)))),by omega,λH12 p12 s12 AEr e12=>?_⟩;refine⟨zB,p12,_,_,U,U,s12 _ _ e11,e12,by simp only[AA,Ab,AL,Vbdeag.listed];omega,λp13 zC=>?_⟩;have sA:=((((((s2.trans s4).trans s6).trans s7).trans s8).trans s9).trans pK).trans (d9.trans s12);refine k _ p13 (sA.trans (AO zC)) (sA.free zC) ?_;rw[AD,<-As];unfold Vbdeag.told;simp only[Bm,Nu]
theorem oB(l:List Nat):((l.map λn:Nat=>(n:Int)).sum)=(Vbdeag.sum l:Int):=by
 have g:∀(l:List Nat)(a:Nat),((l.foldl (λa n=>a+n) a:Nat):Int)=(a:Int)+(l.map λn:Nat=>(n:Int)).sum:=λl=>by
  induction l with
  |nil=>intro a;simp
  |cons x r ih=>intro a;rw[EL,ih,Ay,FP];omega
 unfold Vbdeag.sum;rw[g l 0];simp
inductive XA(T:All w K mg)(vs:List V)(H:Hp)(Q:VK)(E:XK):Prop
 |mk(a:Addr)(α:Type)(zs:List (Addr×List (Addr×α))):vs=[.ref a]->H a=some (.lst (refs zs))->zs.length<=1000->(∀z∈zs,H z.1=some (.lst (refs z.2)))->(∀H',A7 H H'->Q (.int (Vbdeag.sum (zs.map λz=>z.2.length))) H')->XA T vs H Q E
theorem QX(T:All w K mg):Ok P w base T.OC 1 (XA T):=by
 refine T.OC.go QM λcdv A outer s H vs Q E hr h Cc=>?_;obtain⟨a,α,zs,rfl,hS,hz,hl,k⟩:=h;refine⟨_,(AK (Am (NQ (pI U) U T.ie boot_sum (AB (Fi (own:=[("waiters",1)]) (tt:=GY) (te:=(wF (rZ K) (CM (CD 1) C_))) U QM.nd (Bx (pv 0)) (CS (by rfl)) (λ_ _ _ _ _=>BW (i:=1) QM.nd U (Or.inl U)) (λ_ _ _ _ _=>Dt) (λ_ _ _ _ _=>(JI T.Cd (pv 1)))) AF)))),?_⟩;refine⟨_,U,a,U,⟨_,A1.of hS⟩,λD hD=>?_⟩;refine JD (K:=K) (zs:=zs) (A1.of hS) (by omega) (by show 1<2;decide) hD (λ_=>true) (λz=>V.int (z.2.length:Int)) (λz _ H' _ R hR=>hR) (λz mz _ H' hs R hR=>⟨_,U,z.1,_,U,.inl (A1.of (hs _ _ (hl z mz))),by rw[Al];exact hR⟩) ?_;rw[Dh.mpr λ_ _=>rfl];have em:(zs.map λz=>V.int (z.2.length:Int))=((zs.map λz=>z.2.length).map λn:Nat=>(n:Int)).map V.int:=by rw[An,An];rfl
 refine⟨D,(zs.map λz=>z.2.length).map λn:Nat=>(n:Int),U,A1.of (by rw[AD,em]),?_⟩;rw[oB];exact k _ (AO hD)
inductive Q7(T:All w K mg)(vs:List V)(H:Hp)(Q:VK)(E:XK):Prop
 |mk(r:Addr)(b:Vbdeag.Bank)(L:Lo):vs=[.ref r]->Ah T H r b L->Co L->Tells H (Vbdeag.counts b) Q->Q7 T vs H Q E
theorem ZT(T:All w K mg):Ok P w base T.KI 2 (Q7 T):=by
 refine T.KI.go ZO λcdv A outer s H vs Q E hr h Cc=>?_;obtain⟨r,b,L,rfl,R,S,k⟩:=h;refine⟨_,(AK (Am (BS (AB (JI T.Cd (Av (pv 0))) (AB (Bu (QX T) hr (AB (Av (pv 0)) AF)) (AB (Bu (QX T) hr (AB (Av (pv 0)) AF)) (AB (Bu (QX T) hr (AB (Av (pv 0)) AF)) AF))))))),?_⟩;have kr:=T.BG;refine⟨_,U,r,_,L.dx,_,V.ref L.aw,U,R.obj,kr.cl,kr.no _ (by simp),U,L.aw,_,U,.inl (A1.of R.lw),?_⟩;refine⟨_,U,r,_,L.dx,_,V.ref L.ac,U,R.obj,kr.cl,kr.no _ (by simp),U,L.ac,_,L.zc,U,R.lc,by rw[S.c];decide,λz hz=>(R.cc z hz).1,λH1 s1=>?_⟩;have R1:=R.same s1;refine⟨_,U,r,_,L.dx,_,V.ref L.ap,U,R1.obj,kr.cl,kr.no _ (by simp),U,L.ap,_,L.zp,U,R1.lp,by rw[S.p];decide,λz hz=>(R1.pp z hz).1,λH2 s2=>?_⟩;have R2:=R1.same s2;refine⟨_,U,r,_,L.dx,_,V.ref L.ad,U,R2.obj,kr.cl,kr.no _ (by simp),U,L.ad,_,L.zd,U,R2.ld,by rw[S.d];decide,λz hz=>(R2.dd z hz).1,λH3 s3=>?_⟩;refine⟨by show 4<=sizeLine;decide,λp np=>?_⟩;have sA:=(s1.trans s2).trans s3;refine k _ p (sA.trans (AO np)) (sA.free np) ?_;rw[AD,Al];unfold Vbdeag.counts;rw[R.bw,R.bc,R.bp,R.bd];simp only[An,AA,Ay,DF,Vf]
inductive SH(T:All w K mg)(vs:List V)(H:Hp)(Q:VK)(E:XK):Prop
 |mk(r ka:Addr)(c cond:Nat)(q:Vbdeag.Key)(b:Vbdeag.Bank)(L:Lo):vs=[.ref r,.int c,.int cond,.ref ka]->c<64->cond<=6->Ah T H r b L->Co L->(b.chain c).length<=1000->(∀e∈b.chain c,Bh e.key)->Dv T H ka q->Bh q->Tells H [(((b.chain c).filter (Vbdeag.asks cond q)).length:Int)] Q->SH T vs H Q E
theorem Z2(T:All w K mg):Ok P w base T.LL 3 (SH T):=by
 refine T.LL.go NH λcdv A outer s H vs Q E hr h Cc=>?_;obtain⟨r,ka,c,cond,q,b,L,rfl,hc,h6,R,S,hz,hk,hq,kq,k⟩:=h;refine⟨_,(AK (Am (BS (AB (JI T.Cd (Fi (own:=[("entry",4)]) (tt:=(tB (LA (Ur T) [] E0 (CM (CD 4) (CM (CD 2) (CM (CD 3) C_)))))) (te:=(CD 4)) U NH.nd (Bx (Ax Aa (Av (pv 0)) (pv 1))) (CS (by rfl)) (λ_ _ _ _ _=>BW (i:=4) NH.nd U (Or.inl U)) (λ_ _ _ _ _=>Pq (D_ (Bu (eU T) hr (AB (pv 4) (AB (pv 2) (AB (pv 3) AF)))))) (λ_ _ _ _ _=>(pv 4)))) AF)))),?_⟩;have kr:=T.BG;obtain⟨z,hz1,hz2,E2,EA,hz5⟩:=R.chain (by rw[S.c];exact hc);have zl:z.2.length<=1000:=by rw[EA,AA]at hz;exact hz
 refine⟨_,U,r,_,L.dx,_,V.ref L.ac,U,R.obj,kr.cl,kr.no _ (by simp),U,_,U,L.ac,_,_,_,U,U,A1.of R.lc,at_of U (BU hz1),z.1,U,⟨_,A1.of hz2⟩,λD hD=>?_⟩;refine JD (K:=K) (zs:=z.2) (A1.of hz2) (by omega) (by show 4<5;decide) hD (λy=>Vbdeag.asks cond q y.2) (λy=>V.ref y.1) (λy my H' hs R' hR=>?_) (λy _ _ H' hs R' hR=>⟨_,U,hR⟩) ?_
 ·refine⟨_,U,_,U,_,U,y.1,ka,y.2,cond,q,U,(E2 y my).same hs,hq.same hs,_,U,?_⟩;rw[Tu h6 kq (hk y.2 (by rw[EA];exact AG.mpr ⟨y,my,U⟩))];exact hR
 refine⟨D,_,U,.inl (A1.of AD),by show 1<=sizeLine;decide,λp np=>?_⟩;refine k _ p ((AO hD).trans (AO np)) ((AO hD).free np) ?_;rw[AD,EA,<-ED,AA,AA];rfl
end
theorem gg{ws:List Int}{w:Int}{s:Nat}(hs:s<=ws.length)(h1:∀z∈ws.take s,z<w+1)(h2:∀z∈ws.drop s,w+1<=z):(ws.filter λz=>decide (w<z)).length+s=ws.length:=by
 have e:ws.filter (λz=>decide (w<z))=ws.drop s:=by
  rw[<-Ci s ws,Cr,Jc.mpr λz hz q=>by have:=h1 z hz;have:=AX q;omega,Dh.mpr λz hz=>AM (by have:=h2 z hz;omega),FE,Ci]
 rw[e,A2];omega
theorem jY{ws:List Int}{w:Int}{s:Nat}(hp:ws.Pairwise (·<=·))(h1:∀z∈ws.take s,z<w+1)(h2:∀z∈ws.drop s,w+1<=z):(ws.take s++w::ws.drop s).Pairwise (·<=·):=by
 rw[<-Ci s ws,RN]at hp;rw[RN,Cs];refine⟨hp.1,⟨λz hz=>by have:=h2 z hz;omega,hp.2.1⟩,λa ha b hb=>?_⟩;rcases AN.mp hb with rfl|hb
 ·have:=h1 a ha;omega
 ·exact hp.2.2 a ha b hb
theorem rL{l:List Vbdeag.Entry}{e:Vbdeag.Entry}{ws:List Int}(hk:∀y∈l,Bh y.key)(he:Bh e.key)(hp:ws.Perm (l.map λy=>worth y.key)):(l.filter λy=>e.key.lt y.key).length=(ws.filter λz=>decide (worth e.key<z)).length:=by
 rw[(hp.filter _).length_eq,DI,AA]
 congr 1
 exact CJ λy hy=>IE he (hk y hy)
section
variable{P:Program}{w:World}{K:PySem.W.Frag}{mg:Str->Option Value}{base:Heap}
inductive XC(T:All w K mg)(vs:List V)(H:Hp)(Q:VK)(E:XK):Prop
 |mk(r:Addr)(c:Nat)(b:Vbdeag.Bank)(L:Lo):vs=[.ref r,.int c]->c<64->Ah T H r b L->Co L->(b.chain c).length<=1000->(∀e∈b.chain c,Bh e.key)->Tells H [(Vbdeag.disorder (b.chain c):Int)] Q->XC T vs H Q E
theorem gh(T:All w K mg):Ok P w base T.OD 2 (XC T):=by
 refine T.OD.go Iu λcdv A outer s H vs Q E hr h Cc=>?_;obtain⟨r,c,b,L,rfl,hc,R,S,hz,hk,k⟩:=h;refine⟨_,(AE (DJ Iu 2 Ag)
  (AE (DJ Iu 3 (BS AF))
  (AE (EK BK U (Bx (Ax Aa (Av (pv 0)) (pv 1))) (BW (i:=4) Iu.nd U (Or.inl U))
    (AE (DJ Iu 5 (Bu (Mm T) hr (AB (pv 3) (AB (CA EY (Bu (E5 T) hr (AB (pv 4) AF)) Ag) AF))))
    (AE (DJ Iu 2 (CA iE (CA EY (pv 2) (JI T.Cd (pv 3))) (pv 5)))
    (AK (C0 (GU PySem.F.plainAttrs_list PySem.F.slot_list_insert PySem.F.type_list_insert Vt (pv 3) (AB (pv 5) (AB (Bu (E5 T) hr (AB (pv 4) AF)) AF))))))))
  (AK (Am (BS (AB (pv 2) AF))))))),?_⟩
 have kr:=T.BG;obtain⟨z,hz1,hz2,E2,EA,hz5⟩:=R.chain (by rw[S.c];exact hc);have zl:z.2.length<=1000:=by rw[EA,AA]at hz;exact hz
 have hk':∀y∈z.2,Bh y.2.key:=λy hy=>hk y.2 (by rw[EA];exact AG.mpr ⟨y,hy,U⟩);refine⟨by show 0<=sizeLine;decide,λd nd=>?_⟩;have s1:A7 H (upd H d (.lst [])):=AO nd;have hd1:(upd H d (.lst [])) d=some (.lst []):=AD;generalize upd H d (.lst [])=H1 at s1 hd1⊢;have R1:=R.same s1;refine⟨_,U,r,_,L.dx,_,V.ref L.ac,U,R1.obj,kr.cl,kr.no _ (by simp),U,_,U,L.ac,_,_,_,U,U,A1.of R1.lc,at_of U (BU hz1),z.1,U,⟨_,A1.of (s1 _ _ hz2)⟩,?_⟩;refine FT (K:=K) (a:=z.1) (xs:=refs z.2) (λi σ H'=>A7 H H'/\∃(u v:Option V)(ws:List Int),σ=[some (.ref r),some (.int c),some (.int (Vbdeag.disorder ((z.2.take i).map (·.2)))),some (.ref d),u,v]/\H' d=some (.lst (ws.map V.int))/\ws.Pairwise (·<=·)/\ws.Perm (((z.2.take i).map (·.2)).map λy=>worth y.key))
  ⟨s1,none,none,[],U,hd1,List.Pairwise.nil,DB _⟩ (λi σ H' _ h=>h.1.seq (A1.of hz2)) ?_ ?_
 ·rintro i v σ H' hx ⟨sH,u,v',ws,rfl,hd,pw,pm⟩;obtain⟨y,hy,rfl⟩:=Ex hx;have my:=AS hy;have ey:=(E2 y my).same sH;have wl:ws.length<=1000:=by
   have:=pm.length_eq;rw[AA,AA,Bb]at this;omega
  refine⟨_,U,_,U,y.1,y.2,U,ey,_,_,U,U,d,_,ws,U,A1.of hd,by omega,pw,λsp h0 h1 h2=>?_⟩;have cnt:=gg h0 h1 h2;rw[<-rL (e:=y.2) (λq hq=>by obtain⟨q',hq',rfl⟩:=AG.mp hq;exact hk' q' (Ct hq')) (hk' y my) pm]at cnt;have ds:=Rt y.2 ((z.2.take i).map (·.2));refine⟨_,U,_,U,d,_,U,.inl (A1.of hd),_,_,U,U,_,U,_,_,U,U,?_⟩;refine⟨_,U,.inl ⟨U,_,A1.of hd⟩,_,U,_,U,y.1,y.2,U,ey,d,_,sp,_,U,U,hd,by rw[AA];exact h0,by rw[AA];omega,?_⟩;refine⟨A7.own sH nd,some (V.ref y.1),some (V.int sp),ws.take sp++worth y.2.key::ws.drop sp,?_,?_,jY pw h1 h2,?_⟩
  ·rw[take_snoc hy,As];show _=[some (V.ref r),some (V.int c),some (V.int ((Vbdeag.disorder (((z.2.take i).map (·.2))++[y.2]):Nat):Int)),some (V.ref d),some (V.ref y.1),some (V.int sp)];rw[ds];rw[AA];(have:((Vbdeag.disorder ((z.2.take i).map (·.2)):Int)+(ws.length:Int)-(sp:Int))=((Vbdeag.disorder ((z.2.take i).map (·.2))+(((z.2.take i).map (·.2)).filter λq=>y.2.key.lt q.key).length:Nat):Int):=by omega);rw[<-this];rfl
  ·rw[AD];simp
  ·rw[take_snoc hy,As,As];refine Hw.trans ?_;rw[Ci];exact(List.Perm.cons _ pm).trans (List.perm_append_singleton _ _).symm
 ·rintro σ H' ⟨sH,u,v',ws,rfl,hd,pw,pm⟩;rw[Al,BR,<-EA];refine⟨_,U,by show 1<=sizeLine;decide,λp np=>k _ p (sH.trans (AO np)) (sH.free np) ?_⟩;rw[AD];rfl
inductive qC(T:All w K mg)(vs:List V)(H:Hp)(Q:VK)(E:XK):Prop
 |mk(r:Addr)(c n:Nat)(b:Vbdeag.Bank)(L:Lo):vs=[.ref r,.int c,.int n]->c<64->Ah T H r b L->Co L->(b.chain c).length<=1000->(∀e∈b.chain c,Bh e.key)->Tells H (match (Vbdeag.sorted false (b.chain c))[n]? with|some e=>Vbdeag.shownEntry e|none=>[-6]) Q->qC T vs H Q E
theorem xS(T:All w K mg):Ok P w base T.iu 5 (qC T):=by
 refine T.iu.go w_ λcdv A outer s H vs Q E hr h Cc=>?_;obtain⟨r,c,n,b,L,rfl,hc,R,S,hz,hk,k⟩:=h;refine⟨_,(AE (B_ (BX iU (JI T.Cd (Ax Aa (Av (pv 0)) (pv 1))) (pv 2)) (AK (Am (BS (AB (Lg T.Sw) AF)))) Bc)
  (AK (Am (Bu (SA T) hr (AB (Ax Aa (Bu (WN T) hr (AB (Ax Aa (Av (pv 0)) (pv 1)) AF)) (pv 2)) AF))))),?_⟩
 have kr:=T.BG;obtain⟨z,hz1,hz2,E2,EA,hz5⟩:=R.chain (by rw[S.c];exact hc);have hk':∀y∈z.2,Bh y.2.key:=λy hy=>hk y.2 (by rw[EA];exact AG.mpr ⟨y,hy,U⟩);have sl:(Vbdeag.sorted false (b.chain c)).length=z.2.length:=by rw[(QT false (b.chain c)).length_eq,EA,AA]
 refine⟨_,U,r,_,L.dx,_,V.ref L.ac,U,R.obj,kr.cl,kr.no _ (by simp),U,_,U,L.ac,_,_,_,U,U,A1.of R.lc,at_of U (BU hz1),z.1,_,U,.inl (A1.of hz2),_,U,_,_,U,U,_,U,?_⟩;rw[Al];refine DL (λh=>?_) λh=>?_
 ·have h:(z.2.length:Int)<=(n:Int):=AX h;rw[CT (by omega)]at k;exact⟨by show 1<=sizeLine;decide,λp np=>k _ p (AO np) np AD⟩
 ·have h:¬(z.2.length:Int)<=(n:Int):=λq=>h (AM q);refine⟨_,U,r,_,L.dx,_,V.ref L.ac,U,R.obj,kr.cl,kr.no _ (by simp),U,_,U,L.ac,_,_,_,U,U,A1.of R.lc,at_of U (BU hz1),z.1,z.2,U,A1.of hz2,E2,hk',λp ws np w2 w3=>?_⟩;rw[<-EA]at w3;have wl:ws.length=z.2.length:=by have:=B5 List.length w3;rw[AA,sl]at this;exact this
  obtain⟨y,hy⟩:∃y,ws[n]?=some y:=⟨_,Ak (by omega)⟩;rw[<-w3,Ai,hy]at k;refine⟨_,U,p,_,_,_,U,U,A1.of AD,at_of U (BU hy),y.1,y.2,U,(E2 y (w2 y (AS hy))).same (AO np),λH' q s' nq e=>k H' q ((AO np).trans s') ((AO np).free nq) e⟩
inductive lG(T:All w K mg)(vs:List V)(H:Hp)(Q:VK)(E:XK):Prop
 |mk(r:Addr)(x:Nat)(b:Vbdeag.Bank)(L:Lo):vs=[.ref r,.int x]->Ah T H r b L->Co L->vZ b->(Vbdeag.everyone b).Nodup->(∀l∈b.chains,∀y∈l,Bh y.key)->Tells H (match b.chains.findSome? (Vbdeag.rankOf x)with|some n=>[(n:Int)]|none=>[-10]) Q->lG T vs H Q E
theorem uL(T:All w K mg):Ok P w base T.aZ 5 (lG T):=by
 refine T.aZ.go kY λcdv A outer s H vs Q E hr h Cc=>?_;obtain⟨r,x,b,L,rfl,R,S,B,nd,hk,k⟩:=h;refine⟨_,(AE (DJ kY 2 (Bu (QS T) hr (AB (pv 0) (AB (pv 1) AF))))
  (AE (B_ (BX U3 (Ax Aa (pv 2) Ag) Ag) (AK (Am (BS (AB (Lg T.J8) AF)))) Bc)
  (AK (Am (BS (AB (GU PySem.F.plainAttrs_list PySem.F.slot_list_index PySem.F.type_list_index dz (Bu (Y6 T) hr (AB (Bu (WN T) hr (AB (Ax Aa (Av (pv 0)) (Ax Aa (pv 2) Ag)) AF)) AF)) (AB (pv 1) AF)) AF)))))),?_⟩
 have kr:=T.BG;have F:Full b:=⟨by rw[R.bc,AA,S.c];decide,by rw[R.bp,AA,S.p];decide,by rw[R.bd,AA,S.d];decide⟩;refine⟨_,U,_,U,r,x,b,L,U,By _,R,Bj S.c,Bj S.p,Bj S.d,λH1 p s1 np ep=>?_⟩;rw[Bg]at ep;have R1:=R.same s1;obtain⟨kd,rs,e1,e2,e3⟩:=t_ F hk nd x;rw[e1]at ep;refine⟨_,U,p,_,_,.int kd,U,U,A1.of ep,at_of U rfl,U,_,U,DL (λh=>?_) λh=>?_⟩
 ·have h:kd≠2:=λq=>by rw[q]at h;exact absurd h (by decide)
  rw[e2 h]at k;exact⟨by show 1<=sizeLine;decide,λq nq=>k _ q (s1.trans (AO nq)) (s1.free nq) AD⟩
 ·have h:kd=2:=CF λq=>h (by show(!decide (V.int kd=V.int 2))=true;rw[dI,BJ q];rfl);obtain⟨n,i,rfl,n64,hx,er⟩:=e3 h;rw[er]at k;obtain⟨z,hz1,hz2,E2,EA,hz5⟩:=R1.chain (c:=n) (by rw[S.c];exact n64);have hk':∀y∈z.2,Bh y.2.key:=λy hy=>hk (b.chain n) (getD_mem (by rw[R.bc,AA,S.c];exact n64)) y.2 (by rw[EA];exact AG.mpr ⟨y,hy,U⟩);refine⟨_,U,r,_,L.dx,_,V.ref L.ac,U,R1.obj,kr.cl,kr.no _ (by simp),U,_,U,p,_,_,.int n,U,U,A1.of ep,at_of U rfl,L.ac,_,_,_,U,U,A1.of R1.lc,at_of U (BU hz1),z.1,z.2,U,A1.of hz2,E2,hk',λp2 ws np2 w2 w3=>?_⟩;rw[<-EA]at w3;have s2:A7 H1 (upd H1 p2 (.lst (refs ws))):=AO np2;refine⟨p2,CZ (·.id) ws,U,A1.of (by rw[C2];exact AD),λy hy=>?_,λd ndd=>?_⟩
  ·obtain⟨u,hu,rfl⟩:=C1 hy;exact((E2 u (w2 u hu)).same s2).who
  generalize upd H1 p2 (.lst (refs ws))=H2 at s2 ndd⊢;have ei:((CZ (·.id) ws).map λz=>V.int z.2)=(((CZ (·.id) ws).map (·.2))).map V.int:=by rw[An];rfl
  rw[ei];have s3:=AO (o:=.lst (((CZ (·.id) ws).map (·.2)).map V.int)) ndd;have ed:(upd H2 d (.lst (((CZ (·.id) ws).map (·.2)).map V.int))) d=some (.lst (((CZ (·.id) ws).map (·.2)).map V.int)):=AD;generalize upd H2 d (.lst (((CZ (·.id) ws).map (·.2)).map V.int))=H3 at s3 ed⊢;have en:((CZ (·.id) ws).map (·.2)).map Int.toNat=(Vbdeag.sorted false (b.chain n)).map λe=>e.id:=by
   rw[<-w3,An,<-Yb];rfl
  refine⟨.inl ⟨U,_,A1.of ed⟩,_,U,?_⟩;dsimp only[C_];show aK K _ _ _ _;have hm:x∈(Vbdeag.sorted false (b.chain n)).map λe=>e.id:=((QT false (b.chain n)).map _).mem_iff.mpr hx;refine fC (A1.of ed) (λq hq=>?_) (By _) ?_ ⟨by show 1<=sizeLine;decide,λo no=>k _ o (((s1.trans s2).trans s3).trans (AO no)) (s1.free (s2.free (s3.free no))) ?_⟩
  ·obtain⟨u,hu,rfl⟩:=AG.mp hq;obtain⟨v,_,rfl⟩:=C1 hu;exact By _
  ·rw[<-en]at hm;obtain⟨u,hu,e⟩:=AG.mp hm;obtain⟨v,hv,rfl⟩:=AG.mp hu;obtain⟨q,_,rfl⟩:=C1 hv;(have:((q.2.id:Nat):Int)=(x:Int):=by have:(q.2.id:Int).toNat=x:=e;omega);rw[<-this];exact hu
  ·rw[AD,Bg,en];rfl
end
section
variable{P:Program}{w:World}{K:PySem.W.Frag}{mg:Str->Option Value}{base:Heap}
theorem lH{v n:Int}{a c p d:Addr}:EO (Str.ofString "word") (V.int v) (IG n a c p d)=IG v a c p d:=rfl
theorem xT{n:Int}{a a' c p d:Addr}:EO (Str.ofString "watchers") (V.ref a') (IG n a c p d)=IG n a' c p d:=rfl
theorem xU{n:Int}{a c c' p d:Addr}:EO (Str.ofString "chains") (V.ref c') (IG n a c p d)=IG n a c' p d:=rfl
theorem xV{n:Int}{a c p p' d:Addr}:EO (Str.ofString "points") (V.ref p') (IG n a c p d)=IG n a c p' d:=rfl
theorem xW{n:Int}{a c p d d':Addr}:EO (Str.ofString "doors") (V.ref d') (IG n a c p d)=IG n a c p d':=rfl
inductive Q8(T:All w K mg)(vs:List V)(H:Hp)(Q:VK)(E:XK):Prop
 |mk(r:Addr)(b:Vbdeag.Bank)(L:Lo):vs=[.ref r]->Ah T H r b L->(∀(H':Hp)(L':Lo)(p:Addr),Co L'->Ah T H' r Vbdeag.start L'->BE H (L.foot r) H' (L'.foot r)->H' p=some (.lst ((Vbdeag.ids []).map V.int))->H p=none->p∉L'.foot r->Q (.ref p) H')->Q8 T vs H Q E
theorem Q9(T:All w K mg):Ok P w base T.J9 3 (Q8 T):=by
 refine T.J9.go Qp λcdv A outer s H vs Q E hr h Cc=>?_;obtain⟨r,b,L,rfl,R,k⟩:=h;refine⟨_,(AE (DJ Qp 1 (di T.BG.mak (Rz T) (hr.mono (by decide)) U T.BG.mg T.BG.bi .nil cV))
  (AE (Cp (pv 0) (Av (pv 1)) U)
  (AE (Cp (pv 0) (Av (pv 1)) U)
  (AE (Cp (pv 0) (Av (pv 1)) U)
  (AE (Cp (pv 0) (Av (pv 1)) U)
  (AE (Cp (pv 0) (Av (pv 1)) U)
  (AK (Am (Bu (Cn T) hr (AB (BS AF) AF)))))))))),?_⟩
 have kr:=T.BG;refineλx dx nx Qz nex=>⟨x,dx,U,AD,λH1 M RM SM keep new=>⟨U,?_⟩⟩;have s1:A7 H H1:=λa o e=>keep a o (by
  have h1:a≠x:=BY e nx;have h2:a≠dx:=BY e Qz;rw[Aj h1,Aj h2];exact e) (BY e nx)
 have R1:=R.same s1;have rx:r≠x:=BY R.obj nx;have n0:∀a∈M.foot x,H a=none:=λa ha=>(new a ha).elim (λe=>e▸nx) λe=>by
  cases q:H a with
  |none=>rfl
  |some o=>
   have h1:a≠x:=BY q nx;have h2:a≠dx:=BY q Qz;rw[Aj h1,Aj h2,q]at e;cases e
 have rn:r∉M.foot x:=λz=>by have:=n0 r z;rw[R.obj]at this;cases this
 have ox:∀o,(upd H1 r o) x=some (.ins T.Bw M.dx (IG 0 M.aw M.ac M.ap M.ad)):=λo=>by rw[Aj (CI rx)];exact RM.obj
 have few:(5:Nat)<1000:=by decide
 refine⟨_,U,x,_,M.dx,_,V.int 0,U,RM.obj,kr.cl,kr.no _ (by simp),U,_,U,r,_,L.dx,_,U,R1.obj,kr.cl,kr.no _ (by simp),few,?_⟩;rw[lH];refine⟨_,U,x,_,M.dx,_,V.ref M.aw,U,ox _,kr.cl,kr.no _ (by simp),U,_,U,r,_,L.dx,_,U,AD,kr.cl,kr.no _ (by simp),few,?_⟩;rw[Cj,xT];refine⟨_,U,x,_,M.dx,_,V.ref M.ac,U,ox _,kr.cl,kr.no _ (by simp),U,_,U,r,_,L.dx,_,U,AD,kr.cl,kr.no _ (by simp),few,?_⟩;rw[Cj,xU];refine⟨_,U,x,_,M.dx,_,V.ref M.ap,U,ox _,kr.cl,kr.no _ (by simp),U,_,U,r,_,L.dx,_,U,AD,kr.cl,kr.no _ (by simp),few,?_⟩;rw[Cj,xV];refine⟨_,U,x,_,M.dx,_,V.ref M.ad,U,ox _,kr.cl,kr.no _ (by simp),U,_,U,r,_,L.dx,_,U,AD,kr.cl,kr.no _ (by simp),few,?_⟩;rw[Cj,xW];have nd:(({M with dx:=L.dx}:Lo).foot r).Nodup:=by
  have h:=RM.nd;unfold Lo.foot at h rn⊢;rw[BQ]at h⊢;exact⟨λz=>rn (AV _ z),h.2⟩
 have R2:=R1.VA (b':=Vbdeag.start) (L':={M with dx:=L.dx}) RM.ww RM.lw RM.lc RM.lp RM.ld RM.cc RM.pp RM.dd nd RM.bw RM.bc RM.bp RM.bd U;have m2:BE H (L.foot r) (upd H1 r (.ins T.Bw L.dx (IG Vbdeag.start.word M.aw M.ac M.ap M.ad))) (({M with dx:=L.dx}:Lo).foot r):=(BE.same s1).set ME λa h=>by
  unfold Lo.foot at h;rcases AN.mp h with h|h
  ·exact .inl (by rw[h];exact ME)
  ·exact .inr (n0 a (by unfold Lo.foot;exact AV _ h))
 refine⟨by show 0<=sizeLine;exact AY _,λl hl=>⟨l,[],U,AD,AY _,λH' p s np e=>?_⟩⟩;exact k H' {M with dx:=L.dx} p ⟨SM.c,SM.p,SM.d⟩ ((R2.same (AO hl)).same s) (m2.trans (BE.same ((AO hl).trans s))) e (m2.free ((AO hl).free np)) ((R2.same (AO hl)).Cv np)
end
abbrev Rg:=Str×Int×Int
abbrev Fg:Rg:=("word",0,576460752303423487)
abbrev Ux:Rg:=("switch",0,58)
abbrev iy:Rg:=("how",0,2)
abbrev BC:Rg:=("number",0,63)
abbrev DK:Rg:=("who",1,1000000000)
abbrev MG:Rg:=("order",0,5)
abbrev Kv:Rg:=("cond",0,6)
abbrev r_flag:Rg:=("flag",0,1)
abbrev JM:Rg:=("many",1,1000)
abbrev bQ:Rg:=("kept",0,1000)
abbrev Uy:Rg:=("before",0,999)
abbrev qE:Rg:=("need",2,1000)
abbrev Xu:Rg:=("turns",0,1000000000)
abbrev Cf:Rg:=("top",-1000000000000000000,1000000000000000000)
abbrev Be:Rg:=("bottom",1,1000000000000000000)
def iz:List Rg:=[Fg,Ux,iy,BC,DK,MG,Kv,r_flag,JM,bQ,Uy,qE,Xu,Cf,Be]
def KW:List (List Rg):=[[Fg],[Ux,iy],[DK,Fg,Fg],[BC,DK,MG,Cf,Be],[BC,r_flag,JM,Kv,Cf,Be],[BC,BC,r_flag,JM,Kv,Cf,Be,MG],[BC,r_flag],[BC,Xu],[BC],[BC,BC],[BC,BC,bQ],[BC,DK,JM,Cf,Be],[BC,Cf,Be],[BC,DK,r_flag,Cf,Be],[DK],[],[BC],[BC],[BC],[DK],[BC,Kv,Cf,Be],[],[Fg],[],[Fg],[BC],[],[BC,Uy],[DK]]
def EW:List Rg:=[DK,Fg,Fg]
def CH:List Rg:=[DK,Cf,Be]
def Cg:List Rg:=[DK,Cf,Be,qE]
def CP:List Rg:=[DK,Cf,Be,r_flag]
def NX:List Rg:=[BC,JM]
def A_(r:Rg)(n:Int):Bool:=decide (r.2.1<=n)&&decide (n<=r.2.2)
def Ce:List Rg->List Int->Bool
 | [],[]=>true
 |r::rs,n::ns=>A_ r n&&Ce rs ns
 |_,_=>false
theorem WS:∀{rs:List Rg}{ns:List Int},rs.length≠ns.length->Ce rs ns=false
 | [],[],h=>absurd rfl h
 | [],_::_,_=>rfl
 |_::_,[],_=>rfl
 |r::rs,n::ns,h=>by
  show(A_ r n&&Ce rs ns)=false;rw[WS (λz=>h (by rw[Ab,Ab,z])),Ly]
theorem WT:∀{rs:List Rg}{ns:List Int},rs.length=ns.length->(Ce rs ns=true↔∀(i:Nat)(r:Rg)(n:Int),rs[i]?=some r->ns[i]?=some n->A_ r n=true)
 | [],[],_=>⟨λ_ i r n h=>(by cases h),λ_=>rfl⟩
 | [],_::_,h=>by cases h
 |_::_,[],h=>by cases h
 |r::rs,n::ns,h=>by
  show(A_ r n&&Ce rs ns)=true↔_;rw[AR,WT (VN h)];constructor
  ·rintro⟨h1,h2⟩ i r' n' hr hn;cases i with
   |zero=>cases hr;cases hn;exact h1
   |succ i=>exact h2 i r' n' hr hn
  ·exactλh=>⟨h 0 r n U rfl,λi r' n' hr hn=>h (i+1) r' n' hr hn⟩
section
variable{P:Program}{w:World}{K:PySem.W.Frag}{mg:Str->Option Value}{base:Heap}
theorem xX(T:All w K mg){r:Rg}(h:r∈iz):∃(kvs:List (Key×V))(e:Addr),II w K T.F9 kvs/\Es kvs (.inr r.1)=some (.ref e)/\Cw K e [.int r.2.1,.int r.2.2]:=by
 unfold iz at h;simp only[AN,Aq,JH]at h;rcases h with rfl|rfl|rfl|rfl|rfl|rfl|rfl|rfl|rfl|rfl|rfl|rfl|rfl|rfl|rfl
 ·exact⟨_,T.Gx,T.Dq,U,T.Sx⟩
 ·exact⟨_,T.Gy,T.Dq,U,T.Sy⟩
 ·exact⟨_,T.Gz,T.Dq,U,T.Sz⟩
 ·exact⟨_,T.G0,T.Dq,U,T.S0⟩
 ·exact⟨_,T.G1,T.Dq,U,T.S8⟩
 ·exact⟨_,T.G2,T.Dq,U,T.S9⟩
 ·exact⟨_,T.G3,T.Dq,U,T.S_⟩
 ·exact⟨_,T.G4,T.Dq,U,T.TF⟩
 ·exact⟨_,T.G5,T.Dq,U,T.TH⟩
 ·exact⟨_,T.G6,T.Dq,U,T.TJ⟩
 ·exact⟨_,T.Fz,T.Dq,U,T.QF⟩
 ·exact⟨_,T.F0,T.Dq,U,T.QG⟩
 ·exact⟨_,T.F3,T.Dq,U,T.QH⟩
 ·exact⟨_,T.F4,T.Dq,U,T.QI⟩
 ·exact⟨_,T.F5,T.Dq,U,T.QJ⟩
theorem lI(T:All w K mg){p:Nat}{rs:List Rg}(h:KW[p]?=some rs):∃(kvs:List (Key×V))(e:Addr),II w K T.ID kvs/\Es kvs (.inl (p:Int))=some (.ref e)/\Cw K e (rs.map λr=>V.str r.1):=by
 match p,h with
 |0,h=>cases h;exact⟨_,T.Ia,T.CQ,U,T.V6⟩
 |1,h=>cases h;exact⟨_,T.Ib,T.CQ,U,T.V7⟩
 |2,h=>cases h;exact⟨_,T.Ic,T.CQ,U,T.V8⟩
 |3,h=>cases h;exact⟨_,T.Ie,T.CQ,U,T.V9⟩
 |4,h=>cases h;exact⟨_,T.Ig,T.CQ,U,T.V_⟩
 |5,h=>cases h;exact⟨_,T.Ih,T.CQ,U,T.WA⟩
 |6,h=>cases h;exact⟨_,T.Ii,T.CQ,U,T.WB⟩
 |7,h=>cases h;exact⟨_,T.Ij,T.CQ,U,T.WC⟩
 |8,h=>cases h;exact⟨_,T.Ik,T.CQ,U,T.WD⟩
 |9,h=>cases h;exact⟨_,T.Il,T.CQ,U,T.WE⟩
 |10,h=>cases h;exact⟨_,T.G7,T.CQ,U,T.TM⟩
 |11,h=>cases h;exact⟨_,T.G8,T.CQ,U,T.TN⟩
 |12,h=>cases h;exact⟨_,T.G9,T.CQ,U,T.TQ⟩
 |13,h=>cases h;exact⟨_,T.G_,T.CQ,U,T.TR⟩
 |14,h=>cases h;exact⟨_,T.HA,T.CQ,U,T.TU⟩
 |15,h=>cases h;exact⟨_,T.HB,T.CQ,U,T.TV⟩
 |16,h=>cases h;exact⟨_,T.HC,T.CQ,U,T.TX⟩
 |17,h=>cases h;exact⟨_,T.HD,T.CQ,U,T.TY⟩
 |18,h=>cases h;exact⟨_,T.HE,T.CQ,U,T.TZ⟩
 |19,h=>cases h;exact⟨_,T.HF,T.CQ,U,T.Tc⟩
 |20,h=>cases h;exact⟨_,T.HG,T.CQ,U,T.Td⟩
 |21,h=>cases h;exact⟨_,T.HH,T.CQ,U,T.Te⟩
 |22,h=>cases h;exact⟨_,T.HJ,T.CQ,U,T.Tf⟩
 |23,h=>cases h;exact⟨_,T.HK,T.CQ,U,T.Tg⟩
 |24,h=>cases h;exact⟨_,T.HL,T.CQ,U,T.Th⟩
 |25,h=>cases h;exact⟨_,T.HM,T.CQ,U,T.Ti⟩
 |26,h=>cases h;exact⟨_,T.HN,T.CQ,U,T.Tj⟩
 |27,h=>cases h;exact⟨_,T.HP,T.CQ,U,T.Tn⟩
 |28,h=>cases h;exact⟨_,T.HQ,T.CQ,U,T.To⟩
 |p+29,h=>exact absurd h (by unfold KW;simp)
inductive Pz(T:All w K mg):Str->List Rg->Prop
 |lJ:Pz T "watcher" EW
 |entry:Pz T "entry" CH
 |P0:Pz T "guest" Cg
 |caller:Pz T "caller" CP
 |part:Pz T "part" NX
theorem qF(T:All w K mg){x:Str}{rs:List Rg}(h:Pz T x rs):∃(kvs:List (Key×V))(e:Addr),II w K T.Jp kvs/\Es kvs (.inr x)=some (.ref e)/\Cw K e (rs.map λr=>V.str r.1):=by
 cases h
 ·exact⟨_,T.Jq,T.RP,U,T.YT⟩
 ·exact⟨_,T.Jr,T.RP,U,T.YU⟩
 ·exact⟨_,T.Js,T.RP,U,T.YV⟩
 ·exact⟨_,T.Jt,T.RP,U,T.YW⟩
 ·exact⟨_,T.Ju,T.RP,U,T.YX⟩
theorem Cw.sq{a:Addr}{xs:List V}(h:Cw K a xs)(H:Hp):OM K H a xs:=.inr h
inductive LU(T:All w K mg)(vs:List V)(H:Hp)(Q:VK)(E:XK):Prop
 |mk(p:Nat)(rs:List Rg):vs=[.int p]->KW[p]?=some rs->Q (.int rs.length) H->LU T vs H Q E
theorem Rb(T:All w K mg):Ok P w base T.GC 1 (LU T):=by
 refine T.GC.go RY λcdv A outer s H vs Q E hr h Cc=>?_;obtain⟨p,rs,rfl,hp,k⟩:=h;refine⟨_,(AK (Am (JI T.Cd (Nk (KZ (v:=.ref _) U T.Xk U) (pv 0) (λ_ _=>rfl))))),?_⟩;obtain⟨kvs,e,D,hv,q⟩:=lI T hp;refine⟨_,U,T.ID,kvs,.inl (p:Int),.ref e,U,D,U,hv,e,_,U,.inr (q.sq H),?_⟩;rw[AA];exact k
def Kw(p:Int):Nat:=if p=22 then 4 else 0
inductive Mn(T:All w K mg)(vs:List V)(H:Hp)(Q:VK)(E:XK):Prop
 |mk(p:Int):vs=[.int p]->Q (.int (Kw p)) H->Mn T vs H Q E
theorem VR(T:All w K mg):Ok P w base T.Hs 1 (Mn T):=by
 refine T.Hs.go VP λcdv A outer s H vs Q E hr h Cc=>?_;obtain⟨p,rfl,k⟩:=h;refine⟨_,(AK (Am (qk (KZ (v:=.ref _) U T.b7 U) (pv 0) Ag ⟨U,U,U,U⟩))),?_⟩;refine⟨T.Jf,_,U,T.b9,T.b8,_,U,.inl p,U,?_⟩;have e:(Es [((.inl 22:Key),V.int 4)] (.inl p)).getD (.int 0)=.int (Kw p:Nat):=by
  unfold Kw;by_cases h:p=22
  ·subst h;rfl
  ·rw[F8 (λz=>h (Mc z).symm),AI h];rfl
 rw[e];exact k
inductive SI(T:All w K mg)(vs:List V)(H:Hp)(Q:VK)(E:XK):Prop
 |mk(x:Str)(rs:List Rg):vs=[.str x]->Pz T x rs->Q (.int rs.length) H->SI T vs H Q E
theorem NO(T:All w K mg):Ok P w base T.LC 1 (SI T):=by
 refine T.LC.go Zs λcdv A outer s H vs Q E hr h Cc=>?_;obtain⟨x,rs,rfl,hp,k⟩:=h;refine⟨_,(AK (Am (JI T.Cd (Nk (KZ (v:=.ref _) U T.ah U) (pv 0) (λ_ _=>rfl))))),?_⟩;obtain⟨kvs,e,D,hv,q⟩:=qF T hp;refine⟨_,U,T.Jp,kvs,.inr x,.ref e,U,D,U,hv,e,_,U,.inr (q.sq H),?_⟩;rw[AA];exact k
inductive VF(T:All w K mg)(vs:List V)(H:Hp)(Q:VK)(E:XK):Prop
 |mk(a b:Addr)(rs:List Rg)(ns:List Int):vs=[.ref a,.ref b]->(∀r∈rs,r∈iz)->Cw K a (rs.map λr=>V.str r.1)->A1 K H b (ns.map V.int)->(∀H',A7 H H'->Q (.bl (Ce rs ns)) H')->VF T vs H Q E
theorem VG(T:All w K mg):Ok P w base T.MW 1 (VF T):=by
 refine T.MW.go Oe λcdv A outer s H vs Q E hr h Cc=>?_;obtain⟨a,b,rs,ns,rfl,hr',ha,hb,k⟩:=h;refine⟨_,(AE (B_ (BX U3 (JI T.Cd (pv 0)) (JI T.Cd (pv 1))) (AK (Am Ip)) Bc)
  (AE (EK BK U (tT U T.oZ (AB (pv 0) (AB (pv 1) AF))) (NZ U (Dd (BW (i:=2) Oe.nd U (Or.inl U)) (Dd (BW (i:=3) Oe.nd U (Or.inl U)) Ka)))
    (AK (B_ (PW.pt (U1 (BX RW (pv 3) (Ax pH (Nk (KZ (v:=.ref _) U T.Uo U) (pv 2) (λ_ _=>rfl)) Ag)) (Oz (BX K_ (pv 3) (Ax pH (Nk (KZ (v:=.ref _) U T.Uo U) (pv 2) (λ_ _=>rfl)) Ag))))) (AK (Am Ip)) Bc)))
  (AK (Am Ip)))),?_⟩
 refine⟨_,U,a,_,U,.inr (ha.sq H),_,U,b,_,U,.inl hb,U,_,U,?_⟩;rw[AA,AA];refine DL (λh=>?_) λh=>?_
 ·have hl:rs.length≠ns.length:=λz=>by rw[z]at h;exact absurd h (by rw[AM U];decide)
  rw[WS hl]at k;exact k H (A7.refl H)
 have hl:rs.length=ns.length:=CF λz=>h (by rw[dI,BJ (λq=>z (by omega))];rfl);refine⟨_,U,_,U,a,b,_,_,U,ha.sq H,hb,Qi (J:=vS K a b) (n:=rs.length) (λi=>[((rs.map λr=>V.str r.1)[i]?).getD .DX,((ns.map V.int)[i]?).getD .DX]) (λi σ H'=>A7 H H'/\(∃u v:Option V,σ=[some (.ref a),some (.ref b),u,v])/\∀(j:Nat)(r:Rg)(n:Int),j<i->rs[j]?=some r->ns[j]?=some n->A_ r n=true) ⟨A7.refl H,⟨_,_,U⟩,λj r n hj=>absurd hj (FF j)⟩
  (λi σ H' _ ⟨e,_⟩=>?_) ?_ ?_⟩
 ·have h1:=ha.sq H';have h2:=e.seq hb;refine⟨λl=>⟨_,_,V.str (rs[i]).1,V.int (ns[i]'(by omega)),h1,h2,by rw[Ai,Ak l];rfl,by rw[Ai,Ak (by omega)];rfl⟩,λl=>⟨_,_,h1,h2,by rw[AA];exact l.symm⟩,λv H2 ⟨t,x,y,ev,nt,eH,k1,k2⟩=>⟨t,ev,nt,?_⟩⟩;rw[k1 _ h1,k2 _ h2];exact eH
 ·rintro i σ H' t hi ⟨e,⟨u,v,rfl⟩,no⟩ nt;obtain⟨r,sQ⟩:∃r,rs[i]?=some r:=⟨_,Ak hi⟩;obtain⟨n,hni⟩:∃n,ns[i]?=some n:=⟨_,Ak (by omega)⟩;rw[Ai,Ai,sQ,hni];show yU K 2 _ (.ref t) _ (upd H' t (.tup [.str r.1,.int n])) _;have e1:=e.trans (AO (o:=.tup [.str r.1,.int n]) nt);refine⟨t,_,U,OM.of AD,U,_,_,U,_,_,U,U,?_⟩;generalize upd H' t (.tup [.str r.1,.int n])=H3 at e1⊢;obtain⟨kvs,q,D,hv,ht⟩:=xX T (hr' r (AS sQ));refine⟨_,U,_,U,T.F9,kvs,.inr r.1,.ref q,U,D,U,hv,q,_,_,.int r.2.1,U,U,ht.sq H3,at_of U rfl,_,_,U,U,_,U,?_⟩;have bad:A_ r n=false->Q (.bl false) H3:=λhb'=>by
   have:Ce rs ns=false:=by
    cases ho:Ce rs ns with
    |false=>rfl
    |true=>rw[(WT hl).mp ho i r n sQ hni]at hb';cases hb'
   rw[this]at k;exact k H3 e1
  refine DL (λh=>?_) λh=>?_
  ·dsimp only;rw[AJ U];exact bad (by unfold A_;rw[BJ (by have:=AX h;omega),Dc])
  ·refine⟨_,U,_,U,T.F9,kvs,.inr r.1,.ref q,U,D,U,hv,q,_,_,.int r.2.2,U,U,ht.sq H3,at_of U rfl,_,_,U,U,_,U,DL (λh2=>?_) λh2=>?_⟩
   ·exact bad (by unfold A_;rw[BJ (show¬n<=r.2.2 by have:=AX h2;omega),Ly])
   ·refine⟨e1,⟨_,_,U⟩,λj r' n' hj hr2 hn2=>?_⟩;by_cases ej:j=i
    ·subst ej;rw[sQ]at hr2;rw[hni]at hn2;cases hr2;cases hn2;unfold A_;rw[AM (show r.2.1<=n by have:¬n<r.2.1:=λz=>h (AM z);omega),AM (show n<=r.2.2 by have:¬r.2.2<n:=λz=>h2 (AM z);omega)];rfl
    ·exact no j r' n' (by omega) hr2 hn2
 ·rintro σ H' ⟨e,⟨u,v,rfl⟩,no⟩;have:Ce rs ns=true:=(WT hl).mpr λi r n sQ hni=>no i r n (AZ.mp sQ).1 sQ hni;rw[this]at k;exact k H' e
inductive Nr(T:All w K mg)(vs:List V)(H:Hp)(Q:VK)(E:XK):Prop
 |mk(p:Nat)(b:Addr)(rs:List Rg)(ns:List Int):vs=[.int p,.ref b]->KW[p]?=some rs->A1 K H b (ns.map V.int)->(∀H',A7 H H'->Q (.bl (Ce rs ns)) H')->Nr T vs H Q E
theorem uM{p:Nat}{rs:List Rg}(h:KW[p]?=some rs):∀r∈rs,r∈iz:=by
 have:∀l∈KW,∀r∈l,r∈iz:=by decide +kernel
 exact this rs (AS h)
theorem Wd(T:All w K mg):Ok P w base T.IW 2 (Nr T):=by
 refine T.IW.go WZ λcdv A outer s H vs Q E hr h Cc=>?_;obtain⟨p,b,rs,ns,rfl,hp,hb,k⟩:=h;refine⟨_,(AK (Am (Bu (VG T) hr (AB (Nk (KZ (v:=.ref _) U T.Xk U) (pv 0) (λ_ _=>rfl)) (AB (pv 1) AF))))),?_⟩;obtain⟨kvs,e,D,hv,q⟩:=lI T hp;exact⟨_,U,T.ID,kvs,.inl (p:Int),.ref e,U,D,U,hv,_,U,e,b,rs,ns,U,uM hp,q,hb,k⟩
inductive O9(T:All w K mg)(vs:List V)(H:Hp)(Q:VK)(E:XK):Prop
 |mk(x:Str)(b:Addr)(rs:List Rg)(ns:List Int):vs=[.str x,.ref b]->Pz T x rs->A1 K H b (ns.map V.int)->(∀H',A7 H H'->Q (.bl (Ce rs ns)) H')->O9 T vs H Q E
theorem xY{T:All w K mg}{x:Str}{rs:List Rg}(h:Pz T x rs):∀r∈rs,r∈iz:=by cases h<;>decide +kernel
theorem Ky(T:All w K mg):Ok P w base T.JQ 2 (O9 T):=by
 refine T.JQ.go X7 λcdv A outer s H vs Q E hr h Cc=>?_;obtain⟨x,b,rs,ns,rfl,hp,hb,k⟩:=h;refine⟨_,(AK (Am (Bu (VG T) hr (AB (Nk (KZ (v:=.ref _) U T.ah U) (pv 0) (λ_ _=>rfl)) (AB (pv 1) AF))))),?_⟩;obtain⟨kvs,e,D,hv,q⟩:=qF T hp;exact⟨_,U,T.Jp,kvs,.inr x,.ref e,U,D,U,hv,_,U,e,b,rs,ns,U,xY hp,q,hb,k⟩
end
def GP(H:Hp)(a:Addr)(rows:List (List Int)):Prop:=∃rs:List (Addr×List Int),H a=some (.lst (refs rs))/\rs.map (·.2)=rows/\∀r∈rs,H r.1=some (.lst (r.2.map V.int))
theorem GP.same{H H':Hp}{a:Addr}{rows:List (List Int)}(s:A7 H H')(h:GP H a rows):GP H' a rows:=by
 obtain⟨rs,h1,h2,h3⟩:=h;exact⟨rs,s _ _ h1,h2,λr hr=>s _ _ (h3 r hr)⟩
def cI(H H':Hp)(a:Addr)(rows:List (List Int)):Prop:=∃rs:List (Addr×List Int),H a=none/\H' a=some (.lst (refs rs))/\rs.map (·.2)=rows/\∀r∈rs,H' r.1=some (.lst (r.2.map V.int))/\H r.1=none
theorem cI.at_{H H':Hp}{a:Addr}{rows:List (List Int)}(h:cI H H' a rows):GP H' a rows:=by
 obtain⟨rs,_,h1,h2,h3⟩:=h;exact⟨rs,h1,h2,λr hr=>(h3 r hr).1⟩
abbrev Part:=Int×List (List Int)
def XO(F:Addr->Prop)(H:Hp)(a:Addr)(rows:List (List Int)):Prop:=∃rs:List (Addr×List Int),F a/\H a=some (.lst (refs rs))/\rs.map (·.2)=rows/\∀r∈rs,H r.1=some (.lst (r.2.map V.int))/\F r.1
def IB(F:Addr->Prop)(H:Hp)(a:Addr)(ps:List Part):Prop:=∃qs:List (Addr×Part),F a/\H a=some (.lst (refs qs))/\qs.map (·.2)=ps/\∀q∈qs,F q.1/\∃la,H q.1=some (.tup [.int q.2.1,.ref la])/\XO F H la q.2.2
theorem XO.keep{F G:Addr->Prop}{H H':Hp}{a:Addr}{rows:List (List Int)}(k:∀x o,F x->H x=some o->H' x=some o/\G x)(h:XO F H a rows):XO G H' a rows:=by
 obtain⟨rs,h0,h1,h2,h3⟩:=h;exact⟨rs,(k _ _ h0 h1).2,(k _ _ h0 h1).1,h2,λr hr=>k _ _ (h3 r hr).2 (h3 r hr).1⟩
theorem IB.keep{F G:Addr->Prop}{H H':Hp}{a:Addr}{ps:List (Int×List (List Int))}(k:∀x o,F x->H x=some o->H' x=some o/\G x)(h:IB F H a ps):IB G H' a ps:=by
 obtain⟨qs,h0,h1,h2,h3⟩:=h;refine⟨qs,(k _ _ h0 h1).2,(k _ _ h0 h1).1,h2,λq hq=>?_⟩;obtain⟨f,la,e1,e2⟩:=h3 q hq;exact⟨(k _ _ f e1).2,la,(k _ _ f e1).1,e2.keep k⟩
theorem XO.at_{F:Addr->Prop}{H:Hp}{a:Addr}{rows:List (List Int)}(h:XO F H a rows):GP H a rows:=by
 obtain⟨rs,_,h1,h2,h3⟩:=h;exact⟨rs,h1,h2,λr hr=>(h3 r hr).1⟩
def Ke(H:Hp)(a:Addr)(ps:List Part):Prop:=∃qs:List (Addr×Part),H a=some (.lst (refs qs))/\qs.map (·.2)=ps/\∀q∈qs,∃la,H q.1=some (.tup [.int q.2.1,.ref la])/\GP H la q.2.2
theorem Ke.same{H H':Hp}{a:Addr}{ps:List Part}(s:A7 H H')(h:Ke H a ps):Ke H' a ps:=by
 obtain⟨qs,h1,h2,h3⟩:=h;refine⟨qs,s _ _ h1,h2,λq hq=>?_⟩;obtain⟨la,e1,e2⟩:=h3 q hq;exact⟨la,s _ _ e1,e2.same s⟩
theorem IB.at_{F:Addr->Prop}{H:Hp}{a:Addr}{ps:List Part}(h:IB F H a ps):Ke H a ps:=by
 obtain⟨qs,_,h1,h2,h3⟩:=h;refine⟨qs,h1,h2,λq hq=>?_⟩;obtain⟨_,la,e1,e2⟩:=h3 q hq;exact⟨la,e1,e2.at_⟩
theorem UC(ns:List Int){i k:Nat}:PN (ns.map V.int) (some (i:Int)) (some ((i:Int)+(k:Int)))=((ns.drop i).take k).map V.int:=by
 have e1:((i:Int)+(k:Int))=((i+k:Nat):Int):=by omega
 unfold PN;rw[e1,HT.XW,HT.XW,AA,<-EZ,<-DW]
 congr 1
 by_cases h:i<=ns.length
 ·rw[FG h];by_cases h2:i+k<=ns.length
  ·rw[FG h2,DS]
  ·rw[Hy (by omega),De (by rw[A2];exact AU _),De (by rw[A2];omega)]
 ·rw[Hy (by omega),Hy (by omega),Nat.sub_self,JV,Eb (by omega:ns.length<=i),List.take_nil]
theorem oE{lo c:Int}{n:Nat}{g:TG}{tt:TT}{te:TE}{vs:List Nat}{σ:L2.St}{H1:Hp}{D:Addr}{Qd:Hp->Prop}(Pv:Nat->Hp->Prop)(h0:Pv 0 (upd H1 D (.lst [])))
 (hs:∀i H,i<n->Pv i H->g (.int (lo+(i:Nat)*c)) (wipe σ vs) H λσ2 H2=>wipe σ2 vs=wipe σ vs/\tt σ2 H2 λb H3=>
   if b=true then te σ2 H3 λy H4=>∃acc,H4 D=some (.lst acc)/\acc.length<sizeLine/\Pv (i+1) (upd H4 D (.lst (acc++[y])))else Pv (i+1) H3) (hd:∀H,Pv n H->Qd H):
 ∃W:Nat->Nat->Hp->Prop,(∃m,W 0 m (upd H1 D (.lst [])))/\∀i m H,W i m H->
  ((wU lo c n).stop i H/\Qd H)\/((wU lo c n).go i H/\∃Nx:Hp->Prop,(∀H',Nx H'->∃m',m'<m/\W (i+1) m' H')/\∀x H',(wU lo c n).Vk i H x H'->g x (wipe σ vs) H' λσ2 H2=>wipe σ2 vs=wipe σ vs/\tt σ2 H2 λb H3=>
    if b=true then te σ2 H3 λy H4=>∃acc,H4 D=some (.lst acc)/\acc.length<sizeLine/\Nx (upd H4 D (.lst (acc++[y])))else Nx H3):=by
 refine⟨λi m H=>m=n-i/\i<=n/\Pv i H,⟨n,by simp,AY _,h0⟩,?_⟩;rintro i m H ⟨rfl,hi,p⟩;by_cases hlt:i<n
 ·refine .inr ⟨hlt,Pv (i+1),λH' p'=>⟨n-(i+1),by omega,U,hlt,p'⟩,λx H' y=>?_⟩;obtain⟨e,y⟩:=y;subst e y;exact hs i _ hlt p
 ·have e:i=n:=by omega
  subst e;exact .inl ⟨AU _,hd H p⟩
section
variable{P:Program}{w:World}{K:PySem.W.Frag}{mg:Str->Option Value}{base:Heap}
inductive Y8(T:All w K mg)(vs:List V)(H:Hp)(Q:VK)(E:XK):Prop
 |mk(a:Addr)(k:Nat)(ns:List Int):vs=[.ref a,.int k]->1<=k->k<=4->H a=some (.lst (ns.map V.int))->ns.length<=17000->(∀(H':Hp)(p:Addr),A7 H H'->cI H H' p (Bq k ns)->Q (.ref p) H')->Y8 T vs H Q E
theorem Y9(T:All w K mg):Ok P w base T.Qk 1 (Y8 T):=by
 refine T.Qk.go Tp λcdv A outer s H vs Q E hr h Cc=>?_;obtain⟨a,k,ns,rfl,k1,k4,ha,hl,kk⟩:=h;refine⟨_,(AK (Am (Fi (own:=[("at",2)]) (tt:=GY) (te:=(yW (rj K) (CD 0) (cO (CD 2)) (cO (L6 (aA λi j=>.int (i+j)) (CD 2) (CD 1))))) U Tp.nd (mJ U T.MA (AB Ag (AB (JI T.Cd (pv 0)) (AB (pv 1) AF)))) (CS (by rfl)) (λ_ _ _ _ _=>BW (i:=2) Tp.nd U (Or.inl U)) (λ_ _ _ _ _=>Dt) (λ_ _ _ _ _=>(FU Gs (pv 0) (ER (pv 2)) (ER (CA EY (pv 2) (pv 1)))))))),?_⟩;have rl:=YZ k1 _ ns (AU _);have sz:Builtin.Range.rangeSize 0 (ns.length:Int) (k:Int)=((Bq k ns).length:Int):=by
  rw[rl];unfold Builtin.Range.rangeSize;rw[AJ (by omega)];by_cases h:ns.length=0
  ·rw[h,AI (by simp),J6 (by omega)];rfl
  ·rw[AJ (by omega)];(have e1:((ns.length:Int)-0-1)=((ns.length-1:Nat):Int):=by omega);(have e2:ns.length+k-1=(ns.length-1)+k:=by omega);rw[e1,e2,My _ (by omega)];rfl
 refine⟨_,U,a,_,U,.inl (A1.of ha),_,U,0,ns.length,k,(Bq k ns).length,by rw[AA],⟨by omega,by omega,?_,sz⟩,λD hD=>?_⟩
 ·unfold Builtin.Range.small;rw[sz];have:(Bq k ns).length<=17000:=N2 λz=>by have:=Xm k1 z;have:=JJ 17000 k1;omega
  have fit:∀z:Int,0<=z->z<=100000->Builtin.Range.rangeFitsLong z=true:=λz h1 h2=>by
   unfold Builtin.Range.rangeFitsLong;rw[AR];exact⟨AM (by omega),AM (by omega)⟩
  rw[fit 0 (by decide) (by decide),fit ns.length (by omega) (by omega),fit k (by omega) (by omega),fit (Bq k ns).length (by omega) (by omega),AJ (by omega),fit ((ns.length:Int)+((k:Int)-1)) (by omega) (by omega),Bool.or_true];rfl
 refine oE (Pv:=λj H'=>∃rs:List (Addr×List Int),A7 H H'/\H' D=some (.lst (refs rs))/\rs.map (·.2)=(Bq k ns).take j/\∀r∈rs,H' r.1=some (.lst (r.2.map V.int))/\r.1≠D/\H r.1=none) ⟨[],AO hD,AD,U,λr hr=>absurd hr Aq⟩ (λi H' hi ⟨rs,e,d,em,er⟩=>?_) λH' ⟨rs,e,d,em,er⟩=>?_
 ·have hik:=Xm k1 hi;refine⟨U,?_⟩;unfold GY;dsimp only;rw[AJ U];refine⟨_,U,_,U,_,U,_,U,_,U,_,_,U,U,_,U,a,_,U,A1.of (e _ _ ha),λp np=>?_⟩;have e0:(0:Int)+(i:Int)*(k:Int)=((i*k:Nat):Int):=by rw[Int.zero_add];exact(Int.natCast_mul i k).symm
  rw[e0,UC];have pZ:p≠D:=(BY d np).symm;have rsl:rs.length<=17000:=by
   have:=B5 List.length em;rw[AA,Bb]at this;(have:(Bq k ns).length<=17000:=N2 λz=>by have:=Xm k1 z;have:=JJ 17000 k1;omega);omega
  refine⟨refs rs,AO np _ _ d,by rw[Al];omega,rs++[(p,(ns.drop (i*k)).take k)],A7.own (e.trans (AO np)) hD,by rw[AD,Dr];rfl,?_,λr hr=>?_⟩
  ·rw[As,em,take_snoc (k6 k1 i ns hik)];rfl
  ·rcases AQ.mp hr with hr|hr
   ·obtain⟨u1,u2,u3⟩:=er r hr;exact⟨by rw[Aj u2];exact AO np _ _ u1,u2,u3⟩
   ·rw[Af.mp hr];exact⟨by rw[Aj pZ];exact AD,pZ,e.free np⟩
 ·rw[BR]at em;exact kk H' D e ⟨rs,hD,d,em,λr hr=>⟨(er r hr).1,(er r hr).2.2⟩⟩
end
theorem fV{K:PySem.W.Frag}{a:Addr}{j i:Nat}{H0:Hp}{rs:List (Addr×List Int)}{tb:TS}{D:Ends}{σ:L2.St}{ok:List Int->Bool}(Ps:L2.St->Prop)(hp:Ps σ)(hi:∀σ,Ps σ->∀v,Ps (σ.set i (some v)))(hj:σ[j]?=some (some (.ref a)))
 (ha:H0 a=some (.lst (refs rs))) (hr:∀r∈rs,H0 r.1=some (.lst (r.2.map V.int)))
 (hb:∀r∈rs,∀(σ:L2.St)(H':Hp)(N B C:L2.St->Hp->Prop),A7 H0 H'->Ps σ->σ[i]?=some (some (.ref r.1))->(ok r.2=true->∀H2,A7 H' H2->N σ H2)->(ok r.2=false->∀H2,A7 H' H2->D.rt (.bl false) H2)->tb {D with nx:=N,ct:=C,bk:=B} σ H')
 (hl:∀σ,Ps σ->i<σ.length)
 (hk:rs.all (λr=>ok r.2)=true->∀σ H',A7 H0 H'->Ps σ->D.nx σ H') (hf:rs.all (λr=>ok r.2)=false->∀H',A7 H0 H'->D.rt (.bl false) H'):
 vL (oO K (CD j)) (KU i) tb D σ H0:=by
 refine⟨_,hj,a,U,⟨_,A1.of ha⟩,FT (K:=K) (a:=a) (xs:=refs rs) (λn σ H'=>A7 H0 H'/\Ps σ/\∀r∈rs.take n,ok r.2=true) ⟨A7.refl H0,hp,λr hr=>absurd hr (by simp)⟩ (λn σ H' _ h=>h.1.seq (A1.of ha)) ?_ ?_⟩
 ·rintro n x σ H' hx ⟨e,ps,no⟩;obtain⟨r,hr1,rfl⟩:=Ex hx;refine hb r (AS hr1) _ H' _ _ _ e (hi σ ps _) (Cz (hl σ ps)) (λh H2 e2=>⟨e.trans e2,hi σ ps _,λr' hr'=>?_⟩) λh H2 e2=>hf ?_ H2 (e.trans e2)
  ·rw[take_snoc hr1]at hr';rcases AQ.mp hr' with m|m
   ·exact no r' m
   ·rw[Af.mp m];exact h
  ·cases q:rs.all (λr=>ok r.2)with
   |false=>rfl
   |true=>rw[A0.mp q r (AS hr1)]at h;cases h
 ·rintro σ H' ⟨e,ps,no⟩;rw[Al,BR]at no;exact hk (A0.mpr no) σ H' e ps
theorem qG{r1 r2 r3:Rg}{ns:List Int}(h:Ce [r1,r2,r3] ns=true):∃x y z,ns=[x,y,z]/\A_ r1 x=true/\A_ r2 y=true/\A_ r3 z=true:=by
 match ns,h with
 | [x,y,z],h=>
   simp only[Ce,AR,BI]at h;exact⟨x,y,z,U,h.1,h.2.1,h.2.2⟩
 | [],h=>cases h
 | [_],h=>simp[Ce]at h
 | [_,_],h=>simp[Ce]at h
 |_::_::_::_::_,h=>simp[Ce]at h
theorem qH{r1 r2 r3 r4:Rg}{ns:List Int}(h:Ce [r1,r2,r3,r4] ns=true):∃x y z u,ns=[x,y,z,u]/\A_ r1 x=true/\A_ r2 y=true/\A_ r3 z=true/\A_ r4 u=true:=by
 match ns,h with
 | [x,y,z,u],h=>
   simp only[Ce,AR,BI]at h;exact⟨x,y,z,u,U,h.1,h.2.1,h.2.2.1,h.2.2.2⟩
 | [],h=>cases h
 | [_],h=>simp[Ce]at h
 | [_,_],h=>simp[Ce]at h
 | [_,_,_],h=>simp[Ce]at h
 |_::_::_::_::_::_,h=>simp[Ce]at h
theorem B3{r:Rg}{n:Int}:A_ r n=true↔r.2.1<=n/\n<=r.2.2:=by
 unfold A_;rw[AR,Br,Br]
def Gv(v:Nat)(r:List Int):Bool:=Ce EW r&&(decide ((r.getD 2 0).toNat&&&(r.getD 1 0).toNat=(r.getD 2 0).toNat)&&!decide (v&&&(r.getD 1 0).toNat=(r.getD 2 0).toNat&&&(r.getD 1 0).toNat))
def BZ(rs:List Rg)(r:List Int):Bool:=Ce rs r&&decide (Nat.gcd (r.getD 1 0).natAbs (r.getD 2 0).toNat=1)
section
variable{P:Program}{w:World}{K:PySem.W.Frag}{mg:Str->Option Value}{base:Heap}
inductive Mp(T:All w K mg)(vs:List V)(H:Hp)(Q:VK)(E:XK):Prop
 |mk(v:Nat)(a:Addr)(rows:List (List Int)):vs=[.int v,.ref a]->GP H a rows->(∀H',A7 H H'->Q (.bl (rows.all (Gv v)&&decide (rows.length<=1000))) H')->Mp T vs H Q E
theorem VS(T:All w K mg):Ok P w base T.Hu 3 (Mp T):=by
 refine T.Hu.go Mh λcdv A outer s H vs Q E hr h Cc=>?_;obtain⟨v,a,rows,rfl,⟨rs,ha,rfl,hrs⟩,k⟩:=h;refine⟨_,(AE (EK BK U (Bx (pv 1)) (BW (i:=2) Mh.nd U (Or.inl U))
  (AE (B_ (Hz (D_ (Bu (Ky T) hr (AB Kh (AB (pv 2) AF))))) (AK (Am Ip)) Bc)
  (AK (B_ (PW.pt (U1 (Hz (D_ (Bu (VD T) hr (AB (Ax Aa (pv 2) Ag) (AB (Ax Aa (pv 2) Ag) AF))))) (Oz (D_ (Bu (WM T) hr (AB (pv 0) (AB (Ax Aa (pv 2) Ag) (AB (Ax Aa (pv 2) Ag) AF)))))))) (AK (Am Ip)) Bc))))
  (AK (Am (Iv iU (JI T.Cd (pv 1)) (Lg T.L_))))),?_⟩
 rw[F_]at k;refine fV (K:=K) (ok:=Gv v) (λσ=>∃u:Option V,σ=[some (.int v),some (.ref a),u]) ⟨_,U⟩ (λσ ⟨u,e⟩ x=>⟨some x,by rw[e];rfl⟩) U ha hrs (λr mr σ H' N B C e ⟨u,es⟩ hi kt kf=>?_) (λσ ⟨u,e⟩=>by rw[e];show 2<3;decide) (λh σ H' e ⟨u,es⟩=>?_) λh H' e=>?_
 ·subst es;cases hi;have hr1:=e _ _ (hrs r mr);refine⟨_,U,_,r.1,EW,r.2,U,.lJ,A1.of hr1,λH2 e2=>⟨_,U,?_⟩⟩;cases ho:Ce EW r.2 with
  |false=>exact F7 (kf (by unfold Gv;rw[ho,Dc]) H2 e2)
  |true=>
   obtain⟨x,m,z,er,_,hm,hz⟩:=qG ho;rw[B3]at hm hz;have hm:(0:Int)<=m:=hm.1;have hz:(0:Int)<=z:=hz.1;have hr2:=e2 _ _ hr1;rw[er]at hr2;have wo:Gv v r.2=(decide (z.toNat&&&m.toNat=z.toNat)&&!decide (v&&&m.toNat=z.toNat&&&m.toNat)):=by
    unfold Gv;rw[ho,CL,er];rfl
   have em:((m.toNat:Nat):Int)=m:=CC hm;have ez:((z.toNat:Nat):Int)=z:=CC hz;refine GZ ?_;refine⟨_,U,r.1,_,_,.int m,U,U,A1.of hr2,at_of U rfl,_,U,r.1,_,_,.int z,U,U,A1.of hr2,at_of U rfl,m.toNat,z.toNat,by rw[em,ez];rfl,_,U,?_⟩;cases hc:decide (z.toNat&&&m.toNat=z.toNat)with
   |false=>exact F7 (F7 (kf (by rw[wo,hc,Dc]) H2 e2))
   |true=>
    refine GZ ⟨_,U,_,U,r.1,_,_,.int m,U,U,A1.of hr2,at_of U rfl,_,U,r.1,_,_,.int z,U,U,A1.of hr2,at_of U rfl,v,m.toNat,z.toNat,by rw[em,ez];rfl,_,U,?_⟩;cases hs:decide (v&&&m.toNat=z.toNat&&&m.toNat)with
    |true=>exact F7 (kf (by rw[wo,hs,Bool.not_true,Ly]) H2 e2)
    |false=>exact GZ (kt (by rw[wo,hc,hs];rfl) H2 e2)
 ·subst es;refine⟨_,U,a,_,U,.inl (A1.of (e _ _ ha)),_,_,U,U,?_⟩;rw[Al];have:=k H' e;rw[show(rs.all (Gv v∘λx=>x.2))=true from h,CL,AA]at this;have e2:decide ((rs.length:Int)<=1000)=decide (rs.length<=1000):=CW.mpr (by omega);rw[<-e2]at this;exact this
 ·have:=k H' e;rw[show(rs.all (Gv v∘λx=>x.2))=false from h,Dc]at this;exact this
inductive Keyed:Str->List Rg->Prop
 |entry:Keyed "entry" CH
 |P0:Keyed "guest" Cg
 |caller:Keyed "caller" CP
theorem Keyed.row{T:All w K mg}{x:Str}{rs:List Rg}(h:Keyed x rs):Pz T x rs:=by
 cases h with
 |entry=>exact .entry
 |P0=>exact .P0
 |caller=>exact .caller
theorem Keyed.ok{x:Str}{rs:List Rg}(h:Keyed x rs){ns:List Int}(ho:Ce rs ns=true):∃(a b c:Int)(t:List Int),ns=a::b::c::t/\0<c:=by
 cases h
 ·obtain⟨a,b,c,e,_,_,h3⟩:=qG ho;exact⟨a,b,c,[],e,(B3.mp h3).1⟩
 ·obtain⟨a,b,c,d,e,_,_,h3,_⟩:=qH ho;exact⟨a,b,c,[d],e,(B3.mp h3).1⟩
 ·obtain⟨a,b,c,d,e,_,_,h3,_⟩:=qH ho;exact⟨a,b,c,[d],e,(B3.mp h3).1⟩
inductive LV(T:All w K mg)(vs:List V)(H:Hp)(Q:VK)(E:XK):Prop
 |mk(x:Str)(rg:List Rg)(a:Addr)(rows:List (List Int)):vs=[.str x,.ref a]->Keyed x rg->GP H a rows->(∀H',A7 H H'->Q (.bl (rows.all (BZ rg))) H')->LV T vs H Q E
theorem Rc(T:All w K mg):Ok P w base T.GD 3 (LV T):=by
 refine T.GD.go LP λcdv A outer s H vs Q E hr h Cc=>?_;obtain⟨x,rg,a,rows,rfl,hx,⟨rs,ha,rfl,hrs⟩,k⟩:=h;refine⟨_,(AE (EK BK U (Bx (pv 1)) (BW (i:=2) LP.nd U (Or.inl U))
  (AK (B_ (PW.pt (U1 (Hz (D_ (Bu (Ky T) hr (AB (pv 0) (AB (pv 2) AF))))) (Oz (BX U3 (Bu (Mj T) hr (AB (Ax Aa (pv 2) Ag) (AB (Ax Aa (pv 2) Ag) AF))) Ag)))) (AK (Am Ip)) Bc)))
  (AK (Am Ip))),?_⟩
 rw[F_]at k;refine fV (K:=K) (ok:=BZ rg) (λσ=>∃u:Option V,σ=[some (.str x),some (.ref a),u]) ⟨_,U⟩ (λσ ⟨u,e⟩ v=>⟨some v,by rw[e];rfl⟩) U ha hrs (λr mr σ H' N B C e ⟨u,es⟩ hi kt kf=>?_) (λσ ⟨u,e⟩=>by rw[e];show 2<3;decide) (λh σ H' e ⟨u,es⟩=>?_) λh H' e=>?_
 ·subst es;cases hi;have hr1:=e _ _ (hrs r mr);refine⟨_,U,_,U,x,r.1,rg,r.2,U,hx.row,A1.of hr1,λH2 e2=>⟨_,U,?_⟩⟩;cases ho:Ce rg r.2 with
  |false=>exact F7 (F7 (kf (by unfold BZ;rw[ho,Dc]) H2 e2))
  |true=>
   obtain⟨n,t,d,q,er,hd⟩:=hx.ok ho;have hr2:=e2 _ _ hr1;rw[er]at hr2;have ko:BZ rg r.2=decide (Nat.gcd t.natAbs d.toNat=1):=by
    unfold BZ;rw[ho,CL,er];rfl
   refine GZ ⟨_,U,r.1,_,_,.int t,U,U,A1.of hr2,at_of U rfl,_,U,r.1,_,_,.int d,U,U,A1.of hr2,at_of U rfl,t,d,U,hd,U,_,U,?_⟩;rw[dI];by_cases hc:Nat.gcd t.natAbs d.toNat=1
   ·rw[AM (show((Nat.gcd t.natAbs d.toNat:Nat):Int)=1 by omega)];exact GZ (kt (by rw[ko];exact AM hc) H2 e2)
   ·rw[BJ (show¬((Nat.gcd t.natAbs d.toNat:Nat):Int)=1 by omega)];exact F7 (kf (by rw[ko];exact BJ hc) H2 e2)
 ·have:=k H' e;rw[show(rs.all (BZ rg∘λx=>x.2))=true from h]at this;exact this
 ·have:=k H' e;rw[show(rs.all (BZ rg∘λx=>x.2))=false from h]at this;exact this
end
def rk(r:List Int):Int×Int:=(r.getD 1 0,r.getD 2 0)
def rl(r:List Int):Int:=r.getD 3 0
def kk(q:Int×Int):List Key:=[Sum.inl q.1,Sum.inl q.2]
theorem qI{p q:Int×Int}(h:kk p=kk q):p=q:=by
 unfold kk at h;injection h with h1 h2;injection h2 with h3 _;exact Prod.ext (Mc h1) (Mc h3)
def Rf(rows:List (List Int)):Bool:=rows.all λr=>rows.all λq=>decide (rk q≠rk r)||decide (rl q=rl r)
theorem NY{rows:List (List Int)}:Rf rows=true↔∀r∈rows,∀q∈rows,rk q=rk r->rl q=rl r:=by
 unfold Rf;rw[A0];refine IT λr=>imp_congr Iff.rfl ?_;rw[A0];refine IT λq=>imp_congr Iff.rfl ?_;rw[Bool.or_eq_true,Br,Br];constructor
 ·exactλh e=>h.elim (λz=>absurd e z) id
 ·intro h;by_cases e:rk q=rk r
  ·exact .inr (h e)
  ·exact .inl e
def cntK(q:Int×Int)(rows:List (List Int)):Nat:=(rows.filter λr=>decide (rk r=q)).length
theorem WU(q:Int×Int)(rows:List (List Int))(r:List Int):cntK q (rows++[r])=cntK q rows+if rk r=q then 1 else 0:=by
 unfold cntK;rw[Cr,AL]
 congr 1
 by_cases h:rk r=q
 ·rw[AJ h,BN,AJ (AM h)];rfl
 ·rw[AI h,BN,AI (by simp[h])];rfl
def Xv(rows:List (List Int)):Bool:=(List.range rows.length).all λj=>decide ((cntK (rk (rows.getD j [])) (rows.take (j+1)):Int)<rl (rows.getD j []))
theorem Ym{rows:List (List Int)}:Xv rows=true↔∀(j:Nat)(r:List Int),rows[j]?=some r->(cntK (rk r) (rows.take (j+1)):Int)<rl r:=by
 unfold Xv;rw[A0];constructor
 ·intro h j r hr;have:=AX (h j (JU.mpr (AZ.mp hr).1));rw[A3,hr]at this;exact this
 ·intro h j hj;have hj:=JU.mp hj;have:=h j _ (Ak hj);rw[A3,Ak hj];exact AM this
theorem zD{r:List Int}(h:r.length=4):∃a b c d,r=[a,b,c,d]:=by
 match r,h with
 | [a,b,c,d],_=>exact⟨a,b,c,d,U⟩
section
variable{P:Program}{w:World}{K:PySem.W.Frag}{mg:Str->Option Value}{base:Heap}
inductive LW(T:All w K mg)(vs:List V)(H:Hp)(Q:VK)(E:XK):Prop
 |mk(a:Addr)(rows:List (List Int)):vs=[.ref a]->GP H a rows->rows.length<=17000->(∀r∈rows,r.length=4)->(∀H',A7 H H'->Q (.bl (Rf rows)) H')->LW T vs H Q E
theorem Rh(T:All w K mg):Ok P w base T.GF 1 (LW T):=by
 refine T.GF.go IK λcdv A outer s H vs Q E hr h Cc=>?_;obtain⟨a,rows,rfl,⟨rs,ha,em,hrs⟩,hl,h4,k⟩:=h;refine⟨_,(AE (DJ IK 1 eE)
  (AE (EK BK U (Bx (pv 0)) (BW (i:=2) IK.nd U (Or.inl U))
    (AK (B_ (BX U3 (jH (cW hr) (pv 1) (aD (AB (Ax Aa (pv 2) Ag) (AB (Ax Aa (pv 2) Ag) AF))) (Ax Aa (pv 2) Ag) ⟨U,U,U,U⟩) (Ax Aa (pv 2) Ag)) (AK (Am Ip)) Bc)))
  (AK (Am Ip)))),?_⟩
 have rl':rs.length<=17000:=by rw[<-em,AA]at hl;exact hl
 refineλd nd=>⟨_,U,a,U,⟨_,A1.of (AO nd _ _ ha)⟩,FT (K:=K) (a:=a) (xs:=refs rs) (λn σ H'=>A7 H H'/\(∃u:Option V,σ=[some (.ref a),some (.ref d),u])/\∃kvs,H' d=some (.dT kvs)/\kvs.length<=n/\(∀r∈rs.take n,Es kvs (kk (rk r.2))=some (.int (rl r.2)))/\∀q v,Es kvs (kk q)=some v->∃r∈rs.take n,rk r.2=q/\v=.int (rl r.2))
  ⟨AO nd,⟨_,U⟩,[],AD,AU _,λr hr=>absurd hr (by simp),λq v h=>by cases h⟩ (λn σ H' _ h=>h.1.seq (A1.of ha)) ?_ ?_⟩
 ·rintro n x σ H' hx ⟨e,⟨u,rfl⟩,kvs,hd,hn,hA,hB⟩;obtain⟨r,hr1,rfl⟩:=Ex hx;have mr:=AS hr1;have nl:=(AZ.mp hr1).1;obtain⟨x0,x1,x2,x3,er⟩:=zD (h4 r.2 (by rw[<-em];exact AG.mpr ⟨r,mr,U⟩));have hr':=e _ _ (hrs r mr);rw[er]at hr';have ek:rk r.2=(x1,x2):=by rw[er];rfl
  have el:rl r.2=x3:=by rw[er];rfl
  refine⟨_,U,d,U,.inr ⟨kvs,.inl hd⟩,_,U,r.1,_,_,.int x1,U,U,A1.of hr',at_of U rfl,_,U,r.1,_,_,.int x2,U,U,A1.of hr',at_of U rfl,by show 2<=sizeLine;decide,λt nt=>?_⟩;have s1:=AO (o:=.tup [.int x1,.int x2]) nt;have e1:=e.trans s1;have hd1:=s1 _ _ hd;have ht:(upd H' t (.tup [.int x1,.int x2])) t=some (.tup ((kk (x1,x2)).map kV)):=AD;have hr2:=s1 _ _ hr';generalize upd H' t (.tup [.int x1,.int x2])=H1 at s1 e1 hd1 ht hr2⊢;have tk:∀r'∈rs.take (n+1),r'∈rs.take n\/r'=r:=λr' h=>by
   rw[take_snoc hr1]at h;exact(AQ.mp h).imp id λz=>Af.mp z
  have sub:∀r'∈rs.take n,r'∈rs.take (n+1):=λr' h=>by rw[take_snoc hr1];exact CK _ h
  refine⟨_,U,r.1,_,_,.int x3,U,U,A1.of hr2,at_of U rfl,kvs,kk (x1,x2),t,U,hd1,ht,by omega,λv hv=>?_,λhv=>?_⟩
  ·obtain⟨r',mr',q1,q2⟩:=hB _ _ hv;subst q2;refine⟨_,U,r.1,_,_,.int x3,U,U,A1.of hr2,at_of U rfl,U,_,U,?_⟩;rw[dI];refine DL (λh=>?_) λh=>?_
   ·(have hne:rl r'.2≠x3:=λz=>by rw[z]at h;exact absurd h (by rw[AM U];decide));have:Rf rows=false:=by
     cases q:Rf rows with
     |false=>rfl
     |true=>
      (have m1:r'.2∈rows:=by rw[<-em];exact AG.mpr ⟨r',Ct mr',U⟩);(have m2:r.2∈rows:=by rw[<-em];exact AG.mpr ⟨r,mr,U⟩);exact absurd ((NY.mp q r.2 m2 r'.2 m1 (by rw[q1,ek])).trans el) hne
    rw[this]at k;exact k H1 e1
   ·have heq:rl r'.2=x3:=CF λz=>h (by rw[BJ z];rfl);refine⟨e1,⟨_,U⟩,kvs,hd1,by omega,λr2 h2=>(tk r2 h2).elim (hA r2) λz=>?_,λq v h=>?_⟩
    ·rw[z,ek,hv,heq,el]
    ·obtain⟨r2,m2,q2⟩:=hB q v h;exact⟨r2,sub r2 m2,q2⟩
  ·(have hr3:(upd H1 d (.dT (putK kvs (kk (x1,x2)) (.int x3)))) r.1=some (.lst ([x0,x1,x2,x3].map V.int)):=by rw[Aj (Zb hr2 hd1 (by intro z;cases z))];exact hr2);refine⟨_,U,r.1,_,_,.int x3,U,U,A1.of hr3,at_of U rfl,U,_,U,?_⟩;rw[AM U];refine GZ ⟨A7.own e1 nd,⟨_,U⟩,_,AD,Aw (Iq ..) (by omega),λr2 h2=>?_,λq v h=>?_⟩
   ·rw[UU];rcases tk r2 h2 with m|z
    ·by_cases c:kk (x1,x2)=kk (rk r2.2)
     ·have:=hA r2 m;rw[<-c,hv]at this;cases this
     ·rw[AI (λz=>c z.symm)];exact hA r2 m
    ·rw[z,ek,AJ U,el]
   ·rw[UU]at h;by_cases c:kk q=kk (x1,x2)
    ·rw[AJ c]at h;cases h;exact⟨r,by rw[take_snoc hr1];exact BD _ (Af.mpr U),by rw[ek];exact(qI c).symm,by rw[el]⟩
    ·rw[AI c]at h;obtain⟨r2,m2,q2⟩:=hB q v h;exact⟨r2,sub r2 m2,q2⟩
 ·rintro σ H' ⟨e,⟨u,rfl⟩,kvs,hd,hn,hA,hB⟩;rw[Al,BR]at hA;have:Rf rows=true:=NY.mpr λr hr q hq he=>by
   rw[<-em]at hr hq;obtain⟨r',mr,rfl⟩:=AG.mp hr;obtain⟨q',mq,rfl⟩:=AG.mp hq;have h1:=hA r' mr;have h2:=hA q' mq;rw[he,h1]at h2;exact(V.int.inj (BB h2)).symm
  rw[this]at k;exact k H' e
end
section
variable{P:Program}{w:World}{K:PySem.W.Frag}{mg:Str->Option Value}{base:Heap}
inductive Hg(T:All w K mg)(vs:List V)(H:Hp)(Q:VK)(E:XK):Prop
 |mk(a:Addr)(rows:List (List Int)):vs=[.ref a]->GP H a rows->rows.length<=17000->(∀r∈rows,r.length=4)->(∀H',A7 H H'->Q (.bl (Xv rows)) H')->Hg T vs H Q E
theorem RD(T:All w K mg):Ok P w base T.Fj 1 (Hg T):=by
 refine T.Fj.go FN λcdv A outer s H vs Q E hr h Cc=>?_;obtain⟨a,rows,rfl,⟨rs,ha,em,hrs⟩,hl,h4,k⟩:=h;refine⟨_,(AE (DJ FN 1 eE)
  (AE (EK BK U (Bx (pv 0)) (BW (i:=2) FN.nd U (Or.inl U))
    (AE (DJ FN 3 (CA EY (qU (cW hr) (pv 1) (aD (AB (Ax Aa (pv 2) Ag) (AB (Ax Aa (pv 2) Ag) AF))) Ag ⟨U,U,U,U⟩) Ag))
    (AE (B_ (BX Zd (pv 3) (Ax Aa (pv 2) Ag)) (AK (Am Ip)) Bc)
    (AK (kI (cW hr) (pv 1) (aD (AB (Ax Aa (pv 2) Ag) (AB (Ax Aa (pv 2) Ag) AF))) (pv 3) U)))))
  (AK (Am Ip)))),?_⟩
 have rl':rs.length<=17000:=by rw[<-em,AA]at hl;exact hl
 have tm:∀n,(rs.take n).map (·.2)=rows.take n:=λn=>by rw[<-em,DW]
 refineλd nd=>⟨_,U,a,U,⟨_,A1.of (AO nd _ _ ha)⟩,FT (K:=K) (a:=a) (xs:=refs rs) (λn σ H'=>A7 H H'/\(∃u v:Option V,σ=[some (.ref a),some (.ref d),u,v])/\∃kvs,H' d=some (.dT kvs)/\kvs.length<=n/\(∀q,(Es kvs (kk q)).getD (.int 0)=.int (cntK q (rows.take n)))/\∀(j:Nat)(r:List Int),j<n->rows[j]?=some r->(cntK (rk r) (rows.take (j+1)):Int)<rl r)
  ⟨AO nd,⟨_,_,U⟩,[],AD,AU _,λq=>rfl,λj r hj=>absurd hj (FF j)⟩ (λn σ H' _ h=>h.1.seq (A1.of ha)) ?_ ?_⟩
 ·rintro n x σ H' hx ⟨e,⟨u,v,rfl⟩,kvs,hd,hn,hA,hB⟩;obtain⟨r,hr1,rfl⟩:=Ex hx;have mr:=AS hr1;have nl:=(AZ.mp hr1).1;have sR:rows[n]?=some r.2:=by rw[<-em,Ai,hr1];rfl
  obtain⟨x0,x1,x2,x3,er⟩:=zD (h4 r.2 (AS sR));have hr':=e _ _ (hrs r mr);rw[er]at hr';have ek:rk r.2=(x1,x2):=by rw[er];rfl
  have el:rl r.2=x3:=by rw[er];rfl
  refine⟨_,U,d,U,.inr ⟨kvs,.inl hd⟩,_,U,r.1,_,_,.int x1,U,U,A1.of hr',at_of U rfl,_,U,r.1,_,_,.int x2,U,U,A1.of hr',at_of U rfl,by show 2<=sizeLine;decide,λt nt=>?_⟩;have s1:=AO (o:=.tup [.int x1,.int x2]) nt;have e1:=e.trans s1;have hd1:=s1 _ _ hd;have ht:(upd H' t (.tup [.int x1,.int x2])) t=some (.tup ((kk (x1,x2)).map kV)):=AD;have hr2:=s1 _ _ hr';generalize upd H' t (.tup [.int x1,.int x2])=H1 at s1 e1 hd1 ht hr2⊢;have sn:cntK (rk r.2) (rows.take (n+1))=cntK (x1,x2) (rows.take n)+1:=by rw[take_snoc sR,WU,AJ U,ek]
  refine⟨_,XY.t hd1 ht,_,_,hA (x1,x2),U,_,U,_,U,r.1,_,_,.int x3,U,U,A1.of hr2,at_of U rfl,_,_,U,U,_,U,DL (λh=>?_) λh=>?_⟩
  ·have h:x3<=(cntK (x1,x2) (rows.take n):Int)+1:=AX h;have:Xv rows=false:=by
    cases q:Xv rows with
    |false=>rfl
    |true=>
     have:=Ym.mp q n r.2 sR;rw[sn,el]at this;omega
   rw[this]at k;exact k H1 e1
  ·have h:¬x3<=(cntK (x1,x2) (rows.take n):Int)+1:=λz=>h (AM z);refine⟨_,U,_,U,_,U,r.1,_,_,.int x1,U,U,A1.of hr2,at_of U rfl,_,U,r.1,_,_,.int x2,U,U,A1.of hr2,at_of U rfl,by show 2<=sizeLine;decide,λt2 ux=>?_⟩;have s2:=AO (o:=.tup [.int x1,.int x2]) ux;have e2:=e1.trans s2;have hd2:=s2 _ _ hd1;have ht2:(upd H1 t2 (.tup [.int x1,.int x2])) t2=some (.tup ((kk (x1,x2)).map kV)):=AD;generalize upd H1 t2 (.tup [.int x1,.int x2])=H2 at s2 e2 hd2 ht2⊢;refine⟨d,_,U,aN.t hd2 ht2 (by omega),A7.own e2 nd,⟨_,_,U⟩,_,AD,Aw (Iq ..) (by omega),λq=>?_,λj r2 hj ve=>?_⟩
   ·rw[UU,take_snoc sR,WU,ek];by_cases c:kk q=kk (x1,x2)
    ·have:=qI c;subst this;rw[AJ c,AJ U];rfl
    ·rw[AI c,AI (λz=>c (by rw[z])),hA];rfl
   ·by_cases c:j=n
    ·subst c;rw[sR]at ve;cases ve;rw[sn,el];omega
    ·exact hB j r2 (by omega) ve
 ·rintro σ H' ⟨e,⟨u,v,rfl⟩,kvs,hd,hn,hA,hB⟩;have:Xv rows=true:=Ym.mpr λj r hr=>hB j r (by rw[Al,<-AA (f:=λx:Addr×List Int=>x.2),em];exact(AZ.mp hr).1) hr;rw[this]at k;exact k H' e
end
def Ca(x:Str)(rg:List Rg)(p:Part):Bool:=p.2.all (BZ rg)&&((decide (V.str x=V.str "entry")||Rf p.2)&&(!decide (V.str x=V.str "guest")||Xv p.2))
theorem Keyed.four{x:Str}{rg:List Rg}(h:Keyed x rg)(hn:decide (V.str x=V.str "entry")=false){r:List Int}(ho:BZ rg r=true):r.length=4:=by
 unfold BZ at ho;rw[AR]at ho;cases h with
 |entry=>cases hn
 |P0=>obtain⟨_,_,_,_,e,_⟩:=qH ho.1;rw[e];rfl
 |caller=>obtain⟨_,_,_,_,e,_⟩:=qH ho.1;rw[e];rfl
section
variable{P:Program}{w:World}{K:PySem.W.Frag}{mg:Str->Option Value}{base:Heap}
inductive Lw(T:All w K mg)(vs:List V)(H:Hp)(Q:VK)(E:XK):Prop
 |mk(x:Str)(rg:List Rg):Keyed x rg->((vs=[.str x,.DX]/\∀H',A7 H H'->Q (.bl false) H')\/∃(a:Addr)(ps:List Part),vs=[.str x,.ref a]/\Ke H a ps/\(∀p∈ps,p.2.length<=17000)/\∀H',A7 H H'->Q (.bl (ps.all (Ca x rg))) H')->Lw T vs H Q E
theorem Lx(T:All w K mg):Ok P w base T.KA 4 (Lw T):=by
 refine T.KA.fn.ok Lr (λvs H Q E h=>?_) (λcdv A outer s H vs Q E hr h=>?_)
 ·obtain⟨x,rg,_,⟨rfl,_⟩|⟨a,ps,rfl,_⟩⟩:=h<;>rfl
 ·obtain⟨x,rg,hx,hh⟩:=h;refine⟨_,(AE (B_ (BX wC (pv 1) iC) (AK (Am Ip)) Bc)
   (AE (EK BK U (Bx (pv 1)) (NZ U (Dd (BW (i:=2) Lr.nd U (Or.inl U)) (Dd (BW (i:=3) Lr.nd U (Or.inl U)) Ka)))
     (AE (B_ (Hz (D_ (Bu (Rc T) hr (AB (pv 0) (AB (pv 3) AF))))) (AK (Am Ip)) Bc)
     (AE (B_ (PW.pt (X0 (BX U3 (pv 0) Kh) (T3 (Hz (D_ (Bu (Rh T) hr (AB (pv 3) AF))))))) (AK (Am Ip)) Bc)
     (AK (B_ (PW.pt (X0 (BX E7 (pv 0) Kh) (T3 (Hz (D_ (Bu (RD T) hr (AB (pv 3) AF))))))) (AK (Am Ip)) Bc)))))
   (AK (Am Ip)))),?_⟩
  rcases hh with ⟨rfl,k⟩|⟨a,ps,rfl,⟨qs,ha,em,hq⟩,qJ,k⟩
  ·exact⟨_,U,U,_,U,F7 (k H (A7.refl H))⟩
  refine⟨_,U,U,_,U,GZ ?_⟩;refine⟨_,U,a,U,⟨_,A1.of ha⟩,FT (K:=K) (a:=a) (xs:=refs qs) (λn σ H'=>A7 H H'/\(∃u v:Option V,σ=[some (.str x),some (.ref a),u,v])/\∀q∈qs.take n,Ca x rg q.2=true) ⟨A7.refl H,⟨_,_,U⟩,λq hq=>absurd hq (by simp)⟩ (λn σ H' _ h=>h.1.seq (A1.of ha)) ?_ ?_⟩
  ·rintro n v σ H' hv ⟨e,⟨u,v',rfl⟩,no⟩;obtain⟨q,hq1,rfl⟩:=Ex hv;have mq:=AS hq1;(have mp:q.2∈ps:=by rw[<-em];exact AG.mpr ⟨q,mq,U⟩);obtain⟨la,et,er⟩:=hq q mq;have er:=er.same e;have bad:Ca x rg q.2=false->∀H2,A7 H' H2->Q (.bl false) H2:=λhb H2 s2=>by
    have:ps.all (Ca x rg)=false:=by
     cases z:ps.all (Ca x rg)with
     |false=>rfl
     |true=>rw[A0.mp z q.2 mp]at hb;cases hb
    rw[this]at k;exact k H2 (e.trans s2)
   have good:Ca x rg q.2=true->∀q'∈qs.take (n+1),Ca x rg q'.2=true:=λhg q' m=>by
    rw[take_snoc hq1]at m;rcases AQ.mp m with m|m
    ·exact no q' m
    ·rw[Af.mp m];exact hg
   refine⟨q.1,_,U,OM.of (e _ _ et),U,_,_,U,_,_,U,U,?_⟩;refine⟨_,U,_,U,x,rg,la,q.2.2,U,hx,er,λH2 s2=>⟨_,U,?_⟩⟩;cases h1:q.2.2.all (BZ rg)with
   |false=>exact F7 (bad (by unfold Ca;rw[h1,Dc]) H2 s2)
   |true=>
    refine GZ ?_;have er2:=er.same s2;refine⟨_,U,U,_,U,?_⟩;have rest:∀(D:Ends)(H3:Hp),D.rt=Q->(∀H4,A7 H' H4->Ca x rg q.2=true->D.nx [some (.str x),some (.ref a),some (.int q.2.1),some (.ref la)] H4)->A7 H' H3->(decide (V.str x=V.str "entry")||Rf q.2.2)=true->
     yR (vI (XJ (L6 uc (CD 0) (tC (V.str "guest")))) (yP (tB (LA (Hg T) [] E0 (CM (CD 3) C_))))) (vJ (tC (V.bl false))) uX D [some (.str x),some (.ref a),some (.int q.2.1),some (.ref la)] H3:=by
     intro D H3 hD hN s3 ho;have er3:=er.same s3;refine⟨_,U,U,_,U,?_⟩;cases h2:decide (V.str x=V.str "guest")with
     |false=>exact GZ (GZ (hN H3 s3 (by unfold Ca;rw[h1,ho,h2];rfl)))
     |true=>
      have ne:decide (V.str x=V.str "entry")=false:=by
       have:=AX h2;rw[this];rfl
      have l4:∀r∈q.2.2,r.length=4:=λr hr=>hx.four ne (A0.mp h1 r hr);refine F7 ⟨_,U,la,q.2.2,U,er3,qJ q.2 mp,l4,λH4 s4=>⟨_,U,?_⟩⟩;cases h3:Xv q.2.2 with
      |false=>exact F7 (show D.rt _ _ by rw[hD];exact bad (by unfold Ca;rw[h1,ho,h2,h3];rfl) H4 (s3.trans s4))
      |true=>exact GZ (hN H4 (s3.trans s4) (by unfold Ca;rw[h1,ho,h2,h3];rfl))
    cases h2:decide (V.str x=V.str "entry")with
    |true=>exact GZ (GZ (rest _ H2 U (λH4 s4 hg=>⟨e.trans s4,⟨_,_,U⟩,good hg⟩) s2 (by rw[h2];rfl)))
    |false=>
     have l4:∀r∈q.2.2,r.length=4:=λr hr=>hx.four h2 (A0.mp h1 r hr);refine F7 ⟨_,U,la,q.2.2,U,er2,qJ q.2 mp,l4,λH3 s3=>⟨_,U,?_⟩⟩;cases h3:Rf q.2.2 with
     |false=>exact F7 (bad (by unfold Ca;rw[h1,h2,h3];rfl) H3 (s2.trans s3))
     |true=>exact GZ (rest _ H3 U (λH4 s4 hg=>⟨e.trans s4,⟨_,_,U⟩,good hg⟩) (s2.trans s3) (by rw[h3,Bool.or_true]))
  ·rintro σ H' ⟨e,⟨u,v,rfl⟩,no⟩;rw[Al,BR]at no;have:ps.all (Ca x rg)=true:=A0.mpr λp hp=>by
    rw[<-em]at hp;obtain⟨q,mq,rfl⟩:=AG.mp hp;exact no q mq
   rw[this]at k;exact k H' e
end
theorem Y_(k:Nat):∀(f g:Nat)(b:Int)(l:List Int),l.length<=f->l.length<=g->IA k f b l=IA k g b l
 |f,g,b,[],_,_=>by cases f<;>cases g<;>rfl
 |0,g,b,i::r,h,_=>absurd h (Cu _)
 |f+1,0,b,i::r,_,h=>absurd h (Cu _)
 |f+1,g+1,b,[i],_,_=>rfl
 |f+1,g+1,b,i::c::r,h1,h2=>by
  have h1:r.length+1+1<=f+1:=h1;have h2:r.length+1+1<=g+1:=h2;have ih:=Y_ k f g i (r.drop (c.toNat*k)) (by rw[A2];omega) (by rw[A2];omega);show(if _ then(if _ then(IA k f i _).map _ else none)else none)=if _ then(if _ then(IA k g i _).map _ else none)else none;rw[ih]
def PM(k:Nat)(b:Int)(l:List Int):Option (List Part):=IA k l.length b l
theorem xZ(k:Nat)(b:Int):PM k b []=some []:=rfl
theorem Xw(k:Nat)(b i c:Int)(r:List Int):PM k b (i::c::r)=if(Vbdeag.inR i 0 63&&Vbdeag.inR c 1 1000)=true/\b<i then(if c.toNat*k<=r.length then(PM k i (r.drop (c.toNat*k))).map λps=>(i,Bq k (r.take (c.toNat*k)))::ps else none)else none:=by
 show(if _ then(if _ then(IA k (r.length+1) i _).map _ else none)else none)=_;rw[Y_ k (r.length+1) (r.drop (c.toNat*k)).length i (r.drop (c.toNat*k)) (by rw[A2];omega) (AU _)];rfl
theorem lK{i c:Int}:Ce NX [i,c]=(Vbdeag.inR i 0 63&&Vbdeag.inR c 1 1000):=by
 show(A_ BC i&&(A_ JM c&&true))=_;rw[BI];rfl
def Yn(H0 H:Hp)(d:Addr)(ps:List Part):Prop:=∃qs:List (Addr×Part),H d=some (.lst (refs qs))/\qs.map (·.2)=ps/\∀q∈qs,H0 q.1=none/\∃(la:Addr)(rs:List (Addr×List Int)),H q.1=some (.tup [.int q.2.1,.ref la])/\H la=some (.lst (refs rs))/\rs.map (·.2)=q.2.2/\(la≠d/\H0 la=none)/\∀r∈rs,H r.1=some (.lst (r.2.map V.int))/\r.1≠d/\H0 r.1=none
theorem Yn.at_{H0 H:Hp}{d:Addr}{ps:List Part}(nd:H0 d=none)(h:Yn H0 H d ps):IB (λx=>H0 x=none) H d ps:=by
 obtain⟨qs,h1,h2,h3⟩:=h;refine⟨qs,nd,h1,h2,λq hq=>?_⟩;obtain⟨e0,la,rs,e1,e2,e3,e4,e5⟩:=h3 q hq;exact⟨e0,la,e1,rs,e4.2,e2,e3,λr hr=>⟨(e5 r hr).1,(e5 r hr).2.2⟩⟩
section
variable{P:Program}{w:World}{K:PySem.W.Frag}{mg:Str->Option Value}{base:Heap}
inductive QY(T:All w K mg)(vs:List V)(H:Hp)(Q:VK)(E:XK):Prop
 |mk(a:Addr)(x:Str)(rg:List Rg)(ns:List Int):vs=[.ref a,.str x]->Keyed x rg->H a=some (.lst (ns.map V.int))->ns.length<=17000->(PM rg.length (-1) ns=none->∀H',A7 H H'->Q .DX H')->(∀ps,PM rg.length (-1) ns=some ps->∀(H':Hp)(p:Addr),A7 H H'->IB (λx=>H x=none) H' p ps->Q (.ref p) H')->QY T vs H Q E
theorem Keyed.len{x:Str}{rg:List Rg}(h:Keyed x rg):3<=rg.length/\rg.length<=4:=by cases h<;>exact⟨by decide,by decide⟩
theorem QZ(T:All w K mg):Ok P w base T.N9 3 (QY T):=by
 refine T.N9.go HS λcdv A outer s H vs Q E hr h Cc=>?_;obtain⟨a,x,rg,ns,rfl,hx,ha,hl,kn,ks⟩:=h;refine⟨_,(AE (DJ HS 2 (BS AF))
  (AE (DJ HS 3 (oQ iH Ag))
  (AE (DJ HS 4 Ag)
  (AE (PX BK (BX RW (pv 4) (JI T.Cd (pv 0)))
    (AE (DJ HS 5 (CA EY (pv 4) Ag))
    (AE (B_ (PW.pt (U1 (Hz (D_ (Bu (Ky T) hr (AB Kh (AB (FU Gs (pv 0) (ER (pv 4)) (ER (pv 5))) AF))))) (Oz (BX iU (Ax Aa (pv 0) (pv 4)) (pv 3))))) (AK (Am iC)) Bc)
    (AE (DJ HS 3 (Ax Aa (pv 0) (pv 4)))
    (AE (DJ HS 4 (CA EY (pv 5) (CA iF (Ax Aa (pv 0) (CA iE (pv 5) Ag)) (Bu (NO T) hr (AB (pv 1) AF)))))
    (AE (B_ (BX K_ (pv 4) (JI T.Cd (pv 0))) (AK (Am iC)) Bc)
    (AK (C0 (GU PySem.F.plainAttrs_list PySem.F.slot_list_append PySem.F.type_list_append GA (pv 2) (AB (aD (AB (pv 3) (AB (Bu (Y9 T) hr (AB (FU Gs (pv 0) (ER (pv 5)) (ER (pv 4))) (AB (Bu (NO T) hr (AB (pv 1) AF)) AF))) AF))) AF))))))))))
  (AK (Am (pv 2))))))),?_⟩
 obtain⟨k3,k4⟩:=hx.len;refine⟨by show 0<=sizeLine;decide,λd nd=>?_⟩;refine⟨_,U,?_⟩;have hne:∀{n:Nat},n<ns.length->ns.drop n≠[]:=λh z=>by have:=B5 List.length z;rw[A2,GR]at this;omega
 refine⟨λm σ H'=>A7 H H'/\∃(n:Nat)(b:Int)(u:Option V)(acc:List Part),m=ns.length-n/\σ=[some (.ref a),some (.str x),some (.ref d),some (.int b),some (.int n),u]/\n<=ns.length/\acc.length<=n/\Yn H H' d acc/\PM rg.length (-1) ns=(PM rg.length b (ns.drop n)).map (acc++·),
  ⟨_,AO nd,0,-1,none,[],U,U,AY _,AU _,⟨[],AD,U,λq hq=>absurd hq Aq⟩,by rw[L0];cases PM rg.length (-1) ns<;>rfl⟩,?_⟩
 rintro m σ H' ⟨e,n,b,u,acc,rfl,rfl,hn,hacc,hp,hm⟩;have ha':=e _ _ ha;refine⟨_,U,_,U,a,_,U,.inl (A1.of ha'),_,_,U,U,_,U,?_⟩;rw[AA];refine DL (λh=>?_) λh=>?_
 ·have hlt:n<ns.length:=by have:=AX h;omega
  refine⟨λσ' xQ=>∃m',m'<ns.length-n/\_,λ_ _ z=>z,?_⟩;refine⟨_,U,_,_,U,U,?_⟩;refine⟨_,U,_,U,n,U,_,U,(n:Int)+2,U,a,_,U,A1.of ha',λp np=>?_⟩;rw[show PN (ns.map V.int) (some (n:Int)) (some ((n:Int)+2))=((ns.drop n).take 2).map V.int from UC ns (k:=2)];have s1:=AO (o:=.lst (((ns.drop n).take 2).map V.int)) np;refine⟨_,p,NX,(ns.drop n).take 2,U,.part,A1.of AD,λH2 s2=>⟨_,U,?_⟩⟩;have s2:=s1.trans s2;have ha2:=s2 _ _ ha';clear s1;cases ho:Ce NX ((ns.drop n).take 2)with
  |false=>
   have:PM rg.length b (ns.drop n)=none:=by
    cases q:ns.drop n with
    |nil=>exact absurd q (hne hlt)
    |cons i t=>
     cases t with
     |nil=>rfl
     |cons c r=>
      rw[q]at ho;have ho:Ce NX [i,c]=false:=ho;rw[lK]at ho;rw[Xw,AI];rw[ho];exactλz=>Au z.1
   rw[this]at hm;exact F7 (F7 (kn hm H2 (e.trans s2)))
  |true=>
   refine GZ ?_;obtain⟨i,c,r,hd⟩:∃i c r,ns.drop n=i::c::r:=by
    cases q:ns.drop n with
    |nil=>exact absurd q (hne hlt)
    |cons i t=>
     cases t with
     |nil=>rw[q]at ho;simp[Ce,NX]at ho
     |cons c r=>exact⟨i,c,r,U⟩
   rw[hd]at ho hm;(have ho:(Vbdeag.inR i 0 63&&Vbdeag.inR c 1 1000)=true:=by rw[<-lK];exact ho);rw[Xw]at hm;(have AEs:r.length+2+n=ns.length:=by have:=B5 List.length hd;rw[A2,Ab,Ab]at this;omega);have gi:(ns.map V.int)[n]?=some (.int i):=by
    rw[Ai,<-K9,hd];rfl
   have gc:(ns.map V.int)[n+1]?=some (.int c):=by
    rw[Ai,<-K9,<-DC,hd];rfl
   have cr:1<=c/\c<=1000:=by
    rw[AR]at ho;have:=ho.2;unfold Vbdeag.inR at this;rw[AR,Br,Br]at this;exact this
   have ec:((c.toNat:Nat):Int)=c:=CC (by omega);refine⟨_,U,_,U,a,_,_,.int i,U,U,A1.of ha2,at_of U gi,_,U,_,_,U,U,_,U,DL (λh2=>?_) λh2=>?_⟩
   ·have h2:i<=b:=AX h2;rw[AI (λz=>by omega)]at hm;exact kn hm H2 (e.trans s2)
   (have h2:b<i:=by have:¬i<=b:=λz=>h2 (AM z);omega);rw[AJ ⟨ho,h2⟩]at hm;refine⟨_,U,_,U,a,_,_,.int i,U,U,A1.of ha2,at_of U gi,?_⟩;refine⟨_,U,_,U,_,U,_,_,U,U,a,_,_,.int c,U,U,A1.of ha2,at_of (j:=n+1) (by show(n:Int)+2-1=_;omega) gc,_,U,x,rg,U,hx.row,_,_,U,U,.inl ⟨by omega,by omega⟩,_,_,U,U,?_⟩;have ea:(n:Int)+2+c*(rg.length:Int)=((n+2+c.toNat*rg.length:Nat):Int):=by
    rw[PF,Int.natCast_mul,ec];rfl
   show KU 4 (.int ((n:Int)+2+c*(rg.length:Int))) _ _ _;rw[ea];refine⟨_,U,_,U,a,_,U,.inl (A1.of ha2),_,_,U,U,_,U,?_⟩;rw[AA];refine DL (λh3=>?_) λh3=>?_
   ·have h3:=AX h3;rw[AI (by omega)]at hm;exact kn hm H2 (e.trans s2)
   (have h3:n+2+c.toNat*rg.length<=ns.length:=by have:¬_:=λz=>h3 (AM z);omega);rw[AJ (by omega)]at hm;obtain⟨qs,hqd,hqm,hqa⟩:=hp;have hd2:=s2 _ _ hqd;refine⟨_,U,.inl ⟨U,_,A1.of hd2⟩,_,U,_,U,_,U,(n:Int)+2,U,_,U,_,U,a,_,U,A1.of ha2,λp3 lM=>?_⟩;(have e5:(n:Int)+2=((n+2:Nat):Int):=by omega);(have e6:((n+2+c.toNat*rg.length:Nat):Int)=((n+2:Nat):Int)+((c.toNat*rg.length:Nat):Int):=by omega);rw[e5,e6,UC];(have er:(ns.drop (n+2)).take (c.toNat*rg.length)=r.take (c.toNat*rg.length):=by rw[<-DC,hd];rfl);rw[er];have s3:=AO (o:=.lst ((r.take (c.toNat*rg.length)).map V.int)) lM;have h3p:(upd H2 p3 (.lst ((r.take (c.toNat*rg.length)).map V.int))) p3=_:=AD;generalize upd H2 p3 (.lst ((r.take (c.toNat*rg.length)).map V.int))=H3 at s3 h3p⊢;have nX:=s3 _ _ hd2;refine⟨_,U,x,rg,U,hx.row,p3,rg.length,r.take (c.toNat*rg.length),U,by omega,by omega,h3p,by rw[Bb];omega,λH4 la s4 ⟨rs,nla,hla,hrm,hrr⟩=>?_⟩;refine⟨by show 2<=sizeLine;decide,λtp zE=>?_⟩;have s5:=AO (o:=.tup [.int i,.ref la]) zE;have htp:(upd H4 tp (.tup [.int i,.ref la])) tp=_:=AD;generalize upd H4 tp (.tup [.int i,.ref la])=H5 at s5 htp⊢;have s25:=(s3.trans s4).trans s5;have hd5:=s25 _ _ hd2;(have ql:qs.length<=n:=by rw[<-hqm,AA]at hacc;exact hacc);refine⟨d,_,_,U,U,hd5,by rw[Al];omega,?_⟩;(have vf:∀y o,H3 y=none->H3 d=some o->y≠d:=λy o h1 h2 q=>by rw[q,h2]at h1;cases h1);(have tpd:tp≠d:=λq=>by have:=s4 _ _ nX;rw[q,this]at zE;cases zE);have sA:A7 H' H5:=s2.trans s25;refine⟨ns.length-(n+2+c.toNat*rg.length),by omega,A7.own (e.trans sA) nd,n+2+c.toNat*rg.length,i,_,acc++[(i,Bq rg.length (r.take (c.toNat*rg.length)))],U,U,h3,by rw[AL];show _+1<=_;omega,⟨qs++[(tp,(i,Bq rg.length (r.take (c.toNat*rg.length))))],by rw[AD,Dr];rfl,by rw[As,hqm];rfl,λq hq=>?_⟩,?_⟩
   ·rcases AQ.mp hq with hq|hq
    ·obtain⟨g0,l0,r0,g1,g2,g3,g4,g5⟩:=hqa q hq;have qd:q.1≠d:=Zb g1 hqd (by intro z;cases z);exact⟨g0,l0,r0,by rw[Aj qd];exact sA _ _ g1,by rw[Aj g4.1];exact sA _ _ g2,g3,g4,λy hy=>⟨by rw[Aj (g5 y hy).2.1];exact sA _ _ (g5 y hy).1,(g5 y hy).2⟩⟩
    ·cases Af.mp hq;have lad:=vf la _ nla nX;have f3:∀y,H3 y=none->H y=none:=λy h=>e.free (s2.free (s3.free h));exact⟨f3 tp (s4.free zE),la,rs,by rw[Aj tpd];exact htp,by rw[Aj lad];exact s5 _ _ hla,hrm,⟨lad,f3 la nla⟩,λy hy=>⟨by rw[Aj (vf _ _ (hrr y hy).2 nX)];exact s5 _ _ (hrr y hy).1,vf _ _ (hrr y hy).2 nX,f3 _ (hrr y hy).2⟩⟩
   ·rw[hm];(have:ns.drop (n+2+c.toNat*rg.length)=r.drop (c.toNat*rg.length):=by rw[<-DC,<-DC,hd];rfl);rw[this];cases PM rg.length i (r.drop (c.toNat*rg.length))with
    |none=>rfl
    |some ps=>show some (acc++(_::ps))=some ((acc++[_])++ps);rw[Bm];rfl
 ·have hlt:¬n<ns.length:=λz=>h (AM (by omega));have en:ns.drop n=[]:=Eb (by omega);rw[en,xZ]at hm;refine⟨_,U,ks _ hm H' d e ?_⟩;show IB _ H' d (acc++[]);rw[Bk];exact hp.at_ nd
end
def r0(r:List Int):Int:=r.getD 0 0
theorem rM{r:List Int}(h:1<=r.length):(r.map V.int)[0]?=some (.int (r0 r)):=by
 cases r with
 |nil=>cases h
 |cons a l=>rfl
def JN(ws:List (List Int))(ps:List Part):List Int:=ws.map r0++ps.flatMap λp=>p.2.map r0
section
variable{P:Program}{w:World}{K:PySem.W.Frag}{mg:Str->Option Value}{base:Heap}
theorem GP.sq{H:Hp}{a:Addr}{rows:List (List Int)}(h:GP H a rows):∃xs,A1 K H a xs:=let ⟨_,e,_⟩:=h;⟨_,A1.of e⟩
theorem fW{a:Addr}{rows:List (List Int)}{i:Nat}{σ:L2.St}{H1:Hp}{D:Addr}{Qd:Hp->Prop}(hR:GP H1 a rows)(hl:rows.length<=17000)(h1:∀r∈rows,1<=r.length)(hi:i<σ.length)(hD:H1 D=none)(hq:Qd (upd H1 D (.lst ((rows.map r0).map V.int)))):
 ∃W:Nat->Nat->Hp->Prop,(∃m,W 0 m (upd H1 D (.lst [])))/\∀j m H,W j m H->
  ((ON K a).stop j H/\Qd H)\/((ON K a).go j H/\∃Nx:Hp->Prop,(∀H',Nx H'->∃m',m'<m/\W (j+1) m' H')/\∀x H',(ON K a).Vk j H x H'->KU i x (wipe σ [i]) H' λσ2 H2=>wipe σ2 [i]=wipe σ [i]/\GY σ2 H2 λb H3=>
    if b=true then(L6 (MT K) (CD i) (tC (V.int 0))) σ2 H3 λy H4=>∃acc,H4 D=some (.lst acc)/\acc.length<sizeLine/\Nx (upd H4 D (.lst (acc++[y])))else Nx H3):=by
 obtain⟨rs,ha,em,hr⟩:=hR;have Cc:sizeLine=16777216:=D7;have rl:rs.length<=17000:=by rw[<-em,AA]at hl;exact hl
 refine JD (zs:=rs) (A1.of ha) (by omega) hi hD (λ_=>true) (λr=>V.int (r0 r.2)) (λr _ H' _ R hR=>hR) (λr mr _ H' hs R hR=>⟨V.ref r.1,Cz (by rw[Cq];exact hi),r.1,_,0,.int (r0 r.2),U,U,A1.of (hs _ _ (hr r mr)),at_of U (rM (h1 r.2 (by rw[<-em];exact AG.mpr ⟨r,mr,U⟩))),hR⟩) ?_;rw[Dh.mpr λ_ _=>rfl];have:(rs.map λr=>V.int (r0 r.2))=(rows.map r0).map V.int:=by rw[<-em,An,An];rfl
 rw[this];exact hq
inductive Q_(T:All w K mg)(vs:List V)(H:Hp)(Q:VK)(E:XK):Prop
 |mk(a b:Addr)(ws:List (List Int))(ps:List Part):vs=[.ref a,.ref b]->GP H a ws->Ke H b ps->(JN ws ps).length+1<4096->(∀r∈ws,1<=r.length)->(∀p∈ps,∀r∈p.2,1<=r.length)->(∀H',A7 H H'->Q (.bl (decide (JN ws ps).Nodup)) H')->Q_ T vs H Q E
theorem ZU(T:All w K mg):Ok P w base T.KC 1 (Q_ T):=by
 refine T.KC.go Et λcdv A outer s H vs Q E hr h Cc=>?_;obtain⟨a,b,ws,ps,rfl,hw,⟨qs,hb,em,hq⟩,hl,w1,p1,k⟩:=h;refine⟨_,(AE (d_ (i:=2) (own:=[("row",5)]) (tt:=GY) (te:=(L6 (MT K) (CD 5) (tC (V.int 0)))) U Et.nd U rfl (kG U rfl rfl rfl) (Bx (pv 0)) (CS (by rfl)) (λ_ _ _ _ _=>BW (i:=5) Et.nd U (Or.inl U)) (λ_ _ _ _ _=>Dt) (λ_ _ _ _ _=>(Ax Aa (pv 5) Ag)))
  (AE (EK BK U (Bx (pv 1)) (NZ U (Dd (BW (i:=3) Et.nd U (Or.inl U)) (Dd (BW (i:=4) Et.nd U (Or.inl U)) Ka)))
    (AK (C0 (GU PySem.F.plainAttrs_list PySem.F.slot_list_extend PySem.F.type_list_extend Jg (pv 2) (AB (Fi (own:=[("row",5)]) (tt:=GY) (te:=(L6 (MT K) (CD 5) (tC (V.int 0)))) U Et.nd (Bx (pv 4)) (CS (by rfl)) (λ_ _ _ _ _=>BW (i:=5) Et.nd U (Or.inl U)) (λ_ _ _ _ _=>Dt) (λ_ _ _ _ _=>(Ax Aa (pv 5) Ag))) AF)))))
  (AK (Am (Iv E7 (NQ mh U T.Cd PySem.boot_len (AB (aI (qm U) U T.oY mZ (AB (pv 2) AF)) AF)) (JI T.Cd (pv 2))))))),?_⟩
 have len:(JN ws ps).length=ws.length+(ps.flatMap λp=>p.2.map r0).length:=by unfold JN;rw[AL,AA]
 have wl:ws.length<=17000:=by omega
 refine⟨_,U,a,U,hw.sq,λd nd=>fW (K:=K) (i:=5) hw wl w1 (by show 5<6;decide) nd ?_⟩;have s1:=AO (o:=.lst ((ws.map r0).map V.int)) nd;have hd1:(upd H d (.lst ((ws.map r0).map V.int))) d=_:=AD;generalize upd H d (.lst ((ws.map r0).map V.int))=H1 at s1 hd1⊢;have fl:∀n,((ps.take n).flatMap λp=>p.2.map r0).length<=(ps.flatMap λp=>p.2.map r0).length:=λn=>by
  have h:ps.flatMap (λp=>p.2.map r0)=(ps.take n).flatMap (λp=>p.2.map r0)++(ps.drop n).flatMap λp=>p.2.map r0:=by rw[<-CB,Ci]
  rw[h,AL];omega
 refine⟨_,U,b,U,⟨_,A1.of (s1 _ _ hb)⟩,FT (K:=K) (a:=b) (xs:=refs qs) (λn σ H'=>A7 H H'/\(∃u v x:Option V,σ=[some (.ref a),some (.ref b),some (.ref d),u,v,x])/\H' d=some (.lst ((ws.map r0++(ps.take n).flatMap λp=>p.2.map r0).map V.int))) ⟨s1,⟨_,_,_,U⟩,by rw[JV,N1,Bk];exact hd1⟩ (λn σ H' _ h=>h.1.seq (A1.of hb)) ?_ ?_⟩
 ·rintro n v σ H' hv ⟨e,⟨u,v',x,rfl⟩,hd⟩;obtain⟨q,hq1,rfl⟩:=Ex hv;have mq:=AS hq1;have pn:ps[n]?=some q.2:=by rw[<-em,Ai,hq1];rfl
  have mp:=AS pn;obtain⟨la,et,er⟩:=hq q mq;have er:=er.same e;have f1:=fl (n+1);rw[take_snoc pn,CB,AL]at f1;have f2:([q.2].flatMap λp=>p.2.map r0)=q.2.2.map r0:=by simp
  rw[f2,AA]at f1;refine⟨q.1,_,U,OM.of (e _ _ et),U,_,_,U,_,_,U,U,?_⟩;refine⟨_,U,.inl ⟨U,_,A1.of hd⟩,_,U,la,U,er.sq,λt nt=>fW (K:=K) (i:=5) er (by omega) (p1 q.2 mp) (by show 5<6;decide) nt ?_⟩;have s2:=AO (o:=.lst ((q.2.2.map r0).map V.int)) nt;refine⟨d,t,_,_,U,U,s2 _ _ hd,AD,by rw[AA,AA,AL,AA,AA];have:=fl n;omega,?_⟩;refine⟨A7.own (e.trans s2) nd,⟨_,_,_,U⟩,?_⟩;rw[AD,take_snoc pn,CB,f2,<-Bm,<-As]
 ·rintro σ H' ⟨e,⟨u,v,x,rfl⟩,hd⟩;have:(refs qs).length=ps.length:=by rw[Al,<-em,AA]
  rw[this,BR]at hd;change H' d=some (.lst ((JN ws ps).map V.int))at hd;refine⟨_,U,d,JN ws ps,U,A1.of hd,hl,λp S n np hn=>?_⟩;refine⟨p,S,n,U,AD,_,U,d,_,U,.inl (A1.of (AO np _ _ hd)),U,?_⟩;rw[AA,dI];have:decide ((n:Int)=((JN ws ps).length:Int))=decide (JN ws ps).Nodup:=CW.mpr (by rw[<-hn];omega);rw[this];exact k _ (e.trans (AO np))
end
section
variable{P:Program}{w:World}{K:PySem.W.Frag}{mg:Str->Option Value}{base:Heap}
theorem Cm{H:Hp}{x dx C:Addr}{fs:List (Str×V)}(nx:H x=none)(nd:H dx=none):A7 H (upd (upd (upd H dx (.own x)) x (.ins C dx [])) x (.ins C dx fs)):=λa o e=>by
 rw[Cj,Aj (BY e nx),Aj (BY e nd)];exact e
theorem jZ(T:All w K mg){i:Nat}{kp:Addr}{q:Vbdeag.Key}{H:Hp}(hk:Dv T H kp q){R:VK}(k:∀(H':Hp)(p:Addr),A7 H H'->H p=none->Dg T H' p ⟨i,q⟩->R (.ref p) H'):
 ∀x dx,H x=none->H dx=none->dx≠x->KN T [.ref x,.int i,.ref kp] (upd (upd H dx (.own x)) x (.ins T.JA dx [])) (λv H2=>v=.DX/\R (.ref x) H2) E0:=λx dx nx Qz _=>
 ⟨x,dx,i,kp,U,AD,U,k _ x (Cm nx Qz) nx ⟨dx,kp,AD,hk.same (Cm nx Qz)⟩⟩
theorem ja(T:All w K mg){i n:Nat}{kp:Addr}{q:Vbdeag.Key}{H:Hp}(hk:Dv T H kp q){R:VK}(k:∀(H':Hp)(p:Addr),A7 H H'->H p=none->Hj T H' p ⟨i,q,n⟩->R (.ref p) H'):
 ∀x dx,H x=none->H dx=none->dx≠x->KO T [.ref x,.int i,.ref kp,.int n] (upd (upd H dx (.own x)) x (.ins T.JB dx [])) (λv H2=>v=.DX/\R (.ref x) H2) E0:=λx dx nx Qz _=>
 ⟨x,dx,i,kp,n,U,AD,U,k _ x (Cm nx Qz) nx ⟨dx,kp,AD,hk.same (Cm nx Qz)⟩⟩
theorem gj(T:All w K mg){i:Nat}{b:Bool}{kp:Addr}{q:Vbdeag.Key}{H:Hp}(hk:Dv T H kp q){R:VK}(k:∀(H':Hp)(p:Addr),A7 H H'->H p=none->Hl T H' p ⟨i,q,b⟩->R (.ref p) H'):
 ∀x dx,H x=none->H dx=none->dx≠x->JS T [.ref x,.int i,.ref kp,.int (if b=true then 1 else 0)] (upd (upd H dx (.own x)) x (.ins T.Gg dx [])) (λv H2=>v=.DX/\R (.ref x) H2) E0:=λx dx nx Qz _=>
 ⟨x,dx,i,kp,_,U,AD,U,k _ x (Cm nx Qz) nx ⟨dx,kp,AD,hk.same (Cm nx Qz)⟩⟩
theorem jb(T:All w K mg){i m v:Nat}{H:Hp}{R:VK}(k:∀(H':Hp)(p:Addr),A7 H H'->H p=none->Ji T H' p ⟨i,m,v⟩->R (.ref p) H'):
 ∀x dx,H x=none->H dx=none->dx≠x->Im T [.ref x,.int i,.int m,.int v] (upd (upd H dx (.own x)) x (.ins T.GG dx [])) (λv H2=>v=.DX/\R (.ref x) H2) E0:=λx dx nx Qz _=>
 ⟨x,dx,i,m,v,U,AD,U,k _ x (Cm nx Qz) nx ⟨dx,AD⟩⟩
theorem Xx{α:Type}(Ob:Hp->Addr->α->Prop)(hs:∀H H' a x,A7 H H'->Ob H a x->Ob H' a x)(hu:∀H a x D acc o,Ob H a x->H D=some (.lst acc)->Ob (upd H D o) a x)(g:List Int->α)
 {a D:Addr} {rows:List (List Int)} {i:Nat} {te:TE} {σ:L2.St} {H1:Hp} {Qd:Hp->Prop} (hR:GP H1 a rows) (hl:rows.length<=17000) (hi:i<σ.length) (hD:H1 D=none)
 (he:∀(ra:Addr)(r:List Int),r∈rows->∀H,A7 H1 H->H ra=some (.lst (r.map V.int))->∀R:VK,(∀H' p,A7 H H'->H p=none->Ob H' p (g r)->R (.ref p) H')->te ((σ.set i none).set i (some (.ref ra))) H R)
 (hq:∀(H':Hp)(zs:List (Addr×α)),A7 H1 H'->H' D=some (.lst (refs zs))->zs.map (·.2)=rows.map g->(∀z∈zs,Ob H' z.1 z.2)->Qd H'):
 ∃W:Nat->Nat->Hp->Prop,(∃m,W 0 m (upd H1 D (.lst [])))/\∀j m H,W j m H->
  ((ON K a).stop j H/\Qd H)\/((ON K a).go j H/\∃Nx:Hp->Prop,(∀H',Nx H'->∃m',m'<m/\W (j+1) m' H')/\∀x H',(ON K a).Vk j H x H'->KU i x (wipe σ [i]) H' λσ2 H2=>wipe σ2 [i]=wipe σ [i]/\GY σ2 H2 λb H3=>
    if b=true then te σ2 H3 λy H4=>∃acc,H4 D=some (.lst acc)/\acc.length<sizeLine/\Nx (upd H4 D (.lst (acc++[y])))else Nx H3):=by
 obtain⟨rs,ha,em,hr⟩:=hR;have Cc:sizeLine=16777216:=D7;have rl:rs.length<=17000:=by rw[<-em,AA]at hl;exact hl
 refine XX (xs:=refs rs) (Qd:=Qd) (λj H=>∃zs:List (Addr×α),A7 H1 H/\H D=some (.lst (refs zs))/\zs.map (·.2)=((rs.take j).map (·.2)).map g/\∀z∈zs,Ob H z.1 z.2)
  ⟨[],AO hD,AD,U,λ_ q=>absurd q Aq⟩ (λj H _ ⟨zs,e,_⟩=>e.seq (A1.of ha)) (λj v H hv ⟨zs,e,d,ez,eo⟩=>?_) λH ⟨zs,e,d,ez,eo⟩=>?_
 ·obtain⟨r,hr1,rfl⟩:=Ex hv;have mr:=AS hr1;show wipe ((wipe σ [i]).set i (some (V.ref r.1))) [i]=wipe σ [i]/\_;have ew:wipe σ [i]=σ.set i none:=rfl;rw[ew];refine⟨?_,?_⟩
  ·show((σ.set i none).set i (some (V.ref r.1))).set i none=σ.set i none;rw[DZ,DZ]
  ·unfold GY;dsimp only;rw[AJ U];refine he r.1 r.2 (by rw[<-em];exact AG.mpr ⟨r,mr,U⟩) H e (e _ _ (hr r mr)) _ λH' p s np ob=>?_;have zl:zs.length<=17000:=by
    have:=B5 List.length ez;rw[AA,AA,AA,Bb]at this;omega
   have d':=s _ _ d;refine⟨refs zs,d',by rw[Al];omega,zs++[(p,g r.2)],A7.own (e.trans s) hD,by rw[AD,Dr];rfl,by rw[As,ez,take_snoc hr1,As,As];rfl,λz hz=>?_⟩;rcases AQ.mp hz with hz|hz
   ·exact hu _ _ _ _ _ _ (hs _ _ _ _ s (eo z hz)) d'
   ·rw[Af.mp hz];exact hu _ _ _ _ _ _ ob d'
 ·rw[Al,BR,em]at ez;exact hq H zs e d ez eo
end
def mkKey(r:List Int):Vbdeag.Key:=⟨r.getD 1 0,(r.getD 2 0).toNat⟩
def FJ(r:List Int):Vbdeag.Watch:=⟨(r.getD 0 0).toNat,(r.getD 1 0).toNat,(r.getD 2 0).toNat⟩
def EF(r:List Int):Vbdeag.Entry:=⟨(r.getD 0 0).toNat,mkKey r⟩
def BO(r:List Int):Vbdeag.Guest:=⟨(r.getD 0 0).toNat,mkKey r,(r.getD 3 0).toNat⟩
def CO(r:List Int):Vbdeag.Side:=⟨(r.getD 0 0).toNat,mkKey r,r.getD 3 0==1⟩
theorem cJ{t d:Int}(h:Nat.gcd t.natAbs d.toNat=1):Vbdeag.keyOf t d.toNat=⟨t,d.toNat⟩:=by
 unfold Vbdeag.keyOf;simp only[h];rw[Nat.div_one]
 congr 1
 exact Int.ediv_one t
theorem Nd{x:Str}{rg:List Rg}(hx:Keyed x rg){r:List Int}(h:BZ rg r=true):∃(n:Nat)(t d:Int)(q:List Int),r=(n:Int)::t::d::q/\1<=d/\d<=1000000000000000000/\-1000000000000000000<=t/\t<=1000000000000000000/\Vbdeag.keyOf t d.toNat=mkKey r/\(x="guest"->∃m:Nat,q=[(m:Int)])/\(x="caller"->∃b:Bool,q=[if b=true then 1 else 0]):=by
 unfold BZ at h;rw[AR]at h;obtain⟨ho,hg⟩:=h;have hg:=AX hg;have nn:∀z:Int,0<=z->((z.toNat:Nat):Int)=z:=λz h=>CC h;cases hx with
 |entry=>
  obtain⟨a,b,c,rfl,h1,h2,h3⟩:=qG ho;rw[B3]at h1 h2 h3;exact⟨a.toNat,b,c,[],by rw[nn a (by have:(1:Int)<=a:=h1.1;omega)],h3.1,h3.2,h2.1,h2.2,cJ hg,(λz=>absurd z (by decide)),(λz=>absurd z (by decide))⟩
 |P0=>
  obtain⟨a,b,c,d,rfl,h1,h2,h3,h4⟩:=qH ho;rw[B3]at h1 h2 h3 h4;exact⟨a.toNat,b,c,[d],by rw[nn a (by have:(1:Int)<=a:=h1.1;omega)],h3.1,h3.2,h2.1,h2.2,cJ hg,(λ_=>⟨d.toNat,by rw[nn d (by have:(2:Int)<=d:=h4.1;omega)]⟩),(λz=>absurd z (by decide))⟩
 |caller=>
  obtain⟨a,b,c,d,rfl,h1,h2,h3,h4⟩:=qH ho;rw[B3]at h1 h2 h3 h4;refine⟨a.toNat,b,c,[d],by rw[nn a (by have:(1:Int)<=a:=h1.1;omega)],h3.1,h3.2,h2.1,h2.2,cJ hg,(λz=>absurd z (by decide)),(λ_=>⟨d==1,?_⟩)⟩;have d0:(0:Int)<=d:=h4.1;have d1:d<=(1:Int):=h4.2;by_cases e:d=1
  ·rw[e];rfl
  ·(have:d=0:=by omega);rw[this];rfl
section
variable{P:Program}{w:World}{K:PySem.W.Frag}{mg:Str->Option Value}{base:Heap}
inductive Nt(T:All w K mg)(vs:List V)(H:Hp)(Q:VK)(E:XK):Prop
 |mk(r a:Addr)(b:Vbdeag.Bank)(L:Lo)(rows:List (List Int)):vs=[.ref r,.ref a]->Ah T H r b L->Co L->GP H a rows->rows.length<=17000->(∀q∈rows,Ce EW q=true)->(∀(H':Hp)(L':Lo),Ah T H' r {b with watches:=rows.map FJ} L'->Co L'->BE H (L.foot r) H' (L'.foot r)->Q .DX H')->Nt T vs H Q E
theorem We(T:All w K mg):Ok P w base T.IX 3 (Nt T):=by
 refine T.IX.go J1 λcdv A outer s H vs Q E hr h Cc=>?_;obtain⟨r,a,b,L,rows,rfl,R,S,hR,hl,ho,k⟩:=h;refine⟨_,(AK (Cp (pv 0) (Fi (own:=[("row",2)]) (tt:=GY) (te:=(Pp T.GG (Im T) [] E0 (CM (L6 (MT K) (CD 2) (tC (V.int 0))) (CM (L6 (MT K) (CD 2) (tC (V.int 1))) (CM (L6 (MT K) (CD 2) (tC (V.int 2))) C_))))) U J1.nd (Bx (pv 1)) (CS (by rfl)) (λ_ _ _ _ _=>BW (i:=2) J1.nd U (Or.inl U)) (λ_ _ _ _ _=>Dt) (λ_ _ _ _ _=>(Wx T.Dm (O4 T) hr (AB (Ax Aa (pv 2) Ag) (AB (Ax Aa (pv 2) Ag) (AB (Ax Aa (pv 2) Ag) AF)))))) U)),?_⟩;have kr:=T.BG;refine⟨_,U,a,U,hR.sq,λD hD=>Xx (K:=K) (λH a x=>Ji T H a x) (λH H' a x s h=>h.same s) (λH a x D acc o h e=>h.upd e trivial) FJ hR hl (by show 2<3;decide) hD (λra q mq H1 s1 YC R' hR'=>?_) λH1 zs s1 eD ez ow=>?_⟩
 ·obtain⟨x,m,v,rfl,h1,h2,h3⟩:=qG (ho q mq);rw[B3]at h1 h2 h3;have e1:((x.toNat:Nat):Int)=x:=CC (by have:(1:Int)<=x:=h1.1;omega);have e2:((m.toNat:Nat):Int)=m:=CC h2.1;have e3:((v.toNat:Nat):Int)=v:=CC h3.1;refine⟨_,U,ra,_,_,.int x,U,U,A1.of YC,at_of U rfl,_,U,ra,_,_,.int m,U,U,A1.of YC,at_of U rfl,_,U,ra,_,_,.int v,U,U,A1.of YC,at_of U rfl,?_⟩;have:=jb T (i:=x.toNat) (m:=m.toNat) (v:=v.toNat) (H:=H1) (R:=R') hR';rw[e1,e2,e3]at this;exact this
 ·have R1:=R.same s1;have nf:D∉L.foot r:=R.Cv hD;refine⟨_,U,r,_,L.dx,_,U,R1.obj,kr.cl,kr.no _ (by simp),(show(5:Nat)<1000 by decide),?_⟩;have R2:=R1.Tt eD nf ow;rw[ez]at R2;refine k _ _ R2 ⟨S.c,S.p,S.d⟩ ((BE.same s1).set ME λy h=>?_);unfold Lo.foot at h⊢;rcases AN.mp h with h|h
  ·exact .inl (by rw[h];exact Ac ..)
  ·rcases AN.mp h with h|h
   ·exact .inr (by rw[h];exact hD)
   ·exact .inl (AV _ (AV _ h))
inductive RA(T:All w K mg)(vs:List V)(H:Hp)(Q:VK)(E:XK):Prop
 |mk(r a:Addr)(b:Vbdeag.Bank)(L:Lo)(ps:List Part)(F:Addr->Prop):vs=[.ref r,.ref a]->Ah T H r b L->Co L->IB F H a ps->(∀x,F x->x∉L.foot r)->(∀p∈ps,(∃c:Nat,p.1=c/\c<64)/\p.2.length<=17000/\∀q∈p.2,BZ CH q=true)->(∀(H':Hp)(L':Lo),Ah T H' r {b with chains:=CV EF b.chains ps} L'->Co L'->BE H (L.foot r) H' (L'.foot r)->Q .DX H')->RA T vs H Q E
theorem ZV(T:All w K mg):Ok P w base T.KD 4 (RA T):=by
 refine T.KD.go HX λcdv A outer s H vs Q E hr h Cc=>?_;obtain⟨r,a,b,L,ps,F,rfl,R,S,hP,hF,hp,k⟩:=h;refine⟨_,(AK (EK BK U (Bx (pv 1)) (NZ U (Dd (BW (i:=2) HX.nd U (Or.inl U)) (Dd (BW (i:=3) HX.nd U (Or.inl U)) Ka)))
  (AK (Fy (Fi (own:=[("row",4)]) (tt:=GY) (te:=(Pp T.JA (KN T) [] E0 (CM (L6 (MT K) (CD 4) (tC (V.int 0))) (CM (Pp T.B0 (KR T) [] E0 (CM (L6 (MT K) (CD 4) (tC (V.int 1))) (CM (L6 (MT K) (CD 4) (tC (V.int 2))) C_))) C_)))) U HX.nd (Bx (pv 3)) (CS (by rfl)) (λ_ _ _ _ _=>BW (i:=4) HX.nd U (Or.inl U)) (λ_ _ _ _ _=>Dt) (λ_ _ _ _ _=>(Wx T.GH (Rq T) hr (AB (Ax Aa (pv 4) Ag) (AB (Wx T.Ck (EU T) hr (AB (Ax Aa (pv 4) Ag) (AB (Ax Aa (pv 4) Ag) AF))) AF))))) (Fx (Av (pv 0)) (pv 2) set_list))))),?_⟩
 have kr:=T.BG;obtain⟨qs,fa,ha,em,hq⟩:=hP;refine⟨_,U,a,U,⟨_,A1.of ha⟩,FT (K:=K) (a:=a) (xs:=refs qs) (λn σ H'=>(∃u v x:Option V,σ=[some (.ref r),some (.ref a),u,v,x])/\∃L',Ah T H' r {b with chains:=CV EF b.chains (ps.take n)} L'/\Co L'/\BE H (L.foot r) H' (L'.foot r)) ⟨⟨_,_,_,U⟩,L,R,S,BE.same (A7.refl H)⟩ (λn σ H' _ ⟨_,L',_,_,m⟩=>A1.of (m.keep _ _ ha (hF a fa))) ?_ ?_⟩
 ·rintro n v σ H' hv ⟨⟨u,v',x,rfl⟩,L',R',S',m'⟩;obtain⟨q,hq1,rfl⟩:=Ex hv;have mq:=AS hq1;have pn:ps[n]?=some q.2:=by rw[<-em,Ai,hq1];rfl
  obtain⟨⟨c,ec,FQ⟩,qJ,hk⟩:=hp q.2 (AS pn);obtain⟨fq,la,et,er⟩:=hq q mq;have et:=m'.keep _ _ et (hF _ fq);have er:=(er.keep (G:=F) (λx o fx e=>⟨m'.keep _ _ e (hF x fx),fx⟩)).at_;refine⟨q.1,_,U,OM.of et,U,_,_,U,_,_,U,U,?_⟩;refine⟨_,U,la,U,er.sq,λD hD=>Xx (K:=K) (λH a x=>Dg T H a x) (λH H' a x s h=>h.same s) (λH a x D acc o h e=>h.upd e trivial) EF er qJ (by show 4<5;decide) hD (λra y my H1 s1 YC R2 xg=>?_) λH1 zs s1 eD ez ow=>?_⟩
  ·obtain⟨n0,t,d,z,rfl,d1,d2,t1,t2,ek,hg,hc⟩:=Nd (.entry) (hk y my);refine⟨_,U,ra,_,_,.int n0,U,U,A1.of YC,at_of U rfl,_,U,ra,_,_,.int t,U,U,A1.of YC,at_of U rfl,_,U,ra,_,_,.int d,U,U,A1.of YC,at_of U rfl,?_⟩;dsimp only[C_];intro kp DG WV WW _;refine⟨kp,DG,t,d,U,AD,d1,d2,t1,t2,U,?_⟩;have s2:=Cm (C:=T.B0) (fs:=Du (Vbdeag.keyOf t d.toNat)) WV WW;have hkp:Dv T (upd (upd (upd H1 DG (.own kp)) kp (.ins T.B0 DG [])) kp (.ins T.B0 DG (Du (Vbdeag.keyOf t d.toNat)))) kp (Vbdeag.keyOf t d.toNat):=⟨DG,AD⟩;generalize upd (upd (upd H1 DG (.own kp)) kp (.ins T.B0 DG [])) kp (.ins T.B0 DG (Du (Vbdeag.keyOf t d.toNat)))=H2 at s2 hkp⊢;refine jZ T (i:=n0) hkp ?_;intro H3 p s3 lM ob;refine xg H3 p (s2.trans s3) (s2.free lM) ?_;rw[show EF _=_ from(show EF ((n0:Int)::t::d::z)=⟨n0,Vbdeag.keyOf t d.toNat⟩by rw[ek];rfl)];exact ob
  ·have R1:=R'.same s1;have np:H D=none:=m'.free hD;have nf:D∉L'.foot r:=R'.Cv hD;(have hcl:c<L'.zc.length:=by rw[S'.c];exact FQ);obtain⟨R2,m2,S2⟩:=R1.Gh (m'.trans (BE.same s1)) S' hcl eD np nf ow;refine⟨_,U,r,_,L'.dx,_,V.ref L'.ac,U,R1.obj,kr.cl,kr.no _ (by simp),U,_,U,L'.ac,_,_,c,U,by rw[ec],R1.lc,EV (by rw[Al];exact hcl),?_⟩;refine⟨⟨_,_,_,U⟩,_,?_,S2,m2⟩;rw[ez]at R2;have eb:(Vbdeag.Bank.setChain {b with chains:=CV EF b.chains (ps.take n)} c (q.2.2.map EF))=({b with chains:=CV EF b.chains (ps.take (n+1))}:Vbdeag.Bank):=by
    unfold Vbdeag.Bank.setChain CV;rw[take_snoc pn,Gq];simp only[EL,RC,ec,Bg]
   rw[<-eb];exact R2
 ·rintro σ H' ⟨⟨u,v,x,rfl⟩,L',R',S',m'⟩;have:(refs qs).length=ps.length:=by rw[Al,<-em,AA]
  rw[this,BR]at R';exact k H' L' R' S' m'
inductive RB(T:All w K mg)(vs:List V)(H:Hp)(Q:VK)(E:XK):Prop
 |mk(r a:Addr)(b:Vbdeag.Bank)(L:Lo)(ps:List Part)(F:Addr->Prop):vs=[.ref r,.ref a]->Ah T H r b L->Co L->IB F H a ps->(∀x,F x->x∉L.foot r)->(∀p∈ps,(∃c:Nat,p.1=c/\c<64)/\p.2.length<=17000/\∀q∈p.2,BZ Cg q=true)->(∀(H':Hp)(L':Lo),Ah T H' r {b with points:=CV BO b.points ps} L'->Co L'->BE H (L.foot r) H' (L'.foot r)->Q .DX H')->RB T vs H Q E
theorem ZW(T:All w K mg):Ok P w base T.KG 4 (RB T):=by
 refine T.KG.go HY λcdv A outer s H vs Q E hr h Cc=>?_;obtain⟨r,a,b,L,ps,F,rfl,R,S,hP,hF,hp,k⟩:=h;refine⟨_,(AK (EK BK U (Bx (pv 1)) (NZ U (Dd (BW (i:=2) HY.nd U (Or.inl U)) (Dd (BW (i:=3) HY.nd U (Or.inl U)) Ka)))
  (AK (Fy (Fi (own:=[("row",4)]) (tt:=GY) (te:=(Pp T.JB (KO T) [] E0 (CM (L6 (MT K) (CD 4) (tC (V.int 0))) (CM (Pp T.B0 (KR T) [] E0 (CM (L6 (MT K) (CD 4) (tC (V.int 1))) (CM (L6 (MT K) (CD 4) (tC (V.int 2))) C_))) (CM (L6 (MT K) (CD 4) (tC (V.int 3))) C_))))) U HY.nd (Bx (pv 3)) (CS (by rfl)) (λ_ _ _ _ _=>BW (i:=4) HY.nd U (Or.inl U)) (λ_ _ _ _ _=>Dt) (λ_ _ _ _ _=>(Wx T.ES (Rr T) hr (AB (Ax Aa (pv 4) Ag) (AB (Wx T.Ck (EU T) hr (AB (Ax Aa (pv 4) Ag) (AB (Ax Aa (pv 4) Ag) AF))) (AB (Ax Aa (pv 4) Ag) AF)))))) (Fx (Av (pv 0)) (pv 2) set_list))))),?_⟩
 have kr:=T.BG;obtain⟨qs,fa,ha,em,hq⟩:=hP;refine⟨_,U,a,U,⟨_,A1.of ha⟩,FT (K:=K) (a:=a) (xs:=refs qs) (λn σ H'=>(∃u v x:Option V,σ=[some (.ref r),some (.ref a),u,v,x])/\∃L',Ah T H' r {b with points:=CV BO b.points (ps.take n)} L'/\Co L'/\BE H (L.foot r) H' (L'.foot r)) ⟨⟨_,_,_,U⟩,L,R,S,BE.same (A7.refl H)⟩ (λn σ H' _ ⟨_,L',_,_,m⟩=>A1.of (m.keep _ _ ha (hF a fa))) ?_ ?_⟩
 ·rintro n v σ H' hv ⟨⟨u,v',x,rfl⟩,L',R',S',m'⟩;obtain⟨q,hq1,rfl⟩:=Ex hv;have mq:=AS hq1;have pn:ps[n]?=some q.2:=by rw[<-em,Ai,hq1];rfl
  obtain⟨⟨c,ec,FQ⟩,qJ,hk⟩:=hp q.2 (AS pn);obtain⟨fq,la,et,er⟩:=hq q mq;have et:=m'.keep _ _ et (hF _ fq);have er:=(er.keep (G:=F) (λx o fx e=>⟨m'.keep _ _ e (hF x fx),fx⟩)).at_;refine⟨q.1,_,U,OM.of et,U,_,_,U,_,_,U,U,?_⟩;refine⟨_,U,la,U,er.sq,λD hD=>Xx (K:=K) (λH a x=>Hj T H a x) (λH H' a x s h=>h.same s) (λH a x D acc o h e=>h.upd e trivial) BO er qJ (by show 4<5;decide) hD (λra y my H1 s1 YC R2 xg=>?_) λH1 zs s1 eD ez ow=>?_⟩
  ·obtain⟨n0,t,d,z,rfl,d1,d2,t1,t2,ek,hg,hc⟩:=Nd (.P0) (hk y my);obtain⟨m0,rfl⟩:=hg U;refine⟨_,U,ra,_,_,.int n0,U,U,A1.of YC,at_of U rfl,_,U,ra,_,_,.int t,U,U,A1.of YC,at_of U rfl,_,U,ra,_,_,.int d,U,U,A1.of YC,at_of U rfl,?_⟩;dsimp only[C_];intro kp DG WV WW _;refine⟨kp,DG,t,d,U,AD,d1,d2,t1,t2,U,?_⟩;have s2:=Cm (C:=T.B0) (fs:=Du (Vbdeag.keyOf t d.toNat)) WV WW;have hkp:Dv T (upd (upd (upd H1 DG (.own kp)) kp (.ins T.B0 DG [])) kp (.ins T.B0 DG (Du (Vbdeag.keyOf t d.toNat)))) kp (Vbdeag.keyOf t d.toNat):=⟨DG,AD⟩;generalize upd (upd (upd H1 DG (.own kp)) kp (.ins T.B0 DG [])) kp (.ins T.B0 DG (Du (Vbdeag.keyOf t d.toNat)))=H2 at s2 hkp⊢;refine⟨_,U,ra,_,_,.int m0,U,U,A1.of (s2 _ _ YC),at_of U rfl,?_⟩;dsimp only[C_];refine ja T (i:=n0) (n:=m0) hkp ?_;intro H3 p s3 lM ob;refine xg H3 p (s2.trans s3) (s2.free lM) ?_;rw[show BO _=_ from(show BO ((n0:Int)::t::d::[(m0:Int)])=⟨n0,Vbdeag.keyOf t d.toNat,m0⟩by rw[ek];rfl)];exact ob
  ·have R1:=R'.same s1;have np:H D=none:=m'.free hD;have nf:D∉L'.foot r:=R'.Cv hD;(have hcl:c<L'.zp.length:=by rw[S'.p];exact FQ);obtain⟨R2,m2,S2⟩:=R1.Yg (m'.trans (BE.same s1)) S' hcl eD np nf ow;refine⟨_,U,r,_,L'.dx,_,V.ref L'.ap,U,R1.obj,kr.cl,kr.no _ (by simp),U,_,U,L'.ap,_,_,c,U,by rw[ec],R1.lp,EV (by rw[Al];exact hcl),?_⟩;refine⟨⟨_,_,_,U⟩,_,?_,S2,m2⟩;rw[ez]at R2;have eb:(Vbdeag.Bank.setPoint {b with points:=CV BO b.points (ps.take n)} c (q.2.2.map BO))=({b with points:=CV BO b.points (ps.take (n+1))}:Vbdeag.Bank):=by
    unfold Vbdeag.Bank.setPoint CV;rw[take_snoc pn,Gq];simp only[EL,RC,ec,Bg]
   rw[<-eb];exact R2
 ·rintro σ H' ⟨⟨u,v,x,rfl⟩,L',R',S',m'⟩;have:(refs qs).length=ps.length:=by rw[Al,<-em,AA]
  rw[this,BR]at R';exact k H' L' R' S' m'
inductive SJ(T:All w K mg)(vs:List V)(H:Hp)(Q:VK)(E:XK):Prop
 |mk(r a:Addr)(b:Vbdeag.Bank)(L:Lo)(ps:List Part)(F:Addr->Prop):vs=[.ref r,.ref a]->Ah T H r b L->Co L->IB F H a ps->(∀x,F x->x∉L.foot r)->(∀p∈ps,(∃c:Nat,p.1=c/\c<64)/\p.2.length<=17000/\∀q∈p.2,BZ CP q=true)->(∀(H':Hp)(L':Lo),Ah T H' r {b with doors:=CV CO b.doors ps} L'->Co L'->BE H (L.foot r) H' (L'.foot r)->Q .DX H')->SJ T vs H Q E
theorem Z3(T:All w K mg):Ok P w base T.LG 4 (SJ T):=by
 refine T.LG.go IP λcdv A outer s H vs Q E hr h Cc=>?_;obtain⟨r,a,b,L,ps,F,rfl,R,S,hP,hF,hp,k⟩:=h;refine⟨_,(AK (EK BK U (Bx (pv 1)) (NZ U (Dd (BW (i:=2) IP.nd U (Or.inl U)) (Dd (BW (i:=3) IP.nd U (Or.inl U)) Ka)))
  (AK (Fy (Fi (own:=[("row",4)]) (tt:=GY) (te:=(Pp T.Gg (JS T) [] E0 (CM (L6 (MT K) (CD 4) (tC (V.int 0))) (CM (Pp T.B0 (KR T) [] E0 (CM (L6 (MT K) (CD 4) (tC (V.int 1))) (CM (L6 (MT K) (CD 4) (tC (V.int 2))) C_))) (CM (L6 (MT K) (CD 4) (tC (V.int 3))) C_))))) U IP.nd (Bx (pv 3)) (CS (by rfl)) (λ_ _ _ _ _=>BW (i:=4) IP.nd U (Or.inl U)) (λ_ _ _ _ _=>Dt) (λ_ _ _ _ _=>(Wx T.DE (Qs T) hr (AB (Ax Aa (pv 4) Ag) (AB (Wx T.Ck (EU T) hr (AB (Ax Aa (pv 4) Ag) (AB (Ax Aa (pv 4) Ag) AF))) (AB (Ax Aa (pv 4) Ag) AF)))))) (Fx (Av (pv 0)) (pv 2) set_list))))),?_⟩
 have kr:=T.BG;obtain⟨qs,fa,ha,em,hq⟩:=hP;refine⟨_,U,a,U,⟨_,A1.of ha⟩,FT (K:=K) (a:=a) (xs:=refs qs) (λn σ H'=>(∃u v x:Option V,σ=[some (.ref r),some (.ref a),u,v,x])/\∃L',Ah T H' r {b with doors:=CV CO b.doors (ps.take n)} L'/\Co L'/\BE H (L.foot r) H' (L'.foot r)) ⟨⟨_,_,_,U⟩,L,R,S,BE.same (A7.refl H)⟩ (λn σ H' _ ⟨_,L',_,_,m⟩=>A1.of (m.keep _ _ ha (hF a fa))) ?_ ?_⟩
 ·rintro n v σ H' hv ⟨⟨u,v',x,rfl⟩,L',R',S',m'⟩;obtain⟨q,hq1,rfl⟩:=Ex hv;have mq:=AS hq1;have pn:ps[n]?=some q.2:=by rw[<-em,Ai,hq1];rfl
  obtain⟨⟨c,ec,FQ⟩,qJ,hk⟩:=hp q.2 (AS pn);obtain⟨fq,la,et,er⟩:=hq q mq;have et:=m'.keep _ _ et (hF _ fq);have er:=(er.keep (G:=F) (λx o fx e=>⟨m'.keep _ _ e (hF x fx),fx⟩)).at_;refine⟨q.1,_,U,OM.of et,U,_,_,U,_,_,U,U,?_⟩;refine⟨_,U,la,U,er.sq,λD hD=>Xx (K:=K) (λH a x=>Hl T H a x) (λH H' a x s h=>h.same s) (λH a x D acc o h e=>h.upd e trivial) CO er qJ (by show 4<5;decide) hD (λra y my H1 s1 YC R2 xg=>?_) λH1 zs s1 eD ez ow=>?_⟩
  ·obtain⟨n0,t,d,z,rfl,d1,d2,t1,t2,ek,hg,hc⟩:=Nd (.caller) (hk y my);obtain⟨b0,rfl⟩:=hc U;refine⟨_,U,ra,_,_,.int n0,U,U,A1.of YC,at_of U rfl,_,U,ra,_,_,.int t,U,U,A1.of YC,at_of U rfl,_,U,ra,_,_,.int d,U,U,A1.of YC,at_of U rfl,?_⟩;dsimp only[C_];intro kp DG WV WW _;refine⟨kp,DG,t,d,U,AD,d1,d2,t1,t2,U,?_⟩;have s2:=Cm (C:=T.B0) (fs:=Du (Vbdeag.keyOf t d.toNat)) WV WW;have hkp:Dv T (upd (upd (upd H1 DG (.own kp)) kp (.ins T.B0 DG [])) kp (.ins T.B0 DG (Du (Vbdeag.keyOf t d.toNat)))) kp (Vbdeag.keyOf t d.toNat):=⟨DG,AD⟩;generalize upd (upd (upd H1 DG (.own kp)) kp (.ins T.B0 DG [])) kp (.ins T.B0 DG (Du (Vbdeag.keyOf t d.toNat)))=H2 at s2 hkp⊢;refine⟨_,U,ra,_,_,.int (if b0=true then 1 else 0),U,U,A1.of (s2 _ _ YC),at_of U rfl,?_⟩;dsimp only[C_];refine gj T (i:=n0) (b:=b0) hkp ?_;intro H3 p s3 lM ob;refine xg H3 p (s2.trans s3) (s2.free lM) ?_;rw[show CO _=_ from(show CO ((n0:Int)::t::d::[if b0=true then 1 else 0])=⟨n0,Vbdeag.keyOf t d.toNat,b0⟩by rw[ek];cases b0<;>rfl)];exact ob
  ·have R1:=R'.same s1;have np:H D=none:=m'.free hD;have nf:D∉L'.foot r:=R'.Cv hD;(have hcl:c<L'.zd.length:=by rw[S'.d];exact FQ);obtain⟨R2,m2,S2⟩:=R1.lC (m'.trans (BE.same s1)) S' hcl eD np nf ow;refine⟨_,U,r,_,L'.dx,_,V.ref L'.ad,U,R1.obj,kr.cl,kr.no _ (by simp),U,_,U,L'.ad,_,_,c,U,by rw[ec],R1.ld,EV (by rw[Al];exact hcl),?_⟩;refine⟨⟨_,_,_,U⟩,_,?_,S2,m2⟩;rw[ez]at R2;have eb:(Vbdeag.Bank.setDoor {b with doors:=CV CO b.doors (ps.take n)} c (q.2.2.map CO))=({b with doors:=CV CO b.doors (ps.take (n+1))}:Vbdeag.Bank):=by
    unfold Vbdeag.Bank.setDoor CV;rw[take_snoc pn,Gq];simp only[EL,RC,ec,Bg]
   rw[<-eb];exact R2
 ·rintro σ H' ⟨⟨u,v,x,rfl⟩,L',R',S',m'⟩;have:(refs qs).length=ps.length:=by rw[Al,<-em,AA]
  rw[this,BR]at R';exact k H' L' R' S' m'
end
end So
namespace So
open Vbdeag (readEntry readGuest readSide readWatch readWatches readLists readMany readId readKey)
def FL(r:List Int):Bool:=Ce EW r&&decide ((r.getD 2 0).toNat&&&(r.getD 1 0).toNat=(r.getD 2 0).toNat)
theorem rN:XN readWatch 3 FL FJ where
 k1:=by decide
 rd:=λl=>by
  match l with
  | []=>rfl
  | [x]=>
    rw[AI (show¬(FL ([x].take 3)=true)by unfold FL;simp[Ce,EW])];show(if Vbdeag.okX x=true then some (x.toNat,([]:List Int))else none).bind _=none;by_cases h:Vbdeag.okX x=true
    ·rw[AJ h];rfl
    ·rw[AI h];rfl
  | [x,m]=>
    rw[AI (show¬(FL ([x,m].take 3)=true)by unfold FL;simp[Ce,EW])];show(if Vbdeag.okX x=true then some (x.toNat,[m])else none).bind _=none;by_cases h:Vbdeag.okX x=true
    ·rw[AJ h];rfl
    ·rw[AI h];rfl
  |x::m::v::r=>
   show(if Vbdeag.okX x=true then some (x.toNat,m::v::r)else none).bind _=if FL [x,m,v]=true then some (FJ [x,m,v],r)else none;have e:FL [x,m,v]=(Vbdeag.okX x&&((Vbdeag.okW m&&Vbdeag.okW v)&&decide (v.toNat&&&m.toNat=v.toNat))):=by
    show((A_ DK x&&(A_ Fg m&&(A_ Fg v&&true)))&&_)=_;rw[BI,Eu];rfl
   rw[e];by_cases h:Vbdeag.okX x=true
   ·rw[AJ h,h,CL];show(if(Vbdeag.okW m&&Vbdeag.okW v)=true/\v.toNat&&&m.toNat=v.toNat then _ else none)=_;by_cases h2:(Vbdeag.okW m&&Vbdeag.okW v)=true/\v.toNat&&&m.toNat=v.toNat
    ·rw[AJ h2,AJ (by rw[h2.1,AM h2.2];rfl)];rfl
    ·rw[AI h2,AI (λz=>h2 (by rw[AR,Br]at z;exact z))]
   ·rw[AI h,AI (λz=>h (by rw[AR]at z;exact z.1))];rfl
 len:=λr h=>by
  unfold FL at h;rw[AR]at h;obtain⟨_,_,_,e,_⟩:=qG h.1;rw[e];rfl
theorem rO:XN readEntry 3 (BZ CH) EF where
 k1:=by decide
 rd:=λl=>by
  match l with
  | []=>rfl
  | [x]=>
    rw[AI (show¬(BZ CH ([x].take 3)=true)by unfold BZ;simp[Ce,CH])];show(if Vbdeag.okX x=true then some (x.toNat,([]:List Int))else none).bind _=none;by_cases h:Vbdeag.okX x=true
    ·rw[AJ h];rfl
    ·rw[AI h];rfl
  | [x,m]=>
    rw[AI (show¬(BZ CH ([x,m].take 3)=true)by unfold BZ;simp[Ce,CH])];show(if Vbdeag.okX x=true then some (x.toNat,[m])else none).bind _=none;by_cases h:Vbdeag.okX x=true
    ·rw[AJ h];rfl
    ·rw[AI h];rfl
  |x::t::d::r=>
   show(if Vbdeag.okX x=true then some (x.toNat,t::d::r)else none).bind _=if BZ CH [x,t,d]=true then some (EF [x,t,d],r)else none;have e:BZ CH [x,t,d]=(Vbdeag.okX x&&(Vbdeag.okKey t d&&decide (Nat.gcd t.natAbs d.toNat=1))):=by
    show((A_ DK x&&(A_ Cf t&&(A_ Be d&&true)))&&_)=_;rw[BI,Eu];rfl
   rw[e];by_cases h:Vbdeag.okX x=true
   ·rw[AJ h,h,CL];show(if Vbdeag.okKey t d=true/\Nat.gcd t.natAbs d.toNat=1 then some ((⟨t,d.toNat⟩:Vbdeag.Key),r)else none).map _=_;by_cases h2:Vbdeag.okKey t d=true/\Nat.gcd t.natAbs d.toNat=1
    ·rw[AJ h2,AJ (by rw[h2.1,AM h2.2];rfl)];rfl
    ·rw[AI h2,AI (λz=>h2 (by rw[AR,Br]at z;exact z))];rfl
   ·rw[AI h,AI (λz=>h (by rw[AR]at z;exact z.1))];rfl
 len:=λr h=>by
  unfold BZ at h;rw[AR]at h;obtain⟨_,_,_,e,_⟩:=qG h.1;rw[e];rfl
theorem lN{α:Type}{f:Vbdeag.Read α}{rg:Rg}{mk:List Int->α}(g:Nat->Vbdeag.Key->Int->α)(hf:∀l,f l=(readId l).bind λx=>(readKey x.2).bind λk=>match k.2 with
  |n::r=>if A_ rg n=true then some (g x.1 k.1 n,r)else none
  |_=>none) (hg:∀x t d n,mk [x,t,d,n]=g x.toNat ⟨t,d.toNat⟩ n):XN f 4 (BZ [DK,Cf,Be,rg]) mk where
 k1:=by decide
 rd:=λl=>by
  rw[hf];have short:∀l:List Int,l.length<4->BZ [DK,Cf,Be,rg] l=false:=λl h=>by
   unfold BZ;rw[WS (by show 4≠l.length;omega),Dc]
  match l with
  | []=>rfl
  | [x]=>
    rw[AI (by rw[short _ (by simp)];decide)];show(if Vbdeag.okX x=true then some (x.toNat,([]:List Int))else none).bind _=none;by_cases h:Vbdeag.okX x=true
    ·rw[AJ h];rfl
    ·rw[AI h];rfl
  | [x,m]=>
    rw[AI (by rw[short _ (by simp)];decide)];show(if Vbdeag.okX x=true then some (x.toNat,[m])else none).bind _=none;by_cases h:Vbdeag.okX x=true
    ·rw[AJ h];rfl
    ·rw[AI h];rfl
  | [x,t,d]=>
    rw[AI (by rw[short _ (by simp)];decide)];show(if Vbdeag.okX x=true then some (x.toNat,[t,d])else none).bind _=none;by_cases h:Vbdeag.okX x=true
    ·rw[AJ h];show(if Vbdeag.okKey t d=true/\Nat.gcd t.natAbs d.toNat=1 then some ((⟨t,d.toNat⟩:Vbdeag.Key),([]:List Int))else none).bind _=none;by_cases h2:Vbdeag.okKey t d=true/\Nat.gcd t.natAbs d.toNat=1
     ·rw[AJ h2];rfl
     ·rw[AI h2];rfl
    ·rw[AI h];rfl
  |x::t::d::n::r=>
   show(if Vbdeag.okX x=true then some (x.toNat,t::d::n::r)else none).bind _=if BZ [DK,Cf,Be,rg] [x,t,d,n]=true then some (mk [x,t,d,n],r)else none;have e:BZ [DK,Cf,Be,rg] [x,t,d,n]=(Vbdeag.okX x&&(Vbdeag.okKey t d&&(A_ rg n&&decide (Nat.gcd t.natAbs d.toNat=1)))):=by
    show((A_ DK x&&(A_ Cf t&&(A_ Be d&&(A_ rg n&&true))))&&_)=_;rw[BI,Eu,Eu,Eu];show _=(A_ DK x&&((A_ Cf t&&A_ Be d)&&_));rw[Eu];rfl
   rw[e,hg];by_cases h:Vbdeag.okX x=true
   ·rw[AJ h,h,CL];show(if Vbdeag.okKey t d=true/\Nat.gcd t.natAbs d.toNat=1 then some ((⟨t,d.toNat⟩:Vbdeag.Key),n::r)else none).bind _=_;by_cases h2:Vbdeag.okKey t d=true/\Nat.gcd t.natAbs d.toNat=1
    ·rw[AJ h2,h2.1,AM h2.2,CL,BI];rfl
    ·rw[AI h2,AI (λz=>h2 (by rw[AR,AR,Br]at z;exact⟨z.1,z.2.2⟩))];rfl
   ·rw[AI h,AI (λz=>h (by rw[AR]at z;exact z.1))];rfl
 len:=λr h=>by
  unfold BZ at h;rw[AR]at h;obtain⟨_,_,_,_,e,_⟩:=qH h.1;rw[e];rfl
theorem rP:XN readGuest 4 (BZ Cg) BO:=lN (λx k n=>⟨x,k,n.toNat⟩) (λl=>rfl) (λx t d n=>rfl)
theorem uN:XN readSide 4 (BZ CP) CO:=lN (λx k n=>⟨x,k,n==1⟩) (λl=>rfl) (λx t d n=>rfl)
theorem VH:∀(n:Nat)(l:List Int),readWatches n l=if(Bq 3 l).all FL=true/\(Bq 3 l).length<=n then some ((Bq 3 l).map FJ)else none
 |n,[]=>by
  have:readWatches n []=some []:=by cases n<;>rfl
  rw[this,AJ ⟨U,AY _⟩];rfl
 |0,a::l=>by
  rw[HZ (by decide) (by simp),AI (λz=>absurd z.2 (by rw[Ab];omega))];rfl
 |n+1,a::l=>by
  show(readWatch (a::l)).bind _=_;rw[rN.rd,HZ (by decide) (List.cons_ne_nil a l),DV,Ab];by_cases h:FL ((a::l).take 3)=true
  ·rw[AJ h,h,CL];show(readWatches n ((a::l).drop 3)).map _=_;rw[VH n ((a::l).drop 3)];by_cases c:(Bq 3 ((a::l).drop 3)).all FL=true/\(Bq 3 ((a::l).drop 3)).length<=n
   ·rw[AJ c,AJ ⟨c.1,Eo c.2⟩];rfl
   ·rw[AI c,AI λz=>c ⟨z.1,Nat.le_of_succ_le_succ z.2⟩];rfl
  ·rw[AI h,AI λz=>h (by rw[AR]at z;exact z.1.1)];rfl
end So
namespace So
open Vbdeag (Bank Entry Guest Side Watch everyone)
theorem Yo{α β:Type}(g:List α->List β)(g0:g []=[]):∀ls:List (List α),(∀l∈ls,l=[])->ls.flatMap g=[]
 | [],_=>rfl
 |l::ls,h=>by rw[Ba,h l (Ac ..),g0,Yo g g0 ls λm hm=>h m (AV _ hm)];rfl
theorem rQ{α β:Type}(g:List α->List β)(g0:g []=[]){ls:List (List α)}{i:Nat}(hi:i<ls.length)(he:∀j l,i<=j->ls[j]?=some l->l=[])(y:List α):(ls.set i y).flatMap g=ls.flatMap g++g y:=by
 have d0:∀n,i<=n->(ls.drop n).flatMap g=[]:=λn hn=>Yo g g0 _ λl hl=>by
  obtain⟨j,hj⟩:=Bt.mp hl;rw[UM]at hj;exact he (n+j) l (by omega) hj
 rw[List.set_eq_take_append_cons_drop,AJ hi,CB,Ba,d0 (i+1) (by omega),Bk];have:ls.flatMap g=(ls.take i).flatMap g:=by
  rw[<-Bk ((ls.take i).flatMap g),<-d0 i (AU _),<-CB,Ci]
 rw[this]
def Jv:Int->List Part->Prop
 |_,[]=>True
 |lo,p::ps=>lo<=p.1/\p.1<64/\Jv (p.1+1) ps
theorem bR{α β:Type}(mk:List Int->α)(g:List α->List β)(g0:g []=[]):∀(ps:List Part)(lo:Int)(ls:List (List α)),0<=lo->ls.length=64->(∀(j:Nat) l,lo<=(j:Int)->ls[j]?=some l->l=[])->Jv lo ps->(CV mk ls ps).flatMap g=ls.flatMap g++ps.flatMap λp=>g (p.2.map mk)
 | [],lo,ls,_,_,_,_=>by rw[N1,Bk];rfl
 |p::ps,lo,ls,h0,hl,he,hr=>by
  obtain⟨r1,r2,r3⟩:=hr;have ei:((p.1.toNat:Nat):Int)=p.1:=CC (by omega);have ih:=bR mk g g0 ps (p.1+1) (ls.set p.1.toNat (p.2.map mk)) (by omega) (by rw[Cq];exact hl) (λj l hj hjl=>by
   rw[EB (by omega)]at hjl;exact he j l (by omega) hjl) r3
  show(CV mk (ls.set p.1.toNat (p.2.map mk)) ps).flatMap g=_;rw[ih,rQ g g0 (by omega) (λj l hj hjl=>he j l (by omega) hjl),Ba,Bm]
theorem MH(k:Nat):∀(n:Nat)(b:Int)(l:List Int)(ps:List Part),l.length<=n->-1<=b->PM k b l=some ps->Jv (b+1) ps/\∀p∈ps,p.2.length<=l.length
 |n,b,[],ps,_,_,h=>by cases h;exact⟨trivial,λp hp=>absurd hp Aq⟩
 |0,b,i::r,ps,hl,_,_=>absurd hl (Cu _)
 |n+1,b,[i],ps,_,_,h=>by cases h
 |n+1,b,i::c::r,ps,hl,hb,h=>by
  rw[Xw]at h;by_cases c1:(Vbdeag.inR i 0 63&&Vbdeag.inR c 1 1000)=true/\b<i
  ·rw[AJ c1]at h;by_cases c2:c.toNat*k<=r.length
   ·rw[AJ c2]at h;cases hq:PM k i (r.drop (c.toNat*k))with
    |none=>rw[hq]at h;cases h
    |some qs=>
     rw[hq]at h;cases h;have hi:i<=63:=by
      have:=c1.1;rw[AR]at this;have:=this.1;unfold Vbdeag.inR at this;rw[AR,Br,Br]at this;exact this.2
     have hl:r.length+1+1<=n+1:=hl;obtain⟨h1,h2⟩:=MH k n i _ qs (by rw[A2];omega) (by omega) hq;have sR:(Bq k (r.take (c.toNat*k))).length<=(r.take (c.toNat*k)).length:=by
      by_cases k0:1<=k
      ·refine N2 λz=>?_;have:=Xm k0 z;have:=JJ (r.take (c.toNat*k)).length k0;omega
      ·(have:k=0:=by omega);subst this;rw[Nat.mul_zero,JV];exact AU _
     rw[Bb]at sR;refine⟨⟨by show b+1<=i;omega,by show i<64;omega,h1⟩,λp hp=>?_⟩;rcases AN.mp hp with rfl|hp
     ·show(Bq k (r.take (c.toNat*k))).length<=r.length+1+1;omega
     ·have:=h2 p hp;rw[A2]at this;show _<=r.length+1+1;omega
   ·rw[AI c2]at h;cases h
  ·rw[AI c1]at h;cases h
theorem Jv.dY:∀{lo:Int}{ps:List Part},0<=lo->Jv lo ps->∀p∈ps,∃c:Nat,p.1=c/\c<64
 |_,[],_,_,p,hp=>absurd hp Aq
 |lo,q::ps,h0,⟨h1,h2,h3⟩,p,hp=>by
  rcases AN.mp hp with rfl|hp
  ·exact⟨p.1.toNat,(CC (by omega)).symm,by omega⟩
  ·exact Jv.dY (by omega) h3 p hp
theorem gm{α:Type}(j:Nat)(l:List α)(h:(List.replicate 64 ([]:List α))[j]?=some l):l=[]:=(Nh (AS h))
theorem jc{α β:Type}(g:List α->List β)(g0:g []=[]):(List.replicate 64 ([]:List α)).flatMap g=[]:=Yo g g0 _ λl h=>Nh h
theorem ZA{α β:Type}(mk:List Int->α)(g:List α->List β)(g0:g []=[]){ps:List Part}(hr:Jv 0 ps):(CV mk (List.replicate 64 []) ps).flatMap g=ps.flatMap λp=>g (p.2.map mk):=by
 rw[bR mk g g0 ps 0 _ (Qc _) (Ez) (λj l _ h=>gm j l h) hr,jc g g0,FE]
theorem Yp{α:Type}(Pd:α->Bool):∀l:List α,l.all Pd=true↔(l.flatMap λx=>if Pd x=true then[]else[()])=[]
 | []=>⟨λ_=>rfl,λ_=>rfl⟩
 |a::l=>by
  rw[DV,Ba,AR,Yp Pd l];by_cases h:Pd a=true
  ·rw[AJ h,FE];exact⟨λz=>z.2,λz=>⟨h,z⟩⟩
  ·rw[AI h];exact⟨λz=>absurd z.1 h,λz=>by cases z⟩
theorem fX{α:Type}(mk:List Int->α)(Pd:List α->Bool)(p0:Pd []=true){ps:List Part}(hr:Jv 0 ps):(CV mk (List.replicate 64 []) ps).all Pd=ps.all λp=>Pd (p.2.map mk):=by
 rw[FA,Yp,Yp,ZA mk _ (by rw[AJ p0]) hr]
theorem VI:∀l:List Nat,Vbdeag.distinct l=true↔l.Nodup
 | []=>⟨λ_=>DA,λ_=>rfl⟩
 |a::l=>by
  show(!l.contains a&&Vbdeag.distinct l)=true↔_;rw[AR,VI l,BQ,BF,Mx,decide_eq_false_iff_not]
theorem gp{l:List Int}(h:∀x∈l,0<=x):(l.map Int.toNat).Nodup↔l.Nodup:=by
 unfold List.Nodup;rw[Mv];refine List.Pairwise.iff_of_mem λ{a b} ha hb=>?_;have:=h a ha;have:=h b hb;omega
theorem lO(rows:List (List Int))(q:Int×Int):∀n,n<=rows.length->cntK q (rows.take n)=0\/∃(j:Nat)(r:List Int),j<n/\rows[j]?=some r/\rk r=q/\cntK q (rows.take (j+1))=cntK q (rows.take n)
 |0,_=>.inl U
 |n+1,h=>by
  obtain⟨r,hr⟩:∃r,rows[n]?=some r:=⟨_,Ak (by omega)⟩;by_cases c:rk r=q
  ·exact .inr ⟨n,r,Hv n,hr,c,U⟩
  ·(have e:cntK q (rows.take (n+1))=cntK q (rows.take n):=by rw[take_snoc hr,WU,AI c];rfl);rw[e];exact(lO rows q n (by omega)).imp id λ⟨j,r',a,b,c',d⟩=>⟨j,r',EJ a,b,c',d⟩
theorem uO(q:Int×Int)(rows:List (List Int))(n:Nat):cntK q (rows.take n)<=cntK q rows:=by
 unfold cntK;exact((VU n rows).filter _).length_le
theorem lP{rows:List (List Int)}(h1:Rf rows=true):Xv rows=true↔∀r∈rows,(cntK (rk r) rows:Int)<rl r:=by
 rw[Ym];constructor
 ·intro h r hr;have l:=lO rows (rk r) rows.length (AU _);rw[BR]at l;rcases l with l|⟨j,r',_,hj,hk,e⟩
  ·exfalso;unfold cntK at l;exact absurd (Z l) (List.ne_nil_of_mem (A5.mpr ⟨hr,AM U⟩))
  ·have:=h j r' hj;rw[hk,e]at this;rw[<-NY.mp h1 r hr r' (AS hj) hk];exact this
 ·intro h j r hr;have:=h r (AS hr);have:=uO (rk r) rows (j+1);omega
end So
namespace So
open Vbdeag (Bank Entry Guest Side Watch everyone)
theorem Uz{rg:Rg}{r:List Int}(h:BZ [DK,Cf,Be,rg] r=true):∃x t d n,r=[x,t,d,n]/\1<=d/\A_ rg n=true:=by
 unfold BZ at h;rw[AR]at h;obtain⟨x,t,d,n,e,_,_,h3,h4⟩:=qH h.1;exact⟨x,t,d,n,e,(B3.mp h3).1,h4⟩
theorem ZC{rg:Rg}{r q:List Int}(hr:BZ [DK,Cf,Be,rg] r=true)(hq:BZ [DK,Cf,Be,rg] q=true):mkKey q=mkKey r↔rk q=rk r:=by
 obtain⟨x,t,d,n,rfl,d1,_⟩:=Uz hr;obtain⟨x',t',d',n',rfl,d1',_⟩:=Uz hq;show(⟨t',d'.toNat⟩:Vbdeag.Key)=⟨t,d.toNat⟩↔(t',d')=(t,d);constructor
 ·intro h;injection h with h1 h2;rw[h1,show d'=d by omega]
 ·intro h;injection h with h1 h2;rw[h1,h2]
theorem rR{rows:List (List Int)}(h:rows.all (BZ Cg)=true):Vbdeag.pointOk (rows.map BO)=(Rf rows&&Xv rows):=by
 have hk:=A0.mp h;have nd:∀r∈rows,((BO r).need:Int)=rl r:=λr hr=>by
  obtain⟨x,t,d,n,rfl,_,hn⟩:=Uz (hk r hr);have:(2:Int)<=n:=(B3.mp hn).1;exact CC (show(0:Int)<=n by omega)
 have ke:∀r∈rows,∀q∈rows,((BO q).key=(BO r).key↔rk q=rk r):=λr hr q hq=>ZC (hk r hr) (hk q hq);have cn:∀r∈rows,((rows.map BO).filter λg=>g.key==(BO r).key).length=cntK (rk r) rows:=λr hr=>by
  unfold cntK;rw[DI,AA]
  congr 1
  refine CJ λq hq=>?_;show((BO q).key==(BO r).key)=_;by_cases e:rk q=rk r
  ·rw[AM e,EE];exact(ke r hr q hq).mpr e
  ·rw[BJ e,Bd];exactλz=>e ((ke r hr q hq).mp z)
 rw[FA,AR];unfold Vbdeag.pointOk;rw[F_,A0];constructor
 ·intro hp;have h1:Rf rows=true:=NY.mpr λr hr q hq e=>by
   have this:((rows.map BO).all (λq=>q.key !=(BO r).key||q.need==(BO r).need)&&decide (((rows.map BO).filter λg=>g.key==(BO r).key).length<(BO r).need))=true:=hp r hr;rw[AR,F_,A0]at this;have:=this.1 q hq;have this:((BO q).key !=(BO r).key||(BO q).need==(BO r).need)=true:=this;rw[(ke r hr q hq).mpr e]at this;(have this:(BO q).need=(BO r).need:=by simpa using this);rw[<-nd q hq,<-nd r hr,this]
  refine⟨h1,(lP h1).mpr λr hr=>?_⟩;have this:((rows.map BO).all (λq=>q.key !=(BO r).key||q.need==(BO r).need)&&decide (((rows.map BO).filter λg=>g.key==(BO r).key).length<(BO r).need))=true:=hp r hr;rw[AR]at this;have:=AX this.2;rw[cn r hr]at this;rw[<-nd r hr];omega
 ·rintro⟨h1,h2⟩ r hr;show((rows.map BO).all (λq=>q.key !=(BO r).key||q.need==(BO r).need)&&decide (((rows.map BO).filter λg=>g.key==(BO r).key).length<(BO r).need))=true;rw[AR,F_,A0];refine⟨λq hq=>?_,?_⟩
  ·show((BO q).key !=(BO r).key||(BO q).need==(BO r).need)=true;by_cases e:rk q=rk r
   ·have:=NY.mp h1 r hr q hq e;rw[<-nd q hq,<-nd r hr]at this;(have:(BO q).need=(BO r).need:=by omega);rw[this];simp
   ·have:(BO q).key≠(BO r).key:=λz=>e ((ke r hr q hq).mp z);simp[this]
  ·rw[cn r hr];refine AM ?_;have:=(lP h1).mp h2 r hr;rw[<-nd r hr]at this;omega
theorem uP{rows:List (List Int)}(h:rows.all (BZ CP)=true):Vbdeag.doorOk (rows.map CO)=Rf rows:=by
 have hk:=A0.mp h;have ke:∀r∈rows,∀q∈rows,((CO q).key=(CO r).key↔rk q=rk r):=λr hr q hq=>ZC (hk r hr) (hk q hq);have sd:∀r∈rows,rl r=if(CO r).right=true then 1 else 0:=λr hr=>by
  obtain⟨x,t,d,n,rfl,_,hn⟩:=Uz (hk r hr);obtain⟨n0,n1⟩:=B3.mp hn;have n0:(0:Int)<=n:=n0;have n1:n<=(1:Int):=n1;show n=if(n==1)=true then 1 else 0;by_cases e:n=1
  ·rw[e];rfl
  ·(have:n=0:=by omega);rw[this];rfl
 rw[FA,NY];unfold Vbdeag.doorOk;rw[F_,A0];refine IT λr=>IT λhr=>?_;show((rows.map CO).all λq=>q.key !=(CO r).key||q.right==(CO r).right)=true↔_;rw[F_,A0];refine IT λq=>IT λhq=>?_;show((CO q).key !=(CO r).key||(CO q).right==(CO r).right)=true↔_;rw[sd q hq,sd r hr];by_cases e:rk q=rk r
 ·have e2:=(ke r hr q hq).mpr e;rw[e2];cases (CO q).right<;>cases (CO r).right<;>simp[e]
 ·have:(CO q).key≠(CO r).key:=λz=>e ((ke r hr q hq).mp z);simp[this,e]
def Ho(v:Nat)(ws cs ps ds:List Int):Option Bank:=
 match PM 3 (-1) cs,PM 4 (-1) ps,PM 4 (-1) ds with
 |some c,some p,some d=>
  if((Bq 3 ws).all (Gv v)&&decide ((Bq 3 ws).length<=1000))=true/\c.all (Ca "entry" CH)=true/\p.all (Ca "guest" Cg)=true/\d.all (Ca "caller" CP)=true/\(JN (Bq 3 ws) (c++p++d)).Nodup then
   some ⟨v,(Bq 3 ws).map FJ,CV EF Vbdeag.start.chains c,CV BO Vbdeag.start.points p,CV CO Vbdeag.start.doors d⟩else none
 |_,_,_=>none
theorem gq(v:Nat)(r:List Int):Gv v r=(FL r&&!Vbdeag.fits v (FJ r)):=by
 unfold Gv FL;rw[Eu]
 congr 1
 by_cases h:(r.getD 2 0).toNat&&&(r.getD 1 0).toNat=(r.getD 2 0).toNat
 ·rw[AM h,CL,CL]
  congr 1
  show decide (v&&&(r.getD 1 0).toNat=(r.getD 2 0).toNat&&&(r.getD 1 0).toNat)=(v&&&(r.getD 1 0).toNat==(r.getD 2 0).toNat);rw[h];by_cases e:v&&&(r.getD 1 0).toNat=(r.getD 2 0).toNat
  ·rw[AM e,EE.mpr e]
  ·rw[BJ e,Bd.mpr e]
 ·rw[BJ h,Dc,Dc]
theorem cK{α:Type}(l:List α)(f g:α->Bool):l.all (λx=>f x&&g x)=(l.all f&&l.all g):=by
 induction l with
 |nil=>rfl
 |cons a l ih=>
  rw[DV,DV,DV,ih];cases f a<;>cases g a<;>cases l.all f<;>cases l.all g<;>rfl
theorem jd(p:Part):Ca "entry" CH p=p.2.all (BZ CH):=by
 unfold Ca;rw[show decide (L2.V.str "entry"=L2.V.str "entry")=true from rfl,show decide (L2.V.str "entry"=L2.V.str "guest")=false from rfl];simp
theorem je(p:Part):Ca "guest" Cg p=(p.2.all (BZ Cg)&&Vbdeag.pointOk (p.2.map BO)):=by
 unfold Ca;rw[show decide (L2.V.str "guest"=L2.V.str "entry")=false from rfl,show decide (L2.V.str "guest"=L2.V.str "guest")=true from rfl];cases h:p.2.all (BZ Cg)with
 |false=>rfl
 |true=>rw[rR h];rfl
theorem gr(p:Part):Ca "caller" CP p=(p.2.all (BZ CP)&&Vbdeag.doorOk (p.2.map CO)):=by
 unfold Ca;rw[show decide (L2.V.str "caller"=L2.V.str "entry")=false from rfl,show decide (L2.V.str "caller"=L2.V.str "guest")=false from rfl];cases h:p.2.all (BZ CP)with
 |false=>rfl
 |true=>rw[uP h];simp
theorem uQ{α:Type}{c d:Prop}[Decidable c][Decidable d](h:c↔d){a b:α}:(if c then a else b)=if d then a else b:=by
 by_cases z:c
 ·rw[AJ z,AJ (h.mp z)]
 ·rw[AI z,AI λq=>z (h.mpr q)]
theorem P4{α β:Type}{A:Option α}{f:α->Option β}(h:∀a,f a=none):A.bind f=none:=by cases A with|none=>rfl|some a=>exact h a
theorem uR{α β:Type}{c:Prop}[Decidable c]{a:α}{f:α->Option β}:(if c then some a else none).bind f=if c then f a else none:=by split<;>rfl
theorem Yq{α:Type}(mk:List Int->α)(g:α->Nat)(hg:∀r,g (mk r)=(r0 r).toNat){ps:List Part}(hr:Jv 0 ps):(CV mk (List.replicate 64 []) ps).flatMap (λl=>l.map g)=(ps.flatMap λp=>p.2.map r0).map Int.toNat:=by
 rw[ZA mk (λl=>l.map g) U hr,List.map_flatMap]
 congr 1
 funext p;rw[An,An];exact Di λr _=>hg r
theorem ou{x:PySem.Str}{rg:List Rg}(hx:Keyed x rg){r:List Int}(h:BZ rg r=true):0<=r0 r:=by
 obtain⟨n,_,_,_,rfl,_⟩:=Nd hx h;exact By n
theorem uS(w:Int)(ws cs ps ds:List Int):Vbdeag.load w ws cs ps ds=Ho w.toNat ws cs ps ds:=by
 have hc:Vbdeag.readLists Vbdeag.readEntry 64 0 Vbdeag.start.chains cs=match PM 3 (-1) cs with
  |none=>none
  |some q=>if(q.all λp=>p.2.all (BZ CH))=true then some (CV EF Vbdeag.start.chains q)else none:=OG rO 64 0 _ cs cs.length (by decide) (by decide) (AU _)
 have hp:Vbdeag.readLists Vbdeag.readGuest 64 0 Vbdeag.start.points ps=match PM 4 (-1) ps with
  |none=>none
  |some q=>if(q.all λp=>p.2.all (BZ Cg))=true then some (CV BO Vbdeag.start.points q)else none:=OG rP 64 0 _ ps ps.length (by decide) (by decide) (AU _)
 have hd:Vbdeag.readLists Vbdeag.readSide 64 0 Vbdeag.start.doors ds=match PM 4 (-1) ds with
  |none=>none
  |some q=>if(q.all λp=>p.2.all (BZ CP))=true then some (CV CO Vbdeag.start.doors q)else none:=OG uN 64 0 _ ds ds.length (by decide) (by decide) (AU _)
 unfold Vbdeag.load Ho;show(Vbdeag.readWatches 1000 ws).bind (λa=>(Vbdeag.readLists Vbdeag.readEntry 64 0 Vbdeag.start.chains cs).bind λc=>(Vbdeag.readLists Vbdeag.readGuest 64 0 Vbdeag.start.points ps).bind λp=>(Vbdeag.readLists Vbdeag.readSide 64 0 Vbdeag.start.doors ds).bind λd=>_)=_;rw[hc,hp,hd];cases qc:PM 3 (-1) cs with
 |none=>exact P4 λa=>rfl
 |some c=>
  cases qp:PM 4 (-1) ps with
  |none=>exact P4 λa=>P4 λb=>rfl
  |some p=>
   cases qd:PM 4 (-1) ds with
   |none=>exact P4 λa=>P4 λb=>P4 λc=>rfl
   |some d=>
    have rc:=(MH 3 _ (-1) cs c (AU _) (by decide) qc).1;have rp:=(MH 4 _ (-1) ps p (AU _) (by decide) qp).1;have rd:=(MH 4 _ (-1) ds d (AU _) (by decide) qd).1;rw[VH];simp only[uR];(have e1:c.all (Ca "entry" CH)=c.all λp=>p.2.all (BZ CH):=by congr 1;funext p;exact jd p);(have e2:p.all (Ca "guest" Cg)=((p.all λp=>p.2.all (BZ Cg))&&p.all λp=>Vbdeag.pointOk (p.2.map BO)):=by rw[<-cK];congr 1;funext p;exact je p);(have e3:d.all (Ca "caller" CP)=((d.all λp=>p.2.all (BZ CP))&&d.all λp=>Vbdeag.doorOk (p.2.map CO)):=by rw[<-cK];congr 1;funext p;exact gr p);(have e4:(Bq 3 ws).all (Gv w.toNat)=((Bq 3 ws).all FL&&(Bq 3 ws).all λr=>!Vbdeag.fits w.toNat (FJ r)):=by rw[<-cK];congr 1;funext r;exact gq _ r);have f2:(CV BO Vbdeag.start.points p).all Vbdeag.pointOk=p.all λp=>Vbdeag.pointOk (p.2.map BO):=fX BO Vbdeag.pointOk U rp;have f3:(CV CO Vbdeag.start.doors d).all Vbdeag.doorOk=d.all λp=>Vbdeag.doorOk (p.2.map CO):=fX CO Vbdeag.doorOk U rd;have f4:((Bq 3 ws).map FJ).all (λx=>!Vbdeag.fits w.toNat x)=(Bq 3 ws).all λr=>!Vbdeag.fits w.toNat (FJ r):=F_;have f5:everyone ⟨w.toNat,(Bq 3 ws).map FJ,CV EF Vbdeag.start.chains c,CV BO Vbdeag.start.points p,CV CO Vbdeag.start.doors d⟩=(JN (Bq 3 ws) (c++p++d)).map Int.toNat:=by
     unfold everyone JN;show List.map _ _++(List.flatMap _ (CV EF (List.replicate 64 []) c)++(List.flatMap _ (CV BO (List.replicate 64 []) p)++List.flatMap _ (CV CO (List.replicate 64 []) d)))=_;rw[Yq EF (λe=>e.id) (λ_=>rfl) rc,Yq BO (λe=>e.id) (λ_=>rfl) rp,Yq CO (λe=>e.id) (λ_=>rfl) rd,As,CB,CB,As,As,An,An,Bm];rfl
    by_cases g1:(Bq 3 ws).all FL=true/\(Bq 3 ws).length<=1000
    ·rw[AJ g1];by_cases g2:(c.all λp=>p.2.all (BZ CH))=true
     ·rw[AJ g2];by_cases g3:(p.all λp=>p.2.all (BZ Cg))=true
      ·rw[AJ g3];by_cases g4:(d.all λp=>p.2.all (BZ CP))=true
       ·rw[AJ g4];have nn:∀x∈JN (Bq 3 ws) (c++p++d),0<=x:=λx hx=>by
         unfold JN at hx;rcases AQ.mp hx with hx|hx
         ·obtain⟨r,hr,rfl⟩:=AG.mp hx;have:=A0.mp g1.1 r hr;unfold FL at this;rw[AR]at this;obtain⟨a,_,_,rfl,h1,_⟩:=qG this.1;have:(1:Int)<=a:=(B3.mp h1).1;show(0:Int)<=a;omega
         ·obtain⟨q,hq,hx⟩:=Hx.mp hx;obtain⟨r,hr,rfl⟩:=AG.mp hx;rcases AQ.mp hq with hq|hq
          ·rcases AQ.mp hq with hq|hq
           ·exact ou .entry (A0.mp (A0.mp g2 q hq) r hr)
           ·exact ou .P0 (A0.mp (A0.mp g3 q hq) r hr)
          ·exact ou .caller (A0.mp (A0.mp g4 q hq) r hr)
        have dn:Vbdeag.distinct (everyone ⟨w.toNat,(Bq 3 ws).map FJ,CV EF Vbdeag.start.chains c,CV BO Vbdeag.start.points p,CV CO Vbdeag.start.doors d⟩)=true↔(JN (Bq 3 ws) (c++p++d)).Nodup:=by
         rw[f5,VI,gp nn]
        show(if(Vbdeag.distinct (everyone ⟨w.toNat,(Bq 3 ws).map FJ,CV EF Vbdeag.start.chains c,CV BO Vbdeag.start.points p,CV CO Vbdeag.start.doors d⟩)&&(((Bq 3 ws).map FJ).all (λx=>!Vbdeag.fits w.toNat x)&&((CV BO Vbdeag.start.points p).all Vbdeag.pointOk&&(CV CO Vbdeag.start.doors d).all Vbdeag.doorOk)))=true then _ else none)=_;refine uQ ?_;rw[e1,e2,e3,e4,g1.1,g2,g3,g4,f2,f3,f4,AM g1.2,AR,AR,AR,dn,CL,BI,CL,CL];exact⟨λ⟨a,b,c,d⟩=>⟨b,U,c,d,a⟩,λ⟨b,_,c,d,a⟩=>⟨a,b,c,d⟩⟩
       ·rw[AI g4,AI];rw[e3];exactλz=>g4 (by have:=z.2.2.2.1;rw[AR]at this;exact this.1)
      ·rw[AI g3,AI];rw[e2];exactλz=>g3 (by have:=z.2.2.1;rw[AR]at this;exact this.1)
     ·rw[AI g2,AI];rw[e1];exactλz=>g2 z.2.1
    ·rw[AI g1,AI];rw[e4,AR,AR,Br];exactλz=>g1 ⟨z.1.1.1,z.1.2⟩
end So
namespace So
open PySem PySem.Spec PyProof.Rows L2
theorem Xy{k:Nat}(k1:1<=k):∀(n:Nat)(b:Int)(l:List Int)(ps:List Part),l.length<=n->PM k b l=some ps->k*(ps.flatMap λp=>p.2.map r0).length<=l.length/\ps.length<=l.length
 |n,b,[],ps,_,h=>by cases h;exact⟨AU _,AU _⟩
 |0,b,i::r,ps,hl,_=>absurd hl (Cu _)
 |n+1,b,[i],ps,_,h=>by cases h
 |n+1,b,i::c::r,ps,hl,h=>by
  rw[Xw]at h;by_cases c1:(Vbdeag.inR i 0 63&&Vbdeag.inR c 1 1000)=true/\b<i
  ·rw[AJ c1]at h;by_cases c2:c.toNat*k<=r.length
   ·rw[AJ c2]at h;cases hq:PM k i (r.drop (c.toNat*k))with
    |none=>rw[hq]at h;cases h
    |some qs=>
     rw[hq]at h;cases h;have hl:r.length+1+1<=n+1:=hl;obtain⟨ih,ih2⟩:=Xy k1 n i _ qs (by rw[A2];omega) hq;have e:=(fB k1 c.toNat (r.take (c.toNat*k)) [] (by rw[Bb];omega)).1;rw[A2]at ih ih2;rw[Ba,AL,AA,e,Nat.mul_add,VM k c.toNat];refine⟨?_,?_⟩
     ·show _<=r.length+1+1;omega
     ·show qs.length+1<=r.length+1+1;omega
   ·rw[AI c2]at h;cases h
  ·rw[AI c1]at h;cases h
section
variable{P:Program}{w:World}{K:PySem.W.Frag}{mg:Str->Option Value}{base:Heap}
def PV(H0 H:Hp)(k:Nat)(ns:List Int)(v:V):Prop:=(PM k (-1) ns=none/\v=.DX)\/∃c p,PM k (-1) ns=some c/\v=.ref p/\IB (λy=>H0 y=none) H p c
theorem PV.same{H0 H H':Hp}{k:Nat}{ns:List Int}{v:V}(s:A7 H H')(h:PV H0 H k ns v):PV H0 H' k ns v:=h.imp id λ⟨c,p,a,b,d⟩=>⟨c,p,a,b,d.keep λx o f e=>⟨s _ _ e,f⟩⟩
theorem PV.old{H0 H1 H:Hp}{k:Nat}{ns:List Int}{v:V}(s:A7 H0 H1)(h:PV H1 H k ns v):PV H0 H k ns v:=h.imp id λ⟨c,p,a,b,d⟩=>⟨c,p,a,b,d.keep λx o f e=>⟨e,s.free f⟩⟩
def Mb(x:Str)(rg:List Rg)(k:Nat)(ns:List Int):Bool:=match PM k (-1) ns with
 |none=>false
 |some c=>c.all (Ca x rg)
theorem Oj(T:All w K mg){a:Addr}{x:Str}{rg:List Rg}{ns:List Int}{H:Hp}{Q:VK}{E:XK}(hx:Keyed x rg)(ha:H a=some (.lst (ns.map V.int)))(hl:ns.length<=17000)(k:∀v H',A7 H H'->PV H H' rg.length ns v->Q v H'):QY T [.ref a,.str x] H Q E:=
 ⟨a,x,rg,ns,U,hx,ha,hl,λh H' s=>k _ H' s (.inl ⟨h,U⟩),λps h H' p s hp=>k _ H' s (.inr ⟨ps,p,h,U,hp⟩)⟩
theorem Kz(T:All w K mg){x:Str}{rg:List Rg}{ns:List Int}{v:V}{H0 H:Hp}{Q:VK}{E:XK}(hx:Keyed x rg)(hl:ns.length<=17000)(hv:PV H0 H rg.length ns v)(k:∀H',A7 H H'->Q (.bl (Mb x rg rg.length ns)) H'):Lw T [.str x,v] H Q E:=by
 refine⟨x,rg,hx,?_⟩;rcases hv with ⟨h,rfl⟩|⟨c,p,h,rfl,hp⟩
 ·refine .inl ⟨U,λH' s=>?_⟩;have:=k H' s;unfold Mb at this;rw[h]at this;exact this
 ·refine .inr ⟨p,c,U,hp.at_,λq hq=>Aw ((MH rg.length _ (-1) ns c (AU _) (by decide) h).2 q hq) hl,λH' s=>?_⟩;have:=k H' s;unfold Mb at this;rw[h]at this;exact this
theorem bS{H:Hp}{a b:Addr}{c d:List Part}(h1:Ke H a c)(h2:Ke H b d):∃xs zs,H a=some (.lst xs)/\H b=some (.lst zs)/\xs.length=c.length/\zs.length=d.length/\∀p,H p=none->Ke (upd H p (.lst (xs++zs))) p (c++d):=by
 obtain⟨qs,e1,e2,e3⟩:=h1;obtain⟨rs,f1,f2,f3⟩:=h2;refine⟨_,_,e1,f1,by rw[Al,<-e2,AA],by rw[Al,<-f2,AA],λp np=>⟨qs++rs,by rw[AD,Dr],by rw[As,e2,f2],λq hq=>?_⟩⟩;have s:=AO (o:=.lst (refs qs++refs rs)) np;rcases AQ.mp hq with hq|hq
 ·obtain⟨la,g1,g2⟩:=e3 q hq;exact⟨la,s _ _ g1,g2.same s⟩
 ·obtain⟨la,g1,g2⟩:=f3 q hq;exact⟨la,s _ _ g1,g2.same s⟩
inductive lQ(T:All w K mg)(vs:List V)(H:Hp)(Q:VK)(E:XK):Prop
 |mk(r la a0 a1 a2 a3:Addr)(v:Nat)(b:Vbdeag.Bank)(L:Lo)(ws cs ps ds:List Int):vs=[.ref r,.int v,.ref la]->Ah T H r b L->A1 K H la [.ref a0,.ref a1,.ref a2,.ref a3]->H a0=some (.lst (ws.map V.int))->H a1=some (.lst (cs.map V.int))->H a2=some (.lst (ps.map V.int))->H a3=some (.lst (ds.map V.int))->ws.length+(cs.length+(ps.length+ds.length))<=4100->Done T H r L ((Ho v ws cs ps ds).getD b) (match Ho v ws cs ps ds with|some _=>Vbdeag.ids []|none=>[-2]) Q->lQ T vs H Q E
theorem uT(T:All w K mg):Ok P w base T.aY 5 (lQ T):=by
 refine T.aY.go T7 λcdv A outer s H vs Q E hr h Cc=>?_;obtain⟨r,la,a0,a1,a2,a3,v,b,L,ws,cs,ps,ds,rfl,R,hla,h0,h1,h2,h3,hl,k⟩:=h;refine⟨_,(AE (DJ T7 3 (Bu (Y9 T) hr (AB (Ax Aa (pv 2) Ag) (AB (Bu (NO T) hr (AB Kh AF)) AF))))
  (AE (DJ T7 4 (Bu (QZ T) hr (AB (Ax Aa (pv 2) Ag) (AB Kh AF))))
  (AE (DJ T7 5 (Bu (QZ T) hr (AB (Ax Aa (pv 2) Ag) (AB Kh AF))))
  (AE (DJ T7 6 (Bu (QZ T) hr (AB (Ax Aa (pv 2) Ag) (AB Kh AF))))
  (AE (B_ (PW.pt (U1 (Hz (D_ (Bu (VS T) hr (AB (pv 1) (AB (pv 3) AF))))) (Oz (Hz (D_ (Bu (Lx T) hr (AB Kh (AB (pv 4) AF)))))))) (AK (Am (BS (AB (Lg T.IM) AF)))) Bc)
  (AE (B_ (PW.pt (U1 (Hz (D_ (Bu (Lx T) hr (AB Kh (AB (pv 5) AF))))) (Oz (Hz (D_ (Bu (Lx T) hr (AB Kh (AB (pv 6) AF)))))))) (AK (Am (BS (AB (Lg T.IM) AF)))) Bc)
  (AE (B_ (Hz (D_ (Bu (ZU T) hr (AB (pv 3) (AB (CA H_ (CA H_ (pv 4) (pv 5)) (pv 6)) AF))))) (AK (Am (BS (AB (Lg T.IM) AF)))) Bc)
  (AE (C0 (Bu (Q9 T) hr (AB (pv 0) AF)))
  (AE (Cp (pv 0) (pv 1) U)
  (AE (C0 (Bu (We T) hr (AB (pv 0) (AB (pv 3) AF))))
  (AE (C0 (Bu (ZV T) hr (AB (pv 0) (AB (pv 4) AF))))
  (AE (C0 (Bu (ZW T) hr (AB (pv 0) (AB (pv 5) AF))))
  (AE (C0 (Bu (Z3 T) hr (AB (pv 0) (AB (pv 6) AF))))
  (AK (Am (Bu (Cn T) hr (AB (BS AF) AF))))))))))))))))),?_⟩
 have kr:=T.BG;refine⟨_,U,la,_,_,.ref a0,U,U,hla,at_of U rfl,_,EW,U,.lJ,a0,3,ws,U,by decide,by decide,h0,by omega,λH1 p1 s1 hW=>?_⟩;refine⟨_,U,la,_,_,.ref a1,U,U,s1.seq hla,at_of U rfl,?_⟩;dsimp only[CM,tC,C_];refine Oj T .entry (s1 _ _ h1) (by omega) λvc H2 s2 hc=>?_;refine⟨_,U,la,_,_,.ref a2,U,U,(s1.trans s2).seq hla,at_of U rfl,?_⟩;dsimp only[CM,tC,C_];refine Oj T .P0 ((s1.trans s2) _ _ h2) (by omega) λvp H3 s3 hp=>?_;refine⟨_,U,la,_,_,.ref a3,U,U,((s1.trans s2).trans s3).seq hla,at_of U rfl,?_⟩;dsimp only[CM,tC,C_];refine Oj T .caller (((s1.trans s2).trans s3) _ _ h3) (by omega) λvd H4 s4 hd=>?_;have hc:=(hc.same (s3.trans s4)).old s1;have hp:=(hp.same s4).old (s1.trans s2);have hd:=hd.old ((s1.trans s2).trans s3);have sA:A7 H H4:=((s1.trans s2).trans s3).trans s4;have hW4:GP H4 p1 (Bq 3 ws):=hW.at_.same ((s2.trans s3).trans s4);have hWF:XO (λy=>H y=none) H4 p1 (Bq 3 ws):=by
  obtain⟨rs,n1,g1,g2,g3⟩:=hW;exact⟨rs,n1,((s2.trans s3).trans s4) _ _ g1,g2,λq hq=>⟨((s2.trans s3).trans s4) _ _ (g3 q hq).1,(g3 q hq).2⟩⟩
 have bad:Ho v ws cs ps ds=none->∀H5,A7 H4 H5->∀q,H5 q=none->Q (.ref q) (upd H5 q (.lst [.int (-2)])):=λhn H5 s5 q nq=>by
  rw[hn]at k;exact k.one (R.same (sA.trans s5)) (BE.same (sA.trans s5)) q nq
 refine⟨_,U,_,U,v,p1,Bq 3 ws,U,hW4,λH5 s5=>⟨_,U,?_⟩⟩;cases g1:((Bq 3 ws).all (Gv v)&&decide ((Bq 3 ws).length<=1000))with
 |false=>
  have:Ho v ws cs ps ds=none:=by
   unfold Ho;rw[g1]
   split
   ·rw[AI (λz=>Au z.1)]
   ·rfl
  exact F7 (F7 ⟨by show 1<=sizeLine;decide,bad this H5 s5⟩)
 |true=>
  have no1:∀{x:Bool},Mb "entry" CH 3 cs=false->Ho v ws cs ps ds=none:=λ{_} h=>by
   unfold Mb at h;unfold Ho
   split
   ·rename_i c p d ec ep ed;rw[ec]at h;rw[AI (λz=>by have:=z.2.1;rw[show c.all (Ca "entry" CH)=false from h]at this;cases this)]
   ·rfl
  have no2:Mb "guest" Cg 4 ps=false->Ho v ws cs ps ds=none:=λh=>by
   unfold Mb at h;unfold Ho
   split
   ·rename_i c p d ec ep ed;rw[ep]at h;rw[AI (λz=>by have:=z.2.2.1;rw[show p.all (Ca "guest" Cg)=false from h]at this;cases this)]
   ·rfl
  have no3:Mb "caller" CP 4 ds=false->Ho v ws cs ps ds=none:=λh=>by
   unfold Mb at h;unfold Ho
   split
   ·rename_i c p d ec ep ed;rw[ed]at h;rw[AI (λz=>by have:=z.2.2.2.1;rw[show d.all (Ca "caller" CP)=false from h]at this;cases this)]
   ·rfl
  refine GZ ⟨_,U,?_⟩;dsimp only[C_];refine Kz T .entry (by omega) (hc.same s5) λH6 s6=>⟨_,U,?_⟩;have s6:=s5.trans s6;cases g2:Mb "entry" CH CH.length cs with
  |false=>exact F7 ⟨by show 1<=sizeLine;decide,bad (no1 (x:=true) g2) H6 s6⟩
  |true=>
   refine GZ ⟨_,U,?_⟩;dsimp only[C_];refine Kz T .P0 (by omega) (hp.same s6) λH7 s7=>⟨_,U,?_⟩;have s7:=s6.trans s7;cases g3:Mb "guest" Cg Cg.length ps with
   |false=>exact F7 (F7 ⟨by show 1<=sizeLine;decide,bad (no2 g3) H7 s7⟩)
   |true=>
    refine GZ ⟨_,U,?_⟩;dsimp only[C_];refine Kz T .caller (by omega) (hd.same s7) λH8 s8=>⟨_,U,?_⟩;have s8:=s7.trans s8;cases g4:Mb "caller" CP CP.length ds with
    |false=>exact F7 ⟨by show 1<=sizeLine;decide,bad (no3 g4) H8 s8⟩
    |true=>
     refine GZ ?_;obtain⟨c,pc,ec,rfl,fc⟩:∃c p,PM 3 (-1) cs=some c/\vc=.ref p/\IB (λy=>H y=none) H4 p c:=by
      rcases hc with ⟨z,_⟩|z
      ·unfold Mb at g2;rw[z]at g2;cases g2
      ·exact z
     obtain⟨p,pp,ep,rfl,fp⟩:∃c p,PM 4 (-1) ps=some c/\vp=.ref p/\IB (λy=>H y=none) H4 p c:=by
      rcases hp with ⟨z,_⟩|z
      ·unfold Mb at g3;rw[z]at g3;cases g3
      ·exact z
     obtain⟨d,pd,ed,rfl,fd⟩:∃c p,PM 4 (-1) ds=some c/\vd=.ref p/\IB (λy=>H y=none) H4 p c:=by
      rcases hd with ⟨z,_⟩|z
      ·unfold Mb at g4;rw[z]at g4;cases g4
      ·exact z
     (have o2:c.all (Ca "entry" CH)=true:=by unfold Mb at g2;rw[show CH.length=3 from rfl,ec]at g2;exact g2);(have o3:p.all (Ca "guest" Cg)=true:=by unfold Mb at g3;rw[show Cg.length=4 from rfl,ep]at g3;exact g3);(have o4:d.all (Ca "caller" CP)=true:=by unfold Mb at g4;rw[show CP.length=4 from rfl,ed]at g4;exact g4);have z1:=Xy (k:=3) (by decide) _ (-1) cs c (AU _) ec;have z2:=Xy (k:=4) (by decide) _ (-1) ps p (AU _) ep;have z3:=Xy (k:=4) (by decide) _ (-1) ds d (AU _) ed;have r1:=MH 3 _ (-1) cs c (AU _) (by decide) ec;have r2:=MH 4 _ (-1) ps p (AU _) (by decide) ep;have r3:=MH 4 _ (-1) ds d (AU _) (by decide) ed;have kc:∀q∈c,∀y∈q.2,BZ CH y=true:=λq hq y hy=>by
      have:=A0.mp o2 q hq;unfold Ca at this;rw[AR]at this;exact A0.mp this.1 y hy
     have kp:∀q∈p,∀y∈q.2,BZ Cg y=true:=λq hq y hy=>by
      have:=A0.mp o3 q hq;unfold Ca at this;rw[AR]at this;exact A0.mp this.1 y hy
     have kd:∀q∈d,∀y∈q.2,BZ CP y=true:=λq hq y hy=>by
      have:=A0.mp o4 q hq;unfold Ca at this;rw[AR]at this;exact A0.mp this.1 y hy
     have ow:∀q∈Bq 3 ws,Ce EW q=true:=λq hq=>by
      have g1:=g1;rw[AR]at g1;have:=A0.mp g1.1 q hq;unfold Gv at this;rw[AR]at this;exact this.1
     have wl:(Bq 3 ws).length<=1000:=by
      have g1:=g1;rw[AR]at g1;exact AX g1.2
     have one:∀(x:Str)(rg:List Rg),Keyed x rg->∀y,BZ rg y=true->1<=y.length:=λx rg hx y h=>by
      obtain⟨_,_,_,_,e,_⟩:=Nd hx h;rw[e];exact Eo (AY _)
     have ABM:(JN (Bq 3 ws) (c++p++d)).length+1<4096:=by
      unfold JN;rw[AL,AA,CB,CB,AL,AL];omega
     obtain⟨x1,x2,i1,i2,i3,i4,i5⟩:=bS ((fc.at_).same s8) ((fp.at_).same s8);refine⟨_,U,_,U,_,U,pc,pp,x1,x2,U,U,i1,i2,by omega,λt1 nt1=>?_⟩;have cp:=i5 t1 nt1;have s9:=s8.trans (AO (o:=.lst (x1++x2)) nt1);generalize upd H8 t1 (.lst (x1++x2))=H9 at cp s9⊢;obtain⟨y1,y2,j1,j2,j3,j4,j5⟩:=bS cp ((fd.at_).same s9);rw[AL]at j3;refine⟨_,U,t1,pd,y1,y2,U,U,j1,j2,by omega,λt2 ux=>?_⟩;have cpd:=j5 t2 ux;have pK:=s9.trans (AO (o:=.lst (y1++y2)) ux);generalize upd H9 t2 (.lst (y1++y2))=yd at cpd pK⊢;refine⟨p1,t2,Bq 3 ws,c++p++d,U,hW4.same pK,cpd,ABM,λy hy=>by obtain⟨_,_,_,rfl,_⟩:=qG (ow y hy);exact Eo (AY _),λq hq y hy=>?_,λxR d9=>⟨_,U,?_⟩⟩
     ·rcases AQ.mp hq with hq|hq
      ·rcases AQ.mp hq with hq|hq
       ·exact one _ _ .entry y (kc q hq y hy)
       ·exact one _ _ .P0 y (kp q hq y hy)
      ·exact one _ _ .caller y (kd q hq y hy)
     have d9:=pK.trans d9;by_cases nd:(JN (Bq 3 ws) (c++p++d)).Nodup
     ·rw[AM nd];have hs:Ho v ws cs ps ds=some ⟨v,(Bq 3 ws).map FJ,CV EF Vbdeag.start.chains c,CV BO Vbdeag.start.points p,CV CO Vbdeag.start.doors d⟩:=by
       unfold Ho;rw[ec,ep,ed];exact AJ ⟨g1,o2,o3,o4,nd⟩
      rw[hs]at k;have k:Done T H r L ⟨v,(Bq 3 ws).map FJ,CV EF Vbdeag.start.chains c,CV BO Vbdeag.start.points p,CV CO Vbdeag.start.doors d⟩ (Vbdeag.ids []) Q:=k;have R11:=R.same (sA.trans d9);refine GZ ⟨_,U,r,b,L,U,R11,λH12 L1 q0 S1 R12 m12 _ _ _=>?_⟩;(have zF:∀x,(H x=none/\∃o,H4 x=some o)->x∉L.foot r:=λx hx z=>by obtain⟨o,e,_⟩:=R.there x z;rw[hx.1]at e;cases e);have step:∀{Ha Hb:Hp}{Fa Fb:List Addr},BE Ha Fa Hb Fb->(∀x,(H x=none/\∃o,H4 x=some o)->x∉Fa/\∃o,Ha x=some o)->∀x,(H x=none/\∃o,H4 x=some o)->x∉Fb/\∃o,Hb x=some o:=λm h x hx=>by
       obtain⟨h1,o,h2⟩:=h x hx;exact⟨λz=>(m.fresh x z).elim h1 λq=>(by rw[h2]at q;cases q),m.grow x o h2⟩
      have sC:∀x,(H x=none/\∃o,H4 x=some o)->x∉L.foot r/\∃o,xR x=some o:=λx hx=>⟨zF x hx,hx.2.choose,d9 _ _ hx.2.choose_spec⟩;have AEu:=step m12 sC;have kept:∀{Hb:Hp}{Fb:List Addr},BE xR (L.foot r) Hb Fb->∀x o,(H x=none)->H4 x=some o->Hb x=some o/\(H x=none/\∃o,H4 x=some o):=λm x o h1 h2=>⟨m.keep _ _ (d9 _ _ h2) (zF x ⟨h1,o,h2⟩),h1,o,h2⟩;refine⟨_,U,_,U,r,_,L1.dx,_,U,R12.obj,kr.cl,kr.no _ (by simp),(show(5:Nat)<1000 by decide),?_⟩;rw[lH];have R13:=R12.k7 v;have m13:BE xR (L.foot r) (upd H12 r (.ins T.Bw L1.dx (IG v L1.aw L1.ac L1.ap L1.ad))) (L1.foot r):=m12.set ME λa h=>(m12.fresh a h).elim (λz=>.inl h) λz=>.inr z;generalize upd H12 r (.ins T.Bw L1.dx (IG v L1.aw L1.ac L1.ap L1.ad))=H13 at R13 m13⊢;refine⟨_,U,_,U,r,p1,_,L1,Bq 3 ws,U,R13,S1,(hWF.keep (kept m13)).at_,by omega,ow,λH14 vE R14 S2 xh=>?_⟩;have xh:=m13.trans xh;have ABN:=step xh sC;refine⟨_,U,_,U,r,pc,_,vE,c,_,U,R14,S2,fc.keep (kept xh),λx hx=>(ABN x hx).1,λq hq=>⟨Jv.dY (by decide) r1.1 q hq,Aw (r1.2 q hq) (by omega),kc q hq⟩,λH15 L3' R15 S3 xj=>?_⟩;have xj:=xh.trans xj;have ABO:=step xj sC;refine⟨_,U,_,U,r,pp,_,L3',p,_,U,R15,S3,fp.keep (kept xj),λx hx=>(ABO x hx).1,λq hq=>⟨Jv.dY (by decide) r2.1 q hq,Aw (r2.2 q hq) (by omega),kp q hq⟩,λH16 L4' R16 S4 xm=>?_⟩;have xm:=xj.trans xm;have ABP:=step xm sC;refine⟨_,U,_,U,r,pd,_,L4',d,_,U,R16,S4,fd.keep (kept xm),λx hx=>(ABP x hx).1,λq hq=>⟨Jv.dY (by decide) r3.1 q hq,Aw (r3.2 q hq) (by omega),kd q hq⟩,λH17 L5' R17 S5 m17=>?_⟩;exact k.none R17 ((BE.same (sA.trans d9)).trans (xm.trans m17))
     ·rw[BJ nd];have hn:Ho v ws cs ps ds=none:=by
       unfold Ho;rw[ec,ep,ed];exact AI λz=>nd z.2.2.2.2
      exact F7 ⟨by show 1<=sizeLine;decide,bad hn xR d9⟩
end
theorem BP{r:Rg}{rs:List Rg}{ns:List Int}(h:Ce (r::rs) ns=true):∃x t,ns=x::t/\A_ r x=true/\Ce rs t=true:=by
 cases ns with
 |nil=>cases h
 |cons x t=>
  have h:(A_ r x&&Ce rs t)=true:=h;rw[AR]at h;exact⟨x,t,U,h.1,h.2⟩
theorem DH{ns:List Int}(h:Ce [] ns=true):ns=[]:=by
 cases ns with
 |nil=>rfl
 |cons x t=>cases h
theorem Bv{r:Rg}{x:Int}(h:A_ r x=true)(h0:0<=r.2.1):∃n:Nat,x=n/\r.2.1<=(n:Int)/\(n:Int)<=r.2.2:=by
 obtain⟨h1,h2⟩:=B3.mp h;exact⟨x.toNat,(CC (by omega)).symm,by omega,by omega⟩
theorem Xz(n:Nat):((n:Int)==1)=(n==1):=by
 by_cases h:n=1
 ·rw[h];rfl
 ·rw[Bd.mpr h,Bd.mpr (by omega)]
section
variable{P:Program}{w:World}{K:PySem.W.Frag}{mg:Str->Option Value}{base:Heap}
theorem Ah.Em{T:All w K mg}{H:Hp}{r:Addr}{b:Vbdeag.Bank}{L:Lo}(R:Ah T H r b L)(W:UA b):Co L:=
 ⟨by have:=W.nc;rw[R.bc,AA]at this;exact this,by have:=W.np;rw[R.bp,AA]at this;exact this,by have:=W.nd;rw[R.bd,AA]at this;exact this⟩
theorem Wf.wnd{b:Vbdeag.Bank}{N:Nat}(W:Wf b N):(b.watches.map λx=>x.id).Nodup:=by
 have:=W.i.one;unfold Vbdeag.everyone at this;exact(Bo.mp this).1
theorem Wf.cnd{b:Vbdeag.Bank}{N c:Nat}(W:Wf b N)(hc:c<64):((b.chain c).map λx=>x.id).Nodup:=by
 have:=W.i.one;unfold Vbdeag.everyone at this;have:=(Bo.mp (Bo.mp this).2.1).1;exact(Pk.mp this).1 _ (W.p.cm hc)
theorem UA.lows{b:Vbdeag.Bank}(W:UA b):vZ b:=⟨W.lw,W.lc,W.lp,W.ld⟩
theorem Done.tells{T:All w K mg}{H:Hp}{r:Addr}{L:Lo}{b:Vbdeag.Bank}{VB:List Int}{Q:VK}(k:Done T H r L b VB Q)(R:Ah T H r b L):Tells H VB Q:=λH' p s np e=>k H' L p (R.same s) (BE.same s) e np (R.Cv np)
theorem Done.later{T:All w K mg}{H H1:Hp}{r:Addr}{L:Lo}{b:Vbdeag.Bank}{VB:List Int}{Q:VK}(k:Done T H r L b VB Q)(s:A7 H H1):Done T H1 r L b VB Q:=λH' L' p R m e np nf=>k H' L' p R ((BE.same s).trans m) e (s.free np) nf
theorem Tells.later{H H1:Hp}{VB:List Int}{Q:VK}(k:Tells H VB Q)(s:A7 H H1):Tells H1 VB Q:=λH' p s' np e=>k H' p (s.trans s') (s.free np) e
inductive EI(T:All w K mg)(rs:List Rg)(p:Int)(vs:List V)(H:Hp)(Q:VK)(E:XK):Prop
 |mk(r a:Addr)(b:Vbdeag.Bank)(L:Lo)(N:Nat)(args:List Int):vs=[.ref r,.ref a]->Ah T H r b L->Wf b N->A1 K H a (args.map V.int)->Ce rs args=true->Done T H r L (Vbdeag.step b [p::args]).1 (Vbdeag.step b [p::args]).2 Q->EI T rs p vs H Q E
theorem oG(T:All w K mg):Ok P w base T.Gb 4 (EI T [Fg] 0):=by
 refine T.Gb.go nE λcdv A outer s H vs Q E hr h Cc=>?_;obtain⟨r,a,b,L,N,args,rfl,R,W,ha,ho,k⟩:=h;refine⟨_,(AK (Am (Bu (bI T) hr (AB (pv 0) (AB (Ax Aa (pv 1) Ag) AF))))),?_⟩;obtain⟨x0,t0,rfl,o0,ho⟩:=BP ho;cases DH ho;obtain⟨n0,rfl,l0,u0⟩:=Bv o0 (by decide);have l0:_<=(n0:Int):=l0;have u0:(n0:Int)<=_:=u0;have S:=R.Em W.p;have kr:=T.BG;have e:Vbdeag.step b [[0,(n0:Int)]]=Vbdeag.answered b (Vbdeag.put b n0):=by
  show Vbdeag.asked _ b _=_;unfold Vbdeag.asked;rw[AJ (show(Vbdeag.okW (n0:Int))=true by exact o0)];rfl
 rw[e]at k;exact⟨_,U,_,U,a,_,_,.int n0,U,U,ha,at_of U rfl,r,n0,b,L,U,R,W.p.lw,W.wnd,λx hx=>(W.p.ow x hx).s,k⟩
theorem oH(T:All w K mg):Ok P w base T.Gd 5 (EI T [Ux,iy] 1):=by
 refine T.Gd.go nF λcdv A outer s H vs Q E hr h Cc=>?_;obtain⟨r,a,b,L,N,args,rfl,R,W,ha,ho,k⟩:=h;refine⟨_,(AK (Am (Bu (Zz T) hr (AB (pv 0) (AB (Ax Aa (pv 1) Ag) (AB (Ax Aa (pv 1) Ag) AF)))))),?_⟩;obtain⟨x0,t0,rfl,o0,ho⟩:=BP ho;obtain⟨x1,t1,rfl,o1,ho⟩:=BP ho;cases DH ho;obtain⟨n0,rfl,l0,u0⟩:=Bv o0 (by decide);have l0:_<=(n0:Int):=l0;have u0:(n0:Int)<=_:=u0;obtain⟨n1,rfl,l1,u1⟩:=Bv o1 (by decide);have l1:_<=(n1:Int):=l1;have u1:(n1:Int)<=_:=u1;have S:=R.Em W.p;have kr:=T.BG;have e:Vbdeag.step b [[1,(n0:Int),(n1:Int)]]=Vbdeag.answered b (Vbdeag.set b n0 n1):=by
  show Vbdeag.asked _ b _=_;unfold Vbdeag.asked;rw[AJ (show(Vbdeag.inR (n0:Int) 0 58&&Vbdeag.inR (n1:Int) 0 2)=true by rw[show Vbdeag.inR (n0:Int) 0 58=true from o0,show Vbdeag.inR (n1:Int) 0 2=true from o1];rfl)];rfl
 rw[e]at k;exact⟨_,U,_,U,a,_,_,.int n0,U,U,ha,at_of U rfl,_,U,a,_,_,.int n1,U,U,ha,at_of U rfl,r,n0,n1,b,L,U,by have:(n0:Int)<=58:=u0;omega,by have:(n1:Int)<=2:=u1;omega,R,W.p.lw,W.wnd,λx hx=>(W.p.ow x hx).s,k⟩
theorem gu(T:All w K mg):Ok P w base T.Ec 5 (EI T [DK,Fg,Fg] 2):=by
 refine T.Ec.go gD λcdv A outer s H vs Q E hr h Cc=>?_;obtain⟨r,a,b,L,N,args,rfl,R,W,ha,ho,k⟩:=h;refine⟨_,(AK (Am (Bu (rB T) hr (AB (pv 0) (AB (Ax Aa (pv 1) Ag) (AB (Ax Aa (pv 1) Ag) (AB (Ax Aa (pv 1) Ag) AF))))))),?_⟩;obtain⟨x0,t0,rfl,o0,ho⟩:=BP ho;obtain⟨x1,t1,rfl,o1,ho⟩:=BP ho;obtain⟨x2,t2,rfl,o2,ho⟩:=BP ho;cases DH ho;obtain⟨n0,rfl,l0,u0⟩:=Bv o0 (by decide);have l0:_<=(n0:Int):=l0;have u0:(n0:Int)<=_:=u0;obtain⟨n1,rfl,l1,u1⟩:=Bv o1 (by decide);have l1:_<=(n1:Int):=l1;have u1:(n1:Int)<=_:=u1;obtain⟨n2,rfl,l2,u2⟩:=Bv o2 (by decide);have l2:_<=(n2:Int):=l2;have u2:(n2:Int)<=_:=u2;have S:=R.Em W.p;have kr:=T.BG;have e:Vbdeag.step b [[2,(n0:Int),(n1:Int),(n2:Int)]]=Vbdeag.answered b (Vbdeag.watch b n0 n1 n2):=by
  show Vbdeag.asked _ b _=_;unfold Vbdeag.asked;rw[AJ (show(Vbdeag.okX (n0:Int)&&(Vbdeag.okW (n1:Int)&&Vbdeag.okW (n2:Int)))=true by rw[show Vbdeag.okX (n0:Int)=true from o0,show Vbdeag.okW (n1:Int)=true from o1,show Vbdeag.okW (n2:Int)=true from o2];rfl)];rfl
 rw[e]at k;exact⟨_,U,_,U,a,_,_,.int n0,U,U,ha,at_of U rfl,_,U,a,_,_,.int n1,U,U,ha,at_of U rfl,_,U,a,_,_,.int n2,U,U,ha,at_of U rfl,r,n0,n1,n2,b,L,U,R,S,W.p.lw,k⟩
theorem jf(T:All w K mg):Ok P w base T.FZ 6 (EI T [BC,r_flag] 6):=by
 refine T.FZ.go jJ λcdv A outer s H vs Q E hr h Cc=>?_;obtain⟨r,a,b,L,N,args,rfl,R,W,ha,ho,k⟩:=h;refine⟨_,(AK (Am (Bu (Z1 T) hr (AB (pv 0) (AB (Ax Aa (pv 1) Ag) (AB (Ax Aa (pv 1) Ag) AF)))))),?_⟩;obtain⟨x0,t0,rfl,o0,ho⟩:=BP ho;obtain⟨x1,t1,rfl,o1,ho⟩:=BP ho;cases DH ho;obtain⟨n0,rfl,l0,u0⟩:=Bv o0 (by decide);have l0:_<=(n0:Int):=l0;have u0:(n0:Int)<=_:=u0;obtain⟨n1,rfl,l1,u1⟩:=Bv o1 (by decide);have l1:_<=(n1:Int):=l1;have u1:(n1:Int)<=_:=u1;have S:=R.Em W.p;have kr:=T.BG;have FQ:n0<64:=by have:(n0:Int)<=63:=u0;omega
 have f1:n1<=1:=by have:(n1:Int)<=1:=u1;omega
 have e:Vbdeag.step b [[6,(n0:Int),(n1:Int)]]=Vbdeag.answered b (.ok (b.setChain n0 (Vbdeag.sorted (n1==1) (b.chain n0))) []):=by
  show Vbdeag.asked _ b _=_;unfold Vbdeag.asked;rw[AJ (show(Vbdeag.okC (n0:Int)&&Vbdeag.inR (n1:Int) 0 1)=true by rw[show Vbdeag.okC (n0:Int)=true from o0,show Vbdeag.inR (n1:Int) 0 1=true from o1];rfl)];rw[Xz];rfl
 rw[e]at k;exact⟨_,U,_,U,a,_,_,.int n0,U,U,ha,at_of U rfl,_,U,a,_,_,.int n1,U,U,ha,at_of U rfl,r,n0,n1,b,L,U,FQ,f1,R,S,W.p.lc _ (W.p.cm FQ),W.p.oc _ (W.p.cm FQ),k⟩
theorem dP(T:All w K mg):Ok P w base T.D0 3 (EI T [BC,Xu] 7):=by
 refine T.D0.go c_ λcdv A outer s H vs Q E hr h Cc=>?_;obtain⟨r,a,b,L,N,args,rfl,R,W,ha,ho,k⟩:=h;refine⟨_,(AK (Am (Bu (nV T) hr (AB (pv 0) (AB (Ax Aa (pv 1) Ag) (AB (Ax Aa (pv 1) Ag) AF)))))),?_⟩;obtain⟨x0,t0,rfl,o0,ho⟩:=BP ho;obtain⟨x1,t1,rfl,o1,ho⟩:=BP ho;cases DH ho;obtain⟨n0,rfl,l0,u0⟩:=Bv o0 (by decide);have l0:_<=(n0:Int):=l0;have u0:(n0:Int)<=_:=u0;obtain⟨n1,rfl,l1,u1⟩:=Bv o1 (by decide);have l1:_<=(n1:Int):=l1;have u1:(n1:Int)<=_:=u1;have S:=R.Em W.p;have kr:=T.BG;have FQ:n0<64:=by have:(n0:Int)<=63:=u0;omega
 have e:Vbdeag.step b [[7,(n0:Int),(n1:Int)]]=Vbdeag.answered b (.ok (b.setChain n0 (Vbdeag.rotated n1 (b.chain n0))) []):=by
  show Vbdeag.asked _ b _=_;unfold Vbdeag.asked;rw[AJ (show(Vbdeag.okC (n0:Int)&&Vbdeag.inR (n1:Int) 0 1000000000)=true by rw[show Vbdeag.okC (n0:Int)=true from o0,show Vbdeag.inR (n1:Int) 0 1000000000=true from o1];rfl)];rfl
 rw[e]at k;exact⟨_,U,_,U,a,_,_,.int n0,U,U,ha,at_of U rfl,_,U,a,_,_,.int n1,U,U,ha,at_of U rfl,r,n0,n1,b,L,U,FQ,R,S,W.p.lc _ (W.p.cm FQ),k⟩
theorem Z4(T:All w K mg):Ok P w base T.DY 3 (EI T [BC] 8):=by
 refine T.DY.go Zu λcdv A outer s H vs Q E hr h Cc=>?_;obtain⟨r,a,b,L,N,args,rfl,R,W,ha,ho,k⟩:=h;refine⟨_,(AK (Am (Bu (Wb T) hr (AB (pv 0) (AB (Ax Aa (pv 1) Ag) AF))))),?_⟩;obtain⟨x0,t0,rfl,o0,ho⟩:=BP ho;cases DH ho;obtain⟨n0,rfl,l0,u0⟩:=Bv o0 (by decide);have l0:_<=(n0:Int):=l0;have u0:(n0:Int)<=_:=u0;have S:=R.Em W.p;have kr:=T.BG;have FQ:n0<64:=by have:(n0:Int)<=63:=u0;omega
 have e:Vbdeag.step b [[8,(n0:Int)]]=Vbdeag.answered b (.ok (b.setChain n0 (b.chain n0).reverse) []):=by
  show Vbdeag.asked _ b _=_;unfold Vbdeag.asked;rw[AJ (show(Vbdeag.okC (n0:Int))=true by exact o0)];rfl
 rw[e]at k;exact⟨_,U,_,U,a,_,_,.int n0,U,U,ha,at_of U rfl,r,n0,b,L,U,FQ,R,S,W.p.lc _ (W.p.cm FQ),k⟩
theorem gv(T:All w K mg):Ok P w base T.Ed 4 (EI T [BC,BC] 9):=by
 refine T.Ed.go gE λcdv A outer s H vs Q E hr h Cc=>?_;obtain⟨r,a,b,L,N,args,rfl,R,W,ha,ho,k⟩:=h;refine⟨_,(AK (Am (Bu (rE T) hr (AB (pv 0) (AB (Ax Aa (pv 1) Ag) (AB (Ax Aa (pv 1) Ag) AF)))))),?_⟩;obtain⟨x0,t0,rfl,o0,ho⟩:=BP ho;obtain⟨x1,t1,rfl,o1,ho⟩:=BP ho;cases DH ho;obtain⟨n0,rfl,l0,u0⟩:=Bv o0 (by decide);have l0:_<=(n0:Int):=l0;have u0:(n0:Int)<=_:=u0;obtain⟨n1,rfl,l1,u1⟩:=Bv o1 (by decide);have l1:_<=(n1:Int):=l1;have u1:(n1:Int)<=_:=u1;have S:=R.Em W.p;have kr:=T.BG;have FQ:n0<64:=by have:(n0:Int)<=63:=u0;omega
 have xo:n1<64:=by have:(n1:Int)<=63:=u1;omega
 have e:Vbdeag.step b [[9,(n0:Int),(n1:Int)]]=Vbdeag.answered b (Vbdeag.merge b n0 n1):=by
  show Vbdeag.asked _ b _=_;unfold Vbdeag.asked;rw[AJ (show(Vbdeag.okC (n0:Int)&&Vbdeag.okC (n1:Int))=true by rw[show Vbdeag.okC (n0:Int)=true from o0,show Vbdeag.okC (n1:Int)=true from o1];rfl)];rfl
 rw[e]at k;exact⟨_,U,_,U,a,_,_,.int n0,U,U,ha,at_of U rfl,_,U,a,_,_,.int n1,U,U,ha,at_of U rfl,r,n0,n1,N,b,L,U,FQ,xo,R,S,W,k⟩
theorem oJ(T:All w K mg):Ok P w base T.Ge 3 (EI T [BC,BC,bQ] 10):=by
 refine T.Ge.go nG λcdv A outer s H vs Q E hr h Cc=>?_;obtain⟨r,a,b,L,N,args,rfl,R,W,ha,ho,k⟩:=h;refine⟨_,(AK (Am (Bu (xO T) hr (AB (pv 0) (AB (Ax Aa (pv 1) Ag) (AB (Ax Aa (pv 1) Ag) (AB (Ax Aa (pv 1) Ag) AF))))))),?_⟩;obtain⟨x0,t0,rfl,o0,ho⟩:=BP ho;obtain⟨x1,t1,rfl,o1,ho⟩:=BP ho;obtain⟨x2,t2,rfl,o2,ho⟩:=BP ho;cases DH ho;obtain⟨n0,rfl,l0,u0⟩:=Bv o0 (by decide);have l0:_<=(n0:Int):=l0;have u0:(n0:Int)<=_:=u0;obtain⟨n1,rfl,l1,u1⟩:=Bv o1 (by decide);have l1:_<=(n1:Int):=l1;have u1:(n1:Int)<=_:=u1;obtain⟨n2,rfl,l2,u2⟩:=Bv o2 (by decide);have l2:_<=(n2:Int):=l2;have u2:(n2:Int)<=_:=u2;have S:=R.Em W.p;have kr:=T.BG;have FQ:n0<64:=by have:(n0:Int)<=63:=u0;omega
 have xo:n1<64:=by have:(n1:Int)<=63:=u1;omega
 have e:Vbdeag.step b [[10,(n0:Int),(n1:Int),(n2:Int)]]=Vbdeag.answered b (Vbdeag.cut b n0 n1 n2):=by
  show Vbdeag.asked _ b _=_;unfold Vbdeag.asked;rw[AJ (show(Vbdeag.okC (n0:Int)&&(Vbdeag.okC (n1:Int)&&Vbdeag.inR (n2:Int) 0 1000))=true by rw[show Vbdeag.okC (n0:Int)=true from o0,show Vbdeag.okC (n1:Int)=true from o1,show Vbdeag.inR (n2:Int) 0 1000=true from o2];rfl)];rfl
 rw[e]at k;exact⟨_,U,_,U,a,_,_,.int n0,U,U,ha,at_of U rfl,_,U,a,_,_,.int n1,U,U,ha,at_of U rfl,_,U,a,_,_,.int n2,U,U,ha,at_of U rfl,r,n0,n1,n2,N,b,L,U,FQ,xo,R,S,W,k⟩
theorem gw(T:All w K mg):Ok P w base T.Ef 5 (EI T [DK] 14):=by
 refine T.Ef.go gF λcdv A outer s H vs Q E hr h Cc=>?_;obtain⟨r,a,b,L,N,args,rfl,R,W,ha,ho,k⟩:=h;refine⟨_,(AK (Am (Bu (rJ T) hr (AB (pv 0) (AB (Ax Aa (pv 1) Ag) AF))))),?_⟩;obtain⟨x0,t0,rfl,o0,ho⟩:=BP ho;cases DH ho;obtain⟨n0,rfl,l0,u0⟩:=Bv o0 (by decide);have l0:_<=(n0:Int):=l0;have u0:(n0:Int)<=_:=u0;have S:=R.Em W.p;have kr:=T.BG;have e:Vbdeag.step b [[14,(n0:Int)]]=Vbdeag.answered b (Vbdeag.leave b n0):=by
  show Vbdeag.asked _ b _=_;unfold Vbdeag.asked;rw[AJ (show(Vbdeag.okX (n0:Int))=true by exact o0)];rfl
 rw[e]at k;exact⟨_,U,_,U,a,_,_,.int n0,U,U,ha,at_of U rfl,r,n0,N,b,L,U,R,S,W,k⟩
end
section
variable{P:Program}{w:World}{K:PySem.W.Frag}{mg:Str->Option Value}{base:Heap}
theorem jg(T:All w K mg):Ok P w base T.FW 7 (EI T [BC,DK,MG,Cf,Be] 3):=by
 refine T.FW.go Yv λcdv A outer s H vs Q E hr h Cc=>?_;obtain⟨r,a,b,L,N,args,rfl,R,W,ha,ho,k⟩:=h;refine⟨_,(AE (DJ Yv 2 (Wx T.Ck (EU T) hr (AB (Ax Aa (pv 1) Ag) (AB (Ax Aa (pv 1) Ag) AF))))
  (AK (Am (Bu (uF T) hr (AB (pv 0) (AB (Ax Aa (pv 1) Ag) (AB (Ax Aa (pv 1) Ag) (AB (Ax Aa (pv 1) Ag) (AB (pv 2) AF))))))))),?_⟩
 obtain⟨x0,t0,rfl,o0,ho⟩:=BP ho;obtain⟨x1,t1,rfl,o1,ho⟩:=BP ho;obtain⟨x2,t2,rfl,o2,ho⟩:=BP ho;obtain⟨x3,t3,rfl,o3,ho⟩:=BP ho;obtain⟨x4,t4,rfl,o4,ho⟩:=BP ho;cases DH ho;obtain⟨n0,rfl,l0,u0⟩:=Bv o0 (by decide);have l0:_<=(n0:Int):=l0;have u0:(n0:Int)<=_:=u0;obtain⟨n1,rfl,l1,u1⟩:=Bv o1 (by decide);have l1:_<=(n1:Int):=l1;have u1:(n1:Int)<=_:=u1;obtain⟨n2,rfl,l2,u2⟩:=Bv o2 (by decide);have l2:_<=(n2:Int):=l2;have u2:(n2:Int)<=_:=u2;obtain⟨l3,u3⟩:=B3.mp o3;obtain⟨l4,u4⟩:=B3.mp o4;have S:=R.Em W.p;have kr:=T.BG;have FQ:n0<64:=by have:(n0:Int)<=63:=u0;omega
 have e:Vbdeag.step b [[3,(n0:Int),(n1:Int),(n2:Int),x3,x4]]=Vbdeag.answered b (Vbdeag.link b n0 n1 n2 (Vbdeag.keyOf x3 x4.toNat)):=by
  show Vbdeag.asked _ b _=_;unfold Vbdeag.asked;rw[AJ (show(Vbdeag.okC (n0:Int)&&(Vbdeag.okX (n1:Int)&&(Vbdeag.inR (n2:Int) 0 5&&Vbdeag.okKey x3 x4)))=true by rw[show Vbdeag.okC (n0:Int)=true from o0,show Vbdeag.okX (n1:Int)=true from o1,show Vbdeag.inR (n2:Int) 0 5=true from o2,show Vbdeag.okKey x3 x4=true from(by show(A_ Cf x3&&A_ Be x4)=true;rw[o3,o4];rfl)];rfl)];rfl
 rw[e]at k;refine⟨_,U,a,_,_,.int x3,U,U,ha,at_of U rfl,_,U,a,_,_,.int x4,U,U,ha,at_of U rfl,?_⟩;dsimp only[C_];intro kp DG WV WW _;refine⟨kp,DG,x3,x4,U,AD,l4,u4,l3,u3,U,?_⟩;have s2:=Cm (C:=T.B0) (fs:=Du (Vbdeag.keyOf x3 (x4).toNat)) WV WW;have hkp:Dv T (upd (upd (upd H DG (.own kp)) kp (.ins T.B0 DG [])) kp (.ins T.B0 DG (Du (Vbdeag.keyOf x3 (x4).toNat)))) kp (Vbdeag.keyOf x3 (x4).toNat):=⟨DG,AD⟩;have kq:=JG l4 u4 l3 u3;generalize upd (upd (upd H DG (.own kp)) kp (.ins T.B0 DG [])) kp (.ins T.B0 DG (Du (Vbdeag.keyOf x3 (x4).toNat)))=H2 at s2 hkp⊢;have R:=R.same s2;have ha:=s2.seq ha;have k:=k.later s2;exact⟨_,U,_,U,a,_,_,.int n0,U,U,ha,at_of U rfl,_,U,a,_,_,.int n1,U,U,ha,at_of U rfl,_,U,a,_,_,.int n2,U,U,ha,at_of U rfl,_,U,r,kp,n0,n1,n2,_,b,L,U,FQ,by have:(n2:Int)<=5:=u2;omega,hkp,kq,R,S,W.p.lc _ (W.p.cm FQ),W.p.oc _ (W.p.cm FQ),k⟩
theorem dQ(T:All w K mg):Ok P w base T.Dz 5 (EI T [BC,r_flag,JM,Kv,Cf,Be] 4):=by
 refine T.Dz.go U7 λcdv A outer s H vs Q E hr h Cc=>?_;obtain⟨r,a,b,L,N,args,rfl,R,W,ha,ho,k⟩:=h;refine⟨_,(AE (DJ U7 2 (Wx T.Ck (EU T) hr (AB (Ax Aa (pv 1) Ag) (AB (Ax Aa (pv 1) Ag) AF))))
  (AK (Am (Bu (nU T) hr (AB (pv 0) (AB (Ax Aa (pv 1) Ag) (AB (Ax Aa (pv 1) Ag) (AB (Ax Aa (pv 1) Ag) (AB (Ax Aa (pv 1) Ag) (AB (pv 2) AF)))))))))),?_⟩
 obtain⟨x0,t0,rfl,o0,ho⟩:=BP ho;obtain⟨x1,t1,rfl,o1,ho⟩:=BP ho;obtain⟨x2,t2,rfl,o2,ho⟩:=BP ho;obtain⟨x3,t3,rfl,o3,ho⟩:=BP ho;obtain⟨x4,t4,rfl,o4,ho⟩:=BP ho;obtain⟨x5,t5,rfl,o5,ho⟩:=BP ho;cases DH ho;obtain⟨n0,rfl,l0,u0⟩:=Bv o0 (by decide);have l0:_<=(n0:Int):=l0;have u0:(n0:Int)<=_:=u0;obtain⟨n1,rfl,l1,u1⟩:=Bv o1 (by decide);have l1:_<=(n1:Int):=l1;have u1:(n1:Int)<=_:=u1;obtain⟨n2,rfl,l2,u2⟩:=Bv o2 (by decide);have l2:_<=(n2:Int):=l2;have u2:(n2:Int)<=_:=u2;obtain⟨n3,rfl,l3,u3⟩:=Bv o3 (by decide);have l3:_<=(n3:Int):=l3;have u3:(n3:Int)<=_:=u3;obtain⟨l4,u4⟩:=B3.mp o4;obtain⟨l5,u5⟩:=B3.mp o5;have S:=R.Em W.p;have kr:=T.BG;have FQ:n0<64:=by have:(n0:Int)<=63:=u0;omega
 have f1:n1<=1:=by have:(n1:Int)<=1:=u1;omega
 have e:Vbdeag.step b [[4,(n0:Int),(n1:Int),(n2:Int),(n3:Int),x4,x5]]=Vbdeag.answered b (Vbdeag.unlink b n0 (n1==1) n2 n3 (Vbdeag.keyOf x4 x5.toNat)):=by
  show Vbdeag.asked _ b _=_;unfold Vbdeag.asked;rw[AJ (show(Vbdeag.okC (n0:Int)&&(Vbdeag.inR (n1:Int) 0 1&&(Vbdeag.inR (n2:Int) 1 1000&&(Vbdeag.inR (n3:Int) 0 6&&Vbdeag.okKey x4 x5))))=true by rw[show Vbdeag.okC (n0:Int)=true from o0,show Vbdeag.inR (n1:Int) 0 1=true from o1,show Vbdeag.inR (n2:Int) 1 1000=true from o2,show Vbdeag.inR (n3:Int) 0 6=true from o3,show Vbdeag.okKey x4 x5=true from(by show(A_ Cf x4&&A_ Be x5)=true;rw[o4,o5];rfl)];rfl)];rw[Xz];rfl
 rw[e]at k;refine⟨_,U,a,_,_,.int x4,U,U,ha,at_of U rfl,_,U,a,_,_,.int x5,U,U,ha,at_of U rfl,?_⟩;dsimp only[C_];intro kp DG WV WW _;refine⟨kp,DG,x4,x5,U,AD,l5,u5,l4,u4,U,?_⟩;have s2:=Cm (C:=T.B0) (fs:=Du (Vbdeag.keyOf x4 (x5).toNat)) WV WW;have hkp:Dv T (upd (upd (upd H DG (.own kp)) kp (.ins T.B0 DG [])) kp (.ins T.B0 DG (Du (Vbdeag.keyOf x4 (x5).toNat)))) kp (Vbdeag.keyOf x4 (x5).toNat):=⟨DG,AD⟩;have kq:=JG l5 u5 l4 u4;generalize upd (upd (upd H DG (.own kp)) kp (.ins T.B0 DG [])) kp (.ins T.B0 DG (Du (Vbdeag.keyOf x4 (x5).toNat)))=H2 at s2 hkp⊢;have R:=R.same s2;have ha:=s2.seq ha;have k:=k.later s2;exact⟨_,U,_,U,a,_,_,.int n0,U,U,ha,at_of U rfl,_,U,a,_,_,.int n1,U,U,ha,at_of U rfl,_,U,a,_,_,.int n2,U,U,ha,at_of U rfl,_,U,a,_,_,.int n3,U,U,ha,at_of U rfl,_,U,r,kp,n0,n1,n2,n3,_,b,L,U,FQ,f1,by have:(n3:Int)<=6:=u3;omega,hkp,kq,R,S,W.p.lc _ (W.p.cm FQ),W.p.oc _ (W.p.cm FQ),W.cnd FQ,k⟩
theorem dR(T:All w K mg):Ok P w base T.D3 5 (EI T [BC,DK,JM,Cf,Be] 11):=by
 refine T.D3.go U8 λcdv A outer s H vs Q E hr h Cc=>?_;obtain⟨r,a,b,L,N,args,rfl,R,W,ha,ho,k⟩:=h;refine⟨_,(AE (DJ U8 2 (Wx T.Ck (EU T) hr (AB (Ax Aa (pv 1) Ag) (AB (Ax Aa (pv 1) Ag) AF))))
  (AK (Am (Bu (nu T) hr (AB (pv 0) (AB (Ax Aa (pv 1) Ag) (AB (Ax Aa (pv 1) Ag) (AB (Ax Aa (pv 1) Ag) (AB (pv 2) AF))))))))),?_⟩
 obtain⟨x0,t0,rfl,o0,ho⟩:=BP ho;obtain⟨x1,t1,rfl,o1,ho⟩:=BP ho;obtain⟨x2,t2,rfl,o2,ho⟩:=BP ho;obtain⟨x3,t3,rfl,o3,ho⟩:=BP ho;obtain⟨x4,t4,rfl,o4,ho⟩:=BP ho;cases DH ho;obtain⟨n0,rfl,l0,u0⟩:=Bv o0 (by decide);have l0:_<=(n0:Int):=l0;have u0:(n0:Int)<=_:=u0;obtain⟨n1,rfl,l1,u1⟩:=Bv o1 (by decide);have l1:_<=(n1:Int):=l1;have u1:(n1:Int)<=_:=u1;obtain⟨n2,rfl,l2,u2⟩:=Bv o2 (by decide);have l2:_<=(n2:Int):=l2;have u2:(n2:Int)<=_:=u2;obtain⟨l3,u3⟩:=B3.mp o3;obtain⟨l4,u4⟩:=B3.mp o4;have S:=R.Em W.p;have kr:=T.BG;have FQ:n0<64:=by have:(n0:Int)<=63:=u0;omega
 have e:Vbdeag.step b [[11,(n0:Int),(n1:Int),(n2:Int),x3,x4]]=Vbdeag.answered b (Vbdeag.arrive b n0 n1 n2 (Vbdeag.keyOf x3 x4.toNat)):=by
  show Vbdeag.asked _ b _=_;unfold Vbdeag.asked;rw[AJ (show(Vbdeag.okC (n0:Int)&&(Vbdeag.okX (n1:Int)&&(Vbdeag.inR (n2:Int) 1 1000&&Vbdeag.okKey x3 x4)))=true by rw[show Vbdeag.okC (n0:Int)=true from o0,show Vbdeag.okX (n1:Int)=true from o1,show Vbdeag.inR (n2:Int) 1 1000=true from o2,show Vbdeag.okKey x3 x4=true from(by show(A_ Cf x3&&A_ Be x4)=true;rw[o3,o4];rfl)];rfl)];rfl
 rw[e]at k;refine⟨_,U,a,_,_,.int x3,U,U,ha,at_of U rfl,_,U,a,_,_,.int x4,U,U,ha,at_of U rfl,?_⟩;dsimp only[C_];intro kp DG WV WW _;refine⟨kp,DG,x3,x4,U,AD,l4,u4,l3,u3,U,?_⟩;have s2:=Cm (C:=T.B0) (fs:=Du (Vbdeag.keyOf x3 (x4).toNat)) WV WW;have hkp:Dv T (upd (upd (upd H DG (.own kp)) kp (.ins T.B0 DG [])) kp (.ins T.B0 DG (Du (Vbdeag.keyOf x3 (x4).toNat)))) kp (Vbdeag.keyOf x3 (x4).toNat):=⟨DG,AD⟩;have kq:=JG l4 u4 l3 u3;generalize upd (upd (upd H DG (.own kp)) kp (.ins T.B0 DG [])) kp (.ins T.B0 DG (Du (Vbdeag.keyOf x3 (x4).toNat)))=H2 at s2 hkp⊢;have R:=R.same s2;have ha:=s2.seq ha;have k:=k.later s2;exact⟨_,U,_,U,a,_,_,.int n0,U,U,ha,at_of U rfl,_,U,a,_,_,.int n1,U,U,ha,at_of U rfl,_,U,a,_,_,.int n2,U,U,ha,at_of U rfl,_,U,r,kp,n0,n1,n2,N,_,b,L,U,FQ,hkp,kq,R,S,W,k⟩
theorem ZX(T:All w K mg):Ok P w base T.C5 4 (EI T [BC,Cf,Be] 12):=by
 refine T.C5.go ZP λcdv A outer s H vs Q E hr h Cc=>?_;obtain⟨r,a,b,L,N,args,rfl,R,W,ha,ho,k⟩:=h;refine⟨_,(AK (Am (Bu (gT T) hr (AB (pv 0) (AB (Ax Aa (pv 1) Ag) (AB (Wx T.Ck (EU T) hr (AB (Ax Aa (pv 1) Ag) (AB (Ax Aa (pv 1) Ag) AF))) AF)))))),?_⟩;obtain⟨x0,t0,rfl,o0,ho⟩:=BP ho;obtain⟨x1,t1,rfl,o1,ho⟩:=BP ho;obtain⟨x2,t2,rfl,o2,ho⟩:=BP ho;cases DH ho;obtain⟨n0,rfl,l0,u0⟩:=Bv o0 (by decide);have l0:_<=(n0:Int):=l0;have u0:(n0:Int)<=_:=u0;obtain⟨l1,u1⟩:=B3.mp o1;obtain⟨l2,u2⟩:=B3.mp o2;have S:=R.Em W.p;have kr:=T.BG;have FQ:n0<64:=by have:(n0:Int)<=63:=u0;omega
 have e:Vbdeag.step b [[12,(n0:Int),x1,x2]]=Vbdeag.answered b (Vbdeag.dissolve b n0 (Vbdeag.keyOf x1 x2.toNat)):=by
  show Vbdeag.asked _ b _=_;unfold Vbdeag.asked;rw[AJ (show(Vbdeag.okC (n0:Int)&&Vbdeag.okKey x1 x2)=true by rw[show Vbdeag.okC (n0:Int)=true from o0,show Vbdeag.okKey x1 x2=true from(by show(A_ Cf x1&&A_ Be x2)=true;rw[o1,o2];rfl)];rfl)];rfl
 rw[e]at k;refine⟨_,U,_,U,a,_,_,.int n0,U,U,ha,at_of U rfl,_,U,a,_,_,.int x1,U,U,ha,at_of U rfl,_,U,a,_,_,.int x2,U,U,ha,at_of U rfl,?_⟩;dsimp only[C_];intro kp DG WV WW _;refine⟨kp,DG,x1,x2,U,AD,l2,u2,l1,u1,U,?_⟩;have s2:=Cm (C:=T.B0) (fs:=Du (Vbdeag.keyOf x1 (x2).toNat)) WV WW;have hkp:Dv T (upd (upd (upd H DG (.own kp)) kp (.ins T.B0 DG [])) kp (.ins T.B0 DG (Du (Vbdeag.keyOf x1 (x2).toNat)))) kp (Vbdeag.keyOf x1 (x2).toNat):=⟨DG,AD⟩;have kq:=JG l2 u2 l1 u1;generalize upd (upd (upd H DG (.own kp)) kp (.ins T.B0 DG [])) kp (.ins T.B0 DG (Du (Vbdeag.keyOf x1 (x2).toNat)))=H2 at s2 hkp⊢;have R:=R.same s2;have ha:=s2.seq ha;have k:=k.later s2;exact⟨r,kp,n0,N,_,b,L,U,FQ,hkp,kq,R,S,W,k⟩
theorem jh(T:All w K mg):Ok P w base T.Fc 5 (EI T [BC,DK,r_flag,Cf,Be] 13):=by
 refine T.Fc.go Yw λcdv A outer s H vs Q E hr h Cc=>?_;obtain⟨r,a,b,L,N,args,rfl,R,W,ha,ho,k⟩:=h;refine⟨_,(AE (DJ Yw 2 (Wx T.Ck (EU T) hr (AB (Ax Aa (pv 1) Ag) (AB (Ax Aa (pv 1) Ag) AF))))
  (AK (Am (Bu (uI T) hr (AB (pv 0) (AB (Ax Aa (pv 1) Ag) (AB (Ax Aa (pv 1) Ag) (AB (Ax Aa (pv 1) Ag) (AB (pv 2) AF))))))))),?_⟩
 obtain⟨x0,t0,rfl,o0,ho⟩:=BP ho;obtain⟨x1,t1,rfl,o1,ho⟩:=BP ho;obtain⟨x2,t2,rfl,o2,ho⟩:=BP ho;obtain⟨x3,t3,rfl,o3,ho⟩:=BP ho;obtain⟨x4,t4,rfl,o4,ho⟩:=BP ho;cases DH ho;obtain⟨n0,rfl,l0,u0⟩:=Bv o0 (by decide);have l0:_<=(n0:Int):=l0;have u0:(n0:Int)<=_:=u0;obtain⟨n1,rfl,l1,u1⟩:=Bv o1 (by decide);have l1:_<=(n1:Int):=l1;have u1:(n1:Int)<=_:=u1;obtain⟨n2,rfl,l2,u2⟩:=Bv o2 (by decide);have l2:_<=(n2:Int):=l2;have u2:(n2:Int)<=_:=u2;obtain⟨l3,u3⟩:=B3.mp o3;obtain⟨l4,u4⟩:=B3.mp o4;have S:=R.Em W.p;have kr:=T.BG;have FQ:n0<64:=by have:(n0:Int)<=63:=u0;omega
 have f1:n2<=1:=by have:(n2:Int)<=1:=u2;omega
 have es:Px (n2==1)=(n2:Int):=by
  match n2,f1 with
  |0,_=>rfl
  |1,_=>rfl
 have e:Vbdeag.step b [[13,(n0:Int),(n1:Int),(n2:Int),x3,x4]]=Vbdeag.answered b (Vbdeag.pair b n0 n1 (n2==1) (Vbdeag.keyOf x3 x4.toNat)):=by
  show Vbdeag.asked _ b _=_;unfold Vbdeag.asked;rw[AJ (show(Vbdeag.okC (n0:Int)&&(Vbdeag.okX (n1:Int)&&(Vbdeag.inR (n2:Int) 0 1&&Vbdeag.okKey x3 x4)))=true by rw[show Vbdeag.okC (n0:Int)=true from o0,show Vbdeag.okX (n1:Int)=true from o1,show Vbdeag.inR (n2:Int) 0 1=true from o2,show Vbdeag.okKey x3 x4=true from(by show(A_ Cf x3&&A_ Be x4)=true;rw[o3,o4];rfl)];rfl)];rw[Xz];rfl
 rw[e]at k;refine⟨_,U,a,_,_,.int x3,U,U,ha,at_of U rfl,_,U,a,_,_,.int x4,U,U,ha,at_of U rfl,?_⟩;dsimp only[C_];intro kp DG WV WW _;refine⟨kp,DG,x3,x4,U,AD,l4,u4,l3,u3,U,?_⟩;have s2:=Cm (C:=T.B0) (fs:=Du (Vbdeag.keyOf x3 (x4).toNat)) WV WW;have hkp:Dv T (upd (upd (upd H DG (.own kp)) kp (.ins T.B0 DG [])) kp (.ins T.B0 DG (Du (Vbdeag.keyOf x3 (x4).toNat)))) kp (Vbdeag.keyOf x3 (x4).toNat):=⟨DG,AD⟩;have kq:=JG l4 u4 l3 u3;generalize upd (upd (upd H DG (.own kp)) kp (.ins T.B0 DG [])) kp (.ins T.B0 DG (Du (Vbdeag.keyOf x3 (x4).toNat)))=H2 at s2 hkp⊢;have R:=R.same s2;have ha:=s2.seq ha;have k:=k.later s2;exact⟨_,U,_,U,a,_,_,.int n0,U,U,ha,at_of U rfl,_,U,a,_,_,.int n1,U,U,ha,at_of U rfl,_,U,a,_,_,.int n2,U,U,ha,at_of U rfl,_,U,r,kp,n0,n1,N,n2==1,_,b,L,by rw[es];rfl,FQ,hkp,kq,R,S,W,k⟩
end
section
variable{P:Program}{w:World}{K:PySem.W.Frag}{mg:Str->Option Value}{base:Heap}
theorem ZY(T:All w K mg):Ok P w base T.C7 3 (EI T [] 15):=by
 refine T.C7.go ZQ λcdv A outer s H vs Q E hr h Cc=>?_;obtain⟨r,a,b,L,N,args,rfl,R,W,ha,ho,k⟩:=h;refine⟨_,(AK (Am (Bu (Nq T) hr (AB (pv 0) AF)))),?_⟩;cases DH ho;have S:=R.Em W.p;have kr:=T.BG;have e:Vbdeag.step b [[15]]=(b,(b.word:Int)::Vbdeag.listed (Vbdeag.toldWatches b)):=by
  rfl
 rw[e]at k;have k:=Done.tells k R;exact⟨_,U,r,b,L,U,R,W.p.lw,k⟩
theorem gy(T:All w K mg):Ok P w base T.Eg 3 (EI T [BC] 16):=by
 refine T.Eg.go gG λcdv A outer s H vs Q E hr h Cc=>?_;obtain⟨r,a,b,L,N,args,rfl,R,W,ha,ho,k⟩:=h;refine⟨_,(AK (Am (Bu (SD T) hr (AB (Ax Aa (Av (pv 0)) (Ax Aa (pv 1) Ag)) AF)))),?_⟩;obtain⟨x0,t0,rfl,o0,ho⟩:=BP ho;cases DH ho;obtain⟨n0,rfl,l0,u0⟩:=Bv o0 (by decide);have l0:_<=(n0:Int):=l0;have u0:(n0:Int)<=_:=u0;have S:=R.Em W.p;have kr:=T.BG;have FQ:n0<64:=by have:(n0:Int)<=63:=u0;omega
 obtain⟨z,hz1,hz2,E2,EA,hz5⟩:=R.chain (c:=n0) (by rw[S.c];exact FQ);have e:Vbdeag.step b [[16,(n0:Int)]]=(b,((b.chain n0).length:Int)::(b.chain n0).flatMap Vbdeag.shownEntry):=by
  show(b,if(Vbdeag.okC (n0:Int))=true then _ else _)=_;rw[AJ (show(Vbdeag.okC (n0:Int))=true by exact o0)];rfl
 rw[e]at k;have k:=Done.tells k R;have zl:=W.p.lc _ (W.p.cm FQ);rw[EA,AA]at zl;rw[EA]at k;exact⟨_,U,r,_,L.dx,_,V.ref L.ac,U,R.obj,kr.cl,kr.no _ (by simp),U,_,U,a,_,_,.int n0,U,U,ha,at_of U rfl,L.ac,_,_,_,U,U,A1.of R.lc,at_of U (BU hz1),z.1,z.2,U,hz2,Aw zl (by decide),E2,k⟩
theorem gz(T:All w K mg):Ok P w base T.Eh 2 (EI T [BC] 17):=by
 refine T.Eh.go gH λcdv A outer s H vs Q E hr h Cc=>?_;obtain⟨r,a,b,L,N,args,rfl,R,W,ha,ho,k⟩:=h;refine⟨_,(AK (Am (Bu (SE T) hr (AB (Ax Aa (Av (pv 0)) (Ax Aa (pv 1) Ag)) AF)))),?_⟩;obtain⟨x0,t0,rfl,o0,ho⟩:=BP ho;cases DH ho;obtain⟨n0,rfl,l0,u0⟩:=Bv o0 (by decide);have l0:_<=(n0:Int):=l0;have u0:(n0:Int)<=_:=u0;have S:=R.Em W.p;have kr:=T.BG;have FQ:n0<64:=by have:(n0:Int)<=63:=u0;omega
 obtain⟨z,hz1,hz2,E2,EA,hz5⟩:=R.point (c:=n0) (by rw[S.p];exact FQ);have e:Vbdeag.step b [[17,(n0:Int)]]=(b,((b.point n0).length:Int)::(b.point n0).flatMap Vbdeag.shownGuest):=by
  show(b,if(Vbdeag.okC (n0:Int))=true then _ else _)=_;rw[AJ (show(Vbdeag.okC (n0:Int))=true by exact o0)];rfl
 rw[e]at k;have k:=Done.tells k R;have zl:=W.p.lp _ (W.p.pm FQ);rw[EA,AA]at zl;rw[EA]at k;exact⟨_,U,r,_,L.dx,_,V.ref L.ap,U,R.obj,kr.cl,kr.no _ (by simp),U,_,U,a,_,_,.int n0,U,U,ha,at_of U rfl,L.ap,_,_,_,U,U,A1.of R.lp,at_of U (BU hz1),z.1,z.2,U,hz2,Aw zl (by decide),E2,k⟩
theorem ji(T:All w K mg):Ok P w base T.Fd 2 (EI T [BC] 18):=by
 refine T.Fd.go jK λcdv A outer s H vs Q E hr h Cc=>?_;obtain⟨r,a,b,L,N,args,rfl,R,W,ha,ho,k⟩:=h;refine⟨_,(AK (Am (Bu (VE T) hr (AB (Ax Aa (Av (pv 0)) (Ax Aa (pv 1) Ag)) AF)))),?_⟩;obtain⟨x0,t0,rfl,o0,ho⟩:=BP ho;cases DH ho;obtain⟨n0,rfl,l0,u0⟩:=Bv o0 (by decide);have l0:_<=(n0:Int):=l0;have u0:(n0:Int)<=_:=u0;have S:=R.Em W.p;have kr:=T.BG;have FQ:n0<64:=by have:(n0:Int)<=63:=u0;omega
 obtain⟨z,hz1,hz2,E2,EA,hz5⟩:=R.door (c:=n0) (by rw[S.d];exact FQ);have e:Vbdeag.step b [[18,(n0:Int)]]=(b,((b.door n0).length:Int)::(b.door n0).flatMap Vbdeag.shownSide):=by
  show(b,if(Vbdeag.okC (n0:Int))=true then _ else _)=_;rw[AJ (show(Vbdeag.okC (n0:Int))=true by exact o0)];rfl
 rw[e]at k;have k:=Done.tells k R;have zl:=W.p.ld _ (W.p.dm FQ);rw[EA,AA]at zl;rw[EA]at k;exact⟨_,U,r,_,L.dx,_,V.ref L.ad,U,R.obj,kr.cl,kr.no _ (by simp),U,_,U,a,_,_,.int n0,U,U,ha,at_of U rfl,L.ad,_,_,_,U,U,A1.of R.ld,at_of U (BU hz1),z.1,z.2,U,hz2,Aw zl (by decide),E2,k⟩
theorem g6(T:All w K mg):Ok P w base T.Ei 3 (EI T [DK] 19):=by
 refine T.Ei.go gI λcdv A outer s H vs Q E hr h Cc=>?_;obtain⟨r,a,b,L,N,args,rfl,R,W,ha,ho,k⟩:=h;refine⟨_,(AK (Am (Bu (QS T) hr (AB (pv 0) (AB (Ax Aa (pv 1) Ag) AF))))),?_⟩;obtain⟨x0,t0,rfl,o0,ho⟩:=BP ho;cases DH ho;obtain⟨n0,rfl,l0,u0⟩:=Bv o0 (by decide);have l0:_<=(n0:Int):=l0;have u0:(n0:Int)<=_:=u0;have S:=R.Em W.p;have kr:=T.BG;have e:Vbdeag.step b [[19,(n0:Int)]]=(b,Vbdeag.place b n0):=by
  show(b,if(Vbdeag.okX (n0:Int))=true then _ else _)=_;rw[AJ (show(Vbdeag.okX (n0:Int))=true by exact o0)];rfl
 rw[e]at k;have k:=Done.tells k R;exact⟨_,U,_,U,a,_,_,.int n0,U,U,ha,at_of U rfl,r,n0,b,L,U,By _,R,Bj S.c,Bj S.p,Bj S.d,k⟩
theorem g7(T:All w K mg):Ok P w base T.Ej 4 (EI T [BC,Kv,Cf,Be] 20):=by
 refine T.Ej.go gJ λcdv A outer s H vs Q E hr h Cc=>?_;obtain⟨r,a,b,L,N,args,rfl,R,W,ha,ho,k⟩:=h;refine⟨_,(AK (Am (Bu (Z2 T) hr (AB (pv 0) (AB (Ax Aa (pv 1) Ag) (AB (Ax Aa (pv 1) Ag) (AB (Wx T.Ck (EU T) hr (AB (Ax Aa (pv 1) Ag) (AB (Ax Aa (pv 1) Ag) AF))) AF))))))),?_⟩;obtain⟨x0,t0,rfl,o0,ho⟩:=BP ho;obtain⟨x1,t1,rfl,o1,ho⟩:=BP ho;obtain⟨x2,t2,rfl,o2,ho⟩:=BP ho;obtain⟨x3,t3,rfl,o3,ho⟩:=BP ho;cases DH ho;obtain⟨n0,rfl,l0,u0⟩:=Bv o0 (by decide);have l0:_<=(n0:Int):=l0;have u0:(n0:Int)<=_:=u0;obtain⟨n1,rfl,l1,u1⟩:=Bv o1 (by decide);have l1:_<=(n1:Int):=l1;have u1:(n1:Int)<=_:=u1;obtain⟨l2,u2⟩:=B3.mp o2;obtain⟨l3,u3⟩:=B3.mp o3;have S:=R.Em W.p;have kr:=T.BG;have FQ:n0<64:=by have:(n0:Int)<=63:=u0;omega
 have e:Vbdeag.step b [[20,(n0:Int),(n1:Int),x2,x3]]=(b,[(((b.chain n0).filter (Vbdeag.asks n1 (Vbdeag.keyOf x2 x3.toNat))).length:Int)]):=by
  show(b,if(Vbdeag.okC (n0:Int)&&(Vbdeag.inR (n1:Int) 0 6&&Vbdeag.okKey x2 x3))=true then _ else _)=_;rw[AJ (show(Vbdeag.okC (n0:Int)&&(Vbdeag.inR (n1:Int) 0 6&&Vbdeag.okKey x2 x3))=true by rw[show Vbdeag.okC (n0:Int)=true from o0,show Vbdeag.inR (n1:Int) 0 6=true from o1,show Vbdeag.okKey x2 x3=true from(by show(A_ Cf x2&&A_ Be x3)=true;rw[o2,o3];rfl)];rfl)];rfl
 rw[e]at k;have k:=Done.tells k R;refine⟨_,U,_,U,a,_,_,.int n0,U,U,ha,at_of U rfl,_,U,a,_,_,.int n1,U,U,ha,at_of U rfl,_,U,a,_,_,.int x2,U,U,ha,at_of U rfl,_,U,a,_,_,.int x3,U,U,ha,at_of U rfl,?_⟩;dsimp only[C_];intro kp DG WV WW _;refine⟨kp,DG,x2,x3,U,AD,l3,u3,l2,u2,U,?_⟩;have s2:=Cm (C:=T.B0) (fs:=Du (Vbdeag.keyOf x2 (x3).toNat)) WV WW;have hkp:Dv T (upd (upd (upd H DG (.own kp)) kp (.ins T.B0 DG [])) kp (.ins T.B0 DG (Du (Vbdeag.keyOf x2 (x3).toNat)))) kp (Vbdeag.keyOf x2 (x3).toNat):=⟨DG,AD⟩;have kq:=JG l3 u3 l2 u2;generalize upd (upd (upd H DG (.own kp)) kp (.ins T.B0 DG [])) kp (.ins T.B0 DG (Du (Vbdeag.keyOf x2 (x3).toNat)))=H2 at s2 hkp⊢;have R:=R.same s2;have ha:=s2.seq ha;have k:=k.later s2;exact⟨r,kp,n0,n1,_,b,L,U,FQ,by have:(n1:Int)<=6:=u1;omega,R,S,W.p.lc _ (W.p.cm FQ),W.p.oc _ (W.p.cm FQ),hkp,kq,k⟩
theorem jj(T:All w K mg):Ok P w base T.Fe 4 (EI T [] 21):=by
 refine T.Fe.go jL λcdv A outer s H vs Q E hr h Cc=>?_;obtain⟨r,a,b,L,N,args,rfl,R,W,ha,ho,k⟩:=h;refine⟨_,(AK (Am (Bu (gf T) hr (AB (pv 0) AF)))),?_⟩;cases DH ho;have S:=R.Em W.p;have kr:=T.BG;have e:Vbdeag.step b [[21]]=(b,Vbdeag.told b):=by
  rfl
 rw[e]at k;have k:=Done.tells k R;exact⟨_,U,r,b,L,U,R,S,W.p.lows,k⟩
theorem g8(T:All w K mg):Ok P w base T.Ek 4 (EI T [] 23):=by
 refine T.Ek.go gK λcdv A outer s H vs Q E hr h Cc=>?_;obtain⟨r,a,b,L,N,args,rfl,R,W,ha,ho,k⟩:=h;refine⟨_,(AK (Am (Bu (Q9 T) hr (AB (pv 0) AF)))),?_⟩;cases DH ho;have S:=R.Em W.p;have kr:=T.BG;exact⟨_,U,r,b,L,U,R,λH' L' p _ R' m e np nf=>k H' L' p R' m e np nf⟩
theorem g9(T:All w K mg):Ok P w base T.El 3 (EI T [Fg] 24):=by
 refine T.El.go gM λcdv A outer s H vs Q E hr h Cc=>?_;obtain⟨r,a,b,L,N,args,rfl,R,W,ha,ho,k⟩:=h;refine⟨_,(AK (Am (Bu (fJ T) hr (AB (pv 0) (AB (Ax Aa (pv 1) Ag) AF))))),?_⟩;obtain⟨x0,t0,rfl,o0,ho⟩:=BP ho;cases DH ho;obtain⟨n0,rfl,l0,u0⟩:=Bv o0 (by decide);have l0:_<=(n0:Int):=l0;have u0:(n0:Int)<=_:=u0;have S:=R.Em W.p;have kr:=T.BG;have e:Vbdeag.step b [[24,(n0:Int)]]=(b,Vbdeag.ids ((b.watches.filter (Vbdeag.fits n0)).map λw=>w.id)):=by
  show(if Vbdeag.okW (n0:Int)=false then _ else _)=_;rw[show Vbdeag.okW (n0:Int)=true from o0];rfl
 rw[e]at k;have k:=Done.tells k R;exact⟨_,U,_,U,a,_,_,.int n0,U,U,ha,at_of U rfl,r,n0,b,L,U,R,W.p.lw,λx hx=>(W.p.ow x hx).s,k⟩
theorem ZZ(T:All w K mg):Ok P w base T.C9 3 (EI T [BC] 25):=by
 refine T.C9.go ZR λcdv A outer s H vs Q E hr h Cc=>?_;obtain⟨r,a,b,L,N,args,rfl,R,W,ha,ho,k⟩:=h;refine⟨_,(AK (Am (Bu (gh T) hr (AB (pv 0) (AB (Ax Aa (pv 1) Ag) AF))))),?_⟩;obtain⟨x0,t0,rfl,o0,ho⟩:=BP ho;cases DH ho;obtain⟨n0,rfl,l0,u0⟩:=Bv o0 (by decide);have l0:_<=(n0:Int):=l0;have u0:(n0:Int)<=_:=u0;have S:=R.Em W.p;have kr:=T.BG;have FQ:n0<64:=by have:(n0:Int)<=63:=u0;omega
 have e:Vbdeag.step b [[25,(n0:Int)]]=(b,[(Vbdeag.disorder (b.chain n0):Int)]):=by
  show(b,if(Vbdeag.okC (n0:Int))=true then _ else _)=_;rw[AJ (show(Vbdeag.okC (n0:Int))=true by exact o0)];rfl
 rw[e]at k;have k:=Done.tells k R;exact⟨_,U,_,U,a,_,_,.int n0,U,U,ha,at_of U rfl,r,n0,b,L,U,FQ,R,S,W.p.lc _ (W.p.cm FQ),W.p.oc _ (W.p.cm FQ),k⟩
theorem dS(T:All w K mg):Ok P w base T.D5 3 (EI T [] 26):=by
 refine T.D5.go dB λcdv A outer s H vs Q E hr h Cc=>?_;obtain⟨r,a,b,L,N,args,rfl,R,W,ha,ho,k⟩:=h;refine⟨_,(AK (Am (Bu (ZT T) hr (AB (pv 0) AF)))),?_⟩;cases DH ho;have S:=R.Em W.p;have kr:=T.BG;have e:Vbdeag.step b [[26]]=(b,Vbdeag.counts b):=by
  rfl
 rw[e]at k;have k:=Done.tells k R;exact⟨_,U,r,b,L,U,R,S,k⟩
theorem oK(T:All w K mg):Ok P w base T.Gf 6 (EI T [BC,Uy] 27):=by
 refine T.Gf.go nH λcdv A outer s H vs Q E hr h Cc=>?_;obtain⟨r,a,b,L,N,args,rfl,R,W,ha,ho,k⟩:=h;refine⟨_,(AK (Am (Bu (xS T) hr (AB (pv 0) (AB (Ax Aa (pv 1) Ag) (AB (Ax Aa (pv 1) Ag) AF)))))),?_⟩;obtain⟨x0,t0,rfl,o0,ho⟩:=BP ho;obtain⟨x1,t1,rfl,o1,ho⟩:=BP ho;cases DH ho;obtain⟨n0,rfl,l0,u0⟩:=Bv o0 (by decide);have l0:_<=(n0:Int):=l0;have u0:(n0:Int)<=_:=u0;obtain⟨n1,rfl,l1,u1⟩:=Bv o1 (by decide);have l1:_<=(n1:Int):=l1;have u1:(n1:Int)<=_:=u1;have S:=R.Em W.p;have kr:=T.BG;have FQ:n0<64:=by have:(n0:Int)<=63:=u0;omega
 have e:Vbdeag.step b [[27,(n0:Int),(n1:Int)]]=(b,match (Vbdeag.sorted false (b.chain n0))[n1]? with|some e=>Vbdeag.shownEntry e|none=>[-6]):=by
  show(if(Vbdeag.okC (n0:Int)&&Vbdeag.inR (n1:Int) 0 999)=false then _ else _)=_;rw[show Vbdeag.okC (n0:Int)=true from o0,show Vbdeag.inR (n1:Int) 0 999=true from o1];rfl
 rw[e]at k;have k:=Done.tells k R;exact⟨_,U,_,U,a,_,_,.int n0,U,U,ha,at_of U rfl,_,U,a,_,_,.int n1,U,U,ha,at_of U rfl,r,n0,n1,b,L,U,FQ,R,S,W.p.lc _ (W.p.cm FQ),W.p.oc _ (W.p.cm FQ),k⟩
theorem jk(T:All w K mg):Ok P w base T.Ff 6 (EI T [DK] 28):=by
 refine T.Ff.go jM λcdv A outer s H vs Q E hr h Cc=>?_;obtain⟨r,a,b,L,N,args,rfl,R,W,ha,ho,k⟩:=h;refine⟨_,(AK (Am (Bu (uL T) hr (AB (pv 0) (AB (Ax Aa (pv 1) Ag) AF))))),?_⟩;obtain⟨x0,t0,rfl,o0,ho⟩:=BP ho;cases DH ho;obtain⟨n0,rfl,l0,u0⟩:=Bv o0 (by decide);have l0:_<=(n0:Int):=l0;have u0:(n0:Int)<=_:=u0;have S:=R.Em W.p;have kr:=T.BG;have e:Vbdeag.step b [[28,(n0:Int)]]=(b,match b.chains.findSome? (Vbdeag.rankOf n0)with|some n=>[(n:Int)]|none=>[-10]):=by
  show(if Vbdeag.okX (n0:Int)=false then _ else _)=_;rw[show Vbdeag.okX (n0:Int)=true from o0];rfl
 rw[e]at k;have k:=Done.tells k R;exact⟨_,U,_,U,a,_,_,.int n0,U,U,ha,at_of U rfl,r,n0,b,L,U,R,S,W.p.lows,W.i.one,W.p.oc,k⟩
theorem jl(T:All w K mg):Ok P w base T.FY 7 (EI T [BC,BC,r_flag,JM,Kv,Cf,Be,MG] 5):=by
 refine T.FY.go Tq λcdv A outer s H vs Q E hr h Cc=>?_;obtain⟨r,a,b,L,N,args,rfl,R,W,ha,ho,k⟩:=h;refine⟨_,(AE (DJ Tq 2 (Wx T.Ck (EU T) hr (AB (Ax Aa (pv 1) Ag) (AB (Ax Aa (pv 1) Ag) AF))))
  (AE (DJ Tq 3 (Bu (Qw T) hr (AB (Ax Aa (Av (pv 0)) (Ax Aa (pv 1) Ag)) (AB (Ax Aa (pv 1) Ag) (AB (Ax Aa (pv 1) Ag) (AB (Ax Aa (pv 1) Ag) (AB (pv 2) AF)))))))
  (AK (Am (Bu (uG T) hr (AB (pv 0) (AB (Ax Aa (pv 1) Ag) (AB (Ax Aa (pv 1) Ag) (AB (pv 3) (AB (Ax Aa (pv 1) Ag) AF)))))))))),?_⟩
 obtain⟨x0,t0,rfl,o0,ho⟩:=BP ho;obtain⟨x1,t1,rfl,o1,ho⟩:=BP ho;obtain⟨x2,t2,rfl,o2,ho⟩:=BP ho;obtain⟨x3,t3,rfl,o3,ho⟩:=BP ho;obtain⟨x4,t4,rfl,o4,ho⟩:=BP ho;obtain⟨x5,t5,rfl,o5,ho⟩:=BP ho;obtain⟨x6,t6,rfl,o6,ho⟩:=BP ho;obtain⟨x7,t7,rfl,o7,ho⟩:=BP ho;cases DH ho;obtain⟨n0,rfl,l0,u0⟩:=Bv o0 (by decide);have l0:_<=(n0:Int):=l0;have u0:(n0:Int)<=_:=u0;obtain⟨n1,rfl,l1,u1⟩:=Bv o1 (by decide);have l1:_<=(n1:Int):=l1;have u1:(n1:Int)<=_:=u1;obtain⟨n2,rfl,l2,u2⟩:=Bv o2 (by decide);have l2:_<=(n2:Int):=l2;have u2:(n2:Int)<=_:=u2;obtain⟨n3,rfl,l3,u3⟩:=Bv o3 (by decide);have l3:_<=(n3:Int):=l3;have u3:(n3:Int)<=_:=u3;obtain⟨n4,rfl,l4,u4⟩:=Bv o4 (by decide);have l4:_<=(n4:Int):=l4;have u4:(n4:Int)<=_:=u4;obtain⟨l5,u5⟩:=B3.mp o5;obtain⟨l6,u6⟩:=B3.mp o6;obtain⟨n7,rfl,l7,u7⟩:=Bv o7 (by decide);have l7:_<=(n7:Int):=l7;have u7:(n7:Int)<=_:=u7;have S:=R.Em W.p;have kr:=T.BG;have FQ:n0<64:=by have:(n0:Int)<=63:=u0;omega
 have xo:n1<64:=by have:(n1:Int)<=63:=u1;omega
 have f2:n2<=1:=by have:(n2:Int)<=1:=u2;omega
 have e:Vbdeag.step b [[5,(n0:Int),(n1:Int),(n2:Int),(n3:Int),(n4:Int),x5,x6,(n7:Int)]]=Vbdeag.answered b (Vbdeag.move b n0 n1 (n2==1) n3 n4 (Vbdeag.keyOf x5 x6.toNat) n7):=by
  show Vbdeag.asked _ b _=_;unfold Vbdeag.asked;rw[AJ (show(Vbdeag.okC (n0:Int)&&(Vbdeag.okC (n1:Int)&&(Vbdeag.inR (n2:Int) 0 1&&(Vbdeag.inR (n3:Int) 1 1000&&(Vbdeag.inR (n4:Int) 0 6&&(Vbdeag.okKey x5 x6&&Vbdeag.inR (n7:Int) 0 5))))))=true by rw[show Vbdeag.okC (n0:Int)=true from o0,show Vbdeag.okC (n1:Int)=true from o1,show Vbdeag.inR (n2:Int) 0 1=true from o2,show Vbdeag.inR (n3:Int) 1 1000=true from o3,show Vbdeag.inR (n4:Int) 0 6=true from o4,show Vbdeag.okKey x5 x6=true from(by show(A_ Cf x5&&A_ Be x6)=true;rw[o5,o6];rfl),show Vbdeag.inR (n7:Int) 0 5=true from o7];rfl)];rw[Xz];rfl
 rw[e]at k;refine⟨_,U,a,_,_,.int x5,U,U,ha,at_of U rfl,_,U,a,_,_,.int x6,U,U,ha,at_of U rfl,?_⟩;dsimp only[C_];intro kp DG WV WW _;refine⟨kp,DG,x5,x6,U,AD,l6,u6,l5,u5,U,?_⟩;have s2:=Cm (C:=T.B0) (fs:=Du (Vbdeag.keyOf x5 (x6).toNat)) WV WW;have hkp:Dv T (upd (upd (upd H DG (.own kp)) kp (.ins T.B0 DG [])) kp (.ins T.B0 DG (Du (Vbdeag.keyOf x5 (x6).toNat)))) kp (Vbdeag.keyOf x5 (x6).toNat):=⟨DG,AD⟩;have kq:=JG l6 u6 l5 u5;generalize upd (upd (upd H DG (.own kp)) kp (.ins T.B0 DG [])) kp (.ins T.B0 DG (Du (Vbdeag.keyOf x5 (x6).toNat)))=H2 at s2 hkp⊢;have R:=R.same s2;have ha:=s2.seq ha;have k:=k.later s2;obtain⟨z,hz1,hz2,E2,EA,hz5⟩:=R.chain (c:=n0) (by rw[S.c];exact FQ);have zl:=W.p.lc _ (W.p.cm FQ);have zk:=W.p.oc _ (W.p.cm FQ);rw[EA]at zl zk;rw[AA]at zl;refine⟨_,U,r,_,L.dx,_,V.ref L.ac,U,R.obj,kr.cl,kr.no _ (by simp),U,_,U,a,_,_,.int n0,U,U,ha,at_of U rfl,L.ac,_,_,_,U,U,A1.of R.lc,at_of U (BU hz1),_,U,a,_,_,.int n2,U,U,ha,at_of U rfl,_,U,a,_,_,.int n3,U,U,ha,at_of U rfl,_,U,a,_,_,.int n4,U,U,ha,at_of U rfl,_,U,z.1,kp,n2,n3,n4,_,z.2,U,A1.of hz2,Aw zl (by decide),E2,hkp,λH3 m s3 nm em=>?_⟩;have R3:=R.same s3;refine⟨_,U,_,U,a,_,_,.int n0,U,U,(s3.seq ha),at_of U rfl,_,U,a,_,_,.int n1,U,U,(s3.seq ha),at_of U rfl,_,U,_,U,a,_,_,.int n7,U,U,(s3.seq ha),at_of U rfl,r,m,n0,n1,n2,n3,n4,n7,N,Vbdeag.keyOf x5 x6.toNat,b,L,_,U,FQ,xo,by have:(n7:Int)<=5:=u7;omega,R3,S,W,em,R.Cv nm,λy hy=>(E2 y (fM hy)).same s3,?_,k.later s3⟩;rw[fL n2 f2,EA];have ea:∀e∈z.2.map (·.2),MP (n4:Int) (worth e.key) (worth (Vbdeag.keyOf x5 x6.toNat))=Vbdeag.asks n4 (Vbdeag.keyOf x5 x6.toNat) e:=λe he=>Tu (by have:(n4:Int)<=6:=u4;omega) kq (zk e he);unfold WH;rw[CJ ea]
end
section
variable{P:Program}{w:World}{K:PySem.W.Frag}{mg:Str->Option Value}{base:Heap}
theorem uU(T:All w K mg){p:Nat}{rs:List Rg}(h:KW[p]?=some rs)(h22:p≠22):∃(kvs:List (Key×V))(f:Addr)(fd:FuncData),II w K T.JC kvs/\Es kvs (.inl (p:Int))=some (.ref f)/\HU P w K mg base T5 7 f fd ["rooms","numbers"] (EI T rs p)/\PySem.W.keepIn K (.ref f)=true/\Binds K fd ["rooms","numbers"] []:=by
 match p,h,h22 with
 |0,h,_=>cases h;exact⟨_,T.Gb.f,T.Gb.fd,T.CY,U,(oG T).mono (by decide),T.Gb.fn.kp,T.Gb.bi⟩
 |1,h,_=>cases h;exact⟨_,T.Gd.f,T.Gd.fd,T.CY,U,(oH T).mono (by decide),T.Gd.fn.kp,T.Gd.bi⟩
 |2,h,_=>cases h;exact⟨_,T.Ec.f,T.Ec.fd,T.CY,U,(gu T).mono (by decide),T.Ec.fn.kp,T.Ec.bi⟩
 |3,h,_=>cases h;exact⟨_,T.FW.f,T.FW.fd,T.CY,U,(jg T).mono (by decide),T.FW.fn.kp,T.FW.bi⟩
 |4,h,_=>cases h;exact⟨_,T.Dz.f,T.Dz.fd,T.CY,U,(dQ T).mono (by decide),T.Dz.fn.kp,T.Dz.bi⟩
 |5,h,_=>cases h;exact⟨_,T.FY.f,T.FY.fd,T.CY,U,(jl T).mono (by decide),T.FY.fn.kp,T.FY.bi⟩
 |6,h,_=>cases h;exact⟨_,T.FZ.f,T.FZ.fd,T.CY,U,(jf T).mono (by decide),T.FZ.fn.kp,T.FZ.bi⟩
 |7,h,_=>cases h;exact⟨_,T.D0.f,T.D0.fd,T.CY,U,(dP T).mono (by decide),T.D0.fn.kp,T.D0.bi⟩
 |8,h,_=>cases h;exact⟨_,T.DY.f,T.DY.fd,T.CY,U,(Z4 T).mono (by decide),T.DY.fn.kp,T.DY.bi⟩
 |9,h,_=>cases h;exact⟨_,T.Ed.f,T.Ed.fd,T.CY,U,(gv T).mono (by decide),T.Ed.fn.kp,T.Ed.bi⟩
 |10,h,_=>cases h;exact⟨_,T.Ge.f,T.Ge.fd,T.CY,U,(oJ T).mono (by decide),T.Ge.fn.kp,T.Ge.bi⟩
 |11,h,_=>cases h;exact⟨_,T.D3.f,T.D3.fd,T.CY,U,(dR T).mono (by decide),T.D3.fn.kp,T.D3.bi⟩
 |12,h,_=>cases h;exact⟨_,T.C5.f,T.C5.fd,T.CY,U,(ZX T).mono (by decide),T.C5.fn.kp,T.C5.bi⟩
 |13,h,_=>cases h;exact⟨_,T.Fc.f,T.Fc.fd,T.CY,U,(jh T).mono (by decide),T.Fc.fn.kp,T.Fc.bi⟩
 |14,h,_=>cases h;exact⟨_,T.Ef.f,T.Ef.fd,T.CY,U,(gw T).mono (by decide),T.Ef.fn.kp,T.Ef.bi⟩
 |15,h,_=>cases h;exact⟨_,T.C7.f,T.C7.fd,T.CY,U,(ZY T).mono (by decide),T.C7.fn.kp,T.C7.bi⟩
 |16,h,_=>cases h;exact⟨_,T.Eg.f,T.Eg.fd,T.CY,U,(gy T).mono (by decide),T.Eg.fn.kp,T.Eg.bi⟩
 |17,h,_=>cases h;exact⟨_,T.Eh.f,T.Eh.fd,T.CY,U,(gz T).mono (by decide),T.Eh.fn.kp,T.Eh.bi⟩
 |18,h,_=>cases h;exact⟨_,T.Fd.f,T.Fd.fd,T.CY,U,(ji T).mono (by decide),T.Fd.fn.kp,T.Fd.bi⟩
 |19,h,_=>cases h;exact⟨_,T.Ei.f,T.Ei.fd,T.CY,U,(g6 T).mono (by decide),T.Ei.fn.kp,T.Ei.bi⟩
 |20,h,_=>cases h;exact⟨_,T.Ej.f,T.Ej.fd,T.CY,U,(g7 T).mono (by decide),T.Ej.fn.kp,T.Ej.bi⟩
 |21,h,_=>cases h;exact⟨_,T.Fe.f,T.Fe.fd,T.CY,U,(jj T).mono (by decide),T.Fe.fn.kp,T.Fe.bi⟩
 |22,h,h22=>exact absurd rfl h22
 |23,h,_=>cases h;exact⟨_,T.Ek.f,T.Ek.fd,T.CY,U,(g8 T).mono (by decide),T.Ek.fn.kp,T.Ek.bi⟩
 |24,h,_=>cases h;exact⟨_,T.El.f,T.El.fd,T.CY,U,(g9 T).mono (by decide),T.El.fn.kp,T.El.bi⟩
 |25,h,_=>cases h;exact⟨_,T.C9.f,T.C9.fd,T.CY,U,(ZZ T).mono (by decide),T.C9.fn.kp,T.C9.bi⟩
 |26,h,_=>cases h;exact⟨_,T.D5.f,T.D5.fd,T.CY,U,(dS T).mono (by decide),T.D5.fn.kp,T.D5.bi⟩
 |27,h,_=>cases h;exact⟨_,T.Gf.f,T.Gf.fd,T.CY,U,(oK T).mono (by decide),T.Gf.fn.kp,T.Gf.bi⟩
 |28,h,_=>cases h;exact⟨_,T.Ff.f,T.Ff.fd,T.CY,U,(jk T).mono (by decide),T.Ff.fn.kp,T.Ff.bi⟩
 |p+29,h,_=>exact absurd h (by unfold KW;simp)
theorem AW{α:Type}{l:List α}{n:Nat}(h:l.length=n+1):∃x t,l=x::t/\t.length=n:=by
 cases l with
 |nil=>cases h
 |cons x t=>exact⟨x,t,U,VN h⟩
theorem rS{p:Nat}{rs:List Rg}{args:List Int}{ls:List (List Int)}(b:Vbdeag.Bank)(h:KW[p]?=some rs)(hl:args.length=rs.length)(hs:ls.length=Kw p)(ho:Ce rs args=false):Vbdeag.step b (((p:Int)::args)::ls)=(b,[-1]):=by
 match p,h with
 |0,h=>
  cases h;obtain⟨x0,t0,rfl,h0⟩:=AW (n:=0) hl;cases Z h0;cases Z hs;have g:(Vbdeag.okW x0)=false:=by
   rw[<-ho];show _=(A_ Fg x0&&true);rw[BI];rfl
  show Vbdeag.answered b (if(Vbdeag.okW x0)=true then _ else _)=_;rw[g];rfl
 |1,h=>
  cases h;obtain⟨x0,t0,rfl,h0⟩:=AW (n:=1) hl;obtain⟨x1,t1,rfl,h1⟩:=AW (n:=0) h0;cases Z h1;cases Z hs;have g:(Vbdeag.inR x0 0 58&&Vbdeag.inR x1 0 2)=false:=by
   rw[<-ho];show _=(A_ Ux x0&&(A_ iy x1&&true));rw[BI];rfl
  show Vbdeag.answered b (if(Vbdeag.inR x0 0 58&&Vbdeag.inR x1 0 2)=true then _ else _)=_;rw[g];rfl
 |2,h=>
  cases h;obtain⟨x0,t0,rfl,h0⟩:=AW (n:=2) hl;obtain⟨x1,t1,rfl,h1⟩:=AW (n:=1) h0;obtain⟨x2,t2,rfl,h2⟩:=AW (n:=0) h1;cases Z h2;cases Z hs;have g:(Vbdeag.okX x0&&(Vbdeag.okW x1&&Vbdeag.okW x2))=false:=by
   rw[<-ho];show _=(A_ DK x0&&(A_ Fg x1&&(A_ Fg x2&&true)));rw[BI];rfl
  show Vbdeag.answered b (if(Vbdeag.okX x0&&(Vbdeag.okW x1&&Vbdeag.okW x2))=true then _ else _)=_;rw[g];rfl
 |3,h=>
  cases h;obtain⟨x0,t0,rfl,h0⟩:=AW (n:=4) hl;obtain⟨x1,t1,rfl,h1⟩:=AW (n:=3) h0;obtain⟨x2,t2,rfl,h2⟩:=AW (n:=2) h1;obtain⟨x3,t3,rfl,h3⟩:=AW (n:=1) h2;obtain⟨x4,t4,rfl,h4⟩:=AW (n:=0) h3;cases Z h4;cases Z hs;have g:(Vbdeag.okC x0&&(Vbdeag.okX x1&&(Vbdeag.inR x2 0 5&&Vbdeag.okKey x3 x4)))=false:=by
   rw[<-ho];show _=(A_ BC x0&&(A_ DK x1&&(A_ MG x2&&(A_ Cf x3&&(A_ Be x4&&true)))));rw[BI];rfl
  show Vbdeag.answered b (if(Vbdeag.okC x0&&(Vbdeag.okX x1&&(Vbdeag.inR x2 0 5&&Vbdeag.okKey x3 x4)))=true then _ else _)=_;rw[g];rfl
 |4,h=>
  cases h;obtain⟨x0,t0,rfl,h0⟩:=AW (n:=5) hl;obtain⟨x1,t1,rfl,h1⟩:=AW (n:=4) h0;obtain⟨x2,t2,rfl,h2⟩:=AW (n:=3) h1;obtain⟨x3,t3,rfl,h3⟩:=AW (n:=2) h2;obtain⟨x4,t4,rfl,h4⟩:=AW (n:=1) h3;obtain⟨x5,t5,rfl,h5⟩:=AW (n:=0) h4;cases Z h5;cases Z hs;have g:(Vbdeag.okC x0&&(Vbdeag.inR x1 0 1&&(Vbdeag.inR x2 1 1000&&(Vbdeag.inR x3 0 6&&Vbdeag.okKey x4 x5))))=false:=by
   rw[<-ho];show _=(A_ BC x0&&(A_ r_flag x1&&(A_ JM x2&&(A_ Kv x3&&(A_ Cf x4&&(A_ Be x5&&true))))));rw[BI];rfl
  show Vbdeag.answered b (if(Vbdeag.okC x0&&(Vbdeag.inR x1 0 1&&(Vbdeag.inR x2 1 1000&&(Vbdeag.inR x3 0 6&&Vbdeag.okKey x4 x5))))=true then _ else _)=_;rw[g];rfl
 |5,h=>
  cases h;obtain⟨x0,t0,rfl,h0⟩:=AW (n:=7) hl;obtain⟨x1,t1,rfl,h1⟩:=AW (n:=6) h0;obtain⟨x2,t2,rfl,h2⟩:=AW (n:=5) h1;obtain⟨x3,t3,rfl,h3⟩:=AW (n:=4) h2;obtain⟨x4,t4,rfl,h4⟩:=AW (n:=3) h3;obtain⟨x5,t5,rfl,h5⟩:=AW (n:=2) h4;obtain⟨x6,t6,rfl,h6⟩:=AW (n:=1) h5;obtain⟨x7,t7,rfl,h7⟩:=AW (n:=0) h6;cases Z h7;cases Z hs;have g:(Vbdeag.okC x0&&(Vbdeag.okC x1&&(Vbdeag.inR x2 0 1&&(Vbdeag.inR x3 1 1000&&(Vbdeag.inR x4 0 6&&(Vbdeag.okKey x5 x6&&Vbdeag.inR x7 0 5))))))=false:=by
   rw[<-ho];show _=(A_ BC x0&&(A_ BC x1&&(A_ r_flag x2&&(A_ JM x3&&(A_ Kv x4&&(A_ Cf x5&&(A_ Be x6&&(A_ MG x7&&true))))))));rw[BI];show(A_ BC x0&&(A_ BC x1&&(A_ r_flag x2&&(A_ JM x3&&(A_ Kv x4&&((A_ Cf x5&&A_ Be x6)&&A_ MG x7))))))=_;rw[Eu (A_ Cf x5)]
  show Vbdeag.answered b (if(Vbdeag.okC x0&&(Vbdeag.okC x1&&(Vbdeag.inR x2 0 1&&(Vbdeag.inR x3 1 1000&&(Vbdeag.inR x4 0 6&&(Vbdeag.okKey x5 x6&&Vbdeag.inR x7 0 5))))))=true then _ else _)=_;rw[g];rfl
 |6,h=>
  cases h;obtain⟨x0,t0,rfl,h0⟩:=AW (n:=1) hl;obtain⟨x1,t1,rfl,h1⟩:=AW (n:=0) h0;cases Z h1;cases Z hs;have g:(Vbdeag.okC x0&&Vbdeag.inR x1 0 1)=false:=by
   rw[<-ho];show _=(A_ BC x0&&(A_ r_flag x1&&true));rw[BI];rfl
  show Vbdeag.answered b (if(Vbdeag.okC x0&&Vbdeag.inR x1 0 1)=true then _ else _)=_;rw[g];rfl
 |7,h=>
  cases h;obtain⟨x0,t0,rfl,h0⟩:=AW (n:=1) hl;obtain⟨x1,t1,rfl,h1⟩:=AW (n:=0) h0;cases Z h1;cases Z hs;have g:(Vbdeag.okC x0&&Vbdeag.inR x1 0 1000000000)=false:=by
   rw[<-ho];show _=(A_ BC x0&&(A_ Xu x1&&true));rw[BI];rfl
  show Vbdeag.answered b (if(Vbdeag.okC x0&&Vbdeag.inR x1 0 1000000000)=true then _ else _)=_;rw[g];rfl
 |8,h=>
  cases h;obtain⟨x0,t0,rfl,h0⟩:=AW (n:=0) hl;cases Z h0;cases Z hs;have g:(Vbdeag.okC x0)=false:=by
   rw[<-ho];show _=(A_ BC x0&&true);rw[BI];rfl
  show Vbdeag.answered b (if(Vbdeag.okC x0)=true then _ else _)=_;rw[g];rfl
 |9,h=>
  cases h;obtain⟨x0,t0,rfl,h0⟩:=AW (n:=1) hl;obtain⟨x1,t1,rfl,h1⟩:=AW (n:=0) h0;cases Z h1;cases Z hs;have g:(Vbdeag.okC x0&&Vbdeag.okC x1)=false:=by
   rw[<-ho];show _=(A_ BC x0&&(A_ BC x1&&true));rw[BI];rfl
  show Vbdeag.answered b (if(Vbdeag.okC x0&&Vbdeag.okC x1)=true then _ else _)=_;rw[g];rfl
 |10,h=>
  cases h;obtain⟨x0,t0,rfl,h0⟩:=AW (n:=2) hl;obtain⟨x1,t1,rfl,h1⟩:=AW (n:=1) h0;obtain⟨x2,t2,rfl,h2⟩:=AW (n:=0) h1;cases Z h2;cases Z hs;have g:(Vbdeag.okC x0&&(Vbdeag.okC x1&&Vbdeag.inR x2 0 1000))=false:=by
   rw[<-ho];show _=(A_ BC x0&&(A_ BC x1&&(A_ bQ x2&&true)));rw[BI];rfl
  show Vbdeag.answered b (if(Vbdeag.okC x0&&(Vbdeag.okC x1&&Vbdeag.inR x2 0 1000))=true then _ else _)=_;rw[g];rfl
 |11,h=>
  cases h;obtain⟨x0,t0,rfl,h0⟩:=AW (n:=4) hl;obtain⟨x1,t1,rfl,h1⟩:=AW (n:=3) h0;obtain⟨x2,t2,rfl,h2⟩:=AW (n:=2) h1;obtain⟨x3,t3,rfl,h3⟩:=AW (n:=1) h2;obtain⟨x4,t4,rfl,h4⟩:=AW (n:=0) h3;cases Z h4;cases Z hs;have g:(Vbdeag.okC x0&&(Vbdeag.okX x1&&(Vbdeag.inR x2 1 1000&&Vbdeag.okKey x3 x4)))=false:=by
   rw[<-ho];show _=(A_ BC x0&&(A_ DK x1&&(A_ JM x2&&(A_ Cf x3&&(A_ Be x4&&true)))));rw[BI];rfl
  show Vbdeag.answered b (if(Vbdeag.okC x0&&(Vbdeag.okX x1&&(Vbdeag.inR x2 1 1000&&Vbdeag.okKey x3 x4)))=true then _ else _)=_;rw[g];rfl
 |12,h=>
  cases h;obtain⟨x0,t0,rfl,h0⟩:=AW (n:=2) hl;obtain⟨x1,t1,rfl,h1⟩:=AW (n:=1) h0;obtain⟨x2,t2,rfl,h2⟩:=AW (n:=0) h1;cases Z h2;cases Z hs;have g:(Vbdeag.okC x0&&Vbdeag.okKey x1 x2)=false:=by
   rw[<-ho];show _=(A_ BC x0&&(A_ Cf x1&&(A_ Be x2&&true)));rw[BI];rfl
  show Vbdeag.answered b (if(Vbdeag.okC x0&&Vbdeag.okKey x1 x2)=true then _ else _)=_;rw[g];rfl
 |13,h=>
  cases h;obtain⟨x0,t0,rfl,h0⟩:=AW (n:=4) hl;obtain⟨x1,t1,rfl,h1⟩:=AW (n:=3) h0;obtain⟨x2,t2,rfl,h2⟩:=AW (n:=2) h1;obtain⟨x3,t3,rfl,h3⟩:=AW (n:=1) h2;obtain⟨x4,t4,rfl,h4⟩:=AW (n:=0) h3;cases Z h4;cases Z hs;have g:(Vbdeag.okC x0&&(Vbdeag.okX x1&&(Vbdeag.inR x2 0 1&&Vbdeag.okKey x3 x4)))=false:=by
   rw[<-ho];show _=(A_ BC x0&&(A_ DK x1&&(A_ r_flag x2&&(A_ Cf x3&&(A_ Be x4&&true)))));rw[BI];rfl
  show Vbdeag.answered b (if(Vbdeag.okC x0&&(Vbdeag.okX x1&&(Vbdeag.inR x2 0 1&&Vbdeag.okKey x3 x4)))=true then _ else _)=_;rw[g];rfl
 |14,h=>
  cases h;obtain⟨x0,t0,rfl,h0⟩:=AW (n:=0) hl;cases Z h0;cases Z hs;have g:(Vbdeag.okX x0)=false:=by
   rw[<-ho];show _=(A_ DK x0&&true);rw[BI];rfl
  show Vbdeag.answered b (if(Vbdeag.okX x0)=true then _ else _)=_;rw[g];rfl
 |15,h=>
  cases h;cases Z hl;cases ho
 |16,h=>
  cases h;obtain⟨x0,t0,rfl,h0⟩:=AW (n:=0) hl;cases Z h0;cases Z hs;have g:(Vbdeag.okC x0)=false:=by
   rw[<-ho];show _=(A_ BC x0&&true);rw[BI];rfl
  show(b,if(Vbdeag.okC x0)=true then _ else _)=_;rw[g];rfl
 |17,h=>
  cases h;obtain⟨x0,t0,rfl,h0⟩:=AW (n:=0) hl;cases Z h0;cases Z hs;have g:(Vbdeag.okC x0)=false:=by
   rw[<-ho];show _=(A_ BC x0&&true);rw[BI];rfl
  show(b,if(Vbdeag.okC x0)=true then _ else _)=_;rw[g];rfl
 |18,h=>
  cases h;obtain⟨x0,t0,rfl,h0⟩:=AW (n:=0) hl;cases Z h0;cases Z hs;have g:(Vbdeag.okC x0)=false:=by
   rw[<-ho];show _=(A_ BC x0&&true);rw[BI];rfl
  show(b,if(Vbdeag.okC x0)=true then _ else _)=_;rw[g];rfl
 |19,h=>
  cases h;obtain⟨x0,t0,rfl,h0⟩:=AW (n:=0) hl;cases Z h0;cases Z hs;have g:(Vbdeag.okX x0)=false:=by
   rw[<-ho];show _=(A_ DK x0&&true);rw[BI];rfl
  show(b,if(Vbdeag.okX x0)=true then _ else _)=_;rw[g];rfl
 |20,h=>
  cases h;obtain⟨x0,t0,rfl,h0⟩:=AW (n:=3) hl;obtain⟨x1,t1,rfl,h1⟩:=AW (n:=2) h0;obtain⟨x2,t2,rfl,h2⟩:=AW (n:=1) h1;obtain⟨x3,t3,rfl,h3⟩:=AW (n:=0) h2;cases Z h3;cases Z hs;have g:(Vbdeag.okC x0&&(Vbdeag.inR x1 0 6&&Vbdeag.okKey x2 x3))=false:=by
   rw[<-ho];show _=(A_ BC x0&&(A_ Kv x1&&(A_ Cf x2&&(A_ Be x3&&true))));rw[BI];rfl
  show(b,if(Vbdeag.okC x0&&(Vbdeag.inR x1 0 6&&Vbdeag.okKey x2 x3))=true then _ else _)=_;rw[g];rfl
 |21,h=>
  cases h;cases Z hl;cases ho
 |22,h=>
  cases h;obtain⟨x0,t0,rfl,h0⟩:=AW (n:=0) hl;cases Z h0;obtain⟨l0,u0,rfl,g0⟩:=AW (n:=3) hs;obtain⟨l1,u1,rfl,g1⟩:=AW (n:=2) g0;obtain⟨l2,u2,rfl,g2⟩:=AW (n:=1) g1;obtain⟨l3,u3,rfl,g3⟩:=AW (n:=0) g2;cases Z g3;have g:(Vbdeag.okW x0)=false:=by
   rw[<-ho];show _=(A_ Fg x0&&true);rw[BI];rfl
  show(if(Vbdeag.okW x0)=false then _ else _)=_;rw[g];rfl
 |23,h=>
  cases h;cases Z hl;cases ho
 |24,h=>
  cases h;obtain⟨x0,t0,rfl,h0⟩:=AW (n:=0) hl;cases Z h0;cases Z hs;have g:(Vbdeag.okW x0)=false:=by
   rw[<-ho];show _=(A_ Fg x0&&true);rw[BI];rfl
  show(if(Vbdeag.okW x0)=false then _ else _)=_;rw[g];rfl
 |25,h=>
  cases h;obtain⟨x0,t0,rfl,h0⟩:=AW (n:=0) hl;cases Z h0;cases Z hs;have g:(Vbdeag.okC x0)=false:=by
   rw[<-ho];show _=(A_ BC x0&&true);rw[BI];rfl
  show(b,if(Vbdeag.okC x0)=true then _ else _)=_;rw[g];rfl
 |26,h=>
  cases h;cases Z hl;cases ho
 |27,h=>
  cases h;obtain⟨x0,t0,rfl,h0⟩:=AW (n:=1) hl;obtain⟨x1,t1,rfl,h1⟩:=AW (n:=0) h0;cases Z h1;cases Z hs;have g:(Vbdeag.okC x0&&Vbdeag.inR x1 0 999)=false:=by
   rw[<-ho];show _=(A_ BC x0&&(A_ Uy x1&&true));rw[BI];rfl
  show(if(Vbdeag.okC x0&&Vbdeag.inR x1 0 999)=false then _ else _)=_;rw[g];rfl
 |28,h=>
  cases h;obtain⟨x0,t0,rfl,h0⟩:=AW (n:=0) hl;cases Z h0;cases Z hs;have g:(Vbdeag.okX x0)=false:=by
   rw[<-ho];show _=(A_ DK x0&&true);rw[BI];rfl
  show(if(Vbdeag.okX x0)=false then _ else _)=_;rw[g];rfl
 |p+29,h=>exact absurd h (by unfold KW;simp)
inductive bT(T:All w K mg)(vs:List V)(H:Hp)(Q:VK)(E:XK):Prop
 |mk(r a la:Addr)(p:Nat)(b:Vbdeag.Bank)(L:Lo)(N:Nat)(rs:List Rg)(args:List Int)(ls:List (Addr×List Int)):vs=[.ref r,.int p,.ref a,.ref la]->Ah T H r b L->Wf b N->KW[p]?=some rs->args.length=rs.length->ls.length=Kw p->A1 K H a (args.map V.int)->H la=some (.lst (refs ls))->(∀l∈ls,H l.1=some (.lst (l.2.map V.int)))->((ls.map (·.2)).map List.length).sum<=4100->Done T H r L (Vbdeag.step b (((p:Int)::args)::ls.map (·.2))).1 (Vbdeag.step b (((p:Int)::args)::ls.map (·.2))).2 Q->bT T vs H Q E
theorem oM(T:All w K mg):Ok P w base T.Uj 8 (bT T):=by
 refine T.Uj.go nJ λcdv A outer s H vs Q E hr h Cc=>?_;obtain⟨r,a,la,p,b,L,N,rs,args,ls,rfl,R,W,hf,hl,hs,ha,hla,hls,h4,k⟩:=h;refine⟨_,(AE (B_ (Hz (D_ (Bu (Wd T) hr (AB (pv 1) (AB (pv 2) AF))))) (AK (Am (BS (AB (Lg T.Lq) AF)))) Bc)
  (AE (B_ (BX K_ (JI T.Cd (pv 3)) Ag) (AK (Am (Bu (uT T) hr (AB (pv 0) (AB (Ax Aa (pv 2) Ag) (AB (pv 3) AF)))))) Bc)
  (AK (Am (qW (Nk (KZ (v:=.ref _) U T.b_ U) (pv 1) (λ_ _=>rfl)) (AB (pv 0) (AB (pv 2) AF))))))),?_⟩
 refine⟨_,U,_,U,p,a,rs,args,U,hf,ha,λH1 s1=>⟨_,U,?_⟩⟩;have R1:=R.same s1;have k1:=k.later s1;cases ho:Ce rs args with
 |false=>
  rw[rS b hf hl (by rw[AA];exact hs) ho]at k1;exact F7 ⟨by show 1<=sizeLine;decide,k1.one R1 (BE.same (A7.refl H1))⟩
 |true=>
  refine GZ ⟨_,U,la,_,U,.inl (A1.of (s1 _ _ hla)),_,_,U,U,_,U,?_⟩;rw[Al];by_cases h22:p=22
  ·subst h22;have hs:ls.length=4:=hs;obtain⟨l0,u0,rfl,g0⟩:=AW (n:=3) hs;obtain⟨l1,u1,rfl,g1⟩:=AW (n:=2) g0;obtain⟨l2,u2,rfl,g2⟩:=AW (n:=1) g1;obtain⟨l3,u3,rfl,g3⟩:=AW (n:=0) g2;cases Z g3;cases hf;obtain⟨x0,t0,rfl,o0,ho⟩:=BP ho;cases DH ho;obtain⟨v,rfl,_,_⟩:=Bv o0 (by decide);rw[AM (by show(0:Int)<4;decide)];have e:Vbdeag.step b [[22,(v:Int)],l0.2,l1.2,l2.2,l3.2]=((Ho v l0.2 l1.2 l2.2 l3.2).getD b,match Ho v l0.2 l1.2 l2.2 l3.2 with|some _=>Vbdeag.ids []|none=>[-2]):=by
    show(if Vbdeag.okW (v:Int)=false then _ else match Vbdeag.load (v:Int) l0.2 l1.2 l2.2 l3.2 with|some c=>(c,Vbdeag.ids [])|none=>(b,[-2]))=_
    rw[show Vbdeag.okW (v:Int)=true from o0,uS,Bg,AI (by decide)];cases Ho v l0.2 l1.2 l2.2 l3.2<;>rfl
   change Done T H1 r L (Vbdeag.step b [[22,(v:Int)],l0.2,l1.2,l2.2,l3.2]).1 (Vbdeag.step b [[22,(v:Int)],l0.2,l1.2,l2.2,l3.2]).2 Q at k1;rw[e]at k1;have g:∀l∈[l0,l1,l2,l3],H1 l.1=some (.lst (l.2.map V.int)):=λl hl=>s1 _ _ (hls l hl);refine F7 ⟨_,U,_,U,a,_,_,.int v,U,U,s1.seq ha,at_of U rfl,_,U,r,la,l0.1,l1.1,l2.1,l3.1,v,b,L,l0.2,l1.2,l2.2,l3.2,U,R1,A1.of (s1 _ _ hla),g l0 (by simp),g l1 (by simp),g l2 (by simp),g l3 (by simp),?_,k1⟩;have:l0.2.length+(l1.2.length+(l2.2.length+(l3.2.length+0)))<=4100:=h4;omega
  ·(have hs:ls.length=0:=by rw[hs];unfold Kw;rw[AI (by omega)]);cases Z hs;rw[BJ (by show¬(0:Int)<0;decide)];obtain⟨kvs,f,fd,D,hv,F,hk,hb⟩:=uU (P:=P) (base:=base) T hf h22;exact GZ ⟨_,U,T.JC,kvs,.inl (p:Int),.ref f,U,D,U,hv,f,fd,_,_,7,U,F,hr.mono (by decide),hk,hb,_,U,_,U,r,a,b,L,N,args,U,R1,W,s1.seq ha,ho,k1⟩
end
section
variable{P:Program}{w:World}{K:PySem.W.Frag}{mg:Str->Option Value}{base:Heap}
inductive SK(T:All w K mg)(vs:List V)(H:Hp)(Q:VK)(E:XK):Prop
 |mk(a:Addr)(n:Nat)(ns t:List Int)(xs:List (List Int)):vs=[.ref a,.int n,.int xs.length]->A1 K H a (ns.map V.int)->ns.drop n=PyFlat.putRows xs++t->xs.length<=4->(∀(H':Hp)(d:Addr)(ls:List (Addr×List Int)),A7 H H'->H d=none->H' d=some (.lst (refs ls))->ls.map (·.2)=xs->(∀l∈ls,H' l.1=some (.lst (l.2.map V.int))/\H l.1=none)->Q (.ref d) H')->SK T vs H Q E
theorem Z5(T:All w K mg):Ok P w base T.LM 1 (SK T):=by
 refine T.LM.go GV λcdv A outer s H vs Q E hr h Cc=>?_;obtain⟨a,n0,ns,t,xs,rfl,ha,hn,hx,k⟩:=h;refine⟨_,(AE (DJ GV 3 (BS AF))
  (AE (DJ GV 4 (pv 1))
  (AE (EK BK U (Na U T.MA (AB (pv 2) AF)) (BW (i:=5) GV.nd U (Or.inl U))
    (AE (DJ GV 6 (CA EY (CA EY (pv 4) Ag) (Ax Aa (pv 0) (pv 4))))
    (AE (C0 (GU PySem.F.plainAttrs_list PySem.F.slot_list_append PySem.F.type_list_append GA (pv 3) (AB (FU Gs (pv 0) (ER (CA EY (pv 4) Ag)) (ER (pv 6))) AF)))
    (AK (DJ GV 4 (pv 6))))))
  (AK (Am (pv 3)))))),?_⟩
 refine⟨by show 0<=sizeLine;decide,λd nd=>⟨_,U,_,U,_,U,by omega,by omega,?_⟩⟩;refine Z_ (n:=(xs.length:Int).toNat) (λi σ H'=>A7 H H'/\∃(n:Nat)(u v:Option V)(ls:List (Addr×List Int)),σ=[some (.ref a),some (.int n0),some (.int xs.length),some (.ref d),some (.int n),u,v]/\H' d=some (.lst (refs ls))/\ls.map (·.2)=xs.take i/\ns.drop n=PyFlat.putRows (xs.drop i)++t/\∀l∈ls,H' l.1=some (.lst (l.2.map V.int))/\l.1≠d/\H l.1=none)
  ⟨AO nd,n0,none,none,[],U,AD,U,hn,λl hl=>absurd hl Aq⟩ ?_ ?_
 ·rintro i σ H' hi ⟨e,n,u,v,ls,rfl,hd,em,hn,hl⟩;rw[Bg]at hi;obtain⟨x,yz⟩:∃x,xs[i]?=some x:=⟨_,Ak hi⟩;have ed:xs.drop i=x::xs.drop (i+1):=by
   obtain⟨h1,h2⟩:=AZ.mp yz;rw[Mg h1,h2]
  rw[ed]at hn;have hn:ns.drop n=(x.length:Int)::(x++(PyFlat.putRows (xs.drop (i+1))++t)):=hn.trans (Bm (PyFlat.putRow x) _ _);have h1:ns.drop (n+1)=x++(PyFlat.putRows (xs.drop (i+1))++t):=by rw[<-DC,hn];rfl
  have g0:(ns.map V.int)[n]?=some (.int (x.length:Int)):=by rw[Ai,<-K9,hn];rfl
  have lsl:ls.length<=4:=by
   have:=B5 List.length em;rw[AA,Bb]at this;omega
  refine⟨_,U,_,_,U,U,_,U,_,U,a,_,n,_,U,U,e.seq ha,at_of U g0,_,_,U,U,?_⟩;refine⟨_,U,.inl ⟨U,_,A1.of hd⟩,_,U,_,U,_,_,U,U,(n:Int)+1,U,_,U,(n:Int)+1+(x.length:Int),U,a,_,U,e.seq ha,λp np=>?_⟩;rw[show PN (ns.map V.int) (some ((n:Int)+1)) (some ((n:Int)+1+(x.length:Int)))=((ns.drop (n+1)).take x.length).map V.int from UC ns (i:=n+1) (k:=x.length),h1,PyFlat.take_len];have npd:p≠d:=(BY hd np).symm;refine⟨d,refs ls,_,U,U,AO np _ _ hd,by rw[Al];show _<sizeLine;have:=D7;omega,?_⟩;refine⟨_,U,A7.own (e.trans (AO np)) nd,n+1+x.length,_,_,ls++[(p,x)],U,by rw[AD,Dr];rfl,by rw[As,em,take_snoc yz];rfl,?_,λl hl'=>?_⟩
  ·rw[<-DC,h1,PJ]
  ·rcases AQ.mp hl' with hr|hr
   ·obtain⟨u1,u2,u3⟩:=hl l hr;exact⟨by rw[Aj u2];exact AO np _ _ u1,u2,u3⟩
   ·rw[Af.mp hr];exact⟨by rw[Aj npd];exact AD,npd,e.free np⟩
 ·rintro σ H' ⟨e,n,u,v,ls,rfl,hd,em,hn,hl⟩;rw[Bg,BR]at em;exact⟨_,U,k H' d ls e nd hd em λl h=>⟨(hl l h).1,(hl l h).2.2⟩⟩
end
theorem jm{p:Int}{n k:Nat}(h:PyVbdeag.shape p=some (n,k)):∃(q:Nat)(rs:List Rg),p=q/\KW[q]?=some rs/\rs.length=n/\Kw q=k:=by
 unfold PyVbdeag.shape at h;by_cases e:p=0
 ·subst e;rw[AJ U]at h;cases h;exact⟨0,_,U,U,U,U⟩
 rw[AI e]at h;clear e;by_cases e:p=1
 ·subst e;rw[AJ U]at h;cases h;exact⟨1,_,U,U,U,U⟩
 rw[AI e]at h;clear e;by_cases e:p=2
 ·subst e;rw[AJ U]at h;cases h;exact⟨2,_,U,U,U,U⟩
 rw[AI e]at h;clear e;by_cases e:p=3
 ·subst e;rw[AJ U]at h;cases h;exact⟨3,_,U,U,U,U⟩
 rw[AI e]at h;clear e;by_cases e:p=4
 ·subst e;rw[AJ U]at h;cases h;exact⟨4,_,U,U,U,U⟩
 rw[AI e]at h;clear e;by_cases e:p=5
 ·subst e;rw[AJ U]at h;cases h;exact⟨5,_,U,U,U,U⟩
 rw[AI e]at h;clear e;by_cases e:p=6
 ·subst e;rw[AJ U]at h;cases h;exact⟨6,_,U,U,U,U⟩
 rw[AI e]at h;clear e;by_cases e:p=7
 ·subst e;rw[AJ U]at h;cases h;exact⟨7,_,U,U,U,U⟩
 rw[AI e]at h;clear e;by_cases e:p=8
 ·subst e;rw[AJ U]at h;cases h;exact⟨8,_,U,U,U,U⟩
 rw[AI e]at h;clear e;by_cases e:p=9
 ·subst e;rw[AJ U]at h;cases h;exact⟨9,_,U,U,U,U⟩
 rw[AI e]at h;clear e;by_cases e:p=10
 ·subst e;rw[AJ U]at h;cases h;exact⟨10,_,U,U,U,U⟩
 rw[AI e]at h;clear e;by_cases e:p=11
 ·subst e;rw[AJ U]at h;cases h;exact⟨11,_,U,U,U,U⟩
 rw[AI e]at h;clear e;by_cases e:p=12
 ·subst e;rw[AJ U]at h;cases h;exact⟨12,_,U,U,U,U⟩
 rw[AI e]at h;clear e;by_cases e:p=13
 ·subst e;rw[AJ U]at h;cases h;exact⟨13,_,U,U,U,U⟩
 rw[AI e]at h;clear e;by_cases e:p=14
 ·subst e;rw[AJ U]at h;cases h;exact⟨14,_,U,U,U,U⟩
 rw[AI e]at h;clear e;by_cases e:p=15
 ·subst e;rw[AJ U]at h;cases h;exact⟨15,_,U,U,U,U⟩
 rw[AI e]at h;clear e;by_cases e:p=16
 ·subst e;rw[AJ U]at h;cases h;exact⟨16,_,U,U,U,U⟩
 rw[AI e]at h;clear e;by_cases e:p=17
 ·subst e;rw[AJ U]at h;cases h;exact⟨17,_,U,U,U,U⟩
 rw[AI e]at h;clear e;by_cases e:p=18
 ·subst e;rw[AJ U]at h;cases h;exact⟨18,_,U,U,U,U⟩
 rw[AI e]at h;clear e;by_cases e:p=19
 ·subst e;rw[AJ U]at h;cases h;exact⟨19,_,U,U,U,U⟩
 rw[AI e]at h;clear e;by_cases e:p=20
 ·subst e;rw[AJ U]at h;cases h;exact⟨20,_,U,U,U,U⟩
 rw[AI e]at h;clear e;by_cases e:p=21
 ·subst e;rw[AJ U]at h;cases h;exact⟨21,_,U,U,U,U⟩
 rw[AI e]at h;clear e;by_cases e:p=22
 ·subst e;rw[AJ U]at h;cases h;exact⟨22,_,U,U,U,U⟩
 rw[AI e]at h;clear e;by_cases e:p=23
 ·subst e;rw[AJ U]at h;cases h;exact⟨23,_,U,U,U,U⟩
 rw[AI e]at h;clear e;by_cases e:p=24
 ·subst e;rw[AJ U]at h;cases h;exact⟨24,_,U,U,U,U⟩
 rw[AI e]at h;clear e;by_cases e:p=25
 ·subst e;rw[AJ U]at h;cases h;exact⟨25,_,U,U,U,U⟩
 rw[AI e]at h;clear e;by_cases e:p=26
 ·subst e;rw[AJ U]at h;cases h;exact⟨26,_,U,U,U,U⟩
 rw[AI e]at h;clear e;by_cases e:p=27
 ·subst e;rw[AJ U]at h;cases h;exact⟨27,_,U,U,U,U⟩
 rw[AI e]at h;clear e;by_cases e:p=28
 ·subst e;rw[AJ U]at h;cases h;exact⟨28,_,U,U,U,U⟩
 rw[AI e]at h;clear e;cases h
def lR(c:List (List Int)):Nat:=((c.drop 1).map List.length).sum
def iT(cs:List (List (List Int))):Nat:=(cs.map lR).sum
theorem cM{c:List (List Int)}(h:PyFlat.okCall PyVbdeag.shape c):∃(q:Nat)(rs:List Rg)(a:List Int)(xs:List (List Int)),c=((q:Int)::a)::xs/\KW[q]?=some rs/\a.length=rs.length/\xs.length=Kw q:=by
 obtain⟨p,a,xs,rfl,hs⟩:=h;obtain⟨q,rs,rfl,h1,h2,h3⟩:=jm hs;exact⟨q,rs,a,xs,U,h1,h2.symm,h3.symm⟩
theorem jn{q:Nat}{rs:List Rg}{a:List Int}{xs:List (List Int)}(h:KW[q]?=some rs)(hl:a.length=rs.length)(hs:xs.length=Kw q):PyVbdeag.whole (((q:Int)::a)::xs)=((q:Int)::a)::xs/\∀d,Vbdeag.callOf (((q:Int)::a)::xs)=some d->more d<=lR (((q:Int)::a)::xs):=by
 match q,h with
 |0,h=>
  cases h;obtain⟨x0,t0,rfl,h0⟩:=AW (n:=0) hl;cases Z h0;cases Z hs;exact⟨U,λd hd=>by cases hd;exact AY _⟩
 |1,h=>
  cases h;obtain⟨x0,t0,rfl,h0⟩:=AW (n:=1) hl;obtain⟨x1,t1,rfl,h1⟩:=AW (n:=0) h0;cases Z h1;cases Z hs;exact⟨U,λd hd=>by cases hd;exact AY _⟩
 |2,h=>
  cases h;obtain⟨x0,t0,rfl,h0⟩:=AW (n:=2) hl;obtain⟨x1,t1,rfl,h1⟩:=AW (n:=1) h0;obtain⟨x2,t2,rfl,h2⟩:=AW (n:=0) h1;cases Z h2;cases Z hs;exact⟨U,λd hd=>by cases hd;exact AY _⟩
 |3,h=>
  cases h;obtain⟨x0,t0,rfl,h0⟩:=AW (n:=4) hl;obtain⟨x1,t1,rfl,h1⟩:=AW (n:=3) h0;obtain⟨x2,t2,rfl,h2⟩:=AW (n:=2) h1;obtain⟨x3,t3,rfl,h3⟩:=AW (n:=1) h2;obtain⟨x4,t4,rfl,h4⟩:=AW (n:=0) h3;cases Z h4;cases Z hs;exact⟨U,λd hd=>by cases hd;exact AY _⟩
 |4,h=>
  cases h;obtain⟨x0,t0,rfl,h0⟩:=AW (n:=5) hl;obtain⟨x1,t1,rfl,h1⟩:=AW (n:=4) h0;obtain⟨x2,t2,rfl,h2⟩:=AW (n:=3) h1;obtain⟨x3,t3,rfl,h3⟩:=AW (n:=2) h2;obtain⟨x4,t4,rfl,h4⟩:=AW (n:=1) h3;obtain⟨x5,t5,rfl,h5⟩:=AW (n:=0) h4;cases Z h5;cases Z hs;exact⟨U,λd hd=>by cases hd;exact AY _⟩
 |5,h=>
  cases h;obtain⟨x0,t0,rfl,h0⟩:=AW (n:=7) hl;obtain⟨x1,t1,rfl,h1⟩:=AW (n:=6) h0;obtain⟨x2,t2,rfl,h2⟩:=AW (n:=5) h1;obtain⟨x3,t3,rfl,h3⟩:=AW (n:=4) h2;obtain⟨x4,t4,rfl,h4⟩:=AW (n:=3) h3;obtain⟨x5,t5,rfl,h5⟩:=AW (n:=2) h4;obtain⟨x6,t6,rfl,h6⟩:=AW (n:=1) h5;obtain⟨x7,t7,rfl,h7⟩:=AW (n:=0) h6;cases Z h7;cases Z hs;exact⟨U,λd hd=>by cases hd;exact AY _⟩
 |6,h=>
  cases h;obtain⟨x0,t0,rfl,h0⟩:=AW (n:=1) hl;obtain⟨x1,t1,rfl,h1⟩:=AW (n:=0) h0;cases Z h1;cases Z hs;exact⟨U,λd hd=>by cases hd;exact AY _⟩
 |7,h=>
  cases h;obtain⟨x0,t0,rfl,h0⟩:=AW (n:=1) hl;obtain⟨x1,t1,rfl,h1⟩:=AW (n:=0) h0;cases Z h1;cases Z hs;exact⟨U,λd hd=>by cases hd;exact AY _⟩
 |8,h=>
  cases h;obtain⟨x0,t0,rfl,h0⟩:=AW (n:=0) hl;cases Z h0;cases Z hs;exact⟨U,λd hd=>by cases hd;exact AY _⟩
 |9,h=>
  cases h;obtain⟨x0,t0,rfl,h0⟩:=AW (n:=1) hl;obtain⟨x1,t1,rfl,h1⟩:=AW (n:=0) h0;cases Z h1;cases Z hs;exact⟨U,λd hd=>by cases hd;exact AY _⟩
 |10,h=>
  cases h;obtain⟨x0,t0,rfl,h0⟩:=AW (n:=2) hl;obtain⟨x1,t1,rfl,h1⟩:=AW (n:=1) h0;obtain⟨x2,t2,rfl,h2⟩:=AW (n:=0) h1;cases Z h2;cases Z hs;exact⟨U,λd hd=>by cases hd;exact AY _⟩
 |11,h=>
  cases h;obtain⟨x0,t0,rfl,h0⟩:=AW (n:=4) hl;obtain⟨x1,t1,rfl,h1⟩:=AW (n:=3) h0;obtain⟨x2,t2,rfl,h2⟩:=AW (n:=2) h1;obtain⟨x3,t3,rfl,h3⟩:=AW (n:=1) h2;obtain⟨x4,t4,rfl,h4⟩:=AW (n:=0) h3;cases Z h4;cases Z hs;exact⟨U,λd hd=>by cases hd;exact AY _⟩
 |12,h=>
  cases h;obtain⟨x0,t0,rfl,h0⟩:=AW (n:=2) hl;obtain⟨x1,t1,rfl,h1⟩:=AW (n:=1) h0;obtain⟨x2,t2,rfl,h2⟩:=AW (n:=0) h1;cases Z h2;cases Z hs;exact⟨U,λd hd=>by cases hd;exact AY _⟩
 |13,h=>
  cases h;obtain⟨x0,t0,rfl,h0⟩:=AW (n:=4) hl;obtain⟨x1,t1,rfl,h1⟩:=AW (n:=3) h0;obtain⟨x2,t2,rfl,h2⟩:=AW (n:=2) h1;obtain⟨x3,t3,rfl,h3⟩:=AW (n:=1) h2;obtain⟨x4,t4,rfl,h4⟩:=AW (n:=0) h3;cases Z h4;cases Z hs;exact⟨U,λd hd=>by cases hd;exact AY _⟩
 |14,h=>
  cases h;obtain⟨x0,t0,rfl,h0⟩:=AW (n:=0) hl;cases Z h0;cases Z hs;exact⟨U,λd hd=>by cases hd;exact AY _⟩
 |15,h=>
  cases h;cases Z hl;cases Z hs;exact⟨U,λd hd=>by cases hd;exact AY _⟩
 |16,h=>
  cases h;obtain⟨x0,t0,rfl,h0⟩:=AW (n:=0) hl;cases Z h0;cases Z hs;exact⟨U,λd hd=>by cases hd;exact AY _⟩
 |17,h=>
  cases h;obtain⟨x0,t0,rfl,h0⟩:=AW (n:=0) hl;cases Z h0;cases Z hs;exact⟨U,λd hd=>by cases hd;exact AY _⟩
 |18,h=>
  cases h;obtain⟨x0,t0,rfl,h0⟩:=AW (n:=0) hl;cases Z h0;cases Z hs;exact⟨U,λd hd=>by cases hd;exact AY _⟩
 |19,h=>
  cases h;obtain⟨x0,t0,rfl,h0⟩:=AW (n:=0) hl;cases Z h0;cases Z hs;exact⟨U,λd hd=>by cases hd;exact AY _⟩
 |20,h=>
  cases h;obtain⟨x0,t0,rfl,h0⟩:=AW (n:=3) hl;obtain⟨x1,t1,rfl,h1⟩:=AW (n:=2) h0;obtain⟨x2,t2,rfl,h2⟩:=AW (n:=1) h1;obtain⟨x3,t3,rfl,h3⟩:=AW (n:=0) h2;cases Z h3;cases Z hs;exact⟨U,λd hd=>by cases hd;exact AY _⟩
 |21,h=>
  cases h;cases Z hl;cases Z hs;exact⟨U,λd hd=>by cases hd;exact AY _⟩
 |22,h=>
  cases h;obtain⟨x0,t0,rfl,h0⟩:=AW (n:=0) hl;cases Z h0;obtain⟨l0,u0,rfl,g0⟩:=AW (n:=3) hs;obtain⟨l1,u1,rfl,g1⟩:=AW (n:=2) g0;obtain⟨l2,u2,rfl,g2⟩:=AW (n:=1) g1;obtain⟨l3,u3,rfl,g3⟩:=AW (n:=0) g2;cases Z g3;exact⟨U,λd hd=>by cases hd;exact AU _⟩
 |23,h=>
  cases h;cases Z hl;cases Z hs;exact⟨U,λd hd=>by cases hd;exact AY _⟩
 |24,h=>
  cases h;obtain⟨x0,t0,rfl,h0⟩:=AW (n:=0) hl;cases Z h0;cases Z hs;exact⟨U,λd hd=>by cases hd;exact AY _⟩
 |25,h=>
  cases h;obtain⟨x0,t0,rfl,h0⟩:=AW (n:=0) hl;cases Z h0;cases Z hs;exact⟨U,λd hd=>by cases hd;exact AY _⟩
 |26,h=>
  cases h;cases Z hl;cases Z hs;exact⟨U,λd hd=>by cases hd;exact AY _⟩
 |27,h=>
  cases h;obtain⟨x0,t0,rfl,h0⟩:=AW (n:=1) hl;obtain⟨x1,t1,rfl,h1⟩:=AW (n:=0) h0;cases Z h1;cases Z hs;exact⟨U,λd hd=>by cases hd;exact AY _⟩
 |28,h=>
  cases h;obtain⟨x0,t0,rfl,h0⟩:=AW (n:=0) hl;cases Z h0;cases Z hs;exact⟨U,λd hd=>by cases hd;exact AY _⟩
 |p+29,h=>exact absurd h (by unfold KW;simp)
theorem fY{c:List (List Int)}(h:PyFlat.okCall PyVbdeag.shape c):PyVbdeag.whole c=c/\∀d,Vbdeag.callOf c=some d->more d<=lR c:=by
 obtain⟨q,rs,a,xs,rfl,h1,h2,h3⟩:=cM h;exact jn h1 h2 h3
theorem WX{α:Type}(f:α->Nat):∀(l:List α)(a:Nat),l.foldl (λn x=>n+f x) a=a+(l.map f).sum
 | [],a=>rfl
 |x::l,a=>by rw[EL,WX f l,Ay,FP,Nat.add_assoc]
theorem g_{ns:List Int}(h:PyVbdeag.answers_asked ns=true):∃cs:List (List (List Int)),ns=PyFlat.put cs/\(∀c∈cs,PyFlat.okCall PyVbdeag.shape c)/\cs.length<=150/\iT cs<=4100/\PyVbdeag.answers ns=PyFlat.told (PyFlat.played Vbdeag.step Vbdeag.start cs):=by
 unfold PyVbdeag.answers_asked at h;unfold PyVbdeag.answers;cases e:PyFlat.calls PyVbdeag.shape ns.length ns with
 |none=>
  have:PyVbdeag.calls ns=none:=by unfold PyVbdeag.calls;rw[e]
  rw[this]at h;cases h
 |some cs=>
  have:PyVbdeag.calls ns=some cs:=by
   unfold PyVbdeag.calls;rw[e];show some (cs.map PyVbdeag.whole)=_;rw[Di λc hc=>(fY ((Wu _ _ _ e).2 c hc)).1,Oo]
  rw[this]at h⊢;have h:(PyFlat.atMost 150 cs&&VbdeagNeutral.asked cs)=true:=h;rw[AR]at h;have h2:=h.2;unfold VbdeagNeutral.asked at h2;rw[AR,AR,AR]at h2;obtain⟨p1,p2⟩:=Wu _ _ _ e;refine⟨cs,p1,p2,AX h2.2.2.1,?_,U⟩;have h3:=AX h2.2.2.2;rw[WX VbdeagNeutral.further,LZ]at h3;have:VbdeagNeutral.further=lR:=funext λc=>by
   unfold VbdeagNeutral.further lR;rw[WX List.length,LZ]
  rw[this]at h3;exact h3
theorem rT{b:Vbdeag.Bank}{n:Nat}(h:Wf b n){c:List (List Int)}(hc:PyFlat.okCall PyVbdeag.shape c):Wf (Vbdeag.step b c).1 (n+1+lR c)/\(Vbdeag.step b c).2.length<=400+4*(n+1):=by
 unfold Vbdeag.step;cases e:Vbdeag.callOf c with
 |none=>exact⟨h.le (by omega),by show 1<=_;omega⟩
 |some d=>
  have:=(fY hc).2 d e;exact⟨(lF h d).1.le (by omega),(lF h d).2⟩
theorem XD:∀xs:List (List Int),(PyFlat.putRows xs).length=(xs.map λx=>1+x.length).sum
 | []=>rfl
 |x::xs=>by
  show((_::x)++PyFlat.putRows xs).length=_;rw[AL,XD xs,Ab,Ay,FP];omega
theorem Ah.off{w:World}{K:PySem.W.Frag}{mg:Str->Option Value}{T:All w K mg}{H:Hp}{r d:Addr}{b:Vbdeag.Bank}{L:Lo}{xs:List V}{o:HO}(R:Ah T H r b L)(hd:H d=some (.lst xs))(n:d∉L.foot r):Ah T (upd H d o) r b L:=by
 have g:∀a∈L.foot r,upd H d o a=H a:=λa h=>Aj λz=>n (z▸h);unfold Lo.foot at g;have nr:O7 (.lst xs):=trivial;refine⟨by rw[g _ (by simp)];exact R.obj,by rw[g _ (by simp)];exact R.lw,by rw[g _ (by simp)];exact R.lc,by rw[g _ (by simp)];exact R.lp,by rw[g _ (by simp)];exact R.ld,λz h=>(R.ww z h).upd hd nr,λz h=>⟨?_,λy hy=>((R.cc z h).2 y hy).upd hd nr⟩,λz h=>⟨?_,λy hy=>((R.pp z h).2 y hy).upd hd nr⟩,λz h=>⟨?_,λy hy=>((R.dd z h).2 y hy).upd hd nr⟩,R.nd,R.bw,R.bc,R.bp,R.bd⟩
 ·rw[g _ (by have:=Ld (f:=λz:Addr×_=>z.1) h;simp only[AN,AQ];exact .inr (.inr (.inr (.inr (.inr (.inl this))))))];exact(R.cc z h).1
 ·rw[g _ (by have:=Ld (f:=λz:Addr×_=>z.1) h;simp only[AN,AQ];exact .inr (.inr (.inr (.inr (.inr (.inr (.inl this)))))))];exact(R.pp z h).1
 ·rw[g _ (by have:=Ld (f:=λz:Addr×_=>z.1) h;simp only[AN,AQ];exact .inr (.inr (.inr (.inr (.inr (.inr (.inr this)))))))];exact(R.dd z h).1
theorem jo{cs:List (List (List Int))}(ok:∀c∈cs,PyFlat.okCall PyVbdeag.shape c)(h:PyFlat.put cs=[]):cs=[]:=by
 cases cs with
 |nil=>rfl
 |cons c cs=>
  obtain⟨q,rs,a,xs,rfl,_⟩:=cM (ok c (Ac ..));cases h
inductive o8(K:PySem.W.Frag)(vs:List V)(H:Hp)(Q:VK)(E:XK):Prop
 |mk(a:Addr)(ns:List Int):vs=[.ref a]->A1 K H a (ns.map V.int)->PyVbdeag.answers_asked ns=true->(∀(H':Hp)(p:Addr),H' p=some (.lst ((PyVbdeag.answers ns).map V.int))->Q (.ref p) H')->o8 K vs H Q E
section
variable{P:Program}{w:World}{K:PySem.W.Frag}{mg:Str->Option Value}{base:Heap}
structure zg(T:All w K mg)(H:Hp)(ns:List Int)(r d:Addr)(n:Nat)(H':Hp)(i f N:Nat)(b:Vbdeag.Bank)(L:Lo)(res:List Int)(rest:List (List (List Int))):Prop where
 s:A7 H H'
 nf:∀x∈L.foot r,H x=none
 nd:H d=none
 df:d∉L.foot r
 hd:H' d=some (.lst (res.map V.int))
 R:Ah T H' r b L
 W:Wf b N
 ok:∀c∈rest,PyFlat.okCall PyVbdeag.shape c
 hn:ns.drop n=PyFlat.put rest
 hi:i+rest.length<=150
 hf:f+iT rest<=4100
 hN:N=i+f
 hr:res.length<=i*17500
 ha:PyVbdeag.answers ns=res++PyFlat.told (PyFlat.played Vbdeag.step b rest)
theorem jq(T:All w K mg):Ok P w base T.HW 9 (o8 K):=by
 refine T.HW.go EC λcdv A outer s H vs Q E hr h Cc=>?_;obtain⟨a,ns,rfl,ha,hq,k⟩:=h;refine⟨_,(AE (DJ EC 1 (di T.BG.mak (Rz T) (hr.mono (by decide)) U T.BG.mg T.BG.bi .nil cV))
  (AE (DJ EC 2 (BS AF))
  (AE (DJ EC 3 Ag)
  (AE (PX BK (BX RW (pv 3) (JI T.Cd (pv 0)))
    (AE (DJ EC 4 (Ax Aa (pv 0) (pv 3)))
    (AE (DJ EC 5 (CA EY (pv 3) Ag))
    (AE (DJ EC 6 (CA EY (pv 5) (Bu (Rb T) hr (AB (pv 4) AF))))
    (AE (DJ EC 7 (Bu (Z5 T) hr (AB (pv 0) (AB (pv 6) (AB (Bu (VR T) hr (AB (pv 4) AF)) AF)))))
    (AE (DJ EC 8 (Bu (oM T) hr (AB (pv 1) (AB (pv 4) (AB (FU Gs (pv 0) (ER (pv 5)) (ER (pv 6))) (AB (pv 7) AF))))))
    (AE (C0 (GU PySem.F.plainAttrs_list PySem.F.slot_list_append PySem.F.type_list_append GA (pv 2) (AB (JI T.Cd (pv 8)) AF)))
    (AE (C0 (GU PySem.F.plainAttrs_list PySem.F.slot_list_extend PySem.F.type_list_extend Jg (pv 2) (AB (pv 8) AF)))
    (AK (DJ EC 3 (CA EY (pv 6) (NQ (pI U) U T.ie boot_sum (AB (Fi (own:=[("one",9)]) (tt:=GY) (te:=(L6 (aA λi j=>.int (i+j)) (tC (V.int 1)) (wF (rZ K) (CM (CD 9) C_)))) U EC.nd (Bx (pv 7)) (CS (by rfl)) (λ_ _ _ _ _=>BW (i:=9) EC.nd U (Or.inl U)) (λ_ _ _ _ _=>Dt) (λ_ _ _ _ _=>(CA EY Ag (JI T.Cd (pv 9))))) AF)))))))))))))
  (AK (Am (pv 2))))))),?_⟩
 obtain⟨cs,c1,c2,c3,c4,c5⟩:=g_ hq;refineλr dx nx Qz nex=>⟨r,dx,U,AD,λH1 L R SL keep new=>⟨U,?_⟩⟩;have s1:A7 H H1:=λa o e=>keep a o (by
  have h1:a≠r:=BY e nx;have h2:a≠dx:=BY e Qz;rw[Aj h1,Aj h2];exact e) (BY e nx)
 have n0:∀a∈L.foot r,H a=none:=λa ha=>(new a ha).elim (λe=>e▸nx) λe=>by
  cases q:H a with
  |none=>rfl
  |some o=>
   have h1:a≠r:=BY q nx;have h2:a≠dx:=BY q Qz;rw[Aj h1,Aj h2,q]at e;cases e
 refine⟨by show 0<=sizeLine;decide,λd nd=>?_⟩;refine⟨λm σ H'=>∃(n i f N:Nat)(b:Vbdeag.Bank)(L:Lo)(res:List Int)(rest:List (List (List Int)))(u4 u5 u6 u7 u8 u9:Option V),m=ns.length-n/\σ=[some (.ref a),some (.ref r),some (.ref d),some (.int n),u4,u5,u6,u7,u8,u9]/\zg T H ns r d n H' i f N b L res rest,
  ⟨_,0,0,0,0,Vbdeag.start,L,[],cs,none,none,none,none,none,none,U,U,⟨s1.trans (AO nd),n0,s1.free nd,R.Cv nd,AD,R.same (AO nd),fO,c2,c1,by omega,by omega,U,AY _,c5⟩⟩,?_⟩
 rintro m σ H' ⟨n,i,f,N,b,L,res,rest,u4,u5,u6,u7,u8,u9,rfl,rfl,A⟩;have ha':=A.s.seq ha;refine⟨_,U,_,U,a,_,U,.inl ha',_,_,U,U,_,U,?_⟩;rw[AA];refine DL (λh=>?_) λh=>?_
 ·have hlt:n<ns.length:=by have:=AX h;omega
  refine⟨λσ' xQ=>∃m',m'<ns.length-n/\_,λ_ _ z=>z,?_⟩;cases rest with
  |nil=>
   have:=B5 List.length A.hn;rw[A2]at this;have:ns.length-n=0:=this;omega
  |cons c rest=>
  obtain⟨q,rs,args,xs,rfl,hf,hl,hs⟩:=cM (A.ok c (Ac ..));have hn:ns.drop n=(q:Int)::(args++(PyFlat.putRows xs++PyFlat.put rest)):=A.hn.trans (Bm ((q:Int)::args) _ _);have g0:(ns.map V.int)[n]?=some (.int (q:Int)):=by rw[Ai,<-K9,hn];rfl
  have h1:ns.drop (n+1)=args++(PyFlat.putRows xs++PyFlat.put rest):=by rw[<-DC,hn];rfl
  have h2:ns.drop (n+1+rs.length)=PyFlat.putRows xs++PyFlat.put rest:=by rw[<-DC,h1,<-hl,PJ]
  have x4:xs.length<=4:=by rw[hs];unfold Kw;split<;>omega
  have hi:=A.hi;rw[Ab]at hi;have hF:f+(lR (((q:Int)::args)::xs)+iT rest)<=4100:=A.hf;have hx:(xs.map List.length).sum<=4100:=by
   have:lR (((q:Int)::args)::xs)=(xs.map List.length).sum:=rfl;omega
  refine⟨_,U,_,U,a,_,n,_,U,U,ha',at_of U g0,?_⟩;refine⟨_,U,_,_,U,U,?_⟩;refine⟨_,U,_,U,q,rs,U,hf,_,_,U,U,?_⟩;refine⟨_,U,_,U,_,U,(q:Int),U,a,n+1+rs.length,ns,PyFlat.put rest,xs,by rw[hs];rfl,ha',h2,x4,λH1 dl ls s1 nl hdl em hls=>?_⟩;refine⟨_,U,_,U,_,U,_,U,(n:Int)+1,U,_,U,(n:Int)+1+(rs.length:Int),U,a,_,U,s1.seq ha',λp np=>?_⟩;rw[show PN (ns.map V.int) (some ((n:Int)+1)) (some ((n:Int)+1+(rs.length:Int)))=((ns.drop (n+1)).take rs.length).map V.int from UC ns (i:=n+1) (k:=rs.length),h1,<-hl,PyFlat.take_len];have s2:=AO (o:=.lst (args.map V.int)) np;have hp2:(upd H1 p (.lst (args.map V.int))) p=some (.lst (args.map V.int)):=AD;generalize upd H1 p (.lst (args.map V.int))=H2 at s2 hp2⊢;have s3:=s1.trans s2;have lsl:ls.length=Kw q:=by rw[<-hs,<-em,AA]
  have R2:=A.R.same s3;refine⟨_,U,r,p,dl,q,b,L,N,rs,args,ls,U,R2,A.W,hf,hl,lsl,A1.of hp2,s2 _ _ hdl,λl hl=>s2 _ _ (hls l hl).1,by rw[em];exact hx,?_⟩;rw[em];have VB:=rT A.W (A.ok _ (Ac ..));have pl:PyFlat.told (PyFlat.played Vbdeag.step b ((((q:Int)::args)::xs)::rest))=(((Vbdeag.step b (((q:Int)::args)::xs)).2.length:Int)::(Vbdeag.step b (((q:Int)::args)::xs)).2)++PyFlat.told (PyFlat.played Vbdeag.step (Vbdeag.step b (((q:Int)::args)::xs)).1 rest):=rfl;have aa:=A.ha;rw[pl]at aa;clear pl;generalize Vbdeag.step b (((q:Int)::args)::xs)=st at VB aa⊢;obtain⟨b',told⟩:=st;dsimp only at VB aa⊢;refineλH3 L' pa R3 M e3 lM nf3=>?_;have keep:∀x o,H' x=some o->x∉L.foot r->H3 x=some o:=λx o e nx=>M.keep x o (s3 _ _ e) nx;have d2:=s3 _ _ A.hd;have d3:=M.keep _ _ d2 A.df;have pad:pa≠d:=λz=>by rw[z,d2]at lM;cases lM
  have tl:told.length<=17404:=by
   have:=VB.2;have:=A.hN;omega
  have rl:res.length<=i*17500:=A.hr;have rl2:i*17500<=149*17500:=KY _ (by omega);refine⟨_,U,.inl ⟨U,_,A1.of d3⟩,_,U,pa,_,U,.inl (A1.of e3),d,_,_,U,U,d3,by rw[AA];omega,?_⟩;refine⟨_,U,.inl ⟨U,_,A1.of AD⟩,_,U,d,pa,_,_,U,U,AD,by rw[Aj pad];exact e3,by rw[AL,AA,AA,Gi];omega,?_⟩;rw[Cj];have er:(res.map V.int++[V.int ((told.map V.int).length:Int)])++told.map V.int=(res++(told.length:Int)::told).map V.int:=by
   rw[AA,As,Bm];rfl
  rw[er];have df':d∉L'.foot r:=λz=>(M.fresh d z).elim A.df λq=>by rw[d2]at q;cases q
  have R4:Ah T (upd H3 d (.lst ((res++(told.length:Int)::told).map V.int))) r b' L':=R3.off d3 df';have off:∀x,H' x=none->x≠d:=λx e z=>by rw[z,A.hd]at e;cases e
  have nl4:∀x o,H' x=none->H2 x=some o->(upd H3 d (.lst ((res++(told.length:Int)::told).map V.int))) x=some o:=λx o e h=>by
   rw[Aj (off x e)];exact M.keep _ _ h (A.R.Cv e)
  have s4:A7 H (upd H3 d (.lst ((res++(told.length:Int)::told).map V.int))):=λx o e=>by
   rw[Aj (λz=>by rw[z,A.nd]at e;cases e)];exact keep _ _ (A.s _ _ e) λz=>by rw[A.nf x z]at e;cases e
  have d4:(upd H3 d (.lst ((res++(told.length:Int)::told).map V.int))) d=_:=AD;generalize upd H3 d (.lst ((res++(told.length:Int)::told).map V.int))=H4 at R4 nl4 s4 d4⊢;have iw:=nl4 _ _ nl (s2 _ _ hdl);refine⟨_,U,_,U,dl,U,⟨_,A1.of iw⟩,λD hD=>?_⟩;refine JD (K:=K) (zs:=ls) (A1.of iw) (by rw[lsl,<-hs];omega) (by show 9<10;decide) hD (λ_=>true) (λz=>V.int (1+(z.2.length:Int))) (λz _ H' _ R hR=>hR) (λz mz _ H' hs R hR=>⟨_,U,z.1,_,U,.inl (A1.of (hs _ _ (nl4 _ _ (hls z mz).2 (s2 _ _ (hls z mz).1)))),_,_,U,U,by rw[AA];exact hR⟩) ?_;rw[Dh.mpr λ_ _=>rfl];have em2:(ls.map λz=>V.int (1+(z.2.length:Int)))=((xs.map λx=>1+x.length).map λn:Nat=>(n:Int)).map V.int:=by
   rw[<-em,An,An,An];refine Di λz _=>?_;show V.int (1+(z.2.length:Int))=V.int ((1+z.2.length:Nat):Int);rw[PF];rfl
  have es:((xs.map λx=>1+x.length).map λn:Nat=>(n:Int)).sum=((PyFlat.putRows xs).length:Int):=by
   rw[XD];generalize (xs.map λx=>1+x.length)=l
   induction l with
   |nil=>rfl
   |cons y l ih=>rw[Ay,FP,ih,FP,PF]
  refine⟨D,(xs.map λx=>1+x.length).map λn:Nat=>(n:Int),U,A1.of (by rw[AD,em2]),_,_,U,U,?_⟩;rw[es];have s5:=AO (o:=.lst (ls.map λz=>V.int (1+(z.2.length:Int)))) hD;have hne:n+1+args.length+(PyFlat.putRows xs).length<=ns.length:=by
   have:=B5 List.length hn;rw[A2,Ab,AL,AL]at this;omega
  refine⟨ns.length-(n+1+args.length+(PyFlat.putRows xs).length),by omega,n+1+args.length+(PyFlat.putRows xs).length,i+1,f+lR (((q:Int)::args)::xs),N+1+lR (((q:Int)::args)::xs),b',L',res++(told.length:Int)::told,rest,_,_,_,_,_,_,U,U,⟨s4.trans s5,λx hx=>?_,A.nd,df',s5 _ _ d4,R4.same s5,VB.1,λc hc=>A.ok c (AV _ hc),?_,by omega,by omega,by have:=A.hN;omega,?_,?_⟩⟩
  ·exact(M.fresh x hx).elim (A.nf x) λe=>(A.s.trans s3).free e
  ·rw[<-DC,hl,h2,PJ]
  ·rw[AL,Ab];omega
  ·rw[aa,Bm]
 ·have hge:ns.length<=n:=by
   have:¬(n:Int)<(ns.length:Int):=λz=>h (AM z);omega
  have e:=A.hn;rw[Eb hge]at e;cases jo A.ok e.symm;have e2:PyVbdeag.answers ns=res:=A.ha.trans (Bk _);exact⟨_,U,k H' d (by rw[e2];exact A.hd)⟩
end
end So
namespace PySem.W.Fast
def tw14539428549429530003:=0
def tw9988228361328027654:=0
def tw4136234288846940298:=0
def tw16473688221251522596:=0
def tw10432105502734514288:=0
def tw5123013353191551689:=0
def tw1776311406692008229:=0
def tw296092887538689134:=0
def tw4997260886296107527:=0
def tw12735406620493742754:=0
def tw13099782568940776932:=0
def tw3324331803687076944:=0
def tw13375373127244086538:=0
def tw1784472688792098514:=0
def tw16035581096370151257:=0
def tw15345367507289374732:=0
def tw353731224274877286:=0
def tw1592833599353421852:=0
def tw12730299053462626433:=0
def tw17187981810255501237:=0
def tw8729861359352406514:=0
def tw1225350754746012905:=0
def tw15237691987658780120:=0
def tw6388175046187006036:=0
def tw14729500508705556093:=0
def tw722005781070944265:=0
def tw10661455277373173398:=0
def tw5417400090277944390:=0
def tw17551784101255693147:=0
def tw14847980552208072232:=0
def tw8040286693965171145:=0
def tw16866206451091761069:=0
def tw14190264933503910676:=0
def tw6598948824034439757:=0
def tw13173118662572891790:=0
def tw7974947041566010597:=0
def tw16507469500629845565:=0
def tw1514549222081203034:=0
def tw9399512359130687182:=0
def tw3671002049801118671:=0
def tw13963261624008349161:=0
def tw9014102101143186821:=0
def tw1639750601993182141:=0
def tw362415621501539343:=0
def tw14344723574031772995:=0
def tw2755154791888824947:=0
def tw9074881604871626364:=0
def tw3259084744659467409:=0
def tw15245088472139829638:=0
def tw8389838241321746167:=0
def tw15767063501179667417:=0
def tw2123029228231957402:=0
def tw4794543247423352705:=0
def tw34894510843044031:=0
def tw10453003761810556316:=0
def tw16132715115740357329:=0
def tw7529852857374891494:=0
def tw10435670947088228284:=0
def tw7954325913349115364:=0
def tw5613308513471994100:=0
def tw15102496609368232529:=0
def tw10721359880610232606:=0
def tw8824804223616245108:=0
def tw9054803179506790944:=0
def tw16207629927741691248:=0
def tw17531223889697126932:=0
def tw3131175709629010661:=0
def tw4256148000548919413:=0
def tw5660732473994640737:=0
def tw14255254932310675306:=0
def tw3608009453126084161:=0
def tw96313277495621508:=0
def tw10988285866881732796:=0
def tw13317619987619902743:=0
def tw14067817283645615327:=0
def tw12919777694837569110:=0
def tw16903323489471809333:=0
def tw7981588575776401107:=0
def tw10349779693208429204:=0
def tw15105963341472579719:=0
def tw6138738356795000602:=0
def tw12505146139333094088:=0
def tw6951367707662692056:=0
def tw13394763537972221896:=0
def tw13903930656732804654:=0
def tw9068015024367993574:=0
def tw4087172326809194877:=0
def tw15696909550348564351:=0
def tw9296352289263606498:=0
def tw8960001071692006485:=0
def tw13485429554006383374:=0
def tw16539564827285387141:=0
def tw12460067428220594653:=0
def tw11235979820501529107:=0
def tw9899188664034514546:=0
def tw8100457831674766170:=0
def tw378968093563013861:=0
def tw6734015593734003027:=0
def tw6426356447323132549:=0
def tw18334503287283884254:=0
def tw11373230327324332399:=0
def tw16977188703605061645:=0
def tw6738234972564668207:=0
def tw12065705366460448931:=0
def tw9425307778709110502:=0
def tw9291692035586251322:=0
def tw11948089282675258563:=0
def tw17714466781919542621:=0
def tw4605643016121476205:=0
def tw4399440630644266955:=0
def tw14969789557622322660:=0
def tw11116875696022509333:=0
def tw12741782346058954089:=0
def tw3076804899056945226:=0
def tw11170411889679429803:=0
def tw9883341195334906447:=0
def tw8333308022531319739:=0
def tw16622978883488349736:=0
def tw3895710340388529183:=0
def tw5543259827794521838:=0
def tw10563859664036593485:=0
def tw14719236006362593853:=0
def tw12193958064221862442:=0
def tw10997158099053092665:=0
def tw10756131621845169825:=0
def tw3235245383087108292:=0
def tw10955554586087300571:=0
def tw11929179878502514595:=0
def tw14817258025731424834:=0
def tw7809679501444843880:=0
def tw3812161615400809891:=0
def tw10812266921096063600:=0
def tw8203056329299818744:=0
def tw15315063756497611559:=0
def tw16685205790068095801:=0
def tw9979170272107372907:=0
def tw17704367419010168875:=0
def tw5320227432162309074:=0
def tw3864554990317337162:=0
def tw17607037815747588493:=0
def tw12477786925293435880:=0
def tw6346212023236741308:=0
def tw4162234315245089661:=0
def tw1148313849036055183:=0
def tw17325442875184166515:=0
def tw16426297481149245216:=0
def tw6300971910204862945:=0
def tw6404797746403248052:=0
def tw8235460285760565644:=0
def tw12758121832179211171:=0
def tw11773100083947511299:=0
def tw7867389838813180123:=0
def tw11165849775714025748:=0
def tw17572526074059466436:=0
def tw9292763257989067368:=0
def tw10414659915238232388:=0
def tw948298124293028225:=0
def tw17050057956490069640:=0
def tw368091041799904776:=0
def tw17499131011497773062:=0
def tw861088082460727479:=0
def tw1850785026309030400:=0
def tw11424949902270271459:=0
def tw11826368871064286749:=0
def tw14240103303539787477:=0
def tw9777352688997089073:=0
def tw2180629750021405077:=0
def tw12306356504288769926:=0
def tw14395818533320263566:=0
def tw36144920435572666:=0
def tw1058826122600348110:=0
def tw1674096088853110606:=0
def tw8174829761156445962:=0
def tw5575696882056703967:=0
def tw6622534721813387146:=0
def tw3294571705887144506:=0
def tw10328575704721685055:=0
def tw10218923134829608330:=0
def tw4534325650689711184:=0
def tw8408310213577687464:=0
def tw16926825811462518890:=0
def tw17967799282912902722:=0
def tw13536148078593049790:=0
def tw7578556686392929425:=0
def tw1338826896641824819:=0
def tw8221877459743987190:=0
def tw2965224702549859076:=0
def tw16203711478092079631:=0
def tw5479373227138117187:=0
def tw244452956391776357:=0
def tw7776519562799133115:=0
def tw7193729921399036568:=0
def tw14662288380095148133:=0
def tw16753947565065906258:=0
def tw16408413837164103255:=0
def tw4373849745529450830:=0
def tw4667652496616895443:=0
def tw12580155716893553421:=0
def tw982053773231529339:=0
def tw2987746348248017931:=0
def tw5182483630014798714:=0
def tw6004765577918227627:=0
def tw11880587800593032937:=0
def tw11494330515593741036:=0
def tw5416536465199530659:=0
def tw16031694540370917833:=0
def tw14583610140840784685:=0
def tw11386678390651207677:=0
def tw3786921394488607365:=0
def tw1913449524989346832:=0
def tw3203857655457650205:=0
def tw11131466805843388304:=0
def tw3062300051362636809:=0
def tw8759749505693085326:=0
def tw12837207425655207346:=0
def tw1058054237859385164:=0
def tw2296577921465668399:=0
def tw5443164720466653739:=0
def tw2234004663289288356:=0
def tw4169329458812687430:=0
def tw11998817799325666356:=0
def tw7991335496734256056:=0
def tw2017868101036059416:=0
def tw6121677551227252925:=0
def tw2605934531422407785:=0
def tw1950826589508097124:=0
def tw6876599919466198020:=0
def tw8976077816294267209:=0
def tw16928224498778834912:=0
def tw4159919838490098100:=0
def tw197736642870925187:=0
def tw10828090972341669598:=0
def tw14806326887957554016:=0
def tw959330036423000569:=0
def tw15629805319693946754:=0
def tw8625013733171739179:=0
def tw18136095345905275552:=0
def tw1409577692582266528:=0
def tw2482212455513698454:=0
def tw5658317638282197722:=0
def tw10961732744781190673:=0
def tw8374149144650331399:=0
def tw3511922236534382915:=0
def tw15083578376889364252:=0
def tw9983335403279911056:=0
def tw7802182566416876497:=0
def tw11293418587486340978:=0
def tw8545559128505584644:=0
def tw8467935015326282975:=0
def tw15395544237548804643:=0
def tw17208053332485521041:=0
def tw10982966338136432543:=0
def tw10461158062944838083:=0
def tw345510733917822360:=0
def tw14656372928120463633:=0
def tw14685548810946392652:=0
def tw6552554894541147337:=0
def tw2029519318007455788:=0
def tw2354147913920079217:=0
def tw12359428649603118309:=0
def tw2832091834439240757:=0
def tw3955451988736609271:=0
def tw15324275380388267336:=0
def tw14713003439864722711:=0
def tw14137556932310384755:=0
def tw15521821634681415060:=0
def tw18121183376036254348:=0
def tw18186859090995283343:=0
def tw7750747737192908513:=0
def tw6003639374740581730:=0
def tw13305066418457034554:=0
def tw15554244816392390694:=0
def tw5631811224663293436:=0
def tw2105926134642468525:=0
def tw1028134212199271411:=0
def tw5949551770249176457:=0
def tw17121852237125985837:=0
def tw9850127679896132361:=0
def tw16189375447450416271:=0
def tw4560043742150297168:=0
def tw15693004390663925524:=0
def tw14309077847649413072:=0
def tw10652127853926877548:=0
def tw3013620811463517667:=0
def tw14426967108733763664:=0
def tw5097449738881090008:=0
def tw2292792454788769874:=0
def tw17772634059255296068:=0
def tw2520982552999020157:=0
def tw9706443322203617467:=0
def tw12763516768985152447:=0
def tw7048152810816202814:=0
def tw14072663239402545797:=0
def tw11608584918275902497:=0
def tw12214942791090508077:=0
def tw13030596835683872154:=0
def tw16649820073717689729:=0
def tw8934335872384314393:=0
def tw6689617300547672743:=0
def tw7532739696741337213:=0
def tw14569698408221719454:=0
def tw129450343967613505:=0
def tw3520041732093099894:=0
def tw12994888857521808060:=0
def tw9835948125832984677:=0
def tw8372675789312115584:=0
def tw10444220141581199103:=0
def tw11880011395175047849:=0
def tw2475427644129507539:=0
def tw16873512462142080869:=0
def tw563922640251990516:=0
def tw6005869922631498545:=0
def tw8376000987789144348:=0
def tw4642493984561883710:=0
def tw14719594915514944008:=0
def tw7058834080555598305:=0
def tw17460983289864815171:=0
def tw7474623618984798067:=0
def tw15996950704542459250:=0
def tw16579212779054245085:=0
def tw18159328449750890703:=0
def tw10728677859770332091:=0
def tw8805567362359303026:=0
def tw4893177794840090275:=0
def tw10109358755627167398:=0
def tw9202614616646375400:=0
def tw13410109537415500669:=0
def tw13292309242965747676:=0
def tw9782947468349220635:=0
def tw15258331779802068241:=0
def tw7954475223033365943:=0
def tw3092237023385431174:=0
def tw14510291174326197212:=0
def tw14465446914233946610:=0
def tw8823049638700529259:=0
def tw5032307826955829781:=0
def tw18125498901840510595:=0
def tw16086637823541703725:=0
def tw17711741197929248155:=0
def tw6490744470341756704:=0
def tw53315974294139234:=0
def tw16595294955661157627:=0
def tw15793456853693303059:=0
def tw7503336329683316948:=0
def tw8452304175691638552:=0
def tw401381756531899272:=0
def tw13573360231996232086:=0
def tw13206268463365475466:=0
def tw12234859766801840302:=0
def tw11521056172659914250:=0
def tw9903460778293776599:=0
def tw6168122294031339606:=0
def tw16747222601862595788:=0
def tw15144643840074176523:=0
def tw14769210447853865250:=0
def tw9449611676851123420:=0
def tw16811735378336665495:=0
def tw16154076714015500934:=0
def tw11366261836672358110:=0
def tw8183050969022482972:=0
def tw9012444186924935320:=0
def tw7818365737637358931:=0
def tw6946645047769849911:=0
def tw546015285926897345:=0
def tw4050705146893019822:=0
def tw1438362426109239893:=0
def tw13922547468122757359:=0
def tw8828261517992448324:=0
def tw7211762444037554115:=0
def tw470107967814506534:=0
def tw1821781697531726856:=0
def tw1360956371670124905:=0
def tw12108773378596833363:=0
def tw13370295863593241185:=0
def tw12840416051126733697:=0
def tw9932765400918552407:=0
def tw9765737364927391798:=0
def tw9452174682786065601:=0
def tw9203097366232560466:=0
def tw8265431760134740290:=0
def tw7141881506941433332:=0
def tw6790145991563972584:=0
def tw3443856068415256445:=0
def tw2229978471167144244:=0
def tw13144748796430851207:=0
def tw7498583195640004777:=0
def tw5229948496504254726:=0
def tw4615420630524982283:=0
def tw16319777314848476456:=0
def tw11324507499501143652:=0
def tw2728703750250769851:=0
def tw8611447560831530725:=0
def tw3585652783867820753:=0
def tw2377794281783454690:=0
def tw10668408067193909700:=0
def tw4741544134149807289:=0
def tw1849577230384475927:=0
def tw13937119817530741859:=0
def tw13675557763970299979:=0
def tw4629029715494826985:=0
def tw2861759495873346194:=0
def tw12584085024778011631:=0
def tw10434433450418882544:=0
def tw2535493430061919350:=0
def tw9332349108875872526:=0
def tw8432550433983549963:=0
def tw9892410258907460020:=0
def tw5471330858470386332:=0
def tw546626833294703542:=0
def tw16175091455137302190:=0
def tw15464313944078773529:=0
def tw8038084515317634079:=0
def tw569699703019272086:=0
def tw18193039981703617566:=0
def tw15840158378851362204:=0
def tw15085931530404958163:=0
def tw16628906167411962421:=0
def tw10751662265921865262:=0
def tw7651079322334519198:=0
def tw17586611744049888873:=0
def tw1538283959838298139:=0
def tw7566750776223393645:=0
def tw5438584750968668055:=0
def tw1110956572010301058:=0
def tw14742499517903874281:=0
def tw8410256139587565212:=0
def tw1410101397686126114:=0
def tw4650845809688163509:=0
def tw2382239944190556794:=0
def tw17859082154932246060:=0
def tw17229588726662335786:=0
def tw15604559281031474263:=0
def tw13644706134357788672:=0
def tw17882861068070211072:=0
def tw1534555850211727726:=0
def tw13766418594079351575:=0
def tw281466905014199135:=0
def tw17176714815234349941:=0
def tw1603276218091845874:=0
def tw6227510714674470884:=0
def tw1357500018385851456:=0
def tw10864244616243613348:=0
def tw9851234097328637442:=0
def tw7015236440333246533:=0
def tw5798126555874691506:=0
def tw15413340247588887252:=0
def tw1203080494505808144:=0
def tw2326666734795382537:=0
def tw6772270300078557148:=0
def tw7903914335351931133:=0
end PySem.W.Fast
open PySem PySem.W PyProof.Rows
set_option hygiene false
local macro_rules| `(tactic|and_intros)=>`(tactic|(refine' So.zX KX G ?a ?l ?c ?k ?b;(case a=>k_is);(case l=>k_is);(case c=>k_is);(case k=>k_is);(case b=>(intro _ _ _ _ _ _ _ hl;first|exact So.vU hl λ_=>rfl|exact So.AA7 hl λ_ _=>rfl|exact So.yr hl λ_ _ _=>rfl|exact So.yt hl λ_ _ _ _=>rfl|exact So.AA8 hl λ_ _ _ _ _=>rfl|exact So.AA9 hl λ_ _ _ _ _ _=>rfl|exact So.ABA hl λ_ _ _ _ _ _ _=>rfl|exact So.ABB hl λ_ _ _ _ _ _ _ _=>rfl|exact So.ABC hl λ_ _ _ _ _ _ _ _ _=>rfl))))
local macro_rules| `(tactic|nofun)=>`(tactic|(first|(refine' So.xC KX G ?a;(case a=>k_is);done)|(refine' So.int_mk KX G ?a;(case a=>k_is);done)))
local macro_rules| `(tactic|ac_rfl)=>`(tactic|(refine' So.zY KX G ?aC ?a ?i ?l ?c ?k ?pg ?hd ?po ?sa ?m ?kc ?no ?b;(case aC=>k_is);(case a=>k_is);(case i=>k_is);(case l=>k_is);(case c=>k_is);(case k=>k_is);(case pg=>k_is);(case hd=>k_is);(case po=>k_is);(case sa=>k_is);(case m=>k_is);(case kc=>k_is);(case no=>(repeat' first|exact So.xB|(refine' So.tu ?n ?_;(case n=>k_is))));(case b=>(intro _ _ _ _ _ _ _ hl;first|exact So.vU hl λ_=>rfl|exact So.yr hl λ_ _ _=>rfl|exact So.yt hl λ_ _ _ _=>rfl))))
local macro_rules| `(tactic|bv_omega)=>`(tactic|(refine' So.tw KX ?l ?z ?v;(case l=>k_is);(case z=>decide);(case v=>(repeat' first|exact .nil|refine .cons ⟨_,rfl⟩ ?_))))
set_option hygiene true
set_option maxHeartbeats 0 in
theorem PySem.Challenge.cw_settingoff_s01_answers_holds : PySem.Challenge.rw_settingoff_s01_answers.Holds := by
 w_on;k_headS;(case hw=>exact⟨[.list [.int 15]],by decide +kernel,by decide +kernel⟩)
 k_fillS
 refine L2.jI (r:=PySem.Challenge.rw_settingoff_s01_answers) (k:=9) (CX:=L2.T5) (ps:=["calls"]) (sp:=So.o8) (by decide +kernel) U rfl ⟨U,by decide,by decide⟩ (λw h Y=>PySem.W.kIn_of Y) ?F ?S (λ_ _ _ _ z=>z)
 case F=>
  intro w mg fa h Y KX G hmg;obtain⟨Lp,Lq⟩:∃t,mg "OUT_OF_RANGE"=some (.int (-1) t):=by nofun
  obtain⟨NC,IM⟩:∃t,mg "WRONG_LISTS"=some (.int (-2) t):=by nofun
  obtain⟨Ks,E9⟩:∃t,mg "WAITS_ALREADY"=some (.int (-3) t):=by nofun
  obtain⟨Ku,GN⟩:∃t,mg "NEVER_OR_SAME"=some (.int (-4) t):=by nofun
  obtain⟨V5,HV⟩:∃t,mg "NO_ROOM"=some (.int (-5) t):=by nofun
  obtain⟨Sv,Sw⟩:∃t,mg "NO_ENTRY"=some (.int (-6) t):=by nofun
  obtain⟨ND,J8⟩:∃t,mg "NOT_WAITING"=some (.int (-10) t):=by nofun
  obtain⟨iM,L_⟩:∃t,mg "ROOM"=some (.int (1000) t):=by nofun
  obtain⟨YS,PZ⟩:∃t,mg "PLACES"=some (.int (64) t):=by nofun
  obtain⟨bx,bz⟩:∃t,mg "SCALE"=some (.int (1000000000000000000000000000000000000) t):=by nofun
  have oW:mg "abs"=none:=by nofun
  have KQ:mg "enumerate"=none:=by nofun
  have Cd:mg "len"=none:=by nofun
  have U6:mg "list"=none:=by nofun
  have oX:mg "max"=none:=by nofun
  have MA:mg "range"=none:=by nofun
  have Lh:mg "reversed"=none:=by nofun
  have oY:mg "set"=none:=by nofun
  have Ua:mg "sorted"=none:=by nofun
  have ie:mg "sum"=none:=by nofun
  have oZ:mg "zip"=none:=by nofun
  obtain⟨NV⟩:Nonempty (So.Df _ mg "ids_of" So.YE ["waiters"]):=by and_intros
  obtain⟨N6⟩:Nonempty (So.Df _ mg "place_of" So.SV ["rooms","x"]):=by and_intros
  obtain⟨Xd⟩:Nonempty (So.Df _ mg "waits" So.bf ["rooms","x"]):=by and_intros
  obtain⟨Qj⟩:Nonempty (So.Df _ mg "without" So.Vv ["waiters","ids"]):=by and_intros
  obtain⟨N7⟩:Nonempty (So.Df _ mg "told_ids" So.SW ["ids"]):=by and_intros
  obtain⟨Xe⟩:Nonempty (So.Df _ mg "leave" So.bg ["rooms","x"]):=by and_intros
  obtain⟨J9⟩:Nonempty (So.Df _ mg "clear_rooms" So.Mz ["rooms"]):=by and_intros
  obtain⟨Gw⟩:Nonempty (So.Df _ mg "worth_of" So.SX ["entry"]):=by and_intros
  obtain⟨Xf⟩:Nonempty (So.Df _ mg "holds" So.bh ["entry","cond","key"]):=by and_intros
  obtain⟨Hr⟩:Nonempty (So.Df _ mg "first_at_least" So.Jx ["highs","bound"]):=by and_intros
  obtain⟨Ub⟩:Nonempty (So.Df _ mg "height" So.YF ["entry","order"]):=by and_intros
  obtain⟨Gj⟩:Nonempty (So.Df _ mg "greatest_so_far" So.JX ["chain","order"]):=by and_intros
  obtain⟨GB⟩:Nonempty (So.Df _ mg "placed_by_height" So.Iw ["chain","arrivals","order"]):=by and_intros
  obtain⟨Gk⟩:Nonempty (So.Df _ mg "placed_by_order" So.JY ["chain","arrivals","order"]):=by and_intros
  obtain⟨J_⟩:Nonempty (So.Df _ mg "met_entries" So.M0 ["chain","back","n","cond","key"]):=by and_intros
  obtain⟨aV⟩:Nonempty (So.Df _ mg "link" So.iI ["rooms","c","x","order","key"]):=by and_intros
  obtain⟨Uc⟩:Nonempty (So.Df _ mg "unlink" So.YG ["rooms","c","back","n","cond","key"]):=by and_intros
  obtain⟨aW⟩:Nonempty (So.Df _ mg "move" So.iJ ["rooms","c","d","met","order"]):=by and_intros
  obtain⟨Ud⟩:Nonempty (So.Df _ mg "rising" So.YH ["chain"]):=by and_intros
  obtain⟨LB⟩:Nonempty (So.Df _ mg "sort_chain" So.OO ["rooms","c","falling"]):=by and_intros
  obtain⟨Ue⟩:Nonempty (So.Df _ mg "rotate" So.YI ["rooms","c","n"]):=by and_intros
  obtain⟨IV⟩:Nonempty (So.Df _ mg "reverse_chain" So.Kn ["rooms","c"]):=by and_intros
  obtain⟨Ug⟩:Nonempty (So.Df _ mg "merged" So.YJ ["ours","theirs"]):=by and_intros
  obtain⟨Xg⟩:Nonempty (So.Df _ mg "merge" So.bq ["rooms","c","d"]):=by and_intros
  obtain⟨ig⟩:Nonempty (So.Df _ mg "cut" So.oS ["rooms","c","d","n"]):=by and_intros
  obtain⟨N8⟩:Nonempty (So.Df _ mg "partners" So.SY ["callers","side","key"]):=by and_intros
  obtain⟨aX⟩:Nonempty (So.Df _ mg "pair" So.iK ["rooms","d","x","side","key"]):=by and_intros
  obtain⟨GC⟩:Nonempty (So.Df _ mg "how_many_numbers" So.Iz ["place"]):=by and_intros
  obtain⟨Hs⟩:Nonempty (So.Df _ mg "how_many_lists" So.Jy ["place"]):=by and_intros
  obtain⟨LC⟩:Nonempty (So.Df _ mg "row_length" So.OP ["kind"]):=by and_intros
  obtain⟨MW⟩:Nonempty (So.Df _ mg "in_ranges" So.P9 ["names","numbers"]):=by and_intros
  obtain⟨IW⟩:Nonempty (So.Df _ mg "call_in_range" So.Ko ["place","numbers"]):=by and_intros
  obtain⟨JQ⟩:Nonempty (So.Df _ mg "row_in_range" So.Lm ["kind","row"]):=by and_intros
  obtain⟨Ht⟩:Nonempty (So.Df _ mg "common_divisor" So.Jz ["top","bottom"]):=by and_intros
  obtain⟨Uh⟩:Nonempty (So.Df _ mg "stands" So.YK ["word","mask","value"]):=by and_intros
  obtain⟨MX⟩:Nonempty (So.Df _ mg "can_stand" So.P_ ["mask","value"]):=by and_intros
  obtain⟨Xh⟩:Nonempty (So.Df _ mg "could" So.br ["rooms","word"]):=by and_intros
  obtain⟨ir⟩:Nonempty (So.Df _ mg "put" So.oU ["rooms","word"]):=by and_intros
  obtain⟨LD⟩:Nonempty (So.Df _ mg "switch_bit" So.OQ ["k"]):=by and_intros
  obtain⟨LF⟩:Nonempty (So.Df _ mg "set_switch" So.OR ["rooms","k","how"]):=by and_intros
  obtain⟨Xi⟩:Nonempty (So.Df _ mg "watch" So.bu ["rooms","x","mask","value"]):=by and_intros
  obtain⟨Qk⟩:Nonempty (So.Df _ mg "rows_of" So.Vw ["numbers","length"]):=by and_intros
  obtain⟨N9⟩:Nonempty (So.Df _ mg "parts_of" So.Sa ["numbers","kind"]):=by and_intros
  obtain⟨Hu⟩:Nonempty (So.Df _ mg "watchers_right" So.J0 ["word","rows"]):=by and_intros
  obtain⟨GD⟩:Nonempty (So.Df _ mg "keyed_rows_right" So.I0 ["kind","rows"]):=by and_intros
  obtain⟨GF⟩:Nonempty (So.Df _ mg "one_for_each_key" So.I_ ["rows"]):=by and_intros
  obtain⟨Fj⟩:Nonempty (So.Df _ mg "groups_incomplete" So.IJ ["rows"]):=by and_intros
  obtain⟨KA⟩:Nonempty (So.Df _ mg "parts_right" So.M1 ["kind","parts"]):=by and_intros
  obtain⟨KC⟩:Nonempty (So.Df _ mg "no_id_twice" So.M3 ["watcher_rows","parts"]):=by and_intros
  obtain⟨IX⟩:Nonempty (So.Df _ mg "fill_watchers" So.Kp ["rooms","rows"]):=by and_intros
  obtain⟨KD⟩:Nonempty (So.Df _ mg "fill_chains" So.M4 ["rooms","parts"]):=by and_intros
  obtain⟨KG⟩:Nonempty (So.Df _ mg "fill_points" So.M5 ["rooms","parts"]):=by and_intros
  obtain⟨LG⟩:Nonempty (So.Df _ mg "fill_doors" So.OS ["rooms","parts"]):=by and_intros
  obtain⟨aY⟩:Nonempty (So.Df _ mg "load" So.s_load ["rooms","word","lists"]):=by and_intros
  obtain⟨N_⟩:Nonempty (So.Df _ mg "group_of" So.Sb ["guests","key"]):=by and_intros
  obtain⟨OA⟩:Nonempty (So.Df _ mg "dissolve" So.Sd ["rooms","m","key"]):=by and_intros
  obtain⟨Ui⟩:Nonempty (So.Df _ mg "arrive" So.YL ["rooms","m","x","n","key"]):=by and_intros
  obtain⟨IY⟩:Nonempty (So.Df _ mg "watchers_told" So.Kq ["watchers"]):=by and_intros
  obtain⟨LH⟩:Nonempty (So.Df _ mg "entry_told" So.OT ["entry"]):=by and_intros
  obtain⟨LI⟩:Nonempty (So.Df _ mg "chain_told" So.OU ["entries"]):=by and_intros
  obtain⟨LJ⟩:Nonempty (So.Df _ mg "point_told" So.OV ["guests"]):=by and_intros
  obtain⟨MY⟩:Nonempty (So.Df _ mg "door_told" So.QA ["callers"]):=by and_intros
  obtain⟨KH⟩:Nonempty (So.Df _ mg "with_length" So.M6 ["numbers"]):=by and_intros
  obtain⟨LK⟩:Nonempty (So.Df _ mg "parts_told" So.OW ["tellings"]):=by and_intros
  obtain⟨IZ⟩:Nonempty (So.Df _ mg "switches_told" So.Kr ["rooms"]):=by and_intros
  obtain⟨OB⟩:Nonempty (So.Df _ mg "all_told" So.Se ["rooms"]):=by and_intros
  obtain⟨OC⟩:Nonempty (So.Df _ mg "how_many" So.Sf ["places"]):=by and_intros
  obtain⟨KI⟩:Nonempty (So.Df _ mg "counts_told" So.M7 ["rooms"]):=by and_intros
  obtain⟨LL⟩:Nonempty (So.Df _ mg "count_held" So.OX ["rooms","c","cond","key"]):=by and_intros
  obtain⟨OD⟩:Nonempty (So.Df _ mg "disorder" So.Sg ["rooms","c"]):=by and_intros
  obtain⟨iu⟩:Nonempty (So.Df _ mg "kth" So.oV ["rooms","c","k"]):=by and_intros
  obtain⟨aZ⟩:Nonempty (So.Df _ mg "rank" So.iL ["rooms","x"]):=by and_intros
  obtain⟨Gb⟩:Nonempty (So.Df _ mg "do_put" So.YM ["rooms","numbers"]):=by and_intros
  obtain⟨Gd⟩:Nonempty (So.Df _ mg "do_set" So.YN ["rooms","numbers"]):=by and_intros
  obtain⟨Ec⟩:Nonempty (So.Df _ mg "do_watch" So.Sh ["rooms","numbers"]):=by and_intros
  obtain⟨FW⟩:Nonempty (So.Df _ mg "do_link" So.Vx ["rooms","numbers"]):=by and_intros
  obtain⟨Dz⟩:Nonempty (So.Df _ mg "do_unlink" So.QB ["rooms","numbers"]):=by and_intros
  obtain⟨FY⟩:Nonempty (So.Df _ mg "do_move" So.Vy ["rooms","numbers"]):=by and_intros
  obtain⟨FZ⟩:Nonempty (So.Df _ mg "do_sort" So.Vz ["rooms","numbers"]):=by and_intros
  obtain⟨D0⟩:Nonempty (So.Df _ mg "do_rotate" So.QC ["rooms","numbers"]):=by and_intros
  obtain⟨DY⟩:Nonempty (So.Df _ mg "do_reverse" So.OY ["rooms","numbers"]):=by and_intros
  obtain⟨Ed⟩:Nonempty (So.Df _ mg "do_merge" So.Si ["rooms","numbers"]):=by and_intros
  obtain⟨Ge⟩:Nonempty (So.Df _ mg "do_cut" So.YO ["rooms","numbers"]):=by and_intros
  obtain⟨D3⟩:Nonempty (So.Df _ mg "do_arrive" So.QD ["rooms","numbers"]):=by and_intros
  obtain⟨C5⟩:Nonempty (So.Df _ mg "do_dissolve" So.M8 ["rooms","numbers"]):=by and_intros
  obtain⟨Fc⟩:Nonempty (So.Df _ mg "do_pair" So.V0 ["rooms","numbers"]):=by and_intros
  obtain⟨Ef⟩:Nonempty (So.Df _ mg "do_leave" So.Sj ["rooms","numbers"]):=by and_intros
  obtain⟨C7⟩:Nonempty (So.Df _ mg "do_switches" So.M9 ["rooms","numbers"]):=by and_intros
  obtain⟨Eg⟩:Nonempty (So.Df _ mg "do_chain" So.Sk ["rooms","numbers"]):=by and_intros
  obtain⟨Eh⟩:Nonempty (So.Df _ mg "do_point" So.Sl ["rooms","numbers"]):=by and_intros
  obtain⟨Fd⟩:Nonempty (So.Df _ mg "do_door" So.V1 ["rooms","numbers"]):=by and_intros
  obtain⟨Ei⟩:Nonempty (So.Df _ mg "do_place" So.Sm ["rooms","numbers"]):=by and_intros
  obtain⟨Ej⟩:Nonempty (So.Df _ mg "do_count" So.Sn ["rooms","numbers"]):=by and_intros
  obtain⟨Fe⟩:Nonempty (So.Df _ mg "do_told" So.V2 ["rooms","numbers"]):=by and_intros
  obtain⟨Ek⟩:Nonempty (So.Df _ mg "do_clear" So.Sq ["rooms","numbers"]):=by and_intros
  obtain⟨El⟩:Nonempty (So.Df _ mg "do_could" So.Ss ["rooms","numbers"]):=by and_intros
  obtain⟨C9⟩:Nonempty (So.Df _ mg "do_disorder" So.M_ ["rooms","numbers"]):=by and_intros
  obtain⟨D5⟩:Nonempty (So.Df _ mg "do_counts" So.QE ["rooms","numbers"]):=by and_intros
  obtain⟨Gf⟩:Nonempty (So.Df _ mg "do_kth" So.YQ ["rooms","numbers"]):=by and_intros
  obtain⟨Ff⟩:Nonempty (So.Df _ mg "do_rank" So.V3 ["rooms","numbers"]):=by and_intros
  obtain⟨Uj⟩:Nonempty (So.Df _ mg "answer" So.YR ["rooms","place","numbers","lists"]):=by and_intros
  obtain⟨LM⟩:Nonempty (So.Df _ mg "lists_from" So.OZ ["calls","at","many"]):=by and_intros
  obtain⟨HW,b_answers⟩:∃d:So.Df _ mg "answers" So.V4 ["calls"],∀(s:Shared)(us:List Value),us.length=(["calls"]:List Str).length->BindsTo s d.fd ⟨us,[]⟩ ((["calls"]:List Str).zip us):=by(refine' So.xA KX G ?a ?l ?c ?k (λ_ _ _ _ _ _ _ hl=>So.vU hl λ_=>rfl);(case a=>k_is);(case l=>k_is);(case c=>k_is);(case k=>k_is))
  obtain⟨GG,OE,MZ,Dm⟩:∃C f fd,So.Kl _ mg "Watcher" "Watcher.__init__" So.Ln ["self","who","mask","value"] ["who","mask","value"] C f fd:=by ac_rfl
  obtain⟨JA,Uk,Ql,GH⟩:∃C f fd,So.Kl _ mg "Entry" "Entry.__init__" So.Oa ["self","who","key"] ["who","key"] C f fd:=by ac_rfl
  obtain⟨JB,Ul,Qm,ES⟩:∃C f fd,So.Kl _ mg "Guest" "Guest.__init__" So.Oc ["self","who","key","need"] ["who","key","need"] C f fd:=by ac_rfl
  obtain⟨Gg,Qn,OF,DE⟩:∃C f fd,So.Kl _ mg "Caller" "Caller.__init__" So.NB ["self","who","key","side"] ["who","key","side"] C f fd:=by ac_rfl
  obtain⟨Bw,Um,Qo,BG⟩:∃C f fd,So.Kl _ mg "Rooms" "Rooms.__init__" So.Od ["self"] ["word","watchers","chains","points","doors"] C f fd:=by ac_rfl
  obtain⟨B0,af,Xj,Ck⟩:∃C f fd,So.Kl _ mg "Key" "Key.__init__" So.Su ["self","top","bottom"] ["top","bottom","worth"] C f fd:=by ac_rfl
  obtain⟨F9,Gx,Gy,Gz,G0,G1,G2,G3,G4,G5,G6,Fz,F0,F3,F4,F5,Uo,eS,Dq,Sx,Sy,Sz,S0,S8,S9,S_,TF,TH,TJ,QF,QG,QH,QI,QJ⟩:∃F9 Gx Gy Gz G0 G1 G2 G3 G4 G5 G6 Fz F0 F3 F4 F5,mg "RANGES"=some (.ref F9)/\(F9==sysModules)=false/\L2.II w _ F9 [(.inr "word",.ref Gx),(.inr "switch",.ref Gy),(.inr "how",.ref Gz),(.inr "number",.ref G0),(.inr "who",.ref G1),(.inr "order",.ref G2),(.inr "cond",.ref G3),(.inr "flag",.ref G4),(.inr "many",.ref G5),(.inr "kept",.ref G6),(.inr "before",.ref Fz),(.inr "need",.ref F0),(.inr "turns",.ref F3),(.inr "top",.ref F4),(.inr "bottom",.ref F5)]/\So.CU KX Gx [.int (0),.int (576460752303423487)]/\So.CU KX Gy [.int (0),.int (58)]/\So.CU KX Gz [.int (0),.int (2)]/\So.CU KX G0 [.int (0),.int (63)]/\So.CU KX G1 [.int (1),.int (1000000000)]/\So.CU KX G2 [.int (0),.int (5)]/\So.CU KX G3 [.int (0),.int (6)]/\So.CU KX G4 [.int (0),.int (1)]/\So.CU KX G5 [.int (1),.int (1000)]/\So.CU KX G6 [.int (0),.int (1000)]/\So.CU KX Fz [.int (0),.int (999)]/\So.CU KX F0 [.int (2),.int (1000)]/\So.CU KX F3 [.int (0),.int (1000000000)]/\So.CU KX F4 [.int (-1000000000000000000),.int (1000000000000000000)]/\So.CU KX F5 [.int (1),.int (1000000000000000000)]:=by
   have kd:=λ{a:Addr}{es:Array DictEntry}{ep:Nat}{kvs:List (L2.Key×L2.V)}=>So.Pa (w:=w) KX G (x:="RANGES") (a:=a) (es:=es) (ep:=ep) (kvs:=kvs);refine'⟨_,_,_,_,_,_,_,_,_,_,_,_,_,_,_,_,(kd ?n ?l ?d ?nd).1,?lo,(kd ?n ?l ?d ?nd).2,?q0,?q1,?q2,?q3,?q4,?q5,?q6,?q7,?q8,?q9,?q10,?q11,?q12,?q13,?q14⟩
   (case n=>k_is);(case l=>k_is);(case lo=>rfl)
   (case d=>(refine'(.cons U rfl rfl (.cons U rfl rfl (.cons U rfl rfl (.cons U rfl rfl (.cons U rfl rfl (.cons U rfl rfl (.cons U rfl rfl (.cons U rfl rfl (.cons U rfl rfl (.cons U rfl rfl (.cons U rfl rfl (.cons U rfl rfl (.cons U rfl rfl (.cons U rfl rfl (.cons U rfl rfl .nil)))))))))))))))))
   (case nd=>exact(show([.inr "word",.inr "switch",.inr "how",.inr "number",.inr "who",.inr "order",.inr "cond",.inr "flag",.inr "many",.inr "kept",.inr "before",.inr "need",.inr "turns",.inr "top",.inr "bottom"]:List L2.Key).Nodup by decide +kernel))
   (case q0=>bv_omega)
   (case q1=>bv_omega)
   (case q2=>bv_omega)
   (case q3=>bv_omega)
   (case q4=>bv_omega)
   (case q5=>bv_omega)
   (case q6=>bv_omega)
   (case q7=>bv_omega)
   (case q8=>bv_omega)
   (case q9=>bv_omega)
   (case q10=>bv_omega)
   (case q11=>bv_omega)
   (case q12=>bv_omega)
   (case q13=>bv_omega)
   (case q14=>bv_omega)
  obtain⟨ID,Ia,Ib,Ic,Ie,Ig,Ih,Ii,Ij,Ik,Il,G7,G8,G9,G_,HA,HB,HC,HD,HE,HF,HG,HH,HJ,HK,HL,HM,HN,HP,HQ,Xk,kU,CQ,V6,V7,V8,V9,V_,WA,WB,WC,WD,WE,TM,TN,TQ,TR,TU,TV,TX,TY,TZ,Tc,Td,Te,Tf,Tg,Th,Ti,Tj,Tn,To⟩:∃ID Ia Ib Ic Ie Ig Ih Ii Ij Ik Il G7 G8 G9 G_ HA HB HC HD HE HF HG HH HJ HK HL HM HN HP HQ,mg "FORMS"=some (.ref ID)/\(ID==sysModules)=false/\L2.II w _ ID [(.inl 0,.ref Ia),(.inl 1,.ref Ib),(.inl 2,.ref Ic),(.inl 3,.ref Ie),(.inl 4,.ref Ig),(.inl 5,.ref Ih),(.inl 6,.ref Ii),(.inl 7,.ref Ij),(.inl 8,.ref Ik),(.inl 9,.ref Il),(.inl 10,.ref G7),(.inl 11,.ref G8),(.inl 12,.ref G9),(.inl 13,.ref G_),(.inl 14,.ref HA),(.inl 15,.ref HB),(.inl 16,.ref HC),(.inl 17,.ref HD),(.inl 18,.ref HE),(.inl 19,.ref HF),(.inl 20,.ref HG),(.inl 21,.ref HH),(.inl 22,.ref HJ),(.inl 23,.ref HK),(.inl 24,.ref HL),(.inl 25,.ref HM),(.inl 26,.ref HN),(.inl 27,.ref HP),(.inl 28,.ref HQ)]/\So.CU KX Ia [.str "word"]/\So.CU KX Ib [.str "switch",.str "how"]/\So.CU KX Ic [.str "who",.str "word",.str "word"]/\So.CU KX Ie [.str "number",.str "who",.str "order",.str "top",.str "bottom"]/\So.CU KX Ig [.str "number",.str "flag",.str "many",.str "cond",.str "top",.str "bottom"]/\So.CU KX Ih [.str "number",.str "number",.str "flag",.str "many",.str "cond",.str "top",.str "bottom",.str "order"]/\So.CU KX Ii [.str "number",.str "flag"]/\So.CU KX Ij [.str "number",.str "turns"]/\So.CU KX Ik [.str "number"]/\So.CU KX Il [.str "number",.str "number"]/\So.CU KX G7 [.str "number",.str "number",.str "kept"]/\So.CU KX G8 [.str "number",.str "who",.str "many",.str "top",.str "bottom"]/\So.CU KX G9 [.str "number",.str "top",.str "bottom"]/\So.CU KX G_ [.str "number",.str "who",.str "flag",.str "top",.str "bottom"]/\So.CU KX HA [.str "who"]/\So.CU KX HB []/\So.CU KX HC [.str "number"]/\So.CU KX HD [.str "number"]/\So.CU KX HE [.str "number"]/\So.CU KX HF [.str "who"]/\So.CU KX HG [.str "number",.str "cond",.str "top",.str "bottom"]/\So.CU KX HH []/\So.CU KX HJ [.str "word"]/\So.CU KX HK []/\So.CU KX HL [.str "word"]/\So.CU KX HM [.str "number"]/\So.CU KX HN []/\So.CU KX HP [.str "number",.str "before"]/\So.CU KX HQ [.str "who"]:=by
   have kd:=λ{a:Addr}{es:Array DictEntry}{ep:Nat}{kvs:List (L2.Key×L2.V)}=>So.Pa (w:=w) KX G (x:="FORMS") (a:=a) (es:=es) (ep:=ep) (kvs:=kvs);refine'⟨_,_,_,_,_,_,_,_,_,_,_,_,_,_,_,_,_,_,_,_,_,_,_,_,_,_,_,_,_,_,(kd ?n ?l ?d ?nd).1,?lo,(kd ?n ?l ?d ?nd).2,?q0,?q1,?q2,?q3,?q4,?q5,?q6,?q7,?q8,?q9,?q10,?q11,?q12,?q13,?q14,?q15,?q16,?q17,?q18,?q19,?q20,?q21,?q22,?q23,?q24,?q25,?q26,?q27,?q28⟩
   (case n=>k_is);(case l=>k_is);(case lo=>rfl)
   (case d=>(refine'(.cons U rfl rfl (.cons U rfl rfl (.cons U rfl rfl (.cons U rfl rfl (.cons U rfl rfl (.cons U rfl rfl (.cons U rfl rfl (.cons U rfl rfl (.cons U rfl rfl (.cons U rfl rfl (.cons U rfl rfl (.cons U rfl rfl (.cons U rfl rfl (.cons U rfl rfl (.cons U rfl rfl (.cons U rfl rfl (.cons U rfl rfl (.cons U rfl rfl (.cons U rfl rfl (.cons U rfl rfl (.cons U rfl rfl (.cons U rfl rfl (.cons U rfl rfl (.cons U rfl rfl (.cons U rfl rfl (.cons U rfl rfl (.cons U rfl rfl (.cons U rfl rfl (.cons U rfl rfl .nil)))))))))))))))))))))))))))))))
   (case nd=>exact(show([.inl 0,.inl 1,.inl 2,.inl 3,.inl 4,.inl 5,.inl 6,.inl 7,.inl 8,.inl 9,.inl 10,.inl 11,.inl 12,.inl 13,.inl 14,.inl 15,.inl 16,.inl 17,.inl 18,.inl 19,.inl 20,.inl 21,.inl 22,.inl 23,.inl 24,.inl 25,.inl 26,.inl 27,.inl 28]:List L2.Key).Nodup by decide +kernel))
   (case q0=>bv_omega)
   (case q1=>bv_omega)
   (case q2=>bv_omega)
   (case q3=>bv_omega)
   (case q4=>bv_omega)
   (case q5=>bv_omega)
   (case q6=>bv_omega)
   (case q7=>bv_omega)
   (case q8=>bv_omega)
   (case q9=>bv_omega)
   (case q10=>bv_omega)
   (case q11=>bv_omega)
   (case q12=>bv_omega)
   (case q13=>bv_omega)
   (case q14=>bv_omega)
   (case q15=>bv_omega)
   (case q16=>bv_omega)
   (case q17=>bv_omega)
   (case q18=>bv_omega)
   (case q19=>bv_omega)
   (case q20=>bv_omega)
   (case q21=>bv_omega)
   (case q22=>bv_omega)
   (case q23=>bv_omega)
   (case q24=>bv_omega)
   (case q25=>bv_omega)
   (case q26=>bv_omega)
   (case q27=>bv_omega)
   (case q28=>bv_omega)
  obtain⟨Jf,b7,b8,b9⟩:∃Jf,mg "LISTS"=some (.ref Jf)/\(Jf==sysModules)=false/\L2.II w _ Jf [(.inl 22,.int 4)]:=by
   have kd:=λ{a:Addr}{es:Array DictEntry}{ep:Nat}{kvs:List (L2.Key×L2.V)}=>So.Pa (w:=w) KX G (x:="LISTS") (a:=a) (es:=es) (ep:=ep) (kvs:=kvs);refine'⟨_,(kd ?n ?l ?d ?nd).1,?lo,(kd ?n ?l ?d ?nd).2⟩
   (case n=>k_is);(case l=>k_is);(case lo=>rfl)
   (case d=>(refine'(.cons U rfl ⟨_,U⟩ .nil)))
   (case nd=>exact(show([.inl 22]:List L2.Key).Nodup by decide +kernel))
  obtain⟨Jp,Jq,Jr,Js,Jt,Ju,ah,pP,RP,YT,YU,YV,YW,YX⟩:∃Jp Jq Jr Js Jt Ju,mg "ROWS"=some (.ref Jp)/\(Jp==sysModules)=false/\L2.II w _ Jp [(.inr "watcher",.ref Jq),(.inr "entry",.ref Jr),(.inr "guest",.ref Js),(.inr "caller",.ref Jt),(.inr "part",.ref Ju)]/\So.CU KX Jq [.str "who",.str "word",.str "word"]/\So.CU KX Jr [.str "who",.str "top",.str "bottom"]/\So.CU KX Js [.str "who",.str "top",.str "bottom",.str "need"]/\So.CU KX Jt [.str "who",.str "top",.str "bottom",.str "flag"]/\So.CU KX Ju [.str "number",.str "many"]:=by
   have kd:=λ{a:Addr}{es:Array DictEntry}{ep:Nat}{kvs:List (L2.Key×L2.V)}=>So.Pa (w:=w) KX G (x:="ROWS") (a:=a) (es:=es) (ep:=ep) (kvs:=kvs);refine'⟨_,_,_,_,_,_,(kd ?n ?l ?d ?nd).1,?lo,(kd ?n ?l ?d ?nd).2,?q0,?q1,?q2,?q3,?q4⟩
   (case n=>k_is);(case l=>k_is);(case lo=>rfl)
   (case d=>(refine'(.cons U rfl rfl (.cons U rfl rfl (.cons U rfl rfl (.cons U rfl rfl (.cons U rfl rfl .nil)))))))
   (case nd=>exact(show([.inr "watcher",.inr "entry",.inr "guest",.inr "caller",.inr "part"]:List L2.Key).Nodup by decide +kernel))
   (case q0=>bv_omega)
   (case q1=>bv_omega)
   (case q2=>bv_omega)
   (case q3=>bv_omega)
   (case q4=>bv_omega)
  obtain⟨JC,b_,kW,CY⟩:∃JC,mg "DOERS"=some (.ref JC)/\(JC==sysModules)=false/\L2.II w _ JC [(.inl 0,.ref Gb.f),(.inl 1,.ref Gd.f),(.inl 2,.ref Ec.f),(.inl 3,.ref FW.f),(.inl 4,.ref Dz.f),(.inl 5,.ref FY.f),(.inl 6,.ref FZ.f),(.inl 7,.ref D0.f),(.inl 8,.ref DY.f),(.inl 9,.ref Ed.f),(.inl 10,.ref Ge.f),(.inl 11,.ref D3.f),(.inl 12,.ref C5.f),(.inl 13,.ref Fc.f),(.inl 14,.ref Ef.f),(.inl 15,.ref C7.f),(.inl 16,.ref Eg.f),(.inl 17,.ref Eh.f),(.inl 18,.ref Fd.f),(.inl 19,.ref Ei.f),(.inl 20,.ref Ej.f),(.inl 21,.ref Fe.f),(.inl 23,.ref Ek.f),(.inl 24,.ref El.f),(.inl 25,.ref C9.f),(.inl 26,.ref D5.f),(.inl 27,.ref Gf.f),(.inl 28,.ref Ff.f)]:=by
   have kd:=λ{a:Addr}{es:Array DictEntry}{ep:Nat}{kvs:List (L2.Key×L2.V)}=>So.Pa (w:=w) KX G (x:="DOERS") (a:=a) (es:=es) (ep:=ep) (kvs:=kvs);refine'⟨_,(kd ?n ?l ?d ?nd).1,?lo,(kd ?n ?l ?d ?nd).2⟩
   (case n=>k_is);(case l=>k_is);(case lo=>rfl)
   (case d=>(refine'(.cons U rfl (So.DP KX G Gb.mg (by k_is)) (.cons U rfl (So.DP KX G Gd.mg (by k_is)) (.cons U rfl (So.DP KX G Ec.mg (by k_is)) (.cons U rfl (So.DP KX G FW.mg (by k_is)) (.cons U rfl (So.DP KX G Dz.mg (by k_is)) (.cons U rfl (So.DP KX G FY.mg (by k_is)) (.cons U rfl (So.DP KX G FZ.mg (by k_is)) (.cons U rfl (So.DP KX G D0.mg (by k_is)) (.cons U rfl (So.DP KX G DY.mg (by k_is)) (.cons U rfl (So.DP KX G Ed.mg (by k_is)) (.cons U rfl (So.DP KX G Ge.mg (by k_is)) (.cons U rfl (So.DP KX G D3.mg (by k_is)) (.cons U rfl (So.DP KX G C5.mg (by k_is)) (.cons U rfl (So.DP KX G Fc.mg (by k_is)) (.cons U rfl (So.DP KX G Ef.mg (by k_is)) (.cons U rfl (So.DP KX G C7.mg (by k_is)) (.cons U rfl (So.DP KX G Eg.mg (by k_is)) (.cons U rfl (So.DP KX G Eh.mg (by k_is)) (.cons U rfl (So.DP KX G Fd.mg (by k_is)) (.cons U rfl (So.DP KX G Ei.mg (by k_is)) (.cons U rfl (So.DP KX G Ej.mg (by k_is)) (.cons U rfl (So.DP KX G Fe.mg (by k_is)) (.cons U rfl (So.DP KX G Ek.mg (by k_is)) (.cons U rfl (So.DP KX G El.mg (by k_is)) (.cons U rfl (So.DP KX G C9.mg (by k_is)) (.cons U rfl (So.DP KX G D5.mg (by k_is)) (.cons U rfl (So.DP KX G Gf.mg (by k_is)) (.cons U rfl (So.DP KX G Ff.mg (by k_is)) .nil))))))))))))))))))))))))))))))
   (case nd=>exact(show([.inl 0,.inl 1,.inl 2,.inl 3,.inl 4,.inl 5,.inl 6,.inl 7,.inl 8,.inl 9,.inl 10,.inl 11,.inl 12,.inl 13,.inl 14,.inl 15,.inl 16,.inl 17,.inl 18,.inl 19,.inl 20,.inl 21,.inl 23,.inl 24,.inl 25,.inl 26,.inl 27,.inl 28]:List L2.Key).Nodup by decide +kernel))
  obtain⟨T,hT⟩:∃T:So.All w _ mg,T.HW=HW:=⟨⟨Lp,Lq,NC,IM,Ks,E9,Ku,GN,V5,HV,Sv,Sw,ND,J8,iM,L_,YS,PZ,bx,bz,oW,KQ,Cd,U6,oX,MA,Lh,oY,Ua,ie,oZ,NV,N6,Xd,Qj,N7,Xe,J9,Gw,Xf,Hr,Ub,Gj,GB,Gk,J_,aV,Uc,aW,Ud,LB,Ue,IV,Ug,Xg,ig,N8,aX,GC,Hs,LC,MW,IW,JQ,Ht,Uh,MX,Xh,ir,LD,LF,Xi,Qk,N9,Hu,GD,GF,Fj,KA,KC,IX,KD,KG,LG,aY,N_,OA,Ui,IY,LH,LI,LJ,MY,KH,LK,IZ,OB,OC,KI,LL,OD,iu,aZ,Gb,Gd,Ec,FW,Dz,FY,FZ,D0,DY,Ed,Ge,D3,C5,Fc,Ef,C7,Eg,Eh,Fd,Ei,Ej,Fe,Ek,El,C9,D5,Gf,Ff,Uj,LM,HW,GG,OE,MZ,Dm,JA,Uk,Ql,GH,JB,Ul,Qm,ES,Gg,Qn,OF,DE,Bw,Um,Qo,BG,B0,af,Xj,Ck,F9,Uo,Gx,Gy,Gz,G0,G1,G2,G3,G4,G5,G6,Fz,F0,F3,F4,F5,eS,Dq,Sx,Sy,Sz,S0,S8,S9,S_,TF,TH,TJ,QF,QG,QH,QI,QJ,ID,Xk,Ia,Ib,Ic,Ie,Ig,Ih,Ii,Ij,Ik,Il,G7,G8,G9,G_,HA,HB,HC,HD,HE,HF,HG,HH,HJ,HK,HL,HM,HN,HP,HQ,kU,CQ,V6,V7,V8,V9,V_,WA,WB,WC,WD,WE,TM,TN,TQ,TR,TU,TV,TX,TY,TZ,Tc,Td,Te,Tf,Tg,Th,Ti,Tj,Tn,To,Jf,b7,b8,b9,Jp,ah,Jq,Jr,Js,Jt,Ju,pP,RP,YT,YU,YV,YW,YX,JC,b_,kW,CY⟩,U⟩;obtain rfl:T.HW.f=fa:=by
   have e:=T.HW.mg.symm.trans hmg;injection e with e;injection e
  rw[<-hT]at b_answers;exact⟨T.HW.fd,b_answers,λbase _ _=>So.jq T⟩
 case S=>
  intro K H xs a hO hwi hask hx;cases hx with
  |cons h1 h2=>
   cases h2;cases h1 with
   |lst hs ha=>
    have e:=L2.kQ a.1 _ ha;subst e;exact⟨_,a.1,U,hs,hask,λH' p hp=>.lst (L2.A1.of hp) (L2.kP _)⟩
