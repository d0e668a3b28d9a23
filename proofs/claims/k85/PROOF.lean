import PyProof.Rows.All
import Wide.All
import OpenK.AllK
import Wide.FinOn
import Lean
import PyProof.EqAt
import PyProof.EqKinds
import PyProof.TupleCall
import PySem.Challenge.RW_fewchecks_k85_numbers_taken_back
set_option compiler.extract_closed false
theorem PySem.W.Fast.tw2671268034457370497 : True := trivial
theorem PySem.W.Fast.tw7374615151727713420 : True := trivial
theorem PySem.W.Fast.tw3158052814880334624 : True := trivial
theorem PySem.W.Fast.tw3761850887684086994 : True := trivial
theorem PySem.W.Fast.tw17428451333746401363 : True := trivial
theorem PySem.W.Fast.tw7287971385981329673 : True := trivial
theorem PySem.W.Fast.tw9791985021856171702 : True := trivial
theorem PySem.W.Fast.tw7450767098929096744 : True := trivial
theorem PySem.W.Fast.tw10978306979507554875 : True := trivial
theorem PySem.W.Fast.tw16030565561703193405 : True := trivial
theorem PySem.W.Fast.tw12120397566527899404 : True := trivial
theorem PySem.W.Fast.tw12563535267309740331 : True := trivial
theorem PySem.W.Fast.tw15853492099879670856 : True := trivial
theorem PySem.W.Fast.tw10113337733127331556 : True := trivial
theorem PySem.W.Fast.tw9454558341493534711 : True := trivial
theorem PySem.W.Fast.tw13682916193932159671 : True := trivial
theorem PySem.W.Fast.tw13654695354164320421 : True := trivial
theorem PySem.W.Fast.tw14840499495313990424 : True := trivial
theorem PySem.W.Fast.tw18126625797716164348 : True := trivial
theorem PySem.W.Fast.tw1924140031255211806 : True := trivial
theorem PySem.W.Fast.tw10435178303505282823 : True := trivial
theorem PySem.W.Fast.tw12373964813214849436 : True := trivial
theorem PySem.W.Fast.tw16732967528499822763 : True := trivial
theorem PySem.W.Fast.tw12845229890953414207 : True := trivial
theorem PySem.W.Fast.tw8517405043747003005 : True := trivial
theorem PySem.W.Fast.tw409147380878953292 : True := trivial
local macro_rules | `(tactic| walk_at "o") => `(tactic| first | lia | omega)
set_option Elab.async false
set_option linter.all false
set_option maxRecDepth 100000
noncomputable def ay:= @List.length_map
noncomputable def az:= @List.mem_singleton
noncomputable def aA:= @List.mem_cons
noncomputable def aE:= @Nat.le_refl
noncomputable def bh:= @List.getElem?_eq_some_iff
noncomputable def bA:= @List.getElem?_set_ne
noncomputable def bw:= @List.length_cons
noncomputable def bx:= @List.map_cons
noncomputable def bC:= @PySem.Heap.lt_size
noncomputable def bE:= @List.getElem?_eq_getElem
noncomputable def bJ:= @List.mem_cons_of_mem
noncomputable def bH:= @Bool.false_ne_true
noncomputable def bG:= @List.lookup_cons
noncomputable def bT:= @List.mem_cons_self
noncomputable def cy:= @List.getElem?_set_self
noncomputable def cz:= @PySem.Heap.get?_push_of_some
noncomputable def cJ:= @List.not_mem_nil
noncomputable def cH:= @PySem.W.mg_of
noncomputable def cR:= @Ne.symm
noncomputable def cN:= @List.size_toArray
noncomputable def cX:= @Nat.ne_of_lt
noncomputable def cV:= @Array.length_toList
noncomputable def dj:= @List.getElem?_replicate
noncomputable def dM:= @Nat.lt_of_lt_of_le
noncomputable def dw:= @Nat.le_trans
noncomputable def dz:= @List.getElem?_append_left
noncomputable def dG:= @List.getElem?_map
noncomputable def dP:= @List.getElem?_append_right
noncomputable def dN:= @Bool.and_eq_true
noncomputable def eU:= @Nat.zero_le
noncomputable def fc:= @Array.size_extract
noncomputable def eX:= @List.append_assoc
noncomputable def fu:= @List.length_append
noncomputable def fS:= @PySem.Heap.get?_push_size
noncomputable def fW:= @List.nodup_cons
noncomputable def fQ:= @List.mem_map
noncomputable def gm:= @List.append_nil
noncomputable def gp:= @List.length_set
noncomputable def gk:= @PyProof.Rows.boot_isinstance
noncomputable def g7:= @Option.some_ne_none
noncomputable def iB:= @Array.toList_append
noncomputable def iM:= @Option.some.inj
noncomputable def iQ:= @List.mem_of_getElem?
noncomputable def iV:= @Nat.le_succ
noncomputable def i8:= @List.getElem?_cons_succ
noncomputable def i9:= @PySem.W.mg_none_of
noncomputable def jc:= @List.mem_append
noncomputable def jn:= @PySem.W.kia_one
noncomputable def jk:= @List.cons_append
noncomputable def jj:= @Array.getElem?_toList
noncomputable def jm:= @List.getElem?_of_mem
noncomputable def jY:= @List.mem_append_right
noncomputable def jT:= @Classical.byContradiction
noncomputable def kq:= @List.filterMap_cons
noncomputable def ki:= @Array.toList_push
noncomputable def j9:= @Nat.le_of_ble_eq_true
noncomputable def k9:= @List.mem_filter
noncomputable def lB:= @List.length_take
noncomputable def k7:= @PySem.Heap.get?_update_other
noncomputable def kX:= @Array.getElem?_eq_getElem
noncomputable def lG:= @List.Perm.append_left
noncomputable def kZ:= @Bool.false_eq_true
noncomputable def kJ:= @List.take_append_drop
noncomputable def lQ:= @Nat.lt_irrefl
noncomputable def mh:= @Nat.le_of_lt
noncomputable def mQ:= @PySem.Heap.size_push
noncomputable def mq:= @List.any_cons
noncomputable def lV:= @List.length_singleton
noncomputable def mj:= @List.perm_append_comm
noncomputable def mL:= @List.map_map
noncomputable def l8:= @Nat.mul_mod
noncomputable def mJ:= @List.map_append
noncomputable def nQ:= @Bool.eq_iff_iff
noncomputable def mY:= @Nat.le_of_eq
noncomputable def ny:= @List.all_cons
noncomputable def nc:= @List.set_set
noncomputable def nk:= @List.getElem_mem
noncomputable def nj:= @PySem.F.called_set
noncomputable def m5:= @Array.size_append
noncomputable def nL:= @List.find?_cons
noncomputable def nD:= @PySem.boot_len
noncomputable def nE:= @PyProof.Rows.boot_list
noncomputable def pK:= @PySem.W.hideAll_none
noncomputable def o7:= @Nat.lt_succ_self
noncomputable def pG:= @PySem.mem_of_lookup
noncomputable def oH:= @Bool.or_false
noncomputable def ow:= @Option.map_eq_some_iff
noncomputable def nZ:= @Bool.false_or
noncomputable def oW:= @List.ext_getElem?
noncomputable def oB:= @Nat.lt_succ_of_lt
noncomputable def pH:= @List.length_eq_zero_iff
noncomputable def pe:= @List.getD_eq_getElem?_getD
noncomputable def oY:= @List.pairwise_cons
noncomputable def o5:= @PySem.W.kia_tup
noncomputable def pW:= @Int.emod_nonneg
noncomputable def pB:= @Int.emod_lt_of_pos
noncomputable def rG:= @Nat.lt_of_le_of_lt
noncomputable def rC:= @List.all_eq_true
noncomputable def rO:= @List.getElem?_eq_none
noncomputable def p7:= @List.flatMap_cons
noncomputable def ug:= @List.mem_append_left
noncomputable def u0:= @List.mem_filterMap
noncomputable def tS:= @Array.mem_toList_iff
noncomputable def vn:= @PySem.W.callWith_K
noncomputable def t7:= @Nat.lt_trans
noncomputable def uZ:= @Array.getElem?_eq_some_iff
noncomputable def t9:= @Array.size_push
noncomputable def uU:= @PySem.Around.under_plainId
noncomputable def sW:= @Bool.not_true
noncomputable def sX:= @List.drop_eq_getElem_cons
noncomputable def ux:= @Nat.add_zero
noncomputable def uE:= @Bool.or_true
noncomputable def u7:= @Nat.mul_assoc
noncomputable def uY:= @List.filter_cons
noncomputable def tK:= @List.mem_flatMap
noncomputable def uF:= @Option.isNone_iff_eq_none
noncomputable def uP:= @Bool.eq_false_iff
noncomputable def v7:= @PySem.Value.isInt_shape
noncomputable def yZ:= @List.mem_range
noncomputable def Ak:= @Nat.ne_of_gt
noncomputable def Al:= @PySem.W.looks_findIn
noncomputable def yz:= @PySem.W.methodCall_KW
noncomputable def yk:= @PySem.W.kitx_dict
noncomputable def yg:= @PySem.Heap.get?_update_self
noncomputable def vX:= @List.map_nil
noncomputable def xX:= @PySem.SeqAt.canLay_of_shaped
noncomputable def wY:= @List.filterMap_cons_some
noncomputable def xZ:= @Nat.succ.inj
noncomputable def z5:= @Nat.mod_lt
noncomputable def xg:= @List.any_eq_true
noncomputable def zE:= @List.map_congr_left
noncomputable def xu:= @Array.size_reverse
noncomputable def xR:= @Int.mul_assoc
noncomputable def yT:= @Nat.pow_add
noncomputable def ye:= @Nat.mul_comm
noncomputable def vR:= @List.length_filter_le
noncomputable def yI:= @Int.lt_irrefl
noncomputable def vB:= @List.filterMap_append
noncomputable def wR:= @Int.le_refl
noncomputable def Ae:= @PySem.PassesOwn.never
noncomputable def wC:= @PySem.F.plainAttrs_list
noncomputable def DI:= @Sum.inl.inj
noncomputable def EZ:= @PySem.W.hideAll_get
noncomputable def A5:= @PySem.Heap.get?_none_of_le
noncomputable def EG:= @PyProof.Rows.callWith_type1
noncomputable def Eh:= @PySem.W.plainGet_of
noncomputable def Cm:= @PySem.W.kitx_list
noncomputable def BB:= @List.of_mem_zip
noncomputable def BE:= @Option.isSome_iff_exists
noncomputable def Em:= @List.length_drop
noncomputable def BD:= @Nat.le_of_not_lt
noncomputable def E5:= @Array.getD_eq_getD_getElem?
noncomputable def D0:= @Array.getElem?_push
noncomputable def DJ:= @Array.getElem?_eq_none
noncomputable def Cg:= @Nat.lt_or_eq_of_le
noncomputable def D4:= @List.pairwise_iff_getElem
noncomputable def Bf:= @PyProof.Rows.F.plain_set_update_loop
noncomputable def Bp:= @List.length_eraseIdx_of_lt
noncomputable def A7:= @List.range_succ_eq_map
noncomputable def D9:= @List.length_nil
noncomputable def EO:= @Nat.lt_of_lt_of_eq
noncomputable def EB:= @List.nodup_append
noncomputable def Dk:= @List.Perm.refl
noncomputable def Dh:= @Nat.min_eq_left
noncomputable def Ek:= @List.Perm.append_right
noncomputable def CM:= @List.drop_of_length_le
noncomputable def Be:= @Array.toList_reverse
noncomputable def E1:= @List.reverse_perm
noncomputable def Ep:= @List.drop_zero
noncomputable def AZ:= @Array.mem_of_getElem?
noncomputable def C9:= @Array.append_empty
noncomputable def DN:= @Nat.zero_add
noncomputable def Eg:= @Array.toList_modify
noncomputable def AE:= @PySem.Heap.size_update
noncomputable def Dm:= @Nat.mul_one
noncomputable def BR:= @Nat.zero_mul
noncomputable def AJ:= @Nat.div_add_mod
noncomputable def DO:= @Nat.mod_mod
noncomputable def AA:= @Nat.mod_mod_of_dvd
noncomputable def Dd:= @Nat.one_mul
noncomputable def ET:= @Nat.le_of_dvd
noncomputable def DK:= @Bool.true_or
noncomputable def Eb:= @PySem.F.slot_dict_pop
noncomputable def De:= @List.contains_cons
noncomputable def Br:= @PySem.F.typeOf_object_class
noncomputable def Eo:= @PySem.W.Looks.at
noncomputable def EN:= @Nat.lt_or_gt_of_ne
noncomputable def Bv:= @List.pairwise_append
noncomputable def AU:= @List.filter_cons_of_neg
noncomputable def DV:= @List.filter_cons_of_pos
noncomputable def EU:= @Int.mul_le_mul
noncomputable def Bx:= @Bool.bne_false
noncomputable def AV:= @PySem.F.slot_list_append
noncomputable def ED:= @PySem.F.type_list_append
noncomputable def JN:= @PySem.Calls.Name_function_global
noncomputable def Hx:= @PySem.W.cellsFrom_some
noncomputable def Ng:= @List.getElem?_take_of_lt
noncomputable def IU:= @Array.getElem?_append
noncomputable def Fg:= @Array.getElem?_extract_of_lt
noncomputable def Gn:= @List.pairwise_lt_range
noncomputable def G0:= @List.getElem?_toArray
noncomputable def HR:= @PySem.F.plain_list_iadd
noncomputable def GD:= @PySem.F.plain_extend_loop
noncomputable def NP:= @List.take_of_length_le
noncomputable def Lz:= @List.set_append_right
noncomputable def L7:= @List.eraseIdx_append_of_length_le
noncomputable def Jl:= @Array.toList_setIfInBounds
noncomputable def M7:= @List.mem_of_mem_take
noncomputable def KY:= @Array.getElem?_extract
noncomputable def ND:= @List.getElem?_append
noncomputable def NT:= @PySem.Calls.call_function_entry
noncomputable def MM:= @List.Nodup.length_le_of_subset
noncomputable def FH:= @Int.mul_ediv_add_emod
noncomputable def GS:= @Nat.dvd_of_mod_eq_zero
noncomputable def Ka:= @Int.eq_ofNat_of_zero_le
noncomputable def Hu:= @PySem.F.slot_dict_delitem
noncomputable def Lu:= @PySem.F.slot_list_remove
noncomputable def M5:= @List.flatMap_append
noncomputable def Np:= @List.filterMap_cons_none
noncomputable def Ml:= @Int.natAbs_dvd_natAbs
noncomputable def NQ:= @PyProof.Rows.boot_sorted
noncomputable def L6:= @PyProof.Rows.boot_tuple
noncomputable def GY:= @PyProof.Rows.boot_bool
noncomputable def JM:= @PyProof.Rows.boot_int
noncomputable def Jq:= @PyProof.Rows.boot_str
noncomputable def MW:= @List.replicate_succ'
noncomputable def MP:= @List.length_filterMap_le
noncomputable def KZ:= @PySem.F.plainAttrs_dict
noncomputable def Gu:= @PySem.F.type_dict_pop
noncomputable def Jg:= @List.length_pos_iff
namespace L2
open PySem PySem.Spec PyProof.Rows
noncomputable abbrev Key:=Sum Int Str
noncomputable def qX:Key->Value->Bool
 | .inl k,v=>Value.isInt k v
 | .inr x,v=>Value.isStrOf x v
noncomputable def V3(w:World):Key->Int
 | .inl k=>hashInt k
 | .inr x=>hashStr w x
theorem lY:∀{k:Key} {v:Value},qX k v=true->(∃i t,k=Sum.inl i/\v=Value.int i t)\/(∃x t,k=Sum.inr x/\v=Value.str x t)
  | .inl i, v, h => by
    obtain⟨t,e⟩:=v7 (k:=i) (v:=v) h
    exact .inl ⟨i,t,rfl,e⟩
  | .inr x, v, h => by
    obtain⟨t,e⟩:=Value.isStrOf_shape (x:=x) (v:=v) h
    exact .inr ⟨x,t,rfl,e⟩
theorem SO(i:Int)(t:Tok):qX (.inl i) (.int i t)=true:=by simp[qX,Value.isInt]
theorem Xg(x:Str)(t:Tok):qX (.inr x) (.str x t)=true:=by simp[qX,Value.isStrOf]
theorem PB(a b:Int):decide ((Sum.inl a:Key)=Sum.inl b)=(a==b):=by
 by_cases e:a=b
 ·subst e;simp
 ·have h:¬(Sum.inl a:Key)=Sum.inl b:=fun q=>e (DI q)
  rw[decide_eq_false h]
  exact(beq_eq_false_iff_ne.mpr e).symm
theorem Zj(a b:Str):decide ((Sum.inr a:Key)=Sum.inr b)=decide (a=b):=by
 by_cases e:a=b
 ·subst e;simp
 ·have h:¬(Sum.inr a:Key)=Sum.inr b:=fun q=>e (Sum.inr.inj q)
  rw[decide_eq_false h,decide_eq_false e]
theorem Vt(a:Int)(b:Str):decide ((Sum.inl a:Key)=Sum.inr b)=false:=decide_eq_false (fun q=>nomatch q)
theorem Tu(a:Str)(b:Int):decide ((Sum.inr a:Key)=Sum.inl b)=false:=decide_eq_false (fun q=>nomatch q)
noncomputable def g9(prog:Program)(w:World):PySem.KeyKind prog w Key where
 is:=qX
 hash:=V3 w
 inj:=fun v a b ha hb=>by
  rcases lY ha with ⟨i,t,rfl,rfl⟩|⟨x,t,rfl,rfl⟩
  ·rcases lY hb with ⟨j,u,rfl,e⟩|⟨y,u,rfl,e⟩
   ·injection e with e1 _;rw[e1]
   ·exact nomatch e
  ·rcases lY hb with ⟨j,u,rfl,e⟩|⟨y,u,rfl,e⟩
   ·exact nomatch e
   ·injection e with e1 _;rw[e1]
 byValue:=fun k v h=>by
  rcases lY h with ⟨i,t,rfl,rfl⟩|⟨x,t,rfl,rfl⟩<;>rfl
 pyHash:=fun hv h=>by
  rcases lY hv with ⟨i,t,rfl,rfl⟩|⟨x,t,rfl,rfl⟩
  ·exact wpAny_pyHash_int h
  ·exact wpAny_pyHash_str h
 eqBool:=fun hu hv h=>by
  rcases lY hu with ⟨i,t,rfl,rfl⟩|⟨x,t,rfl,rfl⟩
  ·rcases lY hv with ⟨j,u,rfl,rfl⟩|⟨y,u,rfl,rfl⟩
   ·rw[PB] at h;exact wpAny_eqBool_int h
   ·rw[Vt] at h;exact SeqAt.EqAt.int_str i t y u _ _ _ _ h
  ·rcases lY hv with ⟨j,u,rfl,rfl⟩|⟨y,u,rfl,rfl⟩
   ·rw[Tu] at h;exact SeqAt.EqAt.str_int x t j u _ _ _ _ h
   ·rw[Zj] at h;exact wpAny_eqBool_str h
 «strs» :=fun k x t v h=>by
  rcases lY h with ⟨i,u,rfl,e⟩|⟨y,u,rfl,e⟩
  ·exact nomatch e
  ·injection e with e1 _
   subst e1
   cases v<;>rfl
theorem QB(prog:Program)(w:World)(i:Int)(t:Tok):(g9 prog w).is (.inl i) (.int i t)=true:=SO i t
theorem W9(prog:Program)(w:World)(x:Str)(t:Tok):(g9 prog w).is (.inr x) (.str x t)=true:=Xg x t
inductive V where
 |aB|bl (b:Bool)|int (i:Int)|str (x:Str)|iT (b:Array UInt8)|kU (b:UInt64)|ref (a:Addr)|ty (n:String)
 deriving DecidableEq
noncomputable def RelV:V->Value->Prop
 | .aB,u=>u=Value.none
 | .bl b,u=>u=Value.bool b
 | .int i,u=>∃t,u=Value.int i t
 | .str x,u=>∃t,u=Value.str x t
 | .iT b,u=>∃t,u=Value.bytes b t
 | .kU b,u=>∃t,u=Value.float b t
 | .ref a,u=>u=Value.ref a
 | .ty n,u=>u=Value.type n
noncomputable abbrev Vals:List V->List Value->Prop:=Paired RelV
theorem Vals.length{xs:List V}{us:List Value}(r:Vals xs us):xs.length=us.length:=Paired.length r
theorem Vals.get:∀{xs:List V} {us:List Value} {i:Nat} {x:V},Vals xs us->xs[i]?=some x->∃u,us[i]?=some u/\RelV x u
  |_,_,_,_, .nil,e=>by simp at e
  |_,_,0,_, .cons r _,e=>by simp at e;subst e;exact⟨_,rfl,r⟩
  | _, _, i + 1, x, .cons _ t, e => by
    obtain⟨u,h1,h2⟩:=Vals.get (i:=i) (x:=x) t (by simpa using e)
    exact⟨u,by simpa using h1,h2⟩
theorem Vals.set{x:V}{u:Value}(r:RelV x u):∀{xs:List V} {us:List Value} (i:Nat),Vals xs us->Vals (xs.set i x) (us.set i u)
 |_,_,_, .nil=> .nil
 |_,_,0, .cons _ t=> .cons r t
 |_,_,i+1, .cons q t=> .cons q (Vals.set r i t)
theorem Vals.append:∀{xs ys:List V} {us ws:List Value},Vals xs us->Vals ys ws->Vals (xs++ys) (us++ws)
 |_,_,_,_, .nil,s=>s
 |_,_,_,_, .cons r t,s=> .cons r (Vals.append t s)
theorem Vals.take:∀{xs:List V} {us:List Value} (n:Nat),Vals xs us->Vals (xs.take n) (us.take n)
 |_,_,0,_=> .nil
 |_,_,_+1, .nil=> .nil
 |_,_,n+1, .cons r t=> .cons r (Vals.take n t)
theorem Vals.drop:∀{xs:List V} {us:List Value} (n:Nat),Vals xs us->Vals (xs.drop n) (us.drop n)
 |_,_,0,r=>r
 |_,_,_+1, .nil=> .nil
 |_,_,n+1, .cons _ t=>Vals.drop n t
noncomputable def iI:Option V->Option Value->Prop
 |some v,some u=>RelV v u
 |none,none=>True
 |_,_=>False
noncomputable def KV{κ:Type}:List (κ×V)->List (κ×Value)->Prop:=Paired fun(p:κ×V) (q:κ×Value)=>p.1=q.1/\RelV p.2 q.2
noncomputable def kV:Key->V
 | .inl i=> .int i
 | .inr x=> .str x
inductive HO where
  |lst (xs:List V)
  |tup (xs:List V)
  |dK (kvs:List (Key×V))|dT (kvs:List (List Key×V))
  |set (S:Int->Bool) (n:Nat)
  |ins (C dx:Addr) (fs:List (Str×V))
  |own (x:Addr)
  |xd (fs:List (Str×V))
  |met (f x:Addr)
  |l9 (lo hi:Int)
  |gv (o:Obj) (u:HO)
  |nT (ps:Array Value)
  |ext (φ:Heap->Prop)
noncomputable abbrev Hp:=Addr->Option HO
noncomputable def upd(H:Hp)(a:Addr)(o:HO):Hp:=fun b=>if b=a then some o else H b
theorem aQ{H:Hp}{a:Addr}{o:HO}:upd H a o a=some o:=by unfold upd;rw[if_pos rfl]
theorem aT{H:Hp}{a b:Addr}{o:HO}(h:b≠a):upd H a o b=H b:=by unfold upd;rw[if_neg h]
theorem DH{H:Hp}{a:Addr}{o u:HO}:upd (upd H a o) a u=upd H a u:=by
 funext b;unfold upd;split<;>rfl
theorem iF{H:Hp}{a b:Addr}{o:HO}(h:H a=some o)(h':H b=none):a≠b:=by
 intro e;subst e;rw[h] at h';cases h'
section
variable(P:Program)(w:World)
noncomputable def bP(H:Hp)(h:Heap)(a:Addr):HO->Prop
 | .lst xs=>xs.length<=sizeLine/\∃(its:List Value) (n:Nat),Vals xs its/\h.get? a=some {cls:= .type "list",data:= .seq its.toArray n}
 | .tup xs=>xs.length<=sizeLine/\∃its:List Value,Vals xs its/\IsTup h a its.toArray
 | .dK kvs=>kvs.length<=sizeLine/\(a==sysModules)=false/\∃vs,KV kvs vs/\h.DictOf (g9 P w) a vs
 | .dT kvs => kvs.length <= sizeLine /\ (a == sysModules) = false /\ ∃ xs : List (List Key × Addr × Value),
   Paired (fun(p:List Key×V) (q:List Key×Addr×Value)=>p.1=q.1/\H q.2.1=some (.tup (p.1.map kV))/\RelV p.2 q.2.2) kvs xs/\
   ∃o es ep,h.get? a=some o/\o.ExactDict/\o.data= .dict es ep/\es.toList=xs.map (entryOfKey (tupleKind (g9 P w)))/\(xs.map (·.1)).Nodup
 | .set S n=>h.SetOf (intKind P w) a S n
 | .ins C dx fs => H dx = some (.own a) /\ fs.length <= 1000 /\ dx ≠ a /\ h.get? a = some (PySem.W.instObj C dx) /\
   ∃mA,h.Ns1 dx mA/\(∀f,iI (fs.lookup f) (mA f))/\PySem.Within mA (fs.map (·.1))
 | .own _=>∃o,h.get? a=some o
 | .xd fs=>∃mA,h.Ns1 a mA/\∀f,iI (fs.lookup f) (mA f)
 | .l9 lo hi=>∃t u v,h.get? a=some {cls:= .type "range",data:= .fields #[.int lo t, .int hi u, .int 1 v]}
 | .gv o u=>h.get? a=some o/\bP H h a u
 | .nT ps=>h.get? a=some {cls:= .none,data:= .fields ps}
 | .met f x=>h.get? a=some (PySem.W.methodObj (.ref f) (.ref x))
 | .ext φ=>φ h/\(∃o,h.get? a=some o)/\∀h1 h2:Heap,φ h1->(∀o,h1.get? a=some o->h2.get? a=some o)->φ h2
noncomputable def bU(H:Hp)(h:Heap):Prop:=∀a o,H a=some o->bP P w H h a o
end
section
variable{P:Program}{w:World}{H H':Hp}{h h':Heap}{a:Addr}{o:HO}
theorem bP.lt(x:bP P w H h a o):a<h.objs.size:=by
 cases o with
 |lst xs=>obtain⟨_,_,_,_,e⟩:=x;exact bC e
 |tup xs=>obtain⟨_,_,_,p⟩:=x;exact p.lt
 |dK kvs=>obtain⟨_,_,_,_,o,_,_,e,_⟩:=x;exact bC e
 |dT kvs=>obtain⟨_,_,_,_,o,_,_,e,_⟩:=x;exact bC e
 |set S n=>obtain⟨o,_,_,_,e,_⟩:=x;exact bC e
 |ins C dx fs=>obtain⟨_,_,_,e,_⟩:=x;exact bC e
 |own y=>obtain⟨_,e⟩:=x;exact bC e
 |xd fs=>obtain⟨_,⟨_,_,_,e,_⟩,_⟩:=x;exact bC e
 |l9 lo hi=>obtain⟨_,_,_,e⟩:=x;exact bC e
 |gv ob u=>obtain⟨e,_⟩:=x;exact bC e
 |nT ps=>exact bC (show h.get? a=some _ from x)
 |met f y=>exact bC (show h.get? a=some _ from x)
 |ext φ=>obtain⟨_,⟨_,e⟩,_⟩:=x;exact bC e
theorem Paired.HX{α β:Type}{F G:α->β->Prop}:∀{l₁:List α} {l₂:List β},Paired F l₁ l₂->(∀a b,F a b->G a b)->Paired G l₁ l₂
 |_,_, .nil,_=> .nil
 |_,_, .cons r t,f=> .cons (f _ _ r) (Paired.HX t f)
theorem bP.stay(x:bP P w H h a o)(k:∀b u,(b=a\/H b=some (.own a))->h.get? b=some u->h'.get? b=some u)
    (ho:∀b,H b=some (.own a)->H' b=some (.own a)) (ht:∀b xs,H b=some (.tup xs)->H' b=some (.tup xs)):bP P w H' h' a o:=by
  induction o with
  |lst xs=>obtain⟨z,its,n,r,e⟩:=x;exact⟨z,its,n,r,k _ _ (.inl rfl) e⟩
  |tup xs=>obtain⟨z,its,r,ob,e,c⟩:=x;exact⟨z,its,r,ob,k _ _ (.inl rfl) e,c⟩
  |dK kvs=>obtain⟨z,y,vs,r,ob,es,ep,e,c⟩:=x;exact⟨z,y,vs,r,ob,es,ep,k _ _ (.inl rfl) e,c⟩
  | dT kvs =>
    obtain⟨z,y,xs,r,ob,es,ep,e,c⟩:=x
    exact⟨z,y,xs,Paired.HX r fun p q z=>⟨z.1,ht _ _ z.2.1,z.2.2⟩,ob,es,ep,k _ _ (.inl rfl) e,c⟩
  |set S n=>obtain⟨ob,es,ep,t,e,c⟩:=x;exact⟨ob,es,ep,t,k _ _ (.inl rfl) e,c⟩
  | ins C dx fs =>
    obtain⟨d,z,ne,e,mA,⟨od,es,ep,e2,c⟩,r⟩:=x
    exact⟨ho _ d,z,ne,k _ _ (.inl rfl) e,mA,⟨od,es,ep,k _ _ (.inr d) e2,c⟩,r⟩
  |own y=>obtain⟨ob,e⟩:=x;exact⟨ob,k _ _ (.inl rfl) e⟩
  |xd fs=>obtain⟨mA,⟨od,es,ep,e,c⟩,r⟩:=x;exact⟨mA,⟨od,es,ep,k _ _ (.inl rfl) e,c⟩,r⟩
  |l9 lo hi=>obtain⟨t,u,v,e⟩:=x;exact⟨t,u,v,k _ _ (.inl rfl) e⟩
  |gv ob u ih=>obtain⟨e,q⟩:=x;exact⟨k _ _ (.inl rfl) e,ih q⟩
  | nT ps =>
    have e:h.get? a=some {cls:= .none,data:= .fields ps}:=x
    show h'.get? a=some {cls:= .none,data:= .fields ps}
    exact k a _ (.inl rfl) e
  | met f y =>
    have e:h.get? a=some (PySem.W.methodObj (.ref f) (.ref y)):=x
    show h'.get? a=some (PySem.W.methodObj (.ref f) (.ref y))
    exact k a _ (.inl rfl) e
  |ext φ=>obtain⟨p,⟨o,e⟩,st⟩:=x;exact⟨st _ _ p fun o q=>k _ _ (.inl rfl) q,⟨o,k _ _ (.inl rfl) e⟩,st⟩
theorem bU.lt(x:bU P w H h)(e:H a=some o):a<h.objs.size:=(x a o e).lt
theorem bU.fresh(x:bU P w H h)(e:h.objs.size<=a):H a=none:=by
 cases q:H a with
 |none=>rfl
 |some u=>exact absurd (dM (x.lt q) e) (lQ _)
theorem bU.kept(x:bU P w H h)(k:∀b u,h.get? b=some u->h'.get? b=some u):bU P w H h':=fun a o e=>
 (x a o e).stay (fun b u _ q=>k b u q) (fun _ q=>q) fun _ _ q=>q
theorem bU.laid(x:bU P w H h)(k:∀b u,h.get? b=some u->h'.get? b=some u)(hp:h.objs.size<=a)(new:bP P w (upd H a o) h' a o):bU P w (upd H a o) h':=fun b u e=>by
 have hn:=x.fresh hp
 by_cases hb:b=a
 ·subst hb;rw[aQ] at e;cases e;exact new
 ·rw[aT hb] at e
  exact(x b u e).stay (fun c v _ q=>k c v q) (fun c q=>by rw[aT (iF q hn)];exact q) fun c xs q=>by rw[aT (iF q hn)];exact q
end
noncomputable def Rd(H:Hp)(a:Addr)(u:HO):Prop:=H a=some u\/∃o,H a=some (.gv o u)
theorem Rd.ok{P:Program}{w:World}{H:Hp}{h:Heap}{a:Addr}{u:HO}(r:Rd H a u)(x:bU P w H h):bP P w H h a u:=by
 rcases r with r|⟨o,r⟩
 ·exact x a u r
 ·obtain⟨_,q⟩:=x a _ r
  exact q
noncomputable def tB:Option HO->Prop
 |some (.lst _)=>True
 |some (.dK _)=>True
 |some (.dT _)=>True
 |some (.set _ _)=>True
 |some (.ins _ _ _)=>True
 |some (.ext _)=>True
 |_=>False
section
variable{P:Program}{w:World}{H:Hp}{h h':Heap}{x e:Addr}{o':HO}
theorem bU.write(ok:bU P w H h)(mu:tB (H x))(he:e=x\/H e=some (.own x))(k:∀b u,b≠e->h.get? b=some u->h'.get? b=some u)(qH:∃u,h'.get? e=some u)
  (new:bP P w (upd H x o') h' x o'):bU P w (upd H x o') h':=fun b u q=>by
 have LP:∀c y,H c=some (.own y)->c≠x:=fun c y r z=>by subst z;rw[r] at mu;exact mu
 have O6:∀c xs,H c=some (.tup xs)->c≠x:=fun c xs r z=>by subst z;rw[r] at mu;exact mu
 by_cases hb:b=x
 ·subst hb;rw[aQ] at q;cases q;exact new
 ·rw[aT hb] at q
  by_cases pV:b=e
  ·have q':H b=some (.own x):=by
    rcases he with z|z
    ·exact absurd (pV.trans z) hb
    ·rw[pV];exact z
   rw[q] at q';cases q'
   obtain⟨v,hv⟩:=qH
   exact⟨v,by rw[pV];exact hv⟩
  ·refine(ok b u q).stay (fun c v hc r=>k c v ?_ r) (fun c r=>by rw[aT (LP c b r)];exact r) fun c xs r=>by rw[aT (O6 c xs r)];exact r
   rcases hc with rfl|hc
   ·exact pV
   ·rintro rfl
    rcases he with z|z
    ·exact LP c b hc z
    ·rw[hc] at z;cases z;exact hb rfl
end
structure Un(fs ex:List Addr)(H H':Hp)(h h':Heap):Prop where
 keep:∀b o,h.get? b=some o->H b=none->b∉fs->b∉ex->h'.get? b=some o
 slot:∀b o,h.get? b=some o->H b=none->b∈fs->b∉ex->∃sl,h'.get? b=some {o with slots:=sl}
 free:∀b o,h.get? b=some o->H b=none->b∉ex->H' b=none
 there:∀b o,h.get? b=some o->b∉ex->∃o',h'.get? b=some o'
 tups:∀b xs,H b=some (.tup xs)->H' b=some (.tup xs)
 jV:∀b o u,H b=some (.gv o u)->H' b=some (.gv o u)
 j4:∀b ps,H b=some (.nT ps)->∃more,H' b=some (.nT (ps++more))
section
variable{fs fs' ex ex':List Addr}{H H1 H2:Hp}{h h1 h2 h':Heap}{a x e:Addr}{o:HO}
theorem Un.any(u:Un fs ex H H1 h h1){b:Addr}{ob:Obj}(q:h.get? b=some ob)(n:H b=none)(hx:b∉ex):∃sl,h1.get? b=some {ob with slots:=sl}:=by
 by_cases hb:b∈fs
 ·exact u.slot b ob q n hb hx
 ·exact⟨ob.slots,u.keep b ob q n hb hx⟩
theorem Un.kept(k:∀b u,h.get? b=some u->h'.get? b=some u):Un fs ex H H h h':=
 ⟨fun b ob q _ _ _=>k b ob q,fun b ob q _ _ _=>⟨ob.slots,k b ob q⟩,fun _ _ _ n _=>n,fun b ob q _=>⟨ob,k b ob q⟩,fun _ _ q=>q,fun _ _ _ q=>q,fun _ ps q=>⟨#[],by rw[q];simp⟩⟩
theorem Un.refl:Un fs ex H H h h:=Un.kept fun _ _ q=>q
theorem Un.laid(k:∀b u,h.get? b=some u->h'.get? b=some u)(hp:h.objs.size<=a)(hn:H a=none):Un fs ex H (upd H a o) h h' where
 keep:=fun b u q _ _ _=>k b u q
 slot:=fun b u q _ _ _=>⟨u.slots,k b u q⟩
 free:=fun b u q n _=>by rw[aT (cX (dM (bC q) hp))];exact n
 there:=fun b u q _=>⟨u,k b u q⟩
 tups:=fun b xs q=>by rw[aT (iF q hn)];exact q
 jV:=fun b u xs q=>by rw[aT (iF q hn)];exact q
 j4:=fun b ps q=>⟨#[],by rw[aT (iF q hn),q];simp⟩
theorem Un.write(mu:tB (H x))(he:e=x\/H e=some (.own x))(k:∀b u,b≠e->h.get? b=some u->h'.get? b=some u)(qH:∃u,h'.get? e=some u):Un fs ex H (upd H x o) h h':=by
 have hx:∀b,H b=none->b≠x:=fun b n z=>by subst z;rw[n] at mu;exact mu
 have hb:∀b,H b=none->b≠e:=fun b n z=>by
  subst z
  rcases he with r|r
  ·exact hx b n r
  ·rw[n] at r;cases r
 have hm:∀b u,H b=some u->¬tB (some u)->b≠x:=fun b u q nm z=>by subst z;rw[q] at mu;exact nm mu
 refine⟨fun b u q n _ _=>k b u (hb b n) q,fun b u q n _ _=>⟨u.slots,k b u (hb b n) q⟩,fun b u q n _=>by rw[aT (hx b n)];exact n,fun b u q _=>?_,
  fun b xs q=>by rw[aT (hm b _ q fun z=>z)];exact q,fun b u xs q=>by rw[aT (hm b _ q fun z=>z)];exact q,fun b ps q=>⟨#[],by rw[aT (hm b _ q fun z=>z),q];simp⟩⟩
 by_cases pV:b=e
 ·subst pV;exact qH
 ·exact⟨u,k b u pV q⟩
end
noncomputable def wJ(h:Heap)(H:Hp):List Addr:=(List.range h.objs.size).filter fun a=>(H a).isSome
noncomputable def l7(h:Heap)(H:Hp):Heap:=PySem.W.hideAll h (wJ h H)
theorem Zn(h:Heap)(H:Hp):(l7 h H).objs.size=h.objs.size:=PySem.W.hideAll_size _ _
theorem WL{h:Heap}{H:Hp}{b:Addr}{o:Obj}(e:h.get? b=some o)(n:H b=none):(l7 h H).get? b=some o:=
 EZ _ e fun hm=>by
  have q:(H b).isSome=true:=(k9.mp hm).2
  rw[n] at q;simp at q
theorem UZ{h:Heap}{H:Hp}{b:Addr}{o:Obj}(e:(l7 h H).get? b=some o):h.get? b=some o/\H b=none:=by
  have e':h.get? b=some o:=PySem.W.of_hideAll (wJ h H) e
  refine⟨e',?_⟩
  cases q:H b with
  |none=>rfl
  | some x =>
    have hm:b∈wJ h H:=k9.mpr ⟨yZ.mpr (bC e'),by simp[q]⟩
    have z:(l7 h H).get? b=none:=pK (wJ h H) hm
    rw[z] at e;cases e
noncomputable def TU(g h:Heap)(L:Addr):List (Addr×Obj):=(List.range h.objs.size).filterMap fun a=>if a=L\/(g.get? a).isSome=true then none else(h.get? a).map fun o=>(a,o)
noncomputable def rest(g h:Heap)(L d:Addr):List (Addr×Obj):=(TU g h L).filter fun p=>decide (p.1≠d)
structure Mod(K:PySem.W.Frag)(mg:Str->Option Value)(base:Heap):Prop where
 nY:K.In base
 glob:base.Ns mainGlobals mg
 blt:∃mb,base.Ns builtinsNs mb/\∀x:Str,x≠"__name__" ->mb x=bootBuiltins x
 nolimit:base.NoLimit
structure Cx where
 prog:Program
 w:World
 K:PySem.W.Frag
 mg:Str->Option Value
 base:Heap
 A:Around
 N:List Str
 s₀:Shared
 H₀:Hp
 env:Env
 outer:List Env
 stack:List Env
 ex:List Addr
 fn:Str->Bool
 calm:Bool
 pn:List (Addr×Obj)
 xe:Value->Shared->Prop
noncomputable def frs(l:List Env):List Addr:=l.filterMap (·.frame)
noncomputable abbrev Cx.fs(X:Cx):List Addr:=frs X.outer
noncomputable def C4(sc:Scope)(x:Str):Prop:=sc.names.lookup x=some .local\/sc.names.lookup x=some .cell\/sc.names.lookup x=some .free
noncomputable def Loc(sc:Scope)(x:Str):Prop:=sc.names.lookup x=some .local\/sc.names.lookup x=some .cell
noncomputable def Look(env:Env)(h:Heap)(m:Str->Option Value)(x:Str)(u:Value):Prop:=
 (env.kindOf x=some .local/\m x=some u)\/((env.kindOf x=some .cell\/env.kindOf x=some .free)/\∃c,env.cells.lookup x=some c/\h.IsCell c (some u))
structure Cx.Ok(X:Cx):Prop where
 mod:Mod X.K X.mg X.base
 kind:X.env.scope.kind= .function
 glob:X.env.globals=mainGlobals
 blt:X.env.builtins=builtinsNs
 above:X.s₀.heap.objs.size<=X.env.locals
 inj:∀x y c,X.env.cells.lookup x=some c->X.env.cells.lookup y=some c->x=y
 has:∀x,(X.env.kindOf x=some .cell\/X.env.kindOf x=some .free)->∃c,X.env.cells.lookup x=some c
 mE:∀x c,X.fn x=true->X.env.cells.lookup x=some c->X.s₀.heap.objs.size<=c
 hd:X.calm=true->X.A.handled=none
 frames:X.A.frames=some X.stack
 stk:X.stack=X.outer\/(X.stack=X.env::X.outer/\X.env.frame=some X.env.locals)
 nU:∀b∈X.ex,b≠X.env.locals/\∀x c,X.env.cells.lookup x=some c->c≠b
 bs:∀b o,X.base.get? b=some o->X.s₀.heap.get? b=some o/\X.H₀ b=none
 jW:X.base.objs.size<=X.s₀.heap.objs.size
 mT:∀b o,X.base.get? b=some o->b∉X.ex
 lZ:∀b∈X.ex,b∉X.fs
 gx:X.s₀.heap.FunFrames X.base X.outer
 kr:∀b∈X.fs,X.H₀ b=none
structure Inv(X:Cx)(pins:List (Addr×Obj))(σ:List (Option V))(H:Hp)(s:Shared):Prop where
 ok:X.Ok
 os:s.os=X.s₀.os
 bare:AllBare s.gens
 base:Un X.fs X.ex X.H₀ H X.s₀.heap s.heap
 loc:∃m,s.heap.Ns X.env.locals m/\∀(i:Nat) (x:Str) (v:V),X.N[i]?=some x->σ[i]?=some (some v)->C4 X.env.scope x->∃u,RelV v u/\Look X.env s.heap m x u
 cell:∀x c,X.env.cells.lookup x=some c->∃v,s.heap.IsCell c v
 free:H X.env.locals=none
 gu:∀x c,X.env.cells.lookup x=some c->H c=none
 pin:∀p∈X.pn++pins,s.heap.get? p.1=some p.2/\H p.1=none/\p.1≠X.env.locals/\p.1∉X.fs/\∀v,p.2.data≠ .cell v
 hok:bU X.prog X.w H s.heap
 len:σ.length=X.N.length
section
variable{X:Cx}{pins:List (Addr×Obj)}{σ:List (Option V)}{H H':Hp}{s:Shared}{h':Heap}
theorem Cx.Ok.Ul(ok:X.Ok){b:Addr}{o:Obj}(e:X.base.get? b=some o):b∉X.fs:=fun hb=>by
 have:=(ok.gx.mem hb).1
 rw[e] at this;cases this
theorem Inv.bs(I:Inv X pins σ H s):∀b o,X.base.get? b=some o->s.heap.get? b=some o/\H b=none:=fun b o e=>
 ⟨I.base.keep b o (I.ok.bs b o e).1 (I.ok.bs b o e).2 (I.ok.Ul e) (I.ok.mT b o e),I.base.free b o (I.ok.bs b o e).1 (I.ok.bs b o e).2 (I.ok.mT b o e)⟩
theorem Inv.bk(I:Inv X pins σ H s):∀b o,X.base.get? b=some o->s.heap.get? b=some o:=fun b o e=>(I.bs b o e).1
theorem Inv.mod(I:Inv X pins σ H s):Mod X.K X.mg X.base:=I.ok.mod
theorem Inv.bM(I:Inv X pins σ H s):X.K.In s.heap:=I.ok.mod.nY.keeps I.bk
theorem Inv.lt(I:Inv X pins σ H s):X.env.locals<s.heap.objs.size:=let ⟨_,hn,_⟩:=I.loc;hn.lt
theorem Inv.sz(I:Inv X pins σ H s):X.s₀.heap.objs.size<=s.heap.objs.size:=dw I.ok.above (mh I.lt)
theorem Inv.Rv(I:Inv X pins σ H s){a:Addr}(h:s.heap.objs.size<=a):a∉X.fs:=fun hb=>by
 obtain⟨_,o,ho,_⟩:=I.ok.gx.mem hb
 exact absurd (dM (bC ho) (dw I.sz h)) (lQ _)
theorem Inv.mU(I:Inv X pins σ H s):∀x c,X.env.cells.lookup x=some c->c≠X.env.locals:=fun x c e z=>by
 obtain⟨v,o,ho,hd⟩:=I.cell x c e
 obtain⟨m,⟨o',es,ep,ho',hd',_⟩,_⟩:=I.loc
 rw[z,ho'] at ho;cases ho;rw[hd'] at hd;cases hd
theorem Inv.gx(I:Inv X pins σ H s):s.heap.FunFrames X.base X.outer:=by
  have all:∀(l:List Env),(∀b∈frs l,b∈X.fs)->X.s₀.heap.FunFrames X.base l->s.heap.FunFrames X.base l:=by
    intro l
    induction l with
    |nil=>intro _ _;trivial
    | cons env r ih =>
      intro hs hl
      obtain⟨hk,⟨L,o,hf,hn,ho,hd⟩,hr⟩:=hl
      have hL:L∈X.fs:=hs L (by unfold frs;rw[kq,hf];exact bT)
      obtain⟨sl,e⟩:=I.base.slot L o ho (I.ok.kr L hL) hL fun z=>I.ok.lZ L z hL
      exact⟨hk,⟨L,_,hf,hn,e,hd⟩,ih (fun b hb=>hs b (by unfold frs;rw[kq,hf];exact bJ _ hb)) hr⟩
  exact all X.outer (fun _ hb=>hb) I.ok.gx
theorem Inv.stack(I:Inv X pins σ H s):s.heap.FunFrames X.base X.stack:=by
 rcases I.ok.stk with e|⟨e,hf⟩
 ·rw[e];exact I.gx
 ·rw[e]
  obtain⟨m,hn,_⟩:=I.loc
  refine .cons (by rw[I.ok.kind];decide) hf hn ?_ I.gx
  exact A5 (dw I.ok.jW I.ok.above)
theorem Inv.uB(I:Inv X pins σ H s):∀b∈frs X.stack,b∈X.env.locals::X.fs:=fun b hb=>by
 rcases I.ok.stk with e|⟨e,hf⟩
 ·rw[e] at hb;exact bJ _ hb
 ·rw[e] at hb
  unfold frs at hb
  rw[kq,hf] at hb
  exact hb
theorem Inv.wO(I:Inv X pins σ H s):∀b∈frs X.stack,H b=none:=fun b hb=>by
 rcases aA.mp (I.uB b hb) with e|hb
 ·rw[e];exact I.free
 ·obtain⟨_,o,ho,_⟩:=I.ok.gx.mem hb
  exact I.base.free b o ho (I.ok.kr b hb) fun z=>I.ok.lZ b z hb
theorem Inv.step{g':Array GenState}{t':Nat}{d':Drawn}{ch:List Addr}(I:Inv X pins σ H s)
  (hch:∀b∈ch,(b∈X.ex\/X.s₀.heap.objs.size<=b)/\b≠X.env.locals/\(∀x c,X.env.cells.lookup x=some c->c≠b)/\∀p∈X.pn++pins,p.1≠b)
  (keep:∀b o,b≠X.env.locals->b∉X.fs->b∉ch->s.heap.get? b=some o->H b=none->h'.get? b=some o)
  (slot:∀b o,b≠X.env.locals->b∈X.fs->b∉ch->s.heap.get? b=some o->H b=none->∃sl,h'.get? b=some {o with slots:=sl}) (free:∀b o,b∉ch->s.heap.get? b=some o->H b=none->H' b=none)
  (there:∀b o,b∉ch->s.heap.get? b=some o->∃o',h'.get? b=some o')
  (tups:∀b xs,H b=some (.tup xs)->H' b=some (.tup xs)) (jV:∀b o u,H b=some (.gv o u)->H' b=some (.gv o u)) (j4:∀b ps,H b=some (.nT ps)->∃more,H' b=some (.nT (ps++more)))
  (ns:∀m,s.heap.Ns X.env.locals m->h'.Ns X.env.locals m) (hok:bU X.prog X.w H' h') (hg:AllBare g'):
  Inv X pins σ H' {s with heap:=h',gens:=g',drawn:=d',toks:=t'}:=by
 have MJ:∀b o,X.s₀.heap.get? b=some o->b≠X.env.locals:=fun b o e=>cX (dM (bC e) I.ok.above)
 have Ai:∀b o,X.s₀.heap.get? b=some o->b∉X.ex->b∉ch:=fun b o e hx hb=>by
  rcases(hch b hb).1 with z|z
  ·exact hx z
  ·exact absurd (dM (bC e) z) (lQ _)
 have cellK:∀x c,X.env.cells.lookup x=some c->∀v,s.heap.IsCell c v->h'.IsCell c v:=fun x c e v ⟨o,ho,hd⟩=>by
  have vf:c∉ch:=fun z=>(hch c z).2.2.1 x c e rfl
  by_cases hc:c∈X.fs
  ·obtain⟨sl,q⟩:=slot c o (I.mU x c e) hc vf ho (I.gu x c e)
   exact⟨_,q,hd⟩
  ·exact⟨o,keep c o (I.mU x c e) hc vf ho (I.gu x c e),hd⟩
 refine⟨I.ok,I.os,hg,⟨fun b o e n hb hx=>?_,fun b o e n hb hx=>?_,fun b o e n hx=>?_,fun b o e hx=>?_,fun b xs e=>tups b xs (I.base.tups b xs e),fun b o xs e=>jV b o xs (I.base.jV b o xs e),fun b ps e=>?_⟩,?_,fun x c e=>?_,?_,fun x c e=>?_,fun p hp=>?_,hok,I.len⟩
 ·exact keep b o (MJ b o e) hb (Ai b o e hx) (I.base.keep b o e n hb hx) (I.base.free b o e n hx)
 ·obtain⟨sl,e1⟩:=I.base.slot b o e n hb hx
  obtain⟨wo,e2⟩:=slot b _ (MJ b o e) hb (Ai b o e hx) e1 (I.base.free b o e n hx)
  exact⟨wo,e2⟩
 ·obtain⟨o',e1⟩:=I.base.there b o e hx
  exact free b o' (Ai b o e hx) e1 (I.base.free b o e n hx)
 ·obtain⟨o',e1⟩:=I.base.there b o e hx
  exact there b o' (Ai b o e hx) e1
 ·obtain⟨m1,e1⟩:=I.base.j4 b ps e
  obtain⟨m2,e2⟩:=j4 b _ e1
  exact⟨m1++m2,by rw[e2,Array.append_assoc]⟩
 ·obtain⟨m,hn,hl⟩:=I.loc
  refine⟨m,ns m hn,fun i x v e1 e2 e3=>?_⟩
  obtain⟨u,r,l⟩:=hl i x v e1 e2 e3
  refine⟨u,r,?_⟩
  rcases l with l|⟨k,c,e,z⟩
  ·exact .inl l
  ·exact .inr ⟨k,c,e,cellK x c e _ z⟩
 ·obtain⟨v,z⟩:=I.cell x c e
  exact⟨v,cellK x c e v z⟩
 ·obtain⟨m,⟨o,_,_,ho,_⟩,_⟩:=I.loc
  exact free _ o (fun z=>(hch _ z).2.1 rfl) ho I.free
 ·obtain⟨v,o,ho,hd⟩:=I.cell x c e
  exact free c o (fun z=>(hch c z).2.2.1 x c e rfl) ho (I.gu x c e)
 ·obtain⟨e,n,ne,nf,d⟩:=I.pin p hp
  have vf:p.1∉ch:=fun z=>(hch p.1 z).2.2.2 p hp rfl
  exact⟨keep p.1 p.2 ne nf vf e n,free p.1 p.2 vf e n,ne,nf,d⟩
theorem Inv.un{t':Nat}(I:Inv X pins σ H s)(u:Un X.fs [] H H' s.heap h')(hok:bU X.prog X.w H' h'):Inv X pins σ H' {s with heap:=h',toks:=t'}:=by
 obtain⟨m,⟨o,es,ep,ho,r⟩,_⟩:=id I.loc
 obtain⟨sl,hL⟩:=u.any ho I.free (by simp)
 exact I.step (g':=s.gens) (d':=s.drawn) (ch:=[]) (fun _ z=>nomatch z) (fun b o _ hb _ e n=>u.keep b o e n hb (by simp)) (fun b o _ hb _ e n=>u.slot b o e n hb (by simp)) (fun b o _ e n=>u.free b o e n (by simp)) (fun b o _ e=>u.there b o e (by simp)) u.tups u.jV u.j4 (fun m' hm=>by
  obtain⟨o',es',yy,ho',r'⟩:=hm
  rw[ho] at ho';cases ho'
  exact⟨_,es',yy,hL,r'⟩) hok I.bare
theorem Inv.call{g':Array GenState}{t':Nat}{d':Drawn}{ch:List Addr}(I:Inv X pins σ H s)(u:Un (frs X.stack) ch H H' s.heap h')(hok:bU X.prog X.w H' h')(hg:AllBare g')
  (hch:∀b∈ch,(b∈X.ex\/X.s₀.heap.objs.size<=b)/\b≠X.env.locals/\(∀x c,X.env.cells.lookup x=some c->c≠b)/\∀p∈X.pn++pins,p.1≠b):
  Inv X pins σ H' {s with heap:=h',gens:=g',drawn:=d',toks:=t'}:=by
 obtain⟨m,⟨o,es,ep,ho,r⟩,_⟩:=id I.loc
 obtain⟨sl,hL⟩:=u.any ho I.free fun z=>(hch _ z).2.1 rfl
 exact I.step (ch:=ch) hch (fun b o hL hb hc e n=>u.keep b o e n (fun z=>(aA.mp (I.uB b z)).elim hL hb) hc) (fun b o _ _ hc e n=>u.any e n hc) (fun b o hc e n=>u.free b o e n hc) (fun b o hc e=>u.there b o e hc) u.tups u.jV u.j4 (fun m' hm=>by
  obtain⟨o',es',yy,ho',r'⟩:=hm
  rw[ho] at ho';cases ho'
  exact⟨_,es',yy,hL,r'⟩) hok hg
theorem Inv.turned{t':Nat}{it:Addr}(I:Inv X pins σ H s)(k:∀b o,b≠it->s.heap.get? b=some o->h'.get? b=some o)(hn:H it=none)(hL:it≠X.env.locals)
  (h1:it∈X.ex\/X.s₀.heap.objs.size<=it) (h2:∀x c,X.env.cells.lookup x=some c->c≠it) (h3:∀p∈X.pn++pins,p.1≠it):Inv X pins σ H {s with heap:=h',toks:=t'}:=by
 have J3:∀b u,H b=some u->b≠it:=fun b u e z=>by rw[z,hn] at e;cases e
 refine I.step (g':=s.gens) (d':=s.drawn) (ch:=[it]) (fun b hb=>?_) (fun b o _ _ hc e _=>k b o (fun z=>hc (by simp[z])) e) (fun b o _ _ hc e _=>⟨o.slots,k b o (fun z=>hc (by simp[z])) e⟩) (fun _ _ _ _ n=>n)
  (fun b o hc e=>⟨o,k b o (fun z=>hc (by simp[z])) e⟩) (fun _ _ e=>e) (fun _ _ _ e=>e) (fun b ps e=>⟨#[],by rw[e];simp⟩) (fun m hm=>?_) (fun b u e=>?_) I.bare
 ·have e:b=it:=by simpa using hb
  subst e
  exact⟨h1,hL,h2,h3⟩
 ·obtain⟨o,es,ep,ho,r⟩:=hm
  exact⟨o,es,ep,k _ o (cR hL) ho,r⟩
 ·refine(I.hok b u e).stay (fun c v hc q=>k c v ?_ q) (fun _ q=>q) fun _ _ q=>q
  rcases hc with z|z
  ·rw[z];exact J3 b u e
  ·exact J3 c _ z
theorem Inv.tok(I:Inv X pins σ H s)(t:Nat):Inv X pins σ H {s with toks:=t}:=I.un (h':=s.heap) (t':=t) Un.refl I.hok
theorem Inv.kept{t':Nat}(I:Inv X pins σ H s)(k:∀b u,s.heap.get? b=some u->h'.get? b=some u):Inv X pins σ H {s with heap:=h',toks:=t'}:=I.un (Un.kept k) (I.hok.kept k)
theorem Inv.laid{a:Addr}{o:HO}{t':Nat}(I:Inv X pins σ H s)(k:∀b u,s.heap.get? b=some u->h'.get? b=some u)(hp:s.heap.objs.size<=a)(new:bP X.prog X.w (upd H a o) h' a o):
  Inv X pins σ (upd H a o) {s with heap:=h',toks:=t'}:=I.un (Un.laid k hp (I.hok.fresh hp)) (I.hok.laid k hp new)
theorem Inv.write{x e:Addr}{o:HO}{t':Nat}(I:Inv X pins σ H s)(mu:tB (H x))(he:e=x\/H e=some (.own x))(k:∀b u,b≠e->s.heap.get? b=some u->h'.get? b=some u)(qH:∃u,h'.get? e=some u)
  (new:bP X.prog X.w (upd H x o) h' x o):Inv X pins σ (upd H x o) {s with heap:=h',toks:=t'}:=I.un (Un.write mu he k qH) (I.hok.write mu he k qH new)
theorem Inv.Mt{Dz:List (Addr×Obj)}(I:Inv X pins σ H s)(h:∀p∈Dz,s.heap.get? p.1=some p.2/\H p.1=none/\p.1≠X.env.locals/\p.1∉X.fs/\∀v,p.2.data≠ .cell v):Inv X Dz σ H s:=
 ⟨I.ok,I.os,I.bare,I.base,I.loc,I.cell,I.free,I.gu,fun p hp=>(jc.mp hp).elim (fun z=>I.pin p (ug _ z)) (h p),I.hok,I.len⟩
theorem Ba{N:List Str}(hN:N.Nodup){i j:Nat}{x:Str}(a:N[i]?=some x)(b:N[j]?=some x):i=j:=by
 obtain⟨h1,e1⟩:=bh.mp a
 obtain⟨h2,e2⟩:=bh.mp b
 exact(List.getElem_inj hN).mp (e1.trans e2.symm)
theorem Qq{M:Model}{A:Around}{E:Value->Shared->Prop}{i:Nat}{x:Str}{v:V}{u:Value}{Q:Unit->Shared->Prop}(I:Inv X pins σ H s)(hN:X.N.Nodup)(hi:X.N[i]?=some x)(hx:Loc X.env.scope x)(r:RelV v u)
  (h:∀s',Inv X pins (σ.set i (some v)) H s'->(∃a,Heap.SameBut a s.heap s'.heap/\(a=X.env.locals\/X.env.cells.lookup x=some a))->Q () s') (hf:X.fn x=true\/X.env.scope.names.lookup x=some .local:=by first|exact .inl rfl|exact .inr rfl|assumption):wpAny M A (storeName X.env x u) Q E s:=by
 obtain⟨m,hn,hl⟩:=id I.loc
 have hcls:(X.env.scope.kind== .class||(X.env.scope.kind== .module && X.env.locals !=X.env.globals))=false:=by rw[I.ok.kind];rfl
 have uJ:i<σ.length:=by rw[I.len];exact(bh.mp hi).1
 have mU:=I.mU
 have tracked:∀{a:Addr} {h':Heap},(∃o,s.heap.get? a=some o/\H a=none)->Heap.SameBut a s.heap h'->bU X.prog X.w H h':=fun{a h'} ha hs b ob e=>by
  obtain⟨_,_,hfree⟩:=ha
  refine(I.hok b ob e).stay (fun c w' hc q=>(hs.2 c ?_).trans q) (fun _ q=>q) fun _ _ q=>q
  rintro rfl
  rcases hc with rfl|hc
  ·rw[hfree] at e;cases e
  ·rw[hfree] at hc;cases hc
 rcases hx with hk|hk
 ·refine wpAny_storeName_local hk hn (fun h' hn' hs=>?_) hcls
  obtain⟨oL,_,_,tD,_⟩:=id hn
  refine h _ ⟨I.ok,I.os,I.bare,⟨fun b o e n hb hx=>?_,fun b o e n hb hx=>?_,I.base.free,fun b o e hx=>?_,I.base.tups,I.base.jV,I.base.j4⟩,⟨_,hn',fun j y v' e1 e2 e3=>?_⟩,fun y c e=>?_,I.free,I.gu,fun p hp=>?_,tracked ⟨oL,tD,I.free⟩ hs,by simpa using I.len⟩ ⟨_,hs, .inl rfl⟩
  ·exact(hs.2 b (cX (dM (bC e) I.ok.above))).trans (I.base.keep b o e n hb hx)
  ·obtain⟨sl,e1⟩:=I.base.slot b o e n hb hx
   exact⟨sl,(hs.2 b (cX (dM (bC e) I.ok.above))).trans e1⟩
  ·obtain⟨o',e1⟩:=I.base.there b o e hx
   exact⟨o',(hs.2 b (cX (dM (bC e) I.ok.above))).trans e1⟩
  ·by_cases hj:j=i
   ·subst hj
    rw[hi] at e1;cases e1
    rw[cy uJ] at e2
    cases e2
    exact⟨u,r, .inl ⟨hk,by simp⟩⟩
   ·rw[bA (cR hj)] at e2
    obtain⟨u',r',q⟩:=hl j y v' e1 e2 e3
    refine⟨u',r',?_⟩
    rcases q with ⟨k,e⟩|⟨k,c,e,z⟩
    ·refine .inl ⟨k,?_⟩
     have:y≠x:=fun e=>hj (Ba hN e1 (e▸hi))
     simp[this,e]
    ·exact .inr ⟨k,c,e,z.sameBut hs (mU y c e)⟩
  ·obtain⟨w',z⟩:=I.cell y c e
   exact⟨w',z.sameBut hs (mU y c e)⟩
  ·obtain⟨e,n,ne,nf,d⟩:=I.pin p hp
   exact⟨(hs.2 p.1 ne).trans e,n,ne,nf,d⟩
 ·have hfn:X.fn x=true:=by
   rcases hf with z|z
   ·exact z
   ·rw[z] at hk;cases hk
  obtain⟨c,hc⟩:=I.ok.has x (.inl hk)
  obtain⟨w',z⟩:=I.cell x c hc
  refine wpAny_storeName_cell I.ok.kind hk hc z (fun h' hc' hs=>?_)
  obtain⟨oc,hoc,TZ⟩:=id z
  refine h {s with heap:=h'} ⟨I.ok,I.os,I.bare,⟨fun b o e n hb hx=>?_,fun b o e n hb hx=>?_,I.base.free,fun b o e hx=>?_,I.base.tups,I.base.jV,I.base.j4⟩,⟨m,hn.sameBut hs (cR (mU x c hc)),fun j y v' e1 e2 e3=>?_⟩,fun y c' e=>?_,I.free,I.gu,fun p hp=>?_,tracked ⟨oc,hoc,I.gu x c hc⟩ hs,by simpa using I.len⟩ ⟨c,hs, .inr hc⟩
  ·exact(hs.2 b (cX (dM (bC e) (I.ok.mE x c hfn hc)))).trans (I.base.keep b o e n hb hx)
  ·obtain⟨sl,e1⟩:=I.base.slot b o e n hb hx
   exact⟨sl,(hs.2 b (cX (dM (bC e) (I.ok.mE x c hfn hc)))).trans e1⟩
  ·obtain⟨o',e1⟩:=I.base.there b o e hx
   exact⟨o',(hs.2 b (cX (dM (bC e) (I.ok.mE x c hfn hc)))).trans e1⟩
  ·by_cases hj:j=i
   ·subst hj
    rw[hi] at e1;cases e1
    rw[cy uJ] at e2
    cases e2
    exact⟨u,r, .inr ⟨.inl hk,c,hc,hc'⟩⟩
   ·rw[bA (cR hj)] at e2
    obtain⟨u',r',q⟩:=hl j y v' e1 e2 e3
    refine⟨u',r',?_⟩
    rcases q with q|⟨k,c',e,z'⟩
    ·exact .inl q
    ·refine .inr ⟨k,c',e,z'.sameBut hs ?_⟩
     rintro rfl
     exact hj (Ba hN e1 (I.ok.inj _ _ _ e hc▸hi))
  ·by_cases hcc:c'=c
   ·subst hcc;exact⟨_,hc'⟩
   ·obtain⟨w2,z2⟩:=I.cell y c' e
    exact⟨w2,z2.sameBut hs hcc⟩
  ·obtain⟨e,n,ne,nf,d⟩:=I.pin p hp
   refine⟨(hs.2 p.1 ?_).trans e,n,ne,nf,d⟩
   intro q
   rw[q,hoc] at e
   have q':oc=p.2:=iM e
   exact d w' (by rw[<-q'];exact TZ)
theorem xN{M:Model}{A:Around}{E:Value->Shared->Prop}{i:Nat}{x:Str}{v:V}{u:Value}{Q:Unit->Shared->Prop}(I:Inv X pins σ H s)(hN:X.N.Nodup)(hi:X.N[i]?=some x)(hx:Loc X.env.scope x)(r:RelV v u)
  (h:∀s',Inv X pins (σ.set i (some v)) H s'->Q () s') (hf:X.fn x=true\/X.env.scope.names.lookup x=some .local:=by first|exact .inl rfl|exact .inr rfl|assumption):wpAny M A (storeName X.env x u) Q E s:=
 Qq I hN hi hx r (fun s' I' _=>h s' I') hf
theorem Inv.V1{s':Shared}{ch:List Addr}(I:Inv X pins σ H s)(ho:s'.os=s.os)(u:Un (frs X.stack) ch H H' s.heap s'.heap)(hok:bU X.prog X.w H' s'.heap)(hg:AllBare s'.gens)
  (hch:∀b∈ch,(b∈X.ex\/X.s₀.heap.objs.size<=b)/\b≠X.env.locals/\(∀x c,X.env.cells.lookup x=some c->c≠b)/\∀p∈X.pn++pins,p.1≠b):Inv X pins σ H' s':=by
 obtain⟨h',g',d',t',o'⟩:=s'
 have e:o'=s.os:=ho
 subst e
 exact I.call (g':=g') (t':=t') (d':=d') u hok hg hch
end
noncomputable abbrev XK:=Value->Option Addr->Hp->Prop
noncomputable abbrev St:=List (Option V)
noncomputable abbrev VK:=V->Hp->Prop
noncomputable abbrev TE:=St->Hp->VK->Prop
noncomputable abbrev TT:=St->Hp->(Bool->Hp->Prop)->Prop
noncomputable abbrev TA:=St->Hp->(List V->Hp->Prop)->Prop
structure Ends where
 nx:St->Hp->Prop
 rt:VK
 bk:St->Hp->Prop:=fun _ _=>False
 ct:St->Hp->Prop:=fun _ _=>False
noncomputable abbrev TS:=Ends->St->Hp->Prop
noncomputable def EP(X:Cx)(pins:List (Addr×Obj))(σ:St)(Q:VK)(u:Value)(s':Shared):Prop:=∃v H',Inv X pins σ H' s'/\RelV v u/\Q v H'
noncomputable def TP(X:Cx)(pins:List (Addr×Obj))(σ:St)(Q:Bool->Hp->Prop)(b:Bool)(s':Shared):Prop:=∃H',Inv X pins σ H' s'/\Q b H'
noncomputable def AP(X:Cx)(pins:List (Addr×Obj))(σ:St)(Q:List V->Hp->Prop)(us:List Value)(s':Shared):Prop:=∃vs H',Inv X pins σ H' s'/\Vals vs us/\Q vs H'
noncomputable def SP(X:Cx)(pins:List (Addr×Obj))(D:Ends)(f:Flow)(s':Shared):Prop:=
 match f with
 | .next=>∃σ' H',Inv X pins σ' H' s'/\D.nx σ' H'
 | .brk=>∃σ' H',Inv X pins σ' H' s'/\D.bk σ' H'
 | .cont=>∃σ' H',Inv X pins σ' H' s'/\D.ct σ' H'
 | .ret u=>∃v σ' H',Inv X pins σ' H' s'/\RelV v u/\D.rt v H'
noncomputable def PE(X:Cx)(e:Expr)(t:TE):Prop:=
 ∀(pins:List (Addr×Obj)) (s:Shared) (σ:St) (H:Hp) (Q:VK),Inv X pins σ H s->t σ H Q->wpAny (model X.prog X.w) X.A (eval e X.env) (EP X pins σ Q) X.xe s
noncomputable def PT(X:Cx)(e:Expr)(t:TT):Prop:=
 ∀(pins:List (Addr×Obj)) (s:Shared) (σ:St) (H:Hp) (Q:Bool->Hp->Prop),Inv X pins σ H s->t σ H Q->wpAny (model X.prog X.w) X.A (isTrue e X.env (eval e X.env)) (TP X pins σ Q) X.xe s
noncomputable def PW(X:Cx)(e:Expr)(t:TT):Prop:=
 ∀(whole:Sem Value) (pins:List (Addr×Obj)) (s:Shared) (σ:St) (H:Hp) (Q:Bool->Hp->Prop),Inv X pins σ H s->t σ H Q->wpAny (model X.prog X.w) X.A (isTrue e X.env whole) (TP X pins σ Q) X.xe s
theorem PW.pt{X:Cx}{e:Expr}{t:TT}(h:PW X e t):PT X e t:=h _
noncomputable def PA(X:Cx)(es:List Expr)(t:TA):Prop:=
 ∀(pos:Pos) (pins:List (Addr×Obj)) (s:Shared) (σ:St) (H:Hp) (Q:List V->Hp->Prop),Inv X pins σ H s->t σ H Q->wpAny (model X.prog X.w) X.A (spliced (backTo pos (starEach es X.env))) (AP X pins σ Q) X.xe s
noncomputable def PS(X:Cx)(st:Stmt)(t:TS):Prop:=
 ∀(pins:List (Addr×Obj)) (s:Shared) (σ:St) (H:Hp) (D:Ends),Inv X pins σ H s->t D σ H->wpAny (model X.prog X.w) X.A (exec st X.env) (SP X pins D) X.xe s
noncomputable def gn(X:Cx)(st:List Stmt)(t:TS):Prop:=
 ∀(pins:List (Addr×Obj)) (s:Shared) (σ:St) (H:Hp) (D:Ends),Inv X pins σ H s->t D σ H->wpAny (model X.prog X.w) X.A (execs st X.env) (SP X pins D) X.xe s
theorem aF{α:Type}{t:Sem α}{Q Q':α->Shared->Prop}{M:Model}{A:Around}{E:Value->Shared->Prop}{s:Shared}(h:wpAny M A t Q E s)(hQ:∀a s,Q a s->Q' a s):wpAny M A t Q' E s:=wpAny_mono h hQ fun _ _ x=>x
section
variable{X:Cx}
theorem bin{a b:Expr}{ta tb:TE}(ha:PE X a ta)(hb:PE X b tb){pins:List (Addr×Obj)}{s:Shared}{σ:St}{H:Hp}{R:V->V->Hp->Prop}(I:Inv X pins σ H s)(h:ta σ H fun x H1=>tb σ H1 fun y H2=>R x y H2)
  {α:Type} {Q:α->Shared->Prop} {f:Value->Value->Sem α}
  (hf:∀v u s2 x y H2,Inv X pins σ H2 s2->RelV x v->RelV y u->R x y H2->wpAny (model X.prog X.w) X.A (f v u) Q X.xe s2):
  wpAny (model X.prog X.w) X.A (eval a X.env) (fun v s₁=>wpAny (model X.prog X.w) X.A (eval b X.env) (fun u s₂=>wpAny (model X.prog X.w) X.A (f v u) Q X.xe s₂) X.xe s₁) X.xe s:=by
 refine aF (ha pins s σ H _ I h) fun v s1 ⟨x,H1,I1,r1,q1⟩=>?_
 refine aF (hb pins s1 σ H1 _ I1 q1) fun u s2 ⟨y,H2,I2,r2,q2⟩=>?_
 exact hf v u s2 x y H2 I2 r1 r2 q2
noncomputable def bf(i:Nat):TE:=fun σ H Q=>∃v,σ[i]?=some (some v)/\Q v H
noncomputable def tC(v:V):TE:=fun _ H Q=>Q v H
theorem Ww{i:Nat}{x:Str}{pos:Pos}(hN:X.N[i]?=some x)(hv:C4 X.env.scope x)(hd:(x==("__debug__":Str))=false:=by decide)(hcd:(x==("__classdict__":Str))=false:=by decide):PE X (.Name x pos) (bf i):=by
 intro pins s σ H Q I h
 obtain⟨v,e,h⟩:=h
 obtain⟨m,hn,hl⟩:=I.loc
 obtain⟨u,r,l⟩:=hl i x v hN e hv
 have fin:EP X pins σ Q u s:=⟨v,H,I,r,h⟩
 rcases l with ⟨hk,hm⟩|⟨hk,c,hc,hcell⟩
 ·exact wpAny_Name (wpAny_loadName_local I.ok.kind hk hn hm fin) hd
 ·rcases hk with hk|hk
  ·exact wpAny_Name (wpAny_loadName_cell I.ok.kind hk hc hcell fin) hd
  ·exact wpAny_Name (wpAny_loadName_free I.ok.kind hk hc hcell fin hcd) hd
theorem ai{i j pos}:PE X (.Constant (.int i) j pos) (tC (.int i)):=fun _ _ _ H _ I h=>wpAny_Constant_int ⟨.int i,H,I.tok _,⟨_,rfl⟩,h⟩
theorem rJ{b j pos}:PE X (.Constant (.bool b) j pos) (tC (.bl b)):=fun _ _ _ H _ I h=>Constant_bool ⟨.bl b,H,I,rfl,h⟩
theorem ly{j pos}:PE X (.Constant .none j pos) (tC .aB):=fun _ _ _ H _ I h=>Constant_none ⟨.aB,H,I,rfl,h⟩
theorem eE{x j pos}:PE X (.Constant (.str x) j pos) (tC (.str x)):=fun _ _ _ H _ I h=>Calls.Constant_str ⟨.str x,H,I.tok _,⟨_,rfl⟩,h⟩
noncomputable def Gl(X:Cx)(x:Str):Prop:=X.env.kindOf x=some .globalImplicit
theorem qU{E:Value->Shared->Prop}{pins:List (Addr×Obj)}{s:Shared}{σ:St}{H:Hp}{x:Str}{u:Value}{pos:Pos}{Q:Value->Shared->Prop}(I:Inv X pins σ H s)(hg:Gl X x)(hm:X.mg x=some u)(h:Q u s)
  (hd:(x==("__debug__":Str))=false:=by decide):wpAny (model X.prog X.w) X.A (eval (.Name x pos) X.env) Q E s:=
 JN I.ok.kind hg (Calls.loadGlobal_global (by rw[I.ok.glob];exact I.mod.glob.keeps I.bk) hm h) hd
theorem sP{E:Value->Shared->Prop}{pins:List (Addr×Obj)}{s:Shared}{σ:St}{H:Hp}{x:Str}{u:Value}{pos:Pos}{Q:Value->Shared->Prop}(I:Inv X pins σ H s)(hg:Gl X x)(hm:X.mg x=none)(hv:bootBuiltins x=some u)(h:Q u s)
  (hn:x≠"__name__":=by decide) (hd:(x==("__debug__":Str))=false:=by decide):wpAny (model X.prog X.w) X.A (eval (.Name x pos) X.env) Q E s:=by
 obtain⟨mb,h1,h2⟩:=I.mod.blt
 exact JN I.ok.kind hg (Calls.loadGlobal_builtin (by rw[I.ok.glob];exact I.mod.glob.keeps I.bk) hm (by rw[I.ok.blt];exact h1.keeps I.bk) ((h2 x hn).trans hv) h) hd
theorem o4{x:Str}{v:V}{u:Value}{pos:Pos}(hg:Gl X x)(hm:X.mg x=some u)(r:RelV v u)(hd:(x==("__debug__":Str))=false:=by decide):PE X (.Name x pos) (tC v):=
 fun _ _ _ H _ I h=>qU I hg hm ⟨v,H,I,r,h⟩ hd
theorem jd{x:Str}{v:V}{u:Value}{pos:Pos}(hg:Gl X x)(hm:X.mg x=none)(hv:bootBuiltins x=some u)(r:RelV v u)(hn:x≠"__name__":=by decide)(hd:(x==("__debug__":Str))=false:=by decide):PE X (.Name x pos) (tC v):=
 fun _ _ _ H _ I h=>sP I hg hm hv ⟨v,H,I,r,h⟩ hn hd
variable{a b:Expr}{ta tb:TE}{pos:Pos}
noncomputable def PC(X:Cx)(op:CmpOp)(a b:Expr)(t:TE):Prop:=
 ∀(pins:List (Addr×Obj)) (s:Shared) (σ:St) (H:Hp) (Q:VK),Inv X pins σ H s->t σ H Q->
  wpAny (model X.prog X.w) X.A (eval a X.env) (fun v s₁=>wpAny (model X.prog X.w) X.A (eval b X.env) (fun u s₂=>wpAny (model X.prog X.w) X.A (compareOp op v u) (EP X pins σ Q) X.xe s₂) X.xe s₁) X.xe s
variable{tA yP:TT}{rest:List Expr}
noncomputable def Aw(t u:TT):TT:=fun σ H Q=>t σ H fun c H1=>if c=true then u σ H1 Q else Q false H1
noncomputable def Ij(t u:TT):TT:=fun σ H Q=>t σ H fun c H1=>if c=true then Q true H1 else u σ H1 Q
noncomputable def LH(t:TT):TT:=fun σ H Q=>t σ H fun c H1=>Q (!c) H1
theorem uQ(ha:PT X a tA):PW X (.BoolOp .And [a] pos) tA:=by
 intro wh pins s σ H Q I h
 refine isTrue_and (aF (ha pins s σ H Q I h) fun c s1 e=>?_)
 cases c with
 |true=>exact isTrue_and_nil e
 |false=>exact e
theorem ur(ha:PT X a tA):PW X (.BoolOp .Or [a] pos) tA:=by
 intro wh pins s σ H Q I h
 refine isTrue_or (aF (ha pins s σ H Q I h) fun c s1 e=>?_)
 cases c with
 |false=>exact isTrue_or_nil e
 |true=>exact e
theorem uS(ha:PT X a tA)(hb:PW X (.BoolOp .And (b::rest) pos) yP):PW X (.BoolOp .And (a::b::rest) pos) (Aw tA yP):=by
 intro wh pins s σ H Q I h
 refine isTrue_and (aF (ha pins s σ H _ I h) fun c s1 ⟨H1,I1,q1⟩=>?_)
 cases c with
 |true=>exact hb wh pins s1 σ H1 Q I1 q1
 |false=>exact⟨H1,I1,q1⟩
theorem oQ(ha:PT X a tA)(hb:PW X (.BoolOp .Or (b::rest) pos) yP):PW X (.BoolOp .Or (a::b::rest) pos) (Ij tA yP):=by
 intro wh pins s σ H Q I h
 refine isTrue_or (aF (ha pins s σ H _ I h) fun c s1 ⟨H1,I1,q1⟩=>?_)
 cases c with
 |true=>exact⟨H1,I1,q1⟩
 |false=>exact hb wh pins s1 σ H1 Q I1 q1
theorem vz(ha:PT X a tA):PT X (.UnaryOp .Not a pos) (LH tA):=by
 intro pins s σ H Q I h
 exact isTrue_not (ha pins s σ H (fun c H1=>Q (!c) H1) I h)
noncomputable def G5(ta tb:TE):TE:=fun σ H Q=>ta σ H fun x H1=>∃c,x= .bl c/\if c=true then tb σ H1 Q else Q (.bl false) H1
noncomputable def JL(ta:TE):TE:=fun σ H Q=>ta σ H fun x H1=>∃c,x= .bl c/\Q (.bl (!c)) H1
theorem ID{op}{t:TE}(h:PE X a t):PE X (.BoolOp op [a] pos) t:=fun pins s σ H Q I hw=>BoolOp_one (h pins s σ H Q I hw)
theorem Nn(ha:PE X a ta)(hb:PE X (.BoolOp .And (b::rest) pos) tb):PE X (.BoolOp .And (a::b::rest) pos) (G5 ta tb):=by
 intro pins s σ H Q I h
 refine BoolOp_and (aF (ha pins s σ H _ I h) fun v s1 ⟨x,H1,I1,r1,q1⟩=>?_)
 obtain⟨c,rfl,q1⟩:=q1
 cases r1
 refine wpAny_truthy_bool ?_
 cases c with
 |true=>exact hb pins s1 σ H1 Q I1 q1
 |false=>exact⟨.bl false,H1,I1,rfl,q1⟩
theorem XO(ha:PE X a ta):PE X (.UnaryOp .Not a pos) (JL ta):=by
 intro pins s σ H Q I h
 refine UnaryOp_ (aF (ha pins s σ H _ I h) fun v s1 ⟨x,H1,I1,r1,q1⟩=>?_)
 obtain⟨c,rfl,q1⟩:=q1
 cases r1
 exact not_of (wpAny_truthy_bool ⟨.bl (!c),H1,I1,rfl,q1⟩)
noncomputable def Fb(t:TT)(ta tb:TE):TE:=fun σ H Q=>t σ H fun c H1=>if c=true then ta σ H1 Q else tb σ H1 Q
theorem I0{c:Expr}(hc:PT X c tA)(ha:PE X a ta)(hb:PE X b tb):PE X (.IfExp c a b pos) (Fb tA ta tb):=by
 intro pins s σ H Q I h
 refine wpAny_IfExp (aF (hc pins s σ H _ I h) fun d s1 ⟨H1,I1,q1⟩=>?_)
 cases d with
 |true=>exact ha pins s1 σ H1 Q I1 q1
 |false=>exact hb pins s1 σ H1 Q I1 q1
end
noncomputable def aS(K:PySem.W.Frag)(H:Hp)(a:Addr)(xs:List V):Prop:=
 Rd H a (.lst xs)\/
  ∃(o:Obj) (its:Array Value) (n:Nat),K.lookup a=some o/\o.cls= .type "list" /\o.dict=none/\o.data= .seq its n/\its.size<=sizeLine/\Vals xs its.toList
noncomputable def gP(K:PySem.W.Frag)(H:Hp)(a:Addr)(xs:List V):Prop:=
 Rd H a (.tup xs)\/
  ∃(o:Obj) (its:Array Value) (n:Nat),K.lookup a=some o/\o.cls= .type "tuple" /\o.data= .seq its n/\its.size<=sizeLine/\Vals xs its.toList
noncomputable def RB:Value->Option V
 | .none=>some .aB
 | .bool b=>some (.bl b)
 | .int i _=>some (.int i)
 | .str x _=>some (.str x)
 | .bytes b _=>some (.iT b)
 | .float b _=>some (.kU b)
 | .ref a=>some (.ref a)
 | .type n=>some (.ty n)
 |_=>none
theorem RelV.abs{x:V}{u:Value}(r:RelV x u):RB u=some x:=by
 cases x with
 |aB=>cases r;rfl
 |bl _=>cases r;rfl
 |int _=>obtain⟨t,rfl⟩:=r;rfl
 |str _=>obtain⟨t,rfl⟩:=r;rfl
 |iT _=>obtain⟨t,rfl⟩:=r;rfl
 |kU _=>obtain⟨t,rfl⟩:=r;rfl
 |ref _=>cases r;rfl
 |ty _=>cases r;rfl
theorem RelV.inj{x y:V}{u:Value}(r:RelV x u)(q:RelV y u):x=y:=iM (r.abs.symm.trans q.abs)
theorem Vals.inj{xs ys:List V}{us:List Value}(h:Vals xs us)(k:Vals ys us):xs=ys:=by
 induction h generalizing ys with
 |nil=>cases k;rfl
 |cons r t ih=>cases k with|cons r' t'=>rw[r.inj r',ih t']
section
variable{X:Cx}{pins:List (Addr×Obj)}{σ:St}{H:Hp}{s:Shared}{a:Addr}{xs ys:List V}
theorem aS.of{K:PySem.W.Frag}(h:H a=some (.lst xs)):aS K H a xs:= .inl (.inl h)
theorem gP.of{K:PySem.W.Frag}(h:H a=some (.tup xs)):gP K H a xs:= .inl (.inl h)
theorem Inv.list(I:Inv X pins σ H s)(h:aS X.K H a xs):∃its:List Value,Vals xs its/\PlainL s.heap a its.toArray/\xs.length<=sizeLine:=by
 rcases h with h|⟨o,its,n,hk,hc,hd,hs,hz,r⟩
 ·obtain⟨z,its,n,r,e⟩:=h.ok I.hok
  exact⟨its,r,⟨_,n,e,rfl,rfl,rfl⟩,z⟩
 ·refine⟨its.toList,r,⟨o,n,I.bM a o hk,hc,hd,by simpa using hs⟩,?_⟩
  have e:=r.length
  simp only[cV] at e
  walk_at "o"
theorem Inv.tuple(I:Inv X pins σ H s)(h:gP X.K H a xs):∃its:List Value,Vals xs its/\IsTup s.heap a its.toArray/\xs.length<=sizeLine:=by
 rcases h with h|⟨o,its,n,hk,hc,hs,hz,r⟩
 ·obtain⟨z,its,r,p⟩:=h.ok I.hok
  exact⟨its,r,p,z⟩
 ·refine⟨its.toList,r,⟨o,I.bM a o hk,hc,n,by simpa using hs⟩,?_⟩
  have e:=r.length
  simp only[cV] at e
  walk_at "o"
theorem Inv.WJ(I:Inv X pins σ H s)(h:aS X.K H a xs)(h':aS X.K H a ys):xs=ys:=by
 obtain⟨its,r,⟨o,n,e,_,_,d⟩,_⟩:=I.list h
 obtain⟨its',r',⟨o',n',e',_,_,d'⟩,_⟩:=I.list h'
 rw[e] at e';cases e'
 rw[d] at d'
 injection d' with d1 _
 have:its=its':=by simpa using congrArg Array.toList d1
 subst this
 exact r.inj r'
end
noncomputable abbrev Cx.kO(X:Cx)(E:Value->Shared->Prop):Cx:={X with xe:=E}
noncomputable abbrev Cx.yH(X:Cx):Cx:=X.kO fun _ _=>False
theorem Cx.Ok.kO{X:Cx}(ok:X.Ok)(E:Value->Shared->Prop):(X.kO E).Ok:=
 ⟨ok.mod,ok.kind,ok.glob,ok.blt,ok.above,ok.inj,ok.has,ok.mE,ok.hd,ok.frames,ok.stk,ok.nU,ok.bs,ok.jW,ok.mT,ok.lZ,ok.gx,ok.kr⟩
theorem Cx.Ok.nI{X:Cx}{E:Value->Shared->Prop}(ok:(X.kO E).Ok):X.Ok:=
 ⟨ok.mod,ok.kind,ok.glob,ok.blt,ok.above,ok.inj,ok.has,ok.mE,ok.hd,ok.frames,ok.stk,ok.nU,ok.bs,ok.jW,ok.mT,ok.lZ,ok.gx,ok.kr⟩
section
variable{X:Cx}{pins:List (Addr×Obj)}{σ:St}{H:Hp}{s:Shared}{E:Value->Shared->Prop}
theorem Inv.kO(I:Inv X pins σ H s)(E:Value->Shared->Prop):Inv (X.kO E) pins σ H s:=⟨I.ok.kO E,I.os,I.bare,I.base,I.loc,I.cell,I.free,I.gu,I.pin,I.hok,I.len⟩
theorem Inv.nI(I:Inv (X.kO E) pins σ H s):Inv X pins σ H s:=⟨I.ok.nI,I.os,I.bare,I.base,I.loc,I.cell,I.free,I.gu,I.pin,I.hok,I.len⟩
theorem SP.nI{D:Ends}{f:Flow}{s':Shared}(h:SP (X.kO E) pins D f s'):SP X pins D f s':=by
 cases f with
 |next=>obtain⟨σ',H',I,q⟩:=h;exact⟨σ',H',I.nI,q⟩
 |brk=>obtain⟨σ',H',I,q⟩:=h;exact⟨σ',H',I.nI,q⟩
 |cont=>obtain⟨σ',H',I,q⟩:=h;exact⟨σ',H',I.nI,q⟩
 |ret u=>obtain⟨v,σ',H',I,r,q⟩:=h;exact⟨v,σ',H',I.nI,r,q⟩
theorem gn.yH{st:List Stmt}{t:TS}(h:gn X.yH st t):gn X st t:=fun pins s σ H D I hw=>
 wpAny_mono (h pins s σ H D (I.kO _) hw) (fun _ _ q=>q.nI) fun _ _ z=>False.elim z
end
section
variable{X:Cx}{st:Stmt}{rest:List Stmt}{t u:TS}{e:Expr}{te:TE}{pos:Pos}
noncomputable def E4:TS:=fun D σ H=>D.nx σ H
noncomputable def oM(t u:TS):TS:=fun D σ H=>t {D with nx:=u D} σ H
theorem fX:gn X [] E4:=fun _ _ σ H _ I h=>wpAny_execs_nil ⟨σ,H,I,h⟩
theorem aG(h1:PS X st t)(h2:gn X rest u):gn X (st::rest) (oM t u):=by
  intro pins s σ H D I h
  refine wpAny_execs_cons (aF (h1 pins s σ H {D with nx:=u D} I h) fun f s1 q=>?_)
  cases f with
  | next =>
    obtain⟨σ',H',I',q⟩:=q
    exact h2 pins s1 σ' H' D I' q
  |ret v=>exact q
  |brk=>exact q
  |cont=>exact q
theorem aJ(h1:PS X st t):gn X [st] t:=by
 intro pins s σ H D I h
 refine wpAny_execs_cons (aF (h1 pins s σ H D I h) fun f s1 q=>?_)
 cases f with
 |next=>exact wpAny_execs_nil q
 |ret v=>exact q
 |brk=>exact q
 |cont=>exact q
noncomputable def Rt:TS:=fun D σ H=>D.bk σ H
noncomputable def VZ:TS:=fun D σ H=>D.ct σ H
theorem Inv.quiet{pins:List (Addr×Obj)}{σ:St}{H:Hp}{s:Shared}(I:Inv X pins σ H s):interactive X.env=false:=by simp[interactive,I.ok.kind]
noncomputable def mV(te:TE):TS:=fun D σ H=>te σ H fun _ H1=>D.nx σ H1
theorem lP(he:PE X e te)(hs:swapsWith e none pos.line X.env=pure false:=by rfl):PS X (.Expr e pos) (mV te):=by
 intro pins s σ H D I h
 exact wpAny_Expr_any (aF (he pins s σ H _ I h) fun v s1 ⟨x,H1,I1,r1,q1⟩=>⟨σ,H1,I1,q1⟩) I.quiet hs
noncomputable def pN(te:TE):TS:=fun D σ H=>te σ H D.rt
theorem cL(he:PE X e te):PS X (.Return (some e) pos) (pN te):=by
 intro pins s σ H D I h
 exact wpAny_Return_some (aF (he pins s σ H _ I h) fun v s1 ⟨x,H1,I1,r1,q1⟩=>⟨x,σ,H1,I1,r1,q1⟩)
noncomputable def qV(c:TT)(t u:TS):TS:=fun D σ H=>c σ H fun b H1=>if b=true then t D σ H1 else u D σ H1
theorem dH{c:Expr}{a b:List Stmt}{tc:TT}(hc:PT X c tc)(ha:gn X a t)(hb:gn X b u):PS X (.If c a b pos) (qV tc t u):=by
 intro pins s σ H D I h
 refine wpAny_If (aF (hc pins s σ H _ I h) fun d s1 ⟨H1,I1,q1⟩=>?_)
 cases d with
 |true=>exact ha pins s1 σ H1 D I1 q1
 |false=>exact hb pins s1 σ H1 D I1 q1
end
noncomputable abbrev TG:=V->St->Hp->(St->Hp->Prop)->Prop
noncomputable abbrev jh:=List V->St->Hp->(St->Hp->Prop)->Prop
noncomputable def PG(X:Cx)(target:Expr)(t:TG):Prop:=
 ∀(pins:List (Addr×Obj)) (s:Shared) (σ:St) (H:Hp) (v:V) (u:Value) (Q:St->Hp->Prop),Inv X pins σ H s->RelV v u->t v σ H Q->
  wpAny (model X.prog X.w) X.A (assign target X.env u) (fun _ s'=>∃σ' H',Inv X pins σ' H' s'/\Q σ' H') X.xe s
noncomputable def vj(X:Cx)(ts:List Expr)(t:jh):Prop:=
 ∀(pins:List (Addr×Obj)) (s:Shared) (σ:St) (H:Hp) (vs:List V) (us:List Value) (Q:St->Hp->Prop),Inv X pins σ H s->Vals vs us->t vs σ H Q->
  wpAny (model X.prog X.w) X.A (assignInOrder ((assignEach ts X.env).map (·.2)) us) (fun _ s'=>∃σ' H',Inv X pins σ' H' s'/\Q σ' H') X.xe s
noncomputable abbrev xh:=V->V->V->Hp->(Hp->Prop)->Prop
noncomputable def E9(X:Cx)(t:xh):Prop:=
 ∀(pins:List (Addr×Obj)) (s:Shared) (σ:St) (H:Hp) (o i v:V) (ov iv u:Value) (Q:Hp->Prop),Inv X pins σ H s->RelV o ov->RelV i iv->RelV v u->t o i v H Q->
  wpAny (model X.prog X.w) X.A (setItem ov iv u) (fun _ s'=>∃H',Inv X pins σ H' s'/\Q H') X.xe s
section
variable{X:Cx}{pos:Pos}
noncomputable def gC(i:Nat):TG:=fun v σ H Q=>Q (σ.set i (some v)) H
theorem ko{i:Nat}{x:Str}(hN:X.N.Nodup)(hi:X.N[i]?=some x)(hx:Loc X.env.scope x)(hf:X.fn x=true\/X.env.scope.names.lookup x=some .local:=by first|exact .inl rfl|exact .inr rfl|assumption):PG X (.Name x pos) (gC i):=by
 intro pins s σ H v u Q I r h
 exact wpAny_assign_Name (xN I hN hi hx r (fun s' I'=>⟨_,H,I',h⟩) hf)
noncomputable def Gg:jh:=fun vs σ H Q=>vs=[]/\Q σ H
noncomputable def Lb(t:TG)(u:jh):jh:=fun vs σ H Q=>∃v r,vs=v::r/\t v σ H fun σ' H'=>u r σ' H' Q
theorem So:vj X [] Gg:=by
 intro pins s σ H vs us Q I r h
 obtain⟨e,h⟩:=h
 subst e
 cases r
 exact assignInOrder_nil ⟨σ,H,I,h⟩
theorem Jm{e:Expr}{es:List Expr}{t:TG}{u:jh}(h1:PG X e t)(h2:vj X es u)
    (hs:(assignEach (e::es) X.env).map (·.2)=assign e X.env::(assignEach es X.env).map (·.2):=by rfl):vj X (e::es) (Lb t u):=by
  intro pins s σ H vs us Q I r h
  obtain⟨v,vr,e1,h⟩:=h
  subst e1
  cases r with
  | cons r rr =>
    rw[hs]
    refine assignInOrder_cons (aF (h1 pins s σ H _ _ _ I r h) fun _ s1 ⟨σ1,H1,I1,q1⟩=>?_)
    exact h2 pins s1 σ1 H1 _ _ Q I1 rr q1
noncomputable def E3(K:PySem.W.Frag)(n:Nat)(t:jh):TG:=fun v σ H Q=>∃a xs,v= .ref a/\gP K H a xs/\xs.length=n/\t xs σ H Q
theorem R1{es:List Expr}{k:Nat}{t:jh}{n:Nat}(hc:X.calm=true)(h:vj X es t)
  (hn:(assignEach es X.env).length=n:=by rfl) (hst:(assignEach es X.env).findIdx? (·.1)=none:=by rfl):PG X (.Tuple es k pos) (E3 X.K n t):=by
 intro pins s σ H v u Q I r hw
 obtain⟨a,xs,e1,hq,hl,hw⟩:=hw
 subst e1
 cases r
 obtain⟨its,rv,ht,hz⟩:=I.tuple hq
 refine assign_Tuple_tuple (I.ok.hd hc) ht (by simp[hn,<-hl,rv.length]) hst fun h' hx=>?_
 have I1:Inv X pins σ H {s with heap:=h'}:=I.kept (t':=s.toks) fun b o e=>hx b o (cX (bC e)) e
 exact h pins _ σ H xs _ Q I1 (by simpa using rv) hw
noncomputable def zp(to ti:TE)(t:xh):TG:=fun v σ H Q=>to σ H fun o H1=>ti σ H1 fun i H2=>t o i v H2 fun H3=>Q σ H3
theorem nF{o i:Expr}{to ti:TE}{t:xh}(ho:PE X o to)(hi:PE X i ti)(hs:E9 X t)
  (ha : ∀ v, assign (.Subscript o i pos) X.env v = (do
   let ov<-holding [v] (eval o X.env)
   let iv<-holding [v,ov] (eval i X.env)
   standAt pos
   holding [v,ov,iv] (setItem ov iv v)
   release [v,ov,iv] []):=by intro _;rfl):PG X (.Subscript o i pos) (zp to ti t):=by
 intro pins s σ H v u Q I r h
 rw[ha]
 refine wpAny_bind (wpAny_holding (aF (ho pins s σ H _ I h) fun ov s1 ⟨x,H1,I1,r1,q1⟩=>?_))
 refine wpAny_bind (wpAny_holding (aF (hi pins s1 σ H1 _ I1 q1) fun iv s2 ⟨y,H2,I2,r2,q2⟩=>?_))
 refine wpAny_bind (wpAny_standAt (wpAny_bind (wpAny_holding (aF (hs pins s2 σ H2 x y v ov iv u _ I2 r1 r2 r q2) fun _ s3 ⟨H3,I3,q3⟩=>?_))))
 exact wpAny_release ⟨σ,H3,I3,q3⟩
noncomputable def i6(te:TE)(g:TG):TS:=fun D σ H=>te σ H fun x H1=>g x σ H1 D.nx
theorem m8{tg e:Expr}{te:TE}{g:TG}(he:PE X e te)(hg:PG X tg g)(hs:swapsWithSole [tg] e pos.line X.env=pure false:=by rfl)(hw:swappedStores [tg] e X.env=pure none:=by rfl)
  (h1:(assignEach [tg] X.env).map (·.2)=[assign tg X.env]:=by rfl):PS X (.Assign [tg] e pos) (i6 te g):=by
 intro pins s σ H D I h
 refine wpAny_Assign_stores (aF (he pins s σ H _ I h) fun v s1 ⟨x,H1,I1,r1,q1⟩=>?_) hs hw
 rw[h1]
 exact aF (hg pins s1 σ H1 x v _ I1 r1 q1) fun _ s2 q=>q
theorem bD{i:Nat}{x:Str}{e:Expr}{te:TE}{pos':Pos}(hN:X.N.Nodup)(hi:X.N[i]?=some x)(hx:Loc X.env.scope x)(he:PE X e te)(hs:swapsWith e (some (.Name x pos')) pos.line X.env=pure false:=by rfl)(hf:X.fn x=true\/X.env.scope.names.lookup x=some .local:=by first|exact .inl rfl|exact .inr rfl|assumption):
  PS X (.Assign [.Name x pos'] e pos) (i6 te (gC i)):=by
 intro pins s σ H D I h
 refine wpAny_Assign_Name (aF (he pins s σ H _ I h) fun v s1 ⟨y,H1,I1,r1,q1⟩=>?_) hs
 exact xN I1 hN hi hx r1 (fun s2 I2=>⟨_,H1,I2,q1⟩) hf
end
structure It where
 go:Nat->Hp->Prop
 n6:Nat->Hp->V->Hp->Prop
 stop:Nat->Hp->Prop
noncomputable def kL(X:Cx)(pins:List (Addr×Obj))(H:Hp)(b:Addr):Prop:=
 H b=none/\b≠X.env.locals/\b∉X.fs/\(b∈X.ex\/X.s₀.heap.objs.size<=b)/\(∀x c,X.env.cells.lookup x=some c->c≠b)/\∀p∈X.pn++pins,p.1≠b
theorem Inv.AY{X:Cx}{pins:List (Addr×Obj)}{σ:St}{H H':Hp}{s:Shared}{b:Addr}(I:Inv X pins σ H s)(hb:s.heap.objs.size<=b)(hn:H' b=none):kL X pins H' b:=by
 refine⟨hn,Ak (dM I.lt hb),I.Rv hb, .inr (dw I.sz hb),fun x c e z=>?_,fun p hp z=>?_⟩
 ·obtain⟨v,q⟩:=I.cell x c e
  exact absurd (dM q.lt (by rw[z];exact hb)) (lQ _)
 ·exact absurd (dM (bC (I.pin p hp).1) (by rw[z];exact hb)) (lQ _)
structure Turn(P:Program)(w:World)(K:PySem.W.Frag)(tg:Expr)(J:It)(fp:List Addr)(it:Addr)(tn:Nat->Heap->Prop):Prop where
 mem:it∈fp
 obj:∀i h,tn i h->∀b∈fp,∃o,h.get? b=some o/\∀v,o.data≠ .cell v
 keep:∀i h h',tn i h->(∀b∈fp,∀o,h.get? b=some o->h'.get? b=some o)->tn i h'
 item:∀(X:Cx),X.prog=P->X.w=w->X.K=K->X.calm=true->∀(i:Nat) (pins:List (Addr×Obj)) (s:Shared) (σ:St) (H:Hp) (E:Value->Shared->Prop),Inv X pins σ H s->(∀b∈fp,kL X pins H b)->tn i s.heap->J.go i H->
  wpAny (model P w) X.A (pyNext (.ref it)) (fun r s1=>∃u,r=some u/\
   wpAny (model P w) X.A (letOwnedTupleGo tg (.ref it) u) (fun _ s2=>∃x H',Inv X pins σ H' s2/\RelV x u/\J.n6 i H x H'/\tn (i+1) s2.heap/\∀b∈fp,H' b=none) E s1) E s
 done:∀(X:Cx),X.prog=P->X.w=w->X.K=K->X.calm=true->∀(i:Nat) (pins:List (Addr×Obj)) (s:Shared) (σ:St) (H:Hp) (E:Value->Shared->Prop),Inv X pins σ H s->(∀b∈fp,kL X pins H b)->tn i s.heap->J.stop i H->
  wpAny (model P w) X.A (pyNext (.ref it)) (fun r s1=>r=none/\Inv X pins σ H s1) E s
 self:∀(A:Around) (i:Nat) (s:Shared) (Q:Value->Shared->Prop) (E:Value->Shared->Prop),tn i s.heap->Q (.ref it) s->wpAny (model P w) A (pyIter (.ref it)) Q E s
noncomputable abbrev TI:=St->Hp->(It->Hp->Prop)->Prop
noncomputable def J2(X:Cx)(pins:List (Addr×Obj))(σ:St)(tg:Expr)(R:It->Hp->Prop)(itv:Value)(s2:Shared):Prop:=
 ∃(it:Addr) (fp:List Addr) (tn:Nat->Heap->Prop) (J:It) (H':Hp),itv= .ref it/\Inv X pins σ H' s2/\Turn X.prog X.w X.K tg J fp it tn/\tn 0 s2.heap/\(∀b∈fp,kL X pins H' b)/\R J H'
noncomputable def PI(X:Cx)(tg iter:Expr)(wi:TI):Prop:=
 ∀(pins:List (Addr×Obj)) (s:Shared) (σ:St) (H:Hp) (R:It->Hp->Prop),Inv X pins σ H s->wi σ H R->
  wpAny (model X.prog X.w) X.A (eval iter X.env) (fun v s1=>wpAny (model X.prog X.w) X.A (pyIter v) (J2 X pins σ tg R) X.xe s1) X.xe s
theorem IG{M:Model}{A:Around}{E:Value->Shared->Prop}{s:Shared}{tg:Expr}{it:Addr}{u:Value}{o:Obj}{n:String}{vs:Array Value}{Q:Unit->Shared->Prop}(ho:s.heap.get? it=some o)(hc:o.cls= .type n)(hd:o.data= .fields vs)
    (hn:["enumerate","zip","dict_itemiterator","dict_reverseitemiterator","odict_iterator","itertools.zip_longest","itertools.pairwise"].contains n=false) (hQ:Q () s):wpAny M A (letOwnedTupleGo tg (.ref it) u) Q E s:=by
  unfold letOwnedTupleGo
  cases tg<;>first
    |exact wpAny_pure hQ
    |(cases u<;>first
        |exact wpAny_pure hQ
        | (refine wpAny_bind (wpAny_load ho ?_)
           rw[hc,hd]
           show wpAny M A (if(["enumerate","zip","dict_itemiterator","dict_reverseitemiterator","odict_iterator","itertools.zip_longest","itertools.pairwise"].contains n && vs[0]?==some (rawInt _))=true then _ else _) Q E s
           rw[if_neg (by intro h;rw[hn,Bool.false_and] at h;cases h)]
           exact wpAny_pure hQ))
noncomputable def pC(K:PySem.W.Frag)(a:Addr):It:=
 ⟨fun i H=>∃xs x,aS K H a xs/\xs[i]?=some x,fun i H x H'=>H'=H/\∀xs,aS K H a xs->xs[i]?=some x,fun i H=>∃xs,aS K H a xs/\xs.length<=i⟩
noncomputable def ji(lo:Int)(n:Nat):It:=⟨fun i _=>i<n,fun i H x H'=>H'=H/\x= .int (lo+i),fun i _=>n<=i⟩
theorem V8{P:Program}{w:World}{K:PySem.W.Frag}{tg:Expr}(a it:Addr):Turn P w K tg (pC K a) [it] it (fun i h=>h.IsListIter it a i) where
 mem:=by simp
 obj:=fun i h st b hb=>by
  have e:b=it:=by simpa using hb
  subst e
  obtain⟨o,e,c,d⟩:=st
  exact⟨o,e,fun v z=>by rw[d] at z;cases z⟩
 keep:=fun i h h' st k=>st.at fun o e=>k it (by simp) o e
 item:=by
  intro X hP hw hK hc i pins s σ H E I hf st hg
  subst hP hw hK
  obtain⟨xs,x,hq,hx⟩:=hg
  obtain⟨its,rv,p,hz⟩:=I.list hq
  obtain⟨u,hu,ru⟩:=rv.get hx
  obtain⟨f0,f1,f2,f3,f4,f5⟩:=hf it (by simp)
  refine wpAny_pyNext_list_item st p.isList (x:=u) (by simpa using hu) fun h' st' sb=>?_
  have I1:Inv X pins σ H {s with heap:=h'}:=I.turned (t':=s.toks) (fun b o hb e=>(sb.2 b hb).trans e) f0 f1 f3 f4 f5
  obtain⟨o,e,c,d⟩:=id st'
  exact⟨u,rfl,IG (s:={s with heap:=h'}) e c d (by decide) ⟨x,H,I1,ru,⟨rfl,fun ys hy=>by rw[I.WJ hy hq];exact hx⟩,st',fun b hb=>(hf b hb).1⟩⟩
 done:=by
  intro X hP hw hK hc i pins s σ H E I hf st hg
  subst hP hw hK
  obtain⟨xs,hq,hx⟩:=hg
  obtain⟨its,rv,p,hz⟩:=I.list hq
  obtain⟨f0,f1,f2,f3,f4,f5⟩:=hf it (by simp)
  have hl:=rv.length
  exact wpAny_pyNext_list_end (I.ok.hd hc) st p.isList (by simp;walk_at "o") fun h' eb=>⟨rfl,I.turned (t':=s.toks) (fun b o hb e=>eb b o hb e) f0 f1 f3 f4 f5⟩
 self:=fun _ _ _ _ _ st h=>wpAny_pyIter_listiter st h
theorem UW{P:Program}{w:World}{K:PySem.W.Frag}{tg:Expr}(it:Addr)(lo:Int)(n:Nat):Turn P w K tg (ji lo n) [it] it (fun i h=>IsRangeIter h it (lo+(i:Nat)*1) ((n:Int)-(i:Nat)) 1) where
 mem:=by simp
 obj:=fun i h st b hb=>by
  have e:b=it:=by simpa using hb
  subst e
  exact⟨_,st,fun v z=>by
   have z':Data.fields _=Data.cell v:=z
   cases z'⟩
 keep:=fun i h h' st k=>k it (by simp) _ st
 item:=by
  intro X hP hw hK hc i pins s σ H E I hf st hg
  subst hP hw hK
  obtain⟨f0,f1,f2,f3,f4,f5⟩:=hf it (by simp)
  have W:=Walks.range (prog:=X.prog) (w:=X.w) (I.ok.hd hc) it lo 1 n
  refine W.item i s _ _ hg st fun v h' tk hv st' kk=>?_
  obtain⟨t,rfl⟩:=hv
  have I1:Inv X pins σ H {s with heap:=h',toks:=tk}:=I.turned (fun b o hb e=>kk b o (by simpa using hb) e) f0 f1 f3 f4 f5
  refine⟨_,rfl,IG (s:={s with heap:=h',toks:=tk}) (n:="range_iterator") st' rfl rfl (by decide) ⟨.int (lo+i),H,I1,⟨t,?_⟩,⟨rfl,rfl⟩,st',fun b hb=>(hf b hb).1⟩⟩
  rw[Int.mul_one]
 done:=by
  intro X hP hw hK hc i pins s σ H E I hf st hg
  subst hP hw hK
  obtain⟨f0,f1,f2,f3,f4,f5⟩:=hf it (by simp)
  exact wpAny_pyNext_range_end (I.ok.hd hc) st (by have:n<=i:=hg;walk_at "o") fun h' eb=>⟨rfl,I.turned (t':=s.toks) (fun b o hb e=>eb b o hb e) f0 f1 f3 f4 f5⟩
 self:=fun _ _ _ _ _ st h=>wpAny_pyIter_rangeiter st h
section
variable{X:Cx}{tg:Expr}
noncomputable def vc(K:PySem.W.Frag)(tl:TE):TI:=fun σ H R=>tl σ H fun x H1=>∃a,x= .ref a/\(∃xs,aS K H1 a xs)/\R (pC K a) H1
theorem V0{l:Expr}{tl:TE}(hl:PE X l tl):PI X tg l (vc X.K tl):=by
 intro pins s σ H R I h
 refine aF (hl pins s σ H _ I h) fun v s1 ⟨x,H1,I1,r1,q1⟩=>?_
 obtain⟨a,e,⟨xs,hq⟩,q⟩:=q1
 subst e
 cases r1
 obtain⟨its,rv,p,hz⟩:=I1.list hq
 refine wpAny_pyIter_list p.isList ?_
 refine⟨s1.heap.objs.size,[s1.heap.objs.size],_,_,H1,rfl,I1.kept (t':=s1.toks) fun b o e=>cz _ e,V8 a _,⟨_,fS _ rfl,rfl,rfl⟩,fun b hb=>?_,q⟩
 have e:b=s1.heap.objs.size:=by simpa using hb
 subst e
 exact I1.AY (aE _) (I1.hok.fresh (aE _))
theorem Ht{pins:List (Addr×Obj)}{σ:St}{H:Hp}{s:Shared}{R:It->Hp->Prop}{E:Value->Shared->Prop}{lo hi:Int}{t u v:Tok}{tk:Nat}(I:Inv X pins σ H s)(h1: -(2^62)<=lo)(h2:lo<2^62)(h3: -(2^62)<=hi)(h4:hi<2^62)
  (q:R (ji lo (hi-lo).toNat) H):wpAny (model X.prog X.w) X.A (pyIter (.ref s.heap.objs.size)) (J2 X pins σ tg R) E {s with heap:=s.heap.push {cls:= .type "range",data:= .fields #[.int lo t, .int hi u, .int 1 v]},toks:=tk}:=by
 refine wpAny_pyIter_range (IsRange.new ..) (small_one h1 h2 h3 h4) ?_
 have I1:Inv X pins σ H {s with heap:=s.heap.push {cls:= .type "range",data:= .fields #[.int lo t, .int hi u, .int 1 v]},toks:=tk}:=I.kept fun b o e=>cz _ e
 refine⟨(s.heap.push {cls:= .type "range",data:= .fields #[.int lo t, .int hi u, .int 1 v]}).objs.size,[(s.heap.push {cls:= .type "range",data:= .fields #[.int lo t, .int hi u, .int 1 v]}).objs.size],_,_,H,rfl,
  I1.kept (t':=tk) fun b o e=>cz _ e,UW _ lo (hi-lo).toNat,?_,fun b hb=>?_,q⟩
 ·have e1:lo+((0:Nat):Int)*1=lo:=by simp
  have e2:(((hi-lo).toNat:Nat):Int)-((0:Nat):Int)=Builtin.Range.rangeSize lo hi 1:=by rw[rangeSize_one];split<;>walk_at "o"
  show IsRangeIter _ _ (lo+((0:Nat):Int)*1) ((((hi-lo).toNat:Nat):Int)-((0:Nat):Int)) 1
  rw[e1,e2]
  exact fS _ rfl
 ·have e:b=(s.heap.push {cls:= .type "range",data:= .fields #[.int lo t, .int hi u, .int 1 v]}).objs.size:=by simpa using hb
  subst e
  exact I1.AY (aE _) (I1.hok.fresh (aE _))
noncomputable def vH(ta:TA):TI:=fun σ H R=>ta σ H fun vs H1=>∃j:Int,vs=[.int j]/\ -(2^62)<=j/\j<2^62/\R (ji 0 j.toNat) H1
noncomputable def MU(ta:TA):TI:=fun σ H R=>ta σ H fun vs H1=>∃i j:Int,vs=[.int i, .int j]/\(-(2^62)<=i/\i<2^62/\ -(2^62)<=j/\j<2^62)/\R (ji i (j-i).toNat) H1
theorem vS{a:Expr}{ta:TA}{p pos:Pos}(hg:Gl X "range")(hm:X.mg "range"=none)(ha:PA X [a] ta)(hs:starEach [a] X.env=[(false,eval a X.env)]:=by rfl):PI X tg (.Call (.Name "range" p) [a] [] pos) (vH ta):=by
  intro pins s σ H R I h
  refine Call_ (sP I hg hm boot_range (EG (aF (ha pos pins s σ H _ I h) fun us s1 ⟨vs,H1,I1,r1,q1⟩=>?_) hs rfl))
  obtain⟨j,e,q1,q2,q⟩:=q1
  subst e
  cases r1 with
  | cons r rr =>
    cases rr
    obtain⟨t,rfl⟩:=r
    exact call_range_1 (Ht I1 (by walk_at "o") (by walk_at "o") q1 q2 (by simpa using q))
theorem Jp{a b:Expr}{ta:TA}{p pos:Pos}(hg:Gl X "range")(hm:X.mg "range"=none)(ha:PA X [a,b] ta)(hs:starEach [a,b] X.env=[(false,eval a X.env),(false,eval b X.env)]:=by rfl)(hs2:starEach [b] X.env=[(false,eval b X.env)]:=by rfl):
    PI X tg (.Call (.Name "range" p) [a,b] [] pos) (MU ta):=by
  intro pins s σ H R I h
  refine Call_ (sP I hg hm boot_range (EG (aF (ha pos pins s σ H _ I h) fun us s1 ⟨vs,H1,I1,r1,q1⟩=>?_) (by rw[hs,hs2]) (by rw[hs2];rfl)))
  obtain⟨i,j,e,⟨q1,q2,q3,q4⟩,q⟩:=q1
  subst e
  cases r1 with
  | cons r rr =>
    cases rr with
    | cons r' rr =>
      cases rr
      obtain⟨t,rfl⟩:=r
      obtain⟨t',rfl⟩:=r'
      exact call_range_2 (Ht I1 q1 q2 q3 q4 q)
noncomputable def wg(wi:TI)(g:TG)(tb:TS):TS:=fun D σ H=>wi σ H fun J H1=>∃W:Nat->Nat->St->Hp->Prop,(∃m,W 0 m σ H1)/\∀i m σ H,W i m σ H->
 (J.stop i H/\D.nx σ H)\/(J.go i H/\∃N:St->Hp->Prop,(∀σ' H',N σ' H'->∃m',m'<m/\W (i+1) m' σ' H')/\∀x H',J.n6 i H x H'->g x σ H' fun σ2 H2=>tb {D with nx:=N,ct:=N,bk:=D.nx} σ2 H2)
noncomputable def vo(fp:List Addr)(h:Heap):List (Addr×Obj):=fp.filterMap fun b=>(h.get? b).map fun o=>(b,o)
theorem wV{fp:List Addr}{h:Heap}{b:Addr}{o:Obj}(hb:b∈fp)(e:h.get? b=some o):(b,o)∈vo fp h:=u0.mpr ⟨b,hb,by rw[e];rfl⟩
theorem Xk{fp:List Addr}{h:Heap}{p:Addr×Obj}(hp:p∈vo fp h):p.1∈fp/\h.get? p.1=some p.2:=by
  obtain⟨b,hb,e⟩:=u0.mp hp
  cases q:h.get? b with
  |none=>rw[q] at e;cases e
  | some o =>
    rw[q] at e
    have e':(b,o)=p:=iM e
    subst e'
    exact⟨hb,q⟩
theorem Inv.pinned{pins:List (Addr×Obj)}{σ:St}{H:Hp}{s:Shared}{fp:List Addr}(I:Inv X pins σ H s)(hf:∀b∈fp,kL X pins H b)(ho:∀b∈fp,∃o,s.heap.get? b=some o/\∀v,o.data≠ .cell v):Inv X (pins++vo fp s.heap) σ H s:=
 I.Mt fun p hp=>(jc.mp hp).elim (fun z=>I.pin p (jY _ z)) fun z=>by
  obtain⟨hb,e⟩:=Xk z
  obtain⟨f0,f1,f2,_⟩:=hf p.1 hb
  obtain⟨o,e',d⟩:=ho p.1 hb
  rw[e] at e';cases e'
  exact⟨e,f0,f1,f2,d⟩
theorem Inv.vI{pins pl:List (Addr×Obj)}{σ:St}{H:Hp}{s:Shared}(I:Inv X (pins++pl) σ H s):Inv X pins σ H s:=I.Mt fun p hp=>I.pin p (jY _ (ug _ hp))
theorem xw{iter:Expr}{body:List Stmt}{wi:TI}{g:TG}{tb:TS}{pos:Pos}(hp:PassesOwn (model X.prog X.w) X.A X.env X.xe)(hc:X.calm=true)(hi:PI X tg iter wi)(hg:PG X tg g)(hb:gn X body tb)
  (hs:∀x,foldedSetIterable iter X.env x=pure x:=by intro _;rfl):PS X (.For tg iter body [] pos) (wg wi g tb):=by
 intro pins s σ H D I h
 refine wpAny_For (aF (hi pins s σ H _ I h) fun v s1 h1=>aF h1 fun itv s2 h2=>?_) hs
 obtain⟨it,fp,tn,J,H2,e,I2,T,st2,f2,W,⟨m0,w0⟩,turn⟩:=h2
 subst e
 have nV:∀{H':Hp},(∀b∈fp,H' b=none)->∀b∈fp,kL X pins H' b:=fun hn b hb=>⟨hn b hb,(f2 b hb).2⟩
 refine codeAny_forLoop_any (fun n s'=>∃i σ' H',Inv X pins σ' H' s'/\tn i s'.heap/\(∀b∈fp,H' b=none)/\W i n σ' H') ?_ m0 ⟨0,σ,H2,I2,st2,fun b hb=>(f2 b hb).1,w0⟩
 rintro n s3 ⟨i,σ3,H3,I3,st3,fr3,w3⟩
 rcases turn i n σ3 H3 w3 with ⟨stop,qn⟩|⟨go,N,hN,step⟩
 ·refine wpAny_passesOwn hp (aF (T.done X rfl rfl rfl hc i pins s3 σ3 H3 X.xe I3 (nV fr3) st3 stop) fun r s4 ⟨hr,I4⟩=>?_)
  subst hr
  exact wpAny_execs_nil ⟨σ3,H3,I4,qn⟩
 ·refine wpAny_passesOwn hp (aF (T.item X rfl rfl rfl hc i pins s3 σ3 H3 X.xe I3 (nV fr3) st3 go) fun r s4 ⟨u,hr,h4⟩=>?_)
  subst hr
  refine wpAny_passesOwn hp (aF h4 fun _ s5 ⟨x,H5,I5,r5,y5,oZ,Dn⟩=>?_)
  have Bl:=I5.pinned (nV Dn) (T.obj _ _ oZ)
  refine wpAny_passesOwn hp (aF (hg _ s5 σ3 H5 x u _ Bl r5 (step x H5 y5)) fun _ s6 ⟨tR,H6,I6,q6⟩=>?_)
  refine wpAny_passesOwn hp (aF (hb _ s6 tR H6 _ I6 q6) fun f s7 q7=>?_)
  have again:∀{j8:St} {H7:Hp},Inv X (pins++vo fp s5.heap) j8 H7 s7->N j8 H7->∃m,m<n/\∃i σ' H',Inv X pins σ' H' s7/\tn i s7.heap/\(∀b∈fp,H' b=none)/\W i m σ' H':=fun{j8 H7} I7 n7=>by
   obtain⟨m',hm,w7⟩:=hN j8 H7 n7
   refine⟨m',hm,i+1,j8,H7,I7.vI,T.keep _ _ _ oZ fun b hb o e=>(I7.pin (b,o) (jY _ (jY _ (wV hb e)))).1,fun b hb=>?_,w7⟩
   obtain⟨o,e,d⟩:=T.obj _ _ oZ b hb
   exact(I7.pin (b,o) (jY _ (jY _ (wV hb e)))).2.1
  cases f with
  |next=>obtain⟨j8,H7,I7,n7⟩:=q7;exact again I7 n7
  |cont=>obtain⟨j8,H7,I7,n7⟩:=q7;exact again I7 n7
  |brk=>obtain⟨j8,H7,I7,q7⟩:=q7;exact⟨j8,H7,I7.vI,q7⟩
  |ret v=>obtain⟨x7,j8,H7,I7,r7,q7⟩:=q7;exact⟨x7,j8,H7,I7.vI,r7,q7⟩
end
theorem Sq{K:PySem.W.Frag}{a:Addr}{xs:List V}{g:TG}{tb:TS}{D:Ends}{σ:St}{H:Hp}(Pv:Nat->St->Hp->Prop)(h0:Pv 0 σ H)(hl:∀i σ H,i<=xs.length->Pv i σ H->aS K H a xs)
  (hs:∀i x σ H,xs[i]?=some x->Pv i σ H->g x σ H fun σ2 H2=>tb {D with nx:=Pv (i+1),ct:=Pv (i+1),bk:=D.nx} σ2 H2) (hd:∀σ H,Pv xs.length σ H->D.nx σ H):
  ∃W:Nat->Nat->St->Hp->Prop,(∃m,W 0 m σ H)/\∀i m σ H,W i m σ H->
   ((pC K a).stop i H/\D.nx σ H)\/((pC K a).go i H/\∃N:St->Hp->Prop,(∀σ' H',N σ' H'->∃m',m'<m/\W (i+1) m' σ' H')/\∀x H',(pC K a).n6 i H x H'->g x σ H' fun σ2 H2=>tb {D with nx:=N,ct:=N,bk:=D.nx} σ2 H2):=by
 refine⟨fun i m σ H=>m=xs.length-i/\i<=xs.length/\Pv i σ H,⟨xs.length,by simp,eU _,h0⟩,?_⟩
 rintro i m σ H ⟨rfl,hi,p⟩
 have q:=hl i σ H hi p
 by_cases hlt:i<xs.length
 ·refine .inr ⟨⟨xs,xs[i],q,by simp[hlt]⟩,Pv (i+1),fun σ' H' p'=>⟨xs.length-(i+1),by walk_at "o",rfl,hlt,p'⟩,fun x H' y=>?_⟩
  obtain⟨e,y⟩:=y
  subst e
  exact hs i x σ _ (y xs q) p
 ·have e:i=xs.length:=by walk_at "o"
  subst e
  exact .inl ⟨⟨xs,q,aE _⟩,hd σ H p⟩
theorem Nh{lo:Int}{n:Nat}{g:TG}{tb:TS}{D:Ends}{σ:St}{H:Hp}(Pv:Nat->St->Hp->Prop)(h0:Pv 0 σ H)
  (hs:∀i σ H,i<n->Pv i σ H->g (.int (lo+i)) σ H fun σ2 H2=>tb {D with nx:=Pv (i+1),ct:=Pv (i+1),bk:=D.nx} σ2 H2) (hd:∀σ H,Pv n σ H->D.nx σ H):
  ∃W:Nat->Nat->St->Hp->Prop,(∃m,W 0 m σ H)/\∀i m σ H,W i m σ H->
   ((ji lo n).stop i H/\D.nx σ H)\/((ji lo n).go i H/\∃N:St->Hp->Prop,(∀σ' H',N σ' H'->∃m',m'<m/\W (i+1) m' σ' H')/\∀x H',(ji lo n).n6 i H x H'->g x σ H' fun σ2 H2=>tb {D with nx:=N,ct:=N,bk:=D.nx} σ2 H2):=by
 refine⟨fun i m σ H=>m=n-i/\i<=n/\Pv i σ H,⟨n,by simp,eU _,h0⟩,?_⟩
 rintro i m σ H ⟨rfl,hi,p⟩
 by_cases hlt:i<n
 ·refine .inr ⟨hlt,Pv (i+1),fun σ' H' p'=>⟨n-(i+1),by walk_at "o",rfl,hlt,p'⟩,fun x H' y=>?_⟩
  obtain⟨e,y⟩:=y
  subst e y
  exact hs i σ _ hlt p
 ·have e:i=n:=by walk_at "o"
  subst e
  exact .inl ⟨aE _,hd σ H p⟩
noncomputable abbrev R2:=V->V->Hp->VK->Prop
noncomputable def dB(X:Cx)(f:Value->Value->Sem Value)(r:R2):Prop:=
 ∀(pins:List (Addr×Obj)) (s:Shared) (σ:St) (H:Hp) (x y:V) (v u:Value) (Q:VK),Inv X pins σ H s->RelV x v->RelV y u->r x y H Q->
  wpAny (model X.prog X.w) X.A (f v u) (EP X pins σ Q) X.xe s
noncomputable def CW(X:Cx)(f:Value->Sem Value)(r:V->Hp->VK->Prop):Prop:=
 ∀(pins:List (Addr×Obj)) (s:Shared) (σ:St) (H:Hp) (x:V) (v:Value) (Q:VK),Inv X pins σ H s->RelV x v->r x H Q->
  wpAny (model X.prog X.w) X.A (f v) (EP X pins σ Q) X.xe s
noncomputable def fY(X:Cx)(f:Value)(r:List V->Hp->VK->Prop):Prop:=
 ∀(pins:List (Addr×Obj)) (s:Shared) (σ:St) (H:Hp) (xs:List V) (us:List Value) (Q:VK),Inv X pins σ H s->Vals xs us->r xs H Q->
  wpAny (model X.prog X.w) X.A (call f us) (EP X pins σ Q) X.xe s
noncomputable def Uh(X:Cx)(r:V->Hp->(Bool->Hp->Prop)->Prop):Prop:=
 ∀(pins:List (Addr×Obj)) (s:Shared) (σ:St) (H:Hp) (x:V) (v:Value) (Q:Bool->Hp->Prop),Inv X pins σ H s->RelV x v->r x H Q->
  wpAny (model X.prog X.w) X.A (truthy v) (TP X pins σ Q) X.xe s
noncomputable def cG(r:R2)(ta tb:TE):TE:=fun σ H Q=>ta σ H fun x H1=>tb σ H1 fun y H2=>r x y H2 Q
noncomputable def A0(r:V->Hp->VK->Prop)(ta:TE):TE:=fun σ H Q=>ta σ H fun x H1=>r x H1 Q
noncomputable def rI(C:Int->Int->Prop)(g:Int->Int->V):R2:=fun x y H Q=>∃i j,x= .int i/\y= .int j/\C i j/\Q (g i j) H
noncomputable def fL(g:Int->Int->V):R2:=fun x y H Q=>∃i j,x= .int i/\y= .int j/\Q (g i j) H
noncomputable def rU(g:Int->V):V->Hp->VK->Prop:=fun x H Q=>∃i,x= .int i/\Q (g i) H
section
variable{X:Cx}{a b c:Expr}{ta tb tc:TE}{pos:Pos}
theorem Bh(ha:PE X a ta)(hb:PE X b tb){pins:List (Addr×Obj)}{s:Shared}{σ:St}{H:Hp}{R:V->V->Hp->Prop}(I:Inv X pins σ H s)
  (h:ta σ H fun x H1=>tb σ H1 fun y H2=>R x y H2) {Q:Value->Shared->Prop} {f:Value->Value->Sem Value}
  (hf:∀v u s2 x y H2,Inv X pins σ H2 s2->RelV x v->RelV y u->R x y H2->wpAny (model X.prog X.w) X.A (f v u) Q X.xe s2):
  wpAny (model X.prog X.w) X.A (eval a X.env) (fun v s₁=>wpAny (model X.prog X.w) X.A (eval b X.env) (fun u s₂=>wpAny (model X.prog X.w) X.A (f v u) Q X.xe s₂) X.xe s₁) X.xe s:=by
 refine aF (ha pins s σ H _ I h) fun v s1 ⟨x,H1,I1,r1,q1⟩=>?_
 refine aF (hb pins s1 σ H1 _ I1 q1) fun u s2 ⟨y,H2,I2,r2,q2⟩=>?_
 exact hf v u s2 x y H2 I2 r1 r2 q2
theorem aU{op:Operator}{r:R2}(ho:dB X (binaryOp op) r)(ha:PE X a ta)(hb:PE X b tb):PE X (.BinOp a op b pos) (cG r ta tb):=by
 intro pins s σ H Q I h
 exact wpAny_BinOp (Bh ha hb I h fun v u s2 x y H2 I2 rx ry q=>ho pins s2 σ H2 x y v u Q I2 rx ry q)
theorem S8{op:UnaryOp}{r:V->Hp->VK->Prop}(ho:CW X (unaryOp op) r)(ha:PE X a ta):PE X (.UnaryOp op a pos) (A0 r ta):=by
 intro pins s σ H Q I h
 exact UnaryOp_ (aF (ha pins s σ H _ I h) fun v s1 ⟨x,H1,I1,r1,q1⟩=>ho pins s1 σ H1 x v Q I1 r1 q1)
theorem w6{f:Value->Value->Sem Value}{C:Int->Int->Prop}{g:Int->Int->Int}
  (rule:∀(i j:Int) (t u:Tok) (s:Shared) (Q:Value->Shared->Prop) (E:Value->Shared->Prop),C i j->Q (.int (g i j) s.toks) {s with toks:=s.toks+1}->wpAny (model X.prog X.w) X.A (f (.int i t) (.int j u)) Q E s):
  dB X f (rI C fun i j=> .int (g i j)):=by
 intro pins s σ H x y v u Q I rx ry h
 obtain⟨i,j,rfl,rfl,hc,q⟩:=h
 obtain⟨t,rfl⟩:=rx
 obtain⟨t',rfl⟩:=ry
 exact rule i j t t' s _ _ hc ⟨.int (g i j),H,I.tok _,⟨_,rfl⟩,q⟩
theorem JI{f:Value->Value->Sem Value}{g:Int->Int->Int}
  (rule:∀(i j:Int) (t u:Tok) (s:Shared) (Q:Value->Shared->Prop) (E:Value->Shared->Prop),Q (.int (g i j) s.toks) {s with toks:=s.toks+1}->wpAny (model X.prog X.w) X.A (f (.int i t) (.int j u)) Q E s):
  dB X f (fL fun i j=> .int (g i j)):=by
 intro pins s σ H x y v u Q I rx ry h
 obtain⟨i,j,rfl,rfl,q⟩:=h
 obtain⟨t,rfl⟩:=rx
 obtain⟨t',rfl⟩:=ry
 exact rule i j t t' s _ _ ⟨.int (g i j),H,I.tok _,⟨_,rfl⟩,q⟩
theorem yS{f:Value->Value->Sem Value}{g:Int->Int->Bool}
  (rule:∀(i j:Int) (t u:Tok) (s:Shared) (Q:Value->Shared->Prop) (E:Value->Shared->Prop),Q (.bool (g i j)) s->wpAny (model X.prog X.w) X.A (f (.int i t) (.int j u)) Q E s):
  dB X f (fL fun i j=> .bl (g i j)):=by
 intro pins s σ H x y v u Q I rx ry h
 obtain⟨i,j,rfl,rfl,q⟩:=h
 obtain⟨t,rfl⟩:=rx
 obtain⟨t',rfl⟩:=ry
 exact rule i j t t' s _ _ ⟨.bl (g i j),H,I,rfl,q⟩
noncomputable def AW(i j:Int):Prop:=0<=j/\j<=1000000/\i.natAbs<2^64
noncomputable def wU(i j:Int):Prop:=(-(2^64)<i/\i<2^64)\/(-(2^64)<j/\j<2^64)
theorem wU.ok{i j:Int}(h:wU i j):IntMulOk i j:=by
 rcases h with ⟨h1,h2⟩|⟨h1,h2⟩
 ·exact .of_left (intBits_le_64 h1 h2)
 ·exact .of_right (intBits_le_64 h1 h2)
theorem fN:dB X (binaryOp .Add) (fL fun i j=> .int (i+j)):=JI fun _ _ _ _ _ _ _ q=>add_int q
theorem uC:dB X (binaryOp .Sub) (fL fun i j=> .int (i-j)):=JI fun _ _ _ _ _ _ _ q=>sub_int q
theorem lR:dB X (binaryOp .Mod) (rI (fun _ j=>0<j) fun i j=> .int (i%j)):=w6 fun i j _ _ _ _ _ hc q=>by
 have h1:(0:Int)<j:=hc
 exact mod_int' (by walk_at "o") (by rw[Int.fmod_eq_emod_of_nonneg i (by walk_at "o")];exact q)
theorem su:dB X (binaryOp .Pow) (rI AW fun i j=> .int (i^j.toNat)):=w6 fun _ _ _ _ _ _ _ hc q=>pow_int_small hc.1 hc.2.1 hc.2.2 q
theorem Zp{f:Value->Sem Value}{g:Int->Int}
  (rule:∀(i:Int) (t:Tok) (s:Shared) (Q:Value->Shared->Prop) (E:Value->Shared->Prop),Q (.int (g i) s.toks) {s with toks:=s.toks+1}->wpAny (model X.prog X.w) X.A (f (.int i t)) Q E s):
  CW X f (rU fun i=> .int (g i)):=by
 intro pins s σ H x v Q I rx h
 obtain⟨i,rfl,q⟩:=h
 obtain⟨t,rfl⟩:=rx
 exact rule i t s _ _ ⟨.int (g i),H,I.tok _,⟨_,rfl⟩,q⟩
theorem Xf:CW X (unaryOp .USub) (rU fun i=> .int (-i)):=Zp fun _ _ _ _ _ q=>neg_int q
end
noncomputable def Ed:V->V->Bool
 | .aB, .aB=>true| .aB, .int _=>true| .int _, .aB=>true| .aB, .bl _=>true| .bl _, .aB=>true| .aB, .str _=>true| .str _, .aB=>true
 | .int _, .int _=>true| .bl _, .bl _=>true| .str _, .str _=>true| .iT _, .iT _=>true
 | .int _, .str _=>true| .str _, .int _=>true| .bl _, .str _=>true| .str _, .bl _=>true
 |_,_=>false
noncomputable def Cz:R2:=fun x y H Q=>Ed x y=true/\Q (.bl (decide (x=y))) H
noncomputable def M4:R2:=fun x y H Q=>Ed x y=true/\Q (.bl (!decide (x=y))) H
theorem MH{i j:Int}:decide (V.int i=V.int j)=(i==j):=by
 rw[nQ]
 simp
theorem Iz{i j:Bool}:decide (V.bl i=V.bl j)=(i==j):=by
 rw[nQ]
 simp
theorem GI{i j:Str}:decide (V.str i=V.str j)=(i==j):=by
 rw[nQ]
 simp
theorem Hg{i j:Array UInt8}:decide (V.iT i=V.iT j)=(i.toList==j.toList):=by
 rw[nQ]
 cases i
 cases j
 simp
section
variable{X:Cx}{a b c:Expr}{ta tb tc:TE}{pos:Pos}
theorem cM{pins:List (Addr×Obj)}{σ:St}{H:Hp}{s:Shared}{Q:VK}{k k':Bool}(I:Inv X pins σ H s)(q:Q (.bl k) H)(e:k=k'):EP X pins σ Q (.bool k') s:=by
 subst e
 exact⟨.bl k,H,I,rfl,q⟩
theorem iR:dB X (compareOp .Eq) Cz:=by
  intro pins s σ H x y v u Q I rx ry h
  obtain⟨hs,q⟩:=h
  cases x with
  | aB =>
    cases rx
    cases y with
    |aB=>cases ry;exact PySem.EqNone.eq_none_none (cM I q (by simp))
    |bl j=>cases ry;exact PySem.EqNone.eq_none_bool (cM I q (by simp))
    |int j=>obtain⟨t',rfl⟩:=ry;exact PySem.EqNone.eq_none_int (cM I q (by simp))
    |str j=>obtain⟨t',rfl⟩:=ry;exact PySem.EqNone.eq_none_str (cM I q (by simp))
    |_=>exact absurd (show false=true from hs) bH
  | bl i =>
    cases rx
    cases y with
    |aB=>cases ry;exact PySem.EqNone.eq_bool_none (cM I q (by simp))
    |bl j=>cases ry;exact eq_bool (cM I q Iz)
    |str j=>obtain⟨t',rfl⟩:=ry;exact PySem.EqMixed.eq_bool_str (cM I q (by simp))
    |_=>exact absurd (show false=true from hs) bH
  | int i =>
    obtain⟨t,rfl⟩:=rx
    cases y with
    |aB=>cases ry;exact PySem.EqNone.eq_int_none (cM I q (by simp))
    |int j=>obtain⟨t',rfl⟩:=ry;exact eq_int (cM I q MH)
    |str j=>obtain⟨t',rfl⟩:=ry;exact PySem.EqMixed.eq_int_str (cM I q (by simp))
    |_=>exact absurd (show false=true from hs) bH
  | str i =>
    obtain⟨t,rfl⟩:=rx
    cases y with
    |aB=>cases ry;exact PySem.EqNone.eq_str_none (cM I q (by simp))
    |bl j=>cases ry;exact PySem.EqMixed.eq_str_bool (cM I q (by simp))
    |int j=>obtain⟨t',rfl⟩:=ry;exact PySem.EqMixed.eq_str_int (cM I q (by simp))
    |str j=>obtain⟨t',rfl⟩:=ry;exact eq_str (cM I q GI)
    |_=>exact absurd (show false=true from hs) bH
  | iT i =>
    obtain⟨t,rfl⟩:=rx
    cases y with
    |iT j=>obtain⟨t',rfl⟩:=ry;exact PySem.W.eq_bytes (cM I q Hg)
    |_=>exact absurd (show false=true from hs) bH
  |_=>cases y<;>exact absurd (show false=true from hs) bH
theorem wH:dB X (compareOp .NotEq) M4:=by
  intro pins s σ H x y v u Q I rx ry h
  obtain⟨hs,q⟩:=h
  cases x with
  | aB =>
    cases rx
    cases y with
    |aB=>cases ry;exact PySem.EqNone.ne_none_none (cM I q (by simp))
    |bl j=>cases ry;exact PySem.EqNone.ne_none_bool (cM I q (by simp))
    |int j=>obtain⟨t',rfl⟩:=ry;exact PySem.EqNone.ne_none_int (cM I q (by simp))
    |str j=>obtain⟨t',rfl⟩:=ry;exact PySem.EqNone.ne_none_str (cM I q (by simp))
    |_=>exact absurd (show false=true from hs) bH
  | bl i =>
    cases rx
    cases y with
    |aB=>cases ry;exact PySem.EqNone.ne_bool_none (cM I q (by simp))
    |bl j=>cases ry;exact ne_bool (cM I q (congrArg not Iz))
    |str j=>obtain⟨t',rfl⟩:=ry;exact PySem.EqMixed.ne_bool_str (cM I q (by simp))
    |_=>exact absurd (show false=true from hs) bH
  | int i =>
    obtain⟨t,rfl⟩:=rx
    cases y with
    |aB=>cases ry;exact PySem.EqNone.ne_int_none (cM I q (by simp))
    |int j=>obtain⟨t',rfl⟩:=ry;exact ne_int (cM I q (congrArg not MH))
    |str j=>obtain⟨t',rfl⟩:=ry;exact PySem.EqMixed.ne_int_str (cM I q (by simp))
    |_=>exact absurd (show false=true from hs) bH
  | str i =>
    obtain⟨t,rfl⟩:=rx
    cases y with
    |aB=>cases ry;exact PySem.EqNone.ne_str_none (cM I q (by simp))
    |bl j=>cases ry;exact PySem.EqMixed.ne_str_bool (cM I q (by simp))
    |int j=>obtain⟨t',rfl⟩:=ry;exact PySem.EqMixed.ne_str_int (cM I q (by simp))
    |str j=>obtain⟨t',rfl⟩:=ry;exact ne_str (cM I q (congrArg not GI))
    |_=>exact absurd (show false=true from hs) bH
  | iT i =>
    obtain⟨t,rfl⟩:=rx
    cases y with
    |iT j=>obtain⟨t',rfl⟩:=ry;exact PySem.W.ne_bytes (cM I q (congrArg not Hg))
    |_=>exact absurd (show false=true from hs) bH
  |_=>cases y<;>exact absurd (show false=true from hs) bH
theorem ou:dB X (compareOp .Lt) (fL fun i j=> .bl (decide (i<j))):=yS fun _ _ _ _ _ _ _ q=>lt_int q
theorem vZ:dB X (compareOp .LtE) (fL fun i j=> .bl (decide (i<=j))):=yS fun _ _ _ _ _ _ _ q=>le_int q
theorem RL:dB X (compareOp .Gt) (fL fun i j=> .bl (decide (j<i))):=yS fun _ _ _ _ _ _ _ q=>gt_int q
theorem Ck:dB X (compareOp .GtE) (fL fun i j=> .bl (decide (j<=i))):=yS fun _ _ _ _ _ _ _ q=>ge_int q
theorem Px:dB X (compareOp .Is) (fun x y H Q=>y= .aB/\Q (.bl (decide (x= .aB))) H):=by
 intro pins s σ H x y v u Q I rx ry h
 obtain⟨rfl,q⟩:=h
 cases ry
 refine is_none_gen (cM I q ?_)
 cases x<;>first
  |(cases rx;rfl)
  |(obtain⟨t,rfl⟩:=rx;rfl)
theorem bV(b:Expr){op:CmpOp}(h:op≠ .In:=by decide)(h2:op≠ .NotIn:=by decide):behindInMarks op b=false:=by
 have e1:(op==CmpOp.In)=false:=by cases op<;>first|rfl|exact absurd rfl h
 have e2:(op==CmpOp.NotIn)=false:=by cases op<;>first|rfl|exact absurd rfl h2
 cases b<;>simp[behindInMarks,e1,e2]
theorem u6{op:CmpOp}{r:R2}(ho:dB X (compareOp op) r)(ha:PE X a ta)(hb:PE X b tb)(hm:behindInMarks op b=false):PE X (.Compare a [op] [b] pos) (cG r ta tb):=by
 intro pins s σ H Q I h
 exact wpAny_Compare1 (Bh ha hb I h fun v u s2 x y H2 I2 rx ry q=>ho pins s2 σ H2 x y v u Q I2 rx ry q) hm
noncomputable def tU(t:TE):TT:=fun σ H Q=>t σ H fun x H'=>∃k,x= .bl k/\Q k H'
theorem bZ{op:CmpOp}{r:R2}(ho:dB X (compareOp op) r)(ha:PE X a ta)(hb:PE X b tb)(hm:behindInMarks op b=false):PT X (.Compare a [op] [b] pos) (tU (cG r ta tb)):=by
 intro pins s σ H Q I h
 refine wpAny_isTrue_Compare1 (aF (ha pins s σ H _ I h) fun v s1 ⟨x,H1,I1,r1,q1⟩=>aF (hb pins s1 σ H1 _ I1 q1) fun u s2 ⟨y,H2,I2,r2,q2⟩=>
  aF (ho pins s2 σ H2 x y v u _ I2 r1 r2 q2) fun c s3 ⟨z,H3,I3,r3,k,e,q3⟩=>?_) hm
 subst e
 cases r3
 exact wpAny_truthy_bool ⟨H3,I3,q3⟩
noncomputable def A3(K:PySem.W.Frag)(x:V)(H:Hp)(k:Bool):Prop:=
 match x with
 | .aB=>k=false
 | .bl b=>k=b
 | .int i=>k=(i !=0)
 | .str y=>y.length<=sizeLine/\k=((y.length:Int) !=0)
 | .iT y=>y.size<=sizeLine/\k=((y.size:Int) !=0)
 | .ref p=>(∃xs,aS K H p xs/\k=!xs.isEmpty)\/(∃xs,gP K H p xs/\k=!xs.isEmpty)\/∃kvs,H p=some (.dK kvs)/\k=!kvs.isEmpty
 |_=>False
theorem Uy{κ:Type}{kvs:List (κ×V)}{vs:List (κ×Value)}(r:KV kvs vs):(!vs.isEmpty)=!kvs.isEmpty:=by
 cases r<;>rfl
theorem M9{xs:List V}{its:List Value}(r:Vals xs its):(!its.toArray.isEmpty)=!xs.isEmpty:=by
 cases r<;>simp
theorem sy:(sizeLine:Nat)<2^63:=by rw[sizeLine_eq];decide
theorem Om:Uh X (fun x H Q=>∃k,A3 X.K x H k/\Q k H):=by
  intro pins s σ H x v Q I rx h
  obtain⟨k,e,q⟩:=h
  have hl:=sy
  have hs:sizeLine=16777216:=sizeLine_eq
  cases x with
  | aB =>
    cases rx
    have e':k=false:=e
    subst e'
    exact truthy_none ⟨H,I,q⟩
  | bl b =>
    cases rx
    have e':k=b:=e
    subst e'
    exact wpAny_truthy_bool ⟨H,I,q⟩
  | int i =>
    obtain⟨t,rfl⟩:=rx
    have e':k=(i !=0):=e
    subst e'
    exact PySem.P.truthy_int ⟨H,I,q⟩
  | str y =>
    obtain⟨t,rfl⟩:=rx
    obtain⟨hy,e'⟩:y.length<=sizeLine/\k=((y.length:Int) !=0):=e
    subst e'
    exact PySem.P.truthy_str (by walk_at "o") ⟨H,I.tok _,q⟩
  | iT y =>
    obtain⟨t,rfl⟩:=rx
    obtain⟨hy,e'⟩:y.size<=sizeLine/\k=((y.size:Int) !=0):=e
    subst e'
    exact PySem.W.truthy_bytes (by walk_at "o") ⟨H,I.tok _,q⟩
  | ref p =>
    cases rx
    have e':(∃xs,aS X.K H p xs/\k=!xs.isEmpty)\/(∃xs,gP X.K H p xs/\k=!xs.isEmpty)\/∃kvs,H p=some (.dK kvs)/\k=!kvs.isEmpty:=e
    rcases e' with ⟨xs,hx,e'⟩|⟨xs,hx,e'⟩|⟨kvs,hx,e'⟩
    · subst e'
      obtain⟨its,r,pl,hz⟩:=I.list hx
      have hlen:=r.length
      exact wpAny_truthy_list pl.isList (by simp only[cN];walk_at "o") ⟨H,I.tok _,by rw[M9 r];exact q⟩
    · subst e'
      obtain⟨its,r,pl,hz⟩:=I.tuple hx
      have hlen:=r.length
      exact truthy_tuple pl (by simp only[cN];walk_at "o") ⟨H,I.tok _,by rw[M9 r];exact q⟩
    · subst e'
      obtain⟨hz,hS,vs,r,m⟩:kvs.length<=sizeLine/\(p==sysModules)=false/\∃vs,KV kvs vs/\s.heap.DictOf (g9 X.prog X.w) p vs:=I.hok p _ hx
      have hlen:kvs.length=vs.length:=Paired.length r
      exact wpAny_truthy_dict hS m (by walk_at "o") ⟨H,I.tok _,by rw[Uy r];exact q⟩
  |_=>exact(show False from e).elim
theorem YI(ha:PE X a ta)(he:∀whole,isTrue a X.env whole=(do let v<-whole;standAt a.pos;holding [v] (truthy v))):
  PT X a (fun σ H Q=>ta σ H fun x H'=>∃k,A3 X.K x H' k/\Q k H'):=by
 intro pins s σ H Q I h
 exact isTrue_plain (aF (ha pins s σ H _ I h) fun v s1 ⟨x,H1,I1,r1,q1⟩=>Om pins s1 σ H1 x v Q I1 r1 q1) (he _)
theorem vals1{x:V}{us:List Value}(r:Vals [x] us):∃u,us=[u]/\RelV x u:=by
 cases r with
 |cons r1 r2=>cases r2;exact⟨_,rfl,r1⟩
theorem vals2{x y:V}{us:List Value}(r:Vals [x,y] us):∃u w',us=[u,w']/\RelV x u/\RelV y w':=by
  cases r with
  | cons r1 r2 =>
    cases r2 with
    |cons r3 r4=>cases r4;exact⟨_,_,rfl,r1,r3⟩
theorem PJ:fY X (.builtin "abs") (fun xs H Q=>∃i,xs=[.int i]/\Q (.int (if i<0 then-i else i)) H):=by
 intro pins s σ H xs us Q I r h
 obtain⟨i,rfl,q⟩:=h
 obtain⟨u,rfl,t,rfl⟩:=vals1 r
 exact call_abs_int fun u tk=>⟨.int (if i<0 then-i else i),H,I.tok _,⟨_,rfl⟩,q⟩
theorem Qz(hc:X.calm=true):fY X (.builtin "min") (fun xs H Q=>∃i j,xs=[.int i, .int j]/\Q (.int (if j<i then j else i)) H):=by
 intro pins s σ H xs us Q I r h
 obtain⟨i,j,rfl,q⟩:=h
 obtain⟨u,w',rfl,⟨t,rfl⟩,⟨t',rfl⟩⟩:=vals2 r
 refine min_two_ints (I.ok.hd hc) fun h' tk k=>⟨_,H,I.kept k,?_,q⟩
 by_cases hj:j<i
 ·rw[if_pos hj,if_pos hj];exact⟨_,rfl⟩
 ·rw[if_neg hj,if_neg hj];exact⟨_,rfl⟩
end
structure oJ(h:Heap)(x dx C:Addr)(mA:Str->Option Value):Prop where
 obj:h.get? x=some (PySem.W.instObj C dx)
 ns:h.Ns1 dx mA
 ne:dx≠x
theorem US{h:Heap}{dx:Addr}{mA:Str->Option Value}(n:h.Ns1 dx mA):∃od,h.get? dx=some od/\∀name,PySem.W.lookIn name od=some (mA name):=by
 obtain⟨o,es,ep,ho,hd,hk,_,hm⟩:=n
 refine⟨o,ho,fun name=>?_⟩
 have e:=hm name
 unfold nsFind findBy at e
 rw[<-Array.find?_toList] at e
 unfold PySem.W.lookIn
 rw[hd]
 dsimp only
 split
 ·rename_i y q
  rw[q] at e
  exact congrArg some e
 ·rename_i q
  rw[q] at e
  have a:es.toList.any (·.refKey)=false:=by
   rw[List.any_eq_false]
   intro y hy
   obtain⟨z,t,hkey⟩:=hk y (tS.mp hy)
   simp[DictEntry.refKey,hkey]
  have a':¬es.toList.any (·.refKey)=true:=by rw[a];exact bH
  rw[if_neg a']
  exact congrArg some e
theorem oJ.look{h:Heap}{x dx C:Addr}{mA:Str->Option Value}(I:oJ h x dx C mA):∃od,PySem.W.InstAt h x (PySem.W.instObj C dx) C (some od)/\∀name,PySem.W.lookIn name od=some (mA name):=
 let ⟨od,ho,hl⟩:=US I.ns
 ⟨od,⟨I.obj,rfl,rfl,ho⟩,hl⟩
section
variable{prog:Program}{w:World}{A:Around}{E:Value->Shared->Prop}{s:Shared}{K:PySem.W.Frag}{x dx C f:Addr}{mA:Str->Option Value}{name:Str}{v:Value}
theorem get_map{expr:Bool}{Q:Value->Shared->Prop}(X:K.In s.heap)(I:oJ s.heap x dx C mA)(hg:PySem.W.plainGet K C name=true)(hh:PySem.W.hasDictIn K C=true)
  (ha:PySem.W.findIn K (.ref C) name=some none) (hv:mA name=some v) (hv':PySem.W.handedIn v=true) (h:Q v {s with toks:=s.toks+1}):
  wpAny (model prog w) A (getAttr (.ref x) name expr) Q E s:=by
 obtain⟨od,J,hl⟩:=I.look
 exact PySem.W.get_value X J (Eh hg).1 (PySem.W.findObj_own hh ha rfl (by rw[hl,hv])) hv' h
theorem OH{pl:Sem Bool}{Q:Value×List Value->Shared->Prop}(X:K.In s.heap)(I:oJ s.heap x dx C mA)(hg:PySem.W.plainGet K C name=true)
  (hf:PySem.W.findIn K (.ref C) name=some (some (.ref f))) (ht:PySem.W.isFn K (.ref f)=true) (hv:mA name=none) (h:Q (.ref f,[.ref x]) s):
  wpAny (model prog w) A (getMethod (.ref x) name pl) Q E s:=by
 obtain⟨od,J,hl⟩:=I.look
 exact PySem.W.method_fn X J (Eh hg).1 (Eh hg).2 hf (beq_iff_eq.mp ht) (by show(PySem.W.lookIn name od).map (·.isSome)=some false;rw[hl,hv];rfl) h
theorem XW{ns:List Str}{Q:Unit->Shared->Prop}(X:K.In s.heap)(I:oJ s.heap x dx C mA)
  (hs:PySem.W.findIn K (.ref C) "__setattr__"=some (some (.builtin "object.__setattr__"))) (hp:PySem.W.plainOver K C=true) (ht:PySem.W.takerIn K C name=some none) (hh:PySem.W.hasDictIn K C=true)
  (hw:PySem.Within mA ns) (hsz:ns.length<=sizeLine)
  (h:∀h',oJ h' x dx C (fun y=>if y=name then some v else mA y)->Heap.SameBut dx s.heap h'->Q () {s with heap:=h',toks:=s.toks+2}):
  wpAny (model prog w) A (setAttr (.ref x) name v) Q E s:=by
 obtain⟨od,J,hl⟩:=I.look
 refine PySem.W.set_plain X J hs (PySem.W.osa_open (s:={s with toks:=s.toks+1}) (r:=none) X J hp ht fun b=>?_)
 obtain⟨cd,hc,hd'⟩:=PySem.W.any_some hh
 have hx:s.heap.get? x=some ⟨.ref C,some dx, .plain,#[]⟩:=I.obj
 refine wpAny_bind (wpAny_pure (wpAny_bind (wpAny_bind (wpAny_loadPart hx (wpAny_bind (PySem.W.Looks.here (s:={s with toks:=s.toks+1}) (PySem.W.looks_clsIn X hc) ?_))))))
 rw[hd']
 refine wpAny_pure (a:=some dx) (wpAny_bind (wpAny_pure (wpAny_bind ?_)))
 refine wpAny_nsSet1 (s:={s with toks:=s.toks+1}) I.ns fun h' hn2 hs2=>?_
 obtain⟨oD,esD,Zt,YL,Oe,Yy⟩:=hn2.count (PySem.Within.cons name v hw)
 refine wpAny_bind (wpAny_lookBehind YL (by rw[Oe];exact pastItsLine_dict (dw Yy (by rw[bw];walk_at "o"))) ?_)
 exact wpAny_pure (h _ ⟨(hs2.2 _ (cR I.ne)).trans I.obj,hn2,I.ne⟩ hs2)
theorem Ri{R:Result->Shared->Prop}{vs:List Value}{kw:List (Str×Value)}(X:K.In s.heap)(hm:PySem.W.makesIn K C=true)
  (hi:PySem.W.findIn K (.ref C) "__init__"=some (some (.ref f))) (hf:PySem.W.typeIn K (.ref f)=some (.type "function"))
  (h : codeAny (model prog w) (A.under (.builtin "type.__call__" ⟨.ref C :: vs, kw⟩)) (.call (.ref f) ⟨.ref (s.heap.objs.size + 1) :: vs, kw⟩) (PySem.W.InitBack (s.heap.objs.size + 1) R)
   {s with heap:=(s.heap.push PySem.W.emptyDict).push (PySem.W.instObj C s.heap.objs.size)}):
  codeAny (model prog w) A (.call (.ref C) ⟨vs,kw⟩) R s:=by
 obtain⟨hh,g,d,t,os⟩:=s
 exact PySem.W.make_core (PySem.W.makes_of X hm) (Al X hi) (fun self=>PySem.W.bind_fn X self hf) (.inl rfl) h
end
noncomputable def fh(f:Str)(v:V):List (Str×V)->List (Str×V)
 |[]=>[(f,v)]
 |(g,x)::r=>if g=f then(g,v)::r else(g,x)::fh f v r
theorem HW(f g:Str)(v:V):∀fs:List (Str×V),(fh f v fs).lookup g=if g=f then some v else fs.lookup g
  | [] => by
    show List.lookup g [(f,v)]=_
    by_cases h:g=f
    · have hb:(g==f)=true:=beq_iff_eq.mpr h
      simp only[List.lookup,hb,if_pos h]
    · have hb:(g==f)=false:=beq_eq_false_iff_ne.mpr h
      simp only[List.lookup,hb,if_neg h]
  | (k, x) :: r => by
    have ih:=HW f g v r
    rw[show fh f v ((k,x)::r)=(if k=f then(k,v)::r else(k,x)::fh f v r) from rfl]
    by_cases hk:k=f
    · rw[if_pos hk]
      by_cases h:g=k
      · have hb:(g==k)=true:=beq_iff_eq.mpr h
        simp only[List.lookup,hb,if_pos (h.trans hk)]
      · have hb:(g==k)=false:=beq_eq_false_iff_ne.mpr h
        simp only[List.lookup,hb,if_neg (fun e:g=f=>h (e.trans hk.symm))]
    · rw[if_neg hk]
      by_cases h:g=k
      · have hb:(g==k)=true:=beq_iff_eq.mpr h
        simp only[List.lookup,hb,if_neg (fun e:g=f=>hk (h.symm.trans e))]
      · have hb:(g==k)=false:=beq_eq_false_iff_ne.mpr h
        simp only[List.lookup,hb]
        exact ih
theorem BA(f:Str)(v:V):∀fs:List (Str×V),f∈(fh f v fs).map (·.1)/\∀g,g∈fs.map (·.1)->g∈(fh f v fs).map (·.1)
  |[]=>⟨by simp[fh],fun g h=>by simp at h⟩
  | (k, x) :: r => by
    obtain⟨i1,i2⟩:=BA f v r
    rw[show fh f v ((k,x)::r)=(if k=f then(k,v)::r else(k,x)::fh f v r) from rfl]
    by_cases hk:k=f
    · rw[if_pos hk]
      subst hk
      exact⟨by simp,fun g h=>by simpa using h⟩
    · rw[if_neg hk]
      refine⟨?_,fun g h=>?_⟩
      · rw[bx]
        exact bJ _ i1
      · rw[bx] at h⊢
        rcases aA.mp h with e|e
        · exact aA.mpr (.inl e)
        · exact bJ _ (i2 g e)
theorem L3(f:Str)(v:V):∀fs:List (Str×V),(fh f v fs).length<=fs.length+1
  |[]=>by simp[fh]
  | (k, x) :: r => by
    have ih:=L3 f v r
    rw[show fh f v ((k,x)::r)=(if k=f then(k,v)::r else(k,x)::fh f v r) from rfl]
    by_cases hk:k=f
    · rw[if_pos hk,bw,bw];walk_at "o"
    · rw[if_neg hk,bw,bw];walk_at "o"
theorem iI.some_of{v:V}{o:Option Value}(r:iI (some v) o):∃u,o=some u/\RelV v u:=by
 cases o with
 |none=>exact(show False from r).elim
 |some u=>exact⟨u,rfl,r⟩
theorem iI.none_of{o:Option Value}(r:iI none o):o=none:=by
 cases o with
 |none=>rfl
 |some u=>exact(show False from r).elim
theorem Rp{v:V}{u:Value}(r:RelV v u):PySem.W.handedIn u=true:=by
 cases v with
 |aB=>cases (show u=Value.none from r);rfl
 |bl b=>cases (show u=Value.bool b from r);rfl
 |int i=>obtain⟨t,e⟩:=(show∃t,u=Value.int i t from r);cases e;rfl
 |str x=>obtain⟨t,e⟩:=(show∃t,u=Value.str x t from r);cases e;rfl
 |iT b=>obtain⟨t,e⟩:=(show∃t,u=Value.bytes b t from r);cases e;rfl
 |kU b=>obtain⟨t,e⟩:=(show∃t,u=Value.float b t from r);cases e;rfl
 |ref a=>cases (show u=Value.ref a from r);rfl
 |ty n=>cases (show u=Value.type n from r);rfl
section
variable{P:Program}{w:World}{H H':Hp}{h h':Heap}{a C dx:Addr}{fs fs':List (Str×V)}
theorem xB(hok:bU P w H h)(e:H a=some (.ins C dx fs)):∃mA,oJ h a dx C mA/\(∀f,iI (fs.lookup f) (mA f))/\PySem.Within mA (fs.map (·.1))/\fs.length<=1000/\H dx=some (.own a):=by
 obtain⟨d,z,ne,ob,mA,n,r,q⟩:=(show bP P w H h a (.ins C dx fs) from hok a _ e)
 exact⟨mA,⟨ob,n,ne⟩,r,q,z,d⟩
end
structure cZ(K:PySem.W.Frag)(C:Addr):Prop where
 pg:PySem.W.plainGet K C Str.empty=true
 hd:PySem.W.hasDictIn K C=true
 po:PySem.W.plainOver K C=true
 sa:PySem.W.findIn K (.ref C) "__setattr__"=some (some (.builtin "object.__setattr__"))
theorem cZ.get{K:PySem.W.Frag}{C:Addr}(c:cZ K C)(f:Str):PySem.W.plainGet K C f=true:=c.pg
noncomputable def cF(K:PySem.W.Frag)(C:Addr)(f:Str):Prop:=PySem.W.findIn K (.ref C) f=some none
theorem cF.WG{K:PySem.W.Frag}{C:Addr}{f:Str}(n:cF K C f):PySem.W.takerIn K C f=some none:=by
 unfold PySem.W.takerIn
 rw[show PySem.W.findIn K (.ref C) f=some none from n]
 rfl
structure Meth(K:PySem.W.Frag)(C:Addr)(m:Str)(f:Addr):Prop where
 at_:PySem.W.findIn K (.ref C) m=some (some (.ref f))
 fn:PySem.W.isFn K (.ref f)=true
 kp:PySem.W.keepIn K (.ref f)=true
section
variable{X:Cx}{pins:List (Addr×Obj)}{σ:St}{H:Hp}{s:Shared}{a C dx:Addr}{fs:List (Str×V)}{f:Str}{v:V}{A:Around}{E:Value->Shared->Prop}
theorem Xq{b:Bool}{Q:Value->Shared->Prop}(I:Inv X pins σ H s)(e:H a=some (.ins C dx fs))(c:cZ X.K C)(n:cF X.K C f)(l:fs.lookup f=some v)
  (h:∀u s',Inv X pins σ H s'->RelV v u->Q u s'):wpAny (model X.prog X.w) A (getAttr (.ref a) f b) Q E s:=by
 obtain⟨mA,O,r,_,_,_⟩:=xB I.hok e
 obtain⟨u,hu,ru⟩:=iI.some_of (v:=v) (o:=mA f) (by rw[<-l];exact r f)
 exact get_map I.bM O (c.get f) c.hd n hu (Rp ru) (h u _ (I.tok _) ru)
theorem yL{m:Str}{g:Addr}{pl:Sem Bool}{Q:Value×List Value->Shared->Prop}(I:Inv X pins σ H s)(e:H a=some (.ins C dx fs))(c:cZ X.K C)(k:Meth X.K C m g)(l:fs.lookup m=none)
  (h:Q (.ref g,[.ref a]) s):wpAny (model X.prog X.w) A (getMethod (.ref a) m pl) Q E s:=by
 obtain⟨mA,O,r,_,_,_⟩:=xB I.hok e
 have hn:mA m=none:=iI.none_of (by rw[<-l];exact r m)
 exact OH I.bM O (c.get m) k.at_ k.fn hn h
theorem Ol{y:V}{u:Value}{Q:Unit->Shared->Prop}(I:Inv X pins σ H s)(e:H a=some (.ins C dx fs))(c:cZ X.K C)(n:cF X.K C f)(hl:fs.length<1000)(ry:RelV y u)
  (h:∀s',Inv X pins σ (upd H a (.ins C dx (fh f y fs))) s'->Q () s'):wpAny (model X.prog X.w) A (setAttr (.ref a) f u) Q E s:=by
 obtain⟨mA,O,r,wi,_,ho⟩:=xB I.hok e
 have hz:(fs.map (·.1)).length<=sizeLine:=by rw[ay,sizeLine_eq];walk_at "o"
 refine XW I.bM O c.sa c.po n.WG c.hd wi hz fun h' O' sb=>h _ ?_
 have hd:∃o,h'.get? dx=some o:=let ⟨o,_,_,e',_⟩:=O'.ns;⟨o,e'⟩
 refine I.write (x:=a) (e:=dx) (by rw[e];exact True.intro) (.inr ho) (fun b q hb z=>(sb.2 b hb).trans z) hd ?_
 refine⟨by rw[aT O.ne];exact ho,?_,O.ne,O'.obj,_,O'.ns,fun g=>?_,fun g hg=>?_⟩
 ·have:=L3 f y fs;walk_at "o"
 ·show iI ((fh f y fs).lookup g) (if g=f then some u else mA g)
  rw[HW]
  by_cases q:g=f
  ·rw[if_pos q,if_pos q];exact ry
  ·rw[if_neg q,if_neg q];exact r g
 ·by_cases q:g=f
  ·rw[q];exact(BA f y fs).1
  ·refine(BA f y fs).2 g (wi g fun z=>hg ?_)
   show(if g=f then some u else mA g)=none
   rw[if_neg q];exact z
theorem Inv.made(I:Inv X pins σ H s):Inv X pins σ (upd (upd H s.heap.objs.size (.own (s.heap.objs.size+1))) (s.heap.objs.size+1) (.ins C s.heap.objs.size []))
  {s with heap:=(s.heap.push PySem.W.emptyDict).push (PySem.W.instObj C s.heap.objs.size)}:=by
 have e1:(s.heap.push PySem.W.emptyDict).get? s.heap.objs.size=some PySem.W.emptyDict:=fS s.heap rfl
 have e2:((s.heap.push PySem.W.emptyDict).push (PySem.W.instObj C s.heap.objs.size)).get? (s.heap.objs.size+1)=some (PySem.W.instObj C s.heap.objs.size):=by
  have:=fS (s.heap.push PySem.W.emptyDict) (o:=PySem.W.instObj C s.heap.objs.size) rfl
  rwa[mQ] at this
 have e3:(s.heap.push PySem.W.emptyDict).Ns s.heap.objs.size (fun _=>none):=⟨PySem.W.emptyDict,#[],_,e1,rfl,(fun e he=>absurd he (by simp)),fun _=>rfl⟩
 have I1:=I.laid (a:=s.heap.objs.size) (o:= .own (s.heap.objs.size+1)) (h':=s.heap.push PySem.W.emptyDict) (t':=s.toks) (fun b u q=>cz _ q) (aE _) ⟨_,e1⟩
 refine I1.laid (a:=s.heap.objs.size+1) (o:= .ins C s.heap.objs.size []) (t':=s.toks) (fun b u q=>cz _ q) (mY (mQ _ _)) ?_
 have ne:s.heap.objs.size≠s.heap.objs.size+1:=cX (o7 _)
 refine⟨by rw[aT ne,aQ],eU _,ne,e2,fun _=>none,(Heap.Ns1.of_empty e3).at fun o q=>cz _ q,fun _=>True.intro,fun y hy=>absurd rfl hy⟩
theorem Tj{prog:Program}{w:World}{env:Env}{e:Expr}{f:Str}{pos:Pos}{s:Shared}{Q:Value->Shared->Prop}(hb:attributeBase e f env (eval e env)=eval e env)
  (h:wpAny (model prog w) A (eval e env) (fun o s₁=>wpAny (model prog w) A (getAttr o f true) Q E s₁) E s):wpAny (model prog w) A (eval (.Attribute e f pos) env) Q E s:=
 Attribute_any_ h (by rw[arm_eval_Attribute,hb])
end
noncomputable def n9(K:PySem.W.Frag)(ta:TE)(f:Str):TE:=fun σ H Q=>ta σ H fun x H1=>∃a C dx fs v,x= .ref a/\H1 a=some (.ins C dx fs)/\cZ K C/\cF K C f/\fs.lookup f=some v/\Q v H1
noncomputable def Bb(K:PySem.W.Frag)(ta tv:TE)(f:Str):TS:=fun D σ H=>tv σ H fun y H1=>ta σ H1 fun x H2=>∃a C dx fs,x= .ref a/\H2 a=some (.ins C dx fs)/\cZ K C/\cF K C f/\fs.length<1000/\
 D.nx σ (upd H2 a (.ins C dx (fh f y fs)))
section
variable{X:Cx}{o e value:Expr}{f:Str}{pos pos' tpos:Pos}{ta tv:TE}
theorem iN(he:PE X e ta)(hb:attributeBase e f X.env (eval e X.env)=eval e X.env):PE X (.Attribute e f pos) (n9 X.K ta f):=by
 intro pins s σ H Q I h
 refine Tj hb (aF (he pins s σ H _ I h) fun u s1 ⟨x,H1,I1,rx,a,C,dx,fs,v,ex,ea,c,n,l,q⟩=>?_)
 subst ex
 obtain rfl:u=Value.ref a:=rx
 exact Xq I1 ea c n l fun u' s2 I2 ru=>⟨v,H1,I2,ru,q⟩
theorem mG(ha:PE X o ta)(hv:PE X value tv)(hs:swapsWith value (some (.Attribute o f pos')) pos.line X.env=pure false):PS X (.Assign [.Attribute o f pos'] value pos) (Bb X.K ta tv f):=by
 intro pins s σ H D I h
 refine plainObj_wpAny_Assign_Attribute (aF (hv pins s σ H _ I h) fun u s1 ⟨y,H1,I1,ry,q⟩=>aF (ha pins s1 σ H1 _ I1 q) fun ov s2 ⟨x,H2,I2,rx,a,C,dx,fs,ex,ea,c,n,l,q2⟩=>?_) hs
 subst ex
 obtain rfl:ov=Value.ref a:=rx
 exact Ol I2 ea c n l ry fun s3 I3=>⟨σ,_,I3,q2⟩
theorem ZH{pl:Sem Bool}{m:Str}{apos:Pos}{args:List Expr}{pins:List (Addr×Obj)}{s:Shared}{σ:St}{H:Hp}{Q:Value->Shared->Prop}{te:TE}(he:PE X e te)(I:Inv X pins σ H s)
  (h : te σ H fun x H1 => ∃ a C dx fs g, x = .ref a /\ H1 a = some (.ins C dx fs) /\ cZ X.K C /\ Meth X.K C m g /\ fs.lookup m = none /\
   ∀s1,Inv X pins σ H1 s1->wpAny (model X.prog X.w) X.A (callWith pos (.ref g) [.ref a] (backTo pos (starEach args X.env)) (backToKw pos (keywordEach [] X.env))) Q X.xe s1)
  (ht : eval (.Call (.Attribute e m apos) args [] pos) X.env = (do
   let ov<-eval e X.env
   standAt apos.atName
   let (f,first)<-holding [ov] (getMethod ov m pl)
   callWith pos f first (backTo pos (starEach args X.env)) (backToKw pos (keywordEach [] X.env)))):
  wpAny (model X.prog X.w) X.A (eval (.Call (.Attribute e m apos) args [] pos) X.env) Q X.xe s:=by
 refine yz (pl:=pl) (aF (he pins s σ H _ I h) fun u s1 ⟨x,H1,I1,rx,a,C,dx,fs,g,ex,ea,c,k,l,q⟩=>?_) ht
 subst ex
 obtain rfl:u=Value.ref a:=rx
 exact yL I1 ea c k l (q s1 I1)
end
section
variable{X:Cx}{pins:List (Addr×Obj)}{σ:St}{H:Hp}{s:Shared}{A:Around}{E:Value->Shared->Prop}{Q:Value->Shared->Prop}{c:Value}{b:Bool}
inductive iO(K:PySem.W.Frag)(H:Hp):V->Value->Prop where
 |aB:iO K H .aB (.type "NoneType")
 |bl (x:Bool):iO K H (.bl x) (.type "bool")
 |int (i:Int):iO K H (.int i) (.type "int")
 |str (x:Str):iO K H (.str x) (.type "str")
 |kU (x:UInt64):iO K H (.kU x) (.type "float")
 |lst {a:Addr} {xs:List V} (e:H a=some (.lst xs)):iO K H (.ref a) (.type "list")
 |gv {a:Addr} {o:Obj} {xs:List V} (e:H a=some (.gv o (.lst xs))):iO K H (.ref a) (.type "list")
 |tup {a:Addr} {xs:List V} (e:H a=some (.tup xs)):iO K H (.ref a) (.type "tuple")
 |dK {a:Addr} {kvs:List (Key×V)} (e:H a=some (.dK kvs)):iO K H (.ref a) (.type "dict")
 |dT {a:Addr} {kvs:List (List Key×V)} (e:H a=some (.dT kvs)):iO K H (.ref a) (.type "dict")
 |JT {a:Addr} {o:Obj} {kvs:List (Key×V)} (e:H a=some (.gv o (.dK kvs))):iO K H (.ref a) (.type "dict")
 | ins {a C dx : Addr} {fs : List (Str × V)} (e : H a = some (.ins C dx fs)) (cl : cZ K C) (ha : PySem.W.findIn K (.ref C) "__class__" = some (some (.builtin "object.__class__")))
   (hn:PySem.W.specialIn K (.builtin "object.__class__") "__get__"=some (some (.builtin "getset_descriptor.__get__"))) (htk:PySem.W.takesIn K (.builtin "object.__class__")=some true)
   (hm:PySem.W.mroIn K C (.type "object")=some true):iO K H (.ref a) (.ref C)
theorem XR{x:V}{u t:Value}(I:Inv X pins σ H s)(rx:RelV x u)(ty:iO X.K H x t)(e:PySem.W.kitOne X.K t c=some b)(h:∀tk,Q (.bool b) {s with toks:=tk}):
    wpAny (model X.prog X.w) A (call (.builtin "isinstance") [u,c]) Q E s:=by
  cases ty with
  |aB=>cases (show u=Value.none from rx);exact jn PySem.W.kitx_none I.bM True.intro e (fun z=>nomatch z) h
  |bl y=>cases (show u=Value.bool y from rx);exact jn PySem.W.kitx_bool I.bM True.intro e (fun z=>nomatch z) h
  |int i=>obtain⟨t,q⟩:=(show∃t,u=Value.int i t from rx);cases q;exact jn PySem.W.kitx_int I.bM True.intro e (fun z=>nomatch z) h
  |str y=>obtain⟨t,q⟩:=(show∃t,u=Value.str y t from rx);cases q;exact jn PySem.W.kitx_str I.bM True.intro e (fun z=>nomatch z) h
  |kU y=>obtain⟨t,q⟩:=(show∃t,u=Value.float y t from rx);cases q;exact jn PySem.W.kitx_float I.bM True.intro e (fun z=>nomatch z) h
  | @lst a xs ea =>
    cases (show u=Value.ref a from rx)
    obtain⟨_,_,n,_,h1⟩:=(show bP X.prog X.w H s.heap a (.lst xs) from I.hok a _ ea)
    exact jn Cm I.bM ⟨_,h1,rfl⟩ e (fun z=>nomatch z) h
  | @gv a ob xs ea =>
    cases (show u=Value.ref a from rx)
    obtain⟨_,_,_,n,_,h1⟩:=(show bP X.prog X.w H s.heap a (.gv ob (.lst xs)) from I.hok a _ ea)
    exact jn Cm I.bM ⟨_,h1,rfl⟩ e (fun z=>nomatch z) h
  | @tup a xs ea =>
    cases (show u=Value.ref a from rx)
    obtain⟨_,_,_,p⟩:=(show bP X.prog X.w H s.heap a (.tup xs) from I.hok a _ ea)
    obtain⟨o,h1,h2,_⟩:=p
    exact jn PySem.W.kitx_tuple I.bM ⟨o,h1,h2⟩ e (fun z=>nomatch z) h
  | @dK a kvs ea =>
    cases (show u=Value.ref a from rx)
    obtain⟨_,_,vs,_,p⟩:=(show bP X.prog X.w H s.heap a (.dK kvs) from I.hok a _ ea)
    obtain⟨o,es,ep,h1,h2,_⟩:=p
    exact jn yk I.bM ⟨o,h1,h2.1⟩ e (fun z=>nomatch z) h
  | @dT a kvs ea =>
    cases (show u=Value.ref a from rx)
    obtain⟨_,_,xs,_,o,es,ep,h1,h2,_⟩:=(show bP X.prog X.w H s.heap a (.dT kvs) from I.hok a _ ea)
    exact jn yk I.bM ⟨o,h1,h2.1⟩ e (fun z=>nomatch z) h
  | @JT a ob kvs ea =>
    cases (show u=Value.ref a from rx)
    obtain⟨_,_,_,vs,_,o,es,ep,h1,h2,_⟩:=I.hok a _ ea
    exact jn yk I.bM ⟨o,h1,h2.1⟩ e (fun z=>nomatch z) h
  | @ins a C dx fs ea cl ha hn htk hm =>
    cases (show u=Value.ref a from rx)
    obtain⟨mA,O,_⟩:=xB I.hok ea
    obtain⟨od,J,_⟩:=O.look
    exact jn (PySem.W.kitx_own (cl.get _) cl.hd ha hn htk hm) I.bM J e (fun z=>nomatch z) h
end
structure cK(k:Nat)(A:Around):Prop where
 hd:A.handled=none
 dp:A.depth+3*k+5<recursionLimit
 un:A.units+16*k+200<cLine
theorem cK.mono{j k:Nat}{A:Around}(r:cK k A)(h:j<=k):cK j A:=⟨r.hd,by have:=r.dp;walk_at "o",by have:=r.un;walk_at "o"⟩
theorem cK.deeper{k:Nat}{A:Around}(r:cK (k+1) A)(env:Env):cK k (A.deeper env):=
 ⟨r.hd,by have:=r.dp;show A.depth+1+3*k+5<_;walk_at "o",by have:=r.un;show A.units+3+16*k+200<_;walk_at "o"⟩
theorem Ob{A:Around}{C:Addr}{us:List Value}{kw:List (Str×Value)}:(A.under (.builtin "type.__call__" ⟨.ref C::us,kw⟩)).depth=A.depth+1:=by
 first|rfl|simp[Around.under,Code.weight,Code.isCreation,Code.isGuard,Code.isCaller,Code.frames,Code.isFrame,guardIds]
theorem WW{A:Around}{C:Addr}{us:List Value}{kw:List (Str×Value)}:(A.under (.builtin "type.__call__" ⟨.ref C::us,kw⟩)).units=A.units+1:=by
 first|rfl|simp[Around.under,Code.cUnits,Code.frames,Code.isFrame]
theorem cK.make{k:Nat}{A:Around}(r:cK (k+1) A)(C:Addr)(us:List Value)(kw:List (Str×Value)):cK k (A.under (.builtin "type.__call__" ⟨.ref C::us,kw⟩)):=
 ⟨r.hd,by have:=r.dp;rw[Ob];walk_at "o",by have:=r.un;rw[WW];walk_at "o"⟩
theorem cK.depth{k:Nat}{A:Around}(r:cK k A):A.depth<recursionLimit:=by have:=r.dp;walk_at "o"
theorem cK.units{k:Nat}{A:Around}(r:cK k A):A.units+64<cLine:=by have:=r.un;walk_at "o"
noncomputable def aX:TA:=fun _ H Q=>Q [] H
noncomputable def aL(ta:TE)(tr:TA):TA:=fun σ H Q=>ta σ H fun x H1=>tr σ H1 fun xs H2=>Q (x::xs) H2
section
variable{X:Cx}{e:Expr}{es:List Expr}{te:TE}{t:TA}{pos:Pos}
theorem aj:PA X [] aX:=fun _ _ _ _ H Q I h=>Calls.spliced_nil ⟨[],H,I, .nil,h⟩
theorem aa(ha:PE X e te)(hr:PA X es t)(hs:starEach (e::es) X.env=(false,eval e X.env)::starEach es X.env:=by rfl):PA X (e::es) (aL te t):=by
 intro pos pins s σ H Q I h
 rw[hs]
 show wpAny _ _ (spliced ((false,eval e X.env)::backTo pos (starEach es X.env))) _ _ s
 refine Calls.spliced_cons (aF (ha pins s σ H _ I h) fun u s1 ⟨x,H1,I1,r1,q1⟩=>?_)
 exact aF (hr pos pins s1 σ H1 _ I1 q1) fun us s2 ⟨xs,H2,I2,r2,q2⟩=>⟨x::xs,H2,I2, .cons r1 r2,q2⟩
noncomputable def sC(t:TA):TE:=fun σ H Q=>t σ H fun xs H1=>xs.length<=sizeLine/\∀p,H1 p=none->Q (.ref p) (upd H1 p (.tup xs))
noncomputable def mK(t:TA):TE:=fun σ H Q=>t σ H fun xs H1=>xs.length<=sizeLine/\∀p,H1 p=none->Q (.ref p) (upd H1 p (.lst xs))
theorem ir{x1}(h:PA X es t):PE X (.Tuple es x1 pos) (sC t):=by
 intro pins s σ H Q I hq
 refine wpAny_Tuple_spliced (aF (h pos pins s σ H _ I hq) fun us s1 ⟨xs,H1,I1,r,z,q⟩=>⟨by rw[<-r.length];exact z,?_⟩)
 have hf:H1 s1.heap.objs.size=none:=I1.hok.fresh (aE _)
 refine⟨.ref s1.heap.objs.size,upd H1 s1.heap.objs.size (.tup xs),I1.laid (t':=s1.toks) (fun b u e=>cz _ e) (aE _) ?_,rfl,q _ hf⟩
 exact⟨z,us,r,⟨_,fS _ rfl,rfl,_,rfl⟩⟩
theorem dS(h:PA X es t):PE X (.List es pos) (mK t):=by
 intro pins s σ H Q I hq
 refine wpAny_List_spliced (aF (h pos pins s σ H _ I hq) fun us s1 ⟨xs,H1,I1,r,z,q⟩=>⟨by rw[<-r.length];exact z,?_⟩)
 have hf:H1 s1.heap.objs.size=none:=I1.hok.fresh (aE _)
 refine⟨.ref s1.heap.objs.size,upd H1 s1.heap.objs.size (.lst xs),I1.laid (t':=s1.toks) (fun b u e=>cz _ e) (aE _) ?_,rfl,q _ hf⟩
 exact⟨z,us,0,r,fS _ rfl⟩
end
noncomputable abbrev Sp:=List V->Hp->VK->XK->Prop
noncomputable abbrev kg:=List Env->Hp->Shared->XK->Value->Shared->Prop
structure oG(P:Program)(w:World)(K:PySem.W.Frag)(mg:Str->Option Value)(base:Heap)(A:Around)(outer:List Env)(s:Shared)(H:Hp):Prop where
 frames:A.frames=some outer
 mod:Mod K mg base
 bs:∀b o,base.get? b=some o->s.heap.get? b=some o/\H b=none
 jW:base.objs.size<=s.heap.objs.size
 gx:s.heap.FunFrames base outer
 kr:∀b∈frs outer,H b=none
 hok:bU P w H s.heap
 bare:AllBare s.gens
noncomputable def CE(outer:List Env)(P:Program)(w:World)(H:Hp)(s:Shared)(Q:VK)(u:Value)(s':Shared):Prop:=
 ∃v H',s'.os=s.os/\AllBare s'.gens/\Un (frs outer) [] H H' s.heap s'.heap/\bU P w H' s'.heap/\RelV v u/\Q v H'
noncomputable def CR(CX:kg)(outer:List Env)(P:Program)(w:World)(H:Hp)(s:Shared)(Q:VK)(E:XK)(r:Result)(s':Shared):Prop:=
 match r with
 | .ok (.ret u)=>CE outer P w H s Q u s'
 | .ok _=>False
 | .error e=>CX outer H s E e s'
structure aY(P:Program)(w:World)(K:PySem.W.Frag)(mg:Str->Option Value)(base:Heap)(CX:kg)(k:Nat)(f:Addr)(fd:FuncData)(ps:List Str)(sp:Sp):Prop where
 len:∀vs H Q E,sp vs H Q E->vs.length=ps.length
 run:∀(A:Around) (outer:List Env) (s:Shared) (H:Hp) (args:Args) (us:List Value) (vs:List V) (Q:VK) (E:XK),cK k A->oG P w K mg base A outer s H->BindsTo s fd args (ps.zip us)->Vals vs us->sp vs H Q E->
  codeAny (model P w) A (.call (.ref f) args) (CR CX outer P w H s Q E) s
theorem oG.make{P:Program}{w:World}{K:PySem.W.Frag}{mg:Str->Option Value}{base:Heap}{A:Around}{outer:List Env}{s:Shared}{H:Hp}(e:oG P w K mg base A outer s H)(C:Addr)(us:List Value)(kw:List (Str×Value)):
  oG P w K mg base (A.under (.builtin "type.__call__" ⟨.ref C::us,kw⟩)) outer s H:=⟨by first|exact e.frames|(simpa[Around.under,Code.envs,Code.isFrame,pushEnvs] using e.frames),e.mod,e.bs,e.jW,e.gx,e.kr,e.hok,e.bare⟩
section
variable{X:Cx}{pins:List (Addr×Obj)}{σ:St}{H:Hp}{s s':Shared}
theorem Inv.AG(I:Inv X pins σ H s):oG X.prog X.w X.K X.mg X.base X.A X.stack s H:=
 ⟨I.ok.frames,I.ok.mod,I.bs,dw I.ok.jW I.sz,I.stack,I.wO,I.hok,I.bare⟩
theorem Inv.after{Q:VK}{u:Value}(I:Inv X pins σ H s)(h:CE X.stack X.prog X.w H s Q u s'):EP X pins σ Q u s':=by
 obtain⟨v,H',os,bare,un,hok,r,q⟩:=h
 obtain⟨hh,g,d,t,os'⟩:=s'
 obtain rfl:os'=s.os:=os
 exact⟨v,H',I.call (h':=hh) (g':=g) (d':=d) (t':=t) (ch:=[]) un hok bare (fun b z=>absurd z (by simp)),r,q⟩
end
noncomputable def fq(sp:Sp)(fj:List V)(E:XK)(t:TA):TE:=fun σ H Q=>t σ H fun vs H1=>sp (vs++fj) H1 Q E
noncomputable def n5(C:Addr)(m:Str)(sp:Sp)(fj:List V)(E:XK)(ta:TE)(t:TA):TE:=fun σ H Q=>ta σ H fun x H1=>∃a dx fs,x= .ref a/\H1 a=some (.ins C dx fs)/\fs.lookup m=none/\
 t σ H1 fun vs H2=>sp (x::(vs++fj)) H2 Q E
noncomputable def Dj(C:Addr)(sp:Sp)(fj:List V)(E:XK)(t:TA):TE:=fun σ H Q=>t σ H fun vs H1=>∀x dx,H1 x=none->H1 dx=none->dx≠x->
 sp (.ref x::(vs++fj)) (upd (upd H1 dx (.own x)) x (.ins C dx [])) (fun v H2=>v= .aB/\Q (.ref x) H2) E
noncomputable def Binds(K:PySem.W.Frag)(fd:FuncData)(ps:List Str)(ds:List Value):Prop:=
 ∀(s:Shared) (us:List Value),K.In s.heap->(us++ds).length=ps.length->BindsTo s fd ⟨us,[]⟩ (ps.zip (us++ds))
theorem Binds.all{K:PySem.W.Frag}{fd:FuncData}{ps:List Str}(h:∀us:List Value,us.length=ps.length->bindArgs fd ⟨us,[]⟩=pure (ps.zip us)):Binds K fd ps []:=fun s us _ hl=>by
 rw[gm] at hl⊢
 exact .of_eq (h us hl)
noncomputable def Passes(CX:kg)(X:Cx)(E:XK):Prop:=∀(pins:List (Addr×Obj)) (σ:St) (H:Hp) (s:Shared) (e:Value) (s':Shared),Inv X pins σ H s->CX X.stack H s E e s'->X.xe e s'
section
variable{X:Cx}{CX:kg}{k:Nat}{f C:Addr}{fd:FuncData}{ps:List Str}{sp:Sp}{fj:List V}{ds:List Value}{E:XK}{x m:Str}{p pos apos:Pos}{e o:Expr}{es:List Expr}{ta:TE}{t:TA}
theorem EJ{pins:List (Addr×Obj)}{σ:St}{H:Hp}{s:Shared}{Q:VK}{us:List Value}{vs:List V}(F:aY X.prog X.w X.K X.mg X.base CX k f fd ps sp)(hr:cK k X.A)(hb:Binds X.K fd ps ds)(hd:Vals fj ds)(hx:Passes CX X E)
    (I:Inv X pins σ H s) (r:Vals vs us) (h:sp (vs++fj) H Q E):wpAny (model X.prog X.w) X.A (call (.ref f) us) (EP X pins σ Q) X.xe s:=by
  have r2:Vals (vs++fj) (us++ds):=r.append hd
  have hl:(us++ds).length=ps.length:=by rw[<-r2.length];exact F.len _ _ _ _ h
  refine wpAny_call (codeAny_mono (F.run X.A X.stack s H ⟨us,[]⟩ (us++ds) (vs++fj) Q E hr I.AG (hb s us I.bM hl) r2 h) fun r s' hq=>?_)
  cases r with
  |error e=>exact hx pins σ H s e s' I hq
  | ok fl =>
    cases fl with
    |ret u=>exact I.after hq
    |next=>exact False.elim hq
    |brk=>exact False.elim hq
    |cont=>exact False.elim hq
theorem VL(F:aY X.prog X.w X.K X.mg X.base CX k f fd ps sp)(hr:cK k X.A)(hg:Gl X x)(hm:X.mg x=some (.ref f))(hk:PySem.W.keepIn X.K (.ref f)=true)(hb:Binds X.K fd ps ds)(hd:Vals fj ds)(hx:Passes CX X E)
  (ha:PA X (e::es) t) (hdb:(x==("__debug__":Str))=false:=by decide) (he:starEach (e::es) X.env=(false,eval e X.env)::starEach es X.env:=by rfl) (hpl:(backTo pos (starEach es X.env)).any (·.1)=false:=by rfl):
  PE X (.Call (.Name x p) (e::es) [] pos) (fq sp fj E t):=by
 intro pins s σ H Q I h
 refine wpAny_Call_Name_kw (qU I hg hm ?_ hdb)
 refine vn (h₀:=X.base) I.ok.mod.nY hk (aF (ha pos pins s σ H _ I h) fun us s1 ⟨vs,H1,I1,r,q⟩=>⟨I1.bM,?_⟩) he hpl
 exact EJ F hr hb hd hx I1 r q
theorem S6{pl:Sem Bool}(he:PE X o ta)(c:cZ X.K C)(hm:Meth X.K C m f)(F:aY X.prog X.w X.K X.mg X.base CX k f fd ps sp)(hr:cK k X.A)(hb:Binds X.K fd ps ds)(hd:Vals fj ds)(hx:Passes CX X E)(ha:PA X (e::es) t)
  (hst:starEach (e::es) X.env=(false,eval e X.env)::starEach es X.env:=by rfl) (hpl:(backTo pos (starEach es X.env)).any (·.1)=false:=by rfl)
  (ht : eval (.Call (.Attribute o m apos) (e :: es) [] pos) X.env = (do
   let ov<-eval o X.env
   standAt apos.atName
   let (f,first)<-holding [ov] (getMethod ov m pl)
   callWith pos f first (backTo pos (starEach (e::es) X.env)) (backToKw pos (keywordEach [] X.env))):=by rfl):
  PE X (.Call (.Attribute o m apos) (e::es) [] pos) (n5 C m sp fj E ta t):=by
 intro pins s σ H Q I h
 refine yz (pl:=pl) (aF (he pins s σ H _ I h) fun u s1 ⟨x,H1,I1,rx,a,dx,fs,ex,ea,l,q⟩=>?_) ht
 subst ex
 obtain rfl:u=Value.ref a:=rx
 refine yL I1 ea c hm l ?_
 refine vn (first:=[.ref a]) (h₀:=X.base) I.ok.mod.nY hm.kp (aF (ha pos pins s1 σ H1 _ I1 q) fun us s2 ⟨vs,H2,I2,r,q2⟩=>⟨I2.bM,?_⟩) hst hpl
 exact EJ (us:= .ref a::us) (vs:= .ref a::vs) F hr hb hd hx I2 (.cons rfl r) q2
theorem O1{pl:Sem Bool}(he:PE X o ta)(c:cZ X.K C)(hm:Meth X.K C m f)(F:aY X.prog X.w X.K X.mg X.base CX k f fd ps sp)(hr:cK k X.A)(hb:Binds X.K fd ps ds)(hd:Vals fj ds)(hx:Passes CX X E)
  (ht : eval (.Call (.Attribute o m apos) [] [] pos) X.env = (do
   let ov<-eval o X.env
   standAt apos.atName
   let (f,first)<-holding [ov] (getMethod ov m pl)
   callWith pos f first (backTo pos (starEach [] X.env)) (backToKw pos (keywordEach [] X.env))):=by rfl):
  PE X (.Call (.Attribute o m apos) [] [] pos) (n5 C m sp fj E ta aX):=by
 intro pins s σ H Q I h
 refine yz (pl:=pl) (aF (he pins s σ H _ I h) fun u s1 ⟨x,H1,I1,rx,a,dx,fs,ex,ea,l,q⟩=>?_) ht
 subst ex
 obtain rfl:u=Value.ref a:=rx
 refine yL I1 ea c hm l ?_
 exact PySem.W.callWith_K0 (first:=[.ref a]) I1.bM hm.kp (EJ (us:=[.ref a]) (vs:=[.ref a]) F hr hb hd hx I1 (.cons rfl .nil) q)
structure Mk(K:PySem.W.Frag)(C f:Addr):Prop where
 makes:PySem.W.makesIn K C=true
 init:PySem.W.findIn K (.ref C) "__init__"=some (some (.ref f))
 fn:PySem.W.isFn K (.ref f)=true
 kp:PySem.W.keepIn K (.ref C)=true
theorem OX{pins:List (Addr×Obj)}{σ:St}{H:Hp}{s:Shared}{Q:VK}{us:List Value}{vs:List V}(M:Mk X.K C f)(F:aY X.prog X.w X.K X.mg X.base CX k f fd ps sp)(hr:cK (k+1) X.A)(hb:Binds X.K fd ps ds)(hd:Vals fj ds)
    (hx:Passes CX X E) (I:Inv X pins σ H s) (r:Vals vs us)
    (h:∀x dx,H x=none->H dx=none->dx≠x->sp (.ref x::(vs++fj)) (upd (upd H dx (.own x)) x (.ins C dx [])) (fun v H2=>v= .aB/\Q (.ref x) H2) E):
    wpAny (model X.prog X.w) X.A (call (.ref C) us) (EP X pins σ Q) X.xe s:=by
  have hq:=h (s.heap.objs.size+1) s.heap.objs.size (I.hok.fresh (iV _)) (I.hok.fresh (aE _)) (cX (o7 _))
  have I2:=Inv.made (C:=C) I
  have r2:Vals (V.ref (s.heap.objs.size+1)::(vs++fj)) (Value.ref (s.heap.objs.size+1)::(us++ds)):= .cons rfl (r.append hd)
  have hl:(Value.ref (s.heap.objs.size+1)::us++ds).length=ps.length:=by
    have e:=r2.length
    rw[F.len _ _ _ _ hq] at e
    exact e.symm
  refine wpAny_call (Ri (f:=f) I.bM M.makes M.init (beq_iff_eq.mp M.fn) (codeAny_mono (F.run _ X.stack _ _ ⟨Value.ref (s.heap.objs.size+1)::us,[]⟩ (Value.ref (s.heap.objs.size+1)::(us++ds)) _ _ E (hr.make C us [])
    (I2.AG.make C us []) (hb _ (Value.ref (s.heap.objs.size+1)::us) I2.bM hl) r2 hq) fun r s' hq'=>?_))
  cases r with
  |error e=>exact hx pins σ _ _ e s' I2 hq'
  | ok fl =>
    cases fl with
    | ret u =>
      obtain⟨v,H',I3,rv,ev,q3⟩:=I2.after hq'
      subst ev
      exact⟨rv,⟨V.ref (s.heap.objs.size+1),H',I3,rfl,q3⟩⟩
    |next=>exact False.elim hq'
    |brk=>exact False.elim hq'
    |cont=>exact False.elim hq'
theorem SM(M:Mk X.K C f)(F:aY X.prog X.w X.K X.mg X.base CX k f fd ps sp)(hr:cK (k+1) X.A)(hg:Gl X x)(hm:X.mg x=some (.ref C))(hb:Binds X.K fd ps ds)(hd:Vals fj ds)(hx:Passes CX X E)
  (ha:PA X (e::es) t) (hdb:(x==("__debug__":Str))=false:=by decide) (he:starEach (e::es) X.env=(false,eval e X.env)::starEach es X.env:=by rfl) (hpl:(backTo pos (starEach es X.env)).any (·.1)=false:=by rfl):
  PE X (.Call (.Name x p) (e::es) [] pos) (Dj C sp fj E t):=by
 intro pins s σ H Q I h
 refine wpAny_Call_Name_kw (qU I hg hm ?_ hdb)
 refine vn (h₀:=X.base) I.ok.mod.nY M.kp (aF (ha pos pins s σ H _ I h) fun us s1 ⟨vs,H1,I1,r,q⟩=>⟨I1.bM,?_⟩) he hpl
 exact OX M F hr hb hd hx I1 r q
end
structure cW(N P:List Str)(sc:Scope):Prop where
 kind:sc.kind= .function
 co:sc.isCoroutine=false
 gen:sc.isGenerator=false
 nd:N.Nodup
 pre:N.take P.length=P
 par:∀x∈P,sc.names.lookup x=some .local\/sc.names.lookup x=some .cell
 XJ:∀y∈sc.names,y.2≠ .free
theorem Mx{kindOf:Str->Option NameKind}{x:Str}:∀{binds:List (Str×Value)} {m:Str->Option Value},(∀v,(x,v)∉binds)->bindL kindOf binds m x=m x
  |[],_,_=>rfl
  | (n, v) :: r, m, h => by
    unfold bindL
    rw[Mx fun w hw=>h w (bJ _ hw)]
    split
    · have:x≠n:=by rintro rfl;exact h v bT
      simp[this]
    · rfl
theorem G9{kindOf:Str->Option NameKind}{x:Str}:∀{binds:List (Str×Value)} {m:Str->Option Value},(∀v,(x,v)∉binds)->bindC kindOf binds m x=m x
  |[],_,_=>rfl
  | (n, v) :: r, m, h => by
    unfold bindC
    rw[G9 fun w hw=>h w (bJ _ hw)]
    split
    · rfl
    · have:x≠n:=by rintro rfl;exact h v bT
      simp[this]
theorem JQ{kindOf:Str->Option NameKind}{x:Str}{v:Value}:∀{P:List Str} {vs:List Value} {i:Nat} {m:Str->Option Value},P.Nodup->P[i]?=some x->vs[i]?=some v->kindOf x=some .local->
    bindL kindOf (P.zip vs) m x=some v
  |[],_,_,_,_,h,_,_=>by simp at h
  |_::_,[],_,_,_,_,h,_=>by simp at h
  | p :: P, w :: vs, 0, m, nd, h1, h2, hk => by
    simp at h1 h2;subst h1;subst h2
    show bindL kindOf ((p,w)::P.zip vs) m p=_
    unfold bindL
    rw[Mx fun v hv=>(fW.mp nd).1 (BB hv).1,if_pos hk]
    simp
  | p :: P, w :: vs, i + 1, m, nd, h1, h2, hk => by
    show bindL kindOf ((p,w)::P.zip vs) m x=_
    unfold bindL
    exact JQ (i:=i) (fW.mp nd).2 (by simpa using h1) (by simpa using h2) hk
theorem KC{kindOf:Str->Option NameKind}{x:Str}{v:Value}:∀{P:List Str} {vs:List Value} {i:Nat} {m:Str->Option Value},P.Nodup->P[i]?=some x->vs[i]?=some v->kindOf x≠some .local->
    bindC kindOf (P.zip vs) m x=some v
  |[],_,_,_,_,h,_,_=>by simp at h
  |_::_,[],_,_,_,_,h,_=>by simp at h
  | p :: P, w :: vs, 0, m, nd, h1, h2, hk => by
    simp at h1 h2;subst h1;subst h2
    show bindC kindOf ((p,w)::P.zip vs) m p=_
    unfold bindC
    rw[G9 fun v hv=>(fW.mp nd).1 (BB hv).1,if_neg hk]
    simp
  | p :: P, w :: vs, i + 1, m, nd, h1, h2, hk => by
    show bindC kindOf ((p,w)::P.zip vs) m x=_
    unfold bindC
    exact KC (i:=i) (fW.mp nd).2 (by simpa using h1) (by simpa using h2) hk
noncomputable def start(N:List Str)(vs:List V):St:=vs.map some++List.replicate (N.length-vs.length) none
noncomputable def nu(CX:kg)(P:Program)(w:World)(K:PySem.W.Frag)(mg:Str->Option Value)(base:Heap)(N:List Str)(qual:Str)(scope:Scope)(f:Addr)(cd:Value)(A:Around)(outer:List Env)(s:Shared)(H:Hp)(E:XK):Cx where
 prog:=P
 w:=w
 K:=K
 mg:=mg
 base:=base
 A:=A.deeper (envOfC qual scope s.heap.objs.size f cd)
 N:=N
 s₀:=s
 H₀:=H
 env:=envOfC qual scope s.heap.objs.size f cd
 outer:=outer
 stack:=envOfC qual scope s.heap.objs.size f cd::outer
 ex:=[]
 calm:=true
 fn:=fun _=>true
 pn:=[]
 xe:=fun e s'=>wpAny (model P w) (A.deeper (envOfC qual scope s.heap.objs.size f cd)) (leaving (envOfC qual scope s.heap.objs.size f cd) e) (fun _ s''=>CX outer H s E e s'') (fun e' s''=>CX outer H s E e' s'') s'
theorem Jt{sc:Scope}{n:Nat}{x:Str}(h:sc.names.lookup x=some .cell):∃c,(cellsFrom n sc.names []).lookup x=some c:=by
 have q:=Hx sc.names n [] (.inl h)
 exact BE.mp q
theorem QW{CX:kg}{P:Program}{w:World}{K:PySem.W.Frag}{mg:Str->Option Value}{base:Heap}{N ps:List Str}{qual:Str}{scope:Scope}{f:Addr}{cd:Value}{A:Around}{outer:List Env}{s s1:Shared}{H:Hp}{E:XK}{us:List Value}{vs:List V}
  (S:cW N ps scope) (hd:A.handled=none) (e0:oG P w K mg base A outer s H) (hl:vs.length=ps.length) (r:Vals vs us)
  (x:InCallC s s.heap.objs.size (bindL (envOfC qual scope s.heap.objs.size f cd).kindOf (ps.zip us) fun _=>none) (cellsFrom (s.heap.objs.size+1) scope.names []) (bindC (envOfC qual scope s.heap.objs.size f cd).kindOf (ps.zip us) fun _=>none) s1):
  Inv (nu CX P w K mg base N qual scope f cd A outer s H E) [] (start N vs) H s1:=by
 have hpl:ps.length<=N.length:=by have:=congrArg List.length S.pre;rw[lB] at this;walk_at "o"
 obtain⟨h1,tk,rfl,hk⟩:=x.done
 have tW:∀b:Addr,b∉(nu CX P w K mg base N qual scope f cd A outer s H E).ex:=fun b z=>absurd (show b∈([]:List Addr) from z) (by simp)
 refine⟨⟨e0.mod,S.kind,rfl,rfl,aE _,fun y z c h1 h2=>?_,fun y hy=>?_,fun y c _ h=>?_,fun _=>hd,Around.frames_deeper e0.frames, .inr ⟨rfl,rfl⟩,fun b z=>absurd z (tW b),e0.bs,e0.jW,fun b _ _=>tW b,fun b z=>absurd z (tW b),e0.gx,e0.kr⟩,
  rfl,e0.bare,Un.kept hk,⟨_,x.toInCall.ns,fun i y v h1 h2 h3=>?_⟩,fun y c h=>⟨_,x.cell y c h⟩,e0.hok.fresh (aE _),fun y c h=>?_,fun p hp=>absurd (show p∈([]:List (Addr×Obj)) from hp) (by simp),e0.hok.kept hk,?_⟩
 ·exact name_of_addr x.apart (pG h1) (pG h2)
 ·have hy:scope.names.lookup y=some .cell\/scope.names.lookup y=some .free:=hy
  rcases hy with hy|hy
  ·exact Jt hy
  ·exact absurd rfl (S.XJ _ (pG hy))
 ·exact mh (x.above y c (pG h))
 ·have hi:i<vs.length:=by
   unfold start at h2
   by_cases hi:i<vs.length
   ·exact hi
   ·rw[dP (by simpa using hi)] at h2
    rw[dj] at h2
    split at h2<;>cases h2
  have ha:vs[i]?=some v:=by
   unfold start at h2
   rw[dz (by simpa using hi),dG] at h2
   cases e:vs[i]? with
   |none=>rw[e] at h2;cases h2
   |some a=>rw[e] at h2;cases h2;rfl
  obtain⟨u,hu,rv⟩:=r.get ha
  have hp:ps[i]?=some y:=by
   rw[<-S.pre,Ng (by walk_at "o")];exact h1
  have M0:ps.Nodup:=by rw[<-S.pre];exact S.nd.sublist (List.take_sublist _ _)
  refine⟨u,rv,?_⟩
  rcases S.par y (iQ hp) with k|k
  ·exact .inl ⟨k,JQ M0 hp hu k⟩
  ·obtain⟨c,e⟩:=Jt (n:=s.heap.objs.size+1) k
   refine .inr ⟨.inl k,c,e,?_⟩
   have q:=x.cell y c e
   rw[KC M0 hp hu (by show scope.names.lookup y≠_;rw[k];decide)] at q
   exact q
 ·exact e0.hok.fresh (mh (x.above y c (pG h)))
 ·unfold start
  show _=N.length
  rw[fu,ay,List.length_replicate]
  walk_at "o"
theorem GQ{CX:kg}{P:Program}{w:World}{K:PySem.W.Frag}{mg:Str->Option Value}{base:Heap}{k:Nat}{f:Addr}{name qual:Str}{params:Arguments}{body:List Stmt}{scope:Scope}{dV kV doc pm cdv ct oc:Value}{an od:Option Addr}
    {osl:Array (Option Value)} {N ps:List Str} {sp:Sp} (lk:K.lookup f=some ⟨oc,od, .func (PySem.W.fnOf name qual params body scope dV kV doc pm an cdv ct),osl⟩) (hcd:PySem.W.codeIn K cdv qual=true) (S:cW N ps scope)
    (len:∀vs H Q E,sp vs H Q E->vs.length=ps.length)
    (hbody:∀(A:Around) (outer:List Env) (s:Shared) (H:Hp) (vs:List V) (Q:VK) (E:XK),cK k (A.deeper (envOfC qual scope s.heap.objs.size f cdv))->sp vs H Q E->
      ∃t,gn (nu CX P w K mg base N qual scope f cdv A outer s H E) body t/\t {nx:=fun _ H'=>Q .aB H',rt:=Q} (start N vs) H):
    aY P w K mg base CX (k+1) f (PySem.W.fnOf name qual params body scope dV kV doc pm an cdv ct) ps sp:=by
  refine⟨len,fun A outer s H args us vs Q E hr e0 hb r kI=>?_⟩
  have hl:=len _ _ _ _ kI
  have KX:K.In s.heap:=e0.mod.nY.keeps fun b o e=>(e0.bs b o e).1
  have lim:s.heap.NoLimit:=e0.mod.nolimit.keeps fun b o e=>(e0.bs b o e).1
  have hkind:∀y∈ps.zip us,scope.names.lookup y.1=some .local\/(scope.names.lookup y.1=some .cell/\((cellsFrom (s.heap.objs.size+1) scope.names []).lookup y.1).isSome=true):=fun⟨n,v⟩ hy=>by
    rcases S.par n (BB hy).1 with q|q
    · exact .inl q
    · exact .inr ⟨q,Hx _ _ _ (.inl q)⟩
  refine codeAny_call_function hr.depth (KX _ _ lk) rfl S.co S.gen rfl (PySem.W.codeRec_of KX hcd) (hb _ _ _ _ ?_)
  refine wpAny_newFunctionEnv_cells S.kind hkind fun env he s1 x=>?_
  subst he
  refine⟨lim.keeps x.toInCall.keep,codeAny_func ?_⟩
  obtain⟨t,ht,hq⟩:=hbody A outer s H vs Q E (hr.deeper _) kI
  have I:Inv (nu CX P w K mg base N qual scope f cdv A outer s H E) [] (start N vs) H s1:=QW S hr.hd e0 hl r x
  refine wpAny_mono (ht [] s1 (start N vs) H _ I hq) (fun fl s' hs=>?_) fun e s' hs=>hs
  have fin:∀{σ':St} {H':Hp} {v:V} {u:Value},Inv (nu CX P w K mg base N qual scope f cdv A outer s H E) [] σ' H' s'->RelV v u->Q v H'->CE outer P w H s Q u s':=
    fun{σ' H' v u} J rv q=>⟨v,H',J.os,J.bare,J.base,J.hok,rv,q⟩
  cases fl with
  | ret u =>
    obtain⟨v,σ',H',J,rv,q⟩:=hs
    exact fin J rv q
  | next =>
    obtain⟨σ',H',J,q⟩:=hs
    exact fin (v:=V.aB) (u:=Value.none) J rfl q
  | brk =>
    obtain⟨_,_,_,q⟩:=hs
    exact False.elim q
  | cont =>
    obtain⟨_,_,_,q⟩:=hs
    exact False.elim q
section
variable{X:Cx}{x:Str}{p pos:Pos}{e:Expr}{es:List Expr}{t:TA}{id T:String}{r:List V->Hp->VK->Prop}
noncomputable def eY(r:List V->Hp->VK->Prop)(t:TA):TE:=fun σ H Q=>t σ H fun vs H1=>r vs H1 Q
theorem cP(hc:fY X (.builtin id) r)(hg:Gl X x)(hm:X.mg x=none)(hv:bootBuiltins x=some (.builtin id))(ha:PA X (e::es) t)(hn:x≠"__name__":=by decide)(hdb:(x==("__debug__":Str))=false:=by decide)
  (he:starEach (e::es) X.env=(false,eval e X.env)::starEach es X.env:=by rfl) (hpl:(backTo pos (starEach es X.env)).any (·.1)=false:=by rfl):PE X (.Call (.Name x p) (e::es) [] pos) (eY r t):=by
 intro pins s σ H Q I h
 refine wpAny_Call_Name_kw (sP I hg hm hv ?_ hn hdb)
 exact PyProof.Rows.callWith_builtin1 (aF (ha pos pins s σ H _ I h) fun us s1 ⟨vs,H1,I1,r1,q1⟩=>hc pins s1 σ H1 vs us Q I1 r1 q1) he hpl
theorem p5(hc:fY X (.type T) r)(hg:Gl X x)(hm:X.mg x=none)(hv:bootBuiltins x=some (.type T))(ha:PA X (e::es) t)(hn:x≠"__name__":=by decide)(hdb:(x==("__debug__":Str))=false:=by decide)
  (he:starEach (e::es) X.env=(false,eval e X.env)::starEach es X.env:=by rfl) (hpl:(backTo pos (starEach es X.env)).any (·.1)=false:=by rfl):PE X (.Call (.Name x p) (e::es) [] pos) (eY r t):=by
 intro pins s σ H Q I h
 refine wpAny_Call_Name_kw (sP I hg hm hv ?_ hn hdb)
 exact EG (aF (ha pos pins s σ H _ I h) fun us s1 ⟨vs,H1,I1,r1,q1⟩=>hc pins s1 σ H1 vs us Q I1 r1 q1) he hpl
end
end L2
namespace HT
open PySem PyProof.Rows
section
open PySem.SeqAt
open PySem.AutoSeq1 (wpAny_loadPart')
open PySem.MeetsSeq PySem.MeetsSeq2 PySem.MeetsSeq3
end
section
variable{prog:Program}{w:World}{A:Around}{E:Value->Shared->Prop}{s:Shared}
noncomputable def eO(n d:Nat):Option Int->Nat
 |none=>d
 |some v=>if v<0 then(v+(n:Int)).toNat else min v.toNat n
end
end HT
namespace L2
open PySem PySem.Spec PyProof.Rows
noncomputable abbrev TO:=St->Hp->(Option Int->Hp->Prop)->Prop
noncomputable def PO(X:Cx)(e:Option Expr)(t:TO):Prop:=
 ∀(pins:List (Addr×Obj)) (s:Shared) (σ:St) (H:Hp) (Q:Option Int->Hp->Prop),Inv X pins σ H s->t σ H Q->
  wpAny (model X.prog X.w) X.A (evalPart e X.env) (fun u s'=>∃o H',Inv X pins σ H' s'/\IsPart u o/\Q o H') X.xe s
noncomputable def Cd:TO:=fun _ H Q=>Q none H
noncomputable def AO(t:TE):TO:=fun σ H Q=>t σ H fun x H1=>∃i,x= .int i/\Q (some i) H1
section
variable{X:Cx}{e:Expr}{te:TE}{lo hi:Option Expr}{tl th:TO}{pos p2:Pos}
theorem L0:PO X none Cd:=by
 intro pins s σ H Q I h
 rw[evalPart_none]
 exact wpAny_pure ⟨none,H,I, .none,h⟩
theorem Iq(h:PE X e te):PO X (some e) (AO te):=by
 intro pins s σ H Q I hw
 rw[evalPart_some]
 refine aF (h pins s σ H _ I hw) fun u s1 ⟨x,H1,I1,r1,q1⟩=>?_
 obtain⟨i,rfl,q⟩:=q1
 obtain⟨t,rfl⟩:=r1
 exact⟨some i,H1,I1, .int i t,q⟩
noncomputable def HL(X:Cx)(r:V->Option Int->Option Int->Hp->VK->Prop):Prop:=
 ∀(pins:List (Addr×Obj)) (s:Shared) (σ:St) (H:Hp) (x:V) (v vl vu:Value) (lo hi:Option Int) (sl:Addr) (Q:VK),Inv X pins σ H s->RelV x v->s.heap.IsSliceOf sl vl vu .none->IsPart vl lo->IsPart vu hi->r x lo hi H Q->
  ∃T id,typeLookup (.type T) "__getitem__"=pure (some (.builtin id))/\s.TypeIs v T/\wpAny (model X.prog X.w) X.A (getItem v (.ref sl)) (EP X pins σ Q) X.xe s
noncomputable def BZ(r:V->Option Int->Option Int->Hp->VK->Prop)(te:TE)(tl th:TO):TE:=fun σ H Q=>te σ H fun x H1=>tl σ H1 fun l H2=>th σ H2 fun u H3=>r x l u H3 Q
theorem JP{r:V->Option Int->Option Int->Hp->VK->Prop}(hr:HL X r)(he:PE X e te)(hl:PO X lo tl)(hu:PO X hi th):PE X (.Subscript e (.Slice lo hi none p2) pos) (BZ r te tl th):=by
 intro pins s σ H Q I h
 refine Subscript_ (aF (he pins s σ H _ I h) fun v s1 ⟨x,H1,I1,r1,q1⟩=>?_)
 refine wpAny_Slice (aF (hl pins s1 σ H1 _ I1 q1) fun vl s2 ⟨l,H2,I2,pl,q2⟩=>aF (hu pins s2 σ H2 _ I2 q2) fun vu s3 ⟨u,H3,I3,pu,q3⟩=>?_)
 rw[evalPart_none]
 refine wpAny_pure ?_
 have I4:Inv X pins σ H3 {s3 with heap:=s3.heap.push {cls:= .type "slice",data:= .fields #[vl,vu, .none]}}:=I3.kept (t':=s3.toks) fun b ob q=>cz _ q
 obtain⟨T,id,hT,ht,hg⟩:=hr pins {s3 with heap:=s3.heap.push {cls:= .type "slice",data:= .fields #[vl,vu, .none]}} σ H3 x v vl vu l u s3.heap.objs.size Q I4 r1 (Heap.IsSliceOf.new ..) pl pu q3
 show wpAny (model X.prog X.w) X.A (subscriptTail e (.Slice lo hi none p2) v (.ref s3.heap.objs.size)) (EP X pins σ Q) X.xe {s3 with heap:=s3.heap.push {cls:= .type "slice",data:= .fields #[vl,vu, .none]}}
 exact tail_any (ops:=[.ref s3.heap.objs.size,v]) ht hT hg (by with_unfolding_all rfl)
noncomputable def lD(xs:List V)(lo hi:Option Int):List V:=(xs.drop (HT.eO xs.length 0 lo)).take (HT.eO xs.length xs.length hi-HT.eO xs.length 0 lo)
theorem Y8(xs:List V)(lo hi:Option Int):(lD xs lo hi).length<=xs.length:=by
 unfold lD
 rw[lB,Em]
 walk_at "o"
noncomputable def X7(K:PySem.W.Frag):V->Option Int->Option Int->Hp->VK->Prop:=fun x lo hi H Q=>∃a xs,x= .ref a/\gP K H a xs/\
 ¬(HT.eO xs.length 0 lo=0/\HT.eO xs.length xs.length hi=xs.length)/\∀p,H p=none->Q (.ref p) (upd H p (.tup (lD xs lo hi)))
noncomputable def N6(K:PySem.W.Frag):R2:=fun x y H Q=>∃a b xs ys,x= .ref a/\y= .ref b/\gP K H a xs/\gP K H b ys/\xs≠[]/\xs.length+ys.length<=sizeLine/\
 (ys=[]->Q (.ref a) H)/\(ys≠[]->∀p,H p=none->Q (.ref p) (upd H p (.tup (xs++ys))))
end
noncomputable def jX(n:Nat)(i:Int):Option Nat:=if 0<=i then(if i<n then some i.toNat else none) else if-(n:Int)<=i then some (i+n).toNat else none
noncomputable def cB{α:Type}(xs:List α)(i:Int):Option α:=(jX xs.length i).bind fun j=>xs[j]?
theorem IV{n:Nat}{i:Int}{j:Nat}(h:jX n i=some j):seqIndex? i n=some j/\j<n/\ -(n:Int)<=i/\i<n:=by
 unfold jX at h
 by_cases h0:0<=i
 ·rw[if_pos h0] at h
  by_cases h1:i<n
  ·rw[if_pos h1] at h
   have e:i.toNat=j:=iM h
   exact⟨by rw[seqIndex_of h0 h1,e],by walk_at "o",by walk_at "o",h1⟩
  ·rw[if_neg h1] at h;cases h
 ·rw[if_neg h0] at h
  by_cases h1: -(n:Int)<=i
  ·rw[if_pos h1] at h
   have e:(i+n).toNat=j:=iM h
   exact⟨by rw[seqIndex_neg (by walk_at "o") h1,e],by walk_at "o",h1,by walk_at "o"⟩
  ·rw[if_neg h1] at h;cases h
theorem Dw{α:Type}{xs:List α}{i:Int}{v:α}(h:cB xs i=some v):∃j,seqIndex? i xs.length=some j/\xs[j]?=some v/\j<xs.length/\ -(xs.length:Int)<=i/\i<xs.length:=by
  unfold cB at h
  cases e:jX xs.length i with
  |none=>rw[e] at h;cases h
  | some j =>
    rw[e] at h
    obtain⟨h1,h2,h3,h4⟩:=IV e
    exact⟨j,h1,h,h2,h3,h4⟩
theorem Vs{α:Type}{xs:List α}{j:Nat}{v:α}(h:xs[j]?=some v):cB xs (j:Int)=some v:=by
 have hj:j<xs.length:=(bh.mp h).1
 have e:jX xs.length (j:Int)=some j:=by
  unfold jX
  rw[if_pos (by walk_at "o"),if_pos (by walk_at "o")];simp
 unfold cB;rw[e];exact h
noncomputable def Yk(b:Expr):Prop:=∀o i,subscripted b false o i=operate [o,i] (getItem o i)
noncomputable def lW(X:Cx)(r:R2):Prop:=
 ∀(value slice:Expr) (pins:List (Addr×Obj)) (s:Shared) (σ:St) (H:Hp) (x y:V) (v u:Value) (Q:VK),Inv X pins σ H s->RelV x v->RelV y u->r x y H Q->
  subscripted slice false v u=operate [v,u] (getItem v u)->wpAny (model X.prog X.w) X.A (subscriptTail value slice v u) (EP X pins σ Q) X.xe s
noncomputable def Mv(X:Cx)(id:String)(r:V->List V->Hp->VK->Prop):Prop:=
 ∀(pins:List (Addr×Obj)) (s:Shared) (σ:St) (H:Hp) (x:V) (xs:List V) (v:Value) (us:List Value) (Q:VK),Inv X pins σ H s->RelV x v->Vals xs us->r x xs H Q->
  wpAny (model X.prog X.w) X.A (call (.builtin id) (v::us)) (EP X pins σ Q) X.xe s
section
variable{X:Cx}{a b:Expr}{ta tb:TE}{pos:Pos}
theorem lW.or{r r':R2}(h:lW X r)(h':lW X r'):lW X (fun x y H Q=>r x y H Q\/r' x y H Q):=by
 intro value slice pins s σ H x y v u Q I rx ry q hs
 rcases q with q|q
 ·exact h value slice pins s σ H x y v u Q I rx ry q hs
 ·exact h' value slice pins s σ H x y v u Q I rx ry q hs
theorem aR{r:R2}(hr:lW X r)(ha:PE X a ta)(hb:PE X b tb)(hs:Yk b):PE X (.Subscript a b pos) (cG r ta tb):=by
 intro pins s σ H Q I h
 exact Subscript_ (Bh ha hb I h fun v u s2 x y H2 I2 rx ry q=>hr a b pins s2 σ H2 x y v u Q I2 rx ry q (hs _ _))
noncomputable def bS(K:PySem.W.Frag):R2:=fun x y H Q=>∃p xs i v,x= .ref p/\y= .int i/\aS K H p xs/\cB xs i=some v/\Q v H
noncomputable def i7(K:PySem.W.Frag):R2:=fun x y H Q=>∃p xs i v,x= .ref p/\y= .int i/\gP K H p xs/\cB xs i=some v/\Q v H
noncomputable def KL:R2:=fun x y H Q=>∃z i c,x= .str z/\y= .int i/\z.length<=sizeLine/\cB z.cps.toList i=some c/\Q (.str ⟨#[c]⟩) H
theorem bq:lW X (bS X.K):=by
 intro value slice pins s σ H x y v u Q I rx ry h hs
 obtain⟨p,xs,i,z,rfl,rfl,hq,he,q⟩:=h
 cases rx
 obtain⟨t,rfl⟩:=ry
 obtain⟨its,r,pl,hz⟩:=I.list hq
 obtain⟨j,h1,h2,h3,h4,h5⟩:=Dw he
 obtain⟨w,ew,rw'⟩:=r.get h2
 have hl:=r.length
 have hn:=sy
 have fin:EP X pins σ Q w s:=⟨z,H,I,rw',q⟩
 by_cases h0:0<=i
 ·have hj:i.toNat=j:=by
   rw[seqIndex_of h0 h5] at h1
   exact iM h1
  exact item_listR pl.isList h0 (by walk_at "o") (by rw[hj];simpa using ew) fin hs
 ·have hj:(i+(its.toArray.size:Int)).toNat=j:=by
   rw[seqIndex_neg (by walk_at "o") h4] at h1
   rw[cN,<-hl]
   exact iM h1
  exact subscriptTail_builtinR (x:=w) pl.isList.typeIs slot_list_getitem.lookup
   (wpAny_getItem_list_neg (Q:=fun r s'=>r=w/\EP X pins σ Q r s') pl.isList (by walk_at "o") (by rw[cN]<;>walk_at "o") (by walk_at "o") (by rw[hj];simpa using ew) ⟨rfl,fin⟩) hs
theorem jO:lW X (i7 X.K):=by
 intro value slice pins s σ H x y v u Q I rx ry h hs
 obtain⟨p,xs,i,z,rfl,rfl,hq,he,q⟩:=h
 cases rx
 obtain⟨t,rfl⟩:=ry
 obtain⟨its,r,pl,hz⟩:=I.tuple hq
 obtain⟨j,h1,h2,h3,h4,h5⟩:=Dw he
 obtain⟨w,ew,rw'⟩:=r.get h2
 have hl:=r.length
 have hn:=sy
 have fin:EP X pins σ Q w s:=⟨z,H,I,rw',q⟩
 exact subscriptTail_builtinR (x:=w) pl.typeIs slot_tuple_getitem.lookup
  (getItem_tuple (j:=j) (Q:=fun r s'=>r=w/\EP X pins σ Q r s') pl (by walk_at "o") (by walk_at "o") (by rw[cN,<-hl];exact h1) (by simpa using ew) ⟨rfl,fin⟩) hs
theorem UU:lW X KL:=by
 intro value slice pins s σ H x y v u Q I rx ry h hs
 obtain⟨z,i,c,rfl,rfl,hz,he,q⟩:=h
 obtain⟨t,rfl⟩:=rx
 obtain⟨t',rfl⟩:=ry
 obtain⟨j,h1,h2,h3,h4,h5⟩:=Dw he
 have hl:z.cps.toList.length=z.length:=by simp[Str.length]
 rw[hl] at h1 h4 h5
 have hn:=sy
 exact tail_any (typeIs_str s z t) slot_str_getitem.lookup (getItem_str (c:=c) (by
  have e1:decide (i< -(2^63:Int))=false:=decide_eq_false (by walk_at "o")
  have e2:decide (i≥2^63)=false:=decide_eq_false (by walk_at "o")
  rw[e1,e2,oH]) (by rw[h1];simpa using h2) ⟨.str ⟨#[c]⟩,H,I.tok _,⟨_,rfl⟩,q⟩) hs
noncomputable def xY(K:PySem.W.Frag):R2:=fun x y H Q=>bS K x y H Q\/i7 K x y H Q\/KL x y H Q
theorem G6:lW X (xY X.K):=bq.or (jO.or UU)
theorem Wh(its:List Value)(n j:Nat)(u:Value):Obj.mapSeq (·.setIfInBounds j u) {cls:= .type "list",data:= .seq its.toArray n}={cls:= .type "list",data:= .seq (its.set j u).toArray n}:=by
 simp[Obj.mapSeq]
theorem Inv.lst{pins:List (Addr×Obj)}{σ:St}{H:Hp}{s:Shared}{p:Addr}{xs:List V}(I:Inv X pins σ H s)(h:H p=some (.lst xs)):
  ∃(its:List Value) (n:Nat),Vals xs its/\s.heap.get? p=some {cls:= .type "list",data:= .seq its.toArray n}/\xs.length<=sizeLine:=by
 obtain⟨z,its,n,r,e⟩:=I.hok p _ h
 exact⟨its,n,r,e,z⟩
theorem Inv.Pf{pins:List (Addr×Obj)}{σ:St}{H:Hp}{s:Shared}{p:Addr}{xs ys:List V}{its its':List Value}{n n':Nat}{f:Obj->Obj}(I:Inv X pins σ H s)(h:H p=some (.lst xs))
  (ho:s.heap.get? p=some {cls:= .type "list",data:= .seq its.toArray n}) (hf:f {cls:= .type "list",data:= .seq its.toArray n}={cls:= .type "list",data:= .seq its'.toArray n'}) (r:Vals ys its') (hz:ys.length<=sizeLine) (t:Nat):
  Inv X pins σ (upd H p (.lst ys)) {s with heap:=s.heap.update p f,toks:=t}:=by
 have e:(s.heap.update p f).get? p=some {cls:= .type "list",data:= .seq its'.toArray n'}:=by
  rw[yg f ho (by rw[hf]<;>rfl),hf]
 refine I.write (x:=p) (e:=p) (by rw[h];trivial) (.inl rfl) (fun b u hb q=>(k7 _ _ (cR hb)).trans q) ⟨_,e⟩ ?_
 exact⟨hz,its',n',r,e⟩
noncomputable def vJ:V->V->V->Hp->(Hp->Prop)->Prop:=fun o i v H Q=>∃p xs k j,o= .ref p/\i= .int k/\H p=some (.lst xs)/\jX xs.length k=some j/\Q (upd H p (.lst (xs.set j v)))
theorem set_list:E9 X vJ:=by
 intro pins s σ H o i v ov iv u Q I ro ri rv h
 obtain⟨p,xs,k,j,rfl,rfl,hp,hj,q⟩:=h
 cases ro
 obtain⟨t,rfl⟩:=ri
 obtain⟨its,n,r,ho,hz⟩:=I.lst hp
 obtain⟨h1,h2,h3,h4⟩:=IV hj
 have hl:=r.length
 have hn:=sy
 have I':Inv X pins σ (upd H p (.lst (xs.set j v))) {s with heap:=s.heap.update p (Obj.mapSeq (·.setIfInBounds j u))}:=
  I.Pf hp ho (Wh its n j u) (r.set rv j) (by rw[gp];exact hz) s.toks
 by_cases h0:0<=k
 ·have hk:k.toNat=j:=by
   rw[seqIndex_of h0 h4] at h1
   exact iM h1
  exact PySem.W.ki_setAt ho h0 (by walk_at "o") (by rw[cN,<-hl];exact h4) (by rw[hk];exact⟨_,I',q⟩)
 ·have hk:(k+(its.toArray.size:Int)).toNat=j:=by
   rw[seqIndex_neg (by walk_at "o") h3] at h1
   rw[cN,<-hl]
   exact iM h1
  exact PySem.W.ki_setBack ho (by walk_at "o") (by rw[cN,<-hl];exact h3) (by walk_at "o") (by rw[hk];exact⟨_,I',q⟩)
theorem Ze(lo hi:Option Int)(n:Nat):(sliceBounds lo hi none n).1=((HT.eO n 0 lo:Nat):Int)/\(sliceBounds lo hi none n).2.1=((HT.eO n n hi:Nat):Int)/\(sliceBounds lo hi none n).2.2=1:=by
  refine⟨?_,?_,rfl⟩
  · cases lo with
    |none=>simp[sliceBounds,HT.eO]
    | some i =>
      simp only[sliceBounds,HT.eO,Option.getD_none,show(1:Int)>0 by decide,if_true]
      by_cases h:i<0
      · simp only[h,if_true]<;>walk_at "o"
      · simp only[h,if_false]<;>walk_at "o"
  · cases hi with
    |none=>simp[sliceBounds,HT.eO]
    | some i =>
      simp only[sliceBounds,HT.eO,Option.getD_none,show(1:Int)>0 by decide,if_true]
      by_cases h:i<0
      · simp only[h,if_true]<;>walk_at "o"
      · simp only[h,if_false]<;>walk_at "o"
theorem OW(its:List Value)(lo hi:Option Int):slicePick its.toArray lo hi none=((its.drop (HT.eO its.length 0 lo)).take (HT.eO its.length its.length hi-HT.eO its.length 0 lo)).toArray:=by
 obtain⟨h1,h2,h3⟩:=Ze lo hi its.toArray.size
 unfold slicePick
 rw[h1,h2,h3]
 simp only[sliceRange_one,pick_run,cN]<;>rfl
noncomputable def BJ(K:PySem.W.Frag):V->Option Int->Option Int->Hp->VK->Prop:=fun x lo hi H Q=>∃a xs,x= .ref a/\aS K H a xs/\∀p,H p=none->Q (.ref p) (upd H p (.lst (lD xs lo hi)))
theorem Iv:HL X (BJ X.K):=by
 intro pins s σ H x v vl vu lo hi sl Q I rx hs pl pu h
 obtain⟨a,xs,rfl,hx,q⟩:=h
 cases rx
 obtain⟨its,r,ht,hz⟩:=I.list hx
 have hlen:=r.length
 refine⟨"list",_,slot_list_getitem.lookup,ht.isList.typeIs,?_⟩
 refine wpAny_getItem_list_slice ht.isList hs pl pu .none (by simp) ?_ (by rw[cN]<;>walk_at "o")
 rw[OW,<-hlen]
 refine⟨.ref s.heap.objs.size,_,I.laid (t':=s.toks) (o:= .lst (lD xs lo hi)) (fun b ob q=>cz _ q) (aE _) ?_,rfl,q _ (I.hok.fresh (aE _))⟩
 exact⟨dw (Y8 xs lo hi) hz,_,0,(r.drop (HT.eO xs.length 0 lo)).take (HT.eO xs.length xs.length hi-HT.eO xs.length 0 lo),fS _ rfl⟩
noncomputable def nG:V->Bool
 | .aB=>true
 | .bl _=>true
 | .int _=>true
 | .str _=>true
 |_=>false
noncomputable def nq:V->V->Bool
 | .aB, .aB=>true
 | .bl a, .bl b=>a==b
 | .bl a, .int b=>(if a then 1 else 0)==b
 | .int a, .bl b=>a==(if b then 1 else 0)
 | .int a, .int b=>a==b
 | .str a, .str b=>a==b
 |_,_=>false
theorem OU{A:Around}{s:Shared}{y x:V}{u v:Value}(ry:RelV y u)(rx:RelV x v)(fy:nG y=true)(fx:nG x=true):SeqAt.EqAt A s u v (nq y x):=by
  cases y with
  | aB =>
    cases ry
    cases x with
    |aB=>cases rx;exact SeqAt.EqAt.same _
    |bl b=>cases rx;exact SeqAt.EqAt.none_bool b
    |int b=>obtain⟨t,rfl⟩:=rx;exact SeqAt.EqAt.none_int b t
    |str b=>obtain⟨t,rfl⟩:=rx;exact SeqAt.EqAt.none_str b t
    |_=>exact absurd (show false=true from fx) bH
  | bl a =>
    cases ry
    cases x with
    |aB=>cases rx;exact SeqAt.EqAt.bool_none a
    |bl b=>cases rx;exact SeqAt.EqAt.bool_bool a b
    |int b=>obtain⟨t,rfl⟩:=rx;exact SeqAt.EqAt.bool_int a b t
    |str b=>obtain⟨t,rfl⟩:=rx;exact SeqAt.EqAt.bool_str a b t
    |_=>exact absurd (show false=true from fx) bH
  | int a =>
    obtain⟨t',rfl⟩:=ry
    cases x with
    |aB=>cases rx;exact SeqAt.EqAt.int_none a t'
    |bl b=>cases rx;exact SeqAt.EqAt.int_bool a t' b
    |int b=>obtain⟨t,rfl⟩:=rx;exact SeqAt.EqAt.int_int a t' b t
    |str b=>obtain⟨t,rfl⟩:=rx;exact SeqAt.EqAt.int_str a t' b t
    |_=>exact absurd (show false=true from fx) bH
  | str a =>
    obtain⟨t',rfl⟩:=ry
    cases x with
    |aB=>cases rx;exact SeqAt.EqAt.str_none a t'
    |bl b=>cases rx;exact SeqAt.EqAt.str_bool a t' b
    |int b=>obtain⟨t,rfl⟩:=rx;exact SeqAt.EqAt.str_int a t' b t
    |str b=>obtain⟨t,rfl⟩:=rx;exact SeqAt.EqAt.str_str a t' b t
    |_=>exact absurd (show false=true from fx) bH
  |_=>exact absurd (show false=true from fy) bH
noncomputable def mz(x:V)(u:Value):Bool:=match u with
 | .none=>nq .aB x
 | .bool b=>nq (.bl b) x
 | .int i _=>nq (.int i) x
 | .str z _=>nq (.str z) x
 |_=>false
theorem LY{x y:V}{u:Value}(r:RelV y u)(f:nG y=true):mz x u=nq y x:=by
 cases y with
 |aB=>cases r;rfl
 |bl b=>cases r;rfl
 |int i=>obtain⟨t,rfl⟩:=r;rfl
 |str z=>obtain⟨t,rfl⟩:=r;rfl
 |_=>exact absurd (show false=true from f) bH
theorem BG{x:V}:∀{xs:List V} {us:List Value},Vals xs us->xs.all nG=true->us.any (mz x)=xs.any fun y=>nq y x
  |_,_, .nil,_=>rfl
  | y :: xs, u :: us, .cons r t, f => by
    rw[ny,dN] at f
    rw[mq,mq,LY r f.1,BG t f.2]
theorem EA{A:Around}{s:Shared}{x:V}{v:Value}(rx:RelV x v)(fx:nG x=true):∀{xs:List V} {us:List Value},Vals xs us->xs.all nG=true->∀u∈us,SeqAt.EqAt A s u v (mz x u)
  |_,_, .nil,_=>fun u hu=>by cases hu
  | y :: xs, u :: us, .cons r t, f => fun u' hu => by
    rw[ny,dN] at f
    rcases aA.mp hu with rfl|hu
    · rw[LY r f.1];exact OU r rx f.1 fx
    · exact EA rx fx t f.2 u' hu
noncomputable def sM(x:V)(xs:List V):Bool:=xs.any fun y=>nq y x
noncomputable def zG(K:PySem.W.Frag)(neg:Bool):R2:=fun x y H Q=>∃p xs,y= .ref p/\(aS K H p xs\/gP K H p xs)/\nG x=true/\xs.all nG=true/\Q (.bl (if neg then !sM x xs else sM x xs)) H
theorem UO:dB X (compareOp .In) (zG X.K false):=by
 intro pins s σ H x y v u Q I rx ry h
 obtain⟨p,xs,rfl,hq,fx,fs,q⟩:=h
 cases ry
 rcases hq with hq|hq
 ·obtain⟨its,r,pl,hz⟩:=I.list hq
  refine SeqAt.in_listAt (mz x) pl.isList (fun w hw=>EA rx fx r fs w (by simpa using hw)) ⟨.bl _,H,I,rfl,?_⟩
  rw[show its.toArray.any (mz x)=its.any (mz x) by simp,BG r fs]
  exact q
 ·obtain⟨its,r,pl,hz⟩:=I.tuple hq
  refine SeqAt.in_tupleAt (mz x) pl (fun w hw=>EA rx fx r fs w (by simpa using hw)) ⟨.bl _,H,I,rfl,?_⟩
  rw[show its.toArray.any (mz x)=its.any (mz x) by simp,BG r fs]
  exact q
theorem KG:fY X (.builtin "len") (fun xs H Q=>∃p ys,xs=[.ref p]/\(aS X.K H p ys\/gP X.K H p ys)/\Q (.int ys.length) H):=by
 intro pins s σ H xs us Q I r h
 obtain⟨p,ys,rfl,hq,q⟩:=h
 obtain⟨u,rfl,rx⟩:=vals1 r
 cases rx
 have hn:=sy
 rcases hq with hq|hq
 ·obtain⟨its,r',pl,hz⟩:=I.list hq
  have hlen:=r'.length
  exact Calls.call_len_list pl.isList (by simp only[cN]<;>walk_at "o") ⟨.int ys.length,H,I.tok _,⟨s.toks+1,by rw[cN,hlen]⟩,q⟩
 ·obtain⟨its,r',pl,hz⟩:=I.tuple hq
  have hlen:=r'.length
  exact len_tuple pl (by simp only[cN]<;>walk_at "o") ⟨.int ys.length,H,I.tok _,⟨s.toks+1,by rw[cN,hlen]⟩,q⟩
theorem Wa:fY X (.type "list") (fun xs H Q=>∃p ys,xs=[.ref p]/\(aS X.K H p ys\/gP X.K H p ys)/\∀l,H l=none->Q (.ref l) (upd H l (.lst ys))):=by
 intro pins s σ H xs us Q I r h
 obtain⟨p,ys,rfl,hq,q⟩:=h
 obtain⟨u,rfl,rx⟩:=vals1 r
 cases rx
 have fin:∀(its:List Value),Vals ys its->ys.length<=sizeLine->∀(h':Heap) (c':Nat),(∀b o',s.heap.get? b=some o'->h'.get? b=some o')->
   h'.get? s.heap.objs.size=some {cls:= .type "list",dict:=none,data:= .seq its.toArray c',slots:= #[]}->EP X pins σ Q (.ref s.heap.objs.size) {s with heap:=h'}:=fun its r' hz h' c' kp e=>
  ⟨.ref s.heap.objs.size,_,I.laid (t':=s.toks) kp (aE _) (show bP X.prog X.w _ h' _ (.lst ys) from⟨hz,its,c',r',e⟩),rfl,q _ (I.hok.fresh (aE _))⟩
 rcases hq with hq|hq
 ·obtain⟨its,r',pl,hz⟩:=I.list hq
  have hlen:=r'.length
  obtain⟨o,ho,hc,n,hd⟩:=pl.isList
  exact call_list_seq p (.inl rfl) ho hc hd (fun h' c' kp e=>fin its r' hz h' c' kp e) (by simp only[cN]<;>walk_at "o")
 ·obtain⟨its,r',pl,hz⟩:=I.tuple hq
  have hlen:=r'.length
  obtain⟨o,ho,hc,n,hd⟩:=pl
  exact call_list_seq p (.inr rfl) ho hc hd (fun h' c' kp e=>fin its r' hz h' c' kp e) (by simp only[cN]<;>walk_at "o")
noncomputable def sR(K:PySem.W.Frag)(T:String)(x:V)(H:Hp):Prop:=match x with
 | .str _=>T="str"
 | .int _=>T="int"
 | .ref p => (T = "list" /\ ∃ xs, aS K H p xs) \/ (T = "tuple" /\ ∃ o, K.lookup p = some o /\ o.cls = .type "tuple" /\ o.dict = none) \/
   (T="dict" /\((∃kvs,H p=some (.dK kvs))\/(∃kvs,H p=some (.dT kvs))\/∃o kvs,H p=some (.gv o (.dK kvs))))\/(T="set" /\∃S n,H p=some (.set S n))
 |_=>False
theorem Wy{pins:List (Addr×Obj)}{σ:St}{H:Hp}{s:Shared}{T:String}{x:V}{v:Value}(I:Inv X pins σ H s)(r:RelV x v)(ty:sR X.K T x H):
    s.TypeIs v T/\∀a,v= .ref a->∃ob,s.heap.get? a=some ob/\ob.dict=none:=by
  cases x with
  | str z =>
    obtain⟨t,rfl⟩:=r
    cases (show T="str" from ty)
    exact⟨typeIs_str s z t,fun _ e=>nomatch e⟩
  | int i =>
    obtain⟨t,rfl⟩:=r
    cases (show T="int" from ty)
    exact⟨typeIs_int s i t,fun _ e=>nomatch e⟩
  | ref p =>
    cases r
    rcases ty with ⟨rfl,xs,hq⟩|⟨rfl,o,hk,hc,hd⟩|⟨rfl,hk⟩|⟨rfl,S,n,hk⟩
    · obtain⟨its,_,pl,_⟩:=I.list hq
      refine⟨pl.isList.typeIs,fun a e=>?_⟩
      cases e
      obtain⟨o,n,e,c,hd,_⟩:=pl
      exact⟨o,e,hd⟩
    · refine⟨⟨o,I.bM p o hk,hc⟩,fun a e=>?_⟩
      cases e
      exact⟨o,I.bM _ o hk,hd⟩
    · have z:∃o,s.heap.get? p=some o/\o.ExactDict:=by
        rcases hk with ⟨kvs,hk⟩|⟨kvs,hk⟩|⟨ob,kvs,hk⟩
        · obtain⟨_,_,_,_,o,_,_,e,ex,_⟩:=I.hok p _ hk
          exact⟨o,e,ex⟩
        · obtain⟨_,_,_,_,o,_,_,e,ex,_⟩:=I.hok p _ hk
          exact⟨o,e,ex⟩
        · obtain⟨_,_,_,_,_,o,_,_,e,ex,_⟩:=I.hok p _ hk
          exact⟨o,e,ex⟩
      obtain⟨o,e,ex⟩:=z
      refine⟨⟨o,e,ex.1⟩,fun a e2=>?_⟩
      cases e2
      exact⟨o,e,ex.2.1⟩
    · obtain⟨o,_,_,_,e,ex,_⟩:=I.hok p _ hk
      refine⟨⟨o,e,ex.1⟩,fun a e2=>?_⟩
      cases e2
      exact⟨o,e,ex.2.1⟩
  |_=>exact False.elim ty
noncomputable def QL(K:PySem.W.Frag)(T:String)(r:V->List V->Hp->VK->Prop)(to:TE):TE:=fun σ H Q=>to σ H fun x H1=>sR K T x H1/\r x [] H1 Q
noncomputable def oR(K:PySem.W.Frag)(T:String)(r:V->List V->Hp->VK->Prop)(to:TE)(t:TA):TE:=fun σ H Q=>to σ H fun x H1=>sR K T x H1/\t σ H1 fun xs H2=>r x xs H2 Q
variable{o e:Expr}{es:List Expr}{to:TE}{t:TA}{name:Str}{apos cpos:Pos}{T id:String}{r:V->List V->Hp->VK->Prop}
theorem q8(pa:PlainAttrs T)(slot:Slot T name id)(hty:typeOf (.builtin id)=pure (.type "method_descriptor"))(hm:Mv X id r)(ho:PE X o to)(ha:PA X (e::es) t)
  (hbase:attributeBase o name X.env (eval o X.env)=eval o X.env:=by rfl)
  (hfew : ((backTo cpos (starEach (e :: es) X.env)).all (fun x => !x.1) && (backToKw cpos (keywordEach [] X.env)).all (fun x => x.1.isSome)
   && decide ((e::es).length+([]:List Keyword).length+(if([]:List Keyword).isEmpty then 0 else 1)<30))=true:=by rfl)
  (hline:(apos.endLine==cpos.line)=true:=by rfl) (hs:starEach (e::es) X.env=(false,eval e X.env)::starEach es X.env:=by rfl) (hplain:(backTo cpos (starEach es X.env)).any (·.1)=false:=by rfl):
  PE X (.Call (.Attribute o name apos) (e::es) [] cpos) (oR X.K T r to t):=by
 intro pins s σ H Q I h
 refine wpAny_Call_method_late hbase hfew hline rfl (aF (ho pins s σ H _ I h) fun v s1 ⟨x,H1,I1,r1,ty,q1⟩=>?_)
 obtain⟨h1,h2⟩:=Wy I1 r1 ty
 refine⟨T,id,pa,slot,hty,h1,h2,?_⟩
 have hA:=ha cpos pins s1 σ H1 _ I1 q1
 rw[hs] at hA⊢
 refine Calls.callWith_builtin (by show(false||(backTo cpos (starEach es X.env)).any (·.1))=false;rw[hplain]<;>rfl) (Calls.evalArgs_plain ?_)
 exact aF hA fun us s2 ⟨vs,H2,I2,r2,q2⟩=>hm pins s2 σ H2 x vs v us Q I2 r1 r2 q2
/-xs.append(e),list.index on a module's tuple .. are Mv facts of 06m-/
end
noncomputable def vM(X:Cx)(id:String)(r:V->List V->Hp->VK->Prop):Prop:=
 ∀(pins:List (Addr×Obj)) (s:Shared) (σ:St) (H:Hp) (x:V) (xs:List V) (v:Value) (us:List Value) (Q:VK),Inv X pins σ H s->RelV x v->Vals xs us->r x xs H Q->
  wpAny (model X.prog X.w) X.A (call (.builtin id) (v::us)) (EP X pins σ Q) X.xe s
theorem Vals.one{x:V}{us:List Value}(h:Vals [x] us):∃u,us=[u]/\RelV x u:=by
 cases h with
 |cons r t=>cases t;exact⟨_,rfl,r⟩
theorem Vals.two{x y:V}{us:List Value}(h:Vals [x,y] us):∃u v,us=[u,v]/\RelV x u/\RelV y v:=by
  cases h with
  | cons r t =>
    obtain⟨v,e,q⟩:=Vals.one t
    exact⟨_,v,by rw[e],r,q⟩
theorem Vals.dropLast{xs:List V}{us:List Value}(h:Vals xs us):Vals xs.dropLast us.dropLast:=by
  induction h with
  |nil=>exact .nil
  | cons r t ih =>
    cases t with
    |nil=>exact .nil
    |cons q t'=>exact .cons r ih
theorem Vals.eraseIdx:∀{xs:List V} {us:List Value} (i:Nat),Vals xs us->Vals (xs.eraseIdx i) (us.eraseIdx i)
 |_,_,_, .nil=> .nil
 |_,_,0, .cons _ t=>t
 |_,_,i+1, .cons r t=> .cons r (Vals.eraseIdx i t)
section
variable{X:Cx}{pins:List (Addr×Obj)}{σ:St}{H:Hp}{s:Shared}{l b:Addr}{xs ys zs:List V}
theorem Inv.Dr{its its':List Value}{n:Nat}{f:Array Value->Array Value}{t':Nat}(I:Inv X pins σ H s)(hH:H l=some (.lst xs))
  (e:s.heap.get? l=some {cls:= .type "list",data:= .seq its.toArray n}) (hf:f its.toArray=its'.toArray) (hv:Vals ys its') (hz:ys.length<=sizeLine):
  Inv X pins σ (upd H l (.lst ys)) {s with heap:=s.heap.update l (Obj.mapSeq f),toks:=t'}:=by
 have q:=PySem.IsL.update e f
 rw[hf] at q
 refine I.write (x:=l) (e:=l) (by rw[hH];exact trivial) (.inl rfl) (fun b' u hb hu=>(k7 s.heap (Obj.mapSeq f) (cR hb)).trans hu) ⟨_,q⟩ ?_
 exact⟨hz,its',_,hv,q⟩
theorem Inv.Na{its:List Value}{t':Nat}(I:Inv X pins σ H s)(hv:Vals ys its)(hz:ys.length<=sizeLine):
  Inv X pins σ (upd H s.heap.objs.size (.lst ys)) {s with heap:=s.heap.push {cls:= .type "list",data:= .seq its.toArray},toks:=t'}:=
 I.laid (fun _ _ q=>cz _ q) (aE _) ⟨hz,its,0,hv,fS _ rfl⟩
theorem Inv.fresh(I:Inv X pins σ H s):H s.heap.objs.size=none:=I.hok.fresh (aE _)
theorem Inv.sD(I:Inv X pins σ H s)(hH:H l=some (.lst xs)):xs.length<=sizeLine/\∃(its:List Value) (n:Nat),Vals xs its/\xs.length=its.length/\s.heap.get? l=some {cls:= .type "list",data:= .seq its.toArray n}:=by
 obtain⟨z,its,n,r,e⟩:=I.hok l _ hH
 exact⟨z,its,n,r,r.length,e⟩
theorem Ye{n:Nat}(h:n<=sizeLine):Builtin.List.listTooLong n=false:=by
 unfold Builtin.List.listTooLong
 exact decide_eq_false (by walk_at "o")
end
section
variable{X:Cx}
noncomputable def Cj:V->List V->Hp->VK->Prop:=fun x vs H Q=>∃l xs y,x= .ref l/\vs=[y]/\H l=some (.lst xs)/\xs.length<sizeLine/\Q .aB (upd H l (.lst (xs++[y])))
theorem yN:vM X "list.append" Cj:=by
 intro pins s σ H x vs v us Q I rx rv h
 obtain⟨l,xs,y,rfl,rfl,hH,hz,q⟩:=h
 cases rx
 obtain⟨u,rfl,ru⟩:=rv.one
 obtain⟨z,its,n,r,hl,e⟩:=I.sD hH
 refine call_meets F.slot_list_append ⟨_,e,rfl⟩ F.entry_list_append (F.args_list_append_2 _ _) (PySem.list_append l its.toArray n u (by rw[cN];walk_at "o")) ⟨e,?_⟩
 refine⟨.aB,_,I.Dr (its':=its++[u]) hH e (by simp) (r.append (.cons ru .nil)) ?_,rfl,q⟩
 rw[fu,lV]
 walk_at "o"
noncomputable def Qh:V->List V->Hp->VK->Prop:=fun x vs H Q=>∃l b xs zs,x= .ref l/\vs=[.ref b]/\H l=some (.lst xs)/\H b=some (.lst zs)/\xs.length+zs.length<=sizeLine/\Q .aB (upd H l (.lst (xs++zs)))
theorem ZM:vM X "list.extend" Qh:=by
 intro pins s σ H x vs v us Q I rx rv h
 obtain⟨l,b,xs,zs,rfl,rfl,hH,hB,hz,q⟩:=h
 cases rx
 obtain⟨u,rfl,ru⟩:=rv.one
 cases ru
 obtain⟨z,its,n,r,hl,e⟩:=I.sD hH
 obtain⟨z2,its2,n2,r2,hl2,e2⟩:=I.sD hB
 have hsz:its.toArray.size+its2.toArray.size<=sizeLine:=by rw[cN,cN];walk_at "o"
 have Xb:¬(!its.toArray.isEmpty && Builtin.List.listTooLong (its.toArray.size+its2.toArray.size))=true:=by
  rw[Ye hsz,Bool.and_false]
  exact bH
 refine call_meets F.slot_list_extend ⟨_,e,rfl⟩ F.entry_list_extend (F.args_list_extend_2 _ _)
  (AutoSeq1.list_extend_list_list_0 l its.toArray n b its2.toArray n2 Xb (by rw[cN];walk_at "o") (by walk_at "o")) ⟨e,e2,?_⟩
 refine⟨.aB,_,I.Dr (its':=its++its2) hH e (by simp) (r.append r2) ?_,rfl,q⟩
 rw[fu]
 walk_at "o"
noncomputable def DW:R2:=fun x y H Q=>∃l b xs zs,x= .ref l/\y= .ref b/\H l=some (.lst xs)/\H b=some (.lst zs)/\xs.length+zs.length<=sizeLine/\∀p,H p=none->Q (.ref p) (upd H p (.lst (xs++zs)))
theorem tQ:dB X (binaryOp .Add) DW:=by
 intro pins s σ H x y v u Q I rx ry h
 obtain⟨l,b,xs,zs,rfl,rfl,hH,hB,hz,q⟩:=h
 cases rx
 cases ry
 obtain⟨z,its,n,r,hl,e⟩:=I.sD hH
 obtain⟨z2,its2,n2,r2,hl2,e2⟩:=I.sD hB
 refine PySem.P.add_list e e2 ?_ (by rw[cN,cN];walk_at "o")
 have ea:its.toArray++its2.toArray=(its++its2).toArray:=by simp
 rw[ea]
 exact⟨.ref _,_,I.Na (t':=s.toks) (r.append r2) (by rw[fu];walk_at "o"),rfl,q _ I.fresh⟩
end
end L2
namespace Att
open PySem PySem.W PySem.Calls PyProof.Rows
theorem Xn{P:Params}{h:Heap}:∀(ns:List Int) (vs:List Value),WellAll P h vs (ns.map WData.int)->IntsAre vs ns:=by
  intro ns
  induction ns with
  | nil =>
    intro vs w
    rw[vX] at w
    cases w
    exact .nil
  | cons n ns ih =>
    intro vs w
    rw[bx] at w
    cases w with
    | cons a b =>
      cases a
      exact .cons _ _ (ih _ b)
theorem V2{l:OpenLaw}{n:Nat}(hn:l.most=some n){P:Params}{h:Heap}{args:List WData}{vals:List Value}
    (hpre:l.row.toRowW.claim.pre args=true) (hwl:WellAll P h vals args):
    ∃a vs ns,vals=[Value.ref a]/\args=[WData.list (ns.map WData.int)]/\h.get? a=some {cls:= .type "list",data:= .seq vs.toArray}/\IntsAre vs ns/\ns.length<=n:=by
  have hsh:WShape.hasAll [] args [.list .int]=true:=(pre_splitW hpre).1
  have hc:l.pre.holds [] {args:=args}=true:=(pre_splitW hpre).2
  obtain⟨d,r,rfl,h1,h2⟩:=hasAllW_cons hsh
  obtain rfl:=hasAllW_nil h2
  obtain⟨xs,rfl,h3⟩:=hasW_list h1
  obtain⟨ns,rfl⟩:=items_int h3
  have hlen:ns.length<=n:=by
    unfold OpenLaw.pre at hc
    have h4:(WTm.not (.lt (.lit (.int (n:Int))) (.len (.arg 0)))).holds [] {args:=[.list (ns.map .int)]}=true:=by
      have h4:=(holds_andW hc).1
      rw[hn] at h4
      exact h4
    have h5:=condW_of h4 (w_not (w_lt w_lit (w_len_list (w_arg rfl))))
    rw[ay] at h5
    refine BD fun q=>?_
    have q':(n:Int)<((ns.length:Nat):Int):=by walk_at "o"
    first
      |(rw[decide_eq_true q'] at h5;exact absurd h5 (by decide))
      |(simp at h5;walk_at "o")
  cases hwl with
  | cons w1 w2 =>
    cases w2
    cases w1 with
    |list ho hall=>exact⟨_,_,ns,rfl,rfl,ho,Xn ns _ hall,hlen⟩
theorem Ur(l:OpenLaw)(args:List WData):l.row.toRowW.claim.post args (.bool true) args=true:=
 postW_of (r:=l.row.toRowW) (X:=(true==true))
  (show WShape.has [] (.bool true) .bool=true by first|rfl|decide|simp[WShape.has,WShape.arms,WShape.armsAll])
  (show(WTm.eq .res (.lit (.bool true))).value [] {args:=args,res:=some (.bool true),after:=args}=some (.bool (true==true)) from w_eq_bool (w_res rfl) w_lit) rfl
theorem YY{l:OpenLaw}{n:Nat}{q:Program}{loose:List Str}{XP:(Str->Option Value)->Heap->Prop}{YP:World->Heap->Prop}{d:DefRec}
  (hn:l.most=some n) (hdf:d.params.defaults=[])
  (call : ∀ (w : World) (s₀ s₁ : Shared) (mg mb : Str -> Option Value) (fa : Addr) (o : Obj) (pm cd doc : Value) (a : Addr) (vs : List Value) (ns : List Int),
   Ground q loose [] XP w s₀ mg mb s₁.heap->YP w s₁.heap->
   s₁.heap.get? fa=some o->o.data= .func (docDef d.name d.params d.body d.scope pm cd doc)->s₁.heap.CodeRec cd d.name->mg d.name=some (.ref fa)->
   s₁.heap.get? a=some {cls:= .type "list",data:= .seq vs.toArray}->IntsAre vs ns->ns.length<=n->s₁.gens= #[]->
   codeAny (model l.prog w) callerA (.call (.ref fa) ⟨[.ref a],[]⟩) (fun r s'=>r= .ok (.ret (.bool true))/\OldK s₁.heap s'.heap/\s'.os=s₁.os/\AllBare s'.gens) s₁):
  WalkO q loose XP YP l.row.toRowW d [] (fun f vs=>PySem.call f vs):=by
 intro w s₀ s₁ mg mb G Y fa o pm cd doc dV kV ho hd hcd hD hmg hg args vals as hpre hlay hrd hwl hlo
 obtain rfl:dV= .none:=Dflts.none hD hdf
 obtain rfl:kV= .none:=Dflts.noKw hD
 obtain⟨a,vs,ns,rfl,rfl,hobj,hints,hlen⟩:=V2 hn hpre hwl
 refine enter_call (codeAny_mono (call w s₀ s₁ mg mb fa o pm cd doc a vs ns G Y ho (fd_plain hd) hcd hmg hobj hints hlen hg) fun r s' hq=>?_)
 obtain⟨rfl,h2,h3,h4⟩:=hq
 exact⟨.inl ⟨.bool true, .bool true,[],rfl,fun _=>rfl, .bool true,Ur l _,fun _=>⟨List.Pairwise.nil,fun _ hm=>(nomatch hm)⟩⟩,h2,h3,h4⟩
section
variable{prog:Program}{w:World}{A:Around}{E:Value->Shared->Prop}{s:Shared}{K:Frag}
noncomputable def ledger(h:Heap)(L d:Addr):List (Addr×Obj):=(List.range h.objs.size).filterMap fun a=>if a=L\/a=d then none else(h.get? a).map fun o=>(a,o)
end
end Att
namespace L2
open PySem PySem.Spec PyProof.Rows
theorem MB:∀{vs:List Value} {ns:List Int},IntsAre vs ns->Vals (ns.map V.int) vs
 |_,_, .nil=> .nil
 |_,_, .cons n t h=> .cons ⟨t,rfl⟩ (MB h)
noncomputable def AS(H:Hp):Prop:=∀b,H b=none\/∃o xs,H b=some (.gv o (.lst xs))
theorem Rq{P:Program}{w:World}{K:PySem.W.Frag}{mg mb:Str->Option Value}{CX:kg}{k:Nat}{fa a:Addr}{fd:FuncData}{x:Str}{sp:Sp}{s₁:Shared}{vs:List Value}{ns:List Int}
    (KX:K.In s₁.heap) (hns:s₁.heap.Ns mainGlobals mg) (hb:s₁.heap.Ns builtinsNs mb) (zU:∀x:Str,x≠"__name__" ->mb x=bootBuiltins x) (hlim:s₁.heap.NoLimit) (hg:s₁.gens= #[])
    (ha:s₁.heap.get? a=some {cls:= .type "list",data:= .seq vs.toArray}) (hi:IntsAre vs ns) (hl:ns.length<=sizeLine) (hr:cK k callerA)
    (F:∀base:Heap,K.In base->base.Ns mainGlobals mg->aY P w K mg base CX k fa fd [x] sp) (hbind:∀(s:Shared) (u:Value),BindsTo s fd ⟨[u],[]⟩ [(x,u)])
    (kI:∀H:Hp,AS H->aS K H a (ns.map V.int)->sp [.ref a] H (fun v _=>v= .bl true) fun _ _ _=>False)
    (Df:∀H e s',CX [] H s₁ (fun _ _ _=>False) e s'->False):
    codeAny (model P w) callerA (.call (.ref fa) ⟨[.ref a],[]⟩) (fun r s'=>r= .ok (.ret (.bool true))/\OldK s₁.heap s'.heap/\s'.os=s₁.os/\AllBare s'.gens) s₁:=by
  have rv:=MB hi
  have QD:=hi.length
  have core:∀H:Hp,AS H->aS K H a (ns.map V.int)->bU P w H s₁.heap->(∀b,H b≠none->b=a)->(H a≠none->K.lookup a=none)->
      codeAny (model P w) callerA (.call (.ref fa) ⟨[.ref a],[]⟩) (fun r s'=>r= .ok (.ret (.bool true))/\OldK s₁.heap s'.heap/\s'.os=s₁.os/\AllBare s'.gens) s₁:=by
    intro H hO hS hok hA hK
    have LU:∀{b:Addr} {o:Obj},s₁.heap.get? b=some o->H b=none->(l7 s₁.heap H).get? b=some o:=fun e n=>WL e n
    have tW:∀{b:Addr} {o:Obj} {es:Array DictEntry} {ep:Nat},s₁.heap.get? b=some o->o.data= .dict es ep->H b=none:=fun{b o es ep} e d=>by
      cases q:H b with
      |none=>rfl
      | some u =>
        have e':b=a:=hA b (by rw[q];simp)
        subst e'
        rw[ha] at e;cases e
        have d':Data.seq vs.toArray _=Data.dict es ep:=d
        cases d'
    have zB:∀{b:Addr} {m:Str->Option Value},s₁.heap.Ns b m->(l7 s₁.heap H).Ns b m:=fun{b m} ⟨o,es,ep,e,d,r⟩=>⟨o,es,ep,LU e (tW e d),d,r⟩
    have NH:K.In (l7 s₁.heap H):=fun b o e=>LU (KX b o e) (by
      cases q:H b with
      |none=>rfl
      | some u =>
        have e':b=a:=hA b (by rw[q];simp)
        subst e'
        rw[hK (by rw[q];simp)] at e;cases e)
    have hM:Mod K mg (l7 s₁.heap H):=⟨NH,zB hns,⟨mb,zB hb,zU⟩,let ⟨mc,h1,h2⟩:=hlim;⟨mc,zB h1,h2⟩⟩
    have e0:oG P w K mg (l7 s₁.heap H) callerA [] s₁ H:=⟨rfl,hM,fun b o e=>UZ e,mY (Zn _ _),trivial,fun b hb=>absurd (show b∈([]:List Addr) from hb) (by simp),hok, .of_eq hg⟩
    refine codeAny_mono ((F _ NH (zB hns)).run callerA [] s₁ H ⟨[.ref a],[]⟩ [.ref a] [.ref a] _ _ hr e0 (hbind s₁ (.ref a)) (.cons rfl .nil) (kI H hO hS)) fun r s' h=>?_
    cases r with
    |error e=>exact(Df H e s' h).elim
    | ok fl =>
      cases fl with
      |next=>exact False.elim h
      |brk=>exact False.elim h
      |cont=>exact False.elim h
      | ret u =>
        obtain⟨v,H',os,bare,un,Qv,r',q⟩:=h
        have q':v= .bl true:=q
        subst q'
        obtain rfl:u=Value.bool true:=r'
        refine⟨rfl,OldK.of_keep fun b o e=>?_,os,bare⟩
        cases q:H b with
        |none=>exact un.keep b o e q (by intro z;exact absurd (show b∈([]:List Addr) from z) (by simp)) (by simp)
        | some u =>
          rcases hO b with z|⟨ob,xs,z⟩
          · rw[q] at z;cases z
          · have z2:=un.jV b ob _ z
            obtain⟨e1,_⟩:=hok b _ z
            obtain⟨e2,_⟩:=Qv b _ z2
            rw[e] at e1;cases e1
            exact e2
  cases hk:K.lookup a with
  | some o =>
    have e:=KX a o hk
    rw[ha] at e
    cases e
    refine core (fun _=>none) (fun _=> .inl rfl) (.inr ⟨_,vs.toArray,_,hk,rfl,rfl,rfl,by rw[cN,QD];exact hl,by simpa using rv⟩) (fun b u z=>by have z':(none:Option HO)=some u:=z;cases z') (fun b z=>absurd rfl z) fun z=>absurd rfl z
  | none =>
    refine core (fun b=>if b=a then some (.gv {cls:= .type "list",data:= .seq vs.toArray} (.lst (ns.map V.int))) else none) (fun b=>?_) (.inl (.inr ⟨{cls:= .type "list",data:= .seq vs.toArray},if_pos rfl⟩)) (fun b u z=>?_) (fun b z=>?_) fun _=>hk
    · by_cases hb:b=a
      · exact .inr ⟨_,_,if_pos hb⟩
      · exact .inl (if_neg hb)
    · by_cases hb:b=a
      · have z':=(if_pos hb).symm.trans z
        cases z'
        subst hb
        exact⟨ha,by rw[ay];exact hl,vs,_,rv,ha⟩
      · have z':=(if_neg hb).symm.trans z
        cases z'
    · by_cases hb:b=a
      · exact hb
      · exact absurd (if_neg hb) z
theorem Ql{l:PySem.W.OpenLaw}{n k:Nat}{q:Program}{loose:List Str}{XP:(Str->Option Value)->Heap->Prop}{YP:World->Heap->Prop}{d:DefRec}{K:Params->PySem.W.Frag}{CX:World->kg}{sp:World->Sp}{x:Str}
  (hn:l.most=some n) (hn2:n<=sizeLine) (hdf:d.params.defaults=[]) (hr:cK k callerA)
  (hY:∀(w:World) (h:Heap),YP w h->(K w.params).In h)
  (F : ∀ (w : World) (mg : Str -> Option Value) (fa : Addr) (h : Heap), (K w.params).In h -> h.Ns mainGlobals mg -> mg d.name = some (.ref fa) ->
   ∃fd:FuncData,(∀(s:Shared) (u:Value),BindsTo s fd ⟨[u],[]⟩ [(x,u)])/\
    ∀base:Heap,(K w.params).In base->base.Ns mainGlobals mg->aY l.prog w (K w.params) mg base (CX w) k fa fd [x] (sp w))
  (kI:∀(w:World) (H:Hp) (a:Addr) (ns:List Int),ns.length<=n->AS H->aS (K w.params) H a (ns.map V.int)->sp w [.ref a] H (fun v _=>v= .bl true) fun _ _ _=>False)
  (Df:∀(w:World) (H:Hp) (s:Shared) (e:Value) (s':Shared),CX w [] H s (fun _ _ _=>False) e s'->False):
  PySem.W.WalkO q loose XP YP l.row.toRowW d [] (fun f vs=>PySem.call f vs):=by
 refine Att.YY hn hdf fun w s₀ s₁ mg mb fa o pm cd doc a vs ns G Y ho hd hcd hmg hobj hints hlen hg=>?_
 have KX:=hY w _ Y
 obtain⟨fd,hb,hF⟩:=F w mg fa _ KX G.T.g hmg
 exact Rq KX G.T.g G.T.b G.T.builtins G.T.nolimit hg hobj hints (dw hlen hn2) hr hF hb (fun H hO hS=>kI w H a ns hlen hO hS) fun H e s'=>Df w H s₁ e s'
end L2
/-THE LAST THEOREM (shape;LID,My.*are yours):
   My.Adr:a structure of the addresses that your layer names (classes,functions);My.Txt K t:a structure (Prop) of the equations over K;
   My.txt_mk:{K} {implicit addresses ..} (e1:nsIn K mainGlobals "law"=some (some (.ref f))) (e2:K.lookup f=some ⟨oc,od, .func (fnOf "law" "law" params body scope dV kV doc pm an cdv ct),sl⟩) (e3:codeIn K cdv "law"=true) .. :∃t,My.Txt K t
set_option maxRecDepth 100000 in
set_option maxHeartbeats 0 in
(the tactic k_is has no namespace:write k_is)-/
namespace L2
open PySem PySem.Spec PyProof.Rows
noncomputable def inClass(s:Stmt)(j:Nat):Stmt:=match s with
 | .ClassDef _ _ _ body _ _ _ _ _ _ _=>body.getD j (.Pass ⟨0,0,0,0⟩)
 |_=> .Pass ⟨0,0,0,0⟩
noncomputable def iX(s:Stmt):Arguments:=match s with
 | .FunctionDef _ a _ _ _ _ _ _ _ _=>a
 |_=>{posonlyargs:=[],args:=[],vararg:=none,kwonlyargs:=[],kw_defaults:=[],kwarg:=none,defaults:=[]}
noncomputable def g8(s:Stmt):List Stmt:=match s with
 | .FunctionDef _ _ b _ _ _ _ _ _ _=>b
 |_=>[]
noncomputable def aW(s:Stmt):Scope:=match s with
 | .FunctionDef _ _ _ _ _ _ sc _ _ _=>sc
 |_=>{kind:= .function,names:=[],isGenerator:=false,isCoroutine:=false}
noncomputable abbrev cT:kg:=fun _ _ _ _ _ _=>False
noncomputable abbrev E0:XK:=fun _ _ _=>False
theorem vW{X:Cx}:Passes cT X E0:=fun _ _ _ _ _ _ _ h=>h.elim
structure bW(K:PySem.W.Frag)(x qual:Str)(st:Stmt)(f:Addr)(fd:FuncData):Prop where
 ex:∃(oc:Value) (od:Option Addr) (kV doc pm:Value) (an:Option Addr) (cdv ct:Value) (osl:Array (Option Value)),
  fd=PySem.W.fnOf x qual (iX st) (g8 st) (aW st) .none kV doc pm an cdv ct/\K.lookup f=some ⟨oc,od, .func fd,osl⟩/\PySem.W.codeIn K cdv qual=true
 kp:PySem.W.keepIn K (.ref f)=true
section
variable{P:Program}{w:World}{K:PySem.W.Frag}{mg:Str->Option Value}{base:Heap}
theorem bW.ok{x qual:Str}{st:Stmt}{f:Addr}{fd:FuncData}{N ps:List Str}{k:Nat}{sp:Sp}(F:bW K x qual st f fd)(S:cW N ps (aW st))(len:∀vs H Q E,sp vs H Q E->vs.length=ps.length)
  (hbody : ∀ (cdv : Value) (A : Around) (outer : List Env) (s : Shared) (H : Hp) (vs : List V) (Q : VK) (E : XK), cK k (A.deeper (envOfC qual (aW st) s.heap.objs.size f cdv)) -> sp vs H Q E ->
   ∃t,gn (nu cT P w K mg base N qual (aW st) f cdv A outer s H E).yH (g8 st) t/\t {nx:=fun _ H'=>Q .aB H',rt:=Q} (start N vs) H):aY P w K mg base cT (k+1) f fd ps sp:=by
 obtain⟨oc,od,kV,doc,pm,an,cdv,ct,osl,rfl,lk,hcd⟩:=F.ex
 refine GQ lk hcd S len fun A outer s H vs Q E hr kI=>?_
 obtain⟨t,h,q⟩:=hbody cdv A outer s H vs Q E hr kI
 exact⟨t,h.yH,q⟩
theorem bW.binds{x qual:Str}{st:Stmt}{f:Addr}{fd:FuncData}{ps:List Str}(F:bW K x qual st f fd)
  (h:∀(kV doc pm:Value) (an:Option Addr) (cdv ct:Value) (us:List Value),us.length=ps.length->bindArgs (PySem.W.fnOf x qual (iX st) (g8 st) (aW st) .none kV doc pm an cdv ct) ⟨us,[]⟩=pure (ps.zip us)):Binds K fd ps []:=by
 obtain⟨oc,od,kV,doc,pm,an,cdv,ct,osl,rfl,lk,hcd⟩:=F.ex
 exact .all (h kV doc pm an cdv ct)
theorem lO{x qual:Str}{st:Stmt}{f:Addr}{oc:Value}{od an:Option Addr}{osl:Array (Option Value)}{kV doc pm cdv ct:Value}(l:K.lookup f=some ⟨oc,od, .func (PySem.W.fnOf x qual (iX st) (g8 st) (aW st) .none kV doc pm an cdv ct),osl⟩)
  (c:PySem.W.codeIn K cdv qual=true) (k:PySem.W.keepIn K (.ref f)=true):bW K x qual st f (PySem.W.fnOf x qual (iX st) (g8 st) (aW st) .none kV doc pm an cdv ct):=⟨⟨oc,od,kV,doc,pm,an,cdv,ct,osl,rfl,l,c⟩,k⟩
end
theorem Ie{n:Nat}(h:n<=1000):n<sizeLine:=rG h (by decide)
section
variable{X:Cx}
theorem pv(i:Nat){x:Str}{pos:Pos}(hN:X.N[i]?=some x:=by rfl)(hv:C4 X.env.scope x:=by first|exact Or.inl rfl|exact Or.inr (Or.inl rfl)|exact Or.inr (Or.inr rfl))(hd:(x==("__debug__":Str))=false:=by decide)
  (hcd:(x==("__classdict__":Str))=false:=by decide):PE X (.Name x pos) (bf i):=Ww hN hv hd hcd
end
theorem Mz{A B:Prop}(h:B):if false=true then A else B:=by
 rw[if_neg bH]
 exact h
theorem zy{A B:Prop}(h:A):if true=true then A else B:=by
 rw[if_pos rfl]
 exact h
theorem ua{c A B:Prop}[Decidable c](h1:c->A)(h2:¬c->B):if c then A else B:=by
 by_cases h:c
 ·rw[if_pos h]
  exact h1 h
 ·rw[if_neg h]
  exact h2 h
noncomputable def bu(H H':Hp):Prop:=∀b o,H b=some o->H' b=some o
theorem bu.refl(H:Hp):bu H H:=fun _ _ h=>h
theorem bu.trans{H H1 H2:Hp}(a:bu H H1)(b:bu H1 H2):bu H H2:=fun c o h=>b c o (a c o h)
theorem bu.free{H H':Hp}(e:bu H H'){l:Addr}(h:H' l=Option.none):H l=Option.none:=by
  cases q:H l with
  |none=>rfl
  | some o =>
    rw[e l o q] at h
    cases h
theorem bu.seq{K:PySem.W.Frag}{H H':Hp}{a:Addr}{xs:List V}(e:bu H H')(h:aS K H a xs):aS K H' a xs:=by
 rcases h with (h|⟨o,h⟩)|h
 ·exact .inl (.inl (e _ _ h))
 ·exact .inl (.inr ⟨o,e _ _ h⟩)
 ·exact .inr h
end L2
set_option maxHeartbeats 1000000
namespace L2
open PySem PySem.Spec PyProof.Rows
noncomputable def ju(cells:List (Str×Addr)):List (Str×NameKind)->List (Str×Addr)->List (Str×Addr)
 |[],acc=>acc
 |(n,k)::r,acc=>ju cells r (if k==NameKind.free then(match cells.lookup n with|some a=>(n,a)::acc|none=>acc) else acc)
theorem CB{env:Env}{f:Str×NameKind->List (Str×Addr)->Sem (ForInStep (List (Str×Addr)))}
    (hf:∀x acc,f x acc=if(x.2==NameKind.free)=true then(do let a<-cellOf env x.1;pure (ForInStep.yield ((x.1,a)::acc))) else pure (ForInStep.yield acc)):
    ∀(l:List (Str×NameKind)) (acc:List (Str×Addr)),(∀x∈l,x.2= .free->∃a,env.cells.lookup x.1=some a)->(forIn l acc f:Sem (List (Str×Addr)))=pure (ju env.cells l acc)
  |[],acc,_=>by rw[List.forIn_nil];rfl
  | (n, k) :: r, acc, h => by
    have hr:=fun x hx=>h x (bJ _ hx)
    rw[List.forIn_cons,hf]
    by_cases hk:(k==NameKind.free)=true
    · have hk':k=NameKind.free:=by simpa using hk
      obtain⟨a,ha⟩:=h (n,k) bT hk'
      have hc:cellOf env n=pure a:=by unfold cellOf;rw[ha]
      rw[if_pos hk,hc]
      show(forIn r ((n,a)::acc) f:Sem (List (Str×Addr)))=pure (ju env.cells r _)
      rw[CB hf r _ hr,if_pos hk,ha]
    · rw[if_neg hk]
      show(forIn r acc f:Sem (List (Str×Addr)))=pure (ju env.cells r _)
      rw[CB hf r _ hr,if_neg hk]
theorem Sw{scope:Scope}{env:Env}(h:∀x∈scope.names,x.2= .free->∃a,env.cells.lookup x.1=some a):closureFor scope env=pure (ju env.cells scope.names []):=by
 simp only[closureFor]
 rw[CB (env:=env) (fun⟨n,k⟩ acc=>by dsimp only) scope.names [] h]
 rfl
theorem B3{cells:List (Str×Addr)}:∀{l:List (Str×NameKind)} {acc:List (Str×Addr)} {x:Str} {c:Addr},(∀y d,acc.lookup y=some d->cells.lookup y=some d)->(ju cells l acc).lookup x=some c->cells.lookup x=some c
  |[],_,_,_,ha,h=>ha _ _ h
  | (n, k) :: r, acc, x, c, ha, h => by
    refine B3 (l:=r) ?_ h
    intro y d hd
    by_cases hk:(k==NameKind.free)=true
    · rw[if_pos hk] at hd
      cases q:cells.lookup n with
      |none=>rw[q] at hd;exact ha _ _ hd
      | some a =>
        rw[q] at hd
        by_cases hy:(y==n)=true
        · have hy':y=n:=by simpa using hy
          subst hy'
          simp[bG] at hd
          rw[q,hd]
        · have hy':(y==n)=false:=by simpa using hy
          simp only[bG,hy'] at hd
          exact ha _ _ hd
    · rw[if_neg hk] at hd;exact ha _ _ hd
theorem JR{cells:List (Str×Addr)}:∀{l:List (Str×NameKind)} {acc:List (Str×Addr)} {x:Str},(acc.lookup x).isSome=true->((ju cells l acc).lookup x).isSome=true
  |[],_,_,h=>h
  | (n, k) :: r, acc, x, h => by
    refine JR (l:=r) ?_
    by_cases hk:(k==NameKind.free)=true
    · rw[if_pos hk]
      cases q:cells.lookup n with
      |none=>exact h
      | some a =>
        by_cases hy:(x==n)=true
        · simp[bG,hy]
        · have hy':(x==n)=false:=by simpa using hy
          simp only[bG,hy']
          exact h
    · rw[if_neg hk];exact h
theorem Nt{cells:List (Str×Addr)}:∀{l:List (Str×NameKind)} {acc:List (Str×Addr)} {x:Str} {a:Addr},(x,NameKind.free)∈l->cells.lookup x=some a->((ju cells l acc).lookup x).isSome=true
  |[],_,_,_,h,_=>nomatch h
  | (n, k) :: r, acc, x, a, h, hc => by
    rcases aA.mp h with e|h
    · obtain⟨rfl,rfl⟩:=Prod.mk.inj e
      refine JR (l:=r) ?_
      rw[if_pos (by decide),hc]
      simp[bG]
    · exact Nt (l:=r) h hc
theorem Ju{cells:List (Str×Addr)}{l:List (Str×NameKind)}{x:Str}{a:Addr}(h:(x,NameKind.free)∈l)(hc:cells.lookup x=some a):(ju cells l []).lookup x=some a:=by
 obtain⟨c,e⟩:=BE.mp (Nt (acc:=[]) h hc)
 have:=B3 (fun y d (q:([]:List (Str×Addr)).lookup y=some d)=>by simp at q) e
 rw[hc] at this;cases this
 exact e
theorem Cb{env:Env}:∀{l:List (Str×NameKind)} {x:Str} {k:NameKind},(∀y∈l,y.2≠ .cell)->
    (l.map fun(n,k)=>if(k==NameKind.free && env.scope.kind== .function && env.kindOf n==some .cell) then(n,NameKind.cell) else(n,k)).lookup x=some k->k= .cell\/k= .free->l.lookup x=some .free
  |[],_,_,_,h,_=>by simp at h
  | (n, q) :: r, x, k, hc, h, hk => by
    have hr:=fun y hy=>hc y (bJ _ hy)
    have ih:=Cb (env:=env) (l:=r) (x:=x) (k:=k) hr
    rw[bx] at h
    dsimp only at h
    by_cases hx:(x==n)=true
    · simp only[bG,hx]
      by_cases hq:(q==NameKind.free && env.scope.kind== .function && env.kindOf n==some .cell)=true
      · have:q= .free:=by
          simp only[dN] at hq
          simpa using hq.1.1
        rw[this]
      · rw[if_neg hq] at h
        simp only[bG,hx] at h
        have FP:q=k:=iM h
        rcases hk with e|e
        · exact absurd (FP.trans e) (hc (n,q) bT)
        · rw[FP,e]
    · have hx':(x==n)=false:=by simpa using hx
      simp only[bG,hx']
      refine ih ?_ hk
      by_cases hq:(q==NameKind.free && env.scope.kind== .function && env.kindOf n==some .cell)=true
      · rw[if_pos hq] at h
        simp only[bG,hx'] at h
        exact h
      · rw[if_neg hq] at h
        simp only[bG,hx'] at h
        exact h
theorem JZ{env:Env}:∀{l:List (Str×NameKind)} {x:Str},l.lookup x=some .free->
    (l.map fun(n,k)=>if(k==NameKind.free && env.scope.kind== .function && env.kindOf n==some .cell) then(n,NameKind.cell) else(n,k)).lookup x=some .cell\/
    (l.map fun(n,k)=>if(k==NameKind.free && env.scope.kind== .function && env.kindOf n==some .cell) then(n,NameKind.cell) else(n,k)).lookup x=some .free
  |[],_,h=>by simp at h
  | (n, q) :: r, x, h => by
    have ih:=JZ (env:=env) (l:=r) (x:=x)
    rw[bx]
    dsimp only
    by_cases hx:(x==n)=true
    · simp only[bG,hx] at h
      by_cases hq:(q==NameKind.free && env.scope.kind== .function && env.kindOf n==some .cell)=true
      · rw[if_pos hq]
        left
        simp only[bG,hx]
      · rw[if_neg hq]
        right
        simp only[bG,hx]
        exact h
    · have hx':(x==n)=false:=by simpa using hx
      simp only[bG,hx'] at h
      have:=ih h
      by_cases hq:(q==NameKind.free && env.scope.kind== .function && env.kindOf n==some .cell)=true
      · rw[if_pos hq]
        simp only[bG,hx']
        exact this
      · rw[if_neg hq]
        simp only[bG,hx']
        exact this
noncomputable def mW(sx:Scope)(NX:List Str)(scope:Scope)(N:List Str)(mp:List (Option Nat)):Bool:=
 (scope.kind== .function) && scope.names.all (fun y=>y.2 != .cell) && scope.names.all (fun y=>y.2 != .local||scope.names.lookup y.1==some .local) &&
 scope.names.all (fun y=>y.2 != .free||sx.names.lookup y.1==some .cell||sx.names.lookup y.1==some .free) &&(mp.length==N.length) &&
 ((N.zip mp).all fun p=>match p.2 with|none=>true|some j=>NX[j]?==some p.1 && scope.names.lookup p.1==some .free)
structure lF(sx:Scope)(NX:List Str)(scope:Scope)(N:List Str)(mp:List (Option Nat)):Prop where
 kind:scope.kind= .function
 cell:∀y∈scope.names,y.2≠ .cell
 names:∀y∈scope.names,y.2= .local->scope.names.lookup y.1=some .local
 free:∀y∈scope.names,y.2= .free->sx.names.lookup y.1=some .cell\/sx.names.lookup y.1=some .free
 len:mp.length=N.length
 look:∀(i j:Nat) (x:Str),mp[i]?=some (some j)->N[i]?=some x->NX[j]?=some x/\scope.names.lookup x=some .free
theorem lF.of{sx:Scope}{NX:List Str}{scope:Scope}{N:List Str}{mp:List (Option Nat)}(h:mW sx NX scope N mp=true):lF sx NX scope N mp:=by
 unfold mW at h
 simp only[dN,rC] at h
 obtain⟨⟨⟨⟨⟨h1,h2⟩,h3⟩,h4⟩,h5⟩,h6⟩:=h
 refine⟨by simpa using h1,fun y hy=>by simpa using h2 y hy,fun y hy e=>?_,fun y hy e=>?_,by simpa using h5,fun i j x e1 e2=>?_⟩
 ·have:=h3 y hy
  simpa[e] using this
 ·have:=h4 y hy
  simpa[e] using this
 ·have hm:(x,some j)∈N.zip mp:=by
   have:(N.zip mp)[i]?=some (x,some j):=by
    rw[List.getElem?_zip_eq_some];exact⟨e2,e1⟩
   exact iQ this
  have:=h6 _ hm
  simpa using this
noncomputable def iw(mp:List (Option Nat))(σ:St):St:=mp.map fun o=>match o with|none=>none|some j=>match σ[j]? with|some v=>v|none=>none
noncomputable def kK(X:Cx)(scope:Scope)(C:Addr)(N:List Str)(s₀:Shared)(H₀:Hp)(fp:List Addr):Cx:=
 {X with N:=N,s₀:=s₀,H₀:=H₀,env:=compEnvC scope (ju X.env.cells scope.names []) C X.env,outer:=X.stack,ex:=fp,fn:=fun _=>false,pn:=[],xe:=fun _ _=>False}
noncomputable def xH(X:Cx)(ifs:List Expr)(t:TT):Prop:=
 ∀(pins:List (Addr×Obj)) (s:Shared) (σ:St) (H:Hp) (Q:Bool->Hp->Prop),Inv X pins σ H s->t σ H Q->
  wpAny (model X.prog X.w) X.A (forIn ifs true fun c r=>if r=true then do let ok<-isTrue c X.env (eval c X.env);pure (ForInStep.yield ok) else pure (ForInStep.yield r)) (TP X pins σ Q) X.xe s
noncomputable def rF:TT:=fun _ H Q=>Q true H
theorem xQ{X:Cx}:xH X [] rF:=fun pins s σ H Q I h=>wpAny_tests_nil ⟨H,I,h⟩
theorem MT{X:Cx}{c:Expr}{t:TT}(h:PT X c t):xH X [c] t:=fun pins s σ H Q I q=>wpAny_tests_one (h pins s σ H Q I q)
noncomputable def tX(J:It)(g:TG)(tc:TT)(te:TE)(acc:Addr)(Qe:Hp->Prop)(σ:St)(H:Hp):Prop:=∃W:Nat->Nat->St->Hp->Prop,(∃m,W 0 m σ H)/\∀i m σ H,W i m σ H->
 (J.stop i H /\ Qe H) \/ (J.go i H /\ ∃ Nx : St -> Hp -> Prop, (∀ σ' H', Nx σ' H' -> ∃ m', m' < m /\ W (i + 1) m' σ' H') /\ ∀ x H', J.n6 i H x H' -> g x σ H' fun σ2 H2 => tc σ2 H2 fun b H3 =>
  if b=true then te σ2 H3 fun v H4=>∃ys,H4 acc=some (.lst ys)/\ys.length<sizeLine/\Nx σ2 (upd H4 acc (.lst (ys++[v]))) else Nx σ2 H3)
noncomputable def rD(wi:TI)(g:TG)(tc:TT)(te:TE)(mp:List (Option Nat)):TE:=fun σ H Q=>wi σ H fun J H1=>∀acc,H1 acc=none->tX J g tc te acc (fun H'=>Q (.ref acc) H') (iw mp σ) (upd H1 acc (.lst []))
section
variable{prog:Program}{w:World}{A:Around}{R:Result->Shared->Prop}{s:Shared}
theorem Yg{elt target iter:Expr}{ifs:List Expr}{scope:Scope}{pos:Pos}{it acc:Value}{env:Env}(I:Nat->Shared->Prop)
    (turn:∀n s,I n s->wpAny (model prog w) A (pyNext it) (fun r s₁=>match r with
      |none=>R (.ok .next) s₁
      |some v=>wpAny (model prog w) A (letOwnedTupleGo target it v) (fun _ s₀=>wpAny (model prog w) A (assign target env v) (fun _ s₂=>
          wpAny (model prog w) A (forIn ifs true fun c r=>if r=true then do let ok<-isTrue c env (eval c env);pure (ForInStep.yield ok) else pure (ForInStep.yield r)) (fun ok s₃=>
            if ok=true then wpAny (model prog w) A (eval elt env) (fun x s₄=>
              wpAny (model prog w) A (call (.builtin "list.append") [acc,x]) (fun _ s₅=>∃m,m<n/\I m s₅) (fun _ _=>False) s₄) (fun _ _=>False) s₃
            else∃m,m<n/\I m s₃) (fun _ _=>False) s₂) (fun _ _=>False) s₀) (fun _ _=>False) s₁) (fun _ _=>False) s)
    (n:Nat) (h:I n s):
    codeAny (model prog w) A (.compLoop (.ListComp elt [⟨target,iter,ifs,0⟩] scope pos) 0 it acc env) R s:=by
  refine codeAny_loop rfl I (fun n s hI=>?_) n h
  show wpAny _ A ((compTurn (.ListComp elt [⟨target,iter,ifs,0⟩] scope pos) 0 it acc env).onRaise (fun x=>do noteFrame x env;theTreesLotGoes x)) _ _ s
  refine wpAny_noted ?_
  rw[compTurn_list]
  refine wpAny_bind (wpAny_standAt (wpAny_bind (wpAny_mono (turn n s hI) (fun r s₁ h₁=>?_) fun _ _ h'=>h'.elim)))
  cases r with
  |none=>exact wpAny_pure h₁
  | some v =>
    refine wpAny_bind (wpAny_mono h₁ (fun _ s₀ h₀=>?_) fun _ _ h'=>h'.elim)
    refine wpAny_bind (wpAny_mono h₀ (fun _ s₂ h₂=>wpAny_bind (wpAny_mono h₂ (fun ok s₃ h₃=>?_) fun _ _ h'=>h'.elim)) fun _ _ h'=>h'.elim)
    cases ok with
    |false=>exact wpAny_pure ⟨rfl,h₃⟩
    | true =>
      exact wpAny_bind (wpAny_bind (wpAny_mono h₃ (fun x s₄ h₄=>wpAny_bind (wpAny_mono h₄ (fun _ s₅ h₅=>wpAny_pure (wpAny_pure ⟨rfl,h₅⟩)) fun _ _ h'=>h'.elim)) fun _ _ h'=>h'.elim))
end
section
variable{X:Cx}
theorem RN{elt iter tg:Expr}{ifs:List Expr}{scope:Scope}{pos pos':Pos}{N:List Str}{mp:List (Option Nat)}{wi:TI}{g:TG}{tc:TT}{te:TE}{use:Option (Value->Sem Unit)}
    {pins:List (Addr×Obj)} {s:Shared} {σ:St} {H:Hp} {Q:VK} {QQ:Value->Shared->Prop}
    (ok:lF X.env.scope X.N scope N mp) (hc:X.calm=true) (hi:PI X tg iter wi)
    (hb:∀C s₀ H₀ fp,PG (kK X scope C N s₀ H₀ fp) tg g/\xH (kK X scope C N s₀ H₀ fp) ifs tc/\PE (kK X scope C N s₀ H₀ fp) elt te)
    (hs:∀x,foldedSetIterable iter X.env x=pure x) (I:Inv X pins σ H s) (h:rD wi g tc te mp σ H Q)
    (fin:∀acc C H' s' m,Inv X pins σ H' s'->kL X pins H' C->s'.heap.Ns C m->Q (.ref acc) H'->compPost (model X.prog X.w) X.A X.xe use QQ (.ref acc) C (.ok .next) s'):
    wpAny (model X.prog X.w) X.A (comprehension (.ListComp elt [⟨tg,iter,ifs,0⟩] scope pos) scope X.env pos' (newList []) false (eval iter X.env) use) QQ X.xe s:=by
  have hfree:∀x∈scope.names,x.2= .free->∃a,X.env.cells.lookup x.1=some a:=fun x hx e=>I.ok.has x.1 (ok.free x hx e)
  refine wpAny_comprehension_free (use:=use) rfl hs (Sw hfree) ok.kind ok.names (aF (hi pins s σ H _ I h) fun v s1 h1=>aF h1 fun itv s2 h2=>?_)
  obtain⟨it,fp,tn,J,H2,e,I2,T,st2,f2,hW⟩:=h2
  subst e
  refine wpAny_newObj_type (wpAny_newFunctionEnv ok.cell (by intro y hy;simp at hy) (fun h₁ CQ CT=>?_) ok.kind)
  dsimp only at CQ CT⊢
  have I3:=I2.Na (its:=[]) (ys:=[]) (t':=s2.toks) .nil (eU _)
  have hW:=hW s2.heap.objs.size I2.fresh
  obtain⟨W,⟨m0,w0⟩,turn⟩:=hW
  generalize EL:s2.heap.push {cls:= .type "list",dict:=none,data:= .seq ([]:List Value).toArray}=HP at CQ CT⊢
  have I3:Inv X pins σ (upd H2 s2.heap.objs.size (.lst [])) {s2 with heap:=HP}:=by rw[<-EL];exact I3
  generalize Pp:upd H2 s2.heap.objs.size (.lst [])=H3 at I3 w0
  have hC:HP.objs.size=s2.heap.objs.size+1:=by rw[<-EL,mQ]
  have old:∀b o,HP.get? b=some o->h₁.get? b=some o:=fun b o e=>CT.extBut b o (cX (bC e)) (cz _ e)
  have kU:∀b∈fp,b<s2.heap.objs.size:=fun b hb=>by
    obtain⟨o,e,_⟩:=T.obj 0 _ st2 b hb
    exact bC e
  have OG:∀b∈fp,H3 b=none:=fun b hb=>by
    rw[<-Pp,aT (cX (kU b hb))]
    exact(f2 b hb).1
  have uX:∀{x:Str} {c:Addr},(ju X.env.cells scope.names []).lookup x=some c->X.env.cells.lookup x=some c:=fun{x c} e=>B3 (fun y d q=>by simp at q) e
  have xG:(kK X scope HP.objs.size N {s2 with heap:=HP} H3 fp).Ok:=by
    refine⟨I2.ok.mod,ok.kind,I2.ok.glob,I2.ok.blt,aE _,fun x y c e1 e2=>I2.ok.inj x y c (uX e1) (uX e2),fun x hx=>?_,(fun x c e=>absurd (show false=true from e) (by decide)),I2.ok.hd,I2.ok.frames, .inl rfl,fun b hb=>?_,I3.bs,dw I3.ok.jW I3.sz,fun b o e hb=>?_,fun b hb hz=>?_,I3.stack,I3.wO⟩
    · have hx':scope.names.lookup x=some .free:=by
        rcases hx with hx|hx
        · exact Cb ok.cell hx (.inl rfl)
        · exact Cb ok.cell hx (.inr rfl)
      have hm:=pG hx'
      obtain⟨a,ha⟩:=hfree _ hm rfl
      exact⟨a,Ju hm ha⟩
    · refine⟨fun z=>?_,fun x c e=>(f2 b hb).2.2.2.2.1 x c (uX e)⟩
      have z':b=HP.objs.size:=z
      have q:=kU b hb
      rw[z',hC] at q
      exact absurd q (Nat.not_lt.mpr (iV _))
    · rcases(f2 b hb).2.2.2.1 with z|z
      · exact I2.ok.mT b o e z
      · exact absurd (dM (bC (I2.ok.bs b o e).1) z) (lQ _)
    · rcases aA.mp (I2.uB b hz) with z|z
      · exact(f2 b hb).2.1 z
      · exact(f2 b hb).2.2.1 z
  have IY:Inv (kK X scope HP.objs.size N {s2 with heap:=HP} H3 fp) [] (iw mp σ) H3 {s2 with heap:=h₁,toks:=s2.toks+([]:List (Str×Value)).length}:=by
    refine⟨xG,rfl,I2.bare,Un.kept old,⟨_,CQ,fun i x v e1 e2 e3=>?_⟩,fun x c e=>?_,I3.hok.fresh (aE _),fun x c e=>I3.gu x c (uX e),fun p hp=>absurd (show p∈([]:List (Addr×Obj)) from hp) (by simp),I3.hok.kept old,?_⟩
    · have hj:∃j,mp[i]?=some (some j)/\σ[j]?=some (some v):=by
        unfold iw at e2
        rw[dG] at e2
        cases q:mp[i]? with
        |none=>rw[q] at e2;cases e2
        | some o =>
          rw[q] at e2
          cases o with
          |none=>cases e2
          | some j =>
            refine⟨j,rfl,?_⟩
            have e2:(match σ[j]? with|some v=>v|none=>none)=some v:=iM e2
            cases r:σ[j]? with
            |none=>rw[r] at e2;cases e2
            | some u =>
              rw[r] at e2
              have e2:u=some v:=e2
              rw[e2]
      obtain⟨j,hj1,hj2⟩:=hj
      obtain⟨l1,l2⟩:=ok.look i j x hj1 e1
      have hm:=pG l2
      have kx:=ok.free _ hm rfl
      obtain⟨mm,_,hl⟩:=I3.loc
      obtain⟨u,ru,lk⟩:=hl j x v l1 hj2 (kx.elim (fun z=> .inr (.inl z)) fun z=> .inr (.inr z))
      refine⟨u,ru, .inr ⟨JZ l2,?_⟩⟩
      rcases lk with ⟨k,_⟩|⟨_,c,e,z⟩
      · exfalso
        have k':X.env.scope.names.lookup x=some .local:=k
        rcases kx with kx|kx
        · rw[k'] at kx;cases kx
        · rw[k'] at kx;cases kx
      · refine⟨c,Ju hm e,?_⟩
        obtain⟨o,ho,hd⟩:=z
        exact⟨o,old c o ho,hd⟩
    · obtain⟨v,o,ho,hd⟩:=I3.cell x c (uX e)
      exact⟨v,o,old c o ho,hd⟩
    · show(iw mp σ).length=N.length
      unfold iw
      rw[ay,ok.len]
  have nV:∀{H':Hp},(∀b∈fp,H' b=none)->∀b∈fp,kL (kK X scope HP.objs.size N {s2 with heap:=HP} H3 fp) [] H' b:=fun{H'} hn b hb=>
    ⟨hn b hb,(xG.nU b hb).1,xG.lZ b hb, .inl hb,(xG.nU b hb).2,fun p hp=>absurd (show p∈([]:List (Addr×Obj)) from hp) (by simp)⟩
  have JB:tn 0 h₁:=T.keep 0 _ _ st2 fun b hb o e=>old b o (by rw[<-EL];exact cz _ e)
  have loop:codeAny (model X.prog X.w) X.A (.compLoop (.ListComp elt [⟨tg,iter,ifs,0⟩] scope pos) 0 (.ref it) (.ref s2.heap.objs.size) (compEnvC scope (ju X.env.cells scope.names []) HP.objs.size X.env))
      (compPost (model X.prog X.w) X.A X.xe use QQ (.ref s2.heap.objs.size) HP.objs.size) {s2 with heap:=h₁,toks:=s2.toks+([]:List (Str×Value)).length}:=by
    obtain⟨hg,ht,he⟩:=hb HP.objs.size {s2 with heap:=HP} H3 fp
    generalize hY:kK X scope HP.objs.size N {s2 with heap:=HP} H3 fp=Y at hg ht he IY nV
    have yp:Y.prog=X.prog:=by rw[<-hY];rfl
    have yw:Y.w=X.w:=by rw[<-hY];rfl
    have yK:Y.K=X.K:=by rw[<-hY];rfl
    have yA:Y.A=X.A:=by rw[<-hY];rfl
    have yc:Y.calm=true:=by rw[<-hY];exact hc
    have yx:Y.xe=fun _ _=>False:=by rw[<-hY];rfl
    have NC:Y.env=compEnvC scope (ju X.env.cells scope.names []) HP.objs.size X.env:=by rw[<-hY];rfl
    rw[<-NC]
    refine Yg (fun n s'=>∃i σ' H',Inv Y [] σ' H' s'/\tn i s'.heap/\(∀b∈fp,H' b=none)/\W i n σ' H') ?_ m0 ⟨0,_,H3,IY,JB,OG,w0⟩
    rintro n s3 ⟨i,σ3,H4,I4,st3,fr3,w3⟩
    rcases turn i n σ3 H4 w3 with ⟨stop,qn⟩|⟨go,Nx,hN,step⟩
    · have q0:=T.done Y yp yw yK yc i [] s3 σ3 H4 (fun _ _=>False) I4 (nV fr3) st3 stop
      rw[yA] at q0
      refine aF q0 fun r s4 ⟨hr,I5⟩=>?_
      subst hr
      show compPost (model X.prog X.w) X.A X.xe use QQ (.ref s2.heap.objs.size) HP.objs.size (.ok .next) s4
      obtain⟨m,hm,_⟩:=id I5.loc
      have yl:Y.env.locals=HP.objs.size:=by rw[NC];rfl
      rw[yl] at hm
      have fC:H4 HP.objs.size=none:=by have:=I5.free;rw[yl] at this;exact this
      have ub:=I5.base
      have ub':Un (frs X.stack) fp H3 H4 HP s4.heap:=by rw[<-hY] at ub;exact ub
      have hos:s4.os=s2.os:=by have:=I5.os;rw[<-hY] at this;exact this
      have WH:bU X.prog X.w H4 s4.heap:=by have:=I5.hok;rw[yp,yw] at this;exact this
      have IX:Inv X pins σ H4 s4:=I3.V1 (ch:=fp) hos ub' WH I5.bare fun b hb=>⟨(f2 b hb).2.2.2.1,(f2 b hb).2.1,(f2 b hb).2.2.2.2.1,(f2 b hb).2.2.2.2.2⟩
      exact fin _ _ H4 s4 m IX (I3.AY (aE _) fC) hm qn
    · have q0:=T.item Y yp yw yK yc i [] s3 σ3 H4 (fun _ _=>False) I4 (nV fr3) st3 go
      rw[yA] at q0
      refine aF q0 fun r s4 ⟨u,hr,h4⟩=>?_
      subst hr
      refine aF h4 fun _ s5 ⟨x,H5,I5,r5,y5,oZ,Dn⟩=>?_
      have Bl:=I5.pinned (nV Dn) (T.obj _ _ oZ)
      rw[<-yx,<-yp,<-yw,<-yA]
      refine aF (hg _ s5 σ3 H5 x u _ Bl r5 (step x H5 y5)) fun _ s6 ⟨tR,H6,I6,q6⟩=>?_
      refine aF (ht _ s6 tR H6 _ I6 q6) fun b s7 ⟨H7,I7,q7⟩=>?_
      have again:∀{uR:St} {H8:Hp} {s8:Shared},Inv Y ([]++vo fp s5.heap) uR H8 s8->Nx uR H8->∃m,m<n/\∃i σ' H',Inv Y [] σ' H' s8/\tn i s8.heap/\(∀b∈fp,H' b=none)/\W i m σ' H':=fun{uR H8 s8} I8 n8=>by
        obtain⟨m',hm,w8⟩:=hN uR H8 n8
        refine⟨m',hm,i+1,uR,H8,I8.vI,T.keep _ _ _ oZ fun b hb o e=>(I8.pin (b,o) (jY _ (jY _ (wV hb e)))).1,fun b hb=>?_,w8⟩
        obtain⟨o,e,d⟩:=T.obj _ _ oZ b hb
        exact(I8.pin (b,o) (jY _ (jY _ (wV hb e)))).2.1
      cases b with
      | false =>
        rw[if_neg bH]
        rw[if_neg bH] at q7
        exact again I7 q7
      | true =>
        rw[if_pos rfl]
        rw[if_pos rfl] at q7
        refine aF (he _ s7 tR H7 _ I7 q7) fun v s8 ⟨y,H8,I8,r8,ys,e8,z8,n8⟩=>?_
        refine aF (yN _ s8 tR H8 (.ref s2.heap.objs.size) [y] (.ref s2.heap.objs.size) [v] (fun _ H9=>H9=upd H8 s2.heap.objs.size (.lst (ys++[y]))) I8 rfl (.cons r8 .nil) ⟨_,ys,y,rfl,rfl,e8,z8,rfl⟩) fun v9 s9 ⟨y9,H9,I9,r9,e9⟩=>?_
        subst e9
        exact again I9 n8
  refine codeAny_compStart_list loop (T.self _ _ _ _ _ JB loop)
theorem kL.turned{pins:List (Addr×Obj)}{s:Shared}{σ:St}{H:Hp}{C:Addr}{h':Heap}(I:Inv X pins σ H s)(f:kL X pins H C)(hs:Heap.SameBut C s.heap h'):Inv X pins σ H {s with heap:=h'}:=
 I.turned (t':=s.toks) (fun b o hb e=>(hs.2 b hb).trans e) f.1 f.2.1 f.2.2.2.1 f.2.2.2.2.1 f.2.2.2.2.2
theorem pY{elt iter tg:Expr}{ifs:List Expr}{scope:Scope}{pos:Pos}{N:List Str}{mp:List (Option Nat)}{wi:TI}{g:TG}{tc:TT}{te:TE}
  (ok:lF X.env.scope X.N scope N mp) (hi:PI X tg iter wi)
  (hb:∀C s₀ H₀ fp,PG (kK X scope C N s₀ H₀ fp) tg g/\xH (kK X scope C N s₀ H₀ fp) ifs tc/\PE (kK X scope C N s₀ H₀ fp) elt te) (hc:X.calm=true:=by rfl)
  (hs:∀x,foldedSetIterable iter X.env x=pure x:=by intro _;rfl):PE X (.ListComp elt [⟨tg,iter,ifs,0⟩] scope pos) (rD wi g tc te mp):=by
 intro pins s σ H Q I h
 rw[eval_ListComp]
 refine RN (use:=none) ok hc hi hb hs I h fun acc C H' s' m I' f hn q=>?_
 exact⟨m,hn,fun h' hs'=>⟨.ref acc,H',f.turned I' hs',rfl,q⟩⟩
end
noncomputable def Sm(i:Int):Prop:= -(2^300)<i/\i<2^300
theorem Jv{i:Int}(h:Sm i):Builtin.Int.intBits i<=2^20:=by
 obtain⟨h1,h2⟩:=h
 unfold Builtin.Int.intBits
 split
 ·exact eU _
 ·rename_i h0
  have hn:i.natAbs≠0:=by
   intro e
   apply h0
   simp
   walk_at "o"
  have h3:i.natAbs<2^300:=by walk_at "o"
  have h4:i.natAbs.log2<300:=(Nat.log2_lt hn).mpr h3
  have:(2:Nat)^20=1048576:=by decide
  walk_at "o"
theorem TY{x y:Int}(h:Sm y):Builtin.divisionGoesByPylong x y=false:=by
 refine PyProof.noPylong_of_log2 ?_
 obtain⟨h1,h2⟩:=h
 by_cases h0:y.natAbs=0
 ·rw[h0];decide+kernel
 ·have h3:y.natAbs<2^300:=by walk_at "o"
  have h4:y.natAbs.log2<300:=(Nat.log2_lt h0).mpr h3
  walk_at "o"
section
variable{X:Cx}
theorem v8:dB X (binaryOp .FloorDiv) (rI (fun _ j=>0<j/\Sm j) fun i j=> .int (i/j)):=w6 fun i j _ _ _ _ _ hc q=>
 floordiv_int (by walk_at "o") (by rw[Int.fdiv_eq_ediv_of_nonneg _ (by walk_at "o")];exact q) (.inl (TY hc.2))
noncomputable def lz(K:PySem.W.Frag):List V->Hp->VK->Prop:=fun xs H Q=>∃x T t b,xs=[x, .ty T]/\iO K H x t/\PySem.W.kitOne K t (.type T)=some b/\Q (.bl b) H
theorem m9:fY X (.builtin "isinstance") (lz X.K):=by
 intro pins s σ H xs us Q I rv h
 obtain⟨x,T,t,b,rfl,ty,e,q⟩:=h
 obtain⟨u,v,rfl,ru,rv⟩:=rv.two
 cases (show v=Value.type T from rv)
 exact XR I ru ty e fun tk=>⟨.bl b,H,I.tok tk,rfl,q⟩
noncomputable def Og:PyData->Key->Prop
 | .int i,k=>k= .inl i
 | .str x,k=>k= .inr x
 |_,_=>False
mutual
noncomputable def af(nb:Addr->Prop)(H:Hp):PyData->V->Prop
 | .none,v=>v= .aB
 | .bool b,v=>v= .bl b
 | .int i,v=>v= .int i
 | .str x,v=>v= .str x
 | .list ds,v=>∃a xs,v= .ref a/\¬nb a/\H a=some (.lst xs)/\ah nb H ds xs
 | .tuple ds,v=>∃a xs,v= .ref a/\¬nb a/\H a=some (.tup xs)/\ah nb H ds xs
 | .dict kvs,v=>∃a ps,v= .ref a/\¬nb a/\Rd H a (.dK ps)/\aq nb H kvs ps
termination_by structural d=>d
noncomputable def ah(nb:Addr->Prop)(H:Hp):List PyData->List V->Prop
 |[],xs=>xs=[]
 |d::ds,xs=>∃y ys,xs=y::ys/\af nb H d y/\ah nb H ds ys
termination_by structural d=>d
noncomputable def aq(nb:Addr->Prop)(H:Hp):List (PyData×PyData)->List (Key×V)->Prop
 |[],xs=>xs=[]
 |d::ds,xs=>∃p ys,xs=p::ys/\c8 nb H d p/\aq nb H ds ys
termination_by structural d=>d
noncomputable def c8(nb:Addr->Prop)(H:Hp):PyData×PyData->Key×V->Prop
 |(k,d),p=>Og k p.1/\af nb H d p.2
termination_by structural d=>d
end
noncomputable def aM(nb:Addr->Prop)(H H':Hp):Prop:=∀a o,¬nb a->H a=some o->H' a=some o
noncomputable def Nb(b:Addr):Addr->Prop:=fun a=>a=b
section
variable{nb au:Addr->Prop}{H H1 H2 H':Hp}{a b c p:Addr}{o:HO}{xs:List V}
theorem aM.refl(nb:Addr->Prop)(H:Hp):aM nb H H:=fun _ _ _ h=>h
theorem aM.trans(x:aM nb H H1)(y:aM nb H1 H2):aM nb H H2:=fun a o n h=>y a o n (x a o n h)
theorem aM.of(x:bu H H'):aM nb H H':=fun a o _ h=>x a o h
theorem aM.set(h:nb p):aM nb H (upd H p o):=fun a u n q=>by rw[aT (fun e=>n (by rw[e];exact h))];exact q
theorem aM.rd{u:HO}(x:aM nb H H')(n:¬nb a)(h:Rd H a u):Rd H' a u:=by
 rcases h with h|⟨o,h⟩
 ·exact .inl (x _ _ n h)
 ·exact .inr ⟨o,x _ _ n h⟩
end
mutual
theorem af.keep{nb:Addr->Prop}{H H':Hp}(x:aM nb H H'):∀{d:PyData} {v:V},af nb H d v->af nb H' d v
 | .none,_,h=>by unfold af at h⊢;exact h
 | .bool _,_,h=>by unfold af at h⊢;exact h
 | .int _,_,h=>by unfold af at h⊢;exact h
 | .str _,_,h=>by unfold af at h⊢;exact h
 | .list ds,_,h=>by unfold af at h⊢;obtain⟨a,xs,e,n,s,r⟩:=h;exact⟨a,xs,e,n,x _ _ n s,ah.keep x r⟩
 | .tuple ds,_,h=>by unfold af at h⊢;obtain⟨a,xs,e,n,s,r⟩:=h;exact⟨a,xs,e,n,x _ _ n s,ah.keep x r⟩
 | .dict kvs,_,h=>by unfold af at h⊢;obtain⟨a,xs,e,n,s,r⟩:=h;exact⟨a,xs,e,n,x.rd n s,aq.keep x r⟩
theorem ah.keep{nb:Addr->Prop}{H H':Hp}(x:aM nb H H'):∀{ds:List PyData} {vs:List V},ah nb H ds vs->ah nb H' ds vs
 |[],_,h=>by unfold ah at h⊢;exact h
 |d::ds,_,h=>by unfold ah at h⊢;obtain⟨y,ys,e,h1,h2⟩:=h;exact⟨y,ys,e,af.keep x h1,ah.keep x h2⟩
theorem aq.keep{nb:Addr->Prop}{H H':Hp}(x:aM nb H H'):∀{ds:List (PyData×PyData)} {vs:List (Key×V)},aq nb H ds vs->aq nb H' ds vs
 |[],_,h=>by unfold aq at h⊢;exact h
 |d::ds,_,h=>by unfold aq at h⊢;obtain⟨y,ys,e,h1,h2⟩:=h;exact⟨y,ys,e,c8.keep x h1,aq.keep x h2⟩
theorem c8.keep{nb:Addr->Prop}{H H':Hp}(x:aM nb H H'):∀{d:PyData×PyData} {v:Key×V},c8 nb H d v->c8 nb H' d v
 |(k,d),_,h=>by unfold c8 at h⊢;exact⟨h.1,af.keep x h.2⟩
end
mutual
theorem af.av{nb au:Addr->Prop}{H:Hp}(x:∀a,au a->nb a):∀{d:PyData} {v:V},af nb H d v->af au H d v
 | .none,_,h=>by unfold af at h⊢;exact h
 | .bool _,_,h=>by unfold af at h⊢;exact h
 | .int _,_,h=>by unfold af at h⊢;exact h
 | .str _,_,h=>by unfold af at h⊢;exact h
 | .list ds,_,h=>by unfold af at h⊢;obtain⟨a,xs,e,n,s,r⟩:=h;exact⟨a,xs,e,fun z=>n (x a z),s,ah.av x r⟩
 | .tuple ds,_,h=>by unfold af at h⊢;obtain⟨a,xs,e,n,s,r⟩:=h;exact⟨a,xs,e,fun z=>n (x a z),s,ah.av x r⟩
 | .dict kvs,_,h=>by unfold af at h⊢;obtain⟨a,xs,e,n,s,r⟩:=h;exact⟨a,xs,e,fun z=>n (x a z),s,aq.av x r⟩
theorem ah.av{nb au:Addr->Prop}{H:Hp}(x:∀a,au a->nb a):∀{ds:List PyData} {vs:List V},ah nb H ds vs->ah au H ds vs
 |[],_,h=>by unfold ah at h⊢;exact h
 |d::ds,_,h=>by unfold ah at h⊢;obtain⟨y,ys,e,h1,h2⟩:=h;exact⟨y,ys,e,af.av x h1,ah.av x h2⟩
theorem aq.av{nb au:Addr->Prop}{H:Hp}(x:∀a,au a->nb a):∀{ds:List (PyData×PyData)} {vs:List (Key×V)},aq nb H ds vs->aq au H ds vs
 |[],_,h=>by unfold aq at h⊢;exact h
 |d::ds,_,h=>by unfold aq at h⊢;obtain⟨y,ys,e,h1,h2⟩:=h;exact⟨y,ys,e,c8.av x h1,aq.av x h2⟩
theorem c8.av{nb au:Addr->Prop}{H:Hp}(x:∀a,au a->nb a):∀{d:PyData×PyData} {v:Key×V},c8 nb H d v->c8 au H d v
 |(k,d),_,h=>by unfold c8 at h⊢;exact⟨h.1,af.av x h.2⟩
end
mutual
theorem af.fresh{nb:Addr->Prop}{H:Hp}{p:Addr}(hp:H p=none):∀{d:PyData} {v:V},af nb H d v->af (fun a=>nb a\/a=p) H d v
 | .none,_,h=>by unfold af at h⊢;exact h
 | .bool _,_,h=>by unfold af at h⊢;exact h
 | .int _,_,h=>by unfold af at h⊢;exact h
 | .str _,_,h=>by unfold af at h⊢;exact h
 | .list ds,_,h=>by unfold af at h⊢;obtain⟨a,xs,e,n,s,r⟩:=h;exact⟨a,xs,e,fun z=>z.elim n (iF s hp),s,ah.fresh hp r⟩
 | .tuple ds,_,h=>by unfold af at h⊢;obtain⟨a,xs,e,n,s,r⟩:=h;exact⟨a,xs,e,fun z=>z.elim n (iF s hp),s,ah.fresh hp r⟩
 | .dict kvs,_,h=>by unfold af at h⊢;obtain⟨a,xs,e,n,s,r⟩:=h;exact⟨a,xs,e,fun z=>z.elim n (s.elim (fun s=>iF s hp) fun⟨_,s⟩=>iF s hp),s,aq.fresh hp r⟩
theorem ah.fresh{nb:Addr->Prop}{H:Hp}{p:Addr}(hp:H p=none):∀{ds:List PyData} {vs:List V},ah nb H ds vs->ah (fun a=>nb a\/a=p) H ds vs
 |[],_,h=>by unfold ah at h⊢;exact h
 |d::ds,_,h=>by unfold ah at h⊢;obtain⟨y,ys,e,h1,h2⟩:=h;exact⟨y,ys,e,af.fresh hp h1,ah.fresh hp h2⟩
theorem aq.fresh{nb:Addr->Prop}{H:Hp}{p:Addr}(hp:H p=none):∀{ds:List (PyData×PyData)} {vs:List (Key×V)},aq nb H ds vs->aq (fun a=>nb a\/a=p) H ds vs
 |[],_,h=>by unfold aq at h⊢;exact h
 |d::ds,_,h=>by unfold aq at h⊢;obtain⟨y,ys,e,h1,h2⟩:=h;exact⟨y,ys,e,c8.fresh hp h1,aq.fresh hp h2⟩
theorem c8.fresh{nb:Addr->Prop}{H:Hp}{p:Addr}(hp:H p=none):∀{d:PyData×PyData} {v:Key×V},c8 nb H d v->c8 (fun a=>nb a\/a=p) H d v
 |(k,d),_,h=>by unfold c8 at h⊢;exact⟨h.1,af.fresh hp h.2⟩
end
mutual
theorem af.reads{pins:List (Addr×Obj)}{σ:St}{H:Hp}{s:Shared}{nb:Addr->Prop}(I:Inv X pins σ H s):∀{d:PyData} {v:V} {u:Value},af nb H d v->RelV v u->d.canLay0=true->∃as,Reads s.heap u d as
  | .none,_,_,h,r,_=>by unfold af at h;subst h;cases r;exact⟨_, .none⟩
  | .bool _,_,_,h,r,_=>by unfold af at h;subst h;cases r;exact⟨_, .bool _⟩
  | .int _,_,_,h,r,_=>by unfold af at h;subst h;obtain⟨t,rfl⟩:=r;exact⟨_, .int _ _⟩
  | .str _,_,_,h,r,_=>by unfold af at h;subst h;obtain⟨t,rfl⟩:=r;exact⟨_, .str _ _⟩
  | .list ds, _, _, h, r, hc0 => by
    unfold af at h
    obtain⟨a,xs,rfl,n,s,q⟩:=h
    cases r
    obtain⟨its,rv,p,hz⟩:=I.list (aS.of s)
    obtain⟨as,ra⟩:=ah.reads I q rv (by simpa only[PyData.canLay0] using hc0)
    obtain⟨o,ho,hc,m,hd⟩:=p.isList
    exact⟨_, .list ho hc hd (by simpa using ra)⟩
  | .tuple ds, _, _, h, r, hc0 => by
    unfold af at h
    obtain⟨a,xs,rfl,n,s,q⟩:=h
    cases r
    obtain⟨its,rv,p,hz⟩:=I.tuple (gP.of s)
    obtain⟨as,ra⟩:=ah.reads I q rv (by simpa only[PyData.canLay0] using hc0)
    obtain⟨o,ho,hc,m,hd⟩:=p
    exact⟨_, .tuple ho hc hd (by simpa using ra)⟩
  | .dict _,_,_,h,r,hc0=>by simp[PyData.canLay0] at hc0
theorem ah.reads{pins:List (Addr×Obj)}{σ:St}{H:Hp}{s:Shared}{nb:Addr->Prop}(I:Inv X pins σ H s):∀{ds:List PyData} {vs:List V} {us:List Value},ah nb H ds vs->Vals vs us->PyData.canLayAll0 ds=true->∃as,ReadsAll s.heap us ds as
  |[],_,_,h,r,_=>by unfold ah at h;subst h;cases r;exact⟨_, .nil⟩
  | d :: ds, _, _, h, r, hc0 => by
    rw[PyData.canLayAll0,dN] at hc0
    unfold ah at h
    obtain⟨y,ys,rfl,h1,h2⟩:=h
    cases r with
    | cons r1 r2 =>
      obtain⟨as,q1⟩:=af.reads I h1 r1 hc0.1
      obtain⟨bs,q2⟩:=ah.reads I h2 r2 hc0.2
      exact⟨_, .cons q1 q2⟩
end
noncomputable def DR(neg:Bool):R2:=fun x y H Q=>∃nb d e,af nb H d x/\af nb H e y/\SeqAt.shaped d=true/\SeqAt.shaped e=true/\Q (.bl (PyData.eqv d e !=neg)) H
theorem TX(hu:X.A.units+64<cLine):dB X (compareOp .Eq) (DR false):=by
 intro pins s σ H x y v u Q I rx ry h
 obtain⟨nb,d,e,h1,h2,h3,h4,q⟩:=h
 obtain⟨as,r1⟩:=h1.reads I rx (xX h3)
 obtain⟨bs,r2⟩:=h2.reads I ry (xX h4)
 exact eq_dataH r1 r2 h3 h4 hu ⟨.bl _,H,I,rfl,by simpa using q⟩
theorem HM(hu:X.A.units+64<cLine):dB X (compareOp .NotEq) (DR true):=by
 intro pins s σ H x y v u Q I rx ry h
 obtain⟨nb,d,e,h1,h2,h3,h4,q⟩:=h
 obtain⟨as,r1⟩:=h1.reads I rx (xX h3)
 obtain⟨bs,r2⟩:=h2.reads I ry (xX h4)
 exact ne_dataH r1 r2 h3 h4 hu ⟨.bl _,H,I,rfl,by simpa using q⟩
end
structure Callee(P:Program)(w:World)(K:PySem.W.Frag)(mg:Str->Option Value)(base:Heap)(x:Str)(k:Nat)(ps:List Str)(sp:Sp):Prop where
 ex:∃f fd,aY P w K mg base cT k f fd ps sp/\Binds K fd ps []/\PySem.W.keepIn K (.ref f)=true/\mg x=some (.ref f)
theorem bO{X:Cx}{x:Str}{k:Nat}{ps:List Str}{sp:Sp}{p pos:Pos}{e:Expr}{es:List Expr}{t:TA}(c:Callee X.prog X.w X.K X.mg X.base x k ps sp)(hr:cK k X.A)(ha:PA X (e::es) t)(hg:Gl X x:=by rfl)
  (hdb:(x==("__debug__":Str))=false:=by decide) (he:starEach (e::es) X.env=(false,eval e X.env)::starEach es X.env:=by rfl) (hpl:(backTo pos (starEach es X.env)).any (·.1)=false:=by rfl):
  PE X (.Call (.Name x p) (e::es) [] pos) (fq sp [] E0 t):=by
 obtain⟨f,fd,F,b,kp,m⟩:=c.ex
 exact VL F hr hg m kp b .nil vW ha hdb he hpl
theorem Callee.mk'{P:Program}{w:World}{K:PySem.W.Frag}{mg:Str->Option Value}{base:Heap}{x:Str}{st:Stmt}{k:Nat}{ps:List Str}{sp:Sp}{f:Addr}{fd:FuncData}(F:bW K x x st f fd)(ok:aY P w K mg base cT k f fd ps sp)(b:Binds K fd ps [])
  (m:mg x=some (.ref f)):Callee P w K mg base x k ps sp:=⟨f,fd,ok,b,F.kp,m⟩
noncomputable def bR(K:PySem.W.Frag)(x q:Str)(st:Stmt)(f:Addr):Prop:=PySem.W.nsIn K mainGlobals x=some (some (.ref f))/\∃fd,bW K x q st f fd
theorem bR.mk{K:PySem.W.Frag}{x q:Str}{st:Stmt}{f:Addr}{oc:Value}{od an:Option Addr}{osl:Array (Option Value)}{kV doc pm cdv ct:Value}(a:PySem.W.nsIn K mainGlobals x=some (some (.ref f)))(l:K.lookup f=some ⟨oc,od, .func (PySem.W.fnOf x q (iX st) (g8 st) (aW st) .none kV doc pm an cdv ct),osl⟩)
  (c:PySem.W.codeIn K cdv q=true) (k:PySem.W.keepIn K (.ref f)=true):bR K x q st f:=⟨a,_,lO l c k⟩
end L2
set_option maxRecDepth 100000
set_option maxHeartbeats 1000000
namespace L2
open PySem PySem.Spec PyProof.Rows
section
variable{X:Cx}
theorem qt:dB X (binaryOp .Mult) (rI (fun i j=>wU i j\/(Sm i/\Sm j)) fun i j=> .int (i*j)):=w6 fun _ _ _ _ _ _ _ hc q=>mul_int q (by
 rcases hc with hc|hc
 ·exact hc.ok
 ·exact IntMulOk.of_bits (Jv hc.1) (Jv hc.2))
end
noncomputable def cU(H:Hp)(b l:Addr):Prop:=∃(ns:List Int) (i c st n:Int),H b=some (.lst [.ref l, .int i, .int c, .int st, .int n])/\H l=some (.lst (ns.map V.int))/\
 (∀x∈ns,0<=x/\x<10^60)/\ns.length<=63/\0<=i/\0<=c/\c<10^60/\0<=st/\st<2147483647
theorem Qj{H:Hp}{b l:Addr}{ns:List Int}{i c st n:V}(h:H b=some (.lst [.ref l,i,c,st,n]))(h':H l=some (.lst (ns.map V.int))):l≠b:=by
 intro e
 subst e
 rw[h] at h'
 have e:=HO.lst.inj (iM h')
 cases ns with
 |nil=>cases e
 |cons x r=>rw[bx] at e;cases (List.cons.inj e).1
theorem cU.put{H:Hp}{b l:Addr}{ns:List Int}{i c st n:Int}(hl:l≠b)(h':H l=some (.lst (ns.map V.int)))(h1:∀x∈ns,0<=x/\x<10^60)(h2:ns.length<=63)
  (h3:0<=i) (h4:0<=c) (h5:c<10^60) (h6:0<=st) (h7:st<2147483647):cU (upd H b (.lst [.ref l, .int i, .int c, .int st, .int n])) b l:=
 ⟨ns,i,c,st,n,aQ,by rw[aT hl];exact h',h1,h2,h3,h4,h5,h6,h7⟩
theorem cU.put2{H:Hp}{b l p:Addr}{o:HO}(h:cU H b l)(hp:p≠b/\p≠l):cU (upd H p o) b l:=by
 obtain⟨ns,i,c,st,n,h1,h2,r⟩:=h
 exact⟨ns,i,c,st,n,by rw[aT (cR hp.1)];exact h1,by rw[aT (cR hp.2)];exact h2,r⟩
theorem cU.same{H H':Hp}{b l:Addr}(h:cU H b l)(s:bu H H'):cU H' b l:=by
 obtain⟨ns,i,c,st,n,h1,h2,r⟩:=h
 exact⟨ns,i,c,st,n,s _ _ h1,s _ _ h2,r⟩
noncomputable def jr:Sp:=fun vs H Q _=>∃(b l:Addr) (many:Int),vs=[.ref b, .int many]/\cU H b l/\0<many/\Sm many/\∀(r:Int) (H':Hp),0<=r->r<many->aM (Nb b) H H'->cU H' b l->Q (.int r) H'
noncomputable def Gj(K:PySem.W.Frag):Sp:=fun vs H Q _=>∃(a:Addr) (ns:List Int),vs=[.ref a]/\aS K H a (ns.map V.int)/\ns.length<=63/\∀(b l:Addr) (H':Hp),bu H H'->H b=none->cU H' b l->Q (.ref b) H'
theorem rj{α:Type}{xs:List α}{i:Int}{v:α}(h0:0<=i)(h:xs[i.toNat]?=some v):cB xs i=some v:=by
 have e:i=((i.toNat:Nat):Int):=by walk_at "o"
 rw[e]
 exact Vs h
theorem cE{H:Hp}{p:Addr}{o:HO}(h:H p=none):bu H (upd H p o):=fun b u q=>by rw[aT (iF q h)];exact q
section
variable{nb:Addr->Prop}{H H':Hp}
theorem ah.length:∀{ds:List PyData} {xs:List V},ah nb H ds xs->xs.length=ds.length
 |[],_,h=>by unfold ah at h;subst h;rfl
 |d::ds,_,h=>by unfold ah at h;obtain⟨y,ys,rfl,_,h2⟩:=h;simp[ah.length h2]
theorem ah.get:∀{ds:List PyData} {xs:List V} {i:Nat} {d:PyData},ah nb H ds xs->ds[i]?=some d->∃x,xs[i]?=some x/\af nb H d x
 |[],_,_,_,_,e=>by simp at e
 |d::ds,_,0,_,h,e=>by unfold ah at h;obtain⟨y,ys,rfl,h1,h2⟩:=h;simp at e;subst e;exact⟨y,rfl,h1⟩
 |d::ds,_,i+1,_,h,e=>by unfold ah at h;obtain⟨y,ys,rfl,h1,h2⟩:=h;simpa using ah.get (i:=i) h2 (by simpa using e)
theorem ah.snoc{d:PyData}{x:V}(hd:af nb H d x):∀{ds:List PyData} {xs:List V},ah nb H ds xs->ah nb H (ds++[d]) (xs++[x])
 |[],_,h=>by unfold ah at h;subst h;unfold ah;exact⟨x,[],rfl,hd,by unfold ah;rfl⟩
 |e::ds,_,h=>by unfold ah at h;obtain⟨y,ys,rfl,h1,h2⟩:=h;show ah nb H (e::(ds++[d])) _;unfold ah;exact⟨y,ys++[x],rfl,h1,ah.snoc hd h2⟩
theorem ah.append:∀{ds es:List PyData} {xs ys:List V},ah nb H ds xs->ah nb H es ys->ah nb H (ds++es) (xs++ys)
 |[],_,_,_,h,h'=>by unfold ah at h;subst h;exact h'
 |e::ds,es,_,zs,h,h'=>by unfold ah at h;obtain⟨y,ys,rfl,h1,h2⟩:=h;show ah nb H (e::(ds++es)) _;unfold ah;exact⟨y,ys++zs,rfl,h1,ah.append h2 h'⟩
theorem ah.take:∀{ds:List PyData} {xs:List V} (n:Nat),ah nb H ds xs->ah nb H (ds.take n) (xs.take n)
 |_,_,0,_=>by simp only[List.take_zero];unfold ah;rfl
 |[],_,n+1,h=>by unfold ah at h;subst h;simp only[List.take_nil];unfold ah;rfl
 |d::ds,_,n+1,h=>by unfold ah at h;obtain⟨y,ys,rfl,h1,h2⟩:=h;simp only[List.take_succ_cons];unfold ah;exact⟨y,_,rfl,h1,ah.take n h2⟩
theorem ah.drop:∀{ds:List PyData} {xs:List V} (n:Nat),ah nb H ds xs->ah nb H (ds.drop n) (xs.drop n)
 |_,_,0,h=>h
 |[],_,n+1,h=>by unfold ah at h;subst h;simp only[List.drop_nil];unfold ah;rfl
 |d::ds,_,n+1,h=>by unfold ah at h;obtain⟨y,ys,rfl,h1,h2⟩:=h;simp only[List.drop_succ_cons];exact ah.drop n h2
theorem ah.nil:ah nb H [] []:=by unfold ah;rfl
theorem ah.cons{d:PyData}{x:V}{ds:List PyData}{xs:List V}(h1:af nb H d x)(h2:ah nb H ds xs):ah nb H (d::ds) (x::xs):=by unfold ah;exact⟨x,xs,rfl,h1,h2⟩
theorem af.int(i:Int):af nb H (.int i) (.int i):=by unfold af;rfl
theorem af.aB:af nb H .none .aB:=by unfold af;rfl
theorem af.bl(b:Bool):af nb H (.bool b) (.bl b):=by unfold af;rfl
theorem af.lst{a:Addr}{ds:List PyData}{xs:List V}(n:¬nb a)(h:H a=some (.lst xs))(hd:ah nb H ds xs):af nb H (.list ds) (.ref a):=by unfold af;exact⟨a,xs,rfl,n,h,hd⟩
theorem af.tup{a:Addr}{ds:List PyData}{xs:List V}(n:¬nb a)(h:H a=some (.tup xs))(hd:ah nb H ds xs):af nb H (.tuple ds) (.ref a):=by unfold af;exact⟨a,xs,rfl,n,h,hd⟩
theorem af.gF{v:V}{ds:List PyData}(h:af nb H (.list ds) v):∃a xs,v= .ref a/\¬nb a/\H a=some (.lst xs)/\ah nb H ds xs:=by unfold af at h;exact h
theorem af.ofT{v:V}{ds:List PyData}(h:af nb H (.tuple ds) v):∃a xs,v= .ref a/\¬nb a/\H a=some (.tup xs)/\ah nb H ds xs:=by unfold af at h;exact h
theorem af.cS{v:V}{i:Int}(h:af nb H (.int i) v):v= .int i:=by unfold af at h;exact h
theorem af.L5{v:V}(h:af nb H .none v):v= .aB:=by unfold af at h;exact h
end
noncomputable def T3:Sp:=fun vs H Q _=>∃i:Int,vs=[.int i]/\Q (.bl true) H
noncomputable def wD(K:PySem.W.Frag):Sp:=fun vs H Q _=>∃(a:Addr) (ns:List Int),vs=[.ref a]/\aS K H a (ns.map V.int)/\ns.length<=63/\∀H',Q (.bl true) H'
end L2
set_option maxRecDepth 100000
set_option maxHeartbeats 1000000
namespace L2
open PySem PySem.Spec PyProof.Rows
noncomputable def ES(Q:VK):List V->Hp->Prop:=fun xs H1=>xs.length<=sizeLine/\∀p,H1 p=none->Q (.ref p) (upd H1 p (.lst xs))
noncomputable def vP(K:PySem.W.Frag):List V->Hp->VK->Prop:=fun xs H Q=>∃p ys,xs=[.ref p]/\(aS K H p ys\/gP K H p ys)/\∀l,H l=none->Q (.ref l) (upd H l (.lst ys))
theorem RX{X:Cx}:fY X (.type "list") (vP X.K):=Wa
noncomputable def t6:R2:=fun x y H Q=>y= .aB/\Q (.bl (decide (x= .aB))) H
theorem Zd{X:Cx}:dB X (compareOp .Is) t6:=Px
noncomputable def intOf:Expr->Option Int
 | .Constant (.int i) _ _=>some i
 |_=>none
theorem QY{e:Expr}{i:Int}(h:intOf e=some i):∃k p,e= .Constant (.int i) k p:=by
 unfold intOf at h
 split at h
 ·cases h;exact⟨_,_,rfl⟩
 ·cases h
noncomputable def qZ:List Expr->Option (List Int)
 |[]=>some []
 |e::r=>(intOf e).bind fun i=>(qZ r).map (i:: ·)
noncomputable def Af(is:List Int):TA:=fun _ H Q=>Q (is.map V.int) H
theorem CI{X:Cx}:∀{es:List Expr} {is:List Int},qZ es=some is->PA X es (Af is):=by
  intro es
  induction es with
  | nil =>
    intro is h
    have e:is=[]:=by simpa[qZ] using h.symm
    subst e
    exact aj
  | cons e r ih =>
    intro is h
    unfold qZ at h
    cases hi:intOf e with
    |none=>rw[hi] at h;cases h
    | some i =>
      rw[hi] at h
      obtain⟨k,p,rfl⟩:=QY hi
      obtain⟨js,hj,rfl⟩:=ow.mp (show(qZ r).map (i:: ·)=some is from h)
      exact aa (te:=tC (.int i)) (t:=Af js) ai (ih hj)
theorem QI{X:Cx}{i:Nat}{x:Str}{es:List Expr}{is:List Int}{p1 p2 p3:Pos}(hN:X.N.Nodup)(hi:X.N[i]?=some x)(hx:Loc X.env.scope x)(h:qZ es=some is)(hf:X.fn x=true\/X.env.scope.names.lookup x=some .local):
  PS X (.Assign [.Name x p1] (.List es p2) p3) (i6 (mK (Af is)) (gC i)):=bD hN hi hx (dS (CI h)) rfl hf
namespace R
section
variable{σ:St}{H:Hp}{Q:VK}{D:Ends}{ta tb te:TE}{K:PySem.W.Frag}
theorem seq{t u:TS}(h:t {D with nx:=u D} σ H):oM t u D σ H:=h
theorem asg{g:TG}(h:te σ H fun x H1=>g x σ H1 D.nx):i6 te g D σ H:=h
theorem jL{c:TT}{t u:TS}(h:c σ H fun b H1=>if b=true then t D σ H1 else u D σ H1):qV c t u D σ H:=h
theorem ret(h:te σ H D.rt):pN te D σ H:=h
theorem next(h:D.nx σ H):E4 D σ H:=h
theorem var{i:Nat}{v:V}(e:σ[i]?=some (some v))(h:Q v H):bf i σ H Q:=⟨v,e,h⟩
theorem c{v:V}(h:Q v H):tC v σ H Q:=h
theorem op{r:R2}(h:ta σ H fun x H1=>tb σ H1 fun y H2=>r x y H2 Q):cG r ta tb σ H Q:=h
theorem test{q:Bool->Hp->Prop}(h:te σ H fun x H'=>∃k,x= .bl k/\q k H'):tU te σ H q:=h
theorem bl{P:Bool->Prop}{b:Bool}(h:P b):∃k,V.bl b= .bl k/\P k:=⟨b,rfl,h⟩
theorem and{t u:TT}{q:Bool->Hp->Prop}(h:t σ H fun c H1=>if c=true then u σ H1 q else q false H1):Aw t u σ H q:=h
theorem cb{r:List V->Hp->VK->Prop}{t:TA}(h:t σ H fun vs H1=>r vs H1 Q):eY r t σ H Q:=h
theorem call{sp:Sp}{t:TA}(h:t σ H fun vs H1=>sp (vs++[]) H1 Q E0):fq sp [] E0 t σ H Q:=h
theorem nil{q:List V->Hp->Prop}(h:q [] H):aX σ H q:=h
theorem cons{t:TA}{q:List V->Hp->Prop}(h:ta σ H fun x H1=>t σ H1 fun xs H2=>q (x::xs) H2):aL ta t σ H q:=h
theorem lst{t:TA}(h:t σ H (ES Q)):mK t σ H Q:=h
theorem sl{r:V->Option Int->Option Int->Hp->VK->Prop}{tl th:TO}(h:te σ H fun x H1=>tl σ H1 fun l H2=>th σ H2 fun u H3=>r x l u H3 Q):BZ r te tl th σ H Q:=h
theorem UX{q:Option Int->Hp->Prop}(h:q none H):Cd σ H q:=h
theorem part{q:Option Int->Hp->Prop}(h:te σ H fun x H1=>∃i,x= .int i/\q (some i) H1):AO te σ H q:=h
theorem NV{P:Int->Prop}{i:Int}(h:P i):∃j,V.int i= .int j/\P j:=⟨i,rfl,h⟩
theorem xy{T:String}{r:V->List V->Hp->VK->Prop}(h:te σ H fun x H1=>sR K T x H1/\r x [] H1 Q):QL K T r te σ H Q:=h
theorem bm{T:String}{r:V->List V->Hp->VK->Prop}{t:TA}(h:te σ H fun x H1=>sR K T x H1/\t σ H1 fun xs H2=>r x xs H2 Q):oR K T r te t σ H Q:=h
theorem Ku{i:Nat}{v:V}{q:St->Hp->Prop}(h:q (σ.set i (some v)) H):gC i v σ H q:=h
theorem YV{to ti:TE}{t:xh}{v:V}{q:St->Hp->Prop}(h:to σ H fun o H1=>ti σ H1 fun i H2=>t o i v H2 fun H3=>q σ H3):zp to ti t v σ H q:=h
theorem uD{q:Bool->Hp->Prop}(h:q true H):rF σ H q:=h
theorem fL{g:Int->Int->V}{i j:Int}(h:Q (g i j) H):L2.fL g (.int i) (.int j) H Q:=⟨i,j,rfl,rfl,h⟩
theorem rI{C:Int->Int->Prop}{g:Int->Int->V}{i j:Int}(hc:C i j)(h:Q (g i j) H):L2.rI C g (.int i) (.int j) H Q:=⟨i,j,rfl,rfl,hc,h⟩
theorem Hs{i j:Int}:decide (V.int i=V.int j)=decide (i=j):=by rw[nQ];simp
theorem XM{i j:Int}(h:Q (.bl (decide (i=j))) H):Cz (.int i) (.int j) H Q:=⟨rfl,by rw[Hs];exact h⟩
theorem FD{p:Addr}{xs:List V}{i:Int}{v:V}(hp:H p=some (.lst xs))(e:cB xs i=some v)(h:Q v H):bS K (.ref p) (.int i) H Q:=⟨p,xs,i,v,rfl,rfl,aS.of hp,e,h⟩
theorem D6{p:Addr}{o:HO}{xs:List V}{i:Int}{v:V}(e:cB xs i=some v)(h:Q v (upd H p (.lst xs))):bS K (.ref p) (.int i) (upd H p (.lst xs)) Q:=⟨p,xs,i,v,rfl,rfl,aS.of aQ,e,h⟩
theorem setM{p:Addr}{xs:List V}{k:Int}{j:Nat}{v:V}{q:Hp->Prop}(hp:H p=some (.lst xs))(e:jX xs.length k=some j)(h:q (upd H p (.lst (xs.set j v)))):vJ (.ref p) (.int k) v H q:=⟨p,xs,k,j,rfl,rfl,hp,e,h⟩
theorem fU{p:Addr}{xs:List V}{k:Int}{j:Nat}{v:V}{q:Hp->Prop}(e:jX xs.length k=some j)(h:q (upd H p (.lst (xs.set j v)))):vJ (.ref p) (.int k) v (upd H p (.lst xs)) q:=
 ⟨p,xs,k,j,rfl,rfl,aQ,e,by rw[DH];exact h⟩
theorem Sz{p:Addr}{xs:List V}{P:List V->Prop}(hp:H p=some (.lst xs))(h:P xs):∃a ys,[V.ref p]=[.ref a]/\(aS K H a ys\/gP K H a ys)/\P ys:=⟨p,xs,rfl, .inl (aS.of hp),h⟩
theorem IM{p:Addr}{xs:List V}{lo hi:Option Int}(hp:aS K H p xs)(h:∀a,H a=none->Q (.ref a) (upd H a (.lst (lD xs lo hi)))):BJ K (.ref p) lo hi H Q:=⟨p,xs,rfl,hp,h⟩
theorem U0{a:Int}{P:Int->Prop}(h:P a):∃i,[V.int a]=[.int i]/\P i:=⟨a,rfl,h⟩
theorem SQ{xs:List V}(h:xs.length<=10000)(q:∀p H',bu H H'->H p=none->H' p=some (.lst xs)->Q (.ref p) H'):ES Q xs H:=
 ⟨dw h (by decide),fun p hp=>q p _ (cE hp) hp aQ⟩
theorem Iu{p:Addr}{xs:List V}{lo hi:Option Int}(hp:aS K H p xs)(q:∀a H',bu H H'->H a=none->H' a=some (.lst (lD xs lo hi))->Q (.ref a) H'):BJ K (.ref p) lo hi H Q:=⟨p,xs,rfl,hp,fun a ha=>q a _ (cE ha) ha aQ⟩
theorem gX{c A B:Prop}[Decidable c](h:c)(q:A):if c then A else B:=by rw[if_pos h];exact q
theorem Gd{c A B:Prop}[Decidable c](h:¬c)(q:B):if c then A else B:=by rw[if_neg h];exact q
theorem dT{c:Prop}[Decidable c](h:c):decide c=true:=decide_eq_true h
theorem dF{c:Prop}[Decidable c](h:¬c):¬decide c=true:=by rw[decide_eq_false h];exact bH
theorem MK{c:Prop}[Decidable c](h:c):¬(!decide c)=true:=by rw[decide_eq_true h];decide
theorem SX{t:TA}{R:It->Hp->Prop}(h:t σ H fun vs H1=>∃i j:Int,vs=[.int i, .int j]/\(-(2^62)<=i/\i<2^62/\ -(2^62)<=j/\j<2^62)/\R (ji i (j-i).toNat) H1):MU t σ H R:=h
theorem RG{P:Int->Int->Prop}{a b:Int}(h1: -(2^62)<=a/\a<2^62/\ -(2^62)<=b/\b<2^62)(h:P a b):∃i j:Int,[V.int a,V.int b]=[.int i, .int j]/\(-(2^62)<=i/\i<2^62/\ -(2^62)<=j/\j<2^62)/\P i j:=⟨a,b,rfl,h1,h⟩
theorem iL{tl:TE}{R:It->Hp->Prop}(h:tl σ H fun x H1=>∃a,x= .ref a/\(∃xs,aS K H1 a xs)/\R (pC K a) H1):vc K tl σ H R:=h
theorem B6{P:Addr->Prop}{p:Addr}{xs:List V}(hp:aS K H p xs)(h:P p):∃a,V.ref p= .ref a/\(∃xs,aS K H a xs)/\P a:=⟨p,rfl,⟨xs,hp⟩,h⟩
theorem Wi{wi:TI}{g:TG}{tb:TS}(h:wi σ H fun J H1=>∃W:Nat->Nat->St->Hp->Prop,(∃m,W 0 m σ H1)/\∀i m σ H,W i m σ H->
 (J.stop i H/\D.nx σ H)\/(J.go i H/\∃N:St->Hp->Prop,(∀σ' H',N σ' H'->∃m',m'<m/\W (i+1) m' σ' H')/\∀x H',J.n6 i H x H'->g x σ H' fun σ2 H2=>tb {D with nx:=N,ct:=N,bk:=D.nx} σ2 H2)):wg wi g tb D σ H:=h
theorem comp{wi:TI}{g:TG}{tc:TT}{mp:List (Option Nat)}(h:wi σ H fun J H1=>∀acc,H1 acc=none->tX J g tc te acc (fun H'=>Q (.ref acc) H') (iw mp σ) (upd H1 acc (.lst []))):rD wi g tc te mp σ H Q:=h
end
theorem La{lo:Int}{n:Nat}{g:TG}{tc:TT}{te:TE}{acc:Addr}{Qe:Hp->Prop}{σ:St}{H:Hp}(Pv:Nat->St->Hp->Prop)(h0:Pv 0 σ H)
  (hs:∀i σ H,i<n->Pv i σ H->g (.int (lo+i)) σ H fun σ2 H2=>tc σ2 H2 fun b H3=>if b=true then te σ2 H3 fun v H4=>∃ys,H4 acc=some (.lst ys)/\ys.length<sizeLine/\Pv (i+1) σ2 (upd H4 acc (.lst (ys++[v]))) else Pv (i+1) σ2 H3)
  (hd:∀σ H,Pv n σ H->Qe H):tX (ji lo n) g tc te acc Qe σ H:=by
 refine⟨fun i m σ H=>m=n-i/\i<=n/\Pv i σ H,⟨n,by simp,eU _,h0⟩,?_⟩
 rintro i m σ H ⟨rfl,hi,p⟩
 by_cases hlt:i<n
 ·refine .inr ⟨hlt,Pv (i+1),fun σ' H' p'=>⟨n-(i+1),by walk_at "o",rfl,hlt,p'⟩,fun x H' y=>?_⟩
  obtain⟨e,y⟩:=y
  subst e y
  exact hs i σ _ hlt p
 ·have e:i=n:=by walk_at "o"
  subst e
  exact .inl ⟨aE _,hd σ H p⟩
theorem M3{K:PySem.W.Frag}{a:Addr}{xs:List V}{g:TG}{tc:TT}{te:TE}{acc:Addr}{Qe:Hp->Prop}{σ:St}{H:Hp}(Pv:Nat->St->Hp->Prop)(h0:Pv 0 σ H)(hl:∀i σ H,i<=xs.length->Pv i σ H->aS K H a xs)
  (hs:∀i x σ H,xs[i]?=some x->Pv i σ H->g x σ H fun σ2 H2=>tc σ2 H2 fun b H3=>if b=true then te σ2 H3 fun v H4=>∃ys,H4 acc=some (.lst ys)/\ys.length<sizeLine/\Pv (i+1) σ2 (upd H4 acc (.lst (ys++[v]))) else Pv (i+1) σ2 H3)
  (hd:∀σ H,Pv xs.length σ H->Qe H):tX (pC K a) g tc te acc Qe σ H:=by
 refine⟨fun i m σ H=>m=xs.length-i/\i<=xs.length/\Pv i σ H,⟨xs.length,by simp,eU _,h0⟩,?_⟩
 rintro i m σ H ⟨rfl,hi,p⟩
 have q:=hl i σ H hi p
 by_cases hlt:i<xs.length
 ·refine .inr ⟨⟨xs,xs[i],q,by simp[hlt]⟩,Pv (i+1),fun σ' H' p'=>⟨xs.length-(i+1),by walk_at "o",rfl,hlt,p'⟩,fun x H' y=>?_⟩
  obtain⟨e,y⟩:=y
  subst e
  exact hs i x σ _ (y xs q) p
 ·have e:i=xs.length:=by walk_at "o"
  subst e
  exact .inl ⟨⟨xs,q,aE _⟩,hd σ H p⟩
end R
end L2
set_option maxRecDepth 100000
set_option maxHeartbeats 1000000
namespace L2
open PySem PySem.Spec PyProof.Rows
@[reducible] noncomputable def pairD(pr:Int×Int):PyData:= .tuple [.int pr.1, .int pr.2]
noncomputable def uG:Option Int->PyData
 |none=> .none
 |some i=> .int i
noncomputable def Tf(wd:List (Option Int))(pr:Int×Int):Int:=match wd[pr.1.toNat]? with
 |some (some x)=>pr.2*x
 |_=>0
noncomputable def q9(prs:List (Int×Int))(wd:List (Option Int)):Int:=(prs.map (Tf wd)).sum
theorem W6(wd:List (Option Int)):PyData.depthAll (wd.map uG)=0/\PyData.canLayAll0 (wd.map uG)=true:=by
 induction wd with
 |nil=>simp[PyData.depthAll,PyData.canLayAll0]
 |cons a r ih=>cases a<;>simp[uG,PyData.depthAll,PyData.depth,PyData.canLayAll0,PyData.canLay0,ih.2,ih.1]
noncomputable def wG(r:Int):Prop:=∀d:Int,2<=d->d*d<=r->r%d≠0
noncomputable def xq:List Int:=[2,3,5,7,2,11,101,10007,65537,1000003,998244353,1000000007,2147483647,1000000000039,1000000000000000003,18446744073709551557,2305843009213693951,618970019642690137449562111,162259276829213363391578010288127,170141183460469231731687303715884105727,1000000000000000000000000000000000000003,9999999999999999999999999999999999999983]
noncomputable def KP(p:Int):Prop:=2<=p/\p<10^40/\(p∈xq\/wG p)
noncomputable def Cq:Sp:=fun vs H Q _=>∃n:Int,vs=[.int n]/\2<=n/\n<=10002/\∀(r:Int) (H':Hp),bu H H'->2<=r->r<=10100->wG r->Q (.int r) H'
noncomputable def UT:Sp:=fun vs H Q _=>∃(b l:Addr),vs=[.ref b]/\cU H b l/\∀(p:Int) (H':Hp),KP p->aM (Nb b) H H'->cU H' b l->Q (.int p) H'
theorem yh{nb:Addr->Prop}{H:Hp}:∀is:List Int,ah nb H (is.map PyData.int) (is.map V.int)
 |[]=>ah.nil
 |i::is=>ah.cons (.int i) (yh is)
theorem uw{nb:Addr->Prop}{H:Hp}:∀{is:List Int} {xs:List V},ah nb H (is.map PyData.int) xs->xs=is.map V.int
  |[],_,h=>by unfold List.map ah at h;exact h
  | i :: is, _, h => by
    rw[bx] at h
    unfold ah at h
    obtain⟨y,ys,rfl,h1,h2⟩:=h
    rw[bx,h1.cS,uw h2]
end L2
set_option maxRecDepth 100000
set_option maxHeartbeats 1000000
namespace L2
open PySem PySem.Spec PyProof.Rows
noncomputable abbrev Bg:=Option (Addr×Addr)
noncomputable def NB(B:Bg)(a:Addr):Prop:=∀b l,B=some (b,l)->a≠b
noncomputable def jv(B:Bg)(H:Hp):Prop:=∀b l,B=some (b,l)->cU H b l
noncomputable def dX(nb:Addr->Prop)(H:Hp):Prop:=∀a,nb a->H a≠none
structure Kp(S:Addr->Prop)(F:List Addr)(H H':Hp):Prop where
 own:∀a∈F,∀o,H a=some o->H' a=some o
 lst:∀a xs,¬S a->H a=some (.lst xs)->H' a=some (.lst xs)
 tup:∀a xs,¬S a->H a=some (.tup xs)->H' a=some (.tup xs)
 ez:∀a ps,¬S a->Rd H a (.dK ps)->Rd H' a (.dK ps)
theorem Kp.of{S:Addr->Prop}{F:List Addr}{H H':Hp}(h:∀a o,(¬S a\/a∈F)->H a=some o->H' a=some o):Kp S F H H':=
 ⟨fun a ha o e=>h a o (.inr ha) e,fun a xs n e=>h a _ (.inl n) e,fun a xs n e=>h a _ (.inl n) e,fun a ps n e=>e.elim (fun e=> .inl (h a _ (.inl n) e)) fun⟨o,e⟩=> .inr ⟨o,h a _ (.inl n) e⟩⟩
mutual
theorem af.kp{S:Addr->Prop}{F:List Addr}{H H':Hp}(m:Kp S F H H'):∀{d:PyData} {v:V},af S H d v->af S H' d v
 | .none,_,h=>by unfold af at h⊢;exact h
 | .bool _,_,h=>by unfold af at h⊢;exact h
 | .int _,_,h=>by unfold af at h⊢;exact h
 | .str _,_,h=>by unfold af at h⊢;exact h
 | .list ds,_,h=>by unfold af at h⊢;obtain⟨a,xs,e,n,s,r⟩:=h;exact⟨a,xs,e,n,m.lst _ _ n s,ah.kp m r⟩
 | .tuple ds,_,h=>by unfold af at h⊢;obtain⟨a,xs,e,n,s,r⟩:=h;exact⟨a,xs,e,n,m.tup _ _ n s,ah.kp m r⟩
 | .dict kvs,_,h=>by unfold af at h⊢;obtain⟨a,xs,e,n,s,r⟩:=h;exact⟨a,xs,e,n,m.ez _ _ n s,aq.kp m r⟩
theorem ah.kp{S:Addr->Prop}{F:List Addr}{H H':Hp}(m:Kp S F H H'):∀{ds:List PyData} {vs:List V},ah S H ds vs->ah S H' ds vs
 |[],_,h=>by unfold ah at h⊢;exact h
 |d::ds,_,h=>by unfold ah at h⊢;obtain⟨y,ys,e,h1,h2⟩:=h;exact⟨y,ys,e,af.kp m h1,ah.kp m h2⟩
theorem aq.kp{S:Addr->Prop}{F:List Addr}{H H':Hp}(m:Kp S F H H'):∀{ds:List (PyData×PyData)} {vs:List (Key×V)},aq S H ds vs->aq S H' ds vs
 |[],_,h=>by unfold aq at h⊢;exact h
 |d::ds,_,h=>by unfold aq at h⊢;obtain⟨y,ys,e,h1,h2⟩:=h;exact⟨y,ys,e,c8.kp m h1,aq.kp m h2⟩
theorem c8.kp{S:Addr->Prop}{F:List Addr}{H H':Hp}(m:Kp S F H H'):∀{d:PyData×PyData} {v:Key×V},c8 S H d v->c8 S H' d v
 |(k,d),_,h=>by unfold c8 at h⊢;exact⟨h.1,af.kp m h.2⟩
end
structure Cu where
 v:V
 F:List Addr
 f:Bool
 P:(Addr->Prop)->Hp->Prop
 keep:∀{S:Addr->Prop} {H H':Hp},Kp S F H H'->P S H->P S H'
 av:∀{S S':Addr->Prop} {H:Hp},(∀a,S' a->S a)->P S H->P S' H
 fresh:∀{S:Addr->Prop} {H:Hp} {p:Addr},H p=none->P S H->P (fun a=>S a\/a=p) H
inductive HD where
 |d (x:PyData)|fz (o:Obj) (ps:List (Key×V))|th (c:Cu)
noncomputable def dR(S:Addr->Prop)(H:Hp):HD->V->Prop
 | .d x,v=>af S H x v
 | .fz o ps,v=>∃a,v= .ref a/\¬S a/\H a=some (.gv o (.dK ps))
 | .th c,v=>v=c.v/\(∀a∈c.F,¬S a/\H a≠none)/\c.P S H
theorem dR.keep{S:Addr->Prop}{H H':Hp}{x:HD}{v:V}(h:dR S H x v)(b:aM S H H'):dR S H' x v:=by
  cases x with
  |d x=>exact af.keep b h
  |fz o ps=>obtain⟨a,e,n,q⟩:=h;exact⟨a,e,n,b _ _ n q⟩
  | th c =>
    obtain⟨e,n,q⟩:=h
    refine⟨e,fun a m=>⟨(n a m).1,?_⟩,c.keep (.of fun a o m q=>b a o (m.elim id fun m=>(n a m).1) q) q⟩
    cases z:H a with
    |none=>exact absurd z (n a m).2
    |some o=>rw[b a o (n a m).1 z];exact g7 _
theorem dR.av{S S':Addr->Prop}{H:Hp}{x:HD}{v:V}(h:dR S H x v)(b:∀a,S' a->S a):dR S' H x v:=by
 cases x with
 |d x=>exact af.av b h
 |fz o ps=>obtain⟨a,e,n,q⟩:=h;exact⟨a,e,fun z=>n (b a z),q⟩
 |th c=>obtain⟨e,n,q⟩:=h;exact⟨e,fun a m=>⟨fun z=>(n a m).1 (b a z),(n a m).2⟩,c.av b q⟩
theorem dR.fresh{S:Addr->Prop}{H:Hp}{x:HD}{v:V}{p:Addr}(h:dR S H x v)(hp:H p=none):dR (fun a=>S a\/a=p) H x v:=by
 cases x with
 |d x=>exact af.fresh hp h
 |fz o ps=>obtain⟨a,e,n,q⟩:=h;exact⟨a,e,fun z=>z.elim n (iF q hp),q⟩
 |th c=>obtain⟨e,n,q⟩:=h;exact⟨e,fun a m=>⟨fun z=>z.elim (n a m).1 fun y=>(n a m).2 (by rw[y];exact hp),(n a m).2⟩,c.fresh hp q⟩
structure Gx where
 B:Bg
 H0:Hp
 A:Addr->Prop
 hold:List (Bool×HD×V):=[]
inductive Sl where
 |no|d (f:Bool) (d:PyData)|own (a:Addr) (f:Bool) (ds:List PyData)|ao|raw (v:V)|ez (a:Addr) (f:Bool) (ks:List (Int×PyData))|cu (c:Cu)
noncomputable def Sl.adr:Sl->List Addr
 | .own a _ _=>[a]
 | .ez a _ _=>[a]
 | .cu c=>c.F
 |_=>[]
@[reducible] noncomputable def fZ(p:Int×PyData):PyData×PyData:=(.int p.1,p.2)
noncomputable abbrev Rh:=List Sl
noncomputable def Gx.S(G:Gx)(nb:Addr->Prop)(f:Bool):Addr->Prop:=fun a=>nb a\/G.A a\/¬NB G.B a\/(f=true/\G.H0 a≠none)
noncomputable def pU(G:Gx)(nb:Addr->Prop)(H:Hp)(x:Option V):Sl->Prop
 | .no=>True
 | .d f d=>∃v,x=some v/\af (G.S nb f) H d v
 | .own a f ds=>x=some (.ref a)/\nb a/\NB G.B a/\∃xs,H a=some (.lst xs)/\ah (G.S nb f) H ds xs
 | .ao=>∃b l,G.B=some (b,l)/\x=some (.ref b)
 | .raw v=>x=some v
 | .ez a f ks=>x=some (.ref a)/\nb a/\NB G.B a/\∃ps,H a=some (.dK ps)/\aq (G.S nb f) H (ks.map fZ) ps
 | .cu c=>x=some c.v/\(∀a∈c.F,nb a/\NB G.B a)/\c.P (G.S nb c.f) H
structure Wd(G:Gx)(nb:Addr->Prop)(ρ:Rh)(σ:St)(H:Hp):Prop where
 ao:jv G.B H
 live:dX nb H
 old:∀a o,NB G.B a->G.H0 a=some o->H a=some o
 cC:∀a,nb a->NB G.B a->G.H0 a=none
 gA:dX G.A G.H0
 len:σ.length=ρ.length
 gB:jv G.B G.H0
 fT:∀h∈G.hold,dR (G.S nb h.1) H h.2.1 h.2.2
 ok:∀(i:Nat) (s:Sl),ρ[i]?=some s->∃x,σ[i]?=some x/\pU G nb H x s
 apart:∀(i j:Nat) a f as c g cs,i≠j->ρ[i]?=some (.own a f as)->ρ[j]?=some (.own c g cs)->a≠c
 gV:∀(i j:Nat) a f as c g cs,i≠j->ρ[i]?=some (.ez a f as)->ρ[j]?=some (.ez c g cs)->a≠c
 dh:∀(i j:Nat) c s,i≠j->ρ[i]?=some (.cu c)->ρ[j]?=some s->∀a∈c.F,a∉s.adr
noncomputable def Step(B:Bg)(H H':Hp):Prop:=(∀a o,NB B a->H a=some o->H' a=some o)/\jv B H'
section
variable{G:Gx}{B:Bg}{nb:Addr->Prop}{ρ:Rh}{σ:St}{H H1 H2 H':Hp}{f g:Bool}{d:PyData}{ds:List PyData}{v:V}{xs:List V}{a p:Addr}
theorem Step.refl(h:jv B H):Step B H H:=⟨fun _ _ _ e=>e,h⟩
theorem Step.trans(x:Step B H H1)(y:Step B H1 H2):Step B H H2:=⟨fun a o n e=>y.1 a o n (x.1 a o n e),y.2⟩
theorem jv.same(h:jv B H)(s:bu H H'):jv B H':=fun b l e=>(h b l e).same s
theorem Step.same(h:jv B H)(s:bu H H'):Step B H H':=⟨fun a o _ e=>s a o e,h.same s⟩
theorem Step.but{au:Addr->Prop}(s:Step B H H')(h:∀a,¬NB B a->au a):aM au H H':=fun a o n e=>s.1 a o (jT fun z=>n (h a z)) e
theorem Step.fG(s:Step G.B H H'):aM (G.S nb f) H H':=s.but fun a h=> .inr (.inr (.inl h))
theorem bX(h:g=true->f=true){au:Addr->Prop}(hn:∀a,nb a->au a):∀a,G.S nb g a->G.S au f a:=by
 intro a z
 rcases z with z|z|z|⟨z,q⟩
 ·exact .inl (hn a z)
 ·exact .inr (.inl z)
 ·exact .inr (.inr (.inl z))
 ·exact .inr (.inr (.inr ⟨h z,q⟩))
theorem NB.kM(h:jv B H)(n:¬NB B a):H a≠none:=by
 intro e
 apply n
 intro b l hb z
 subst z
 obtain⟨_,_,_,_,_,h1,_⟩:=h _ _ hb
 rw[h1] at e;cases e
theorem Wd.gb(W:Wd G nb ρ σ H):dX (G.S nb f) H:=by
 intro a z
 rcases z with z|z|z|⟨_,z⟩
 ·exact W.live a z
 ·by_cases n:NB G.B a
  ·cases e:G.H0 a with
   |none=>exact absurd e (W.gA a z)
   |some o=>rw[W.old a o n e];exact g7 _
  ·exact NB.kM W.ao n
 ·exact NB.kM W.ao z
 ·by_cases n:NB G.B a
  ·cases e:G.H0 a with
   |none=>exact absurd e z
   |some o=>rw[W.old a o n e];exact g7 _
  ·exact NB.kM W.ao n
theorem Wd.fresh(W:Wd G nb ρ σ H)(hp:H p=none):¬G.S nb f p:=fun z=>W.gb p z hp
theorem pU.step{x:Option V}{s:Sl}(st:Step G.B H H')(h:pU G nb H x s):pU G nb H' x s:=by
  cases s with
  |no=>trivial
  |d f d=>obtain⟨v,e,h⟩:=h;exact⟨v,e,h.keep st.fG⟩
  |own a f ds=>obtain⟨e,n,q,xs,hx,hd⟩:=h;exact⟨e,n,q,xs,st.1 _ _ q hx,hd.keep st.fG⟩
  |ao=>exact h
  |raw v=>exact h
  |ez a f ks=>obtain⟨e,n,q,xs,hx,hd⟩:=h;exact⟨e,n,q,xs,st.1 _ _ q hx,hd.keep st.fG⟩
  | cu c =>
    obtain⟨e,n,p⟩:=h
    refine⟨e,n,c.keep (.of fun a o ha e=>st.1 a o ?_ e) p⟩
    rcases ha with ha|ha
    · exact jT fun z=>ha (.inr (.inr (.inl z)))
    · exact(n a ha).2
theorem Iw(n:NB B a)(st:Step B H H')(h:H a≠none):H' a≠none:=by
 cases e:H a with
 |none=>exact absurd e h
 |some o=>rw[st.1 a o n e];exact g7 _
theorem Wd.step(W:Wd G nb ρ σ H)(st:Step G.B H H'):Wd G nb ρ σ H' where
 ao:=st.2
 live:=fun a n=>by
  by_cases q:NB G.B a
  ·exact Iw q st (W.live a n)
  ·exact NB.kM st.2 q
 old:=fun a o n e=>st.1 a o n (W.old a o n e)
 cC:=W.cC
 gA:=W.gA
 len:=W.len
 gB:=W.gB
 fT:=fun h m=>(W.fT h m).keep st.fG
 ok:=fun i s e=>by
  obtain⟨x,e1,h⟩:=W.ok i s e
  exact⟨x,e1,h.step st⟩
 apart:=W.apart
 gV:=W.gV
 dh:=W.dh
theorem Wd.set{i:Nat}{s:Sl}{x:Option V}(W:Wd G nb ρ σ H)(h:pU G nb H x s)(hs:∀a f ds,s= .own a f ds->∀j c g cs,j≠i->ρ[j]?=some (.own c g cs)->a≠c)(hd:∀a f ds,s= .ez a f ds->∀j c g cs,j≠i->ρ[j]?=some (.ez c g cs)->a≠c:=by intro _ _ _ z;cases z)(hcu:∀a∈s.adr,∀j t,j≠i->ρ[j]?=some t->(∃c,s= .cu c)\/(∃c,t= .cu c)->a∉t.adr:=by intro _ z;cases z):Wd G nb (ρ.set i s) (σ.set i x) H where
 ao:=W.ao
 live:=W.live
 old:=W.old
 cC:=W.cC
 gA:=W.gA
 len:=by rw[gp,gp];exact W.len
 gB:=W.gB
 fT:=W.fT
 ok:=fun j t e=>by
  by_cases hij:i=j
  ·subst hij
   have hl:i<ρ.length:=by have:=(bh.mp e).1;rwa[gp] at this
   rw[cy hl] at e
   cases e
   exact⟨x,cy (by rw[W.len];exact hl),h⟩
  ·rw[bA hij] at e⊢
   exact W.ok j t e
 apart:=fun j k a f as c g cs hjk e1 e2=>by
  by_cases hj:i=j
  ·subst hj
   have hl:i<ρ.length:=by have:=(bh.mp e1).1;rwa[gp] at this
   rw[cy hl] at e1
   cases e1
   rw[bA hjk] at e2
   exact hs a f as rfl k c g cs (cR hjk) e2
  ·by_cases hk:i=k
   ·subst hk
    have hl:i<ρ.length:=by have:=(bh.mp e2).1;rwa[gp] at this
    rw[cy hl] at e2
    cases e2
    rw[bA hj] at e1
    exact(hs c g cs rfl j a f as hjk e1).symm
   ·rw[bA hj] at e1
    rw[bA hk] at e2
    exact W.apart j k a f as c g cs hjk e1 e2
 gV:=fun j k a f as c g cs hjk e1 e2=>by
  by_cases hj:i=j
  ·subst hj
   have hl:i<ρ.length:=by have:=(bh.mp e1).1;rwa[gp] at this
   rw[cy hl] at e1
   cases e1
   rw[bA hjk] at e2
   exact hd a f as rfl k c g cs (cR hjk) e2
  ·by_cases hk:i=k
   ·subst hk
    have hl:i<ρ.length:=by have:=(bh.mp e2).1;rwa[gp] at this
    rw[cy hl] at e2
    cases e2
    rw[bA hj] at e1
    exact(hd c g cs rfl j a f as hjk e1).symm
   ·rw[bA hj] at e1
    rw[bA hk] at e2
    exact W.gV j k a f as c g cs hjk e1 e2
 dh:=fun j k c t hjk e1 e2 a ha=>by
  by_cases hj:i=j
  ·subst hj
   have hl:i<ρ.length:=by have:=(bh.mp e1).1;rwa[gp] at this
   rw[cy hl] at e1
   cases e1
   rw[bA hjk] at e2
   exact hcu a ha k t (cR hjk) e2 (.inl ⟨c,rfl⟩)
  ·by_cases hk:i=k
   ·subst hk
    have hl:i<ρ.length:=by have:=(bh.mp e2).1;rwa[gp] at this
    rw[cy hl] at e2
    cases e2
    rw[bA hj] at e1
    exact fun z=>hcu a z j (.cu c) hjk e1 (.inr ⟨c,rfl⟩) ha
   ·rw[bA hj] at e1
    rw[bA hk] at e2
    exact W.dh j k c t hjk e1 e2 a ha
theorem Wd.u9{i:Nat}(W:Wd G nb ρ σ H)(h:af (G.S nb f) H d v):Wd G nb (ρ.set i (.d f d)) (σ.set i (some v)) H:=W.set ⟨v,rfl,h⟩ fun _ _ _ e=>by cases e
inductive Wk:Rh->Rh->Prop
 |nil:Wk [] []
 |no {s:Sl} {r r':Rh} (h:Wk r r'):Wk (.no::r) (s::r')
 |eq {s:Sl} {r r':Rh} (h:Wk r r'):Wk (s::r) (s::r')
theorem Wk.at:∀{r r':Rh} {i:Nat} {s:Sl},Wk r r'->r[i]?=some s->s= .no/\(∃t,r'[i]?=some t)\/r'[i]?=some s
 |_,_,_,_, .nil,e=>by simp at e
 |_,_,0,_, .no h,e=>by simp at e;subst e;exact .inl ⟨rfl,_,rfl⟩
 |_,_,0,_, .eq h,e=>by simp at e;subst e;exact .inr rfl
 |_,_,i+1,_, .no h,e=>by simpa using Wk.at (i:=i) h (by simpa using e)
 |_,_,i+1,_, .eq h,e=>by simpa using Wk.at (i:=i) h (by simpa using e)
theorem Wk.len{r r':Rh}(h:Wk r r'):r.length=r'.length:=by
 induction h with
 |nil=>rfl
 |no _ ih=>simp[ih]
 |eq _ ih=>simp[ih]
theorem Wd.wk{ρ':Rh}(W:Wd G nb ρ' σ H)(h:Wk ρ ρ'):Wd G nb ρ σ H where
 ao:=W.ao
 live:=W.live
 old:=W.old
 cC:=W.cC
 gA:=W.gA
 len:=by rw[h.len];exact W.len
 gB:=W.gB
 fT:=W.fT
 ok:=fun i s e=>by
  rcases h.at e with ⟨rfl,t,e'⟩|e'
  ·obtain⟨x,e1,_⟩:=W.ok i t e';exact⟨x,e1,trivial⟩
  ·exact W.ok i s e'
 apart:=fun i j a f as c g cs hij e1 e2=>by
  rcases h.at e1 with ⟨z,_⟩|lU
  ·cases z
  rcases h.at e2 with ⟨z,_⟩|e2'
  ·cases z
  exact W.apart i j a f as c g cs hij lU e2'
 gV:=fun i j a f as c g cs hij e1 e2=>by
  rcases h.at e1 with ⟨z,_⟩|lU
  ·cases z
  rcases h.at e2 with ⟨z,_⟩|e2'
  ·cases z
  exact W.gV i j a f as c g cs hij lU e2'
 dh:=fun i j c s hij e1 e2 a ha=>by
  rcases h.at e1 with ⟨z,_⟩|lU
  ·cases z
  rcases h.at e2 with ⟨z,_⟩|e2'
  ·subst z;exact fun z=>by cases z
  exact W.dh i j c s hij lU e2' a ha
theorem Wd.more(W:Wd G nb ρ σ H)(hp:H p=none){o:HO}:Wd G (fun a=>nb a\/a=p) ρ σ (upd H p o):=by
 have hS:bu H (upd H p o):=cE hp
 have hN:NB G.B p:=fun b l e z=>by
  subst z
  obtain⟨_,_,_,_,_,h1,_⟩:=W.ao _ _ e
  rw[h1] at hp;cases hp
 have W':=W.step (Step.same W.ao hS)
 have hA:∀f a,G.S (fun a=>nb a\/a=p) f a->(G.S nb f a\/a=p):=fun f a z=>by
  rcases z with (z|z)|z|z|z
  ·exact .inl (.inl z)
  ·exact .inr z
  ·exact .inl (.inr (.inl z))
  ·exact .inl (.inr (.inr (.inl z)))
  ·exact .inl (.inr (.inr (.inr z)))
 refine⟨W'.ao,fun a n=>?_,W'.old,fun a n q=>?_,W.gA,W.len,W.gB,fun h m=>(((W.fT h m).fresh hp).av (hA h.1)).keep (aM.of hS),fun i s e=>?_,W.apart,W.gV,W.dh⟩
 ·rcases n with n|n
  ·exact W'.live a n
  ·subst n;rw[aQ];exact g7 _
 ·rcases n with n|n
  ·exact W.cC a n q
  ·subst n
   cases e:G.H0 a with
   |none=>rfl
   |some o=>rw[W.old a o q e] at hp;cases hp
 ·obtain⟨x,e1,h⟩:=W.ok i s e
  refine⟨x,e1,?_⟩
  cases s with
  |no=>trivial
  |d f d=>obtain⟨v,e,h⟩:=h;exact⟨v,e,((h.fresh hp).av (hA f)).keep (aM.of hS)⟩
  |own a f ds=>obtain⟨e,n,q,xs,hx,hd⟩:=h;exact⟨e, .inl n,q,xs,hS _ _ hx,((hd.fresh hp).av (hA f)).keep (aM.of hS)⟩
  |ao=>exact h
  |raw v=>exact h
  |ez a f ds=>obtain⟨e,n,q,xs,hx,hd⟩:=h;exact⟨e, .inl n,q,xs,hS _ _ hx,((hd.fresh hp).av (hA f)).keep (aM.of hS)⟩
  |cu c=>obtain⟨e,n,q⟩:=h;exact⟨e,fun a ha=>⟨.inl (n a ha).1,(n a ha).2⟩,c.keep (.of fun a o _ e=>hS a o e) (c.av (hA c.f) (c.fresh hp q))⟩
theorem Wd.write(W:Wd G nb ρ σ H){o:HO}(hp:nb p)(hN:NB G.B p)(ho:∀(i:Nat) a f ds,ρ[i]?=some (.own a f ds)->a≠p)(hod:∀(i:Nat) a f ds,ρ[i]?=some (.ez a f ds)->a≠p)(hoc:∀(i:Nat) c,ρ[i]?=some (.cu c)->p∉c.F):Wd G nb ρ σ (upd H p o):=by
  have hl:∀b l,G.B=some (b,l)->p≠l:=fun b l e z=>by
    obtain⟨_,_,_,_,_,_,h2,_⟩:=W.gB b l e
    rw[<-z,W.cC p hp hN] at h2;cases h2
  have hB:jv G.B (upd H p o):=fun b l e=>(W.ao b l e).put2 ⟨hN b l e,hl b l e⟩
  have bt:∀f,aM (G.S nb f) H (upd H p o):=fun f=>aM.set (.inl hp)
  refine⟨hB,fun a n=>?_,fun a o' n e=>?_,W.cC,W.gA,W.len,W.gB,fun h m=>(W.fT h m).keep (bt h.1),fun i s e=>?_,W.apart,W.gV,W.dh⟩
  · by_cases z:a=p
    · subst z;rw[aQ];exact g7 _
    · rw[aT z];exact W.live a n
  · have z:a≠p:=fun z=>by subst z;rw[W.cC a hp n] at e;cases e
    rw[aT z];exact W.old a o' n e
  · obtain⟨x,e1,h⟩:=W.ok i s e
    refine⟨x,e1,?_⟩
    cases s with
    |no=>trivial
    |d f d=>obtain⟨v,e,h⟩:=h;exact⟨v,e,h.keep (bt f)⟩
    |own a f ds=>obtain⟨e',n,q,xs,hx,hd⟩:=h;exact⟨e',n,q,xs,by rw[aT (ho i a f ds e)];exact hx,hd.keep (bt f)⟩
    |ao=>exact h
    |raw v=>exact h
    |ez a f ds=>obtain⟨e',n,q,xs,hx,hd⟩:=h;exact⟨e',n,q,xs,by rw[aT (hod i a f ds e)];exact hx,hd.keep (bt f)⟩
    | cu c =>
      obtain⟨e',n,q⟩:=h
      refine⟨e',n,c.keep (.of fun a o' ha e''=>?_) q⟩
      rw[aT]
      · exact e''
      · rintro rfl
        rcases ha with ha|ha
        · exact ha (.inl hp)
        · exact hoc i c e ha
end
end L2
set_option maxRecDepth 100000
set_option maxHeartbeats 1000000
namespace L2
open PySem PySem.Spec PyProof.Rows
noncomputable abbrev Pd:=Bool->PyData->Prop
noncomputable def Ev(G:Gx)(ρ:Rh)(te:TE)(Φ:Pd):Prop:=∀nb σ H (Q:VK),Wd G nb ρ σ H->(∀f v H' d,Φ f d->Step G.B H H'->af (G.S nb f) H' d v->Q v H')->te σ H Q
noncomputable def aI(G:Gx)(ρ:Rh)(te:TE)(Φ:Bool->List PyData->Prop):Prop:=∀nb σ H (Q:VK),Wd G nb ρ σ H->
 (∀f a xs H' ds,Φ f ds->Step G.B H H'->H a=none->H' a=some (.lst xs)->ah (fun x=>G.S nb f x\/x=a) H' ds xs->Q (.ref a) H')->te σ H Q
noncomputable def Tv(G:Gx)(ρ:Rh)(tt:TT)(Φ:Bool->Prop):Prop:=∀nb σ H (Q:Bool->Hp->Prop),Wd G nb ρ σ H->(∀b H',Φ b->Step G.B H H'->Q b H')->tt σ H Q
noncomputable def Ov(G:Gx)(ρ:Rh)(to:TO)(Φ:Option Int->Prop):Prop:=∀nb σ H (Q:Option Int->Hp->Prop),Wd G nb ρ σ H->(∀o H',Φ o->Step G.B H H'->Q o H')->to σ H Q
noncomputable abbrev Fd:=Bool×PyData
noncomputable def jw(G:Gx)(nb:Addr->Prop)(H:Hp):List Fd->List V->Prop
 |[],vs=>vs=[]
 |e::es,vs=>∃v ws,vs=v::ws/\af (G.S nb e.1) H e.2 v/\jw G nb H es ws
noncomputable def Av(G:Gx)(ρ:Rh)(ta:TA)(Φ:List Fd->Prop):Prop:=∀nb σ H (Q:List V->Hp->Prop),Wd G nb ρ σ H->(∀es vs H',Φ es->Step G.B H H'->jw G nb H' es vs->Q vs H')->ta σ H Q
noncomputable def Gv(G:Gx)(ρ:Rh)(g:TG)(f:Bool)(d:PyData)(Φ:Rh->Prop):Prop:=∀nb σ H v (Q:St->Hp->Prop),Wd G nb ρ σ H->af (G.S nb f) H d v->(∀σ' ρ',Φ ρ'->Wd G nb ρ' σ' H->Q σ' H)->g v σ H Q
noncomputable def uL(G:Gx)(ρ:Rh)(g:jh)(f:Bool)(ds:List PyData)(Φ:Rh->Prop):Prop:=∀nb σ H vs (Q:St->Hp->Prop),Wd G nb ρ σ H->ah (G.S nb f) H ds vs->(∀σ' ρ',Φ ρ'->Wd G nb ρ' σ' H->Q σ' H)->g vs σ H Q
structure DE where
 nx:Rh->Prop
 rt:Pd
 bk:Rh->Prop:=fun _=>False
 ct:Rh->Prop:=fun _=>False
 rw:(Addr->Prop)->Rh->V->Hp->Prop:=fun _ _ _ _=>False
structure Dp(G:Gx)(E:DE)(D:Ends):Prop where
 nx:∀nb ρ σ H,E.nx ρ->Wd G nb ρ σ H->D.nx σ H
 bk:∀nb ρ σ H,E.bk ρ->Wd G nb ρ σ H->D.bk σ H
 ct:∀nb ρ σ H,E.ct ρ->Wd G nb ρ σ H->D.ct σ H
 rt:∀nb ρ σ f v H d,E.rt f d->Wd G nb ρ σ H->af (G.S (fun _=>False) f) H d v->D.rt v H
 rw:∀nb ρ σ v H,E.rw nb ρ v H->Wd G nb ρ σ H->D.rt v H
noncomputable def Sv(G:Gx)(ρ:Rh)(ts:TS)(E:DE):Prop:=∀nb σ H D,Wd G nb ρ σ H->Dp G E D->ts D σ H
noncomputable def gH:PyData->Bool
 | .none=>true| .bool _=>true| .int _=>true| .str _=>true|_=>false
noncomputable def toV:PyData->V
 | .bool b=> .bl b| .int i=> .int i| .str x=> .str x|_=> .aB
section
variable{nb au:Addr->Prop}{H H':Hp}{d e:PyData}{v:V}
theorem af.sc(h:gH d=true):af nb H d (toV d):=by
 cases d<;>first|(cases h;done)|(unfold af;rfl)
theorem af.Ui(h:gH d=true)(q:af nb H d v):v=toV d:=by
 cases d<;>first|(cases h;done)|(unfold af at q;exact q)
theorem af.jE(h:gH d=true)(q:af nb H d v):af au H' d v:=by
 rw[q.Ui h];exact .sc h
theorem ah.jE:∀{ds:List PyData} {xs:List V},ds.all gH=true->ah nb H ds xs->ah au H' ds xs
  |[],_,_,q=>by unfold ah at q⊢;exact q
  | d :: ds, _, h, q => by
    rw[ny,dN] at h
    unfold ah at q⊢
    obtain⟨y,ys,e,h1,h2⟩:=q
    exact⟨y,ys,e,h1.jE h.1,ah.jE h.2 h2⟩
end
section
variable{G:Gx}{ρ:Rh}{Φ Ψ:Pd}{ta tb te:TE}{t:TA}{i:Nat}{f g:Bool}{d e:PyData}{ds es:List PyData}{K:PySem.W.Frag}
theorem Ev.mono(h:Ev G ρ te Ψ)(q:∀f d,Ψ f d->Φ f d):Ev G ρ te Φ:=fun nb σ H Q W z=>h nb σ H Q W fun f v H' d p=>z f v H' d (q f d p)
theorem aI.ev(h:aI G ρ te fun f ds=>Φ f (.list ds)):Ev G ρ te Φ:=fun nb σ H Q W z=>h nb σ H Q W fun f a xs H' ds p st n e hd=>
 z f _ H' _ p st (.lst (W.fresh n) e (hd.av fun _ x=> .inl x))
namespace Ev
theorem var(e:ρ[i]?=some (.d f d))(h:Φ f d):Ev G ρ (bf i) Φ:=fun nb σ H Q W z=>by
 obtain⟨x,e1,v,rfl,hd⟩:=W.ok i _ e
 exact⟨v,e1,z f v H d h (.refl W.ao) hd⟩
theorem int{n:Int}(h:Φ true (.int n)):Ev G ρ (tC (.int n)) Φ:=fun nb σ H Q W z=>z true _ H _ h (.refl W.ao) (.int n)
theorem bl{b:Bool}(h:Φ true (.bool b)):Ev G ρ (tC (.bl b)) Φ:=fun nb σ H Q W z=>z true _ H _ h (.refl W.ao) (.bl b)
theorem aB(h:Φ true .none):Ev G ρ (tC .aB) Φ:=fun nb σ H Q W z=>z true _ H _ h (.refl W.ao) .aB
theorem lC{r:R2}(h:Ev G ρ ta fun f x=>Ev G ρ tb fun g y=>∀nb σ H u v (Q:VK),Wd G nb ρ σ H->af (G.S nb f) H x u->af (G.S nb g) H y v->(∀f w H' d,Φ f d->Step G.B H H'->af (G.S nb f) H' d w->Q w H')->r u v H Q):Ev G ρ (cG r ta tb) Φ:=fun nb σ H Q W z=>
 h nb σ H _ W fun f v1 H1 d1 p1 s1 q1=>p1 nb σ H1 _ (W.step s1) fun g v2 H2 d2 p2 s2 q2=>p2 nb σ H2 _ _ _ ((W.step s1).step s2) (q1.keep s2.fG) q2 fun f w H' d p st q=>z f w H' d p (s1.trans (s2.trans st)) q
theorem rI{C:Int->Int->Prop}{k:Int->Int->Int}(h:Ev G ρ ta fun _ x=>∃i,x= .int i/\Ev G ρ tb fun _ y=>∃j,y= .int j/\C i j/\Φ true (.int (k i j))):Ev G ρ (cG (L2.rI C fun i j=> .int (k i j)) ta tb) Φ:=
 lC (h.mono fun f x ⟨i,ex,q⟩=>q.mono fun g y ⟨j,ey,hc,p⟩ nb σ H u v Q W hu hv z=>by
  subst ex ey;exact⟨i,j,hu.cS,hv.cS,hc,z true _ H _ p (.refl W.ao) (.int _)⟩)
theorem fL{k:Int->Int->Int}(h:Ev G ρ ta fun _ x=>∃i,x= .int i/\Ev G ρ tb fun _ y=>∃j,y= .int j/\Φ true (.int (k i j))):Ev G ρ (cG (L2.fL fun i j=> .int (k i j)) ta tb) Φ:=
 lC (h.mono fun f x ⟨i,ex,q⟩=>q.mono fun g y ⟨j,ey,p⟩ nb σ H u v Q W hu hv z=>by
  subst ex ey;exact⟨i,j,hu.cS,hv.cS,z true _ H _ p (.refl W.ao) (.int _)⟩)
theorem BU{k:Int->Int->Bool}(h:Ev G ρ ta fun _ x=>∃i,x= .int i/\Ev G ρ tb fun _ y=>∃j,y= .int j/\Φ true (.bool (k i j))):Ev G ρ (cG (L2.fL fun i j=> .bl (k i j)) ta tb) Φ:=
 lC (h.mono fun f x ⟨i,ex,q⟩=>q.mono fun g y ⟨j,ey,p⟩ nb σ H u v Q W hu hv z=>by
  subst ex ey;exact⟨i,j,hu.cS,hv.cS,z true _ H _ p (.refl W.ao) (.bl _)⟩)
theorem un{r:V->Hp->VK->Prop}(h:Ev G ρ ta fun f x=>∀nb σ H u (Q:VK),Wd G nb ρ σ H->af (G.S nb f) H x u->(∀f w H' d,Φ f d->Step G.B H H'->af (G.S nb f) H' d w->Q w H')->r u H Q):Ev G ρ (A0 r ta) Φ:=fun nb σ H Q W z=>
 h nb σ H _ W fun f v1 H1 d1 p1 s1 q1=>p1 nb σ H1 _ _ (W.step s1) q1 fun f w H' d p st q=>z f w H' d p (s1.trans st) q
theorem rU{k:Int->Int}(h:Ev G ρ ta fun _ x=>∃i,x= .int i/\Φ true (.int (k i))):Ev G ρ (A0 (L2.rU fun i=> .int (k i)) ta) Φ:=
 un (h.mono fun f x ⟨i,ex,p⟩ nb σ H u Q W hu z=>by subst ex;exact⟨i,hu.cS,z true _ H _ p (.refl W.ao) (.int _)⟩)
end Ev
inductive gZ:PyData->PyData->Bool->Prop
 |ii (i j:Int):gZ (.int i) (.int j) (decide (i=j))
 |ni (i:Int):gZ .none (.int i) false
 |Z5 (i:Int):gZ (.int i) .none false
 |nn:gZ .none .none true
 |bb (a b:Bool):gZ (.bool a) (.bool b) (a==b)
 |ss (x:Str):gZ (.str x) (.str x) true
 |sd (x y:Str):gZ (.str x) (.str y) (decide (x=y))
theorem gZ.v{nb au:Addr->Prop}{H:Hp}{x y:PyData}{b:Bool}{u v:V}(h:gZ x y b)(hu:af nb H x u)(hv:af au H y v):Ed u v=true/\decide (u=v)=b:=by
 cases h<;>(unfold af at hu hv;subst hu hv;refine⟨rfl,?_⟩)
 ·exact R.Hs
 ·rfl
 ·rfl
 ·rfl
 ·rename_i a b;cases a<;>cases b<;>rfl
 ·exact decide_eq_true rfl
 ·rename_i x y
  by_cases c:x=y
  ·subst c;rw[decide_eq_true rfl,decide_eq_true rfl]
  ·rw[decide_eq_false c,decide_eq_false (fun z=>c (V.str.inj z))]
theorem gZ.self{d:PyData}(h:gH d=true):gZ d d true:=by
 cases d<;>first|(cases h;done)|skip
 ·exact .nn
 ·rename_i b;have:=gZ.bb b b;rwa[beq_self_eq_true] at this
 ·rename_i i;have:=gZ.ii i i;rwa[decide_eq_true rfl] at this
 ·exact .ss _
namespace Ev
theorem eq(h:Ev G ρ ta fun _ x=>Ev G ρ tb fun _ y=>∃b,gZ x y b/\Φ true (.bool b)):Ev G ρ (cG Cz ta tb) Φ:=
 lC (h.mono fun f x q=>q.mono fun g y ⟨b,e,p⟩ nb σ H u v Q W hu hv z=>by
  obtain⟨h1,h2⟩:=e.v hu hv
  exact⟨h1,by rw[h2];exact z true _ H _ p (.refl W.ao) (.bl _)⟩)
theorem ne(h:Ev G ρ ta fun _ x=>Ev G ρ tb fun _ y=>∃b,gZ x y b/\Φ true (.bool !b)):Ev G ρ (cG M4 ta tb) Φ:=
 lC (h.mono fun f x q=>q.mono fun g y ⟨b,e,p⟩ nb σ H u v Q W hu hv z=>by
  obtain⟨h1,h2⟩:=e.v hu hv
  exact⟨h1,by rw[h2];exact z true _ H _ p (.refl W.ao) (.bl _)⟩)
theorem Oh{ng:Bool}(h:Ev G ρ ta fun _ x=>Ev G ρ tb fun _ y=>SeqAt.shaped x=true/\SeqAt.shaped y=true/\Φ true (.bool (PyData.eqv x y !=ng))):Ev G ρ (cG (DR ng) ta tb) Φ:=
 lC (h.mono fun f x q=>q.mono fun g y ⟨h1,h2,p⟩ nb σ H u v Q W hu hv z=>
  ⟨G.S nb false,x,y,hu.av (bX (fun z=>by cases z) fun _ z=>z),hv.av (bX (fun z=>by cases z) fun _ z=>z),h1,h2,z true _ H _ p (.refl W.ao) (.bl _)⟩)
end Ev
noncomputable def FJ:PyData->Bool
 | .none=>true
 |_=>false
theorem WN{nb:Addr->Prop}{H:Hp}{d:PyData}{v:V}(h:af nb H d v):decide (v= .aB)=FJ d:=by
 cases d<;>unfold af at h
 all_goals first
  |(subst h;rfl)
  |(obtain⟨a,xs,rfl,_⟩:=h;rfl)
  |exact h.elim
namespace Ev
theorem is(h:Ev G ρ ta fun _ x=>Φ true (.bool (FJ x))):Ev G ρ (cG t6 ta (tC .aB)) Φ:=
 lC (h.mono fun f x p=>Ev.aB fun nb σ H u v Q W hu hv z=>⟨hv.L5,by rw[WN hu];exact z true _ H _ p (.refl W.ao) (.bl _)⟩)
end Ev
theorem ah.cB{nb:Addr->Prop}{H:Hp}{ds:List PyData}{xs:List V}{k:Int}{e:PyData}(h:ah nb H ds xs)(q:L2.cB ds k=some e):∃v,L2.cB xs k=some v/\af nb H e v:=by
 unfold L2.cB at q⊢
 rw[h.length]
 cases z:jX ds.length k with
 |none=>rw[z] at q;cases q
 |some j=>rw[z] at q;exact h.get q
namespace Ev
theorem vp(h:Ev G ρ ta fun f x=>∃ds,x= .list ds/\Ev G ρ tb fun _ y=>∃k,y= .int k/\∃e,cB ds k=some e/\Φ f e):Ev G ρ (cG (bS K) ta tb) Φ:=
 lC (h.mono fun f x ⟨ds,ex,q⟩=>q.mono fun g y ⟨k,ey,e,he,p⟩ nb σ H u v Q W hu hv z=>by
  subst ex ey
  obtain⟨a,xs,rfl,n,hx,hd⟩:=hu.gF
  obtain⟨w,hw,hD⟩:=hd.cB he
  exact⟨a,xs,k,w,rfl,hv.cS, .of hx,hw,z f _ H _ p (.refl W.ao) hD⟩)
theorem RV(h:Ev G ρ ta fun f x=>∃ds,x= .tuple ds/\Ev G ρ tb fun _ y=>∃k,y= .int k/\∃e,cB ds k=some e/\Φ f e):Ev G ρ (cG (i7 K) ta tb) Φ:=
 lC (h.mono fun f x ⟨ds,ex,q⟩=>q.mono fun g y ⟨k,ey,e,he,p⟩ nb σ H u v Q W hu hv z=>by
  subst ex ey
  obtain⟨a,xs,rfl,n,hx,hd⟩:=hu.ofT
  obtain⟨w,hw,hD⟩:=hd.cB he
  exact⟨a,xs,k,w,rfl,hv.cS, .of hx,hw,z f _ H _ p (.refl W.ao) hD⟩)
theorem Zb(h:Ev G ρ ta fun _ x=>∃b,x= .bool b/\if b=true then Ev G ρ tb Φ else Φ true (.bool false)):Ev G ρ (G5 ta tb) Φ:=fun nb σ H Q W z=>
 h nb σ H _ W fun f v H1 d ⟨b,e,q⟩ s1 hv=>by
  subst e
  refine⟨b,by unfold af at hv;exact hv,?_⟩
  cases b with
  |true=>rw[if_pos rfl] at q⊢;exact q nb σ H1 _ (W.step s1) fun f v H' d p st=>z f v H' d p (s1.trans st)
  |false=>rw[if_neg bH] at q⊢;exact z true _ H1 _ q s1 (.bl false)
theorem Vo(h:Ev G ρ ta fun _ x=>∃b,x= .bool b/\Φ true (.bool !b)):Ev G ρ (JL ta) Φ:=fun nb σ H Q W z=>
 h nb σ H _ W fun f v H1 d ⟨b,e,q⟩ s1 hv=>by
  subst e
  exact⟨b,by unfold af at hv;exact hv,z true _ H1 _ q s1 (.bl _)⟩
theorem Zh{c:TT}(h:Tv G ρ c fun b=>if b=true then Ev G ρ ta Φ else Ev G ρ tb Φ):Ev G ρ (Fb c ta tb) Φ:=fun nb σ H Q W z=>
 h nb σ H _ W fun b H1 q s1=>by
  cases b with
  |true=>rw[if_pos rfl] at q⊢;exact q nb σ H1 _ (W.step s1) fun f v H' d p st=>z f v H' d p (s1.trans st)
  |false=>rw[if_neg bH] at q⊢;exact q nb σ H1 _ (W.step s1) fun f v H' d p st=>z f v H' d p (s1.trans st)
end Ev
namespace Tv
variable{Θ:Bool->Prop}{t u:TT}
theorem test(h:Ev G ρ te fun _ x=>∃b,x= .bool b/\Θ b):Tv G ρ (tU te) Θ:=fun nb σ H Q W z=>
 h nb σ H _ W fun f v H1 d ⟨b,e,q⟩ s1 hv=>by subst e;exact⟨b,by unfold af at hv;exact hv,z b H1 q s1⟩
theorem and(h:Tv G ρ t fun b=>if b=true then Tv G ρ u Θ else Θ false):Tv G ρ (Aw t u) Θ:=fun nb σ H Q W z=>
 h nb σ H _ W fun b H1 q s1=>by
  cases b with
  |true=>rw[if_pos rfl] at q⊢;exact q nb σ H1 _ (W.step s1) fun b H' p st=>z b H' p (s1.trans st)
  |false=>rw[if_neg bH] at q⊢;exact z false H1 q s1
theorem or(h:Tv G ρ t fun b=>if b=true then Θ true else Tv G ρ u Θ):Tv G ρ (Ij t u) Θ:=fun nb σ H Q W z=>
 h nb σ H _ W fun b H1 q s1=>by
  cases b with
  |false=>rw[if_neg bH] at q⊢;exact q nb σ H1 _ (W.step s1) fun b H' p st=>z b H' p (s1.trans st)
  |true=>rw[if_pos rfl] at q⊢;exact z true H1 q s1
theorem not(h:Tv G ρ t fun b=>Θ (!b)):Tv G ρ (LH t) Θ:=fun nb σ H Q W z=>h nb σ H _ W fun b H1 q s1=>z _ H1 q s1
theorem uD(h:Θ true):Tv G ρ rF Θ:=fun nb σ H Q W z=>z true H h (.refl W.ao)
end Tv
noncomputable def EF(K:PySem.W.Frag)(ta:TE):TT:=fun σ H Q=>ta σ H fun x H1=>∃k,A3 K x H1 k/\Q k H1
theorem Tv.Hf{Θ:Bool->Prop}(h:Ev G ρ te fun _ x=>∃b,x= .bool b/\Θ b):Tv G ρ (EF K te) Θ:=fun nb σ H Q W z=>
 h nb σ H _ W fun f v H1 d ⟨b,e,q⟩ s1 hv=>by subst e;exact⟨b,by unfold af at hv;subst hv;rfl,z b H1 q s1⟩
namespace Av
variable{Θ:List Fd->Prop}
theorem nil(h:Θ []):Av G ρ aX Θ:=fun nb σ H Q W z=>z [] [] H h (.refl W.ao) rfl
theorem cons(h:Ev G ρ te fun f d=>Av G ρ t fun es=>Θ ((f,d)::es)):Av G ρ (aL te t) Θ:=fun nb σ H Q W z=>
 h nb σ H _ W fun f v H1 d p1 s1 q1=>p1 nb σ H1 _ (W.step s1) fun es vs H2 p2 s2 q2=>z _ _ H2 p2 (s1.trans s2) ⟨v,vs,rfl,q1.keep s2.fG,q2⟩
theorem SN{is:List Int}(h:Θ (is.map fun i=>(true, .int i))):Av G ρ (Af is) Θ:=fun nb σ H Q W z=>z _ _ H h (.refl W.ao) (by
 clear h
 induction is with
 |nil=>rfl
 |cons i r ih=>exact⟨_,_,rfl, .int i,ih⟩)
end Av
noncomputable def iH(es:List Fd):Bool:=es.all (·.1)
theorem jw.all{nb:Addr->Prop}{H:Hp}:∀{es:List Fd} {vs:List V} {f:Bool},jw G nb H es vs->(f=true->iH es=true)->ah (G.S nb f) H (es.map (·.2)) vs
  |[],_,_,h,_=>by unfold jw at h;subst h;exact .nil
  | e :: es, _, f, h, hf => by
    obtain⟨v,ws,rfl,h1,h2⟩:=h
    refine .cons (h1.av (bX (fun z=>?_) fun _ z=>z)) (h2.all fun z=>?_)
    · have:=hf z;simp only[iH,ny,dN] at this;exact this.1
    · have:=hf z;simp only[iH,ny,dN] at this;exact this.2
theorem jw.len{nb:Addr->Prop}{H:Hp}{es:List Fd}{vs:List V}(h:jw G nb H es vs):vs.length=es.length:=by
 have:=(h.all (f:=false) (fun z=>by cases z)).length
 simpa using this
namespace Ev
theorem tup(h:Av G ρ t fun es=>es.length<=10000/\Φ (iH es) (.tuple (es.map (·.2)))):Ev G ρ (sC t) Φ:=fun nb σ H Q W z=>
 h nb σ H _ W fun es vs H1 ⟨hl,p⟩ s1 q1=>⟨dw (by rw[q1.len];exact hl) (by decide),fun a ha=>z _ _ _ _ p (s1.trans (.same (W.step s1).ao (cE ha)))
  (.tup ((W.step s1).fresh ha) aQ ((q1.all fun z=>z).keep (aM.of (cE ha))))⟩
end Ev
theorem aI.lst{Φ:Bool->List PyData->Prop}(h:Av G ρ t fun es=>es.length<=10000/\Φ (iH es) (es.map (·.2))):aI G ρ (mK t) Φ:=fun nb σ H Q W z=>
  h nb σ H _ W fun es vs H1 ⟨hl,p⟩ s1 q1=>⟨dw (by rw[q1.len];exact hl) (by decide),fun a ha=>by
    have W1:=W.step s1
    refine z _ a vs _ _ p (s1.trans (.same W1.ao (cE ha))) ?_ aQ (((q1.all fun z=>z).fresh ha).keep (aM.of (cE ha)))
    cases e:H a with
    |none=>rfl
    | some o =>
      by_cases n:NB G.B a
      · rw[s1.1 a o n e] at ha;cases ha
      · exact absurd ha (NB.kM s1.2 n)⟩
theorem Ev.lst(h:Av G ρ t fun es=>es.length<=10000/\Φ (iH es) (.list (es.map (·.2)))):Ev G ρ (mK t) Φ:=(aI.lst (Φ:=fun f ds=>Φ f (.list ds)) h).ev
end
end L2
set_option maxRecDepth 100000
set_option maxHeartbeats 1000000
namespace L2
open PySem PySem.Spec PyProof.Rows
noncomputable def kH(K:PySem.W.Frag):List V->Hp->VK->Prop:=fun xs H Q=>∃p ys,xs=[.ref p]/\(aS K H p ys\/gP K H p ys)/\Q (.int ys.length) H
theorem oh{X:Cx}:fY X (.builtin "len") (kH X.K):=KG
noncomputable def Fv:List V->Hp->VK->Prop:=fun xs H Q=>∃i j,xs=[.int i, .int j]/\Q (.int (if j<i then j else i)) H
theorem WO{X:Cx}(hc:X.calm=true):fY X (.builtin "min") Fv:=Qz hc
noncomputable def AD{α:Type}(xs:List α)(lo hi:Option Int):List α:=(xs.drop (HT.eO xs.length 0 lo)).take (HT.eO xs.length xs.length hi-HT.eO xs.length 0 lo)
theorem ah.cut{nb:Addr->Prop}{H:Hp}{ds:List PyData}{xs:List V}{lo hi:Option Int}(h:ah nb H ds xs):ah nb H (AD ds lo hi) (lD xs lo hi):=by
 unfold AD lD
 rw[h.length]
 exact(h.drop _).take _
noncomputable def fF(ds:List PyData):Bool:=ds.all gH
section
variable{G:Gx}{ρ:Rh}{Φ Ψ:Pd}{ta tb te:TE}{t:TA}{i:Nat}{f g:Bool}{d e:PyData}{ds es:List PyData}{K:PySem.W.Frag}
theorem Wd.none_of{nb:Addr->Prop}{σ:St}{H H1:Hp}{a:Addr}(W:Wd G nb ρ σ H)(s1:Step G.B H H1)(ha:H1 a=none):H a=none:=by
  cases e:H a with
  |none=>rfl
  | some o =>
    by_cases n:NB G.B a
    · rw[s1.1 a o n e] at ha;cases ha
    · exact absurd ha (NB.kM s1.2 n)
theorem aI.fin{nb:Addr->Prop}{σ:St}{H H1:Hp}{Q:VK}{Φ:Bool->List PyData->Prop}{a:Addr}{xs:List V}(W:Wd G nb ρ σ H)(s1:Step G.B H H1)(ha:H1 a=none)(hd:ah (G.S nb f) H1 ds xs)(p:Φ (f||fF ds) ds)
  (z:∀f a xs H' ds,Φ f ds->Step G.B H H'->H a=none->H' a=some (.lst xs)->ah (fun x=>G.S nb f x\/x=a) H' ds xs->Q (.ref a) H'):Q (.ref a) (upd H1 a (.lst xs)):=by
 refine z _ a xs _ ds p (s1.trans (.same s1.2 (cE ha))) (W.none_of s1 ha) aQ ?_
 cases hs:fF ds with
 |true=>exact ah.jE hs hd
 |false=>rw[oH];exact(hd.fresh ha).keep (aM.of (cE ha))
namespace Ov
variable{Θ:Option Int->Prop}
theorem none(h:Θ none):Ov G ρ Cd Θ:=fun nb σ H Q W z=>z _ H h (.refl W.ao)
theorem some(h:Ev G ρ te fun _ x=>∃k,x= .int k/\Θ (some k)):Ov G ρ (AO te) Θ:=fun nb σ H Q W z=>
 h nb σ H _ W fun f v H1 d ⟨k,e,q⟩ s1 hv=>by subst e;exact⟨k,hv.cS,z _ H1 q s1⟩
end Ov
namespace aI
variable{Θ:Bool->List PyData->Prop}
theorem listOf(h:Ev G ρ te fun f x=>∃ds,(x= .list ds\/x= .tuple ds)/\Θ (f||fF ds) ds):aI G ρ (eY (vP K) (aL te aX)) Θ:=fun nb σ H Q W z=>
 h nb σ H _ W fun f v H1 d ⟨ds,e,q⟩ s1 hv=>by
  rcases e with e|e
  ·subst e
   obtain⟨a,xs,rfl,n,hx,hd⟩:=hv.gF
   exact⟨a,xs,rfl, .inl (.of hx),fun p hp=>aI.fin W s1 hp hd q z⟩
  ·subst e
   obtain⟨a,xs,rfl,n,hx,hd⟩:=hv.ofT
   exact⟨a,xs,rfl, .inr (.of hx),fun p hp=>aI.fin W s1 hp hd q z⟩
theorem cat(h:Ev G ρ ta fun f x=>∃ds,x= .list ds/\Ev G ρ tb fun g y=>∃es,y= .list es/\ds.length+es.length<=10000/\Θ ((f && g)||fF (ds++es)) (ds++es)):aI G ρ (cG DW ta tb) Θ:=fun nb σ H Q W z=>
 h nb σ H _ W fun f v H1 d ⟨ds,e,q⟩ s1 hv=>q nb σ H1 _ (W.step s1) fun g u H2 d2 ⟨es,e2,hl,p⟩ s2 hu=>by
  subst e e2
  obtain⟨a,xs,rfl,n,hx,hd⟩:=(hv.keep s2.fG).gF
  obtain⟨c,ys,rfl,m,hy,hc⟩:=hu.gF
  refine⟨a,c,xs,ys,rfl,rfl,hx,hy,dw (by rw[hd.length,hc.length];exact hl) (by decide),fun p' hp=>aI.fin (f:=f && g) W (s1.trans s2) hp ?_ p z⟩
  exact ah.append (hd.av (bX (fun z=>(dN _ _▸z).1) fun _ z=>z)) (hc.av (bX (fun z=>(dN _ _▸z).2) fun _ z=>z))
end aI
namespace Ev
theorem listOf(h:Ev G ρ te fun f x=>∃ds,(x= .list ds\/x= .tuple ds)/\Φ (f||fF ds) (.list ds)):Ev G ρ (eY (vP K) (aL te aX)) Φ:=(aI.listOf (Θ:=fun f ds=>Φ f (.list ds)) h).ev
theorem cat(h:Ev G ρ ta fun f x=>∃ds,x= .list ds/\Ev G ρ tb fun g y=>∃es,y= .list es/\ds.length+es.length<=10000/\Φ ((f && g)||fF (ds++es)) (.list (ds++es))):Ev G ρ (cG DW ta tb) Φ:=(aI.cat (Θ:=fun f ds=>Φ f (.list ds)) h).ev
theorem min2(h:Ev G ρ ta fun _ x=>∃i,x= .int i/\Ev G ρ tb fun _ y=>∃j,y= .int j/\Φ true (.int (if j<i then j else i))):Ev G ρ (eY Fv (aL ta (aL tb aX))) Φ:=fun nb σ H Q W z=>
 h nb σ H _ W fun f v H1 d ⟨i,e,q⟩ s1 hv=>q nb σ H1 _ (W.step s1) fun g u H2 d2 ⟨j,e2,p⟩ s2 hu=>by
  subst e e2
  exact⟨i,j,by rw[hv.cS,hu.cS],z true _ H2 _ p (s1.trans s2) (.int _)⟩
end Ev
noncomputable abbrev DF:=List PyData->Pd->Prop
noncomputable def ic(n:Nat)(F:DF):Sp:=fun vs H Q _=>vs.length=n/\∃(nb:Addr->Prop) (ds:List PyData),dX nb H/\ah nb H ds vs/\F ds fun f d=>∀v H',bu H H'->af (fun a=>nb a\/(f=true/\H a≠none)) H' d v->Q v H'
noncomputable def iJ(n:Nat)(F:DF):Sp:=fun vs H Q _=>vs.length=n/\∃(b l:Addr) (ws:List V) (nb:Addr->Prop) (ds:List PyData),vs= .ref b::ws/\cU H b l/\dX nb H/\nb b/\ah nb H ds ws/\
 F ds fun f d=>∀v H',aM (Nb b) H H'->cU H' b l->af (fun a=>nb a\/(f=true/\H a≠none)) H' d v->Q v H'
noncomputable def jM(F:DF):Prop:=∀ds (Φ Ψ:Pd),F ds Φ->(∀f d,Φ f d->Ψ f d)->F ds Ψ
theorem Ev.nH{n:Nat}{F:DF}(hm:jM F)(h:Av G ρ t fun es=>es.length=n/\F (es.map (·.2)) fun f d=>Φ (f||iH es) d):Ev G ρ (fq (ic n F) [] E0 t) Φ:=fun nb σ H Q W z=>
 h nb σ H _ W fun es vs H1 ⟨hl,p⟩ s1 q1=>by
  have W1:=W.step s1
  rw[gm]
  refine⟨by rw[q1.len,hl],G.S nb (iH es),es.map (·.2),W1.gb,q1.all fun z=>z,hm _ _ _ p fun f d hp v H' sm hd=>z _ v H' d hp (s1.trans (.same W1.ao sm)) (hd.av fun a q=>?_)⟩
  cases f with
  |false=>rw[nZ] at q;exact .inl q
  |true=>exact .inr ⟨rfl,W1.gb a q⟩
theorem Step.DU{b l:Addr}{H H':Hp}(hB:G.B=some (b,l))(bt:aM (Nb b) H H')(B':cU H' b l):Step G.B H H':=
 ⟨fun a o n e=>bt a o (n b l hB) e,fun b' l' e=>by rw[hB] at e;cases e;exact B'⟩
theorem Wd.wB{nb:Addr->Prop}{σ:St}{H:Hp}(W:Wd G nb ρ σ H)(e:ρ[i]?=some .ao):∃b l,G.B=some (b,l)/\σ[i]?=some (some (.ref b))/\cU H b l:=by
 obtain⟨x,e1,b,l,hB,rfl⟩:=W.ok i _ e
 exact⟨b,l,hB,e1,W.ao b l hB⟩
theorem Ev.pO{n:Nat}{F:DF}(hm:jM F)(e:ρ[i]?=some .ao)(h:Av G ρ t fun es=>es.length+1=n/\F (es.map (·.2)) fun f d=>Φ (f||iH es) d):Ev G ρ (fq (iJ n F) [] E0 (aL (bf i) t)) Φ:=fun nb σ H Q W z=>by
 obtain⟨b,l,hB,e1,B⟩:=W.wB e
 refine⟨.ref b,e1,h nb σ H _ W fun es vs H1 ⟨hl,p⟩ s1 q1=>?_⟩
 have W1:=W.step s1
 show iJ n F ((V.ref b::vs)++[]) H1 Q E0
 rw[gm]
 have hb:∀f,G.S nb f b:=fun f=> .inr (.inr (.inl fun n=>n b l hB rfl))
 refine⟨by rw[bw,q1.len,hl],b,l,vs,G.S nb (iH es),es.map (·.2),rfl,W1.ao b l hB,W1.gb,hb _,q1.all fun z=>z,hm _ _ _ p fun f d hp v H' bt B' hd=>z _ v H' d hp (s1.trans (.DU hB bt B')) (hd.av fun a q=>?_)⟩
 cases f with
 |false=>rw[nZ] at q;exact .inl q
 |true=>exact .inr ⟨rfl,W1.gb a q⟩
theorem Ev.draw(e:ρ[i]?=some .ao)(h:Ev G ρ te fun _ x=>∃m:Int,x= .int m/\0<m/\Sm m/\∀r:Int,0<=r->r<m->Φ true (.int r)):Ev G ρ (fq jr [] E0 (aL (bf i) (aL te aX))) Φ:=fun nb σ H Q W z=>by
 obtain⟨b,l,hB,e1,B⟩:=W.wB e
 refine⟨.ref b,e1,h nb σ H _ W fun f v H1 d ⟨m,ed,h1,h2,p⟩ s1 hv=>?_⟩
 subst ed
 exact⟨b,l,m,by rw[hv.cS];rfl,s1.2 b l hB,h1,h2,fun r H' r1 r2 bt B'=>z true _ H' _ (p r r1 r2) (s1.trans (.DU hB bt B')) (.int r)⟩
theorem Ev.prime(e:ρ[i]?=some .ao)(h:∀p:Int,KP p->Φ true (.int p)):Ev G ρ (fq UT [] E0 (aL (bf i) aX)) Φ:=fun nb σ H Q W z=>by
 obtain⟨b,l,hB,e1,B⟩:=W.wB e
 exact⟨.ref b,e1,b,l,rfl,B,fun p H' hp bt B'=>z true _ H' _ (h p hp) (.DU hB bt B') (.int p)⟩
theorem Ev.whole(h:Ev G ρ te fun _ x=>∃n,x= .int n/\Φ true (.bool true)):Ev G ρ (fq T3 [] E0 (aL te aX)) Φ:=fun nb σ H Q W z=>
 h nb σ H _ W fun f v H1 d ⟨n,e,q⟩ s1 hv=>by subst e;exact⟨n,by rw[hv.cS];rfl,z true _ H1 _ q s1 (.bl _)⟩
namespace Gv
variable{Θ:Rh->Prop}
theorem name(h:Θ (ρ.set i (.d f d))):Gv G ρ (gC i) f d Θ:=fun nb σ H v Q W hv z=>z _ _ h (W.u9 hv)
theorem Kf(h:Θ (ρ.set i (.d false d))):Gv G ρ (gC i) f d Θ:=fun nb σ H v Q W hv z=>z _ _ h (W.u9 (hv.av (bX (fun z=>by cases z) fun _ z=>z)))
theorem Cy(hs:gH d=true)(h:Θ (ρ.set i (.d true d))):Gv G ρ (gC i) f d Θ:=fun nb σ H v Q W hv z=>z _ _ h (W.u9 (hv.jE hs))
theorem mR{n:Int}(h:Θ (ρ.set i (.d true (.int n)))):Gv G ρ (gC i) f (.int n) Θ:=Cy rfl h
theorem Er{n:Bool}(h:Θ (ρ.set i (.d true (.bool n)))):Gv G ρ (gC i) f (.bool n) Θ:=Cy rfl h
theorem SS(h:Θ (ρ.set i (.d true .none))):Gv G ρ (gC i) f .none Θ:=Cy rfl h
theorem tup{n:Nat}{u:jh}(hl:ds.length=n)(h:uL G ρ u f ds Θ):Gv G ρ (E3 K n u) f (.tuple ds) Θ:=fun nb σ H v Q W hv z=>by
 obtain⟨a,xs,rfl,m,hx,hd⟩:=hv.ofT
 exact⟨a,xs,rfl, .of hx,by rw[hd.length];exact hl,h nb σ H xs Q W hd z⟩
theorem Vz(h:Θ ρ):uL G ρ Gg f [] Θ:=fun nb σ H vs Q W hv z=>by unfold ah at hv;exact⟨hv,z _ _ h W⟩
theorem Se{u:TG}{us:jh}(h:Gv G ρ u f d fun gM=>uL G gM us f ds Θ):uL G ρ (Lb u us) f (d::ds) Θ:=fun nb σ H vs Q W hv z=>by
 unfold ah at hv
 obtain⟨y,ys,rfl,h1,h2⟩:=hv
 exact⟨y,ys,rfl,h nb σ H y _ W h1 fun σ' ρ' q W'=>q nb σ' H ys Q W' h2 z⟩
end Gv
namespace Sv
variable{E:DE}{s u:TS}
theorem seq(h:Sv G ρ s {E with nx:=fun gM=>Sv G gM u E}):Sv G ρ (oM s u) E:=fun nb σ H D W K=>h nb σ H _ W ⟨fun au ρ' σ' H' q W'=>q au σ' H' D W' K,K.bk,K.ct,K.rt,K.rw⟩
theorem next(h:E.nx ρ):Sv G ρ E4 E:=fun nb σ H D W K=>K.nx nb ρ σ H h W
theorem brk(h:E.bk ρ):Sv G ρ Rt E:=fun nb σ H D W K=>K.bk nb ρ σ H h W
theorem cont(h:E.ct ρ):Sv G ρ VZ E:=fun nb σ H D W K=>K.ct nb ρ σ H h W
theorem asg{g:TG}(h:Ev G ρ te fun f d=>Gv G ρ g f d E.nx):Sv G ρ (i6 te g) E:=fun nb σ H D W K=>h nb σ H _ W fun f v H1 d q s1 hv=>q nb σ H1 v _ (W.step s1) hv fun σ' ρ' p W'=>K.nx nb ρ' σ' H1 p W'
theorem drop(h:Ev G ρ te fun _ _=>E.nx ρ):Sv G ρ (mV te) E:=fun nb σ H D W K=>h nb σ H _ W fun f v H1 d q s1 hv=>K.nx nb ρ σ H1 q (W.step s1)
theorem ret(h:Ev G ρ te E.rt):Sv G ρ (pN te) E:=fun nb σ H D W K=>h nb σ H _ W fun f v H1 d q s1 hv=>K.rt nb ρ σ f v H1 d q (W.step s1) (hv.av (bX (fun z=>z) fun _ z=>z.elim))
theorem jL{c:TT}(h:Tv G ρ c fun b=>if b=true then Sv G ρ s E else Sv G ρ u E):Sv G ρ (qV c s u) E:=fun nb σ H D W K=>h nb σ H _ W fun b H1 q s1=>by
 cases b with
 |true=>rw[if_pos rfl] at q⊢;exact q nb σ H1 D (W.step s1) K
 |false=>rw[if_neg bH] at q⊢;exact q nb σ H1 D (W.step s1) K
theorem Sx{nb:Addr->Prop}{σ:St}{H H1:Hp}{a:Addr}{xs:List V}(W:Wd G nb ρ σ H)(s1:Step G.B H H1)(ha:H a=none)(e:H1 a=some (.lst xs))(hd:ah (fun x=>G.S nb f x\/x=a) H1 ds xs):
    Wd G (fun x=>nb x\/x=a) (ρ.set i (.own a f ds)) (σ.set i (some (.ref a))) H1:=by
  have hN:NB G.B a:=fun b l e z=>by
    subst z
    obtain⟨_,_,_,_,_,h1,_⟩:=W.ao _ _ e
    rw[h1] at ha;cases ha
  have hA:∀f x,G.S (fun x=>nb x\/x=a) f x->(G.S nb f x\/x=a):=fun f x z=>by
    rcases z with (z|z)|z|z|z
    · exact .inl (.inl z)
    · exact .inr z
    · exact .inl (.inr (.inl z))
    · exact .inl (.inr (.inr (.inl z)))
    · exact .inl (.inr (.inr (.inr z)))
  have W1:=W.step s1
  have W2:Wd G (fun x=>nb x\/x=a) ρ σ H1:=by
    refine⟨W1.ao,fun x n=>?_,W1.old,fun x n q=>?_,W.gA,W.len,W.gB,fun h m=>(((W.fT h m).fresh ha).keep (s1.but fun x z=> .inl (.inr (.inr (.inl z))))).av (hA h.1),fun j s e'=>?_,W.apart,W.gV,W.dh⟩
    · rcases n with n|n
      · exact W1.live x n
      · subst n;rw[e];exact g7 _
    · rcases n with n|n
      · exact W.cC x n q
      · subst n
        cases z:G.H0 x with
        |none=>rfl
        |some o=>rw[W.old x o q z] at ha;cases ha
    · obtain⟨x,e1,h⟩:=W.ok j s e'
      refine⟨x,e1,?_⟩
      cases s with
      |no=>trivial
      |d f d=>obtain⟨v,e,h⟩:=h;exact⟨v,e,((h.fresh ha).keep (s1.but fun x z=> .inl (.inr (.inr (.inl z))))).av (hA f)⟩
      |own c f es=>obtain⟨e,n,q,xs,hx,hd⟩:=h;exact⟨e, .inl n,q,xs,s1.1 _ _ q hx,((hd.fresh ha).keep (s1.but fun x z=> .inl (.inr (.inr (.inl z))))).av (hA f)⟩
      |ao=>exact h
      |raw v=>exact h
      |ez c f es=>obtain⟨e,n,q,xs,hx,hd⟩:=h;exact⟨e, .inl n,q,xs,s1.1 _ _ q hx,((hd.fresh ha).keep (s1.but fun x z=> .inl (.inr (.inr (.inl z))))).av (hA f)⟩
      | cu c =>
        obtain⟨e,n,q⟩:=h
        refine⟨e,fun a ha=>⟨.inl (n a ha).1,(n a ha).2⟩,c.av (hA c.f) (c.keep (.of fun x o hx e=>s1.1 x o ?_ e) (c.fresh ha q))⟩
        rcases hx with hx|hx
        · exact jT fun z=>hx (.inl (.inr (.inr (.inl z))))
        · exact(n x hx).2
  refine W2.set ⟨rfl, .inr rfl,hN,xs,e,hd.av (hA f)⟩ ?_ (fun _ _ _ z=>by cases z) (fun x hx j t hj ht hc=>?_)
  rotate_left
  · have hx:x=a:=az.mp hx
    subst hx
    rcases hc with ⟨c,z⟩|⟨c,rfl⟩
    · cases z
    · exact fun z=>W.live x ((W.ok j _ ht).choose_spec.2.2.1 x z).1 ha
  rintro a' f' ds' ⟨rfl,rfl,rfl⟩ j c g cs hj hc z
  subst z
  obtain⟨x,e1,h1,h2,h3,ys,hy,_⟩:=W.ok j _ hc
  rw[hy] at ha;cases ha
theorem Hr(h:aI G ρ te fun f ds=>∀a,E.nx (ρ.set i (.own a f ds))):Sv G ρ (i6 te (gC i)) E:=fun nb σ H D W K=>h nb σ H _ W fun f a xs H1 ds q s1 ha e hd=>K.nx _ _ _ H1 (q a) (Sx W s1 ha e hd)
theorem WY{nb:Addr->Prop}{σ:St}{H:Hp}{a:Addr}{xs:List V}(W:Wd G nb ρ σ H)(e:ρ[i]?=some (.own a f ds))(hd:ah (G.S nb g) H es xs):Wd G nb (ρ.set i (.own a g es)) σ (upd H a (.lst xs)):=by
  obtain⟨x,e1,h1,h2,h3,ys,hy,_⟩:=W.ok i _ e
  subst h1
  have hil:i<ρ.length:=(bh.mp e).1
  have W0:Wd G nb (ρ.set i .no) (σ.set i (some (.ref a))) H:=W.set trivial fun _ _ _ z=>by cases z
  have W1:Wd G nb (ρ.set i .no) (σ.set i (some (.ref a))) (upd H a (.lst xs)):=W0.write h2 h3 (fun j c f' cs hc=>by
    by_cases hij:i=j
    · subst hij;rw[cy hil] at hc;cases hc
    · rw[bA hij] at hc
      exact(W.apart i j _ _ _ _ _ _ hij e hc).symm
   ) (fun j c f' cs hc z => by
      subst z
      have hij:i≠j:=fun z=>by subst z;rw[cy hil] at hc;cases hc
      rw[bA hij] at hc
      obtain⟨_,_,_,_,_,ps,hp,_⟩:=W.ok j _ hc
      rw[hy] at hp;cases hp) (fun j c hc z=>by
      have hij:i≠j:=fun z=>by subst z;rw[cy hil] at hc;cases hc
      rw[bA hij] at hc
      exact W.dh j i c _ (cR hij) hc e a z (az.mpr rfl))
  have W2:=W1.set (i:=i) (s:= .own a g es) (x:=some (.ref a)) ⟨rfl,h2,h3,xs,aQ,hd.keep (aM.set (.inl h2))⟩ (by
    rintro a' f' ds' ⟨rfl,rfl,rfl⟩ j c g' cs hj hc
    rw[bA (cR hj)] at hc
    exact W.apart i j _ _ _ _ _ _ (cR hj) e hc) (fun _ _ _ z=>by cases z) (fun x hx j t hj ht hc z=>by
    rw[bA (cR hj)] at ht
    have hx:x=a:=az.mp hx
    subst hx
    rcases hc with ⟨c,q⟩|⟨c,rfl⟩
    · cases q
    · exact W.dh j i c _ hj ht e x z (az.mpr rfl))
  rw[nc,nc] at W2
  have:σ.set i (some (.ref a))=σ:=by
    apply oW
    intro j
    by_cases hij:i=j
    · subst hij;rw[cy (by rw[W.len];exact hil),e1]
    · rw[bA hij]
  rwa[this] at W2
theorem append{a:Addr}(e:ρ[i]?=some (.own a f ds))(h:Ev G ρ te fun g d=>ds.length<10000/\E.nx (ρ.set i (.own a (f && g) (ds++[d])))):Sv G ρ (mV (oR K "list" Cj (bf i) (aL te aX))) E:=fun nb σ H D W KK=>by
 obtain⟨x,e1,h1,h2,h3,xs,hx,hd⟩:=W.ok i _ e
 subst h1
 refine⟨.ref a,e1, .inl ⟨rfl,_,aS.of hx⟩,h nb σ H _ W fun g v H1 d ⟨hl,q⟩ s1 hv=>?_⟩
 have W1:=W.step s1
 have Hq:=s1.1 _ _ h3 hx
 refine⟨a,xs,v,rfl,rfl,Hq,dM (by rw[hd.length];exact hl) (by decide),KK.nx nb _ _ _ q (WY W1 e ?_)⟩
 exact ah.snoc (hv.av (bX (fun z=>(dN _ _▸z).2) fun _ z=>z)) ((hd.keep s1.fG).av (bX (fun z=>(dN _ _▸z).1) fun _ z=>z))
theorem share{nb:Addr->Prop}{σ:St}{H:Hp}{a:Addr}(W:Wd G nb ρ σ H)(e:ρ[i]?=some (.own a f ds)):Wd G (fun x=>nb x/\x≠a) (ρ.set i (.d f (.list ds))) σ H:=by
  obtain⟨x,e1,h1,h2,h3,xs,hx,hd⟩:=W.ok i _ e
  subst h1
  have hil:i<ρ.length:=(bh.mp e).1
  have W0:Wd G nb (ρ.set i .no) (σ.set i (some (.ref a))) H:=W.set trivial fun _ _ _ z=>by cases z
  have W1:Wd G (fun x=>nb x/\x≠a) (ρ.set i .no) (σ.set i (some (.ref a))) H:=by
    refine⟨W0.ao,fun x n=>W0.live x n.1,W0.old,fun x n=>W0.cC x n.1,W0.gA,W0.len,W0.gB,fun h m=>(W0.fT h m).av (bX (fun z=>z) fun _ z=>z.1),fun j s e'=>?_,W0.apart,W0.gV,W0.dh⟩
    obtain⟨x,lU,h⟩:=W0.ok j s e'
    refine⟨x,lU,?_⟩
    have hij:s≠ .no->i≠j:=fun n z=>by subst z;rw[cy hil] at e';cases e';exact n rfl
    cases s with
    |no=>trivial
    |d f d=>obtain⟨v,e,h⟩:=h;exact⟨v,e,h.av (bX (fun z=>z) fun _ z=>z.1)⟩
    | own c f es =>
      obtain⟨e2,n,q,xs,hx,hd⟩:=h
      have hij:=hij (by intro z;cases z)
      rw[bA hij] at e'
      exact⟨e2,⟨n,(W.apart i j _ _ _ _ _ _ hij e e').symm⟩,q,xs,hx,hd.av (bX (fun z=>z) fun _ z=>z.1)⟩
    |ao=>exact h
    |raw v=>exact h
    | ez c f es =>
      obtain⟨e2,n,q,ps,hp,hd⟩:=h
      have hca:c≠a:=fun z=>by subst z;rw[hx] at hp;cases hp
      exact⟨e2,⟨n,hca⟩,q,ps,hp,hd.av (bX (fun z=>z) fun _ z=>z.1)⟩
    | cu c =>
      obtain⟨e2,n,q⟩:=h
      have hij:=hij (by intro z;cases z)
      rw[bA hij] at e'
      exact⟨e2,fun x hx=>⟨⟨(n x hx).1,fun z=>W.dh j i c _ (cR hij) e' e x hx (by rw[z];exact az.mpr rfl)⟩,(n x hx).2⟩,c.av (bX (fun z=>z) fun _ z=>z.1) q⟩
  have W2:=W1.u9 (i:=i) (f:=f) (d:= .list ds) (v:= .ref a) (.lst (fun z=>by
    rcases z with z|z|z|z
    · exact z.2 rfl
    · exact W.gA a z (W.cC a h2 h3)
    · exact z h3
    · exact z.2 (W.cC a h2 h3)) hx (hd.av (bX (fun z=>z) fun _ z=>z.1)))
  rw[nc,nc] at W2
  have:σ.set i (some (.ref a))=σ:=by
    apply oW
    intro j
    by_cases hij:i=j
    · subst hij;rw[cy (by rw[W.len];exact hil),e1]
    · rw[bA hij]
  rwa[this] at W2
theorem wk{ρ':Rh}(w:Wk ρ' ρ)(h:Sv G ρ' s E):Sv G ρ s E:=fun nb σ H D W K=>h nb σ H D (W.wk w) K
end Sv
end
end L2
set_option maxRecDepth 100000
set_option maxHeartbeats 1000000
namespace L2
open PySem PySem.Spec PyProof.Rows
noncomputable abbrev Gx.hd(G:Gx)(f:Bool)(d:PyData)(v:V):Gx:={G with hold:=(f, .d d,v)::G.hold}
section
variable{G:Gx}{ρ c7:Rh}{Φ Ψ:Pd}{ta tb te:TE}{t:TA}{i:Nat}{f g:Bool}{d e:PyData}{ds es:List PyData}{K:PySem.W.Frag}
theorem Wd.hd{nb:Addr->Prop}{σ:St}{H:Hp}{v:V}(W:Wd G nb ρ σ H)(h:af (G.S nb f) H d v):Wd (G.hd f d v) nb ρ σ H:=
 ⟨W.ao,W.live,W.old,W.cC,W.gA,W.len,W.gB,fun x m=>by
  rcases aA.mp m with e|m
  ·subst e;exact h
  ·exact W.fT x m,fun i s e=>by
   obtain⟨x,e1,h⟩:=W.ok i s e
   refine⟨x,e1,?_⟩
   cases s<;>exact h,W.apart,W.gV,W.dh⟩
theorem Wd.rq{nb:Addr->Prop}{σ:St}{H:Hp}{v:V}(W:Wd (G.hd f d v) nb ρ σ H):Wd G nb ρ σ H/\af (G.S nb f) H d v:=
 ⟨⟨W.ao,W.live,W.old,W.cC,W.gA,W.len,W.gB,fun x m=>W.fT x (bJ _ m),fun i s e=>by
   obtain⟨x,e1,h⟩:=W.ok i s e
   refine⟨x,e1,?_⟩
   cases s<;>exact h,W.apart,W.gV,W.dh⟩,W.fT _ (bT ..)⟩
namespace Sv
variable{E:DE}{s:TS}{gt:TG}
noncomputable def BX(G:Gx)(ρ:Rh)(n:Nat)(it:Nat->PyData->Prop)(fi:Bool)(gt:TG)(s:TS)(E:DE):Prop:=
 ∃I:Nat->Rh->Prop,I 0 ρ/\(∀i d ρ',it i d->I i ρ'->Gv G ρ' gt fi d fun jN=>Sv G jN s {nx:=I (i+1),rt:=E.rt,bk:=E.nx,ct:=I (i+1),rw:=E.rw})/\∀ρ',I n ρ'->E.nx ρ'
theorem RH{lo:Int}{n:Nat}{nb:Addr->Prop}{σ:St}{H:Hp}{D:Ends}(W:Wd G nb ρ σ H)(KK:Dp G E D)(h:BX G ρ n (fun i d=>i<n/\d= .int (lo+i)) true gt s E):
  ∃W:Nat->Nat->St->Hp->Prop,(∃m,W 0 m σ H)/\∀i m σ H,W i m σ H->
   ((ji lo n).stop i H/\D.nx σ H)\/((ji lo n).go i H/\∃N:St->Hp->Prop,(∀σ' H',N σ' H'->∃m',m'<m/\W (i+1) m' σ' H')/\∀x H',(ji lo n).n6 i H x H'->gt x σ H' fun σ2 H2=>s {D with nx:=N,ct:=N,bk:=D.nx} σ2 H2):=by
 obtain⟨I,h0,ht,he⟩:=h
 refine Nh (fun i σ H=>∃nb ρ',I i ρ'/\Wd G nb ρ' σ H) ⟨nb,ρ,h0,W⟩ ?_ ?_
 ·rintro i σ H hi ⟨nb,ρ',hI,W⟩
  refine ht i _ ρ' ⟨hi,rfl⟩ hI nb σ H _ _ W (.int _) fun σ2 jN q W2=>q nb σ2 H _ W2 ?_
  exact⟨fun nb ρ σ H q W=>⟨nb,ρ,q,W⟩,KK.nx,fun nb ρ σ H q W=>⟨nb,ρ,q,W⟩,KK.rt,KK.rw⟩
 ·rintro σ H ⟨nb,ρ',hI,W⟩
  exact KK.nx nb ρ' σ H (he ρ' hI) W
theorem RO(h:Ev G ρ te fun _ x=>∃n:Int,x= .int n/\ -(2^62)<=n/\n<2^62/\BX G ρ n.toNat (fun i d=>i<n.toNat/\d= .int (0+i)) true gt s E):Sv G ρ (wg (vH (aL te aX)) gt s) E:=fun nb σ H D W KK=>
 h nb σ H _ W fun f v H1 x ⟨n,ex,h1,h2,q⟩ s1 hv=>by
  subst ex
  rw[hv.cS]
  exact⟨n,rfl,h1,h2,RH (W.step s1) KK q⟩
theorem forL(h:Ev G ρ te fun f x=>∃ds,x= .list ds/\∀v,BX (G.hd f (.list ds) v) ρ ds.length (fun i d=>ds[i]?=some d) f gt s E):Sv G ρ (wg (vc K te) gt s) E:=fun nb σ H D W KK=>
 h nb σ H _ W fun f v H1 x ⟨ds,ex,q⟩ s1 hv=>by
  subst ex
  obtain⟨I,h0,ht,he⟩:=q v
  have W1:=(W.step s1).hd hv
  obtain⟨a,xs,rfl,n,hx,hd⟩:=hv.gF
  have key:∀{nb ρ' σ H},Wd (G.hd f (.list ds) (.ref a)) nb ρ' σ H->∃xs,H a=some (.lst xs)/\ah (G.S nb f) H ds xs:=fun W=>by
   obtain⟨a',xs',e',_,h',d'⟩:=W.rq.2.gF
   cases e'
   exact⟨xs',h',d'⟩
  refine⟨a,rfl,⟨xs, .of hx⟩,?_⟩
  refine⟨fun i m σ H=>m=ds.length-i/\i<=ds.length/\∃nb ρ',I i ρ'/\Wd (G.hd f (.list ds) (.ref a)) nb ρ' σ H,⟨ds.length,by simp,eU _,nb,ρ,h0,W1⟩,?_⟩
  rintro i m σ H ⟨rfl,hi,nb,ρ',hI,W⟩
  obtain⟨ys,hy,hD⟩:=key W
  have hl:=hD.length
  by_cases hlt:i<ds.length
  ·refine .inr ⟨⟨ys,ys[i]'(by walk_at "o"), .of hy,bE _⟩,fun σ H=>∃nb ρ',I (i+1) ρ'/\Wd (G.hd f (.list ds) (.ref a)) nb ρ' σ H,fun σ' H' q=>⟨ds.length-(i+1),by walk_at "o",rfl,hlt,q⟩,fun x H' y=>?_⟩
   obtain⟨e,y⟩:=y
   subst e
   have hx:=y ys (.of hy)
   obtain⟨x',hx',dx⟩:=hD.get (bE hlt)
   rw[hx] at hx';cases hx'
   refine ht i _ ρ' (bE hlt) hI nb σ _ _ _ W dx fun σ2 jN q W2=>q nb σ2 _ _ W2 ?_
   exact⟨fun nb ρ σ H q W=>⟨nb,ρ,q,W⟩,fun nb ρ σ H q W=>KK.nx nb ρ σ H q W.rq.1,fun nb ρ σ H q W=>⟨nb,ρ,q,W⟩,fun nb ρ σ f v H d q W hv=>KK.rt nb ρ σ f v H d q W.rq.1 hv,fun nb ρ σ v H q W=>KK.rw nb ρ σ v H q W.rq.1⟩
  ·have e:i=ds.length:=by walk_at "o"
   subst e
   exact .inl ⟨⟨ys, .of hy,by walk_at "o"⟩,KK.nx nb ρ' σ H (he ρ' hI) W.rq.1⟩
end Sv
noncomputable def nO(mp:List (Option Nat))(ρ:Rh):Rh:=mp.map fun o=>match o with|none=> .no|some j=>match ρ[j]? with|some s=>s|none=> .no
theorem EV{mp:List (Option Nat)}(h:(mp.filterMap id).Nodup):∀{i j k:Nat},mp[i]?=some (some k)->mp[j]?=some (some k)->i=j:=by
  induction mp with
  |nil=>intro i j k e;simp at e
  | cons o r ih =>
    intro i j k e1 e2
    have hr:(r.filterMap id).Nodup:=by
      cases o with
      |none=>simpa using h
      |some x=>rw[wY (by rfl)] at h;exact(fW.mp h).2
    have hn:∀{m:Nat},r[m]?=some (some k)->o≠some k:=fun{m} hm e=>by
      subst e
      rw[wY (by rfl)] at h
      exact(fW.mp h).1 (u0.mpr ⟨some k,iQ hm,rfl⟩)
    cases i with
    | zero =>
      cases j with
      |zero=>rfl
      |succ j=>simp at e1 e2;exact absurd e1 (hn e2)
    | succ i =>
      cases j with
      |zero=>simp at e1 e2;exact absurd e2 (hn e1)
      |succ j=>simp at e1 e2;rw[ih hr e1 e2]
theorem Wd.iw{nb:Addr->Prop}{σ:St}{H:Hp}{mp:List (Option Nat)}(W:Wd G nb ρ σ H)(hm:(mp.filterMap id).Nodup):Wd G nb (nO mp ρ) (iw mp σ) H:=by
  have hat:∀{i:Nat} {s:Sl},(nO mp ρ)[i]?=some s->s= .no\/∃k,mp[i]?=some (some k)/\ρ[k]?=some s:=fun{i s} e=>by
    unfold nO at e
    rw[dG] at e
    obtain⟨o,ho,e⟩:=ow.mp e
    cases o with
    |none=>exact .inl e.symm
    | some k =>
      cases hk:ρ[k]? with
      |none=>simp only[hk] at e;exact .inl e.symm
      |some s'=>simp only[hk] at e;subst e;exact .inr ⟨k,ho,hk⟩
  refine⟨W.ao,W.live,W.old,W.cC,W.gA,by unfold L2.iw nO;rw[ay,ay],W.gB,W.fT,fun i s e=>?_,fun i j a f as c g cs hij e1 e2=>?_,fun i j a f as c g cs hij e1 e2=>?_,fun i j c t hij e1 e2 a ha=>?_⟩
  · have hi:i<mp.length:=by have:=(bh.mp e).1;unfold nO at this;rwa[ay] at this
    rcases hat e with rfl|⟨k,hk,hs⟩
    · exact⟨_,by unfold L2.iw;rw[dG,bE hi];rfl,trivial⟩
    · obtain⟨x,e1,h⟩:=W.ok k s hs
      refine⟨x,?_,h⟩
      unfold L2.iw
      rw[dG,hk]
      simp only[Option.map_some,e1]
  · rcases hat e1 with z|⟨k,hk,hs⟩
    · cases z
    rcases hat e2 with z|⟨k',hk',hs'⟩
    · cases z
    exact W.apart k k' a f as c g cs (fun z=>by subst z;exact hij (EV hm hk hk')) hs hs'
  · rcases hat e1 with z|⟨k,hk,hs⟩
    · cases z
    rcases hat e2 with z|⟨k',hk',hs'⟩
    · cases z
    exact W.gV k k' a f as c g cs (fun z=>by subst z;exact hij (EV hm hk hk')) hs hs'
  · rcases hat e1 with z|⟨k,hk,hs⟩
    · cases z
    rcases hat e2 with z|⟨k',hk',hs'⟩
    · subst z;exact fun z=>by cases z
    exact W.dh k k' c t (fun z=>by subst z;exact hij (EV hm hk hk')) hs hs' a ha
noncomputable def Lf(ρ:Rh)(acc:Addr):Prop:=(∀(j:Nat) a f ds,ρ[j]?=some (.own a f ds)->a≠acc)/\∀(j:Nat) c,ρ[j]?=some (.cu c)->acc∉c.F
noncomputable def lu(G:Gx)(c7:Rh)(n:Nat)(it:Nat->PyData->Prop)(fi:Bool)(gt:TG)(tc:TT)(te:TE)(Θ:Bool->List PyData->Prop):Prop:=
 ∃(fl:Bool) (I:Nat->List PyData->Prop),I 0 []/\(∀i d ds,it i d->ds.length<=i->I i ds->Gv G c7 gt fi d fun gM=>Wk c7 gM/\Tv G gM tc fun b=>if b=true then Ev G gM te fun f e=>(fl=true->f=true)/\I (i+1) (ds++[e]) else I (i+1) ds)/\
  ∀ds,ds.length<=n->I n ds->Θ (fl||fF ds) ds
theorem LL{gt:TG}{tc:TT}{nb:Addr->Prop}{acc:Addr}{σ:St}{H H1:Hp}{x:V}{fi fl:Bool}{I:Nat->List PyData->Prop}{xs:List V}{N:St->Hp->Prop}{ds:List PyData}{n:Nat}(hn:n<=10000)(hi:i<n)
    (W:Wd G nb c7 σ H) (ha:nb acc) (hN:NB G.B acc) (hno:Lf c7 acc) (st:Step G.B H1 H) (hacc:H1 acc=none) (hx:H acc=some (.lst xs)) (hd:ah (G.S nb fl) H ds xs) (hl:ds.length<=i) (hxd:af (G.S nb fi) H d x)
    (h:Gv G c7 gt fi d fun gM=>Wk c7 gM/\Tv G gM tc fun b=>if b=true then Ev G gM te fun f e=>(fl=true->f=true)/\I (i+1) (ds++[e]) else I (i+1) ds)
    (z:∀σ' H' ds' xs',Wd G nb c7 σ' H'->Step G.B H1 H'->H' acc=some (.lst xs')->ah (G.S nb fl) H' ds' xs'->ds'.length<=i+1->I (i+1) ds'->N σ' H'):
    gt x σ H fun σ2 H2=>tc σ2 H2 fun b H3=>if b=true then te σ2 H3 fun v H4=>∃ys,H4 acc=some (.lst ys)/\ys.length<sizeLine/\N σ2 (upd H4 acc (.lst (ys++[v]))) else N σ2 H3:=by
  refine h nb σ H x _ W hxd fun σ2 gM ⟨wk,q⟩ W2=>q nb σ2 H _ W2 fun b H3 q3 s3=>?_
  have GK:=s3.1 _ _ hN hx
  have Hv:=hd.keep (s3.fG (nb:=nb) (f:=fl))
  cases b with
  | false =>
    rw[if_neg bH] at q3⊢
    exact z σ2 H3 ds xs ((W2.step s3).wk wk) (st.trans s3) GK Hv (by walk_at "o") q3
  | true =>
    rw[if_pos rfl] at q3⊢
    refine q3 nb σ2 H3 _ (W2.step s3) fun f v H4 e ⟨hf,hI⟩ s4 hv=>?_
    have JS:=s4.1 _ _ hN GK
    have Oa:=Hv.keep (s4.fG (nb:=nb) (f:=fl))
    have hlen:=hd.length
    refine⟨xs,JS,dM (show xs.length<10001 by walk_at "o") (by decide),?_⟩
    have W4:Wd G nb c7 σ2 H4:=((W2.step s3).step s4).wk wk
    have bt:aM (G.S nb fl) H4 (upd H4 acc (.lst (xs++[v]))):=aM.set (.inl ha)
    have W5:Wd G nb c7 σ2 (upd H4 acc (.lst (xs++[v]))):=W4.write ha hN hno.1 (fun j a f ds e z=>by
      subst z
      obtain⟨_,_,_,_,_,ps,hp,_⟩:=W4.ok j _ e
      rw[JS] at hp;cases hp) hno.2
    refine z σ2 _ (ds++[e]) (xs++[v]) W5 ⟨fun a o n q=>?_,W5.ao⟩ aQ (ah.snoc ((hv.av (bX hf fun _ z=>z)).keep bt) (Oa.keep bt)) (by rw[fu,lV];walk_at "o") hI
    have hne:a≠acc:=fun z=>by subst z;rw[hacc] at q;cases q
    rw[aT hne]
    exact(st.trans (s3.trans s4)).1 a o n q
theorem FW{nb:Addr->Prop}{σ:St}{H:Hp}{a:Addr}(W:Wd G nb ρ σ H)(ha:H a=none):Lf ρ a:=by
 refine⟨fun j c f ds e z=>?_,fun j c e z=>?_⟩
 ·subst z
  obtain⟨x,e1,h1,h2,h3,ys,hy,_⟩:=W.ok j _ e
  rw[hy] at ha;cases ha
 ·obtain⟨x,e1,h1,h2,h3⟩:=W.ok j _ e
  exact W.live a (h2 a z).1 ha
theorem VI{nb:Addr->Prop}{a:Addr}{f:Bool}:∀x,(G.S nb f x\/x=a)->G.S (fun x=>nb x\/x=a) f x:=fun x z=>by
 rcases z with (z|z|z|z)|z
 ·exact .inl (.inl z)
 ·exact .inr (.inl z)
 ·exact .inr (.inr (.inl z))
 ·exact .inr (.inr (.inr z))
 ·exact .inl (.inr z)
theorem JO{nb:Addr->Prop}{acc:Addr}{H H1 H':Hp}{σ:St}{Q:VK}{Θ:Bool->List PyData->Prop}{xs:List V}{ds:List PyData}{fl:Bool}(W:Wd G nb ρ σ H)(s1:Step G.B H H1)(hacc:H1 acc=none)(s2:Step G.B H1 H')(hx:H' acc=some (.lst xs))(hd:ah (G.S (fun x=>nb x\/x=acc) fl) H' ds xs)(p:Θ (fl||fF ds) ds)
  (z:∀f a xs H' ds,Θ f ds->Step G.B H H'->H a=none->H' a=some (.lst xs)->ah (fun x=>G.S nb f x\/x=a) H' ds xs->Q (.ref a) H'):Q (.ref acc) H':=by
 refine z _ acc xs H' ds p (s1.trans s2) (W.none_of s1 hacc) hx ?_
 cases hs:fF ds with
 |true=>exact ah.jE hs hd
 |false=>rw[oH];exact hd.av VI
theorem NB.new{B:Bg}{H:Hp}{a:Addr}(h:jv B H)(ha:H a=none):NB B a:=jT fun z=>NB.kM h z ha
namespace aI
variable{Θ:Bool->List PyData->Prop}{gt:TG}{tc:TT}{mp:List (Option Nat)}
theorem OI{lo:Int}{n:Nat}{nb:Addr->Prop}{σ:St}{H H1:Hp}{Q:VK}(W:Wd G nb ρ σ H)(s1:Step G.B H H1)(hm:(mp.filterMap id).Nodup)(bQ:nO mp ρ=c7)(hn:n<=10000)(h:lu G c7 n (fun i d=>i<n/\d= .int (lo+i)) true gt tc te Θ)
  (z:∀f a xs H' ds,Θ f ds->Step G.B H H'->H a=none->H' a=some (.lst xs)->ah (fun x=>G.S nb f x\/x=a) H' ds xs->Q (.ref a) H') (acc:Addr) (hacc:H1 acc=none):tX (ji lo n) gt tc te acc (fun H'=>Q (.ref acc) H') (iw mp σ) (upd H1 acc (.lst [])):=by
 obtain⟨fl,I,h0,ht,he⟩:=h
 have W0:Wd G nb c7 (L2.iw mp σ) H1:=by rw[<-bQ];exact(W.step s1).iw hm
 have W1:=W0.more hacc (o:= .lst [])
 have hN:=NB.new s1.2 hacc
 have hno:=FW W0 hacc
 have dO:Step G.B H1 (upd H1 acc (.lst [])):= .same s1.2 (cE hacc)
 refine R.La (fun i σ H=>∃ds xs,Wd G (fun x=>nb x\/x=acc) c7 σ H/\Step G.B H1 H/\H acc=some (.lst xs)/\ah (G.S (fun x=>nb x\/x=acc) fl) H ds xs/\ds.length<=i/\I i ds) ⟨[],[],W1,dO,aQ, .nil,aE _,h0⟩ ?_ ?_
 ·rintro i σ H hi ⟨ds,xs,W,st,hx,hd,hl,hI⟩
  exact LL hn hi W (.inr rfl) hN hno st hacc hx hd hl (.int _) (ht i _ ds ⟨hi,rfl⟩ hl hI) fun σ' H' ds' xs' W' st' hx' hd' hl' hI'=>⟨ds',xs',W',st',hx',hd',hl',hI'⟩
 ·rintro σ H' ⟨ds,xs,W',st,hx,hd,hl,hI⟩
  exact JO W s1 hacc st hx hd (he ds hl hI) z
theorem o8{t0:TE}(hm:(mp.filterMap id).Nodup)(bQ:nO mp ρ=c7)(h:Ev G ρ t0 fun _ x=>∃n:Int,x= .int n/\ -10000<=n/\n<=10000/\lu G c7 n.toNat (fun i d=>i<n.toNat/\d= .int (0+i)) true gt tc te Θ):aI G ρ (rD (vH (aL t0 aX)) gt tc te mp) Θ:=fun nb σ H Q W z=>
 h nb σ H _ W fun f v H1 x ⟨n,ex,h1,h2,q⟩ s1 hv=>by
  subst ex
  rw[hv.cS]
  exact⟨n,rfl,by walk_at "o",by walk_at "o",OI W s1 hm bQ (by walk_at "o") q z⟩
theorem OM{t0:TE}(hm:(mp.filterMap id).Nodup)(bQ:nO mp ρ=c7)(h:Ev G ρ t0 fun fi x=>∃es,x= .list es/\es.length<=10000/\∀v,lu (G.hd fi (.list es) v) c7 es.length (fun i d=>es[i]?=some d) fi gt tc te Θ):aI G ρ (rD (vc K t0) gt tc te mp) Θ:=fun nb σ H Q W z=>
 h nb σ H _ W fun fi v H1 x ⟨es,ex,hn,q⟩ s1 hv=>by
  subst ex
  obtain⟨fl,I,h0,ht,he⟩:=q v
  have W0:=(W.step s1).hd hv
  obtain⟨a,xs,rfl,n,hx,hd⟩:=hv.gF
  refine⟨a,rfl,⟨xs, .of hx⟩,fun acc hacc=>?_⟩
  have Km:Wd (G.hd fi (.list es) (.ref a)) nb c7 (L2.iw mp σ) H1:=by rw[<-bQ];exact W0.iw hm
  have W1:=Km.more hacc (o:= .lst [])
  have hN:=NB.new s1.2 hacc
  have hno:=FW Km hacc
  have dO:Step G.B H1 (upd H1 acc (.lst [])):= .same s1.2 (cE hacc)
  have yb:NB G.B a:=jT fun z=>n (.inr (.inr (.inl z)))
  refine R.M3 (xs:=xs) (fun i σ H=>∃ds ys,Wd (G.hd fi (.list es) (.ref a)) (fun x=>nb x\/x=acc) c7 σ H/\Step G.B H1 H/\H acc=some (.lst ys)/\ah (G.S (fun x=>nb x\/x=acc) fl) H ds ys/\ds.length<=i/\I i ds) ⟨[],[],W1,dO,aQ, .nil,aE _,h0⟩ ?_ ?_ ?_
  ·rintro i σ H hi ⟨ds,ys,W,st,_⟩
   exact .of (st.1 _ _ yb hx)
  ·rintro i x σ H hi ⟨ds,ys,W,st,hy,hd',hl,hI⟩
   obtain⟨a',xs',e',_,h',d'⟩:=W.rq.2.gF
   cases e'
   rw[st.1 _ _ yb hx] at h';cases h'
   have hil:i<es.length:=by have:=(bh.mp hi).1;have:=d'.length;walk_at "o"
   obtain⟨x',hx',dx⟩:=d'.get (bE hil)
   rw[hi] at hx';cases hx'
   exact LL (G:=G.hd fi (.list es) (.ref a)) hn hil W (.inr rfl) hN hno st hacc hy hd' hl dx (ht i _ ds (bE hil) hl hI) fun σ' H' ds' xs' W' st' hx' hd' hl' hI'=>⟨ds',xs',W',st',hx',hd',hl',hI'⟩
  ·rintro σ H' ⟨ds,ys,W',st,hy,hd',hl,hI⟩
   rw[hd.length] at hl hI
   exact JO W s1 hacc st hy hd' (he ds hl hI) z
end aI
end
end L2
set_option maxRecDepth 100000
set_option maxHeartbeats 1000000
namespace L2
open PySem PySem.Spec PyProof.Rows
section
variable{ρ:Rh}{t:TS}{N:List Str}{vs:List V}{ds:List PyData}{nb:Addr->Prop}{H:Hp}{Q:VK}{Φ:Pd}{b l:Addr}
theorem jS{xs:List V}(h:ah nb H ds xs){i:Nat}{s:Sl}(e:(ds.map (Sl.d false))[i]?=some s):∃v d,xs[i]?=some v/\s= .d false d/\af nb H d v:=by
 rw[dG] at e
 obtain⟨d,hd,e⟩:=ow.mp e
 obtain⟨v,hv,q⟩:=h.get hd
 exact⟨v,d,hv,e.symm,q⟩
theorem Sv.yF(hl:dX nb H)(hd:ah nb H ds vs)(aC:∀f d v H',Φ f d->bu H H'->af (fun a=>nb a\/(f=true/\H a≠none)) H' d v->Q v H')
  (bQ:ρ=ds.map (Sl.d false)++List.replicate (N.length-ds.length) .no) (h:Sv ⟨none,H,nb,[]⟩ ρ t {nx:=fun _=>Φ true .none,rt:=Φ}):t {nx:=fun _ H'=>Q .aB H',rt:=Q} (start N vs) H:=by
 have hlen:=hd.length
 have sm:∀{au ρ' σ' H'},Wd ⟨none,H,nb,[]⟩ au ρ' σ' H'->bu H H':=fun W a o e=>W.old a o (fun _ _ z=>(by cases z)) e
 refine h (fun _=>False) _ H _ ⟨fun _ _ z=>(by cases z),fun _ z=>z.elim,fun _ _ _ e=>e,fun _ z=>z.elim,hl,?_,fun _ _ z=>(by cases z),fun _ m=>(by cases m),fun i s e=>?_,?_,?_,?_⟩ ⟨fun au ρ' σ' H' q W=>aC _ _ _ _ q (sm W) .aB,fun _ _ _ _ q _=>q.elim,fun _ _ _ _ q _=>q.elim,fun au ρ' σ' f v H' d q W hv=>aC f d v H' q (sm W) (hv.av fun a z=>?_),fun _ _ _ _ _ q _=>q.elim⟩
 ·rw[bQ];unfold start;simp[hlen]
 ·rw[bQ] at e
  unfold start
  by_cases hi:i<ds.length
  ·rw[dz (by rw[ay];exact hi)] at e
   obtain⟨v,d,hv,rfl,q⟩:=jS hd e
   refine⟨some v,?_,v,rfl,q.av fun a z=>?_⟩
   ·rw[dz (by rw[ay,hlen];exact hi),dG,hv];rfl
   ·rcases z with z|z|z|z
    ·exact z.elim
    ·exact z
    ·exact absurd (fun _ _ z=>(by cases z)) z
    ·cases z.1
  ·rw[dP (by rw[ay];walk_at "o"),dj] at e
   split at e
   ·rename_i h'
    cases e
    refine⟨none,?_,trivial⟩
    rw[ay] at h'
    rw[dP (by rw[ay];walk_at "o"),dj,if_pos (by rw[ay,hlen];exact h')]
   ·cases e
 ·intro i j a f as c g cs hij e1
  rw[bQ] at e1
  by_cases hi:i<ds.length
  ·rw[dz (by rw[ay];exact hi)] at e1
   obtain⟨_,_,_,z,_⟩:=jS hd e1
   cases z
  ·rw[dP (by rw[ay];walk_at "o"),dj] at e1
   split at e1<;>cases e1
 ·intro i j a f as c g cs hij e1
  rw[bQ] at e1
  by_cases hi:i<ds.length
  ·rw[dz (by rw[ay];exact hi)] at e1
   obtain⟨_,_,_,z,_⟩:=jS hd e1
   cases z
  ·rw[dP (by rw[ay];walk_at "o"),dj] at e1
   split at e1<;>cases e1
 ·intro i j c t hij e1
  rw[bQ] at e1
  by_cases hi:i<ds.length
  ·rw[dz (by rw[ay];exact hi)] at e1
   obtain⟨_,_,_,z,_⟩:=jS hd e1
   cases z
  ·rw[dP (by rw[ay];walk_at "o"),dj] at e1
   split at e1<;>cases e1
 ·rcases z with z|z
  ·exact .inr (.inl z)
  ·exact .inr (.inr (.inr z))
theorem Sv.rV(hB:cU H b l)(hl:dX nb H)(hb:nb b)(hd:ah nb H ds vs)(aC:∀f d v H',Φ f d->aM (Nb b) H H'->cU H' b l->af (fun a=>nb a\/(f=true/\H a≠none)) H' d v->Q v H')
    (bQ:ρ= .ao::ds.map (Sl.d false)++List.replicate (N.length-(ds.length+1)) .no) (h:Sv ⟨some (b,l),H,nb,[]⟩ ρ t {nx:=fun _=>Φ true .none,rt:=Φ}):t {nx:=fun _ H'=>Q .aB H',rt:=Q} (start N (.ref b::vs)) H:=by
  have hlen:=hd.length
  have gR:∀a,a≠b->NB (some (b,l)) a:=fun a n b' l' e=>by cases e;exact n
  have Xy:∀a,¬NB (some (b,l)) a->a=b:=fun a n=>jT fun z=>n (gR a z)
  have bt:∀{au ρ' σ' H'},Wd ⟨some (b,l),H,nb,[]⟩ au ρ' σ' H'->aM (Nb b) H H':=fun W a o n e=>W.old a o (gR a n) e
  have bg:∀{au ρ' σ' H'},Wd ⟨some (b,l),H,nb,[]⟩ au ρ' σ' H'->cU H' b l:=fun W=>W.ao b l rfl
  refine h (fun _=>False) _ H _ ⟨fun b' l' e=>(by cases e;exact hB),fun _ z=>z.elim,fun _ _ _ e=>e,fun _ z=>z.elim,hl,?_,fun b' l' e=>(by cases e;exact hB),fun _ m=>(by cases m),fun i s e=>?_,?_,?_,?_⟩ ⟨fun au ρ' σ' H' q W=>aC _ _ _ _ q (bt W) (bg W) .aB,fun _ _ _ _ q _=>q.elim,fun _ _ _ _ q _=>q.elim,fun au ρ' σ' f v H' d q W hv=>aC f d v H' q (bt W) (bg W) (hv.av fun a z=>?_),fun _ _ _ _ _ q _=>q.elim⟩
  · rw[bQ];unfold start;simp[hlen]
  · rw[bQ] at e
    unfold start
    cases i with
    |zero=>simp at e;subst e;exact⟨some (.ref b),by simp,b,l,rfl,rfl⟩
    | succ i =>
      simp only[jk,i8,bx,bw] at e⊢
      by_cases hi:i<ds.length
      · rw[dz (by rw[ay];exact hi)] at e
        obtain⟨v,d,hv,rfl,q⟩:=jS hd e
        refine⟨some v,?_,v,rfl,q.av fun a z=>?_⟩
        · rw[dz (by rw[ay,hlen];exact hi),dG,hv];rfl
        · rcases z with z|z|z|z
          · exact z.elim
          · exact z
          · rw[Xy a z];exact hb
          · cases z.1
      · rw[dP (by rw[ay];walk_at "o"),dj] at e
        split at e
        · rename_i h'
          cases e
          refine⟨none,?_,trivial⟩
          rw[ay] at h'
          rw[dP (by rw[ay];walk_at "o"),dj,if_pos (by rw[ay,hlen];exact h')]
        · cases e
  · intro i j a f as c g cs hij e1
    rw[bQ] at e1
    cases i with
    |zero=>simp at e1
    | succ i =>
      simp only[jk,i8] at e1
      by_cases hi:i<ds.length
      · rw[dz (by rw[ay];exact hi)] at e1
        obtain⟨_,_,_,z,_⟩:=jS hd e1
        cases z
      · rw[dP (by rw[ay];walk_at "o"),dj] at e1
        split at e1<;>cases e1
  · intro i j a f as c g cs hij e1
    rw[bQ] at e1
    cases i with
    |zero=>simp at e1
    | succ i =>
      simp only[jk,i8] at e1
      by_cases hi:i<ds.length
      · rw[dz (by rw[ay];exact hi)] at e1
        obtain⟨_,_,_,z,_⟩:=jS hd e1
        cases z
      · rw[dP (by rw[ay];walk_at "o"),dj] at e1
        split at e1<;>cases e1
  · intro i j c t hij e1
    rw[bQ] at e1
    cases i with
    |zero=>simp at e1
    | succ i =>
      simp only[jk,i8] at e1
      by_cases hi:i<ds.length
      · rw[dz (by rw[ay];exact hi)] at e1
        obtain⟨_,_,_,z,_⟩:=jS hd e1
        cases z
      · rw[dP (by rw[ay];walk_at "o"),dj] at e1
        split at e1<;>cases e1
  · rcases z with z|z
    · exact .inr (.inl z)
    · exact .inr (.inr (.inr z))
noncomputable def B5(b l:Addr)(H:Hp):Gx:=⟨some (b,l),H,fun _=>False,[]⟩
theorem XE{a:Addr}{m:Nat}(hB:cU H b l):Wd (B5 b l H) (fun _=>False) (.raw (.ref a):: .ao::List.replicate m .no) (some (.ref a)::some (.ref b)::List.replicate m none) H:=by
  refine⟨fun b' l' e=>(by cases e;exact hB),fun _ z=>z.elim,fun _ _ _ e=>e,fun _ z=>z.elim,fun _ z=>z.elim,by simp,fun b' l' e=>(by cases e;exact hB),fun _ m=>(by cases m),fun i s e=>?_,?_,?_,?_⟩
  · match i with
    |0=>simp at e;subst e;exact⟨_,rfl,rfl⟩
    |1=>simp at e;subst e;exact⟨some (.ref b),rfl,b,l,rfl,rfl⟩
    | i + 2 =>
      simp only[i8,dj] at e⊢
      split at e
      · rename_i h;cases e;exact⟨none,if_pos h,trivial⟩
      · cases e
  · intro i j a f as c g cs hij e1
    match i with
    |0=>simp at e1
    |1=>simp at e1
    | i + 2 =>
      simp only[i8,dj] at e1
      split at e1<;>cases e1
  · intro i j a f as c g cs hij e1
    match i with
    |0=>simp at e1
    |1=>simp at e1
    | i + 2 =>
      simp only[i8,dj] at e1
      split at e1<;>cases e1
  · intro i j c t hij e1
    match i with
    |0=>simp at e1
    |1=>simp at e1
    | i + 2 =>
      simp only[i8,dj] at e1
      split at e1<;>cases e1
theorem Ev.OJ{G:Gx}{i:Nat}{a:Addr}{ns:List Int}{K:PySem.W.Frag}(e:ρ[i]?=some (.raw (.ref a)))(hS:aS K G.H0 a (ns.map V.int))(h:Φ true (.int ns.length)):Ev G ρ (eY (kH K) (aL (bf i) aX)) Φ:=fun nb σ H Q W z=>by
 obtain⟨x,e1,h1⟩:=W.ok i _ e
 have h1:x=some (.ref a):=h1
 subst h1
 have hS':aS K H a (ns.map V.int):=by
  rcases hS with hr|hk
  ·have hn:NB G.B a:=fun b l hb z=>by
    subst z
    obtain⟨_,_,_,_,_,g1,_⟩:=W.gB _ _ hb
    rcases hr with hr|⟨o,hr⟩
    ·rw[g1] at hr
     have:=HO.lst.inj (iM hr)
     cases ns with
     |nil=>cases this
     |cons n r=>rw[bx] at this;cases (List.cons.inj this).1
    ·rw[g1] at hr;cases hr
   rcases hr with hr|⟨o,hr⟩
   ·exact .inl (.inl (W.old _ _ hn hr))
   ·exact .inl (.inr ⟨o,W.old _ _ hn hr⟩)
  ·exact .inr hk
 refine⟨.ref a,e1,a,_,rfl, .inl hS',?_⟩
 rw[ay]
 exact z true _ H _ h (.refl W.ao) (.int _)
theorem RP{D:Ends}(h2:∀H,D.rt (.bl true) H):Dp (B5 b l H) {nx:=fun _=>False,rt:=fun _ d=>d= .bool true} D:=
 ⟨fun _ _ _ _ q _=>q.elim,fun _ _ _ _ q _=>q.elim,fun _ _ _ _ q _=>q.elim,fun _ _ _ f v H d q _ hv=>by subst q;unfold af at hv;subst hv;exact h2 H,fun _ _ _ _ _ q _=>q.elim⟩
end
namespace R
theorem di{P:Int->Prop}{i:Int}(h:P i):∃j,PyData.int i= .int j/\P j:=⟨i,rfl,h⟩
theorem db{P:Bool->Prop}{i:Bool}(h:P i):∃j,PyData.bool i= .bool j/\P j:=⟨i,rfl,h⟩
theorem dl{P:List PyData->Prop}{i:List PyData}(h:P i):∃j,PyData.list i= .list j/\P j:=⟨i,rfl,h⟩
theorem dt{P:List PyData->Prop}{i:List PyData}(h:P i):∃j,PyData.tuple i= .tuple j/\P j:=⟨i,rfl,h⟩
theorem YT{P:List PyData->Prop}{i:List PyData}(h:P i):∃j,(PyData.list i= .list j\/PyData.list i= .tuple j)/\P j:=⟨i, .inl rfl,h⟩
theorem Sn{P:List PyData->Prop}{i:List PyData}(h:P i):∃j,(PyData.tuple i= .list j\/PyData.tuple i= .tuple j)/\P j:=⟨i, .inr rfl,h⟩
theorem Yp{P:Bool->Prop}{i j:Int}(h:P (decide (i=j))):∃b,gZ (.int i) (.int j) b/\P b:=⟨_, .ii i j,h⟩
theorem Uu{P:Bool->Prop}{x y:Bool}(h:P (x==y)):∃b,gZ (.bool x) (.bool y) b/\P b:=⟨_, .bb x y,h⟩
theorem at_{ds:List PyData}{k:Int}{e:PyData}{P:PyData->Prop}(h:cB ds k=some e)(q:P e):∃e,cB ds k=some e/\P e:=⟨e,h,q⟩
theorem UL{A:Prop}(q:A):([]:List Fd).length<=10000/\A:=⟨by decide,q⟩
theorem Qs{C A:Prop}(c:C)(q:A):C/\A:=⟨c,q⟩
end R
theorem AN{n:Nat}{F:DF}{vs:List V}{H:Hp}{Q:VK}{E:XK}(h:ic n F vs H Q E):∃(nb:Addr->Prop) (ds:List PyData) (Φ:Pd),dX nb H/\ah nb H ds vs/\(∀f d v H',Φ f d->bu H H'->af (fun a=>nb a\/(f=true/\H a≠none)) H' d v->Q v H')/\F ds Φ:=by
 obtain⟨_,nb,ds,h1,h2,h3⟩:=h
 exact⟨nb,ds,_,h1,h2,fun f d v H' q=>q v H',h3⟩
theorem qF{n:Nat}{F:DF}{vs:List V}{H:Hp}{Q:VK}{E:XK}(h:iJ n F vs H Q E):∃(b l:Addr) (ws:List V) (nb:Addr->Prop) (ds:List PyData) (Φ:Pd),vs= .ref b::ws/\cU H b l/\dX nb H/\nb b/\ah nb H ds ws/\(∀f d v H',Φ f d->aM (Nb b) H H'->cU H' b l->af (fun a=>nb a\/(f=true/\H a≠none)) H' d v->Q v H')/\F ds Φ:=by
 obtain⟨_,b,l,ws,nb,ds,e,hB,h1,hb,h2,h3⟩:=h
 exact⟨b,l,ws,nb,ds,_,e,hB,h1,hb,h2,fun f d v H' q=>q v H',h3⟩
end L2
set_option maxRecDepth 100000
set_option maxHeartbeats 1000000
namespace L2
open PySem PySem.Spec PyProof.Rows
noncomputable abbrev bY:=List (Int×Int)
noncomputable abbrev Wo:=List (Option Int)
noncomputable abbrev jq(prs:bY):PyData:= .list (prs.map pairD)
noncomputable abbrev Sg(wd:Wo):PyData:= .list (wd.map uG)
theorem Ik{α β:Type}{xs:List α}{φ:α->β}{i:Nat}{d:β}(h:(xs.map φ)[i]?=some d):∃x,xs[i]?=some x/\d=φ x:=by
 rw[dG] at h
 obtain⟨x,hx,e⟩:=ow.mp h
 exact⟨x,hx,e.symm⟩
theorem take_snoc{α:Type}{xs:List α}{i:Nat}{x:α}(h:xs[i]?=some x):xs.take (i+1)=xs.take i++[x]:=by
 rw[List.take_add_one,h];rfl
end L2
set_option maxRecDepth 100000
set_option maxHeartbeats 4000000
namespace L2
open PySem PySem.Spec PyProof.Rows
theorem II{α:Type}{us:List α}(h:us.length=1):∃a,us=[a]:=by
  cases us with
  |nil=>cases h
  | cons a us =>
    cases us with
    |nil=>exact⟨a,rfl⟩
    |cons _ _=>cases h
theorem ln2{α:Type}{us:List α}(h:us.length=2):∃a b,us=[a,b]:=by
  cases us with
  |nil=>cases h
  | cons a us =>
    obtain⟨b,rfl⟩:=II (us:=us) (xZ h)
    exact⟨a,b,rfl⟩
theorem Ma{α:Type}{us:List α}(h:us.length=3):∃a b c,us=[a,b,c]:=by
  cases us with
  |nil=>cases h
  | cons a us =>
    obtain⟨b,c,rfl⟩:=ln2 (us:=us) (xZ h)
    exact⟨a,b,c,rfl⟩
theorem NS{α:Type}{us:List α}(h:us.length=4):∃a b c d,us=[a,b,c,d]:=by
  cases us with
  |nil=>cases h
  | cons a us =>
    obtain⟨b,c,d,rfl⟩:=Ma (us:=us) (xZ h)
    exact⟨a,b,c,d,rfl⟩
theorem Td{α:Type}{us:List α}(h:us.length=5):∃a b c d e,us=[a,b,c,d,e]:=by
  cases us with
  |nil=>cases h
  | cons a us =>
    obtain⟨b,c,d,e,rfl⟩:=NS (us:=us) (xZ h)
    exact⟨a,b,c,d,e,rfl⟩
end L2
set_option maxRecDepth 100000
set_option maxHeartbeats 1000000
namespace L2
open PySem PySem.Spec PyProof.Rows
noncomputable def j5(xs:Array Nat):Prop:=∀(i j x y:Nat),i<j->xs[i]?=some x->xs[j]?=some y->x<y
theorem Ut{xs:Array Nat}{q:Nat}(hr:j5 xs):∀(f lo hi:Nat),hi<=xs.size->lo<=hi->hi-lo<=f->(∀i x,i<lo->xs[i]?=some x->x<q)->(∀i x,hi<=i->xs[i]?=some x->q<=x)->
    lo<=SetTable.below.go xs q f lo hi/\SetTable.below.go xs q f lo hi<=hi/\(∀i x,i<SetTable.below.go xs q f lo hi->xs[i]?=some x->x<q)/\(∀i x,SetTable.below.go xs q f lo hi<=i->xs[i]?=some x->q<=x):=by
  intro f
  induction f with
  | zero =>
    intro lo hi h1 h2 h3 h4 h5
    have e:lo=hi:=by walk_at "o"
    subst e
    exact⟨aE _,aE _,h4,h5⟩
  | succ f ih =>
    intro lo hi h1 h2 h3 h4 h5
    unfold SetTable.below.go
    by_cases hlt:lo<hi
    · rw[if_pos hlt]
      have hm:(lo+hi)/2<xs.size:=by walk_at "o"
      have hg:xs[(lo+hi)/2]?=some xs[(lo+hi)/2]:=kX hm
      have hgd:xs.getD ((lo+hi)/2) q=xs[(lo+hi)/2]:=by rw[E5,hg];rfl
      dsimp only
      rw[hgd]
      by_cases hc:xs[(lo+hi)/2]<q
      · rw[if_pos hc]
        obtain⟨a1,a2,a3,a4⟩:=ih ((lo+hi)/2+1) hi h1 (by walk_at "o") (by walk_at "o") (fun i x hi' e=>by
          rcases Nat.lt_or_ge i ((lo+hi)/2) with z|z
          · exact t7 (hr i _ x _ z e hg) hc
          · have:i=(lo+hi)/2:=by walk_at "o"
            subst this;rw[hg] at e;cases e;exact hc) h5
        exact⟨by walk_at "o",a2,a3,a4⟩
      · rw[if_neg hc]
        obtain⟨a1,a2,a3,a4⟩:=ih lo ((lo+hi)/2) (by walk_at "o") (by walk_at "o") (by walk_at "o") h4 (fun i x hi' e=>by
          rcases Nat.lt_or_ge ((lo+hi)/2) i with z|z
          · exact mh (rG (BD hc) (hr _ i _ x z hg e))
          · have:i=(lo+hi)/2:=by walk_at "o"
            subst this;rw[hg] at e;cases e;exact BD hc)
        exact⟨a1,by walk_at "o",a3,a4⟩
    · rw[if_neg hlt]
      have e:lo=hi:=by walk_at "o"
      subst e
      exact⟨aE _,aE _,h4,h5⟩
theorem below_at{xs:Array Nat}{q:Nat}(hr:j5 xs):SetTable.below xs q<=xs.size/\(∀i x,i<SetTable.below xs q->xs[i]?=some x->x<q)/\(∀i x,SetTable.below xs q<=i->xs[i]?=some x->q<=x):=by
 obtain⟨_,h2,h3,h4⟩:=Ut (q:=q) hr xs.size 0 xs.size (aE _) (eU _) (by walk_at "o") (fun i x h=>absurd h (Nat.not_lt_zero _)) (fun i x h e=>by
  have:=(uZ.mp e).1;walk_at "o")
 exact⟨h2,h3,h4⟩
theorem R4{α:Type}{xs:Array α}{p:Nat}{x:α}(hp:p<=xs.size)(i:Nat):(SetTable.insertAt xs p x)[i]?=if i<p then xs[i]? else if i=p then some x else xs[i-1]?:=by
 unfold SetTable.insertAt
 rw[IU]
 have e1:((xs.extract 0 p).push x).size=p+1:=by rw[t9,fc];walk_at "o"
 rw[e1]
 by_cases h1:i<p
 ·rw[if_pos (show i<p+1 by walk_at "o"),if_pos h1,D0,if_neg (by rw[fc];walk_at "o"),Fg (by walk_at "o")]
  simp
 ·rw[if_neg h1]
  by_cases h2:i=p
  ·rw[if_pos (show i<p+1 by walk_at "o"),if_pos h2,D0,if_pos (by rw[fc];walk_at "o")]
  ·rw[if_neg (show¬i<p+1 by walk_at "o"),if_neg h2]
   by_cases h3:i-(p+1)<xs.size-p
   ·rw[Fg (by walk_at "o"),<-kX,show p+(i-(p+1))=i-1 by walk_at "o"]
   ·rw[DJ (by rw[fc];walk_at "o"),DJ (by walk_at "o")]
theorem j5.insert{xs:Array Nat}{q:Nat}(hr:j5 xs)(hq:xs[SetTable.below xs q]?≠some q):j5 (SetTable.insertAt xs (SetTable.below xs q) q):=by
 obtain⟨h1,h2,h3⟩:=below_at (q:=q) hr
 have h3':∀i x,SetTable.below xs q<=i->xs[i]?=some x->q<x:=fun i x hi e=>by
  rcases Cg (h3 i x hi e) with z|z
  ·exact z
  ·subst z
   rcases Cg hi with z|z
   ·have hb:SetTable.below xs q<xs.size:=dM z (mh (uZ.mp e).1)
    have hg:xs[SetTable.below xs q]?=some xs[SetTable.below xs q]:=kX hb
    have:=hr _ i _ q z hg e
    have:=h3 _ _ (aE _) hg
    walk_at "o"
   ·rw[<-z] at e;exact absurd e hq
 intro i j x y hij ex ey
 rw[R4 h1] at ex ey
 by_cases a:i<SetTable.below xs q
 ·rw[if_pos a] at ex
  by_cases b:j<SetTable.below xs q
  ·rw[if_pos b] at ey;exact hr i j x y hij ex ey
  ·rw[if_neg b] at ey
   by_cases c:j=SetTable.below xs q
   ·rw[if_pos c] at ey;cases ey;exact h2 i x a ex
   ·rw[if_neg c] at ey;exact hr i (j-1) x y (by walk_at "o") ex ey
 ·rw[if_neg a] at ex
  by_cases c:i=SetTable.below xs q
  ·rw[if_pos c] at ex;cases ex
   rw[if_neg (by walk_at "o"),if_neg (by walk_at "o")] at ey
   exact h3' (j-1) y (by walk_at "o") ey
  ·rw[if_neg c] at ex
   rw[if_neg (by walk_at "o"),if_neg (by walk_at "o")] at ey
   exact hr (i-1) (j-1) x y (by walk_at "o") ex ey
theorem Tp{t:SetTable}{ha:Nat->Int}{h:Int}:∀(f:Nat) (p:SetTable.Probe) (j:Nat) (dm:Option Nat),(∀d,p.dummy=some d->t.slot d= .dummy)->SetTable.probe.go t ha h f p=some (.empty j dm)->t.slot j= .empty/\∀d,dm=some d->t.slot d= .dummy:=by
  intro f
  induction f with
  |zero=>intro p j dm _ e;unfold SetTable.probe.go at e;cases e
  | succ f ih =>
    intro p j dm hd e
    have FI:∀p:SetTable.Probe,(t.advance p).dummy=p.dummy:=fun p=>by unfold SetTable.advance;split<;>rfl
    unfold SetTable.probe.go at e
    cases hs:t.slot p.j with
    |empty=>rw[hs] at e;cases e;exact⟨hs,hd⟩
    |dummy=>rw[hs] at e;exact ih _ j dm (fun d h'=>by rw[FI] at h';cases h';exact hs) e
    | live i =>
      rw[hs] at e
      dsimp only at e
      split at e
      · cases e
      · exact ih _ j dm (fun d h'=>by rw[FI] at h';exact hd d h') e
theorem Kd{t:SetTable}{h:Int}{j:Nat}{wd:Bool}(e:t.freeSlot h=some (j,wd)):∀i,t.slot j≠ .live i:=by
 unfold SetTable.freeSlot SetTable.probe at e
 intro i z
 split at e
 ·rename_i j0 dm he
  obtain⟨h1,h2⟩:=Tp (10*SetTable.turns t.mask) (t.probeStart h) j0 dm (fun d h'=>by unfold SetTable.probeStart at h';cases h') he
  cases dm with
  |none=>cases e;simp at z;rw[h1] at z;cases z
  |some d=>cases e;simp at z;rw[h2 d rfl] at z;cases z
 ·cases e
structure dQ(bt:Bool)(t:SetTable):Prop where
 led:bt=false->t.led=true
 AX:t.plain=true->j5 t.place
theorem dQ.standIn{bt:Bool}{t:SetTable}(h:dQ bt t)(n:Nat):dQ bt (t.standIn n):=⟨h.led,fun z=>by cases z⟩
theorem dQ.off{bt:Bool}{t:SetTable}(h:dQ bt t):dQ bt {t with plain:=false}:=⟨h.led,fun z=>by cases z⟩
theorem dQ.put{bt:Bool}{t:SetTable}{j:Nat}(h:dQ bt t)(hj:∀i,t.slot j≠ .live i):dQ bt (t.put j).1:=by
 refine⟨h.led,fun z=>?_⟩
 refine j5.insert (h.AX z) fun e=>hj (SetTable.below t.place j) ?_
 unfold SetTable.slot
 dsimp only
 rw[if_pos (by rw[e];exact beq_self_eq_true _)]
theorem dQ.layNew{bt:Bool}{t:SetTable}{es:Array (Int×Value)}{h:Int}{x:Value}(ok:dQ bt t):dQ bt (layNew t es h x).2.1:=by
 unfold PySem.layNew
 split
 ·rename_i slot wd e
  dsimp only
  unfold SetTable.orStandIn
  split
  ·exact ok.put (Kd e)
  ·exact(ok.put (Kd e)).standIn _
 ·exact ok.standIn _
theorem OZ(n:Nat)(φ:Nat->Option Nat):j5 (((List.range n).filterMap fun j=>(φ j).map (j,·)).map (·.1)).toArray:=by
  have hp:(((List.range n).filterMap fun j=>(φ j).map (j,·)).map (·.1)).Pairwise (· < ·):=by
    have hs:List.Sublist (((List.range n).filterMap fun j=>(φ j).map (j,·)).map (·.1)) (List.range n):=by
      induction List.range n with
      |nil=>simp
      | cons a r ih =>
        rw[kq]
        cases φ a with
        |none=>exact ih.cons a
        |some y=>exact ih.cons₂ a
    exact Gn.sublist hs
  intro i j x y hij ex ey
  rw[G0] at ex ey
  obtain⟨hi,rfl⟩:=bh.mp ex
  obtain⟨hj,rfl⟩:=bh.mp ey
  exact D4.mp hp i j hi hj hij
theorem dQ.VW{bt:Bool}{t:SetTable}{es:Array (Int×Value)}{n:Nat}(ok:dQ bt t):dQ bt (relayAll t es n).2.1:=by
  unfold relayAll
  split
  · rename_i t' order e
    dsimp only
    split
    · unfold SetTable.relaid SetTable.laid at e
      cases hl:SetTable.layClean (SetTable.sizeAbove n-1) (es.map (·.1)) with
      |none=>rw[hl] at e;cases e
      | some owner =>
        rw[hl] at e
        cases e
        exact⟨ok.led,fun _=>OZ _ _⟩
    · exact ok.standIn _
  · exact ok.standIn _
theorem dQ.fresh{bt:Bool}:dQ bt (.fresh 0 0 (!bt)):=⟨fun h=>by rw[h];rfl,fun _ i j x y _ e=>by simp[SetTable.fresh] at e⟩
end L2
set_option maxRecDepth 100000
set_option maxHeartbeats 4000000
namespace L2
open PySem PySem.Spec PyProof.Rows
noncomputable def gz(bt:Bool)(h:Heap)(a:Addr):Prop:=∀o es ep t,h.get? a=some o->o.data= .set es ep t->dQ bt t
theorem gz.of{bt:Bool}{h:Heap}{a:Addr}{o:Obj}{es:Array (Int×Value)}{ep:Nat}{t:SetTable}(e:h.get? a=some o)(d:o.data= .set es ep t)(k:dQ bt t):gz bt h a:=fun o' es' yy t' e' d'=>by
 rw[e] at e';cases e';rw[d] at d';cases d';exact k
theorem gz.keep{bt:Bool}{h h':Heap}{a:Addr}{o:Obj}(k:gz bt h a)(e:h.get? a=some o)(e':h'.get? a=some o):gz bt h' a:=fun o1 es ep t x d=>by
 rw[e'] at x;cases x;exact k o es ep t e d
section
variable{prog:Program}{w:World}{A:Around}{E:Value->Shared->Prop}{s:Shared}{a:Addr}{bt:Bool}
noncomputable abbrev IK(prog:Program)(w:World):=intKind prog w
theorem Ip{o:Obj}{es es':Array (Int×Value)}{ep:Nat}{t t':SetTable}{T:Int->Bool}{h:Heap}(g1:h.get? a=some o)(g2:o.ExactSet)(g3:o.data= .set es ep t)(l1:ElemsOf (IK prog w) es'.toList)
  (l2:∀k,T k=true↔∃e∈es'.toList,(IK prog w).is k e.2=true) (l3:es'.size<scanBound) (l4:t'.fits es'.size=true) (tk:dQ bt t'):
  (∃o',(h.update a (Obj.putSet es' t')).get? a=some o'/\o'.ExactSet/\o'.data= .set es' (ep+1) t')/\(h.update a (Obj.putSet es' t')).SetOf (IK prog w) a T es'.size/\gz bt (h.update a (Obj.putSet es' t')) a:=by
 obtain⟨q1,q2⟩:=SetOf_store (knd:=IK prog w) (es':=es') (t':=t') (S':=T) g1 g2 g3 l1 l2 l3 l4
 exact⟨⟨_,q1,g2,rfl⟩,q2, .of q1 rfl tk⟩
theorem Ja{gg:Bool->Sem Unit}(Po:∀(b:Bool) (s₁:Shared) (Q₁:Unit->Shared->Prop),Q₁ () s₁->wpAny (model prog w) A (gg b) Q₁ E s₁){o:Obj}{es:Array (Int×Value)}{ep:Nat}{t:SetTable}
    (g1:s.heap.get? a=some o) (g2:o.ExactSet) (g3:o.data= .set es ep t) {es1:Array (Int×Value)} {t2:SetTable} {T:Int->Bool} (l1:ElemsOf (IK prog w) es1.toList) (l2:∀k,T k=true↔∃e∈es1.toList,(IK prog w).is k e.2=true)
    (l3:es1.size<scanBound) (l4:t2.fits es1.size=true) (tk:dQ bt t2) {wd:Bool} {R:Option Bool->Shared->Prop}
    (fin:∀h',Heap.SameBut a s.heap h'->h'.SetOf (IK prog w) a T es1.size->gz bt h' a->R (some true) {s with heap:=h'}):
    wpAny (model prog w) A (do storeSet a es1 t2
                               if(!wd && t2.tooFull)=true then do
                                 gg (relayAll t2 es1 (SetTable.grown es1.size)).2.2
                                 storeSet a (relayAll t2 es1 (SetTable.grown es1.size)).1 (relayAll t2 es1 (SetTable.grown es1.size)).2.1
                                 pure (some true)
                               else pure (some true)) R E s:=by
  obtain⟨⟨o1,k1,k2,k3⟩,q1,q2⟩:=Ip (T:=T) g1 g2 g3 l1 l2 l3 l4 tk
  have sb:=Heap.SameBut.update s.heap a (Obj.putSet es1 t2)
  refine wpAny_bind (wpAny_storeSet_of g1 g3 ?_ (fits_of_scanBound l3))
  by_cases c:(!wd && t2.tooFull)=true
  · rw[if_pos c]
    have pp:=relayAll_perm t2 es1 (SetTable.grown es1.size)
    have pf:=relayAll_fits t2 es1 (SetTable.grown es1.size)
    have pt:=tk.VW (es:=es1) (n:=SetTable.grown es1.size)
    generalize relayAll t2 es1 (SetTable.grown es1.size)=Z at pp pf pt⊢
    obtain⟨Je,t3,Y9⟩:=Z
    dsimp only at pp pf pt⊢
    have sz:Je.size=es1.size:=by have:=pp.length_eq;rwa[cV,cV] at this
    have Qw:∀k,T k=true↔∃e∈Je.toList,(IK prog w).is k e.2=true:=fun k=>(l2 k).trans ⟨fun⟨e,m,z⟩=>⟨e,pp.mem_iff.mpr m,z⟩,fun⟨e,m,z⟩=>⟨e,pp.mem_iff.mp m,z⟩⟩
    obtain⟨_,r1,r2⟩:=Ip (T:=T) k1 k2 k3 (l1.perm pp) Qw (by rw[sz];exact l3) pf pt
    refine wpAny_bind (Po _ _ _ (wpAny_bind (wpAny_storeSet_of k1 k3 ?_ (fits_of_scanBound (by rw[sz];exact l3)))))
    rw[sz] at r1
    exact wpAny_pure (fin _ (sb.trans (Heap.SameBut.update _ a _)) r1 r2)
  · rw[if_neg c]
    exact wpAny_pure (fin _ sb q1 q2)
theorem Pn{S:Int->Bool}{n:Nat}{k:Int}{x:Value}{Q:Bool->Shared->Prop}(hx:(IK prog w).is k x=true)(sc:x.scannable=true)(hS:s.heap.SetOf (IK prog w) a S n)(hT:gz bt s.heap a)(room:n+1<scanBound)
    (fin:∀h',Heap.SameBut a s.heap h'->h'.SetOf (IK prog w) a (fun j=>S j||decide (j=k)) (if S k then n else n+1)->gz bt h' a->Q (!S k) {s with heap:=h'}):
    wpAny (model prog w) A (setAddHashed a x ((IK prog w).hash k)) Q E s:=by
  obtain⟨o,es,ep,t,g1,g2,g3,l1,l2,l3,l4,sz⟩:=hS
  have tk:=hT o es ep t g1 g3
  unfold setAddHashed setAddHashedIn
  refine wpAny_holding (wpAny_bind (wpAny_setState_of g1 g3 l4 ?_))
  dsimp only
  rw[if_pos (byScan_of sc l3 l1)]
  unfold setAddByScan
  refine wpAny_bind (wpAny_bind (wpAny_rule (wpAny_bind (wpAny_setScan_of hx g1 g3 l4 l1 ?_))))
  cases fr:List.findIdx? (fun e=>(IK prog w).is k e.2) es.toList with
  | some j =>
    obtain⟨hj,pj,_⟩:=List.findIdx?_eq_some_iff_getElem.mp fr
    have yes:S k=true:=(l2 k).mpr ⟨_,nk hj,pj⟩
    have z:=fin s.heap (.refl a s.heap) ⟨o,es,ep,t,g1,g2,g3,l1,fun j=>by
      rw[Bool.or_eq_true,decide_eq_true_eq,<-l2 j]
      exact⟨fun q=>q.elim id fun e=>e▸yes, .inl⟩,l3,l4,by rw[if_pos yes];exact sz⟩ hT
    rw[yes] at z
    exact wpAny_pure (wpAny_pure z)
  | none =>
    have no:S k=false:=by
      cases q:S k with
      |false=>rfl
      | true =>
        obtain⟨e,m,p⟩:=(l2 k).mp q
        rw[List.findIdx?_eq_none_iff.mp fr e m] at p;cases p
    have pp:=layNew_perm t es ((IK prog w).hash k) x
    have pf:=layNew_fits t es ((IK prog w).hash k) x
    have pt:=tk.layNew (es:=es) (h:=(IK prog w).hash k) (x:=x)
    dsimp only
    generalize layNew t es ((IK prog w).hash k) x=Z at pp pf pt⊢
    obtain⟨es1,t1,wd,Y9⟩:=Z
    dsimp only at pp pf pt⊢
    rw[ki] at pp
    have mw:es1.size=n+1:=by have:=pp.length_eq;rw[fu,cV,cV,sz] at this;exact this
    have fin':∀h',Heap.SameBut a s.heap h'->h'.SetOf (IK prog w) a (fun j=>S j||decide (j=k)) es1.size->gz bt h' a->Q true {s with heap:=h'}:=fun h' x1 x2 x3=>by
      have:=fin h' x1;rw[no,if_neg bH] at this;rw[mw] at x2;exact this x2 x3
    have gw:∀(b:Bool) (s₁:Shared) (Q₁:Unit->Shared->Prop),Q₁ () s₁->wpAny (model prog w) A (match b with|true=>rule "set.scan.the-table-gave-way" |false=>pure ()) Q₁ E s₁:=fun b s₁ Q₁ q=>by
      cases b
      · exact wpAny_pure q
      · exact wpAny_rule q
    refine wpAny_bind (gw _ _ _ ?_)
    have e1:=(l1.push hx sc).perm pp
    have e2:=mem_push_iff hx l2 pp
    have e3:es1.size<scanBound:=by rw[mw];exact room
    by_cases pl:t1.plain=true
    · rw[if_pos pl,hashByValue_scannable 8 sc]
      refine wpAny_bind (wpAny_pure ?_)
      refine Ja gw g1 g2 g3 e1 e2 e3 ?_ ?_ fun h' x1 x2 x3=>wpAny_pure (fin' h' x1 x2 x3)
      · split
        · exact pf
        · exact SetTable.fits_plain_off pf
      · split
        · exact pt
        · exact pt.off
    · rw[if_neg pl]
      refine wpAny_bind (wpAny_pure ?_)
      rw[if_pos rfl]
      exact Ja gw g1 g2 g3 e1 e2 e3 pf pt fun h' x1 x2 x3=>wpAny_pure (fin' h' x1 x2 x3)
end
end L2
set_option maxRecDepth 100000
set_option maxHeartbeats 4000000
namespace L2
open PySem PySem.Spec PyProof.Rows
section
variable{prog:Program}{w:World}{A:Around}{R:Result->Shared->Prop}{I:Addr}{fp wr:List Addr}{G:Array GenState->Array GenState->Prop}{n:Nat}{P:Nat->Value->Prop}{St:Nat->Shared->Prop}{bt:Bool}
noncomputable abbrev met(val:Nat->Int)(i:Nat):Int->Bool:=fun k=>(firstMet val i).any (· ==k)
theorem QG(W:WalksS prog w A.in1 I fp wr G n P St)(C:Addr)(nC:C∉fp)(val:Nat->Int)(hv:∀i v,P i v->∃t,v= .int (val i) t)(room:n+1<scanBound)(fuel:Nat):
    ∀(i:Nat) (s:Shared),n-i=fuel->i<=n->St i s->s.heap.SetOf (IK prog w) C (met val i) (firstMet val i).length->gz bt s.heap C->
      (∀s',Moved (C::wr) G s s'->s'.heap.SetOf (IK prog w) C (met val n) (firstMet val n).length->gz bt s'.heap C->R (.ok (.ret .none)) s')->
      codeAny (model prog w) A (.builtin "set.update.loop" ⟨[.ref C, .ref I],[]⟩) R s:=by
  have nw:C∉wr:=fun z=>nC (W.sub _ z)
  have up:∀b∈wr,b∈C::wr:=fun b z=>bJ _ z
  have mv:∀{s s':Shared} {T:Int->Bool} {m:Nat},Moved wr G s s'->s.heap.SetOf (IK prog w) C T m->gz bt s.heap C->s'.heap.SetOf (IK prog w) C T m/\gz bt s'.heap C:=fun mo q tt=>by
    obtain⟨o,es,ep,t,ho,r⟩:=q
    exact⟨⟨o,es,ep,t,mo.heap C _ nw ho,r⟩,tt.keep ho (mo.heap C _ nw ho)⟩
  induction fuel with
  | zero =>
    intro i s e1 e2 st q tt fin
    obtain rfl:i=n:=by walk_at "o"
    refine codeAny_builtin F.entry_set_update_loop ?_
    rw[uU Bf _]
    refine wpAny_bind (W.done s _ _ st fun s' mo=>?_)
    exact wpAny_pure (fin s' (mo.mono up) (mv mo q tt).1 (mv mo q tt).2)
  | succ fuel ih =>
    intro i s e1 e2 st q tt fin
    have lt:i<n:=by walk_at "o"
    refine codeAny_builtin F.entry_set_update_loop ?_
    rw[uU Bf _]
    refine wpAny_bind (W.item i s _ _ lt st fun v s' hP st' mo=>?_)
    obtain⟨tok,rfl⟩:=hv i v hP
    obtain⟨q',YK⟩:=mv mo q tt
    show wpAny _ A.in1 (holding [Value.int (val i) tok] (setAdd C (.int (val i) tok))>>=_) _ _ s'
    unfold setAdd
    refine wpAny_bind (wpAny_holding (wpAny_holding (wpAny_bind ((IK prog w).pyHash (k:=val i) (intKind_is _ _ _ _) ?_))))
    refine Pn (bt:=bt) (s:={s' with toks:=s'.toks+1}) (intKind_is _ _ _ _) rfl q' YK (by have:=firstMet_length_le val i;walk_at "o") fun h' sb q2 R3=>?_
    have q3:h'.SetOf (IK prog w) C (met val (i+1)) (firstMet val (i+1)).length:=SetOf_congr q2 (fun j=>by unfold met;rw[firstMet_succ,step_any]) (by rw[firstMet_succ,step_length])
    refine wpAny_pure ⟨plainId_quiet Bf _,ih (i+1) _ (by walk_at "o") lt (W.frame _ s' _ _ st' (iV _) fun b hb o e=>?_) q3 R3 fun s2 RK q4 O3=>?_⟩
    · rw[sb.2 b fun z:b=C=>nC (z▸hb)];exact e
    · refine fin s2 (Moved.trans W.gtrans ((mo.mono up).then_heap (iV _) fun b o hb e=>?_) RK) q4 O3
      rw[sb.2 b fun z:b=C=>hb (z▸bT)];exact e
end
section
variable{prog:Program}{w:World}{A:Around}{E:Value->Shared->Prop}{s:Shared}
noncomputable abbrev eW(w:World):Bool:=w.params.followText "set-order"
noncomputable abbrev lq(w:World):Obj:={cls:= .type "set",dict:=none,data:= .set #[] 0 (.fresh 0 0 (!eW w))}
theorem Q7(a:Value){Q₁:Value->Shared->Prop}(fin:Q₁ (.ref s.heap.objs.size) {s with heap:=s.heap.push (lq w)}):codeAny (model prog w) A (.call (.builtin "set.__new__") ⟨[.type "set",a],[]⟩) (wants Q₁ E) s:=by
 refine codeAny_of_tree ?_
 show wpAny _ A.in1 (do checkBuiltinCall "set.__new__" ⟨[.type "set",a],[]⟩;again (.builtin "set.__new__" ⟨[.type "set",a],[]⟩)) _ _ s
 refine wpAny_bind (wpAny_of_eq (F.newCall_set_1 a) (wpAny_pure ⟨plainId_quiet F.plain_set_new _,codeAny_builtin F.entry_set_new ?_⟩))
 rw[uU F.plain_set_new _]
 unfold Builtin.«set.__new__» Builtin.Frozenset.newClass
 have hsub:=sub_set_self
 obtain⟨hp,g,d,tk,os⟩:=s
 dsimp only at fin⊢
 wp_walk
 refine wpAny_askSetting (wpAny_pure ?_)
 dsimp only
 simp only[newObj]
 exact wpAny_bind (wpAny_alloc (wpAny_pure (wpAny_pure fin)))
theorem RT{l:Addr}{items:Array Value}{ns:List Int}{Q:Value->Shared->Prop}(hh:A.handled=none)(hl:s.heap.IsList l items)(hi:IntsAre items.toList ns)(room:items.size+1<scanBound)
    (fin:∀(h':Heap) (tk:Nat),h'.SetOf (IK prog w) s.heap.objs.size (met (fun i=>ns.getD i 0) items.size) (firstMet (fun i=>ns.getD i 0) items.size).length->gz (eW w) h' s.heap.objs.size->
      (∀b o,b<s.heap.objs.size->s.heap.get? b=some o->h'.get? b=some o)->Q (.ref s.heap.objs.size) {s with heap:=h',toks:=tk}):wpAny (model prog w) A (call (.type "set") [.ref l]) Q E s:=by
  obtain⟨c,tl,Z2⟩:=nj.mro
  have hmade:=nj.made
  have hsub:=nj.sub
  have h1:=nj.notType
  have h2:=nj.canCreate
  have hct:=F.typeCall_set_1 (.ref l)
  refine wpAny_call (codeAny_of_tree ?_)
  show wpAny _ _ (callAny (.type "set") _) _ _ _
  refine wpAny_pure ⟨Code.quiet_builtin _ (by decide+kernel),codeAny_builtin F.entry_type_call ?_⟩
  rw[Around.under_plain (weight_type_call_type "set" [.ref l] []) rfl]
  repeat (any_goals (first|assumption|wp_step))
  refine codeAny_mono (Q7 (.ref l) (E:=E) (Q₁:=fun obj s₁=>obj= .ref s.heap.objs.size/\s₁={s with heap:=s.heap.push (lq w)}) ⟨rfl,rfl⟩) fun r s₁ hr=>?_
  cases r with
  |error e=>exact hr
  | ok fl =>
    cases fl with
    | ret obj =>
      obtain⟨rfl,rfl⟩:=hr
      have hS:(s.heap.push (lq w)).get? s.heap.objs.size=some (lq w):=fS _ rfl
      have hT:Shared.TypeIs {s with heap:=s.heap.push (lq w)} (.ref s.heap.objs.size) "set":=⟨_,hS,rfl⟩
      have hli:=nj.init.lookup
      have hbi:=nj.init.bind (.ref s.heap.objs.size)
      repeat (any_goals (first|assumption|wp_step))
      refine codeAny_mono (codeAny_call_builtin (R:=wants (fun r s₂=>r= .none/\∃h' tk,s₂={s with heap:=h',toks:=tk}/\h'.SetOf (IK prog w) s.heap.objs.size (met (fun i=>ns.getD i 0) items.size) (firstMet (fun i=>ns.getD i 0) items.size).length/\gz (eW w) h' s.heap.objs.size/\
          (∀b o,b<s.heap.objs.size->s.heap.get? b=some o->h'.get? b=some o)) E) nj.init.plain F.entry_set_init (check_set_init_1 hT ?_)) fun r₂ s₂ C5=>?_
      · obtain⟨ol,uK,hcl,nl,hdl⟩:=hl
        obtain⟨ZQ,Zr,ZD,aab⟩:=ol
        simp only at hcl hdl
        subst hcl;subst hdl
        have XD:=cz (lq w) uK
        have ZE:=F.sub_list_set
        have ZO:=F.sub_list_frozenset
        have hne:(Value.type "list"==Value.type "dict")=false:=by decide
        have hl1:(s.heap.push (lq w)).IsList l items:=⟨_,XD,rfl,nl,rfl⟩
        unfold Builtin.«set.__init__» noKeywords Builtin.Frozenset.updateFrom
        generalize RW:pyIter=PI
        wp_walk
        subst RW
        refine wpAny_pyIter_list hl1 (wpAny_bind (wpAny_runValue ?_))
        have hlS:l<s.heap.objs.size:=bC uK
        have mw:(s.heap.push (lq w)).objs.size=s.heap.objs.size+1:=mQ ..
        have n1:l≠(s.heap.push (lq w)).objs.size:=by rw[mw];exact cX (oB hlS)
        have n2:s.heap.objs.size∉[(s.heap.push (lq w)).objs.size,l]:=by
          rw[mw];intro z;rcases aA.mp z with z|z
          · exact absurd z (cX (o7 _))
          · exact absurd (az.mp z) (Ak hlS)
        have h3:A.in1.in1.in1.handled=none:=by simp[hh]
        have hS':=cz ({cls:= .type "list_iterator",data:= .fields #[.ref l, .int 0 0]}:Obj) hS
        refine QG (bt:=eW w) ((Walks.list h3 _ l n1 items).toS) s.heap.objs.size n2 (fun i=>ns.getD i 0) (fun i v e=>IntsAre.int_at hi i v (by rw[jj];exact e)) room (items.size-0) 0 _ (by walk_at "o") (eU _)
          ⟨⟨_,fS _ rfl,rfl,rfl⟩,(hl1.push _)⟩ (SetOf_congr ((setObjOf_fresh (knd:=IK prog w) (!eW w)).setOf hS' (by unfold scanBound;walk_at "o")) (fun _=>rfl) rfl) (.of hS' rfl .fresh) ?_
        intro s' mo q tt
        obtain⟨h',g',d',tk',os'⟩:=s'
        obtain rfl:g'=s.gens:=mo.gens
        obtain rfl:d'=s.drawn:=mo.drawn
        obtain rfl:os'=s.os:=mo.os
        refine wpAny_pure (wpAny_pure ⟨rfl,h',tk',rfl,q,tt,fun b o hb e=>?_⟩)
        refine mo.heap b o (fun z=>?_) (cz _ (cz _ e))
        rcases aA.mp z with z|z
        · exact absurd z (cX hb)
        · rw[mw] at z;exact absurd (az.mp z) (cX (oB hb))
      · cases r₂ with
        |error e=>exact C5
        | ok fl₂ =>
          cases fl₂ with
          | ret r =>
            obtain⟨rfl,h',tk,rfl,q1,q2,q3⟩:=C5
            repeat (any_goals (first|assumption|wp_step))
            exact fin _ _ q1 q2 q3
          |_=>exact C5.elim
    |_=>exact hr.elim
end
end L2
set_option maxRecDepth 100000
set_option maxHeartbeats 4000000
namespace L2
open PySem PySem.Spec PyProof.Rows
theorem jt:Slot "set_iterator" "__next__" "set_iterator.__next__":= .of (owner:="set_iterator") (n:="__next__") (by rw[typeLookup_type,builtinLookup_eq_fast];kernel_rfl) (by decide+kernel) (by decide+kernel) (by decide+kernel) (by first|exact .inl (by decide+kernel)|exact .inr (by decide+kernel)) (by rw[isSubtype_type];kernel_rfl)
theorem yD:entryFor table "set_iterator.__next__"=some Builtin.«set_iterator.__next__» :=entryFor_of_tree (by kernel_rfl)
theorem yV(a:Value):argsOk "set_iterator.__next__" ⟨[a],[]⟩:=by unfold argsOk;kernel_rfl
theorem Mm:Slot "set" "__iter__" "set.__iter__":= .of (owner:="set") (n:="__iter__") (by rw[typeLookup_type,builtinLookup_eq_fast];kernel_rfl) (by decide+kernel) (by decide+kernel) (by decide+kernel) (by first|exact .inl (by decide+kernel)|exact .inr (by decide+kernel)) (by rw[isSubtype_type];kernel_rfl)
theorem XQ:entryFor table "set.__iter__"=some Builtin.«frozenset.__iter__» :=entryFor_alias (id':="frozenset.__iter__") (by kernel_rfl) rfl (by decide+kernel) (by kernel_rfl)
theorem Uv(a:Value):argsOk "set.__iter__" ⟨[a],[]⟩:=by unfold argsOk;kernel_rfl
theorem rK:Slot "set_iterator" "__iter__" "set_iterator.__iter__":= .of (owner:="set_iterator") (n:="__iter__") (by rw[typeLookup_type,builtinLookup_eq_fast];kernel_rfl) (by decide+kernel) (by decide+kernel) (by decide+kernel) (by first|exact .inl (by decide+kernel)|exact .inr (by decide+kernel)) (by rw[isSubtype_type];kernel_rfl)
theorem D3:entryFor table "set_iterator.__iter__"=some Builtin.«dict_keyiterator.__iter__» :=entryFor_alias (id':="dict_keyiterator.__iter__") (by kernel_rfl) rfl (by decide+kernel) (by kernel_rfl)
theorem Ay(a:Value):argsOk "set_iterator.__iter__" ⟨[a],[]⟩:=by unfold argsOk;kernel_rfl
end L2
set_option maxRecDepth 100000
set_option maxHeartbeats 4000000
namespace L2
open PySem PySem.Spec PyProof.Rows
section
variable{prog:Program}{w:World}{A:Around}{E:Value->Shared->Prop}{s:Shared}{a it tp:Addr}{o:Obj}{es:Array (Int×Value)}{ep:Nat}{t:SetTable}
theorem Ce{α:Type}:∀{l:List α} {i:Nat} (h:i<l.length),(l[i]::l.eraseIdx i).Perm l
  |b::r,0,_=>by simp
  | b :: r, i + 1, h => by
    have:=Ce (l:=r) (i:=i) (by simpa using h)
    simp only[List.getElem_cons_succ,List.eraseIdx_cons_succ]
    exact(List.Perm.swap b _ _).trans (this.cons b)
theorem Ax{α:Type}(nx:Nat->Nat):∀(f k:Nat) (l:List α) (out:Array α),l.length<=f->(pickOrder.go nx f k l out).toList.Perm (out.toList++l):=by
  intro f
  induction f with
  | zero =>
    intro k l out h
    have:l=[]:=pH.mp (by walk_at "o")
    subst this
    unfold pickOrder.go
    simp
  | succ f ih =>
    intro k l out h
    unfold pickOrder.go
    cases l with
    |nil=>simp
    | cons b r =>
      have hlt:nx k%(b::r).length<(b::r).length:=z5 _ (by simp)
      rw[bE hlt]
      dsimp only
      refine(ih (k+1) _ _ (by rw[Bp hlt];walk_at "o")).trans ?_
      rw[ki,eX]
      refine lG _ ?_
      exact Ce hlt
theorem Mc(bt:eW w=true)(g1:s.heap.get? a=some o)(g3:o.data= .set es ep t)(g4:t.fits es.size=true){i sl:Nat}{Q:Option (Value×Nat)->Shared->Prop}
  (h:Q (((pickOrder (w.params.setOrder a ep) es)[i]?).map fun e=>(e.2,sl)) s):wpAny (model prog w) A (setNext a sl i ep) Q E s:=by
 unfold setNext
 refine wpAny_bind (wpAny_setState_of g1 g3 g4 ?_)
 dsimp only
 unfold setsByText
 refine wpAny_bind (wpAny_bind (wpAny_askSetting (wpAny_pure ?_)))
 show wpAny _ _ (if eW w=true then _ else _) _ _ _
 rw[if_pos bt]
 rw[if_neg (by simp)]
 refine wpAny_bind ?_
 unfold setWalk
 refine wpAny_bind (wpAny_setState_of g1 g3 g4 ?_)
 dsimp only
 unfold setsByText
 refine wpAny_bind (wpAny_bind (wpAny_askSetting (wpAny_pure ?_)))
 show wpAny _ _ (if eW w=true then _ else _) _ _ _
 rw[if_pos bt]
 refine wpAny_bind (wpAny_askSetting (wpAny_pure ?_))
 exact wpAny_pure h
theorem Gf(bt:eW w=false)(g1:s.heap.get? a=some o)(g3:o.data= .set es ep t)(g4:t.fits es.size=true)(tk:dQ (eW w) t)(pl:t.plain=true\/es.size<=1){i sl:Nat}{Q:Option (Value×Nat)->Shared->Prop}
  (h:Q (match es[SetTable.below t.place sl]?,t.place[SetTable.below t.place sl]? with|some (_,x),some j=>some (x,j+1)|_,_=>none) s):wpAny (model prog w) A (setNext a sl i ep) Q E s:=by
 unfold setNext
 refine wpAny_bind (wpAny_setState_of g1 g3 g4 ?_)
 dsimp only
 unfold setsByText
 refine wpAny_bind (wpAny_bind (wpAny_askSetting (wpAny_pure ?_)))
 show wpAny _ _ (if eW w=true then _ else _) _ _ _
 rw[bt,if_neg bH]
 show wpAny _ _ (if(!t.plain && decide (es.size>1))=true then _ else _) _ _ _
 rw[if_neg (by
  intro z
  rw[dN,Bool.not_eq_true',decide_eq_true_eq] at z
  rcases pl with p|p
  ·rw[p] at z;cases z.1
  ·walk_at "o")]
 refine wpAny_bind ?_
 show wpAny _ _ (if(!t.led && !es.isEmpty)=true then _ else _) _ _ _
 rw[if_neg (by rw[tk.led bt];simp)]
 refine wpAny_pure ?_
 exact wpAny_pure h
theorem WV(g1:s.heap.get? a=some o)(g3:o.data= .set es ep t)(g4:t.fits es.size=true){pl:Nat}{hx:Int}{x:Value}{Q:Value->Shared->Prop}(e:es[pl]?=some (hx,x))(h:Q x s):wpAny (model prog w) A (setNextDrawn a pl ep) Q E s:=by
 unfold setNextDrawn
 refine wpAny_bind (wpAny_setState_of g1 g3 g4 ?_)
 dsimp only
 rw[if_neg (by simp)]
 rw[e]
 exact wpAny_pure h
noncomputable def j3(h:Heap)(it a:Addr)(first:Value)(i n ep:Nat):Prop:=∃o,h.get? it=some o/\o.cls= .type "set_iterator" /\o.data= .fields #[first, .int i 0, .ref a, .int n 0, .int ep 0]
theorem j3.ty{first:Value}{i n:Nat}(h:j3 s.heap it a first i n ep):s.TypeIs (.ref it) "set_iterator":=let ⟨o,e,c,_⟩:=h;⟨o,e,c⟩
theorem yY{first:Value}{i n:Nat}{QQ:Fin->Shared->Prop}{EE:Value->Shared->Prop}(hit:j3 s.heap it a first i n ep)(g1:s.heap.get? a=some o)(g3:o.data= .set es ep t)(g4:t.fits es.size=true)(hn:es.size=n)
    (h:wpAny (model prog w) A (match first with
      | .int slot _ => (do
        match<-setNext a slot.toNat i ep with
        | some (x, next) => do
          setField (.ref it) 0 (rawInt next)
          setField (.ref it) 1 (rawInt ((i:Int)+1))
          ret x
        | none => do
          setField (.ref it) 2 .none
          raiseNew (<-newExc (.type "StopIteration") []))
      | _ => (do
        let some places<-seqItems? first|unsupported "internal:set_iterator"
        match places[i]? with
        | some (.int place _) => do
          let x<-setNextDrawn a place.toNat ep
          setField (.ref it) 1 (rawInt ((i:Int)+1))
          ret x
        |some _=>unsupported "internal:set_iterator"
        | none => do
          setField (.ref it) 0 (rawInt 0)
          setField (.ref it) 2 .none
          raiseNew (<-newExc (.type "StopIteration") []))) QQ EE s):wpAny (model prog w) A (Builtin.«set_iterator.__next__» ⟨[.ref it],[]⟩) QQ EE s:=by
  obtain⟨oi,ho,hc,hd⟩:=hit
  unfold Builtin.«set_iterator.__next__»
  refine wpAny_bind (wpAny_pure ?_)
  refine wpAny_bind (wpAny_fieldsOf ho hd ?_)
  dsimp only
  refine wpAny_bind (wpAny_setEntries_of g1 g3 g4 ?_)
  rw[if_neg (by rw[hn];simp)]
  cases first<;>exact h
theorem xK{h:Heap}{first:Value}{i n k:Nat}{x:Value}{oi:Obj}{vs:Array Value}(ho:h.get? it=some oi)(hc:oi.cls= .type "set_iterator")(hd:oi.data= .fields vs):
  (h.update it (Obj.mapFields (·.setIfInBounds k x))).get? it=some (Obj.mapFields (·.setIfInBounds k x) oi)/\(Obj.mapFields (·.setIfInBounds k x) oi).cls= .type "set_iterator" /\(Obj.mapFields (·.setIfInBounds k x) oi).data= .fields (vs.setIfInBounds k x):=by
 refine⟨yg _ ho (Obj.isFreed_of_fields (Obj.data_mapFields hd _)),(Obj.cls_mapFields ..).trans hc,Obj.data_mapFields hd _⟩
theorem Fj{sl i n nx:Nat}{x:Value}{Q:Option Value->Shared->Prop}(hit:j3 s.heap it a (.int sl 0) i n ep)(g1:s.heap.get? a=some o)(g3:o.data= .set es ep t)(g4:t.fits es.size=true)(hn:es.size=n)
  (hN:∀(Q:Option (Value×Nat)->Shared->Prop) (E:Value->Shared->Prop),Q (some (x,nx)) s->wpAny (model prog w) A.in1 (setNext a sl i ep) Q E s)
  (hQ:∀h',j3 h' it a (.int nx 0) (i+1) n ep->(∀b,b≠it->h'.get? b=s.heap.get? b)->Q (some x) {s with heap:=h'}):wpAny (model prog w) A (pyNext (.ref it)) Q E s:=by
 obtain⟨oi,ho,hc,hd⟩:=id hit
 unfold pyNext
 refine wpAny_bind (wpAny_attempt (wpAny_callSpecial?_slot (name:=Str.ofString "__next__") hit.ty jt (wpAny_call_entry jt hit.ty yD ?_ (yV _))))
 refine yY hit g1 g3 g4 hn ?_
 dsimp only
 refine wpAny_bind (hN _ _ ?_)
 dsimp only
 obtain⟨u1,u2,u3⟩:=xK (first:= .none) (i:=0) (n:=0) (k:=0) (x:=rawInt nx) ho hc hd
 obtain⟨w1,w2,w3⟩:=xK (first:= .none) (i:=0) (n:=0) (k:=1) (x:=rawInt ((i:Int)+1)) u1 u2 u3
 refine wpAny_bind (wpAny_setField ho hd (by simp) ?_)
 refine wpAny_bind (wpAny_setField u1 u3 (by simp) ?_)
 refine wpAny_pure ⟨x,rfl,wpAny_pure (hQ _ ⟨_,w1,w2,?_⟩ fun b hb=>?_)⟩
 ·rw[w3];simp[rawInt]
 ·exact((k7 _ _ (cR hb))).trans (k7 _ _ (cR hb))
theorem LV{QQ:Fin->Shared->Prop}{B:Around}{Q:Option Value->Shared->Prop}(hh:B.handled=none)(hQ:∀o1 o2,Q none {s with heap:=(s.heap.push o1).push o2}):wpAny (model prog w) B (do raiseNew (<-newExc (.type "StopIteration") [])) QQ
  (fun e s'=>wpAny (model prog w) A (do if<-isInstance e (.type "StopIteration") then pure none else throw e) Q E s') s:=by
 refine wpAny_bind ?_
 simp only[newExc,newTuple]
 refine wpAny_bind (wpAny_newObj_type ?_ (by size_fits))
 refine wpAny_bind (m:=firstArgMember _ _) (wpAny_of_eq (a:=Value.none) (by first|rfl|(simp only[firstArgMember];rfl)) (wpAny_newObj_type ?_ (by size_fits)))
 simp only[raiseNew]
 refine wpAny_bind (wpAny_handled ?_)
 rw[hh]
 refine wpAny_bind (wpAny_pure (wpAny_throw ?_))
 refine wpAny_bind (wpAny_isInstance (b:=true) (T:="StopIteration") ⟨_,fS _ rfl,rfl⟩ isSubtype_stop ?_)
 exact wpAny_pure (hQ _ _)
theorem Fz{sl i n:Nat}{Q:Option Value->Shared->Prop}(hh:A.handled=none)(hit:j3 s.heap it a (.int sl 0) i n ep)(g1:s.heap.get? a=some o)(g3:o.data= .set es ep t)(g4:t.fits es.size=true)(hn:es.size=n)
  (hN:∀(Q:Option (Value×Nat)->Shared->Prop) (E:Value->Shared->Prop),Q none s->wpAny (model prog w) A.in1 (setNext a sl i ep) Q E s)
  (hQ:∀h',(∀b o,b≠it->s.heap.get? b=some o->h'.get? b=some o)->Q none {s with heap:=h'}):wpAny (model prog w) A (pyNext (.ref it)) Q E s:=by
 obtain⟨oi,ho,hc,hd⟩:=id hit
 unfold pyNext
 refine wpAny_bind (wpAny_attempt (wpAny_callSpecial?_slot (name:=Str.ofString "__next__") hit.ty jt (wpAny_call_entry jt hit.ty yD ?_ (yV _))))
 refine yY hit g1 g3 g4 hn ?_
 dsimp only
 refine wpAny_bind (hN _ _ ?_)
 dsimp only
 refine wpAny_bind (wpAny_setField ho hd (by simp) ?_)
 exact LV (B:=A.in1) hh fun o1 o2=>hQ _ fun b o hb e=>cz _ (cz _ ((k7 _ _ (cR hb)).trans e))
theorem QM{i n pl:Nat}{hx:Int}{x:Value}{uc:Array Value}{Q:Option Value->Shared->Prop}(hit:j3 s.heap it a (.ref tp) i n ep)(g1:s.heap.get? a=some o)(g3:o.data= .set es ep t)(g4:t.fits es.size=true)(hn:es.size=n)
  (htp:∃ot m,s.heap.get? tp=some ot/\ot.data= .seq uc m) (hp:uc[i]?=some (.int pl 0)) (he:es[pl]?=some (hx,x))
  (hQ:∀h',j3 h' it a (.ref tp) (i+1) n ep->(∀b,b≠it->h'.get? b=s.heap.get? b)->Q (some x) {s with heap:=h'}):wpAny (model prog w) A (pyNext (.ref it)) Q E s:=by
 obtain⟨oi,ho,hc,hd⟩:=id hit
 obtain⟨ot,m,t1,t2⟩:=htp
 unfold pyNext
 refine wpAny_bind (wpAny_attempt (wpAny_callSpecial?_slot (name:=Str.ofString "__next__") hit.ty jt (wpAny_call_entry jt hit.ty yD ?_ (yV _))))
 refine yY hit g1 g3 g4 hn ?_
 dsimp only
 refine wpAny_bind (wpAny_seqItems t1 t2 ?_)
 dsimp only
 rw[hp]
 dsimp only
 refine wpAny_bind (WV g1 g3 g4 (by simpa using he) ?_)
 obtain⟨w1,w2,w3⟩:=xK (first:= .none) (i:=0) (n:=0) (k:=1) (x:=rawInt ((i:Int)+1)) ho hc hd
 refine wpAny_bind (wpAny_setField ho hd (by simp) (wpAny_pure ⟨x,rfl,wpAny_pure (hQ _ ⟨_,w1,w2,?_⟩ fun b hb=>k7 _ _ (cR hb))⟩))
 rw[w3];simp[rawInt]
theorem Yc{i n:Nat}{uc:Array Value}{Q:Option Value->Shared->Prop}(hh:A.handled=none)(hit:j3 s.heap it a (.ref tp) i n ep)(g1:s.heap.get? a=some o)(g3:o.data= .set es ep t)(g4:t.fits es.size=true)(hn:es.size=n)
  (htp:∃ot m,s.heap.get? tp=some ot/\ot.data= .seq uc m) (hp:uc[i]?=none)
  (hQ:∀h',(∀b o,b≠it->s.heap.get? b=some o->h'.get? b=some o)->Q none {s with heap:=h'}):wpAny (model prog w) A (pyNext (.ref it)) Q E s:=by
 obtain⟨oi,ho,hc,hd⟩:=id hit
 obtain⟨ot,m,t1,t2⟩:=htp
 unfold pyNext
 refine wpAny_bind (wpAny_attempt (wpAny_callSpecial?_slot (name:=Str.ofString "__next__") hit.ty jt (wpAny_call_entry jt hit.ty yD ?_ (yV _))))
 refine yY hit g1 g3 g4 hn ?_
 dsimp only
 refine wpAny_bind (wpAny_seqItems t1 t2 ?_)
 dsimp only
 rw[hp]
 dsimp only
 obtain⟨u1,u2,u3⟩:=xK (first:= .none) (i:=0) (n:=0) (k:=0) (x:=rawInt 0) ho hc hd
 refine wpAny_bind (wpAny_setField ho hd (by simp) (wpAny_bind (wpAny_setField u1 u3 (by simp) ?_)))
 exact LV (B:=A.in1) hh fun o1 o2=>hQ _ fun b o hb e=>cz _ (cz _ ((k7 _ _ (cR hb)).trans ((k7 _ _ (cR hb)).trans e)))
end
end L2
set_option maxRecDepth 100000
set_option maxHeartbeats 4000000
namespace L2
open PySem PySem.Spec PyProof.Rows
noncomputable def slotAt(xs:Array Nat):Nat->Nat
 |0=>0
 |i+1=>xs.getD i 0+1
theorem Yb(xs:Array Nat):slotAt xs 0=0:=rfl
theorem IE(xs:Array Nat)(i:Nat):slotAt xs (i+1)=xs.getD i 0+1:=rfl
theorem JC{xs:Array Nat}(hr:j5 xs){i:Nat}(hi:i<=xs.size):SetTable.below xs (slotAt xs i)=i:=by
  obtain⟨h1,h2,h3⟩:=below_at (q:=slotAt xs i) hr
  have g:∀{j:Nat},j<xs.size->∃y,xs[j]?=some y/\xs.getD j 0=y:=fun{j} hj=>⟨xs[j],kX hj,by rw[E5,kX hj];rfl⟩
  rcases Nat.lt_trichotomy (SetTable.below xs (slotAt xs i)) i with z|z|z
  · obtain⟨y,e,_⟩:=g (dM z hi)
    have:=h3 _ y (aE _) e
    cases i with
    |zero=>walk_at "o"
    | succ i =>
      obtain⟨y',e',d'⟩:=g (j:=i) (by walk_at "o")
      have es:=IE xs i
      rw[d'] at es
      rcases Cg (Nat.le_of_lt_succ z) with z|z
      · have:=hr _ _ _ _ z e e';walk_at "o"
      · rw[z,e'] at e;cases e;walk_at "o"
  · exact z
  · obtain⟨y,e,d⟩:=g (j:=i) (by walk_at "o")
    have:=h2 i y z e
    cases i with
    |zero=>rw[Yb] at this;walk_at "o"
    | succ i =>
      obtain⟨y',e',d'⟩:=g (j:=i) (by walk_at "o")
      rw[IE,d'] at this
      have:=hr i (i+1) _ _ (by walk_at "o") e' e
      walk_at "o"
section
variable{prog:Program}{w:World}{a I tp:Addr}{o:Obj}{es:Array (Int×Value)}{ep:Nat}{t:SetTable}
theorem LB(h:t.fits es.size=true):t.place.size=es.size:=by
 unfold SetTable.fits at h
 rw[dN] at h
 exact eq_of_beq h.1
theorem S0{A:Around}(hh:A.handled=none)(bt:eW w=true)(g3:o.data= .set es ep t)(g4:t.fits es.size=true)(hne:a≠I):
  Walks prog w A I [I,a] [I] es.size (fun i v=>((pickOrder (w.params.setOrder a ep) es).toList.map (·.2))[i]?=some v) (fun i h=>j3 h I a (.int (0:Nat) 0) i es.size ep/\h.get? a=some o) where
 sub:=fun b hb=>by simp at hb;simp[hb]
 frame:=fun i h h' st hk=>by
  obtain⟨⟨oi,h1,h2,h3⟩,h4⟩:=st
  exact⟨⟨oi,hk I (by simp) _ h1,h2,h3⟩,hk a (by simp) _ h4⟩
 item:=fun i s Q E hi st hQ=>by
  have hsz:(pickOrder (w.params.setOrder a ep) es).toList.length=es.size:=by
   have:=(Ax (w.params.setOrder a ep) es.size 0 es.toList #[] (by simp)).length_eq
   simpa[pickOrder] using this
  have hlt:i<(pickOrder (w.params.setOrder a ep) es).toList.length:=by walk_at "o"
  have e1:(pickOrder (w.params.setOrder a ep) es)[i]?=some (pickOrder (w.params.setOrder a ep) es).toList[i]:=by rw[<-jj];exact bE hlt
  refine Fj st.1 st.2 g3 g4 rfl (x:=(pickOrder (w.params.setOrder a ep) es).toList[i].2) (nx:=0) (fun Q E q=>Mc bt st.2 g3 g4 (by rw[e1];exact q)) fun h' x1 x2=>?_
  refine hQ _ h' s.toks (by rw[dG,bE hlt];rfl) ⟨x1,(x2 a hne).trans st.2⟩ fun b o' hb e=>(x2 b (fun z=>hb (by simp[z]))).trans e
 done:=fun s Q E st hQ=>by
  have hsz:(pickOrder (w.params.setOrder a ep) es).toList.length=es.size:=by
   have:=(Ax (w.params.setOrder a ep) es.size 0 es.toList #[] (by simp)).length_eq
   simpa[pickOrder] using this
  refine Fz hh st.1 st.2 g3 g4 rfl (fun Q E q=>Mc bt st.2 g3 g4 (by rw[<-jj,rO (by walk_at "o")];exact q)) fun h' x1=>hQ h' s.toks fun b o' hb e=>x1 b o' (fun z=>hb (by simp[z])) e
 self:=fun i s Q E st hQ=>by
  refine wpAny_pyIter_slot st.1.ty rK (wpAny_call_entry rK st.1.ty D3 ?_ (Ay _))
  exact wpAny_pure ⟨_,rfl,"set_iterator",_,st.1.ty,jt.lookup,hQ⟩
theorem Qk{A:Around}(hh:A.handled=none)(bt:eW w=false)(g3:o.data= .set es ep t)(g4:t.fits es.size=true)(tk:dQ (eW w) t)(pl:t.plain=true\/es.size<=1)(hne:a≠I):
  Walks prog w A I [I,a] [I] es.size (fun i v=>(es.toList.map (·.2))[i]?=some v) (fun i h=>j3 h I a (.int (slotAt t.place i) 0) i es.size ep/\h.get? a=some o) where
 sub:=fun b hb=>by simp at hb;simp[hb]
 frame:=fun i h h' st hk=>by
  obtain⟨⟨oi,h1,h2,h3⟩,h4⟩:=st
  exact⟨⟨oi,hk I (by simp) _ h1,h2,h3⟩,hk a (by simp) _ h4⟩
 item:=fun i s Q E hi st hQ=>by
  have hps:=LB g4
  have hr:j5 t.place:=by
   rcases pl with p|p
   ·exact tk.AX p
   ·intro i j x y hij ex ey
    have:=(uZ.mp ey).1;walk_at "o"
  have hlt:i<es.toList.length:=by simpa using hi
  have e1:es[i]?=some es.toList[i]:=by rw[<-jj];exact bE hlt
  have e2:t.place[i]?=some (t.place.getD i 0):=by rw[E5,kX (by walk_at "o")];rfl
  refine Fj st.1 st.2 g3 g4 rfl (x:=es.toList[i].2) (nx:=slotAt t.place (i+1)) (fun Q E q=>Gf bt st.2 g3 g4 tk pl (by rw[JC hr (by walk_at "o"),e1,e2];exact q)) fun h' x1 x2=>?_
  refine hQ _ h' s.toks (by rw[dG,bE hlt];rfl) ⟨x1,(x2 a hne).trans st.2⟩ fun b o' hb e=>(x2 b (fun z=>hb (by simp[z]))).trans e
 done:=fun s Q E st hQ=>by
  have hps:=LB g4
  have hr:j5 t.place:=by
   rcases pl with p|p
   ·exact tk.AX p
   ·intro i j x y hij ex ey
    have:=(uZ.mp ey).1;walk_at "o"
  refine Fz hh st.1 st.2 g3 g4 rfl (fun Q E q=>Gf bt st.2 g3 g4 tk pl (by rw[JC hr (by walk_at "o"),DJ (aE _)];exact q)) fun h' x1=>hQ h' s.toks fun b o' hb e=>x1 b o' (fun z=>hb (by simp[z])) e
 self:=fun i s Q E st hQ=>by
  refine wpAny_pyIter_slot st.1.ty rK (wpAny_call_entry rK st.1.ty D3 ?_ (Ay _))
  exact wpAny_pure ⟨_,rfl,"set_iterator",_,st.1.ty,jt.lookup,hQ⟩
theorem YJ{A:Around}{ks:List Nat}(hh:A.handled=none)(g3:o.data= .set es ep t)(g4:t.fits es.size=true)(hk:ks.Perm (List.range es.size))(hne:a≠I)(hnt:tp≠I):
    Walks prog w A I [I,a,tp] [I] es.size (fun i v=>((ks.filterMap (es[·]?)).map (·.2))[i]?=some v) (fun i h=>j3 h I a (.ref tp) i es.size ep/\h.get? a=some o/\∃ot m,h.get? tp=some ot/\ot.data= .seq (ks.map fun(k:Nat)=>rawInt k).toArray m) where
  sub:=fun b hb=>by simp at hb;simp[hb]
  frame:=fun i h h' st hk=>by
    obtain⟨⟨oi,h1,h2,h3⟩,h4,ot,m,h5,h6⟩:=st
    exact⟨⟨oi,hk I (by simp) _ h1,h2,h3⟩,hk a (by simp) _ h4,ot,m,hk tp (by simp) _ h5,h6⟩
  item:=fun i s Q E hi st hQ=>by
    have hlen:ks.length=es.size:=by rw[hk.length_eq];simp
    have hin:∀k∈ks,k<es.size:=fun k m=>by simpa using hk.mem_iff.mp m
    have hi':i<ks.length:=by walk_at "o"
    have hki:=hin ks[i] (nk hi')
    have e1:es[ks[i]]?=some es[ks[i]]:=kX hki
    have fm:∀(l:List Nat),(∀k∈l,k<es.size)->∀j (hj:j<l.length),(l.filterMap (es[·]?))[j]?=es[l[j]]?:=by
      intro l
      induction l with
      |nil=>intro _ j hj;simp at hj
      | cons b r ih =>
        intro hl j hj
        have hb:=hl b (bT ..)
        rw[kq,kX hb]
        cases j with
        |zero=>simp[kX hb]
        |succ j=>simpa using ih (fun k m=>hl k (bJ _ m)) j (by simpa using hj)
    refine QM st.1 st.2.1 g3 g4 rfl st.2.2 (pl:=ks[i]) (hx:=es[ks[i]].1) (x:=es[ks[i]].2) (by simp[bE hi',rawInt]) e1 fun h' x1 x2=>?_
    obtain⟨ot,m,t1,t2⟩:=st.2.2
    refine hQ _ h' s.toks ?_ ⟨x1,(x2 a hne).trans st.2.1,ot,m,(x2 tp hnt).trans t1,t2⟩ fun b o' hb e=>(x2 b (fun z=>hb (by simp[z]))).trans e
    rw[dG,fm ks hin i hi',e1];rfl
  done:=fun s Q E st hQ=>by
    have hlen:ks.length=es.size:=by rw[hk.length_eq];simp
    exact Yc hh st.1 st.2.1 g3 g4 rfl st.2.2 (by simp;walk_at "o") fun h' x1=>hQ h' s.toks fun b o' hb e=>x1 b o' (fun z=>hb (by simp[z])) e
  self:=fun i s Q E st hQ=>by
    refine wpAny_pyIter_slot st.1.ty rK (wpAny_call_entry rK st.1.ty D3 ?_ (Ay _))
    exact wpAny_pure ⟨_,rfl,"set_iterator",_,st.1.ty,jt.lookup,hQ⟩
end
section
variable{prog:Program}{w:World}{A:Around}{E:Value->Shared->Prop}{s:Shared}{a:Addr}{o:Obj}{es:Array (Int×Value)}{ep:Nat}{t:SetTable}
theorem Nr{α:Type}:∀l:List α,(List.range l.length).filterMap (fun i=>l[i]?)=l
  |[]=>rfl
  | x :: l => by
    have:=Nr l
    rw[bw,A7,kq,List.filterMap_map]
    simpa[Function.comp_def] using this
theorem T6{src:Source}{n:Nat}{Q:Nat->Shared->Prop}(hn:n≠0)(h:∀i d',i<n->Q i {s with drawn:=d'}):wpAny (model prog w) A (choose src n) Q E s:=fun Γ p _=>⟨hn,h _ _ (z5 _ (Nat.pos_of_ne_zero hn))⟩
theorem Kl{α:Type}:∀(n:Nat) (xs:List α) (s:Shared) (Q:List α->Shared->Prop),xs.length<=n->(∀ks d',ks.Perm xs->Q ks {s with drawn:=d'})->wpAny (model prog w) A (drawOrder n xs) Q E s
  | 0, xs, s, Q, hl, h => by
    have:xs=[]:=pH.mp (by walk_at "o")
    subst this
    unfold drawOrder
    exact wpAny_pure (h [] s.drawn .nil)
  | n + 1, [], s, Q, hl, h => by
    unfold drawOrder
    exact wpAny_pure (h [] s.drawn .nil)
  | n + 1, x :: xs, s, Q, hl, h => by
    unfold drawOrder
    refine wpAny_bind (T6 (by simp) fun i d' hi=>?_)
    rw[bE hi]
    dsimp only
    refine wpAny_bind (Kl n _ _ _ (by rw[Bp hi];simp at hl⊢;walk_at "o") fun ks d2 hk=>?_)
    exact wpAny_pure (h _ d2 ((hk.cons _).trans (Ce hi)))
theorem T9(g1:s.heap.get? a=some o)(g3:o.data= .set es ep t)(g4:t.fits es.size=true){Q:Bool->Shared->Prop}(h:Q (!eW w &&(!t.plain && decide (es.size>1))) s):wpAny (model prog w) A (setDrawn a) Q E s:=by
 unfold setDrawn
 refine wpAny_bind (wpAny_setState_of g1 g3 g4 ?_)
 dsimp only
 unfold setsByText
 refine wpAny_bind (wpAny_bind (wpAny_askSetting (wpAny_pure ?_)))
 exact wpAny_pure h
theorem NF(g1:s.heap.get? a=some o)(g3:o.data= .set es ep t)(g4:t.fits es.size=true){Q:Nat->Shared->Prop}(h:Q ep s):wpAny (model prog w) A (setEpoch a) Q E s:=by
 unfold setEpoch
 exact wpAny_bind (wpAny_setState_of g1 g3 g4 (wpAny_pure h))
theorem Yq{Q:Value->Shared->Prop}(hb:es.size<scanBound)(g1:s.heap.get? a=some o)(g2:o.ExactSet)(g3:o.data= .set es ep t)(g4:t.fits es.size=true)(tk:dQ (eW w) t)
    (hQ:∀(I:Addr) (h':Heap) d' (items:List Value) (fp:List Addr) (St:Nat->Heap->Prop),(∀b o,s.heap.get? b=some o->h'.get? b=some o)->s.heap.objs.size<=I->(∀b∈fp,b=a\/s.heap.objs.size<=b)->I∈fp->(∀b∈fp,b<h'.objs.size)->items.Perm (es.toList.map (·.2))->
      (∀B:Around,B.handled=none->Walks prog w B I fp [I] items.length (fun i v=>items[i]?=some v) St)->St 0 h'->Q (.ref I) {s with heap:=h',drawn:=d'}):wpAny (model prog w) A (pyIter (.ref a)) Q E s:=by
  have hT:s.TypeIs (.ref a) "set":=⟨o,g1,g2.1⟩
  have hlt:=bC g1
  refine wpAny_pyIter_slot hT Mm (wpAny_call_entry Mm hT XQ ?_ (Uv _))
  unfold Builtin.«frozenset.__iter__»
  unfold Builtin.Frozenset.slot0 slotArgs
  simp only[List.isEmpty_nil,sW,kZ,↓reduceIte,bind_assoc,D9,bne_self_eq_false]
  unfold Builtin.Frozenset.addrOf Builtin.Frozenset.sizeOf
  refine wpAny_bind (wpAny_pure ?_)
  try dsimp only
  refine wpAny_bind (wpAny_pure ?_)
  refine wpAny_bind (wpAny_bind (wpAny_setEntries_of g1 g3 g4 (wpAny_pure ?_)))
  refine wpAny_bind (T9 g1 g3 g4 ?_)
  by_cases c:(!eW w &&(!t.plain && decide (es.size>1)))=true
  · rw[if_pos c]
    refine wpAny_bind (Kl es.size (List.range es.size) s _ (by simp) fun ks d' hk=>?_)
    unfold newTuple
    refine wpAny_bind (wpAny_newObj_type ?_ ?_)
    rotate_left
    · have hk0:ks.length=es.size:=by rw[hk.length_eq];simp
      show(List.map (fun(i:Nat)=>rawInt i) ks).toArray.size<=sizeLine
      rw[cN,ay,hk0]
      exact fits_of_scanBound hb
    have uf:=cz ({cls:= .type "tuple",data:= .seq (ks.map fun(i:Nat)=>rawInt i).toArray}:Obj) g1
    refine wpAny_bind (NF (s:={s with heap:=_,drawn:=d'}) uf g3 g4 ?_)
    unfold newFields
    refine wpAny_bind (wpAny_newObj_type ?_)
    have hk0:ks.length=es.size:=by rw[hk.length_eq];simp
    have fin:=hQ
    clear hQ
    have mw:(s.heap.push ({cls:= .type "tuple",data:= .seq (ks.map fun(i:Nat)=>rawInt i).toArray}:Obj)).objs.size=s.heap.objs.size+1:=mQ ..
    have gT:(s.heap.push ({cls:= .type "tuple",data:= .seq (ks.map fun(i:Nat)=>rawInt i).toArray}:Obj)).get? s.heap.objs.size=some {cls:= .type "tuple",data:= .seq (ks.map fun(i:Nat)=>rawInt i).toArray}:=fS _ rfl
    have gO:∀b o,s.heap.get? b=some o->(s.heap.push ({cls:= .type "tuple",data:= .seq (ks.map fun(i:Nat)=>rawInt i).toArray}:Obj)).get? b=some o:=fun b o e=>cz _ e
    generalize R8:s.heap.push ({cls:= .type "tuple",data:= .seq (ks.map fun(i:Nat)=>rawInt i).toArray}:Obj)=h1 at uf mw gT gO⊢
    have gI:(h1.push ({cls:= .type "set_iterator",data:= .fields #[.ref s.heap.objs.size,rawInt 0, .ref a,rawInt es.size,rawInt ep]}:Obj)).get? h1.objs.size=some {cls:= .type "set_iterator",data:= .fields #[.ref s.heap.objs.size,rawInt 0, .ref a,rawInt es.size,rawInt ep]}:=fS _ rfl
    have gS:=cz ({cls:= .type "set_iterator",data:= .fields #[.ref s.heap.objs.size,rawInt 0, .ref a,rawInt es.size,rawInt ep]}:Obj) uf
    have OR:=cz ({cls:= .type "set_iterator",data:= .fields #[.ref s.heap.objs.size,rawInt 0, .ref a,rawInt es.size,rawInt ep]}:Obj) gT
    have Wg:(h1.push ({cls:= .type "set_iterator",data:= .fields #[.ref s.heap.objs.size,rawInt 0, .ref a,rawInt es.size,rawInt ep]}:Obj)).objs.size=h1.objs.size+1:=mQ ..
    subst R8
    refine wpAny_pure ⟨_,rfl,"set_iterator",_,⟨_,gI,rfl⟩,jt.lookup,?_⟩
    have pp:(ks.filterMap (es[·]?)).Perm es.toList:=by
      have:=hk.filterMap (es[·]?)
      have e:(List.range es.size).filterMap (es[·]?)=es.toList:=by
        have:=Nr es.toList
        simpa using this
      rwa[e] at this
    have hn:((ks.filterMap (es[·]?)).map (·.2)).length=es.size:=by rw[ay,pp.length_eq];simp
    have rW:=EO (o7 s.heap.objs.size) mw.symm
    refine fin _ _ d' ((ks.filterMap (es[·]?)).map (·.2)) [_,a,s.heap.objs.size] _ (fun b o e=>cz _ (gO b o e)) (mh rW) (fun b m=>?_) (bT ..) (fun b m=>?_) (pp.map _) (fun B hB=>by rw[hn];exact YJ hB g3 g4 hk (cX (t7 hlt rW)) (cX rW)) ?_
    · rcases aA.mp m with e|m
      · exact .inr (by rw[e];exact mh rW)
      · rcases aA.mp m with e|m
        · exact .inl e
        · exact .inr (mY (az.mp m).symm)
    · refine EO ?_ Wg.symm
      rcases aA.mp m with e|m
      · rw[e];exact o7 _
      · rcases aA.mp m with e|m
        · rw[e];exact oB (t7 hlt rW)
        · rw[az.mp m];exact oB rW
    · exact⟨⟨_,gI,rfl,rfl⟩,gS,_,_,OR,rfl⟩
  · rw[if_neg c]
    refine wpAny_bind (wpAny_pure ?_)
    refine wpAny_bind (NF g1 g3 g4 ?_)
    unfold newFields
    refine wpAny_bind (wpAny_newObj_type ?_)
    have gI:(s.heap.push ({cls:= .type "set_iterator",data:= .fields #[rawInt 0,rawInt 0, .ref a,rawInt es.size,rawInt ep]}:Obj)).get? s.heap.objs.size=some {cls:= .type "set_iterator",data:= .fields #[rawInt 0,rawInt 0, .ref a,rawInt es.size,rawInt ep]}:=fS _ rfl
    have gS:=cz ({cls:= .type "set_iterator",data:= .fields #[rawInt 0,rawInt 0, .ref a,rawInt es.size,rawInt ep]}:Obj) g1
    have hfp:∀b∈[s.heap.objs.size,a],b=a\/s.heap.objs.size<=b:=fun b m=>by
      rcases aA.mp m with e|m
      · exact .inr (mY e.symm)
      · exact .inl (az.mp m)
    have hsz:(s.heap.push ({cls:= .type "set_iterator",data:= .fields #[rawInt 0,rawInt 0, .ref a,rawInt es.size,rawInt ep]}:Obj)).objs.size=s.heap.objs.size+1:=mQ ..
    have IJ:∀b∈[s.heap.objs.size,a],b<(s.heap.push ({cls:= .type "set_iterator",data:= .fields #[rawInt 0,rawInt 0, .ref a,rawInt es.size,rawInt ep]}:Obj)).objs.size:=fun b m=>by
      rw[hsz]
      rcases aA.mp m with e|m
      · rw[e];exact o7 _
      · rw[az.mp m];exact oB hlt
    refine wpAny_pure ⟨_,rfl,"set_iterator",_,⟨_,gI,rfl⟩,jt.lookup,?_⟩
    cases bt:eW w with
    | true =>
      have pp:(pickOrder (w.params.setOrder a ep) es).toList.Perm es.toList:=by simpa[pickOrder] using Ax (w.params.setOrder a ep) es.size 0 es.toList #[] (by simp)
      have hn:((pickOrder (w.params.setOrder a ep) es).toList.map (·.2)).length=es.size:=by rw[ay,pp.length_eq];simp
      refine hQ _ _ s.drawn ((pickOrder (w.params.setOrder a ep) es).toList.map (·.2)) [s.heap.objs.size,a] _ (fun b o e=>cz _ e) (aE _) hfp (by simp) IJ (pp.map _) (fun B hB=>by rw[hn];exact S0 hB bt g3 g4 (cX hlt)) ?_
      exact⟨⟨_,gI,rfl,rfl⟩,gS⟩
    | false =>
      have pl:t.plain=true\/es.size<=1:=by
        rw[bt,Bool.not_false,Bool.true_and] at c
        cases hp:t.plain with
        |true=>exact .inl rfl
        | false =>
          rw[hp,Bool.not_false,Bool.true_and,decide_eq_true_eq] at c
          exact .inr (by walk_at "o")
      have hn:(es.toList.map (·.2)).length=es.size:=by simp
      refine hQ _ _ s.drawn (es.toList.map (·.2)) [s.heap.objs.size,a] _ (fun b o e=>cz _ e) (aE _) hfp (by simp) IJ (.refl _) (fun B hB=>by rw[hn];exact Qk hB bt g3 g4 tk pl (cX hlt)) ?_
      exact⟨⟨_,gI,rfl,rfl⟩,gS⟩
end
end L2
set_option maxRecDepth 100000
set_option maxHeartbeats 4000000
namespace L2
open PySem PySem.Spec PyProof.Rows
section
variable{prog:Program}{w:World}{A:Around}{E:Value->Shared->Prop}{s:Shared}{a:Addr}{o:Obj}{es:Array (Int×Value)}{ep:Nat}{t:SetTable}
theorem Oo{Q:Bool->Shared->Prop}(hT:s.TypeIs (.ref a) "set")(h:Q false s):wpAny (model prog w) A (Builtin.List.listLengthHint (.ref a)) Q E s:=by
 unfold Builtin.List.listLengthHint
 refine wpAny_bind (wpAny_specialOf hT PySem.F.slot_set_len.lookup ?_)
 generalize hid:("set.__len__":String)=id0
 wp_delta
 rw[show splitId id0=some ("set","__len__") from by subst hid;decide+kernel]
 subst hid
 refine wpAny_bind (wpAny_isInstance (b:=true) (T:="set") hT (by rw[isSubtype_type];kernel_rfl) ?_)
 refine wpAny_ite_split (fun z=>absurd z (by decide)) fun _=>wpAny_ite_split (fun _=>?_) fun z=>absurd (by decide+kernel) z
 exact wpAny_bind (wpAny_typeOf hT (wpAny_pure h))
theorem U9{items:List Value}{acc:Array Value}(h:ItemsOf (fun i v=>items[i]?=some v) acc items.length):acc.toList=items:=by
 apply oW
 intro i
 by_cases hi:i<acc.size
 ·have e:acc[i]?=some acc[i]:=kX hi
  rw[jj,e,h.2 i _ e]
 ·have:=h.1
  rw[rO (by simp;walk_at "o"),rO (by walk_at "o")]
theorem U4{Q:List Value->Shared->Prop}(hh:A.handled=none)(hb:es.size<scanBound)(g1:s.heap.get? a=some o)(g2:o.ExactSet)(g3:o.data= .set es ep t)(g4:t.fits es.size=true)(tk:dQ (eW w) t)
  (hQ:∀h' d' tk' items,(∀b o,s.heap.get? b=some o->h'.get? b=some o)->s.heap.objs.size<=h'.objs.size->items.Perm (es.toList.map (·.2))->Q items {s with heap:=h',drawn:=d',toks:=tk'}):wpAny (model prog w) A (collect (.ref a)) Q E s:=by
 have hlt:=bC g1
 unfold collect
 refine wpAny_bind (wpAny_runValue (codeAny_builtin PySem.F.entry_proto_collect ?_))
 rw[uU PySem.F.plain_proto_collect _]
 show wpAny _ A.in1 (newList []>>=fun l=>again (.builtin "list.__iadd__" ⟨[l, .ref a],[]⟩)) _ _ s
 refine wpAny_bind (wpAny_newObj_type ?_)
 refine wpAny_pure ⟨plainId_quiet HR _,codeAny_builtin PySem.F.entry_list_iadd ?_⟩
 rw[uU HR _]
 have gL:(s.heap.push ({cls:= .type "list",data:= .seq ([]:List Value).toArray}:Obj)).get? s.heap.objs.size=some {cls:= .type "list",data:= .seq ([]:List Value).toArray}:=fS _ rfl
 have gA:=cz ({cls:= .type "list",data:= .seq ([]:List Value).toArray}:Obj) g1
 have IZ:(s.heap.push ({cls:= .type "list",data:= .seq ([]:List Value).toArray}:Obj)).objs.size=s.heap.objs.size+1:=mQ ..
 show wpAny _ A.in1 (Builtin.List.listExtendWith (.ref s.heap.objs.size) (.ref a) (.ref s.heap.objs.size)) _ _ {s with heap:=s.heap.push ({cls:= .type "list",data:= .seq ([]:List Value).toArray}:Obj)}
 have hkeep:∀b o,s.heap.get? b=some o->(s.heap.push ({cls:= .type "list",data:= .seq ([]:List Value).toArray}:Obj)).get? b=some o:=fun b o e=>cz _ e
 generalize s.heap.push ({cls:= .type "list",data:= .seq ([]:List Value).toArray}:Obj)=h1 at gL gA IZ hkeep⊢
 unfold Builtin.List.listExtendWith
 refine wpAny_bind (wpAny_typeOf (T:="set") ⟨o,gA,g2.1⟩ ?_)
 have n1:Builtin.List.listSameRef (.ref s.heap.objs.size) (.ref a)=false:=by
  show(s.heap.objs.size==a)=false
  exact beq_eq_false_iff_ne.mpr (Ak hlt)
 have n2:(Value.type "set"==Value.type "list")=false:=by decide
 have n3:(Value.type "set"==Value.type "tuple")=false:=by decide
 simp only[n1,n2,n3,oH,kZ,if_false]
 refine wpAny_bind (Yq (s:={s with heap:=h1}) hb gA g2 g3 g4 tk fun I h2 d' items fp St k1 k2 k3 k4 k5 pp W st=>?_)
 have Rz:=k1 _ _ gA
 have DZ:=k1 _ _ gL
 refine wpAny_bind (wpAny_holding (Oo (s:={s with heap:=h2,drawn:=d'}) ⟨o,Rz,g2.1⟩ ?_))
 have lS:s.heap.objs.size<h1.objs.size:=EO (o7 _) IZ.symm
 have nS:s.heap.objs.size∉fp:=fun m=>by
  rcases k3 _ m with e|e
  ·exact absurd e (Ak hlt)
  ·exact absurd (dM lS e) (lQ _)
 have hil:items.length<=sizeLine:=by
  rw[pp.length_eq,ay,cV];exact fits_of_scanBound hb
 have key:∀(h3:Heap) (c:Nat),St 0 h3->(∀b o,b≠s.heap.objs.size->h2.get? b=some o->h3.get? b=some o)->h3.get? s.heap.objs.size=some {cls:= .type "list",data:= .seq #[] c}->
   codeAny (model prog w) A (.builtin "list.extend.loop" ⟨[.ref s.heap.objs.size, .ref I, .ref s.heap.objs.size],[]⟩) (fun r s'=>match r with
    | .ok (.ret v)=>wpAny (model prog w) A (match v with| .ref x=>(do match(<-load x).data with| .seq xs _=>pure xs.toList|_=>unsupported "internal:collect")|_=>unsupported "internal:collect") Q E s'
    | .ok _=>False
    | .error e=>E e s') {s with heap:=h3,drawn:=d'}:=by
  intro h3 c st3 q1 q2
  refine codeAny_extend_loopS ((W A.in1 hh).toS) hil _ nS _ items.length 0 _ #[] c rfl (eU _) st3 q2 (ItemsOf.nil _) fun s' acc c' mo q3 q4=>?_
  refine wpAny_bind (wpAny_load q3 (wpAny_pure ?_))
  rw[U9 q4,Moved.eq_with mo]
  refine hQ s'.heap d' s'.toks items (fun b o e=>?_) ?_ pp
  ·have nb:b≠s.heap.objs.size:=cX (bC e)
   refine mo.heap b o (fun m=>?_) (q1 b o nb (k1 b o (hkeep b o e)))
   rcases aA.mp m with z|z
   ·exact nb z
   ·have z:=az.mp z
    rw[z] at e
    exact absurd (dM (t7 (bC e) lS) k2) (lQ _)
  ·exact mh (bC q3)
 refine wpAny_ite_split (fun _=>?_) fun _=>wpAny_pure ⟨plainId_quiet GD _,key h2 _ st (fun _ _ _ e=>e) DZ⟩
 refine wpAny_bind (wpAny_rule (wpAny_bind ?_))
 show wpAny _ A.in1 (updateSeq s.heap.objs.size (·.push .none)>>=fun _=>updateSeq s.heap.objs.size (·.pop)) _ _ _
 have u1:=yg (Obj.mapSeq (·.push Value.none)) DZ rfl
 have u2:=yg (Obj.mapSeq (·.pop)) u1 rfl
 refine wpAny_bind (wpAny_updateSeq DZ rfl (wpAny_updateSeq (hz:=by seq_fits) u1 rfl ?_))
 have JD:∀b o,b≠s.heap.objs.size->h2.get? b=some o->((h2.update s.heap.objs.size (Obj.mapSeq (·.push Value.none))).update s.heap.objs.size (Obj.mapSeq (·.pop))).get? b=some o:=fun b o nb e=>(k7 _ _ (cR nb)).trans ((k7 _ _ (cR nb)).trans e)
 exact wpAny_pure ⟨plainId_quiet GD _,key _ _ ((W A.in1 hh).frame 0 _ _ st fun b m o e=>JD b o (fun z=>nS (z▸m)) e) JD u2⟩
theorem GJ{ks:List Int->Prop}:∀{vs:List Value},(∀v∈vs,∃k t,v= .int k t)->∃ns,IntsAre vs ns
  |[],_=>⟨[], .nil⟩
  | v :: vs, h => by
    obtain⟨k,t,rfl⟩:=h v (bT ..)
    obtain⟨ns,hn⟩:=GJ (ks:=ks) fun v m=>h v (bJ _ m)
    exact⟨k::ns, .cons k t hn⟩
theorem Ly:∀{vs:List Value} {ns:List Int},IntsAre vs ns->∀k,k∈ns↔∃t, .int k t∈vs
  |_,_, .nil,k=>by simp
  | _, _, .cons j t h, k => by
    rw[aA,Ly h k]
    constructor
    · rintro(rfl|⟨t',m⟩)
      · exact⟨_,bT ..⟩
      · exact⟨t',bJ _ m⟩
    · rintro⟨t',m⟩
      rcases aA.mp m with e|m
      · cases e;exact .inl rfl
      · exact .inr ⟨t',m⟩
end
end L2
set_option maxRecDepth 100000
set_option maxHeartbeats 4000000
namespace L2
open PySem PySem.Spec PyProof.Rows
noncomputable def tY(P:Program)(w:World)(a:Addr)(S:Int->Bool)(n:Nat):HO:= .ext fun h=>h.SetOf (IK P w) a S n/\gz (eW w) h a
theorem Inv.dr{X:Cx}{pins:List (Addr×Obj)}{σ:St}{H:Hp}{s:Shared}(I:Inv X pins σ H s)(d:Drawn):Inv X pins σ H {s with drawn:=d}:=
 ⟨I.ok,I.os,I.bare,I.base,I.loc,I.cell,I.free,I.gu,I.pin,I.hok,I.len⟩
theorem zZ:∀{ns:List Int} {us:List Value},Vals (ns.map V.int) us->IntsAre us ns
  |[],_, .nil=> .nil
  | n :: ns, _, .cons r t => by
    obtain⟨k,rfl⟩:=r
    exact .cons n k (zZ t)
theorem wu:∀{us:List Value} {ns:List Int},IntsAre us ns->Vals (ns.map V.int) us
 |_,_, .nil=> .nil
 |_,_, .cons k t h=> .cons ⟨t,rfl⟩ (wu h)
theorem SV{σ:List Int}{k:Int}(h:σ.Nodup):(step_dedup σ k).Nodup:=by
 unfold step_dedup
 split
 ·exact h
 ·rename_i q
  rw[EB]
  refine⟨h,by simp,fun x hx y hy=>?_⟩
  rw[az.mp hy]
  intro e
  subst e
  exact q (by simp[hx])
theorem GL(val:Nat->Int):∀i,(firstMet val i).Nodup
 |0=>List.nodup_nil
 |i+1=>by rw[firstMet_succ];exact SV (GL val i)
theorem Kv:∀{ds ns:List Int},ds.Nodup->(∀k∈ds,k∈ns)->ns.length<=ds.length->ds.Perm ns
  | [], ns, _, _, hl => by
    have:ns=[]:=pH.mp (by simpa using hl)
    rw[this]
  | d :: ds, ns, hd, hs, hl => by
    have hm:=hs d (bT ..)
    obtain⟨h1,h2⟩:=fW.mp hd
    have hp:=List.perm_cons_erase hm
    refine(List.Perm.cons d (Kv h2 (fun k hk=>?_) ?_)).trans hp.symm
    · rcases aA.mp (hp.mem_iff.mp (hs k (bJ _ hk))) with e|e
      · subst e;exact absurd hk h1
      · exact e
    · have:=hp.length_eq;simp at this hl⊢;walk_at "o"
noncomputable def xU(P:Program)(w:World)(K:PySem.W.Frag):List V->Hp->VK->Prop:=fun xs H Q=>∃p,∃ns:List Int,xs=[.ref p]/\aS K H p (ns.map V.int)/\ns.length<=4000/\∀a (ms:List Int),H a=none->ms.Nodup->(∀k,k∈ms↔k∈ns)->Q (.ref a) (upd H a (tY P w a (fun k=>ms.any (· ==k)) ms.length))
section
variable{X:Cx}
theorem Sb(hc:X.calm=true):fY X (.type "set") (xU X.prog X.w X.K):=by
 intro pins s σ H xs us Q I rv h
 obtain⟨p,ns,rfl,hp,hn,q⟩:=h
 obtain⟨u,rfl,ru⟩:=vals1 rv
 cases ru
 obtain⟨its,rs,il,hz⟩:=I.list hp
 have hI:=zZ rs
 have hlen:=hI.length
 refine RT (I.ok.hd hc) il.isList (by simpa using hI) (by rw[cN];unfold scanBound;walk_at "o") fun h' tk q1 q2 q3=>?_
 have hmem:∀k,k∈firstMet (fun i=>ns.getD i 0) its.toArray.size↔k∈ns:=fun k=>by
  have e:=firstMet_any (fun i=>ns.getD i 0) its.toArray.size k
  have e2:(List.range its.toArray.size).map (fun i=>ns.getD i 0)=ns:=by
   rw[cN,hlen]
   apply List.ext_getElem
   ·simp
   ·intro i h1 h2
    simp[pe,bE h2]
  rw[e2] at e
  have a1:∀(l:List Int),(l.any (· ==k))=true↔k∈l:=fun l=>by
   rw[xg]
   exact⟨fun⟨x,m,z⟩=>(beq_iff_eq.mp z)▸m,fun m=>⟨k,m,beq_self_eq_true _⟩⟩
  rw[<-a1,<-a1,e]
 have kp:∀b u,s.heap.get? b=some u->h'.get? b=some u:=fun b u e=>q3 b u (bC e) e
 have new:bP X.prog X.w (upd H s.heap.objs.size (tY X.prog X.w s.heap.objs.size (fun k=>(firstMet (fun i=>ns.getD i 0) its.toArray.size).any (· ==k)) (firstMet (fun i=>ns.getD i 0) its.toArray.size).length)) h' s.heap.objs.size (tY X.prog X.w s.heap.objs.size (fun k=>(firstMet (fun i=>ns.getD i 0) its.toArray.size).any (· ==k)) (firstMet (fun i=>ns.getD i 0) its.toArray.size).length):=by
  refine⟨⟨q1,q2⟩,?_,fun h1 h2 z k=>?_⟩
  ·obtain⟨o,_,_,_,ho,_⟩:=q1;exact⟨o,ho⟩
  ·obtain⟨⟨o,es,ep,t,ho,r⟩,tt⟩:=z
   exact⟨⟨o,es,ep,t,k o ho,r⟩,tt.keep ho (k o ho)⟩
 exact⟨.ref s.heap.objs.size,_,I.laid (t':=tk) kp (aE _) new,rfl,q _ _ (I.hok.fresh (aE _)) (GL _ _) hmem⟩
end
end L2
set_option maxRecDepth 100000
set_option maxHeartbeats 4000000
namespace L2
open PySem PySem.Spec PyProof.Rows
noncomputable def mD:Bool->Keyed->Array Keyed->Nat->Nat->Nat->StateT SortSt Sem (Option Nat):=sortPriv%PySem.Builtin.gallop
noncomputable def DQ:Array Keyed->Array Keyed->StateT SortSt Sem (Array Keyed):=sortPriv%PySem.Builtin.mergeLo
noncomputable def A4:Array Keyed->Array Keyed->StateT SortSt Sem (Array Keyed):=sortPriv%PySem.Builtin.mergeHi
noncomputable def pD:Nat->StateT SortSt Sem Unit:=sortPriv%PySem.Builtin.setMinGallop
noncomputable def oU(left:Bool)(key:Keyed)(arr:Array Keyed)(base:Nat)(i:Nat):StateT SortSt Sem (Option Bool):=do
 let x<-elem' arr (base+i)
 if left then lt' x key else return (<-lt' key x).map (!·)
theorem TM(left:Bool)(key:Keyed)(arr:Array Keyed)(base n hint:Nat):mD left key arr base n hint=(do
 let mut zx:=0
 let mut jD:=1
 let mut lo:=0
 let mut hi:=0
 let some right<-oU left key arr base hint|return none
 if right then
  let uM:=n-hint
  for _ in[0:n] do
   if jD≥uM then break
   let some more<-oU left key arr base (hint+jD)|return none
   if !more then break
   zx:=jD
   jD:=2*jD+1
  lo:=hint+zx+1
  hi:=hint+min jD uM
 else
  let uM:=hint+1
  for _ in[0:n] do
   if jD≥uM then break
   let some found<-oU left key arr base (hint-jD)|return none
   if found then break
   zx:=jD
   jD:=2*jD+1
  lo:=hint+1-min jD uM
  hi:=hint-zx
 for _ in[0:n] do
  if lo≥hi then break
  let m:=lo+(hi-lo)/2
  let some more<-oU left key arr base m|return none
  if more then lo:=m+1 else hi:=m
 return some hi):=rfl
theorem Pr(g:Nat):pD g=modify fun s=>SortSt.mk' (kindOf s) (arrOf s) (pendingOf s) g (failedOf s):=rfl
theorem W7(a b:Array Keyed):DQ a b=(do
 rule "list.sort.merge-lo"
 let total:=a.size+b.size
 let done (out:Array Keyed) (ia ib:Nat):=out++a.extract ia a.size++b.extract ib b.size
 let wL (out:Array Keyed) (ia ib:Nat):=out++b.extract ib b.size++a.extract ia a.size
 let mut out:Array Keyed:= #[<-elem' b 0]
 let mut ia:=0
 let mut ib:=1
 if ib==b.size then return done out ia ib
 if ia+1==a.size then return wL out ia ib
 let mut minGallop:=gallopOf (<-get)
 for _ in[0:total] do
  let mut jb:=0
  let mut jz:=0
  for _ in[0:total] do
   let some bWins<-lt' (<-elem' b ib) (<-elem' a ia)|return done out ia ib
   if bWins then
    out:=out.push (<-elem' b ib);ib:=ib+1;jz:=jz+1;jb:=0
    if ib==b.size then return done out ia ib
    if jz≥minGallop then break
   else
    out:=out.push (<-elem' a ia);ia:=ia+1;jb:=jb+1;jz:=0
    if ia+1==a.size then return wL out ia ib
    if jb≥minGallop then break
  rule "list.sort.gallop"
  minGallop:=minGallop+1
  for _ in[0:total] do
   if minGallop>1 then minGallop:=minGallop-1
   pD minGallop
   let some k<-mD false (<-elem' b ib) a ia (a.size-ia) 0|return done out ia ib
   jb:=k
   if k>0 then
    out:=out++a.extract ia (ia+k);ia:=ia+k
    if ia+1==a.size then return wL out ia ib
    if ia==a.size then return done out ia ib
   out:=out.push (<-elem' b ib);ib:=ib+1
   if ib==b.size then return done out ia ib
   let some k<-mD true (<-elem' a ia) b ib (b.size-ib) 0|return done out ia ib
   jz:=k
   if k>0 then
    out:=out++b.extract ib (ib+k);ib:=ib+k
    if ib==b.size then return done out ia ib
   out:=out.push (<-elem' a ia);ia:=ia+1
   if ia+1==a.size then return wL out ia ib
   if jb<7 && jz<7 then break
  minGallop:=minGallop+1
  pD minGallop
 unsupported "internal:list.sort.merge-bound"):=rfl
noncomputable def kN(x:Keyed):Prop:=∃n t,x.1= .int n t
noncomputable def dD(xs:Array Keyed):Prop:=∀(i:Nat) (x:Keyed),xs[i]?=some x->kN x
section
variable{prog:Program}{w:World}{A:Around}{E:Value->Shared->Prop}{s:Shared}{st:SortSt}
theorem nB{arr:Array Keyed}{i:Nat}{Q:Keyed->SortSt->Prop}(hi:i<arr.size)(h:Q arr[i] st):wpS (model prog w) A E s (elem' arr i) Q st:=by
 rw[elem'_eq,getElem?_pos arr i hi]
 exact wpS_pure h
theorem dD.at{arr:Array Keyed}(h:dD arr){i:Nat}(hi:i<arr.size):kN arr[i]:=h i _ (getElem?_pos arr i hi)
noncomputable def eK(st st':SortSt):Prop:=kindOf st'=kindOf st/\arrOf st'=arrOf st/\pendingOf st'=pendingOf st/\failedOf st'=failedOf st
theorem eK.trans{s1 s2 s3:SortSt}(h:eK s1 s2)(g:eK s2 s3):eK s1 s3:=⟨g.1.trans h.1,g.2.1.trans h.2.1,g.2.2.1.trans h.2.2.1,g.2.2.2.trans h.2.2.2⟩
theorem eK.refl(s1:SortSt):eK s1 s1:=⟨rfl,rfl,rfl,rfl⟩
noncomputable def Mg(a b:Array Keyed)(i j:Nat)(out:Array Keyed):Prop:=out.toList.Perm (a.toList.take i++b.toList.take j)
theorem Az{l:List Keyed}{i:Nat}(h:i<l.length):l.take (i+1)=l.take i++[l[i]]:=by rw[List.take_succ,bE h];rfl
theorem Mg.jF{a b:Array Keyed}{i j:Nat}{out:Array Keyed}(h:Mg a b i j out)(hj:j<b.size):Mg a b i (j+1) (out.push b[j]):=by
 unfold Mg at*
 rw[ki,Az (l:=b.toList) (by simpa using hj),<-eX]
 exact h.append (by simp)
theorem Mg.jJ{a b:Array Keyed}{i j:Nat}{out:Array Keyed}(h:Mg a b i j out)(hi:i<a.size):Mg a b (i+1) j (out.push a[i]):=by
 unfold Mg at*
 rw[ki,Az (l:=a.toList) (by simpa using hi),eX]
 refine(h.append (Dk [a[i]])).trans ?_
 rw[eX]
 refine lG _ ?_
 simpa using mj
theorem jR(a:Array Keyed)(i j:Nat):(a.extract i j).toList=(a.toList.take j).drop i:=by
 rw[Array.toList_extract,List.extract_eq_take_drop,List.drop_take]
theorem Mg.nK{a b:Array Keyed}{i j k:Nat}{out:Array Keyed}(h:Mg a b i j out):Mg a b (i+k) j (out++a.extract i (i+k)):=by
 unfold Mg at*
 rw[iB,jR]
 have e:a.toList.take (i+k)=a.toList.take i++(a.toList.take (i+k)).drop i:=by
  have:=(kJ i (a.toList.take (i+k))).symm
  rwa[List.take_take,Dh (by walk_at "o")] at this
 generalize (a.toList.take (i+k)).drop i=z at e⊢
 rw[e]
 refine(h.append_right z).trans ?_
 rw[eX,eX]
 exact lG _ mj
theorem Mg.m6{a b:Array Keyed}{i j k:Nat}{out:Array Keyed}(h:Mg a b i j out):Mg a b i (j+k) (out++b.extract j (j+k)):=by
 unfold Mg at*
 rw[iB,jR]
 have e:b.toList.take (j+k)=b.toList.take j++(b.toList.take (j+k)).drop j:=by
  have:=(kJ j (b.toList.take (j+k))).symm
  rwa[List.take_take,Dh (by walk_at "o")] at this
 generalize (b.toList.take (j+k)).drop j=z at e⊢
 rw[e,<-eX]
 exact h.append_right _
theorem IC(a:Array Keyed)(i:Nat):(a.extract i a.size).toList=a.toList.drop i:=by
 rw[jR,NP (by simp)]
theorem Mg.done{a b:Array Keyed}{i j:Nat}{out:Array Keyed}(h:Mg a b i j out):(out++a.extract i a.size++b.extract j b.size).toList.Perm (a.toList++b.toList):=by
 unfold Mg at h
 rw[iB,iB,IC,IC]
 have ea:=(kJ i a.toList).symm
 have eb:=(kJ j b.toList).symm
 rw[show a.toList++b.toList=(a.toList.take i++a.toList.drop i)++(b.toList.take j++b.toList.drop j) by rw[<-ea,<-eb]]
 refine((h.append_right _).append_right _).trans ?_
 simp only[eX]
 refine lG _ ?_
 rw[<-eX,<-eX]
 exact Ek _ mj
theorem Mg.last{a b:Array Keyed}{i j:Nat}{out:Array Keyed}(h:Mg a b i j out):(out++b.extract j b.size++a.extract i a.size).toList.Perm (a.toList++b.toList):=by
 refine List.Perm.trans ?_ h.done
 rw[iB,iB,iB,iB,eX,eX]
 exact lG _ mj
theorem WI{g:Nat}{Q:Unit->SortSt->Prop}(h:∀st',eK st st'->Q () st'):wpS (model prog w) A E s (pD g) Q st:=by
 rw[Pr]
 exact wpS_modify (h _ ⟨rfl,rfl,rfl,rfl⟩)
theorem ku{x y:Nat}{α:Type}{t e:StateT SortSt Sem α}{Q:α->SortSt->Prop}(h1:x=y->wpS (model prog w) A E s t Q st)(h2:x≠y->wpS (model prog w) A E s e Q st):wpS (model prog w) A E s (if(x==y)=true then t else e) Q st:=by
 by_cases c:x=y
 ·rw[if_pos (by simpa using c)];exact h1 c
 ·rw[if_neg (by simpa using c)];exact h2 c
theorem gX{c:Prop}[Decidable c]{α:Type}{t e:StateT SortSt Sem α}{Q:α->SortSt->Prop}(h1:c->wpS (model prog w) A E s t Q st)(h2:¬c->wpS (model prog w) A E s e Q st):wpS (model prog w) A E s (if c then t else e) Q st:=by
 by_cases c:c
 ·rw[if_pos c];exact h1 c
 ·rw[if_neg c];exact h2 c
theorem Mf{c:Bool}{α:Type}{t e:StateT SortSt Sem α}{Q:α->SortSt->Prop}(h1:wpS (model prog w) A E s t Q st)(h2:wpS (model prog w) A E s e Q st):wpS (model prog w) A E s (if c=true then t else e) Q st:=by
 cases c
 ·exact h2
 ·exact h1
variable{dO:SortSt}
theorem yu{g:Nat}{α:Type}{f:Unit->StateT SortSt Sem α}{Q:α->SortSt->Prop}(S:eK dO st)(h:∀st',eK dO st'->wpS (model prog w) A E s (f ()) Q st'):wpS (model prog w) A E s (pD g>>=f) Q st:=
 wpS_bind (WI fun st' z=>h st' (S.trans z))
theorem qC{arr:Array Keyed}{i:Nat}{α:Type}{f:Keyed->StateT SortSt Sem α}{Q:α->SortSt->Prop}(hi:i<arr.size)(h:wpS (model prog w) A E s (f arr[i]) Q st):wpS (model prog w) A E s (elem' arr i>>=f) Q st:=wpS_bind (nB hi h)
end
end L2
set_option maxRecDepth 100000
set_option maxHeartbeats 4000000
namespace L2
open PySem PySem.Spec PyProof.Rows
section
variable{prog:Program}{w:World}{A:Around}{E:Value->Shared->Prop}{s:Shared}{st:SortSt}{dO:SortSt}
theorem UQ(a b:Array Keyed):A4 a b=(do
 rule "list.sort.merge-hi"
 let total:=a.size+b.size
 let done (out:Array Keyed) (na nb:Nat):=a.extract 0 na++b.extract 0 nb++out.reverse
 let zR (out:Array Keyed) (na nb:Nat):=b.extract 0 nb++a.extract 0 na++out.reverse
 let mut na:=a.size-1
 let mut nb:=b.size
 let mut out:Array Keyed:= #[<-elem' a na]
 if na==0 then return done out na nb
 if nb==1 then return zR out na nb
 let mut minGallop:=gallopOf (<-get)
 for _ in[0:total] do
  let mut jb:=0
  let mut jz:=0
  for _ in[0:total] do
   let some aWins<-lt' (<-elem' b (nb-1)) (<-elem' a (na-1))|return done out na nb
   if aWins then
    na:=na-1;out:=out.push (<-elem' a na);jb:=jb+1;jz:=0
    if na==0 then return done out na nb
    if jb≥minGallop then break
   else
    nb:=nb-1;out:=out.push (<-elem' b nb);jz:=jz+1;jb:=0
    if nb==1 then return zR out na nb
    if jz≥minGallop then break
  rule "list.sort.gallop"
  minGallop:=minGallop+1
  for _ in[0:total] do
   if minGallop>1 then minGallop:=minGallop-1
   pD minGallop
   let some at_<-mD false (<-elem' b (nb-1)) a 0 na (na-1)|return done out na nb
   let k:=na-at_
   jb:=k
   if k>0 then
    out:=out++(a.extract at_ na).reverse;na:=at_
    if na==0 then return done out na nb
   nb:=nb-1;out:=out.push (<-elem' b nb)
   if nb==1 then return zR out na nb
   let some at_<-mD true (<-elem' a (na-1)) b 0 nb (nb-1)|return done out na nb
   let k:=nb-at_
   jz:=k
   if k>0 then
    out:=out++(b.extract at_ nb).reverse;nb:=at_
    if nb==1 then return zR out na nb
    if nb==0 then return done out na nb
   na:=na-1;out:=out.push (<-elem' a na)
   if na==0 then return done out na nb
   if jb<7 && jz<7 then break
  minGallop:=minGallop+1
  pD minGallop
 unsupported "internal:list.sort.merge-bound"):=rfl
noncomputable def Mh(a b:Array Keyed)(i j:Nat)(out:Array Keyed):Prop:=out.toList.Perm (a.toList.drop i++b.toList.drop j)
theorem Bt{l:List Keyed}{i:Nat}(h:i<l.length):l.drop i=l[i]::l.drop (i+1):=sX h
theorem Mh.jF{a b:Array Keyed}{i j:Nat}{out:Array Keyed}(h:Mh a b i j out)(hj:j-1<b.size)(h1:1<=j):Mh a b i (j-1) (out.push b[j-1]):=by
 unfold Mh at*
 rw[ki,Bt (l:=b.toList) (i:=j-1) (by simpa using hj),show j-1+1=j by walk_at "o"]
 refine(h.append_right _).trans ?_
 rw[eX]
 refine lG _ ?_
 simp
theorem Mh.jJ{a b:Array Keyed}{i j:Nat}{out:Array Keyed}(h:Mh a b i j out)(hi:i-1<a.size)(h1:1<=i):Mh a b (i-1) j (out.push a[i-1]):=by
 unfold Mh at*
 rw[ki,Bt (l:=a.toList) (i:=i-1) (by simpa using hi),show i-1+1=i by walk_at "o"]
 refine(h.append_right _).trans ?_
 refine mj.trans ?_
 simp
theorem Mh.Rr{a b:Array Keyed}{i j:Nat}{out:Array Keyed}(h:Mh a b i (j+1) out)(hj:j<b.size):Mh a b i j (out.push b[j]):=Mh.jF (j:=j+1) h hj (by walk_at "o")
theorem Mh.Vu{a b:Array Keyed}{i j:Nat}{out:Array Keyed}(h:Mh a b (i+1) j out)(hi:i<a.size):Mh a b i j (out.push a[i]):=Mh.jJ (i:=i+1) h hi (by walk_at "o")
theorem zM{l:List Keyed}{k i:Nat}(h:k<=i):l.drop k=(l.take i).drop k++l.drop i:=by
 have e:=(kJ i l).symm
 conv=>lhs;rw[e]
 rw[List.drop_append]
 by_cases hl:k<=(l.take i).length
 ·rw[show k-(l.take i).length=0 by walk_at "o"];rfl
 ·have:l.length<=k:=by rw[lB] at hl;walk_at "o"
  rw[CM (l:=l) (i:=i) (by walk_at "o")];simp
theorem Mh.nK{a b:Array Keyed}{i j k:Nat}{out:Array Keyed}(h:Mh a b i j out)(hk:k<=i):Mh a b k j (out++(a.extract k i).reverse):=by
 unfold Mh at*
 rw[iB,Be,jR,zM (l:=a.toList) hk]
 refine(h.append (E1 _)).trans ?_
 refine mj.trans ?_
 rw[eX]
theorem Mh.m6{a b:Array Keyed}{i j k:Nat}{out:Array Keyed}(h:Mh a b i j out)(hk:k<=j):Mh a b i k (out++(b.extract k j).reverse):=by
 unfold Mh at*
 rw[iB,Be,jR,zM (l:=b.toList) hk]
 refine(h.append (E1 _)).trans ?_
 rw[eX]
 exact lG _ mj
theorem Mh.done{a b:Array Keyed}{i j:Nat}{out:Array Keyed}(h:Mh a b i j out):(a.extract 0 i++b.extract 0 j++out.reverse).toList.Perm (a.toList++b.toList):=by
 unfold Mh at h
 rw[iB,iB,jR,jR,Be,Ep,Ep]
 have ea:=(kJ i a.toList).symm
 have eb:=(kJ j b.toList).symm
 rw[show a.toList++b.toList=(a.toList.take i++a.toList.drop i)++(b.toList.take j++b.toList.drop j) by rw[<-ea,<-eb]]
 refine(lG _ ((E1 _).trans h)).trans ?_
 simp only[eX]
 refine lG _ ?_
 rw[<-eX,<-eX]
 exact Ek _ mj
theorem Mh.first{a b:Array Keyed}{i j:Nat}{out:Array Keyed}(h:Mh a b i j out):(b.extract 0 j++a.extract 0 i++out.reverse).toList.Perm (a.toList++b.toList):=by
 refine List.Perm.trans ?_ h.done
 rw[iB,iB,iB,iB]
 exact Ek _ mj
end
end L2
set_option maxRecDepth 100000
set_option maxHeartbeats 4000000
namespace L2
open PySem PySem.Spec PyProof.Rows
theorem PK(i:Nat):mergeAt' i=(do
 let s<-get
 let (some (sa,na,power),some (sb,nb,_)):=((pendingOf s)[i]?,(pendingOf s)[i+1]?)|unsupported "internal:list.sort.pending"
 set (setPending s (((pendingOf s).setIfInBounds i (sa,na+nb,power)).eraseIdxIfInBounds (i+1)))
 let some k<-mD false (<-elem' (arrOf s) sb) (arrOf s) sa na 0|return false
 let (sa,na):=(sa+k,na-k)
 if na==0 then return true
 let some nb<-mD true (<-elem' (arrOf s) (sa+na-1)) (arrOf s) sb nb (nb-1)|return false
 if nb==0 then return true
 let x:=(arrOf s).extract sa sb
 let y:=(arrOf s).extract sb (sb+nb)
 let merged<-if na<=nb then DQ x y else A4 x y
 modify fun s=>setArr s (merged.toList.zipIdx.foldl (fun a (p,j)=>a.setIfInBounds (sa+j) p) (arrOf s))
 return (failedOf (<-get)).isNone):=rfl
noncomputable def Ch:List (Nat×Nat×Nat)->Nat->Nat->Prop
 |[],x,y=>x=y
 |(s,n,_)::r,x,y=>s=x/\1<=n/\Ch r (x+n) y
theorem Ch.append:∀{l r:List (Nat×Nat×Nat)} {x z:Nat},Ch (l++r) x z↔∃y,Ch l x y/\Ch r y z
  |[],r,x,z=>⟨fun h=>⟨x,rfl,h⟩,fun⟨y,e,h⟩=>by cases e;exact h⟩
  | (s, n, p) :: l, r, x, z => by
    show(s=x/\1<=n/\Ch (l++r) (x+n) z)↔∃y,(s=x/\1<=n/\Ch l (x+n) y)/\Ch r y z
    rw[Ch.append]
    exact⟨fun⟨a,b,y,c,d⟩=>⟨y,⟨a,b,c⟩,d⟩,fun⟨y,⟨a,b,c⟩,d⟩=>⟨a,b,y,c,d⟩⟩
theorem Ch.le:∀{l:List (Nat×Nat×Nat)} {x y:Nat},Ch l x y->x<=y
 |[],x,y,h=>mY h
 |(s,n,p)::l,x,y,⟨a,b,c⟩=>by have:=Ch.le c;walk_at "o"
theorem Ch.two{l:List (Nat×Nat×Nat)}{lo i:Nat}{sa na pw sb nb lH:Nat}(h:Ch l 0 lo)(e1:l[i]?=some (sa,na,pw))(e2:l[i+1]?=some (sb,nb,lH)):
  sb=sa+na/\1<=na/\1<=nb/\sb+nb<=lo/\Ch ((l.set i (sa,na+nb,pw)).eraseIdx (i+1)) 0 lo:=by
 have hi:i<l.length:=(bh.mp e1).1
 have hi2:i+1<l.length:=(bh.mp e2).1
 have g1:=(bh.mp e1).2
 have g2:=(bh.mp e2).2
 have el:l=l.take i++(sa,na,pw)::(sb,nb,lH)::l.drop (i+2):=by
  have:=(kJ i l).symm
  rwa[sX hi,sX hi2,g1,g2] at this
 have hl:(l.take i).length=i:=by rw[lB];walk_at "o"
 generalize l.take i=A1 at*
 generalize l.drop (i+2)=A2 at*
 subst el
 obtain⟨y,c1,a1,a2,a3,a4,a5⟩:=Ch.append.mp h
 have:=a5.le
 refine⟨by walk_at "o",a2,a4,by walk_at "o",?_⟩
 have e:((A1++(sa,na,pw)::(sb,nb,lH)::A2).set i (sa,na+nb,pw)).eraseIdx (i+1)=A1++(sa,na+nb,pw)::A2:=by
  rw[Lz _ _ (by walk_at "o"),hl,Nat.sub_self,List.set_cons_zero,L7 (by walk_at "o"),show i+1-A1.length=1 by walk_at "o"]
  rfl
 rw[e]
 exact Ch.append.mpr ⟨y,c1,a1,by walk_at "o",by rwa[<-Nat.add_assoc]⟩
theorem BL(sa:Nat):∀(ms:List Keyed) (k:Nat) (arr:Array Keyed),sa+k+ms.length<=arr.size->
    ((ms.zipIdx k).foldl (fun(a:Array Keyed) (pj:Keyed×Nat)=>a.setIfInBounds (sa+pj.2) pj.1) arr).toList=arr.toList.take (sa+k)++ms++arr.toList.drop (sa+k+ms.length)
  |[],k,arr,h=>by simp
  | m :: ms, k, arr, h => by
    rw[bw] at h
    rw[List.zipIdx_cons,List.foldl_cons,BL sa ms (k+1) _ (by rw[Array.size_setIfInBounds];walk_at "o")]
    have hs:(arr.setIfInBounds (sa+k) m).toList=arr.toList.set (sa+k) m:=Jl ..
    show List.take _ ((arr.setIfInBounds (sa+k) m).toList)++ms++List.drop _ ((arr.setIfInBounds (sa+k) m).toList)=_
    rw[hs]
    have h2:sa+k<arr.toList.length:=by simp;walk_at "o"
    have e1:(arr.toList.set (sa+k) m).take (sa+(k+1))=arr.toList.take (sa+k)++[m]:=by
      rw[show sa+(k+1)=sa+k+1 by walk_at "o",List.take_succ,cy h2,List.take_set_of_le (aE _)]
      rfl
    have e2:(arr.toList.set (sa+k) m).drop (sa+(k+1)+ms.length)=arr.toList.drop (sa+k+(ms.length+1)):=by
      rw[List.drop_set_of_lt (by walk_at "o"),show sa+(k+1)+ms.length=sa+k+(ms.length+1) by walk_at "o"]
    rw[e1,e2,bw]
    simp
theorem X0{arr:Array Keyed}{merged:Array Keyed}{sa sb nb:Nat}(h1:sa<=sb)(h2:sb+nb<=arr.size)(hm:merged.toList.Perm ((arr.extract sa sb).toList++(arr.extract sb (sb+nb)).toList)):
  (merged.toList.zipIdx.foldl (fun(a:Array Keyed) (pj:Keyed×Nat)=>a.setIfInBounds (sa+pj.2) pj.1) arr).toList.Perm arr.toList:=by
 have hl:=hm.length_eq
 rw[fu,jR,jR,Em,Em,lB,lB,cV,cV] at hl
 have e:=BL sa merged.toList 0 arr (by rw[cV];walk_at "o")
 rw[cV,ux,show sa+merged.size=sb+nb by walk_at "o"] at e
 rw[e]
 have e2:arr.toList=arr.toList.take sa++((arr.extract sa sb).toList++(arr.extract sb (sb+nb)).toList)++arr.toList.drop (sb+nb):=by
  rw[jR,jR]
  have a1:=zM (l:=arr.toList) (k:=sb) (i:=sb+nb) (by walk_at "o")
  have a2:=zM (l:=arr.toList) (k:=sa) (i:=sb) h1
  rw[eX,eX,<-a1,<-a2,kJ]
 conv=>rhs;rw[e2]
 exact(lG _ hm).append_right _
structure SI(a₀:Array Keyed)(lo:Nat)(st:SortSt):Prop where
 perm:(arrOf st).toList.Perm a₀.toList
 kind:kindOf st=oneType'
 failed:failedOf st=none
 ch:Ch (pendingOf st).toList 0 lo
theorem dD.perm{a b:Array Keyed}(h:dD a)(p:b.toList.Perm a.toList):dD b:=fun i x e=>by
 have:x∈b.toList:=by rw[tS];exact AZ e
 have:x∈a.toList:=p.mem_iff.mp this
 obtain⟨j,hj⟩:=jm this
 exact h j x (by rw[<-jj];exact hj)
theorem dD.ext{a:Array Keyed}(h:dD a)(i j:Nat):dD (a.extract i j):=fun k x e=>by
 have:x∈(a.extract i j).toList:=by rw[tS];exact AZ e
 rw[jR] at this
 have:x∈a.toList:=M7 (List.mem_of_mem_drop this)
 obtain⟨j,hj⟩:=jm this
 exact h j x (by rw[<-jj];exact hj)
theorem SI.size{a₀:Array Keyed}{lo:Nat}{st:SortSt}(h:SI a₀ lo st):(arrOf st).size=a₀.size:=by have:=h.perm.length_eq;simpa using this
section
variable{prog:Program}{w:World}{A:Around}{E:Value->Shared->Prop}{s:Shared}{st:SortSt}{a₀:Array Keyed}{lo:Nat}
theorem Tq{st':SortSt}{Q:PUnit->SortSt->Prop}(h:Q ⟨⟩ st'):wpS (model prog w) A E s (set st':StateT SortSt Sem PUnit) Q st:=by
 unfold wpS;rw[StateT.run_set];exact wpAny_pure ⟨rfl,h⟩
theorem SI.arr{xs:Array Keyed}(hI:SI a₀ lo st)(hp:xs.Perm (arrOf st)):SI a₀ lo (setArr st xs):=⟨(Array.perm_iff_toList_perm.mp hp).trans hI.perm,hI.kind,hI.failed,hI.ch⟩
theorem Ch.pw{f:Nat×Nat×Nat->Nat×Nat×Nat}(hf:∀v,(f v).1=v.1/\(f v).2.1=v.2.1){l:List (Nat×Nat×Nat)}{i x y:Nat}(h:Ch l x y):Ch (l.modify i f) x y:=by
  induction l generalizing i x with
  |nil=>cases i<;>exact h
  | cons v l ih =>
    obtain⟨s,n,p⟩:=v
    obtain⟨a,b,c⟩:=h
    cases i with
    | zero =>
      have:=hf (s,n,p)
      rw[List.modify_zero_cons]
      generalize f (s,n,p)=u at this
      obtain⟨s2,n2,p2⟩:=u
      dsimp only at this
      exact⟨this.1.trans a,by walk_at "o",by rw[this.2];exact c⟩
    |succ i=>rw[List.modify_succ_cons];exact⟨a,b,ih c⟩
theorem UY{c:Prop}[Decidable c]{a:Nat}:(if c then a-1 else a)<=a:=by split<;>walk_at "o"
end
end L2
set_option maxRecDepth 100000
set_option maxHeartbeats 4000000
namespace L2
open PySem PySem.Spec PyProof.Rows
theorem Ug{vs:List Value}{ns:List Int}(hI:IntsAre vs ns){xs:Array Keyed}(hp:xs.toList.Perm (pairsOf vs).toList):
  ∃ns',IntsAre (xs.map (·.2)).toList ns'/\ns'.Perm ns:=by
 have hl:xs.toList.Perm (vs.zip vs):=by rw[<-pairsOf_toList];exact hp
 have hmem:∀p,p∈xs.toList->p.1=p.2/\p.1∈vs:=fun p lE=>mem_zip_self (hl.mem_iff.mp lE)
 refine⟨xs.toList.map (fun p=>numOf p.1),?_,?_⟩
 ·have e:(xs.map (·.2)).toList=xs.toList.map (·.1):=by
   rw[Array.toList_map];exact zE fun p lE=>(hmem p lE).1.symm
  rw[e]
  have h1:=intsAre_map (xs.toList.map (·.1)) (by
   intro v hv
   obtain⟨p,lE,rfl⟩:=fQ.mp hv
   exact hI.all _ (hmem p lE).2)
  rwa[mL] at h1
 ·have h1:=hl.map (fun p=>numOf p.1)
  have e2:(vs.zip vs).map (fun p=>numOf p.1)=ns:=by
   have:(vs.zip vs).map (fun p=>numOf p.1)=((vs.zip vs).map Prod.fst).map numOf:=by rw[mL];rfl
   rw[this,List.map_fst_zip (aE _),hI.nums]
  rwa[e2] at h1
theorem QV{vs:List Value}{ns:List Int}(hI:IntsAre vs ns):dD (pairsOf vs):=fun i x e=>by
 have:x∈(pairsOf vs).toList:=by rw[tS];exact AZ e
 rw[pairsOf_toList] at this
 exact hI.all _ (mem_zip_self this).2
end L2
set_option maxRecDepth 100000
set_option maxHeartbeats 4000000
set_option maxRecDepth 100000
set_option maxHeartbeats 4000000
namespace L2
open PySem PySem.Spec PyProof.Rows
noncomputable def kd(x:Keyed):Int:=match x.1 with| .int n _=>n|_=>0
noncomputable def kz(a:Array Keyed)(i:Nat):Int:=match a[i]? with|some x=>kd x|none=>0
theorem dI{a:Array Keyed}{i:Nat}(h:i<a.size):kz a i=kd a[i]:=by unfold kz;rw[getElem?_pos a i h]
noncomputable def Ra(a:Array Keyed)(lo hi:Nat):Prop:=∀i j,lo<=i->i<=j->j<hi->kz a i<=kz a j
noncomputable def bI(left:Bool)(key:Keyed)(v:Int):Prop:=if left=true then v<kd key else v<=kd key
theorem qv{left:Bool}{key:Keyed}{u v:Int}(h:bI left key v)(hu:u<=v):bI left key u:=by
 unfold bI at*
 cases left with
 |true=>rw[if_pos rfl] at*;walk_at "o"
 |false=>rw[if_neg bH] at*;walk_at "o"
section
variable{prog:Program}{w:World}{A:Around}{E:Value->Shared->Prop}{s:Shared}{st:SortSt}
theorem zj{x y:Keyed}{Q:Option Bool->SortSt->Prop}(hk:kindOf st=oneType')(hx:kN x)(hy:kN y)(h1:kd x<kd y->Q (some true) st)(h2:kd y<=kd x->Q (some false) st):wpS (model prog w) A E s (lt' x y) Q st:=by
 obtain⟨n,t,e1⟩:=hx
 obtain⟨m,u,e2⟩:=hy
 have d1:kd x=n:=by unfold kd;rw[e1]
 have d2:kd y=m:=by unfold kd;rw[e2]
 rw[lt'_eq]
 refine wpS_bind (wpS_get ?_)
 rw[hk,keyLt'_oneType,e1,e2]
 refine wpS_bind (wpS_lift (wpAny_attempt (oneLt_int ⟨rfl,?_⟩)))
 refine wpS_pure ?_
 by_cases c:n<m
 ·rw[decide_eq_true c];exact h1 (by walk_at "o")
 ·rw[decide_eq_false c];exact h2 (by walk_at "o")
theorem v5{left:Bool}{key:Keyed}{arr:Array Keyed}{base i:Nat}{Q:Option Bool->SortSt->Prop}(hk:kindOf st=oneType')(hy:kN key)(ha:dD arr)(hi:base+i<arr.size)(h1:bI left key (kz arr (base+i))->Q (some true) st)(h2:¬bI left key (kz arr (base+i))->Q (some false) st):wpS (model prog w) A E s (oU left key arr base i) Q st:=by
  unfold oU
  refine wpS_bind (nB hi ?_)
  rw[dI hi] at h1 h2
  unfold bI at h1 h2
  cases left with
  | true =>
    simp only[if_true] at h1 h2⊢
    exact zj hk (ha.at hi) hy h1 fun z=>h2 (by walk_at "o")
  | false =>
    simp only[kZ,if_false] at h1 h2⊢
    exact wpS_bind (zj hk hy (ha.at hi) (fun z=>wpS_pure (h2 (by walk_at "o"))) fun z=>wpS_pure (h1 z))
theorem Jy{left:Bool}{key:Keyed}{arr:Array Keyed}{base n lo hi:Nat}{Q:Option (Option Nat)×Nat×Nat->SortSt->Prop}(hk:kindOf st=oneType')(hy:kN key)(ha:dD arr)(hb:base+n<=arr.size)(hR:Ra arr base (base+n))(hn:hi<=n)(hl:lo<=hi)(p1:∀x<lo,bI left key (kz arr (base+x)))(p2:∀x,hi<=x->x<n->¬bI left key (kz arr (base+x)))
    (h:∀l k,k<=n->(∀x<k,bI left key (kz arr (base+x)))->(∀x,k<=x->x<n->¬bI left key (kz arr (base+x)))->Q (none,l,k) st):
    wpS (model prog w) A E s (forIn [0:n] ((none,lo,hi):Option (Option Nat)×Nat×Nat) fun x __s=>
                if __s.snd.fst≥__s.snd.snd then pure (ForInStep.done (none,__s.snd.fst,__s.snd.snd))
                else do
                  let __x<-oU left key arr base (__s.snd.fst+(__s.snd.snd-__s.snd.fst)/2)
                  match __x with
                    | some more =>
                      if more=true then
                        pure (ForInStep.yield (none,__s.snd.fst+(__s.snd.snd-__s.snd.fst)/2+1,__s.snd.snd))
                      else pure (ForInStep.yield (none,__s.snd.fst,__s.snd.fst+(__s.snd.snd-__s.snd.fst)/2))
                    |_=>pure (ForInStep.done (some none,__s.snd.fst,__s.snd.snd))) Q st:=by
  refine wpS_forRange (I:=fun x c st'=>st'=st/\∃l k,c=(none,l,k)/\k<=n/\l<=k/\k-l+x<=n/\(∀y<l,bI left key (kz arr (base+y)))/\∀y,k<=y->y<n->¬bI left key (kz arr (base+y))) ?_ ?_ ⟨rfl,lo,hi,rfl,hn,hl,by walk_at "o",p1,p2⟩
  · rintro x c st' _ hx ⟨rfl,l,k,rfl,hkn,hlk,hm,q1,q2⟩
    dsimp only
    by_cases hge:l≥k
    · rw[if_pos hge];exact wpS_pure (h l k hkn (fun y hy=>q1 y (by walk_at "o")) q2)
    · rw[if_neg hge]
      obtain⟨m,em⟩:∃m,l+(k-l)/2=m:=⟨_,rfl⟩
      rw[em]
      refine wpS_bind (v5 hk hy ha (by walk_at "o") (fun b=>?_) fun b=>?_)
      · exact wpS_pure ⟨rfl,_,_,rfl,hkn,by walk_at "o",by walk_at "o",fun y hy=>qv b (hR _ _ (by walk_at "o") (by walk_at "o") (by walk_at "o")),q2⟩
      · exact wpS_pure ⟨rfl,_,_,rfl,by walk_at "o",by walk_at "o",by walk_at "o",q1,fun y h1 h2 z=>b (qv z (hR _ _ (by walk_at "o") (by walk_at "o") (by walk_at "o")))⟩
  · rintro c st' ⟨rfl,l,k,rfl,hkn,hlk,hm,q1,q2⟩
    exact h l k hkn (fun y hy=>q1 y (by walk_at "o")) q2
theorem E7{left:Bool}{key:Keyed}{arr:Array Keyed}{base n hint:Nat}{Q:Option Nat->SortSt->Prop}(hk:kindOf st=oneType')(hy:kN key)(ha:dD arr)(hb:base+n<=arr.size)(hR:Ra arr base (base+n))(hh:hint<n)
  (h:∀k,k<=n->(∀x<k,bI left key (kz arr (base+x)))->(∀x,k<=x->x<n->¬bI left key (kz arr (base+x)))->Q (some k) st):wpS (model prog w) A E s (mD left key arr base n hint) Q st:=by
 rw[TM]
 refine wpS_bind (v5 hk hy ha (by walk_at "o") (fun b0=>?_) fun b0=>?_)
 ·dsimp only
  simp only[if_true]
  refine wpS_bind (wpS_mono (wpS_forRange (I:=fun x c st'=>st'=st/\∃l k,c=(none,l,k)/\hint+l<n/\l<k/\x+1<=k/\bI left key (kz arr (base+(hint+l)))) (Q:=fun c st'=>st'=st/\∃l k,c=(none,l,k)/\hint+l<n/\l<k/\bI left key (kz arr (base+(hint+l)))/\(n-hint<=k\/¬bI left key (kz arr (base+(hint+k))))) ?_ ?_ ⟨rfl,_,_,rfl,by walk_at "o",by walk_at "o",by walk_at "o",b0⟩) ?_)
  ·rintro x c st' _ hx ⟨rfl,l,k,rfl,i1,i2,i3,i4⟩
   dsimp only
   by_cases hge:k≥n-hint
   ·rw[if_pos hge];exact wpS_pure ⟨rfl,_,_,rfl,i1,i2,i4, .inl hge⟩
   ·rw[if_neg hge]
    refine wpS_bind (v5 hk hy ha (by walk_at "o") (fun b=>?_) fun b=>?_)
    ·exact wpS_pure ⟨rfl,_,_,rfl,by walk_at "o",by walk_at "o",by walk_at "o",b⟩
    ·exact wpS_pure ⟨rfl,_,_,rfl,i1,i2,i4, .inr b⟩
  ·rintro c st' ⟨rfl,l,k,rfl,i1,i2,i3,i4⟩
   exact⟨rfl,_,_,rfl,i1,i2,i4, .inl (by walk_at "o")⟩
  ·rintro c st' ⟨rfl,l,k,rfl,i1,i2,i4,i5⟩
   dsimp only
   refine wpS_bind (Jy hk hy ha hb hR (by walk_at "o") (by walk_at "o") (fun x hx=>qv i4 (hR _ _ (by walk_at "o") (by walk_at "o") (by walk_at "o"))) (fun x h1 h2 z=>?_) fun l k hkn q1 q2=>wpS_pure (h k hkn q1 q2))
   rcases i5 with i5|i5
   ·walk_at "o"
   ·exact i5 (qv z (hR _ _ (by walk_at "o") (by walk_at "o") (by walk_at "o")))
 ·dsimp only
  simp only[kZ,if_false]
  refine wpS_bind (wpS_mono (wpS_forRange (I:=fun x c st'=>st'=st/\∃l k,c=(none,l,k)/\l<=hint/\l<k/\x+1<=k/\¬bI left key (kz arr (base+(hint-l)))) (Q:=fun c st'=>st'=st/\∃l k,c=(none,l,k)/\l<=hint/\l<k/\¬bI left key (kz arr (base+(hint-l)))/\(hint+1<=k\/bI left key (kz arr (base+(hint-k))))) ?_ ?_ ⟨rfl,_,_,rfl,by walk_at "o",by walk_at "o",by walk_at "o",b0⟩) ?_)
  ·rintro x c st' _ hx ⟨rfl,l,k,rfl,i1,i2,i3,i4⟩
   dsimp only
   by_cases hge:k≥hint+1
   ·rw[if_pos hge];exact wpS_pure ⟨rfl,_,_,rfl,i1,i2,i4, .inl hge⟩
   ·rw[if_neg hge]
    refine wpS_bind (v5 hk hy ha (by walk_at "o") (fun b=>?_) fun b=>?_)
    ·exact wpS_pure ⟨rfl,_,_,rfl,i1,i2,i4, .inr b⟩
    ·exact wpS_pure ⟨rfl,_,_,rfl,by walk_at "o",by walk_at "o",by walk_at "o",b⟩
  ·rintro c st' ⟨rfl,l,k,rfl,i1,i2,i3,i4⟩
   exact⟨rfl,_,_,rfl,i1,i2,i4, .inl (by walk_at "o")⟩
  ·rintro c st' ⟨rfl,l,k,rfl,i1,i2,i4,i5⟩
   dsimp only
   refine wpS_bind (Jy hk hy ha hb hR (by walk_at "o") (by walk_at "o") (fun x hx=>?_) (fun x h1 h2 z=>i4 (qv z (hR _ _ (by walk_at "o") (by walk_at "o") (by walk_at "o")))) fun l k hkn q1 q2=>wpS_pure (h k hkn q1 q2))
   rcases i5 with i5|i5
   ·walk_at "o"
   ·exact qv i5 (hR _ _ (by walk_at "o") (by walk_at "o") (by walk_at "o"))
theorem iz{a:Array Keyed}{x:Keyed}{i:Nat}(h:i<a.size+1):kz (a.push x) i=if i=a.size then kd x else kz a i:=by
 unfold kz
 rw[D0]
 by_cases c:i=a.size
 ·rw[if_pos c,if_pos c]
 ·rw[if_neg c,if_neg c]
theorem ef{a b:Array Keyed}{i:Nat}:kz (a++b) i=if i<a.size then kz a i else kz b (i-a.size):=by
 unfold kz
 rw[IU]
 by_cases c:i<a.size
 ·rw[if_pos c,if_pos c]
 ·rw[if_neg c,if_neg c]
theorem dg{a:Array Keyed}{i j x:Nat}(hj:j<=a.size)(hx:i+x<j):kz (a.extract i j) x=kz a (i+x):=by
 unfold kz
 rw[KY,if_pos (by walk_at "o")]
structure Mo(a b:Array Keyed)(i j:Nat)(out:Array Keyed):Prop where
 up:Ra out 0 out.size
 oa:∀x y,x<out.size->i<=y->y<a.size->kz out x<=kz a y
 ob:∀x y,x<out.size->j<=y->y<b.size->kz out x<=kz b y
variable{a b out:Array Keyed}{i j k:Nat}
theorem Mo.jF(h:Mo a b i j out)(hb:Ra b 0 b.size)(ha:Ra a 0 a.size)(hj:j<b.size)(hc:i<a.size->kz b j<=kz a i):Mo a b i (j+1) (out.push b[j]):=by
 have e:kd b[j]=kz b j:=(dI hj).symm
 refine⟨fun x y h0 hxy hy=>?_,fun x y hx hi hy=>?_,fun x y hx hi hy=>?_⟩<;>rw[t9] at*
 ·rw[iz (by walk_at "o"),iz (by walk_at "o"),e]
  by_cases c1:y=out.size
  ·rw[if_pos c1]
   by_cases c2:x=out.size
   ·rw[if_pos c2];walk_at "o"
   ·rw[if_neg c2];exact h.ob x j (by walk_at "o") (by walk_at "o") hj
  ·rw[if_neg c1,if_neg (by walk_at "o")];exact h.up x y (by walk_at "o") hxy (by walk_at "o")
 ·rw[iz (by walk_at "o"),e]
  by_cases c2:x=out.size
  ·rw[if_pos c2]
   have h1:=hc (by walk_at "o")
   have h2:=ha i y (by walk_at "o") hi hy
   walk_at "o"
  ·rw[if_neg c2];exact h.oa x y (by walk_at "o") hi hy
 ·rw[iz (by walk_at "o"),e]
  by_cases c2:x=out.size
  ·rw[if_pos c2];exact hb j y (by walk_at "o") (by walk_at "o") hy
  ·rw[if_neg c2];exact h.ob x y (by walk_at "o") (by walk_at "o") hy
theorem Mo.jJ(h:Mo a b i j out)(hb:Ra b 0 b.size)(ha:Ra a 0 a.size)(hi:i<a.size)(hc:j<b.size->kz a i<=kz b j):Mo a b (i+1) j (out.push a[i]):=by
 have e:kd a[i]=kz a i:=(dI hi).symm
 refine⟨fun x y h0 hxy hy=>?_,fun x y hx hi' hy=>?_,fun x y hx hi' hy=>?_⟩<;>rw[t9] at*
 ·rw[iz (by walk_at "o"),iz (by walk_at "o"),e]
  by_cases c1:y=out.size
  ·rw[if_pos c1]
   by_cases c2:x=out.size
   ·rw[if_pos c2];walk_at "o"
   ·rw[if_neg c2];exact h.oa x i (by walk_at "o") (by walk_at "o") hi
  ·rw[if_neg c1,if_neg (by walk_at "o")];exact h.up x y (by walk_at "o") hxy (by walk_at "o")
 ·rw[iz (by walk_at "o"),e]
  by_cases c2:x=out.size
  ·rw[if_pos c2];exact ha i y (by walk_at "o") (by walk_at "o") hy
  ·rw[if_neg c2];exact h.oa x y (by walk_at "o") (by walk_at "o") hy
 ·rw[iz (by walk_at "o"),e]
  by_cases c2:x=out.size
  ·rw[if_pos c2]
   have h1:=hc (by walk_at "o")
   have h2:=hb j y (by walk_at "o") hi' hy
   walk_at "o"
  ·rw[if_neg c2];exact h.ob x y (by walk_at "o") hi' hy
theorem Mo.nK(h:Mo a b i j out)(hb:Ra b 0 b.size)(ha:Ra a 0 a.size)(hk:i+k<=a.size)(hc:∀y,i<=y->y<i+k->j<b.size->kz a y<=kz b j):Mo a b (i+k) j (out++a.extract i (i+k)):=by
 have hs:(a.extract i (i+k)).size=k:=by rw[fc];walk_at "o"
 refine⟨fun x y h0 hxy hy=>?_,fun x y hx hi' hy=>?_,fun x y hx hi' hy=>?_⟩<;>rw[m5,hs] at*
 ·rw[ef,ef]
  by_cases c1:y<out.size
  ·rw[if_pos c1,if_pos (by walk_at "o")];exact h.up x y (by walk_at "o") hxy c1
  ·rw[if_neg c1,dg (x:=y-out.size) hk (by walk_at "o")]
   by_cases c2:x<out.size
   ·rw[if_pos c2];exact h.oa x (i+(y-out.size)) c2 (by walk_at "o") (by walk_at "o")
   ·rw[if_neg c2,dg hk (by walk_at "o")];exact ha _ _ (by walk_at "o") (by walk_at "o") (by walk_at "o")
 ·rw[ef]
  by_cases c2:x<out.size
  ·rw[if_pos c2];exact h.oa x y c2 (by walk_at "o") hy
  ·rw[if_neg c2,dg hk (by walk_at "o")];exact ha _ _ (by walk_at "o") (by walk_at "o") hy
 ·rw[ef]
  by_cases c2:x<out.size
  ·rw[if_pos c2];exact h.ob x y c2 (by walk_at "o") hy
  ·rw[if_neg c2,dg hk (by walk_at "o")]
   have h1:=hc (i+(x-out.size)) (by walk_at "o") (by walk_at "o") (by walk_at "o")
   have h2:=hb j y (by walk_at "o") hi' hy
   walk_at "o"
theorem Mo.m6(h:Mo a b i j out)(hb:Ra b 0 b.size)(ha:Ra a 0 a.size)(hk:j+k<=b.size)(hc:∀y,j<=y->y<j+k->i<a.size->kz b y<=kz a i):Mo a b i (j+k) (out++b.extract j (j+k)):=by
 have hs:(b.extract j (j+k)).size=k:=by rw[fc];walk_at "o"
 refine⟨fun x y h0 hxy hy=>?_,fun x y hx hi' hy=>?_,fun x y hx hi' hy=>?_⟩<;>rw[m5,hs] at*
 ·rw[ef,ef]
  by_cases c1:y<out.size
  ·rw[if_pos c1,if_pos (by walk_at "o")];exact h.up x y (by walk_at "o") hxy c1
  ·rw[if_neg c1,dg (x:=y-out.size) hk (by walk_at "o")]
   by_cases c2:x<out.size
   ·rw[if_pos c2];exact h.ob x (j+(y-out.size)) c2 (by walk_at "o") (by walk_at "o")
   ·rw[if_neg c2,dg hk (by walk_at "o")];exact hb _ _ (by walk_at "o") (by walk_at "o") (by walk_at "o")
 ·rw[ef]
  by_cases c2:x<out.size
  ·rw[if_pos c2];exact h.oa x y c2 (by walk_at "o") hy
  ·rw[if_neg c2,dg hk (by walk_at "o")]
   have h1:=hc (j+(x-out.size)) (by walk_at "o") (by walk_at "o") (by walk_at "o")
   have h2:=ha i y (by walk_at "o") hi' hy
   walk_at "o"
 ·rw[ef]
  by_cases c2:x<out.size
  ·rw[if_pos c2];exact h.ob x y c2 (by walk_at "o") hy
  ·rw[if_neg c2,dg hk (by walk_at "o")];exact hb _ _ (by walk_at "o") (by walk_at "o") hy
theorem Mo.yC(h:Mo a b i j out)(ha:Ra a 0 a.size):Ra (out++a.extract i a.size) 0 (out++a.extract i a.size).size:=fun x y h0 hxy hy=>by
 rw[m5,fc] at hy
 rw[ef,ef]
 by_cases c1:y<out.size
 ·rw[if_pos c1,if_pos (by walk_at "o")];exact h.up x y (by walk_at "o") hxy c1
 ·rw[if_neg c1,dg (x:=y-out.size) (aE _) (by walk_at "o")]
  by_cases c2:x<out.size
  ·rw[if_pos c2];exact h.oa x (i+(y-out.size)) c2 (by walk_at "o") (by walk_at "o")
  ·rw[if_neg c2,dg (aE _) (by walk_at "o")];exact ha _ _ (by walk_at "o") (by walk_at "o") (by walk_at "o")
theorem Mo.w5(h:Mo a b i j out)(hb:Ra b 0 b.size):Ra (out++b.extract j b.size) 0 (out++b.extract j b.size).size:=fun x y h0 hxy hy=>by
 rw[m5,fc] at hy
 rw[ef,ef]
 by_cases c1:y<out.size
 ·rw[if_pos c1,if_pos (by walk_at "o")];exact h.up x y (by walk_at "o") hxy c1
 ·rw[if_neg c1,dg (x:=y-out.size) (aE _) (by walk_at "o")]
  by_cases c2:x<out.size
  ·rw[if_pos c2];exact h.ob x (j+(y-out.size)) c2 (by walk_at "o") (by walk_at "o")
  ·rw[if_neg c2,dg (aE _) (by walk_at "o")];exact hb _ _ (by walk_at "o") (by walk_at "o") (by walk_at "o")
structure Mp(a b:Array Keyed):Prop where
 ra:Ra a 0 a.size
 rb:Ra b 0 b.size
 kA:dD a
 kB:dD b
 hd:kz b 0<=kz a 0
 tl:∀y,y<b.size->kz b y<=kz a (a.size-1)
noncomputable def cD(z:Array Keyed):Prop:=Ra z 0 z.size
theorem Mo.tG(P:Mp a b)(h:Mo a b i j out)(hj:j=b.size):cD (out++a.extract i a.size++b.extract j b.size):=by
 have e:b.extract j b.size= #[]:=by rw[hj];simp
 unfold cD
 rw[e,C9]
 exact h.yC P.ra
theorem Mo.wZ(P:Mp a b)(h:Mo a b i j out)(hi:i=a.size):cD (out++a.extract i a.size++b.extract j b.size):=by
 have e:a.extract i a.size= #[]:=by rw[hi];simp
 unfold cD
 rw[e,C9]
 exact h.w5 P.rb
theorem Mo.C8(P:Mp a b)(h:Mo a b i j out)(hi:i+1=a.size)(hj:j<=b.size):cD (out++b.extract j b.size++a.extract i a.size):=by
 have:=h.m6 (k:=b.size-j) P.rb P.ra (by walk_at "o") (fun y _ h2 _=>by have:=P.tl y (by walk_at "o");rwa[show a.size-1=i by walk_at "o"] at this)
 rw[show j+(b.size-j)=b.size by walk_at "o"] at this
 exact this.yC P.ra
noncomputable def LQ(a b:Array Keyed)(dO:SortSt)(B:Nat)(r:Option (Array Keyed))(out:Array Keyed)(ia ib:Nat)(st':SortSt):Prop:=
 eK dO st'/\(match r with|some z=>z.toList.Perm (a.toList++b.toList)/\cD z|none=>Mg a b ia ib out/\Mo a b ia ib out/\ia+1<a.size/\ib<b.size/\B<=ia+ib)
variable{dO st':SortSt}{B ia ib:Nat}{z:Array Keyed}
theorem LQ.some(S:eK dO st')(h:z.toList.Perm (a.toList++b.toList))(o:cD z):LQ a b dO B (some z) out ia ib st':=⟨S,h,o⟩
theorem LQ.none(S:eK dO st')(m:Mg a b ia ib out)(o:Mo a b ia ib out)(h1:ia+1<a.size)(h2:ib<b.size)(h3:B<=ia+ib):LQ a b dO B none out ia ib st':=⟨S,m,o,h1,h2,h3⟩
theorem KW{x y:Keyed}{α:Type}{f:Option Bool->StateT SortSt Sem α}{Q:α->SortSt->Prop}(hk:kindOf dO=oneType')(S:eK dO st)(hx:kN x)(hy:kN y)(h1:kd x<kd y->wpS (model prog w) A E s (f (some true)) Q st)(h2:kd y<=kd x->wpS (model prog w) A E s (f (some false)) Q st):wpS (model prog w) A E s (lt' x y>>=f) Q st:=wpS_bind (zj (S.1.trans hk) hx hy h1 h2)
theorem G4{left:Bool}{key:Keyed}{arr:Array Keyed}{base n hint:Nat}{α:Type}{f:Option Nat->StateT SortSt Sem α}{Q:α->SortSt->Prop}(hk:kindOf dO=oneType')(S:eK dO st)(hy:kN key)(ha:dD arr)(hb:base+n<=arr.size)(hR:Ra arr base (base+n))(hh:hint<n)(h:∀k,k<=n->(∀x<k,bI left key (kz arr (base+x)))->(∀x,k<=x->x<n->¬bI left key (kz arr (base+x)))->wpS (model prog w) A E s (f (some k)) Q st):wpS (model prog w) A E s (mD left key arr base n hint>>=f) Q st:=wpS_bind (E7 (S.1.trans hk) hy ha hb hR hh h)
theorem Ra.sub{x:Array Keyed}{l h l' h':Nat}(r:Ra x l h)(h1:l<=l')(h2:h'<=h):Ra x l' h':=fun i j a b c=>r i j (by walk_at "o") b (by walk_at "o")
theorem oS{α:Type}{t e:StateT SortSt Sem α}{Q:α->SortSt->Prop}(h:wpS (model prog w) A E s t Q st):wpS (model prog w) A E s (if true=true then t else e) Q st:=by rw[if_pos rfl];exact h
theorem oO{α:Type}{t e:StateT SortSt Sem α}{Q:α->SortSt->Prop}(h:wpS (model prog w) A E s e Q st):wpS (model prog w) A E s (if false=true then t else e) Q st:=by rw[if_neg bH];exact h
theorem SG{x y:Array Keyed}{i j:Nat}{hi:i<x.size}{hj:j<y.size}(h:kd x[i]<kd y[j]):kz x i<=kz y j:=by rw[dI hi,dI hj];walk_at "o"
theorem WB{x y:Array Keyed}{i j:Nat}{hi:i<x.size}{hj:j<y.size}(h:kd y[j]<=kd x[i]):kz y j<=kz x i:=by rw[dI hi,dI hj];walk_at "o"
theorem UC{x y:Array Keyed}{i j k:Nat}{hj:j<y.size}(h:∀z<k,bI false y[j] (kz x (i+z))):∀z,i<=z->z<i+k->kz x z<=kz y j:=fun z h1 h2=>by
 have:=h (z-i) (by walk_at "o")
 unfold bI at this
 rw[if_neg bH,show i+(z-i)=z by walk_at "o"] at this
 rw[dI hj];exact this
theorem KU{x y:Array Keyed}{i j k n:Nat}{hj:j<y.size}(h:∀z,k<=z->z<n->¬bI false y[j] (kz x (i+z)))(hk:k<n):kz y j<=kz x (i+k):=by
 have:=h k (aE _) hk
 unfold bI at this
 rw[if_neg bH] at this
 rw[dI hj];walk_at "o"
theorem Vv{x y:Array Keyed}{i j k:Nat}{hj:j<y.size}(h:∀z<k,bI true y[j] (kz x (i+z))):∀z,i<=z->z<i+k->kz x z<=kz y j:=fun z h1 h2=>by
 have:=h (z-i) (by walk_at "o")
 unfold bI at this
 rw[if_pos rfl,show i+(z-i)=z by walk_at "o"] at this
 rw[dI hj];walk_at "o"
theorem Ls{x y:Array Keyed}{i j k n:Nat}{hj:j<y.size}(h:∀z,k<=z->z<n->¬bI true y[j] (kz x (i+z)))(hk:k<n):kz y j<=kz x (i+k):=by
 have:=h k (aE _) hk
 unfold bI at this
 rw[if_pos rfl] at this
 rw[dI hj];walk_at "o"
theorem YX{x y:Array Keyed}{i j k n:Nat}{hj:j<y.size}(h:∀z,k<=z->z<n->¬bI false y[j] (kz x (i+z)))(h0:k<=0)(hn:0<n):kz y j<=kz x i:=by
 have:=KU (k:=0) (fun z a b=>h z (by walk_at "o") b) hn
 rwa[ux] at this
theorem Rg{x y:Array Keyed}{i j k n:Nat}{hj:j<y.size}(h:∀z,k<=z->z<n->¬bI true y[j] (kz x (i+z)))(h0:k<=0)(hn:0<n):kz y j<=kz x i:=by
 have:=Ls (k:=0) (fun z a b=>h z (by walk_at "o") b) hn
 rwa[ux] at this
local macro_rules| `(tactic|walk_at "og")=> `(tactic|repeat (first|assumption|with_reducible refine Mg.jF ?_ (by omega)|with_reducible refine Mg.jJ ?_ (by omega)|with_reducible refine Mg.nK ?_|with_reducible refine Mg.m6 ?_))
local macro_rules| `(tactic|walk_at "oo")=> `(tactic|repeat' (first
 |assumption
 |with_reducible refine Mo.jF ?_ (by assumption) (by assumption) (by omega) ?_
 |with_reducible refine Mo.jJ ?_ (by assumption) (by assumption) (by omega) ?_
 |with_reducible refine Mo.nK ?_ (by assumption) (by assumption) (by omega) ?_
 |with_reducible refine Mo.m6 ?_ (by assumption) (by assumption) (by omega) ?_
 |exact fun _=>KU (by assumption) (by omega)
 |exact fun _=>Ls (by assumption) (by omega)
 |exact fun _=>YX (by assumption) (by omega) (by omega)
 |exact fun _=>Rg (by assumption) (by omega) (by omega)
 |exact fun y h1 h2 _=>UC (by assumption) y h1 h2
 |exact fun y h1 h2 _=>Vv (by assumption) y h1 h2))
local macro_rules| `(tactic|walk_at "oe")=> `(tactic|(dsimp only;first
 |exact LQ.some (by assumption) (Mg.done (by walk_at "og")) (Mo.tG (by assumption) (by walk_at "oo") (by omega))
 |exact LQ.some (by assumption) (Mg.done (by walk_at "og")) (Mo.wZ (by assumption) (by walk_at "oo") (by omega))
 |exact LQ.some (by assumption) (Mg.last (by walk_at "og")) (Mo.C8 (by assumption) (by walk_at "oo") (by omega) (by omega))
 |exact LQ.none (by assumption) (by walk_at "og") (by walk_at "oo") (by omega) (by omega) (by omega)
 |exact And.intro (by first|rfl|trivial) (LQ.none (by assumption) (by walk_at "og") (by walk_at "oo") (by omega) (by omega) (by omega))))
local macro_rules| `(tactic|walk_at "os")=> `(tactic|repeat' (first
 |with_reducible refine wpS_pure ?_
 |with_reducible refine ku (fun _=>?_) (fun _=>?_)
 |with_reducible refine qC (by omega) ?_
 |with_reducible refine G4 (by assumption) (by assumption) (dD.at (by assumption) _) (by assumption) (by omega) (Ra.sub (by assumption) (eU _) (by omega)) (by omega) (fun _ _ _ _=>?_)
 |with_reducible refine yu (by assumption) (fun _ _=>?_)
 |with_reducible refine Mf ?_ ?_
 |with_reducible refine gX (fun _=>?_) (fun _=>?_)
 |walk_at "oe"))
theorem Pz{Q:Array Keyed->SortSt->Prop}(hk:kindOf st=oneType')(P:Mp a b)(a0:0<a.size)(b0:0<b.size)(h:∀r st',eK st st'->r.toList.Perm (a.toList++b.toList)->cD r->Q r st'):wpS (model prog w) A E s (DQ a b) Q st:=by
  have ra:=P.ra
  have rb:=P.rb
  have kA:=P.kA
  have kB:=P.kB
  rw[W7]
  refine wpS_bind (wpS_lift (wpAny_rule ⟨rfl,?_⟩))
  refine wpS_bind (nB b0 ?_)
  dsimp only
  have m0:Mg a b 0 1 #[b[0]]:=by unfold Mg;rw[Az (l:=b.toList) (by simpa using b0)];simp
  have o0:Mo a b 0 1 #[b[0]]:=by
    have:=Mo.jF (a:=a) (b:=b) (i:=0) (j:=0) (out:= #[]) ⟨fun _ _ _ _ h=>by simp at h,fun _ _ h=>by simp at h,fun _ _ h=>by simp at h⟩ rb ra b0 (fun _=>P.hd)
    simpa using this
  refine ku (fun c1=>wpS_pure (h _ _ (.refl _) m0.done (o0.tG P c1))) (fun c1=>?_)
  refine ku (fun c2=>wpS_pure (h _ _ (.refl _) m0.last (o0.C8 P c2 (by walk_at "o")))) (fun c2=>?_)
  refine wpS_bind (wpS_get ?_)
  refine wpS_bind (wpS_mono (wpS_forRange (I:=fun x c st'=>c.1=none/\LQ a b st (x+1) none c.2.1 c.2.2.1 c.2.2.2.1 st') (Q:=fun c st'=>eK st st'/\∃z,c.1=some z/\z.toList.Perm (a.toList++b.toList)/\cD z) ?step ?fin ⟨rfl, .none (.refl _) m0 o0 (by dsimp only;walk_at "o") (by dsimp only;walk_at "o") (by dsimp only;walk_at "o")⟩) ?post)
  case fin=>
    rintro c st' ⟨_,_,_,_,i1,i2,i3⟩
    walk_at "o"
  case post=>
    rintro c st' ⟨S,z,e,hz,oz⟩
    rw[e]
    exact wpS_pure (h z st' S hz oz)
  case step=>
    rintro x ⟨r,out,ia,ib,mn⟩ st' _ hx ⟨e,S,m,o,i1,i2,i3⟩
    dsimp only at e m o i1 i2 i3
    subst e
    dsimp only
    refine wpS_bind (wpS_mono (wpS_forRange (I:=fun y c st'=>c.1=none/\LQ a b st (x+1+y) none c.2.1 c.2.2.1 c.2.2.2.1 st') (Q:=fun c st'=>LQ a b st (x+2) c.1 c.2.1 c.2.2.1 c.2.2.2.1 st') ?Dv ?AI ⟨rfl, .none S m o i1 i2 (by walk_at "o")⟩) ?BY)
    case AI=>
      rintro⟨r,out,ia,ib,ac,bc⟩ st' ⟨e,S,m,o,i1,i2,i3⟩
      dsimp only at e m o i1 i2 i3
      subst e
      exact .none S m o i1 i2 (by walk_at "o")
    case Dv=>
      rintro y ⟨r,out,ia,ib,ac,bc⟩ st' _ hy ⟨e,S,m,o,i1,i2,i3⟩
      dsimp only at e m o i1 i2 i3
      subst e
      dsimp only
      refine qC (by walk_at "o") ?_
      refine qC (by walk_at "o") ?_
      refine KW hk S (kB.at _) (kA.at _) (fun c=>?_) (fun c=>?_)
      · have m':=m.jF (show ib<b.size by walk_at "o")
        have o':=o.jF rb ra (show ib<b.size by walk_at "o") (fun _=>SG c)
        refine oS ?_
        refine qC (by walk_at "o") ?_
        refine ku (fun z=>?_) (fun z=>?_)
        · refine wpS_pure ?_
          dsimp only
          exact(LQ.some S m'.done (o'.tG P z))
        · refine gX (fun _=>?_) (fun _=>?_)
          · refine wpS_pure ?_
            dsimp only
            exact(LQ.none S m' o' (by walk_at "o") (by walk_at "o") (by walk_at "o"))
          · refine wpS_pure ?_
            dsimp only
            exact⟨rfl,LQ.none S m' o' (by walk_at "o") (by walk_at "o") (by walk_at "o")⟩
      · have m':=m.jJ (show ia<a.size by walk_at "o")
        have o':=o.jJ rb ra (show ia<a.size by walk_at "o") (fun _=>WB c)
        refine oO ?_
        refine qC (by walk_at "o") ?_
        refine ku (fun z=>?_) (fun z=>?_)
        · refine wpS_pure ?_
          dsimp only
          exact(LQ.some S m'.last (o'.C8 P z (by walk_at "o")))
        · refine gX (fun _=>?_) (fun _=>?_)
          · refine wpS_pure ?_
            dsimp only
            exact(LQ.none S m' o' (by walk_at "o") (by walk_at "o") (by walk_at "o"))
          · refine wpS_pure ?_
            dsimp only
            exact⟨rfl,LQ.none S m' o' (by walk_at "o") (by walk_at "o") (by walk_at "o")⟩
    case BY=>
      rintro⟨r,out,ia,ib,ac,bc⟩ st' hL
      cases r with
      |some z=>exact wpS_pure ⟨hL.1,z,rfl,hL.2⟩
      | none =>
        obtain⟨S,m,o,i1,i2,i3⟩:=hL
        dsimp only at m o i1 i2 i3
        dsimp only
        refine wpS_bind (wpS_lift (wpAny_rule ⟨rfl,?_⟩))
        refine wpS_bind (wpS_mono (wpS_forRange (I:=fun y c st'=>c.1=none/\LQ a b st (x+2) none c.2.1 c.2.2.1 c.2.2.2.1 st') (Q:=fun c st'=>LQ a b st (x+2) c.1 c.2.1 c.2.2.1 c.2.2.2.1 st') ?B8 ?EI ⟨rfl, .none S m o i1 i2 (by walk_at "o")⟩) ?Es)
        case EI=>
          rintro⟨r,out,ia,ib,mn,ac,bc⟩ st' ⟨e,S,m,o,i1,i2,i3⟩
          dsimp only at e m o i1 i2 i3
          subst e
          exact .none S m o i1 i2 (by walk_at "o")
        case B8=>
          rintro y ⟨r,out,ia,ib,mn,ac,bc⟩ st' _ hy ⟨e,S,m,o,i1,i2,i3⟩
          dsimp only at e m o i1 i2 i3
          subst e
          dsimp only
          walk_at "os"
        case Es=>
          rintro⟨r,out,ia,ib,mn,ac,bc⟩ st' hL
          cases r with
          |some z=>exact wpS_pure ⟨hL.1,z,rfl,hL.2⟩
          | none =>
            obtain⟨S,m,o,i1,i2,i3⟩:=hL
            dsimp only at m o i1 i2 i3
            dsimp only
            exact yu S fun st' S'=>wpS_pure ⟨rfl, .none S' m o i1 i2 (by walk_at "o")⟩
end
end L2
set_option maxRecDepth 100000
set_option maxHeartbeats 4000000
namespace L2
open PySem PySem.Spec PyProof.Rows
section
variable{prog:Program}{w:World}{A:Around}{E:Value->Shared->Prop}{s:Shared}{st:SortSt}{a b out:Array Keyed}{i j k n:Nat}
theorem uA{x:Nat}(h:x<a.size):kz a.reverse x=kz a (a.size-1-x):=by
 unfold kz
 rw[Array.getElem?_reverse h]
structure Mu(a b:Array Keyed)(i j:Nat)(out:Array Keyed):Prop where
 dn:∀x y,x<=y->y<out.size->kz out y<=kz out x
 oa:∀x y,x<out.size->y<i->kz a y<=kz out x
 ob:∀x y,x<out.size->y<j->kz b y<=kz out x
theorem Mu.jF(h:Mu a b i (j+1) out)(hb:cD b)(hj:j<b.size)(hc:∀y,y<i->kz a y<=kz b j):Mu a b i j (out.push b[j]):=by
 have e:kd b[j]=kz b j:=(dI hj).symm
 refine⟨fun x y hxy hy=>?_,fun x y hx hy=>?_,fun x y hx hy=>?_⟩<;>rw[t9] at*
 ·rw[iz (by walk_at "o"),iz (by walk_at "o"),e]
  by_cases c1:y=out.size
  ·rw[if_pos c1]
   by_cases c2:x=out.size
   ·rw[if_pos c2];walk_at "o"
   ·rw[if_neg c2];exact h.ob x j (by walk_at "o") (by walk_at "o")
  ·rw[if_neg c1,if_neg (by walk_at "o")];exact h.dn x y hxy (by walk_at "o")
 ·rw[iz (by walk_at "o"),e]
  by_cases c2:x=out.size
  ·rw[if_pos c2];exact hc y hy
  ·rw[if_neg c2];exact h.oa x y (by walk_at "o") hy
 ·rw[iz (by walk_at "o"),e]
  by_cases c2:x=out.size
  ·rw[if_pos c2];exact hb y j (by walk_at "o") (by walk_at "o") hj
  ·rw[if_neg c2];exact h.ob x y (by walk_at "o") (by walk_at "o")
theorem Mu.jJ(h:Mu a b (i+1) j out)(ha:cD a)(hi:i<a.size)(hc:∀y,y<j->kz b y<=kz a i):Mu a b i j (out.push a[i]):=by
 have e:kd a[i]=kz a i:=(dI hi).symm
 refine⟨fun x y hxy hy=>?_,fun x y hx hy=>?_,fun x y hx hy=>?_⟩<;>rw[t9] at*
 ·rw[iz (by walk_at "o"),iz (by walk_at "o"),e]
  by_cases c1:y=out.size
  ·rw[if_pos c1]
   by_cases c2:x=out.size
   ·rw[if_pos c2];walk_at "o"
   ·rw[if_neg c2];exact h.oa x i (by walk_at "o") (by walk_at "o")
  ·rw[if_neg c1,if_neg (by walk_at "o")];exact h.dn x y hxy (by walk_at "o")
 ·rw[iz (by walk_at "o"),e]
  by_cases c2:x=out.size
  ·rw[if_pos c2];exact ha y i (by walk_at "o") (by walk_at "o") hi
  ·rw[if_neg c2];exact h.oa x y (by walk_at "o") (by walk_at "o")
 ·rw[iz (by walk_at "o"),e]
  by_cases c2:x=out.size
  ·rw[if_pos c2];exact hc y hy
  ·rw[if_neg c2];exact h.ob x y (by walk_at "o") hy
theorem Mu.Z0(h:Mu a b i j out)(hb:cD b)(h1:1<=j)(hj:j-1<b.size)(hc:∀y,y<i->kz a y<=kz b (j-1)):Mu a b i (j-1) (out.push b[j-1]):=
 Mu.jF (by rw[show j-1+1=j by walk_at "o"];exact h) hb hj hc
theorem Mu.Tz(h:Mu a b i j out)(ha:cD a)(h1:1<=i)(hi:i-1<a.size)(hc:∀y,y<j->kz b y<=kz a (i-1)):Mu a b (i-1) j (out.push a[i-1]):=
 Mu.jJ (by rw[show i-1+1=i by walk_at "o"];exact h) ha hi hc
theorem nN{x:Nat}(hi:i<=a.size)(hx:x<i-k):kz (a.extract k i).reverse x=kz a (i-1-x):=by
 have hs:(a.extract k i).size=i-k:=by rw[fc];walk_at "o"
 rw[uA (by walk_at "o"),dg hi (by walk_at "o"),hs]
 congr 1;walk_at "o"
theorem Mu.nK(h:Mu a b i j out)(ha:cD a)(hk:k<=i)(hi:i<=a.size)(hc:∀y,k<=y->y<i->∀x,x<j->kz b x<=kz a y):Mu a b k j (out++(a.extract k i).reverse):=by
 have hs:(a.extract k i).reverse.size=i-k:=by rw[xu,fc];walk_at "o"
 refine⟨fun x y hxy hy=>?_,fun x y hx hy=>?_,fun x y hx hy=>?_⟩<;>rw[m5,hs] at*
 ·rw[ef,ef]
  by_cases c1:y<out.size
  ·rw[if_pos c1,if_pos (by walk_at "o")];exact h.dn x y hxy c1
  ·rw[if_neg c1,nN hi (by walk_at "o")]
   by_cases c2:x<out.size
   ·rw[if_pos c2];exact h.oa x _ c2 (by walk_at "o")
   ·rw[if_neg c2,nN hi (by walk_at "o")];exact ha _ _ (by walk_at "o") (by walk_at "o") (by walk_at "o")
 ·rw[ef]
  by_cases c2:x<out.size
  ·rw[if_pos c2];exact h.oa x y c2 (by walk_at "o")
  ·rw[if_neg c2,nN hi (by walk_at "o")];exact ha _ _ (by walk_at "o") (by walk_at "o") (by walk_at "o")
 ·rw[ef]
  by_cases c2:x<out.size
  ·rw[if_pos c2];exact h.ob x y c2 hy
  ·rw[if_neg c2,nN hi (by walk_at "o")];exact hc _ (by walk_at "o") (by walk_at "o") y hy
theorem Mu.m6(h:Mu a b i j out)(hb:cD b)(hk:k<=j)(hj:j<=b.size)(hc:∀y,k<=y->y<j->∀x,x<i->kz a x<=kz b y):Mu a b i k (out++(b.extract k j).reverse):=by
 have hs:(b.extract k j).reverse.size=j-k:=by rw[xu,fc];walk_at "o"
 refine⟨fun x y hxy hy=>?_,fun x y hx hy=>?_,fun x y hx hy=>?_⟩<;>rw[m5,hs] at*
 ·rw[ef,ef]
  by_cases c1:y<out.size
  ·rw[if_pos c1,if_pos (by walk_at "o")];exact h.dn x y hxy c1
  ·rw[if_neg c1,nN hj (by walk_at "o")]
   by_cases c2:x<out.size
   ·rw[if_pos c2];exact h.ob x _ c2 (by walk_at "o")
   ·rw[if_neg c2,nN hj (by walk_at "o")];exact hb _ _ (by walk_at "o") (by walk_at "o") (by walk_at "o")
 ·rw[ef]
  by_cases c2:x<out.size
  ·rw[if_pos c2];exact h.oa x y c2 hy
  ·rw[if_neg c2,nN hj (by walk_at "o")];exact hc _ (by walk_at "o") (by walk_at "o") y hy
 ·rw[ef]
  by_cases c2:x<out.size
  ·rw[if_pos c2];exact h.ob x y c2 (by walk_at "o")
  ·rw[if_neg c2,nN hj (by walk_at "o")];exact hb _ _ (by walk_at "o") (by walk_at "o") (by walk_at "o")
theorem Mu.yC(h:Mu a b i j out)(ha:cD a)(hi:i<=a.size):cD (a.extract 0 i++out.reverse):=fun x y h0 hxy hy=>by
 have hs:(a.extract 0 i).size=i:=by rw[fc];walk_at "o"
 rw[m5,xu,hs] at hy
 rw[ef,ef,hs]
 by_cases c1:y<i
 ·rw[if_pos c1,if_pos (by walk_at "o"),dg hi (by walk_at "o"),dg hi (by walk_at "o")];exact ha _ _ (by walk_at "o") (by walk_at "o") (by walk_at "o")
 ·rw[if_neg c1,uA (x:=y-i) (by walk_at "o")]
  by_cases c2:x<i
  ·rw[if_pos c2,dg hi (by walk_at "o")];exact h.oa (out.size-1-(y-i)) (0+x) (by walk_at "o") (by walk_at "o")
  ·rw[if_neg c2,uA (by walk_at "o")];exact h.dn _ _ (by walk_at "o") (by walk_at "o")
theorem Mu.w5(h:Mu a b i j out)(hb:cD b)(hj:j<=b.size):cD (b.extract 0 j++out.reverse):=fun x y h0 hxy hy=>by
 have hs:(b.extract 0 j).size=j:=by rw[fc];walk_at "o"
 rw[m5,xu,hs] at hy
 rw[ef,ef,hs]
 by_cases c1:y<j
 ·rw[if_pos c1,if_pos (by walk_at "o"),dg hj (by walk_at "o"),dg hj (by walk_at "o")];exact hb _ _ (by walk_at "o") (by walk_at "o") (by walk_at "o")
 ·rw[if_neg c1,uA (x:=y-j) (by walk_at "o")]
  by_cases c2:x<j
  ·rw[if_pos c2,dg hj (by walk_at "o")];exact h.ob (out.size-1-(y-j)) (0+x) (by walk_at "o") (by walk_at "o")
  ·rw[if_neg c2,uA (by walk_at "o")];exact h.dn _ _ (by walk_at "o") (by walk_at "o")
theorem Mu.wZ(P:Mp a b)(h:Mu a b i j out)(hi:i=0)(hj:j<=b.size):cD (a.extract 0 i++b.extract 0 j++out.reverse):=by
 have e:a.extract 0 i= #[]:=by rw[hi];simp
 rw[e,Array.empty_append]
 exact h.w5 P.rb hj
theorem Mu.tG(P:Mp a b)(h:Mu a b i j out)(hj:j=0)(hi:i<=a.size):cD (a.extract 0 i++b.extract 0 j++out.reverse):=by
 have e:b.extract 0 j= #[]:=by rw[hj];simp
 rw[e,C9]
 exact h.yC P.ra hi
theorem Mu.IQ(P:Mp a b)(h:Mu a b i j out)(hj:j=1)(b0:1<=b.size)(hi:i<=a.size):cD (b.extract 0 j++a.extract 0 i++out.reverse):=by
 have h2:=h.nK (k:=0) P.ra (eU _) hi (fun y _ h2 x hx=>by
  have e:x=0:=by walk_at "o"
  subst e
  have h3:=P.hd
  have h4:=P.ra 0 y (by walk_at "o") (by walk_at "o") (by walk_at "o")
  walk_at "o")
 have h3:=h2.w5 P.rb (by walk_at "o")
 rwa[Array.reverse_append,Array.reverse_reverse,<-Array.append_assoc] at h3
noncomputable def LR(a b:Array Keyed)(dO:SortSt)(B:Nat)(r:Option (Array Keyed))(out:Array Keyed)(ia ib:Nat)(st':SortSt):Prop:=
 eK dO st'/\(match r with|some z=>z.toList.Perm (a.toList++b.toList)/\cD z|none=>Mh a b ia ib out/\Mu a b ia ib out/\1<=ia/\ia<=a.size/\2<=ib/\ib<=b.size/\B+ia+ib<=a.size+b.size)
variable{dO st':SortSt}{B ia ib:Nat}{z:Array Keyed}
theorem LR.some(S:eK dO st')(h:z.toList.Perm (a.toList++b.toList))(o:cD z):LR a b dO B (some z) out ia ib st':=⟨S,h,o⟩
theorem LR.none(S:eK dO st')(m:Mh a b ia ib out)(o:Mu a b ia ib out)(h1:1<=ia/\ia<=a.size/\2<=ib/\ib<=b.size/\B+ia+ib<=a.size+b.size):LR a b dO B none out ia ib st':=⟨S,m,o,h1⟩
theorem hi_lt{x y:Array Keyed}{i j:Nat}{hi:i<x.size}{hj:j<y.size}(h:kd x[i]<kd y[j])(r:cD x):∀z,z<i+1->kz x z<=kz y j:=fun z hz=>by
 have:=r z i (by walk_at "o") (by walk_at "o") hi
 rw[dI hi] at this
 rw[dI hj];walk_at "o"
theorem SA{x y:Array Keyed}{i j:Nat}{hi:i<x.size}{hj:j<y.size}(h:kd x[i]<=kd y[j])(r:cD x):∀z,z<i+1->kz x z<=kz y j:=fun z hz=>by
 have:=r z i (by walk_at "o") (by walk_at "o") hi
 rw[dI hi] at this
 rw[dI hj];walk_at "o"
theorem NY{l:Bool}{x y:Array Keyed}{j k m:Nat}{hj:j<y.size}(h:∀z<k,bI l y[j] (kz x (0+z)))(hm:m<=k):∀z,z<m->kz x z<=kz y j:=fun z hz=>by
 have:=h z (by walk_at "o")
 unfold bI at this
 rw[DN] at this
 rw[dI hj]
 cases l with
 |true=>rw[if_pos rfl] at this;walk_at "o"
 |false=>rw[if_neg bH] at this;exact this
theorem QN{l:Bool}{x y:Array Keyed}{j k n:Nat}{hj:j<y.size}(h:∀z,k<=z->z<n->¬bI l y[j] (kz x (0+z)))(r:cD y){m:Nat}(hm:m<=j+1):∀z,k<=z->z<n->∀u,u<m->kz y u<=kz x z:=fun z h1 h2 u hu=>by
 have:=h z h1 h2
 unfold bI at this
 rw[DN] at this
 have h3:=r u j (by walk_at "o") (by walk_at "o") hj
 rw[dI hj] at h3
 cases l with
 |true=>rw[if_pos rfl] at this;walk_at "o"
 |false=>rw[if_neg bH] at this;walk_at "o"
local macro_rules| `(tactic|walk_at "pg")=> `(tactic|repeat (first|assumption|with_reducible refine Mh.jF ?_ (by omega) (by omega)|with_reducible refine Mh.jJ ?_ (by omega) (by omega)|with_reducible refine Mh.Rr ?_ (by omega)|with_reducible refine Mh.Vu ?_ (by omega)|with_reducible refine Mh.nK ?_ (by omega)|with_reducible refine Mh.m6 ?_ (by omega)))
local macro_rules| `(tactic|walk_at "po")=> `(tactic|repeat' (first
 |assumption
 |with_reducible refine Mu.Tz ?_ (by assumption) (by omega) (by omega) ?_
 |with_reducible refine Mu.jF ?_ (by assumption) (by omega) ?_
 |with_reducible refine Mu.jJ ?_ (by assumption) (by omega) ?_
 |with_reducible refine Mu.nK ?_ (by assumption) (by omega) (by omega) ?_
 |with_reducible refine Mu.m6 ?_ (by assumption) (by omega) (by omega) ?_
 |exact hi_lt (by assumption) (by assumption)
 |exact SA (by assumption) (by assumption)
 |exact NY (by assumption) (by omega)
 |exact QN (by assumption) (by assumption) (by omega)))
local macro_rules| `(tactic|walk_at "pe")=> `(tactic|(dsimp only;first
 |exact LR.some (by assumption) (Mh.done (by walk_at "pg")) (Mu.wZ (by assumption) (by walk_at "po") (by omega) (by omega))
 |exact LR.some (by assumption) (Mh.done (by walk_at "pg")) (Mu.tG (by assumption) (by walk_at "po") (by omega) (by omega))
 |exact LR.some (by assumption) (Mh.first (by walk_at "pg")) (Mu.IQ (by assumption) (by walk_at "po") (by omega) (by omega) (by omega))
 |exact LR.none (by assumption) (by walk_at "pg") (by walk_at "po") (by omega)
 |exact And.intro (by first|rfl|trivial) (LR.none (by assumption) (by walk_at "pg") (by walk_at "po") (by omega))))
local macro_rules| `(tactic|walk_at "ps")=> `(tactic|repeat' (first
 |with_reducible refine wpS_pure ?_
 |with_reducible refine oS ?_
 |with_reducible refine oO ?_
 |with_reducible refine ku (fun _=>?_) (fun _=>?_)
 |with_reducible refine qC (by omega) ?_
 |with_reducible refine KW (by assumption) (by assumption) (dD.at (by assumption) _) (dD.at (by assumption) _) (fun _=>?_) (fun _=>?_)
 |with_reducible refine G4 (by assumption) (by assumption) (dD.at (by assumption) _) (by assumption) (by omega) (Ra.sub (by assumption) (eU _) (by omega)) (by omega) (fun _ _ _ _=>?_)
 |with_reducible refine yu (by assumption) (fun _ _=>?_)
 |with_reducible refine Mf ?_ ?_
 |with_reducible refine gX (fun _=>?_) (fun _=>?_)))
theorem Wz{Q:Array Keyed->SortSt->Prop}(hk:kindOf st=oneType')(P:Mp a b)(a0:0<a.size)(b0:0<b.size)(h:∀r st',eK st st'->r.toList.Perm (a.toList++b.toList)->cD r->Q r st'):wpS (model prog w) A E s (A4 a b) Q st:=by
  have ra':=P.ra
  have rb':=P.rb
  have ra:cD a:=P.ra
  have rb:cD b:=P.rb
  have kA:=P.kA
  have kB:=P.kB
  rw[UQ]
  refine wpS_bind (wpS_lift (wpAny_rule ⟨rfl,?_⟩))
  refine wpS_bind (nB (i:=a.size-1) (by walk_at "o") ?_)
  dsimp only
  have m0:Mh a b (a.size-1) b.size #[a[a.size-1]]:=by
    unfold Mh
    rw[Bt (l:=a.toList) (i:=a.size-1) (by simp;walk_at "o"),CM (l:=a.toList) (by simp;walk_at "o"),CM (l:=b.toList) (by simp)]
    simp
  have o0:Mu a b (a.size-1) b.size #[a[a.size-1]]:=by
    have:=Mu.jJ (a:=a) (b:=b) (i:=a.size-1) (j:=b.size) (out:= #[]) ⟨fun _ _ _ h=>by simp at h,fun _ _ h=>by simp at h,fun _ _ h=>by simp at h⟩ ra (by walk_at "o") (fun y hy=>P.tl y hy)
    simpa using this
  refine ku (fun c1=>wpS_pure (h _ _ (.refl _) m0.done (o0.wZ P c1 (by walk_at "o")))) (fun c1=>?_)
  refine ku (fun c2=>wpS_pure (h _ _ (.refl _) m0.first (o0.IQ P c2 (by walk_at "o") (by walk_at "o")))) (fun c2=>?_)
  refine wpS_bind (wpS_get ?_)
  refine wpS_bind (wpS_mono (wpS_forRange (I:=fun x c st'=>c.1=none/\LR a b st (x+1) none c.2.2.2.1 c.2.1 c.2.2.1 st') (Q:=fun c st'=>eK st st'/\∃z,c.1=some z/\z.toList.Perm (a.toList++b.toList)/\cD z) ?step ?fin ⟨rfl, .none (.refl _) m0 o0 (by dsimp only;walk_at "o")⟩) ?post)
  case fin=>
    rintro c st' ⟨_,_,_,_,i1,i2,i3,i4,i5⟩
    walk_at "o"
  case post=>
    rintro c st' ⟨S,z,e,hz,oz⟩
    rw[e]
    exact wpS_pure (h z st' S hz oz)
  case step=>
    rintro x ⟨r,ia,ib,out,mn⟩ st' _ hx ⟨e,S,m,o,i1,i2,i3,i4,i5⟩
    dsimp only at e m o i1 i2 i3 i4 i5
    subst e
    dsimp only
    refine wpS_bind (wpS_mono (wpS_forRange (I:=fun y c st'=>c.1=none/\LR a b st (x+1+y) none c.2.2.2.1 c.2.1 c.2.2.1 st') (Q:=fun c st'=>LR a b st (x+2) c.1 c.2.2.2.1 c.2.1 c.2.2.1 st') ?Dv ?AI ⟨rfl, .none S m o (by dsimp only;walk_at "o")⟩) ?BY)
    case AI=>
      rintro⟨r,ia,ib,out,ac,bc⟩ st' ⟨e,S,m,o,i1,i2,i3,i4,i5⟩
      dsimp only at e m o i1 i2 i3 i4 i5
      subst e
      exact .none S m o (by dsimp only;walk_at "o")
    case Dv=>
      clear S m o i1 i2 i3 i4 i5 hx m0 o0 c1 c2
      rintro y ⟨r,ia,ib,out,ac,bc⟩ st' _ hy ⟨e,S,m,o,i1,i2,i3,i4,i5⟩
      dsimp only at e m o i1 i2 i3 i4 i5
      subst e
      dsimp only
      obtain⟨p,rfl⟩:∃p,ia=p+1:=⟨ia-1,by walk_at "o"⟩
      obtain⟨q,rfl⟩:∃q,ib=q+1+1:=⟨ib-2,by walk_at "o"⟩
      simp only[Nat.add_sub_cancel]
      walk_at "ps"
      all_goals walk_at "pe"
    case BY=>
      rintro⟨r,ia,ib,out,ac,bc⟩ st' hL
      cases r with
      |some z=>exact wpS_pure ⟨hL.1,z,rfl,hL.2⟩
      | none =>
        obtain⟨S,m,o,i1,i2,i3,i4,i5⟩:=hL
        dsimp only at m o i1 i2 i3 i4 i5
        dsimp only
        refine wpS_bind (wpS_lift (wpAny_rule ⟨rfl,?_⟩))
        refine wpS_bind (wpS_mono (wpS_forRange (I:=fun y c st'=>c.1=none/\LR a b st (x+2) none c.2.2.2.1 c.2.1 c.2.2.1 st') (Q:=fun c st'=>LR a b st (x+2) c.1 c.2.2.2.1 c.2.1 c.2.2.1 st') ?B8 ?EI ⟨rfl, .none S m o (by dsimp only;walk_at "o")⟩) ?Es)
        case EI=>
          rintro⟨r,ia,ib,out,mn,ac,bc⟩ st' ⟨e,S,m,o,i1,i2,i3,i4,i5⟩
          dsimp only at e m o i1 i2 i3 i4 i5
          subst e
          exact .none S m o (by dsimp only;walk_at "o")
        case B8=>
          clear S m o i1 i2 i3 i4 i5 hx m0 o0 c1 c2
          rintro y ⟨r,ia,ib,out,mn,ac,bc⟩ st' _ hy ⟨e,S,m,o,i1,i2,i3,i4,i5⟩
          dsimp only at e m o i1 i2 i3 i4 i5
          subst e
          dsimp only
          obtain⟨p,rfl⟩:∃p,ia=p+1:=⟨ia-1,by walk_at "o"⟩
          obtain⟨q,rfl⟩:∃q,ib=q+1+1:=⟨ib-2,by walk_at "o"⟩
          simp only[Nat.add_sub_cancel]
          walk_at "ps"
          all_goals walk_at "pe"
        case Es=>
          rintro⟨r,ia,ib,out,mn,ac,bc⟩ st' hL
          cases r with
          |some z=>exact wpS_pure ⟨hL.1,z,rfl,hL.2⟩
          | none =>
            obtain⟨S,m,o,i1,i2,i3,i4,i5⟩:=hL
            dsimp only at m o i1 i2 i3 i4 i5
            dsimp only
            exact yu S fun st' S'=>wpS_pure ⟨rfl, .none S' m o (by dsimp only;walk_at "o")⟩
end
end L2
set_option maxRecDepth 100000
set_option maxHeartbeats 4000000
namespace L2
open PySem PySem.Spec PyProof.Rows
noncomputable def Eu(l:List Keyed)(i:Nat):Int:=match l[i]? with|some x=>kd x|none=>0
theorem BK{a:Array Keyed}{i:Nat}:kz a i=Eu a.toList i:=by unfold kz Eu;rw[jj]<;>rfl
noncomputable def uv(arr:Array Keyed)(r:Array Keyed)(sa:Nat):Array Keyed:=r.toList.zipIdx.foldl (fun(a:Array Keyed) (pj:Keyed×Nat)=>a.setIfInBounds (sa+pj.2) pj.1) arr
theorem ud{arr r:Array Keyed}{sa:Nat}(h:sa+r.size<=arr.size)(x:Nat):kz (uv arr r sa) x=if x<sa then kz arr x else if x<sa+r.size then kz r (x-sa) else kz arr x:=by
 have e:=BL sa r.toList 0 arr (by rw[cV];walk_at "o")
 rw[BK,BK,BK]
 unfold uv Eu
 rw[e,cV,ux,eX,ND,lB,cV,Dh (by walk_at "o")]
 by_cases c1:x<sa
 ·rw[if_pos c1,if_pos c1,Ng c1]
 ·rw[if_neg c1,if_neg c1,ND,cV]
  by_cases c2:x<sa+r.size
  ·rw[if_pos (by walk_at "o"),if_pos c2]
  ·rw[if_neg (by walk_at "o"),if_neg c2,List.getElem?_drop,show sa+r.size+(x-sa-r.size)=x by walk_at "o"]
theorem Ch.lies:∀{l:List (Nat×Nat×Nat)} {x y:Nat},Ch l x y->∀v∈l,x<=v.1/\v.1+v.2.1<=y
  |[],x,y,h,v,hv=>nomatch hv
  | (s, n, p) :: l, x, y, ⟨a, b, c⟩, v, hv => by
    have h1:=c.le
    rcases aA.mp hv with rfl|hv
    · exact⟨mY a.symm,by dsimp only;walk_at "o"⟩
    · have:=Ch.lies c v hv
      walk_at "o"
theorem Ch.apart{l:List (Nat×Nat×Nat)}{lo i:Nat}{sa na pw sb nb lH:Nat}(h:Ch l 0 lo)(e1:l[i]?=some (sa,na,pw))(e2:l[i+1]?=some (sb,nb,lH)):
  ∀v∈(l.set i (sa,na+nb,pw)).eraseIdx (i+1),v=(sa,na+nb,pw)\/(v∈l/\(v.1+v.2.1<=sa\/sb+nb<=v.1)):=by
 have hi:i<l.length:=(bh.mp e1).1
 have hi2:i+1<l.length:=(bh.mp e2).1
 have g1:=(bh.mp e1).2
 have g2:=(bh.mp e2).2
 have el:l=l.take i++(sa,na,pw)::(sb,nb,lH)::l.drop (i+2):=by
  have:=(kJ i l).symm
  rwa[sX hi,sX hi2,g1,g2] at this
 have hl:(l.take i).length=i:=by rw[lB];walk_at "o"
 generalize l.take i=A1 at*
 generalize l.drop (i+2)=A2 at*
 subst el
 obtain⟨y,c1,a1,a2,a3,a4,a5⟩:=Ch.append.mp h
 have e:((A1++(sa,na,pw)::(sb,nb,lH)::A2).set i (sa,na+nb,pw)).eraseIdx (i+1)=A1++(sa,na+nb,pw)::A2:=by
  rw[Lz _ _ (by walk_at "o"),hl,Nat.sub_self,List.set_cons_zero,L7 (by walk_at "o"),show i+1-A1.length=1 by walk_at "o"]
  rfl
 rw[e]
 intro v hv
 rcases jc.mp hv with hv|hv
 ·have:=c1.lies v hv
  exact .inr ⟨ug _ hv, .inl (by walk_at "o")⟩
 ·rcases aA.mp hv with rfl|hv
  ·exact .inl rfl
  ·have:=a5.lies v hv
   exact .inr ⟨jY _ (bJ _ (bJ _ hv)), .inr (by walk_at "o")⟩
theorem ext_mem{arr:Array Keyed}{i j:Nat}{x:Keyed}(h:x∈(arr.extract i j).toList):∃y,i<=y/\y<j/\kz arr y=kd x:=by
 obtain⟨k,hk⟩:=jm h
 rw[jj,KY] at hk
 by_cases c:k<min j arr.size-i
 ·rw[if_pos c] at hk
  exact⟨i+k,by walk_at "o",by walk_at "o",by unfold kz;rw[hk]⟩
 ·rw[if_neg c] at hk;cases hk
theorem LG{arr r:Array Keyed}{p q t:Nat}(h1:p<=q)(h2:q<=t)(hr:r.toList.Perm ((arr.extract p q).toList++(arr.extract q t).toList)){x:Nat}(hx:x<r.size):∃y,p<=y/\y<t/\kz r x=kz arr y:=by
 have hm:r[x]∈r.toList:=by simp
 rcases jc.mp (hr.mem_iff.mp hm) with h|h
 ·obtain⟨y,y1,y2,e⟩:=ext_mem h
  exact⟨y,y1,by walk_at "o",by rw[dI hx,e]⟩
 ·obtain⟨y,y1,y2,e⟩:=ext_mem h
  exact⟨y,by walk_at "o",y2,by rw[dI hx,e]⟩
theorem GR{arr r:Array Keyed}{sa sb na nb k k2:Nat}(hs:sb=sa+na)(hk:k<na)(h2:0<k2)(h3:k2<=nb)(hz:sb+nb<=arr.size)(rA:Ra arr sa (sa+na))(rB:Ra arr sb (sb+nb))
  (g1:∀x<k,kz arr (sa+x)<=kz arr sb) (g2:∀x,k2<=x->x<nb->kz arr (sb-1)<=kz arr (sb+x)) (hr:r.toList.Perm ((arr.extract (sa+k) sb).toList++(arr.extract sb (sb+k2)).toList)) (ru:cD r):
  r.size=sb+k2-(sa+k)/\Ra (uv arr r (sa+k)) sa (sa+(na+nb)):=by
 have hl:r.size=sb+k2-(sa+k):=by
  have:=hr.length_eq
  rw[fu,cV,cV,cV,fc,fc] at this
  walk_at "o"
 refine⟨hl,fun i j hi hij hj=>?_⟩
 rw[ud (by walk_at "o"),ud (by walk_at "o")]
 by_cases i1:i<sa+k
 ·rw[if_pos i1]
  have gi:=g1 (i-sa) (by walk_at "o")
  rw[show sa+(i-sa)=i by walk_at "o"] at gi
  by_cases j1:j<sa+k
  ·rw[if_pos j1];exact rA i j hi hij (by walk_at "o")
  ·rw[if_neg j1]
   by_cases j2:j<sa+k+r.size
   ·rw[if_pos j2]
    obtain⟨y,y1,y2,e⟩:=LG (by walk_at "o") (by walk_at "o") hr (x:=j-(sa+k)) (by walk_at "o")
    rw[e]
    by_cases c:y<sb
    ·exact rA i y hi (by walk_at "o") (by walk_at "o")
    ·have:=rB sb y (by walk_at "o") (by walk_at "o") (by walk_at "o")
     walk_at "o"
   ·rw[if_neg j2]
    have:=rB sb j (by walk_at "o") (by walk_at "o") (by walk_at "o")
    walk_at "o"
 ·rw[if_neg i1,if_neg (show¬j<sa+k by walk_at "o")]
  by_cases i2:i<sa+k+r.size
  ·rw[if_pos i2]
   by_cases j2:j<sa+k+r.size
   ·rw[if_pos j2];exact ru _ _ (by walk_at "o") (by walk_at "o") (by walk_at "o")
   ·rw[if_neg j2]
    obtain⟨y,y1,y2,e⟩:=LG (by walk_at "o") (by walk_at "o") hr (x:=i-(sa+k)) (by walk_at "o")
    rw[e]
    by_cases c:y<sb
    ·have a1:=rA y (sb-1) (by walk_at "o") (by walk_at "o") (by walk_at "o")
     have a2:=g2 (j-sb) (by walk_at "o") (by walk_at "o")
     rw[show sb+(j-sb)=j by walk_at "o"] at a2
     walk_at "o"
    ·exact rB y j (by walk_at "o") (by walk_at "o") (by walk_at "o")
  ·rw[if_neg i2,if_neg (show¬j<sa+k+r.size by walk_at "o")];exact rB i j (by walk_at "o") hij (by walk_at "o")
theorem QE{arr:Array Keyed}{sa sb na nb k k2:Nat}(hA:dD arr)(hs:sb=sa+na)(hk:k<na)(h2:0<k2)(h3:k2<=nb)(hz:sb+nb<=arr.size)(rA:Ra arr sa (sa+na))(rB:Ra arr sb (sb+nb))
  (g1:kz arr sb<=kz arr (sa+k)) (g2:∀x<k2,kz arr (sb+x)<=kz arr (sb-1)):Mp (arr.extract (sa+k) sb) (arr.extract sb (sb+k2)):=by
 have s1:(arr.extract (sa+k) sb).size=sb-(sa+k):=by rw[fc];walk_at "o"
 have s2:(arr.extract sb (sb+k2)).size=k2:=by rw[fc];walk_at "o"
 refine⟨fun i j h0 hij hj=>?_,fun i j h0 hij hj=>?_,hA.ext _ _,hA.ext _ _,?_,fun y hy=>?_⟩
 ·rw[dg (by walk_at "o") (by walk_at "o"),dg (by walk_at "o") (by walk_at "o")];exact rA _ _ (by walk_at "o") (by walk_at "o") (by walk_at "o")
 ·rw[dg (by walk_at "o") (by walk_at "o"),dg (by walk_at "o") (by walk_at "o")];exact rB _ _ (by walk_at "o") (by walk_at "o") (by walk_at "o")
 ·rw[dg (by walk_at "o") (by walk_at "o"),dg (by walk_at "o") (by walk_at "o")];exact g1
 ·rw[dg (by walk_at "o") (by walk_at "o"),dg (by walk_at "o") (by walk_at "o"),s1,show sa+k+(sb-(sa+k)-1)=sb-1 by walk_at "o"];exact g2 y (by walk_at "o")
noncomputable def RU(st:SortSt):Prop:=∀v∈(pendingOf st).toList,Ra (arrOf st) v.1 (v.1+v.2.1)
theorem Fw{key:Keyed}{v:Int}:bI false key v↔v<=kd key:=by unfold bI;rw[if_neg bH]
theorem NK{key:Keyed}{v:Int}:bI true key v↔v<kd key:=by unfold bI;rw[if_pos rfl]
theorem xr{a:Array Keyed}{i j:Nat}{h:i<a.size}(e:i=j):kd a[i]=kz a j:=by subst e;exact(dI h).symm
section
variable{prog:Program}{w:World}{A:Around}{E:Value->Shared->Prop}{s:Shared}{st:SortSt}{a₀:Array Keyed}{lo:Nat}
theorem Bu{i:Nat}{Q:Bool->SortSt->Prop}(hA:dD a₀)(hI:SI a₀ lo st)(hU:RU st)(hlo:lo<=a₀.size)(hi:i+1<(pendingOf st).size)(h:∀st',SI a₀ lo st'->RU st'->(∀x,lo<=x->kz (arrOf st') x=kz (arrOf st) x)->(pendingOf st').size+1=(pendingOf st).size->Q true st'):wpS (model prog w) A E s (mergeAt' i) Q st:=by
 rw[PK]
 refine wpS_bind (wpS_get ?_)
 obtain⟨⟨sa,na,pw⟩,e1⟩:∃v,(pendingOf st)[i]?=some v:=⟨_,getElem?_pos _ i (by walk_at "o")⟩
 obtain⟨⟨sb,nb,lH⟩,e2⟩:∃v,(pendingOf st)[i+1]?=some v:=⟨_,getElem?_pos _ (i+1) hi⟩
 rw[e1,e2]
 dsimp only
 have hs:=hI.size
 have l1:(pendingOf st).toList[i]?=some (sa,na,pw):=by rw[jj];exact e1
 have l2:(pendingOf st).toList[i+1]?=some (sb,nb,lH):=by rw[jj];exact e2
 obtain⟨b1,b2,b3,b4,b5⟩:=hI.ch.two l1 l2
 have hap:=hI.ch.apart l1 l2
 have rA:Ra (arrOf st) sa (sa+na):=hU _ (iQ l1)
 have rB:Ra (arrOf st) sb (sb+nb):=hU _ (iQ l2)
 have nR:=hA.perm hI.perm
 refine wpS_bind (Tq ?_)
 have hp2:(((pendingOf st).setIfInBounds i (sa,na+nb,pw)).eraseIdxIfInBounds (i+1)).toList=((pendingOf st).toList.set i (sa,na+nb,pw)).eraseIdx (i+1):=by
  rw[Array.toList_eraseIdxIfInBounds,Jl]
 have hsz:(((pendingOf st).setIfInBounds i (sa,na+nb,pw)).eraseIdxIfInBounds (i+1)).size+1=(pendingOf st).size:=by
  rw[<-cV,hp2,Bp (by rw[gp];simpa using hi),gp,cV]
  walk_at "o"
 have I2:SI a₀ lo (setPending st (((pendingOf st).setIfInBounds i (sa,na+nb,pw)).eraseIdxIfInBounds (i+1))):=⟨hI.perm,hI.kind,hI.failed,by show Ch (((pendingOf st).setIfInBounds i (sa,na+nb,pw)).eraseIdxIfInBounds (i+1)).toList 0 lo;rw[hp2];exact b5⟩
 have oV:Ra (arrOf st) sa (sa+(na+nb))->RU (setPending st (((pendingOf st).setIfInBounds i (sa,na+nb,pw)).eraseIdxIfInBounds (i+1))):=fun hr v hv=>by
  have hv':v∈((pendingOf st).toList.set i (sa,na+nb,pw)).eraseIdx (i+1):=by rw[<-hp2];exact hv
  show Ra (arrOf st) v.1 (v.1+v.2.1)
  rcases hap v hv' with rfl|⟨hm,_⟩
  ·exact hr
  ·exact hU v hm
 refine wpS_bind (nB (by walk_at "o") ?_)
 refine wpS_bind (E7 I2.kind (nR.at _) nR (by walk_at "o") rA (by walk_at "o") fun k hk g1 uf=>?_)
 have G1:∀x<k,kz (arrOf st) (sa+x)<=kz (arrOf st) sb:=fun x hx=>by have:=Fw.mp (g1 x hx);rwa[xr rfl] at this
 have P1:∀x,k<=x->x<na->kz (arrOf st) sb<=kz (arrOf st) (sa+x):=fun x h1 h2=>Int.le_of_lt (Int.not_le.mp fun z=>uf x h1 h2 (Fw.mpr (by rw[xr rfl];exact z)))
 dsimp only
 refine ku (fun c=>wpS_pure (h _ I2 (oV fun x y hx hxy hy=>?_) (fun _ _=>rfl) hsz)) (fun c=>?_)
 ·by_cases y1:y<sa+na
  ·exact rA x y hx hxy y1
  ·by_cases x1:x<sa+na
   ·have a1:=G1 (x-sa) (by walk_at "o")
    rw[show sa+(x-sa)=x by walk_at "o"] at a1
    have a2:=rB sb y (by walk_at "o") (by walk_at "o") (by walk_at "o")
    walk_at "o"
   ·exact rB x y (by walk_at "o") hxy (by walk_at "o")
 refine wpS_bind (nB (by walk_at "o") ?_)
 refine wpS_bind (E7 I2.kind (nR.at _) nR (by walk_at "o") rB (by walk_at "o") fun k2 hk2 g2 Ys=>?_)
 have G2:∀x<k2,kz (arrOf st) (sb+x)<=kz (arrOf st) (sb-1):=fun x hx=>by have:=NK.mp (g2 x hx);rw[xr (j:=sb-1) (by walk_at "o")] at this;walk_at "o"
 have Bo:∀x,k2<=x->x<nb->kz (arrOf st) (sb-1)<=kz (arrOf st) (sb+x):=fun x h1 h2=>Int.not_lt.mp fun z=>Ys x h1 h2 (NK.mpr (by rw[xr (j:=sb-1) (by walk_at "o")];exact z))
 dsimp only
 refine ku (fun c=>wpS_pure (h _ I2 (oV fun x y hx hxy hy=>?_) (fun _ _=>rfl) hsz)) (fun c2=>?_)
 ·by_cases y1:y<sa+na
  ·exact rA x y hx hxy y1
  ·by_cases x1:x<sa+na
   ·have a1:=rA x (sb-1) (by walk_at "o") (by walk_at "o") (by walk_at "o")
    have a2:=Bo (y-sb) (by walk_at "o") (by walk_at "o")
    rw[show sb+(y-sb)=y by walk_at "o"] at a2
    walk_at "o"
   ·exact rB x y (by walk_at "o") hxy (by walk_at "o")
 have fin:∀(r:Array Keyed) (st':SortSt),eK (setPending st (((pendingOf st).setIfInBounds i (sa,na+nb,pw)).eraseIdxIfInBounds (i+1))) st'->r.toList.Perm (((arrOf st).extract (sa+k) sb).toList++((arrOf st).extract sb (sb+k2)).toList)->cD r->
   wpS (model prog w) A E s (do modify fun s=>setArr s (r.toList.zipIdx.foldl (fun a (p,j)=>a.setIfInBounds (sa+k+j) p) (arrOf s));return (failedOf (<-get)).isNone) Q st':=fun r st' S hr ru=>by
  obtain⟨q1,q2,q3,q4⟩:=S
  refine wpS_bind (wpS_modify (wpS_bind (wpS_get (wpS_pure ?_))))
  have hf:failedOf st'=none:=q4.trans hI.failed
  show Q (failedOf st').isNone _
  rw[hf]
  have e:arrOf st'=arrOf st:=q2
  refine h _ ⟨?_,q1.trans hI.kind,q4.trans hI.failed,?_⟩ ?_ ?_ ?_
  ·show(r.toList.zipIdx.foldl (fun(a:Array Keyed) (pj:Keyed×Nat)=>a.setIfInBounds (sa+k+pj.2) pj.1) (arrOf st')).toList.Perm a₀.toList
   rw[e]
   exact(X0 (by walk_at "o") (by walk_at "o") hr).trans hI.perm
  ·show Ch (pendingOf st').toList 0 lo
   rw[q3];exact I2.ch
  ·obtain⟨hl,hup⟩:=GR b1 (by walk_at "o") (by walk_at "o") hk2 (by walk_at "o") rA rB G1 Bo hr ru
   intro v hv
   have hv1:v∈(pendingOf st').toList:=hv
   rw[q3] at hv1
   have hv':v∈((pendingOf st).toList.set i (sa,na+nb,pw)).eraseIdx (i+1):=by rw[<-hp2];exact hv1
   show Ra (uv (arrOf st') r (sa+k)) v.1 (v.1+v.2.1)
   rw[e]
   rcases hap v hv' with rfl|⟨hm,hd⟩
   ·exact hup
   ·intro x y hx hxy hy
    rw[ud (by walk_at "o"),ud (by walk_at "o")]
    have:=hU v hm x y hx hxy hy
    rcases hd with hd|hd
    ·rw[if_pos (by walk_at "o"),if_pos (by walk_at "o")];exact this
    ·rw[if_neg (by walk_at "o"),if_neg (by walk_at "o"),if_neg (by walk_at "o"),if_neg (by walk_at "o")];exact this
  ·obtain⟨hl,hup⟩:=GR b1 (by walk_at "o") (by walk_at "o") hk2 (by walk_at "o") rA rB G1 Bo hr ru
   intro x hx
   show kz (uv (arrOf st') r (sa+k)) x=_
   rw[e,ud (by walk_at "o"),if_neg (by walk_at "o"),if_neg (by walk_at "o")]
  ·show(pendingOf st').size+1=_
   rw[q3];exact hsz
 have hmp:=QE nR b1 (show k<na by walk_at "o") (show 0<k2 by walk_at "o") hk2 (by walk_at "o") rA rB (P1 k (aE _) (by walk_at "o")) G2
 refine gX (fun c3=>wpS_bind ?_) (fun c3=>wpS_bind ?_)
 ·exact Pz I2.kind hmp (by rw[fc];walk_at "o") (by rw[fc];walk_at "o") fin
 ·exact Wz I2.kind hmp (by rw[fc];walk_at "o") (by rw[fc];walk_at "o") fin
end
end L2
set_option maxRecDepth 100000
set_option maxHeartbeats 4000000
namespace L2
open PySem PySem.Spec PyProof.Rows
theorem GZ{a:Array Keyed}{i j:Nat}(hj:j<=a.size)(x:Nat):kz (mirror a i j ((j-i)/2)) x=if i<=x/\x<j then kz a (i+j-1-x) else kz a x:=by
 unfold kz
 rw[getElem?_mirror hj _ (by walk_at "o")]
 by_cases c:i<=x/\x<j
 ·rw[if_pos c]
  by_cases c2:(i<=x/\x<i+(j-i)/2)\/(j-(j-i)/2<=x/\x<j)
  ·rw[if_pos c2]
  ·rw[if_neg c2,show i+j-1-x=x by walk_at "o"]
 ·rw[if_neg c,if_neg (by walk_at "o")]
theorem YN{a:Array Keyed}{src d:Nat}(hs:src<a.size)(hd:d<=src)(x:Nat):kz (bubble a src d) x=if x=src-d then kz a src else if src-d<x/\x<=src then kz a (x-1) else kz a x:=by
 unfold kz
 rw[getElem?_bubble hs d hd]
 by_cases c:x=src-d
 ·rw[if_pos c,if_pos c]
 ·rw[if_neg c,if_neg c]
  by_cases c2:src-d<x/\x<=src
  ·rw[if_pos c2,if_pos c2]
  ·rw[if_neg c2,if_neg c2]
section
variable{prog:Program}{w:World}{A:Around}{E:Value->Shared->Prop}{s:Shared}{st:SortSt}{a₀:Array Keyed}{lo:Nat}
theorem tP{i j:Nat}{α:Type}{f:Option Bool->StateT SortSt Sem α}{Q:α->SortSt->Prop}(hA:dD a₀)(hI:SI a₀ lo st)(hi:i<a₀.size)(hj:j<a₀.size)(h1:kz (arrOf st) i<kz (arrOf st) j->wpS (model prog w) A E s (f (some true)) Q st)(h2:kz (arrOf st) j<=kz (arrOf st) i->wpS (model prog w) A E s (f (some false)) Q st):wpS (model prog w) A E s (ltAt' i j>>=f) Q st:=by
 have hs:=hI.size
 have nR:=hA.perm hI.perm
 refine wpS_bind ?_
 rw[ltAt'_eq]
 refine wpS_bind (wpS_get ?_)
 refine wpS_bind (nB (by walk_at "o") (wpS_bind (nB (by walk_at "o") ?_)))
 rw[dI (by walk_at "o"),dI (by walk_at "o")] at h1 h2
 exact zj hI.kind (nR.at _) (nR.at _) h1 h2
structure Kq(a₀:Array Keyed)(lo at_:Nat)(st st':SortSt):Prop where
 si:SI a₀ lo st'
 pd:pendingOf st'=pendingOf st
 sm:∀x<at_,kz (arrOf st') x=kz (arrOf st) x
theorem Kq.refl{at_:Nat}(h:SI a₀ lo st):Kq a₀ lo at_ st st:=⟨h,rfl,fun _ _=>rfl⟩
theorem uh{at_ i j:Nat}{st1:SortSt}{α:Type}{f:Unit->StateT SortSt Sem α}{Q:α->SortSt->Prop}(hK:Kq a₀ lo at_ st st1)(hi:at_<=i)(hj:j<=a₀.size)(h:∀st',Kq a₀ lo at_ st st'->(∀x,kz (arrOf st') x=if i<=x/\x<j then kz (arrOf st1) (i+j-1-x) else kz (arrOf st1) x)->wpS (model prog w) A E s (f ()) Q st'):wpS (model prog w) A E s (reverseSlice' i j>>=f) Q st1:=by
 have hs:=hK.si.size
 refine wpS_bind ?_
 rw[reverseSlice'_eq]
 refine wpS_modify (h _ ⟨hK.si.arr (mirror_perm _ _ _ _),hK.pd,fun x hx=>?_⟩ fun x=>GZ (by walk_at "o") x)
 show kz (mirror (arrOf st1) i j ((j-i)/2)) x=_
 rw[GZ (by walk_at "o"),if_neg (by walk_at "o")]
 exact hK.sm x hx
theorem CN{at_ a nrem:Nat}{α:Type}{Q:Option (Option α)×Nat->SortSt->Prop}(hA:dD a₀)(hI:SI a₀ lo st)(hn:at_+nrem<=a₀.size)(ha:1<=a)(han:a<=nrem)(hR:Ra (arrOf st) at_ (at_+a))(h:∀n,a<=n->n<=nrem->Ra (arrOf st) at_ (at_+n)->(n<nrem->kz (arrOf st) (at_+n)<kz (arrOf st) (at_+n-1))->Q (none,n) st):
  wpS (model prog w) A E s (forIn [a:nrem] ((none,a):Option (Option α)×Nat) fun _ __s=>do
   let __x<-ltAt' (at_+__s.snd) (at_+__s.snd-1)
   match __x with
   |some smaller=>if smaller=true then pure (ForInStep.done (none,__s.snd)) else pure (ForInStep.yield (none,__s.snd+1))
   |_=>pure (ForInStep.done (some none,__s.snd))) Q st:=by
 refine wpS_forRange (I:=fun x c st'=>st'=st/\c=(none,x)/\Ra (arrOf st) at_ (at_+x)) ?_ ?_ ⟨rfl,rfl,hR⟩
 ·rintro x c st' hax hxn ⟨rfl,rfl,hr⟩
  dsimp only
  refine tP hA hI (by walk_at "o") (by walk_at "o") (fun b=>?_) (fun b=>?_)
  ·exact oS (wpS_pure (h x hax (by walk_at "o") hr fun _=>b))
  ·refine oO (wpS_pure ⟨rfl,rfl,fun i j h1 h2 h3=>?_⟩)
   by_cases c:j<at_+x
   ·exact hr i j h1 h2 c
   ·rw[show j=at_+x by walk_at "o"]
    by_cases c2:i<at_+x
    ·have:=hr i (at_+x-1) h1 (by walk_at "o") (by walk_at "o")
     walk_at "o"
    ·rw[show i=at_+x by walk_at "o"];walk_at "o"
 ·rintro c st' ⟨rfl,rfl,hr⟩
  rw[show max a nrem=nrem by walk_at "o"] at hr⊢
  exact h nrem han (aE _) hr fun z=>absurd z (by walk_at "o")
noncomputable def Fe(a:Array Keyed)(lo hi q:Nat):Prop:=(∀i j,lo<=i->i<=j->j<hi->kz a j<=kz a i)/\lo+q+1<=hi/\∀x,hi-(q+1)<=x->x<hi->kz a x=kz a (hi-1)
theorem Fe.rev{a a':Array Keyed}{lo hi q:Nat}(h:Fe a lo hi q)(e:∀x,kz a' x=if hi-(q+1)<=x/\x<hi then kz a (hi-(q+1)+hi-1-x) else kz a x):∀x,kz a' x=kz a x:=fun x=>by
 rw[e x]
 obtain⟨h1,h2,h3⟩:=h
 by_cases c:hi-(q+1)<=x/\x<hi
 ·rw[if_pos c,h3 x c.1 c.2];exact h3 _ (by walk_at "o") (by walk_at "o")
 ·rw[if_neg c]
theorem Fe.same{a a':Array Keyed}{lo hi q:Nat}(h:Fe a lo hi q)(e:∀x,kz a' x=kz a x):Fe a' lo hi q:=⟨fun i j a b c=>by rw[e,e];exact h.1 i j a b c,h.2.1,fun x a b=>by rw[e,e];exact h.2.2 x a b⟩
theorem Fe.less{a:Array Keyed}{lo hi q:Nat}(h:Fe a lo hi q)(c:kz a hi<kz a (hi-1)):Fe a lo (hi+1) 0:=by
 obtain⟨h1,h2,h3⟩:=h
 refine⟨fun i j a1 a2 a3=>?_,by walk_at "o",fun x a1 a2=>by rw[show x=hi+1-1 by walk_at "o"]⟩
 by_cases c1:j<hi
 ·exact h1 i j a1 a2 c1
 ·rw[show j=hi by walk_at "o"]
  by_cases c2:i<hi
  ·have:=h1 i (hi-1) a1 (by walk_at "o") (by walk_at "o");walk_at "o"
  ·rw[show i=hi by walk_at "o"];walk_at "o"
theorem Fe.SD{a:Array Keyed}{lo hi q:Nat}(h:Fe a lo hi q)(c1:kz a (hi-1)<=kz a hi)(c2:kz a hi<=kz a (hi-1)):Fe a lo (hi+1) (q+1):=by
 obtain⟨h1,h2,h3⟩:=h
 refine⟨fun i j a1 a2 a3=>?_,by walk_at "o",fun x a1 a2=>?_⟩
 ·by_cases c1:j<hi
  ·exact h1 i j a1 a2 c1
  ·rw[show j=hi by walk_at "o"]
   by_cases c2:i<hi
   ·have:=h1 i (hi-1) a1 (by walk_at "o") (by walk_at "o");walk_at "o"
   ·rw[show i=hi by walk_at "o"];walk_at "o"
 ·rw[show hi+1-1=hi by walk_at "o"]
  by_cases c:x<hi
  ·rw[h3 x (by walk_at "o") c];walk_at "o"
  ·rw[show x=hi by walk_at "o"]
theorem Fe.up{a a':Array Keyed}{lo hi q:Nat}(h:Fe a lo hi q)(e:∀x,kz a' x=if lo<=x/\x<hi then kz a (lo+hi-1-x) else kz a x):Ra a' lo hi:=fun i j h1 h2 h3=>by
 rw[e,e,if_pos (by walk_at "o"),if_pos (by walk_at "o")]
 exact h.1 _ _ (by walk_at "o") (by walk_at "o") (by walk_at "o")
theorem Py{at_ nrem:Nat}{Q:Option Nat->SortSt->Prop}(hA:dD a₀)(hI:SI a₀ lo st)(hn:at_+nrem<=a₀.size)(h1:1<=nrem)(h:∀m st',Kq a₀ lo at_ st st'->1<=m->m<=nrem->Ra (arrOf st') at_ (at_+m)->Q (some m) st'):wpS (model prog w) A E s (countRun' at_ nrem) Q st:=by
 rw[countRun'_eq]
 have K0:Kq a₀ lo at_ st st:= .refl hI
 refine wpS_bind (CN hA hI hn (aE 1) h1 (fun i j a b c=>by rw[show i=j by walk_at "o"];walk_at "o") fun n n1 n2 hr hlt=>?_)
 dsimp only
 refine ku (fun c=>wpS_pure (h n st K0 n1 n2 hr)) (fun c=>?_)
 have hlt:=hlt (by walk_at "o")
 refine gX (fun c2=>tP hA hI (by walk_at "o") (by walk_at "o") (fun b=>oS (wpS_pure (h n st K0 n1 n2 hr))) fun b=>oO (uh K0 (aE _) (by walk_at "o") fun st1 K1 e1=>?_)) (fun c2=>?_)
 rotate_left
 have K1:=K0
 have F1:Fe (arrOf st) at_ (at_+(n+1)) 0:=by
  refine Fe.less (hi:=at_+n) (q:=0) ⟨fun i j a b c=>by rw[show i=j by walk_at "o"];walk_at "o",by walk_at "o",fun x a b=>by rw[show x=at_+n-1 by walk_at "o"]⟩ hlt
 rotate_left
 have F1:Fe (arrOf st1) at_ (at_+(n+1)) 0:=by
  have al:∀i j,at_<=i->i<at_+n->at_<=j->j<at_+n->kz (arrOf st) i=kz (arrOf st) j:=fun i j a b c d=>by
   have x1:=hr at_ i (aE _) a b
   have x2:=hr at_ j (aE _) c d
   have x3:=hr i (at_+n-1) a (by walk_at "o") (by walk_at "o")
   have x4:=hr j (at_+n-1) c (by walk_at "o") (by walk_at "o")
   walk_at "o"
  have el:∀x,kz (arrOf st1) x=kz (arrOf st) x:=fun x=>by
   rw[e1 x]
   by_cases c:at_<=x/\x<at_+n
   ·rw[if_pos c];exact al _ _ (by walk_at "o") (by walk_at "o") (by walk_at "o") (by walk_at "o")
   ·rw[if_neg c]
  refine Fe.less (hi:=at_+n) (q:=0) ⟨fun i j a b c=>?_,by walk_at "o",fun x a b=>by rw[show x=at_+n-1 by walk_at "o"]⟩ (by rw[el,el];exact hlt)
  rw[el,el,al i j a (by walk_at "o") (by walk_at "o") c];walk_at "o"
 all_goals
  refine wpS_bind (wpS_lift (wpAny_rule ⟨rfl,?_⟩))
  refine wpS_bind (wpS_mono (wpS_forRange (I:=fun x c st'=>Kq a₀ lo at_ st st'/\∃q,c=(none,x,q)/\Fe (arrOf st') at_ (at_+x) q) (Q:=fun c st'=>Kq a₀ lo at_ st st'/\∃x q,c=(none,x,q)/\1<=x/\x<=nrem/\Fe (arrOf st') at_ (at_+x) q) ?st ?fi ⟨K1,0,rfl,F1⟩) ?po)
  case st=>
   rintro x c st' Hq hx2 ⟨K2,q,rfl,F2⟩
   dsimp only
   refine tP hA K2.si (by walk_at "o") (by walk_at "o") (fun b=>oS ?_) (fun b=>oO ?_)
   ·refine gX (fun _=>?_) (fun _=>?_)
    ·refine uh K2 (by have:=F2.2.1;walk_at "o") (by walk_at "o") fun st3 K3 e3=>wpS_pure ⟨K3,0,rfl,?_⟩
     have e4:=F2.rev e3
     exact(F2.same e4).less (by rw[e4,e4];exact b)
    ·exact wpS_pure ⟨K2,0,rfl,F2.less b⟩
   ·refine tP hA K2.si (by walk_at "o") (by walk_at "o") (fun b2=>oS ?_) (fun b2=>oO ?_)
    ·exact wpS_pure ⟨K2,x,q,rfl,by walk_at "o",by walk_at "o",F2⟩
    ·exact wpS_pure ⟨K2,q+1,rfl,F2.SD b b2⟩
  case fi=>
   rintro c st' ⟨K2,q,rfl,F2⟩
   exact⟨K2,_,q,rfl,by walk_at "o",by walk_at "o",F2⟩
  case po=>
   rintro c st' ⟨K2,x,q,rfl,x1,x2,F2⟩
   dsimp only
   refine gX (fun _=>?_) (fun _=>?_)
   ·refine uh K2 (by have:=F2.2.1;walk_at "o") (by walk_at "o") fun st3 K3 e3=>uh K3 (aE _) (by walk_at "o") fun Bq K4 e4=>wpS_bind (CN hA K4.si hn x1 x2 ((F2.same (F2.rev e3)).up e4) fun m m1 m2 hm _=>wpS_pure (h m Bq K4 (by walk_at "o") m2 hm))
   ·refine uh K2 (aE _) (by walk_at "o") fun Bq K4 e4=>wpS_bind (CN hA K4.si hn x1 x2 (F2.up e4) fun m m1 m2 hm _=>wpS_pure (h m Bq K4 (by walk_at "o") m2 hm))
end
end L2
set_option maxRecDepth 100000
set_option maxHeartbeats 4000000
namespace L2
open PySem PySem.Spec PyProof.Rows
theorem Ch.len:∀{l:List (Nat×Nat×Nat)} {x y:Nat},Ch l x y->l.length+x<=y
 |[],x,y,h=>by rw[D9];exact mY (by rw[DN];exact h)
 |(s,n,p)::l,x,y,⟨a,b,c⟩=>by have:=Ch.len c;rw[bw];walk_at "o"
section
variable{prog:Program}{w:World}{A:Around}{E:Value->Shared->Prop}{s:Shared}{st st':SortSt}{a₀:Array Keyed}{lo:Nat}
theorem Kq.ru(K:Kq a₀ lo lo st st')(hI:SI a₀ lo st)(hU:RU st):RU st':=fun v hv=>by
 rw[K.pd] at hv
 have h1:=hI.ch.lies v hv
 intro x y hx hxy hy
 rw[K.sm x (by walk_at "o"),K.sm y (by walk_at "o")]
 exact hU v hv x y hx hxy hy
theorem RU.push{l n z:Nat}(hU:RU st)(hm:Ra (arrOf st) l (l+n)):RU (setPending st ((pendingOf st).push (l,n,z))):=fun v hv=>by
 have hv':v∈((pendingOf st).push (l,n,z)).toList:=hv
 rw[ki] at hv'
 show Ra (arrOf st) v.1 (v.1+v.2.1)
 rcases jc.mp hv' with h|h
 ·exact hU v h
 ·rw[az.mp h];exact hm
theorem RU.pw{i:Nat}(hU:RU st)(pw:Nat):RU (setPending st ((pendingOf st).modify i fun x=>(x.1,x.2.1,pw))):=fun v hv=>by
  have hv':v∈((pendingOf st).modify i fun x=>(x.1,x.2.1,pw)).toList:=hv
  rw[Eg] at hv'
  show Ra (arrOf st) v.1 (v.1+v.2.1)
  obtain⟨k,hk⟩:=jm hv'
  rw[List.getElem?_modify] at hk
  cases e:(pendingOf st).toList[k]? with
  |none=>rw[e] at hk;cases hk
  | some u =>
    rw[e] at hk
    have hu:=hU u (iQ e)
    simp only[Option.map_eq_map,Option.map_some,Option.some.injEq] at hk
    by_cases c:i=k
    · rw[if_pos c] at hk;rw[<-hk];exact hu
    · rw[if_neg c] at hk;rw[<-hk];exact hu
theorem RU.all(hU:RU st)(hc:Ch (pendingOf st).toList 0 lo)(h1:(pendingOf st).size<=1):Ra (arrOf st) 0 lo:=by
  rw[<-cV] at h1
  unfold RU at hU
  cases e:(pendingOf st).toList with
  | nil =>
    rw[e] at hc
    have:0=lo:=hc
    intro i j _ _ h;walk_at "o"
  | cons v r =>
    obtain⟨p,n,z⟩:=v
    rw[e] at h1 hc hU
    have er:r=[]:=by cases r with|nil=>rfl|cons _ _=>simp at h1
    subst er
    obtain⟨a,b,c⟩:=hc
    have c':0+n=lo:=c
    have:=hU (p,n,z) (bT ..)
    dsimp only at this
    rwa[a,c'] at this
theorem QX{at_ n ok:Nat}{Q:Bool->SortSt->Prop}(hA:dD a₀)(hI:SI a₀ lo st)(hn:at_+n<=a₀.size)(ZI:1<=ok)(okn:ok<=n)(hR:Ra (arrOf st) at_ (at_+ok))(h:∀st',Kq a₀ lo at_ st st'->Ra (arrOf st') at_ (at_+n)->Q true st'):wpS (model prog w) A E s (binarySort' at_ n ok) Q st:=by
 rw[binarySort'_eq,show max ok 1=ok by walk_at "o"]
 refine wpS_bind (wpS_mono (wpS_forRange (I:=fun k c st'=>c=(none,())/\Kq a₀ lo at_ st st'/\Ra (arrOf st') at_ (at_+k)) (Q:=fun c st'=>c=(none,())/\Kq a₀ lo at_ st st'/\Ra (arrOf st') at_ (at_+n)) ?step ?fin ⟨rfl, .refl hI,hR⟩) ?post)
 case fin=>
  rintro c st' ⟨rfl,K2,r2⟩
  rw[show max ok n=n by walk_at "o"] at r2
  exact⟨rfl,K2,r2⟩
 case post=>
  rintro c st' ⟨rfl,K2,r2⟩
  exact wpS_pure (h st' K2 r2)
 case step=>
  rintro k c st' hk1 hk2 ⟨rfl,K2,r2⟩
  have hs:=K2.si.size
  refine wpS_bind (wpS_mono (wpS_forRange (I:=fun x c st''=>st''=st'/\∃l r,c=(none,l,r)/\r<=k/\l<=r/\r-l+x<=k/\(∀y<l,kz (arrOf st') (at_+y)<=kz (arrOf st') (at_+k))/\∀y,r<=y->y<k->kz (arrOf st') (at_+k)<=kz (arrOf st') (at_+y)) (Q:=fun c st''=>st''=st'/\∃l r,c=(none,l,r)/\l<=k/\(∀y<l,kz (arrOf st') (at_+y)<=kz (arrOf st') (at_+k))/\∀y,l<=y->y<k->kz (arrOf st') (at_+k)<=kz (arrOf st') (at_+y)) ?is ?fi ⟨rfl,0,k,rfl,aE _,eU _,by walk_at "o",fun y hy=>absurd hy (by walk_at "o"),fun y a b=>absurd b (by walk_at "o")⟩) ?ip)
  case fi=>
   rintro c st'' ⟨rfl,l,r,rfl,hr,hlr,hx,q1,q2⟩
   exact⟨rfl,l,r,rfl,by walk_at "o",q1,fun y a b=>q2 y (by walk_at "o") b⟩
  case is=>
   rintro x c st'' _ hx ⟨rfl,l,r,rfl,hr,hlr,hz,q1,q2⟩
   dsimp only
   refine gX (fun c1=>wpS_pure ⟨rfl,l,r,rfl,by walk_at "o",q1,fun y a b=>q2 y (by walk_at "o") b⟩) (fun c1=>?_)
   refine tP hA K2.si (by walk_at "o") (by walk_at "o") (fun b=>oS ?_) (fun b=>oO ?_)
   ·refine wpS_pure ⟨rfl,_,_,rfl,by walk_at "o",by walk_at "o",by walk_at "o",q1,fun y a1 a2=>?_⟩
    have:=r2 (at_+(l+r)/2) (at_+y) (by walk_at "o") (by walk_at "o") (by walk_at "o")
    walk_at "o"
   ·refine wpS_pure ⟨rfl,_,_,rfl,hr,by walk_at "o",by walk_at "o",fun y a1=>?_,q2⟩
    have:=r2 (at_+y) (at_+(l+r)/2) (by walk_at "o") (by walk_at "o") (by walk_at "o")
    walk_at "o"
  case ip=>
   rintro c st'' ⟨rfl,l,r,rfl,hr,q1,q2⟩
   show wpS _ _ _ _ (do moveDown' (at_+k) (at_+l);pure (ForInStep.yield (none,()))) _ _
   rw[moveDown'_eq]
   have eb:∀x,kz (bubble (arrOf st'') (at_+k) (at_+k-(at_+l))) x=if x=at_+l then kz (arrOf st'') (at_+k) else if at_+l<x/\x<=at_+k then kz (arrOf st'') (x-1) else kz (arrOf st'') x:=fun x=>by
    rw[YN (by walk_at "o") (by walk_at "o"),show at_+k-(at_+k-(at_+l))=at_+l by walk_at "o"]
   refine wpS_bind (wpS_modify (wpS_pure ⟨rfl,⟨K2.si.arr (bubble_perm _ _ _),K2.pd,fun x hx=>?_⟩,fun i j h1 h2 h3=>?_⟩))
   ·show kz (bubble (arrOf st'') (at_+k) (at_+k-(at_+l))) x=_
    rw[eb,if_neg (by walk_at "o"),if_neg (by walk_at "o")]
    exact K2.sm x hx
   ·show kz (bubble (arrOf st'') (at_+k) (at_+k-(at_+l))) i<=kz (bubble (arrOf st'') (at_+k) (at_+k-(at_+l))) j
    rw[eb,eb]
    by_cases i1:i=at_+l
    ·rw[if_pos i1]
     by_cases j1:j=at_+l
     ·rw[if_pos j1];walk_at "o"
     ·rw[if_neg j1,if_pos (by walk_at "o")]
      have:=q2 (j-1-at_) (by walk_at "o") (by walk_at "o")
      rwa[show at_+(j-1-at_)=j-1 by walk_at "o"] at this
    ·rw[if_neg i1]
     by_cases i2:at_+l<i/\i<=at_+k
     ·rw[if_pos i2,if_neg (show¬j=at_+l by walk_at "o"),if_pos (show at_+l<j/\j<=at_+k by walk_at "o")]
      exact r2 _ _ (by walk_at "o") (by walk_at "o") (by walk_at "o")
     ·rw[if_neg i2]
      by_cases j1:j=at_+l
      ·rw[if_pos j1]
       have:=q1 (i-at_) (by walk_at "o")
       rwa[show at_+(i-at_)=i by walk_at "o"] at this
      ·rw[if_neg j1]
       by_cases j2:at_+l<j/\j<=at_+k
       ·rw[if_pos j2];exact r2 _ _ (by walk_at "o") (by walk_at "o") (by walk_at "o")
       ·rw[if_neg j2];exact r2 _ _ (by walk_at "o") (by walk_at "o") (by walk_at "o")
theorem Oc{Q:Unit->SortSt->Prop}(hA:dD a₀)(hI:SI a₀ 0 st)(hU:RU st)(h:∀st',(arrOf st').toList.Perm a₀.toList->Ra (arrOf st') 0 a₀.size->failedOf st'=none->Q () st'):wpS (model prog w) A E s sortRuns' Q st:=by
  rw[sortRuns'_eq]
  refine wpS_bind (wpS_get ?_)
  dsimp only
  have hs:=hI.size
  rw[hs]
  refine wpS_bind (wpS_mono (wpS_forRange (I:=fun x c st'=>∃l,c=(none,l)/\(SI a₀ l st'/\RU st')/\l<=a₀.size/\(x<=l\/l=a₀.size)) (Q:=fun c st'=>c=(none,a₀.size)/\SI a₀ a₀.size st'/\RU st') ?step ?fin ⟨0,rfl,⟨hI,hU⟩,by walk_at "o", .inl (aE _)⟩) ?post)
  case fin=>
    rintro c st' ⟨l,rfl,I2,h1,h2⟩
    have:l=a₀.size:=by walk_at "o"
    subst this
    exact⟨rfl,I2.1,I2.2⟩
  case step=>
    rintro x c st' _ hx ⟨l,rfl,I2,h1,h2⟩
    dsimp only
    refine gX (fun c1=>?_) (fun c1=>?_)
    · have:l=a₀.size:=by walk_at "o"
      subst this
      exact wpS_pure ⟨rfl,I2.1,I2.2⟩
    refine wpS_bind (Py hA I2.1 (by walk_at "o") (by walk_at "o") fun m st2 K3 m1 m2 hm=>?_)
    have I3:SI a₀ l st2/\RU st2:=⟨K3.si,K3.ru I2.1 I2.2⟩
    dsimp only
    refine gX (fun c2=>wpS_bind (wpS_lift (wpAny_rule ⟨rfl,wpS_bind (QX (n:=min (a₀.size-l) (minRun' a₀.size a₀.size 0)) hA I3.1 (by walk_at "o") m1 (by walk_at "o") hm fun st3 K4 hm=>?_)⟩))) (fun c2=>?_)
    · have I4:SI a₀ l st3/\RU st3:=⟨K4.si,K4.ru I3.1 I3.2⟩
      simp only[sW,kZ,if_false]
      have n1:1<=min (a₀.size-l) (minRun' a₀.size a₀.size 0):=by walk_at "o"
      have n2:min (a₀.size-l) (minRun' a₀.size a₀.size 0)<=a₀.size-l:=by walk_at "o"
      generalize min (a₀.size-l) (minRun' a₀.size a₀.size 0)=n at n1 n2 hm⊢
      refine wpS_bind (wpS_get ?_)
      cases hb:(pendingOf st3).back? with
      | none =>
        dsimp only
        refine wpS_bind (wpS_modify (wpS_pure ⟨l+n,rfl,⟨⟨I4.1.perm,I4.1.kind,I4.1.failed,?_⟩,I4.2.push hm⟩,by walk_at "o",by walk_at "o"⟩))
        show Ch ((pendingOf st3).push (l,n,0)).toList 0 (l+n)
        rw[ki]
        exact Ch.append.mpr ⟨l,I4.1.ch,rfl,n1,rfl⟩
      | some v =>
        obtain⟨s1,k1,Ud⟩:=v
        dsimp only
        generalize power' a₀.size (2*s1+k1) (2*s1+k1+k1+n) a₀.size=pw
        refine wpS_bind (wpS_mono (wpS_forRange (I:=fun y c st'=>c=(none,())/\SI a₀ l st'/\RU st'/\Ra (arrOf st') l (l+n)) (Q:=fun c st'=>c=(none,())/\SI a₀ l st'/\RU st'/\Ra (arrOf st') l (l+n)) ?is (fun c st' z=>z) ⟨rfl,I4.1,I4.2,hm⟩) ?ip)
        case is=>
          rintro y c st'' _ _ ⟨rfl,I5⟩
          refine wpS_bind (wpS_get ?_)
          by_cases c5:(pendingOf st'').size>1
          · rw[if_pos c5]
            obtain⟨⟨q1,q2,q3⟩,eq⟩:∃v,(pendingOf st'')[(pendingOf st'').size-2]?=some v:=⟨_,getElem?_pos _ _ (by walk_at "o")⟩
            rw[eq]
            dsimp only
            refine gX (fun _=>wpS_pure ⟨rfl,I5⟩) (fun _=>?_)
            refine wpS_bind (Bu hA I5.1 I5.2.1 h1 (by walk_at "o") fun Jr I6 U6 E6 _=>?_)
            simp only[sW,kZ,if_false]
            exact wpS_pure ⟨rfl,I6,U6,fun x y h1 h2 h3=>by rw[E6 x (by walk_at "o"),E6 y (by walk_at "o")];exact I5.2.2 x y h1 h2 h3⟩
          · rw[if_neg c5];exact wpS_pure ⟨rfl,I5⟩
        case ip=>
          rintro c st'' ⟨rfl,I5⟩
          dsimp only
          refine wpS_bind (wpS_modify (wpS_bind (wpS_modify (wpS_pure ⟨l+n,rfl,⟨⟨I5.1.perm,I5.1.kind,I5.1.failed,?_⟩,(I5.2.1.pw pw).push I5.2.2⟩,by walk_at "o",by walk_at "o"⟩))))
          show Ch (((pendingOf st'').modify ((pendingOf st'').size-1) fun x=>(x.1,x.2.1,pw)).push (l,n,0)).toList 0 (l+n)
          rw[ki,Eg]
          exact Ch.append.mpr ⟨l,Ch.pw (f:=fun x=>(x.1,x.2.1,pw)) (fun v=>⟨rfl,rfl⟩) I5.1.ch,rfl,n1,rfl⟩
    · have I4:=I3
      have n1:=m1
      have n2:=m2
      generalize m=n at n1 n2 hm⊢
      generalize st2=st3 at I4 hm⊢
      refine wpS_bind (wpS_get ?_)
      cases hb:(pendingOf st3).back? with
      | none =>
        dsimp only
        refine wpS_bind (wpS_modify (wpS_pure ⟨l+n,rfl,⟨⟨I4.1.perm,I4.1.kind,I4.1.failed,?_⟩,I4.2.push hm⟩,by walk_at "o",by walk_at "o"⟩))
        show Ch ((pendingOf st3).push (l,n,0)).toList 0 (l+n)
        rw[ki]
        exact Ch.append.mpr ⟨l,I4.1.ch,rfl,n1,rfl⟩
      | some v =>
        obtain⟨s1,k1,Ud⟩:=v
        dsimp only
        generalize power' a₀.size (2*s1+k1) (2*s1+k1+k1+n) a₀.size=pw
        refine wpS_bind (wpS_mono (wpS_forRange (I:=fun y c st'=>c=(none,())/\SI a₀ l st'/\RU st'/\Ra (arrOf st') l (l+n)) (Q:=fun c st'=>c=(none,())/\SI a₀ l st'/\RU st'/\Ra (arrOf st') l (l+n)) ?is (fun c st' z=>z) ⟨rfl,I4.1,I4.2,hm⟩) ?ip)
        case is=>
          rintro y c st'' _ _ ⟨rfl,I5⟩
          refine wpS_bind (wpS_get ?_)
          by_cases c5:(pendingOf st'').size>1
          · rw[if_pos c5]
            obtain⟨⟨q1,q2,q3⟩,eq⟩:∃v,(pendingOf st'')[(pendingOf st'').size-2]?=some v:=⟨_,getElem?_pos _ _ (by walk_at "o")⟩
            rw[eq]
            dsimp only
            refine gX (fun _=>wpS_pure ⟨rfl,I5⟩) (fun _=>?_)
            refine wpS_bind (Bu hA I5.1 I5.2.1 h1 (by walk_at "o") fun Jr I6 U6 E6 _=>?_)
            simp only[sW,kZ,if_false]
            exact wpS_pure ⟨rfl,I6,U6,fun x y h1 h2 h3=>by rw[E6 x (by walk_at "o"),E6 y (by walk_at "o")];exact I5.2.2 x y h1 h2 h3⟩
          · rw[if_neg c5];exact wpS_pure ⟨rfl,I5⟩
        case ip=>
          rintro c st'' ⟨rfl,I5⟩
          dsimp only
          refine wpS_bind (wpS_modify (wpS_bind (wpS_modify (wpS_pure ⟨l+n,rfl,⟨⟨I5.1.perm,I5.1.kind,I5.1.failed,?_⟩,(I5.2.1.pw pw).push I5.2.2⟩,by walk_at "o",by walk_at "o"⟩))))
          show Ch (((pendingOf st'').modify ((pendingOf st'').size-1) fun x=>(x.1,x.2.1,pw)).push (l,n,0)).toList 0 (l+n)
          rw[ki,Eg]
          exact Ch.append.mpr ⟨l,Ch.pw (f:=fun x=>(x.1,x.2.1,pw)) (fun v=>⟨rfl,rfl⟩) I5.1.ch,rfl,n1,rfl⟩
  case post=>
    rintro c st' ⟨rfl,I2,U2⟩
    dsimp only
    refine wpS_bind (wpS_mono (wpS_forRange (I:=fun y c st''=>c=(none,())/\SI a₀ a₀.size st''/\RU st''/\(pendingOf st'').size+y<=a₀.size) (Q:=fun c st''=>c=(none,())/\SI a₀ a₀.size st''/\RU st''/\(pendingOf st'').size<=1) ?is ?fi ⟨rfl,I2,U2,by have:=I2.ch.len;rw[cV] at this;walk_at "o"⟩) ?ip)
    case fi=>
      rintro c st'' ⟨rfl,I5,U5,z⟩
      exact⟨rfl,I5,U5,by walk_at "o"⟩
    case is=>
      rintro y c st'' _ _ ⟨rfl,I5,U5,z⟩
      refine wpS_bind (wpS_get ?_)
      refine gX (fun c6=>wpS_pure ⟨rfl,I5,U5,c6⟩) (fun c6=>?_)
      refine wpS_bind (Bu hA I5 U5 (aE _) ?_ fun Jr I6 U6 _ z6=>?_)
      · exact rG (Nat.add_le_add_right UY 1) (by walk_at "o")
      simp only[sW,kZ,if_false]
      exact wpS_pure ⟨rfl,I6,U6,by walk_at "o"⟩
    case ip=>
      rintro c st'' ⟨rfl,I5,U5,z⟩
      exact wpS_pure (h _ I5.perm (U5.all I5.ch z) I5.failed)
end
end L2
set_option maxRecDepth 100000
set_option maxHeartbeats 4000000
namespace L2
open PySem PySem.Spec PyProof.Rows
theorem Fy:∀{ns:List Int},ns.Pairwise (· <= ·)->ns.Nodup->ns.Pairwise (· < ·)
  |[],_,_=> .nil
  | n :: r, h, d => by
    obtain⟨h1,h2⟩:=oY.mp h
    obtain⟨d1,d2⟩:=fW.mp d
    refine oY.mpr ⟨fun x hx=>?_,Fy h2 d2⟩
    have:=h1 x hx
    have:n≠x:=fun e=>d1 (e▸hx)
    walk_at "o"
theorem OY{vs:List Value}{ns:List Int}(hI:IntsAre vs ns){xs:Array Keyed}(hp:xs.toList.Perm (pairsOf vs).toList)(hr:Ra xs 0 xs.size):
  ∃ns',IntsAre (xs.map (·.2)).toList ns'/\ns'.Perm ns/\ns'.Pairwise (· <= ·):=by
 obtain⟨ns',h1,h2⟩:=Ug hI hp
 refine⟨ns',h1,h2,?_⟩
 have hl:xs.toList.Perm (vs.zip vs):=by rw[<-pairsOf_toList];exact hp
 have e:ns'=xs.toList.map kd:=by
  rw[<-h1.nums,Array.toList_map,mL]
  refine zE fun p lE=>?_
  obtain⟨e1,e2⟩:=mem_zip_self (hl.mem_iff.mp lE)
  obtain⟨n,t,e3⟩:=hI.all _ e2
  show numOf p.2=kd p
  unfold kd
  rw[<-e1,e3];rfl
 rw[e,D4]
 intro i j hi hj hij
 rw[List.getElem_map,List.getElem_map]
 rw[ay,cV] at hi hj
 have:=hr i j (eU _) (mh hij) hj
 rw[dI hi,dI hj] at this
 simpa using this
section
variable{prog:Program}{w:World}{A:Around}{E:Value->Shared->Prop}{s:Shared}
theorem Nv{a:Addr}{vs:List Value}{ns:List Int}{n:Nat}{P:Fin->Shared->Prop}(ho:s.heap.get? a=some (seqObj "list" vs.toArray n))
  (hI:IntsAre vs ns) (hz:vs.length<=100000)
  (h:∀(out:Array Value) (ns':List Int),IntsAre out.toList ns'->ns'.Perm ns->ns'.Pairwise (· <= ·)->P (.done (.ret .none)) {s with heap:=sortedHeap s.heap a vs out}):
  wpAny (model prog w) A (Builtin.«list.sort» ⟨[.ref a],[]⟩) P E s:=by
 rw[list_sort_plain]
 have hZ:vs.length<=sizeLine:=by rw[sizeLine_eq];walk_at "o"
 have ha:a<s.heap.objs.size:=bC ho
 refine wpAny_bind (listItems_at ho rfl ?_)
 refine wpAny_bind (listUpdate_at ho rfl ?_ (hsz:=by rw[cN];exact hZ))
 obtain⟨e1,kE⟩:∃e1,(s.heap.update a (Obj.mapSeq fun _=> #[])).get? a=some (seqObj "list" #[] e1):=⟨_,get?_update_seq ho (fun _=> #[])⟩
 refine wpAny_bind (seqEpoch_at kE rfl ?_)
 refine wpAny_bind (wpAny_newTuple ?_)
 refine wpAny_bind (wpAny_newList ?_)
 refine wpAny_holding ?_
 have ho6:(((s.heap.update a (Obj.mapSeq fun _=> #[])).push (seqObj "tuple" vs.toArray 0)).push (seqObj "list" #[] 0)).get? a=some (seqObj "list" #[] e1):=by
  rw[Heap.get?_push_ne _ _ _ (by rw[size_push',AE];exact cX (oB ha)),Heap.get?_push_ne _ _ _ (by rw[AE];exact cX ha)]
  exact kE
 show wpAny (model prog w) A _ P E {s with heap:=((s.heap.update a (Obj.mapSeq fun _=> #[])).push (seqObj "tuple" vs.toArray 0)).push (seqObj "list" #[] 0)}
 dsimp only
 have hsz:vs.toArray.size=vs.length:=by simp
 have fin:∀st':SortSt,(arrOf st').toList.Perm (pairsOf vs).toList->Ra (arrOf st') 0 (pairsOf vs).size->
   P (.done (.ret .none)) {s with heap:=sortedHeap s.heap a vs ((arrOf st').map (·.2))}:=by
  intro st' hp hr
  have e:=hp.length_eq
  rw[cV,cV] at e
  obtain⟨ns',h1,h2,h3⟩:=OY hI hp (by rw[e];exact hr)
  exact h _ ns' h1 h2 h3
 by_cases h2:vs.toArray.size<2
 ·rw[if_pos h2,if_pos h2]
  refine wpAny_bind (wpAny_pure ?_)
  rw[StateT.run_pure]
  refine wpAny_bind (wpAny_pure ?_)
  dsimp only
  refine wpAny_bind (seqEpoch_at ho6 rfl ?_)
  refine wpAny_bind (listUpdate_at ho6 rfl ?_ (hsz2:=by rw[Array.size_map];show(pairsOf vs).size<=_;rw[pairsOf_size,sizeLine_eq];walk_at "o"))
  simp only[bne_self_eq_false,kZ,if_false]
  exact wpAny_pure (fin (SortSt.mk' general' (vs.toArray.zip vs.toArray) #[] 7 none) (Dk _) fun i j _ h3 h4=>by
   rw[pairsOf_size] at h4
   have:i=j:=by walk_at "o"
   rw[this];walk_at "o")
 ·rw[if_neg h2,if_neg h2]
  obtain⟨v₁,v₂,rest,rfl⟩:∃v₁ v₂ rest,vs=v₁::v₂::rest:=by
   match vs,hsz,h2 with
   |[],_,h2=>simp at h2
   |[_],_,h2=>simp at h2
   |v₁::v₂::rest,_,_=>exact⟨v₁,v₂,rest,rfl⟩
  rw[keyKind_ints hI]
  refine wpAny_bind (wpAny_pure ?_)
  refine wpAny_bind (wpAny_mono (Oc (a₀:=pairsOf (v₁::v₂::rest)) (st:=SortSt.mk' oneType' ((v₁::v₂::rest).toArray.zip (v₁::v₂::rest).toArray) #[] 7 none)
   (Q:=fun _ st'=>(arrOf st').toList.Perm (pairsOf (v₁::v₂::rest)).toList/\Ra (arrOf st') 0 (pairsOf (v₁::v₂::rest)).size/\failedOf st'=none)
   (QV hI) ⟨Dk _,rfl,rfl,rfl⟩ (fun v hv=>by have z:v∈([]:List (Nat×Nat×Nat)):=hv;cases z) fun st' a1 a3 a2=>⟨a1,a3,a2⟩) ?_ fun _ _ e=>e)
  rintro⟨⟨⟩,st'⟩ s' ⟨rfl,hp,hr,hf⟩
  dsimp only
  refine wpAny_bind (seqEpoch_at ho6 rfl ?_)
  refine wpAny_bind (listUpdate_at ho6 rfl ?_ (hsz2:=by
   have:=hp.length_eq
   rw[cV,cV,pairsOf_size] at this
   show((arrOf st').map (·.2)).size<=_
   rw[Array.size_map,this]
   walk_at "o"))
  rw[hf]
  simp only[bne_self_eq_false,kZ,if_false]
  exact wpAny_pure (fin st' hp hr)
variable{a:Addr}
theorem Vw{S:Int->Bool}{n:Nat}{Q:Value->Shared->Prop}(hh:A.handled=none)(hS:s.heap.SetOf (IK prog w) a S n)(hT:gz (eW w) s.heap a)(hz:n<=100000)
  (h : ∀ h' d' tk' (l : Addr) (out : List Value) (ns : List Int) (e : Nat), (∀ b o, s.heap.get? b = some o -> h'.get? b = some o) -> s.heap.objs.size <= l -> h'.get? l = some (seqObj "list" out.toArray e) -> IntsAre out ns -> (∀ k, S k = true ↔ k ∈ ns) -> ns.length = n -> ns.Pairwise (· <= ·) ->
   Q (.ref l) {s with heap:=h',drawn:=d',toks:=tk'}):wpAny (model prog w) A (call (.builtin "sorted") [.ref a]) Q E s:=by
 obtain⟨o,es,ep,t,g1,g2,g3,l1,l2,l3,l4,sz⟩:=hS
 refine NT kind_sorted plain_sorted entry_sorted (args_sorted1 _) ?_
 unfold Builtin.«sorted»
 refine wpAny_bind (m:=checkCount "sorted" 1 1 _) (wpAny_pure (wpAny_bind ?_))
 refine U4 (A:=A.in1) hh l3 g1 g2 g3 l4 (hT o es ep t g1 g3) fun h1 d1 XY items k1 k2 pp=>?_
 have hint:∀v∈items,∃k t,v= .int k t:=fun v m=>by
  obtain⟨e,m',rfl⟩:=fQ.mp (pp.mem_iff.mp m)
  obtain⟨⟨k,hk,_⟩,_⟩:=l1 e m'
  obtain⟨t,ht⟩:=v7 hk
  exact⟨k,t,ht⟩
 obtain⟨ns,hI⟩:=GJ (ks:=fun _=>True) hint
 have hlen:items.length=n:=by rw[pp.length_eq,ay,cV,sz]
 refine wpAny_bind (wpAny_newList ?_)
 have gL:(h1.push (seqObj "list" items.toArray 0)).get? h1.objs.size=some (seqObj "list" items.toArray 0):=fS _ rfl
 refine wpAny_bind (wpAny_holding (wpAny_call_entry slot_list_sort ⟨_,gL,rfl⟩ entry_list_sort (Nv gL hI (by walk_at "o") fun out ns' a1 a2 a3=>⟨_,rfl,?_⟩) (args_list_sort _)))
 obtain⟨e,he⟩:=sortedHeap_at (out:=out) gL
 refine wpAny_pure ⟨_,rfl,h _ d1 XY h1.objs.size out.toList ns' e (fun b o q=>?_) k2 (by simpa using he) a1 (fun k=>?_) ?_ a3⟩
 ·have lb:=bC (k1 b o q)
  rw[sortedHeap_old (cX lb) (by rw[mQ];exact oB lb)]
  exact cz _ (k1 b o q)
 ·rw[a2.mem_iff,Ly hI,l2 k]
  constructor
  ·rintro⟨e,m,q⟩
   obtain⟨t,ht⟩:=v7 q
   exact⟨t,pp.mem_iff.mpr (ht▸fQ.mpr ⟨e,m,rfl⟩)⟩
  ·rintro⟨t,m⟩
   obtain⟨e,m',q⟩:=fQ.mp (pp.mem_iff.mp m)
   exact⟨e,m',by rw[q];exact intKind_is _ _ _ _⟩
 ·rw[a2.length_eq,<-hI.length,hlen]
end
noncomputable def w9(P:Program)(w:World):List V->Hp->VK->Prop:=fun xs H Q=>∃a,∃ms:List Int,xs=[.ref a]/\H a=some (tY P w a (fun k=>ms.any (· ==k)) ms.length)/\ms.Nodup/\ms.length<=4000/\
 ∀l (rs:List Int),H l=none->rs.Pairwise (· < ·)->(∀k,k∈rs↔k∈ms)->Q (.ref l) (upd H l (.lst (rs.map V.int)))
section
variable{X:Cx}
theorem VT(hc:X.calm=true):fY X (.builtin "sorted") (w9 X.prog X.w):=by
 intro pins s σ H xs us Q I rv h
 obtain⟨a,ms,rfl,hH,nd,hz,q⟩:=h
 obtain⟨u,rfl,ru⟩:=vals1 rv
 cases ru
 obtain⟨⟨q1,q2⟩,_,_⟩:=I.hok a _ hH
 refine Vw (I.ok.hd hc) q1 q2 (by walk_at "o") fun h' d' tk' l out ns e kp hl gl hI hm hn hu=>?_
 have a1:∀k,(ms.any (· ==k))=true↔k∈ms:=fun k=>by
  rw[xg]
  exact⟨fun⟨x,m,z⟩=>(beq_iff_eq.mp z)▸m,fun m=>⟨k,m,beq_self_eq_true _⟩⟩
 have hm':∀k,k∈ns↔k∈ms:=fun k=>by rw[<-hm k,a1]
 have pp:=Kv nd (fun k m=>(hm' k).mpr m) (mY hn)
 have YR:ns.Nodup:=pp.nodup_iff.mp nd
 have new:bP X.prog X.w (upd H l (.lst (ns.map V.int))) h' l (.lst (ns.map V.int)):=by
  refine⟨?_,out,e,wu hI,gl⟩
  rw[ay,hn];exact dw hz (by decide)
 exact⟨.ref l,_,(I.laid (t':=tk') kp hl new).dr d',rfl,q _ _ (I.hok.fresh hl) (Fy hu YR) hm'⟩
end
theorem aI.Qx{G:Gx}{ρ:Rh}{te:TE}{P:Program}{w:World}{K:PySem.W.Frag}{Θ:Bool->List PyData->Prop}(h:Ev G ρ te fun _ x=>∃ns:List Int,x= .list (ns.map .int)/\ns.length<=4000/\∀rs:List Int,rs.Pairwise (· < ·)->(∀k,k∈rs↔k∈ns)->Θ true (rs.map .int)):
  aI G ρ (eY (w9 P w) (aL (eY (xU P w K) (aL te aX)) aX)) Θ:=fun nb σ H Q W z=>
 h nb σ H _ W fun f v H1 x ⟨ns,ex,hn,q⟩ s1 hv=>by
  subst ex
  obtain⟨a,xs,rfl,na,hx,hd⟩:=hv.gF
  have e:=uw hd
  subst e
  refine⟨a,ns,rfl, .of hx,by walk_at "o",fun b ms hb nd hm=>?_⟩
  have hms:ms.length<=ns.length:=MM nd fun k m=>(hm k).mp m
  refine⟨b,ms,rfl,aQ,nd,by walk_at "o",fun l rs hl lt hm'=>?_⟩
  have s2:Step G.B H1 (upd H1 b (tY P w b (fun k=>ms.any (· ==k)) ms.length)):= .same s1.2 (cE hb)
  exact aI.fin (f:=true) W (s1.trans s2) hl (yh rs) (q rs lt fun k=>(hm' k).trans (hm k)) z
section
variable{prog:Program}{w:World}{A:Around}{E:Value->Shared->Prop}{s:Shared}
theorem UK{l:Addr}{vs:List Value}{ns:List Int}{Q:Value->Shared->Prop}(hl:s.heap.IsList l vs.toArray)(hI:IntsAre vs ns)(hz:vs.length<=100000)
  (h:∀(out:Array Value) (ns':List Int),IntsAre out.toList ns'->ns'.Perm ns->ns'.Pairwise (· <= ·)->Q (.ref (s.heap.objs.size+1)) {s with heap:=sortedAll s.heap vs out}):
  wpAny (model prog w) A (call (.builtin "sorted") [.ref l]) Q E s:=by
 have hZ:vs.length<=sizeLine:=by rw[sizeLine_eq];walk_at "o"
 refine NT kind_sorted plain_sorted entry_sorted (args_sorted1 _) ?_
 unfold Builtin.«sorted»
 refine wpAny_bind (m:=checkCount "sorted" 1 1 _) (wpAny_pure ?_)
 refine wpAny_bind (collect_list hl ?_ (hsz:=hZ))
 refine wpAny_bind (wpAny_newList ?_)
 have hsz:((s.heap.push (seqObj "list" #[] 0)).update s.heap.objs.size (Obj.mapSeq (· ++vs.toArray))).objs.size=s.heap.objs.size+1:=by
  rw[AE,size_push']
 have tD:(((s.heap.push (seqObj "list" #[] 0)).update s.heap.objs.size (Obj.mapSeq (· ++vs.toArray))).push (seqObj "list" vs.toArray 0)).get? (s.heap.objs.size+1)=some (seqObj "list" vs.toArray 0):=by
  rw[<-hsz];exact fS _ rfl
 show wpAny _ _ _ _ _ {s with heap:=((s.heap.push (seqObj "list" #[] 0)).update s.heap.objs.size (Obj.mapSeq (· ++vs.toArray))).push (seqObj "list" vs.toArray 0)}
 rw[hsz]
 refine wpAny_bind (wpAny_holding (wpAny_call_entry slot_list_sort ⟨_,tD,rfl⟩ entry_list_sort (Nv tD hI hz fun out ns' a1 a2 a3=>⟨_,rfl,?_⟩) (args_list_sort _)))
 exact wpAny_pure ⟨_,rfl,h out ns' a1 a2 a3⟩
end
noncomputable def C2(K:PySem.W.Frag):List V->Hp->VK->Prop:=fun xs H Q=>∃p,∃ns:List Int,xs=[.ref p]/\aS K H p (ns.map V.int)/\ns.length<=4000/\∀rs:List Int,rs.Perm ns->rs.Pairwise (· <= ·)->∀l,H l=none->Q (.ref l) (upd H l (.lst (rs.map V.int)))
theorem UD{X:Cx}:fY X (.builtin "sorted") (C2 X.K):=by
 intro pins s σ H xs us Q I rv h
 obtain⟨p,ns,rfl,hp,hn,q⟩:=h
 obtain⟨u,rfl,ru⟩:=vals1 rv
 cases ru
 obtain⟨its,rs,il,hz⟩:=I.list hp
 have hI:=zZ rs
 have hlen:=hI.length
 refine UK (vs:=its) il.isList hI (by walk_at "o") fun out ns' h1 h2 h3=>?_
 obtain⟨e,ge⟩:=sortedAll_at s.heap its out
 have new:bP X.prog X.w (upd H (s.heap.objs.size+1) (.lst (ns'.map V.int))) (sortedAll s.heap its out) (s.heap.objs.size+1) (.lst (ns'.map V.int)):=by
  refine⟨?_,out.toList,e,wu h1,by simpa using ge⟩
  rw[ay,h2.length_eq];exact dw hn (by decide)
 exact⟨.ref (s.heap.objs.size+1),_,I.laid (t':=s.toks) (fun b o z=>sortedAll_old z) (iV _) new,rfl,q _ h2 h3 _ (I.hok.fresh (iV _))⟩
theorem aI.S5{G:Gx}{ρ:Rh}{te:TE}{K:PySem.W.Frag}{Θ:Bool->List PyData->Prop}(h:Ev G ρ te fun _ x=>∃ns:List Int,x= .list (ns.map .int)/\ns.length<=4000/\∀rs:List Int,rs.Perm ns->rs.Pairwise (· <= ·)->Θ true (rs.map .int)):
  aI G ρ (eY (C2 K) (aL te aX)) Θ:=fun nb σ H Q W z=>
 h nb σ H _ W fun f v H1 x ⟨ns,ex,hn,q⟩ s1 hv=>by
  subst ex
  obtain⟨a,xs,rfl,na,hx,hd⟩:=hv.gF
  have e:=uw hd
  subst e
  refine⟨a,ns,rfl, .of hx,hn,fun rs hp hu l hl=>?_⟩
  exact aI.fin (f:=true) W s1 hl (yh rs) (q rs hp hu) z
end L2
set_option maxRecDepth 100000
set_option maxHeartbeats 4000000
namespace L2
open PySem PySem.Spec PyProof.Rows
noncomputable def HC:List V->Hp->VK->Prop:=fun xs H Q=>∃j:Int,xs=[.int j]/\∀a,H a=none->Q (.ref a) (upd H a (.l9 0 j))
noncomputable def Nq:List V->Hp->VK->Prop:=fun xs H Q=>∃(a:Addr) (lo hi:Int),xs=[.ref a]/\H a=some (.l9 lo hi)/\(-10000<=lo/\lo<=10000/\ -10000<=hi/\hi<=10000)/\∀l,H l=none->Q (.ref l) (upd H l (.lst (((List.range (hi-lo).toNat).map fun(i:Nat)=>lo+(i:Int)).map V.int)))
noncomputable def N4(K:PySem.W.Frag):List V->Hp->VK->Prop:=fun xs H Q=>∃p,∃ns:List Int,xs=[.ref p]/\aS K H p (ns.map V.int)/\Q (.int ns.sum) H
noncomputable def EY(K:PySem.W.Frag):List V->Hp->VK->Prop:=fun xs H Q=>∃p,∃bs:List Bool,xs=[.ref p]/\aS K H p (bs.map V.bl)/\Q (.bl (bs.all id)) H
section
variable{X:Cx}
theorem XZ:fY X (.type "range") HC:=by
 intro pins s σ H xs us Q I rv h
 obtain⟨j,rfl,q⟩:=h
 obtain⟨u,rfl,ru⟩:=vals1 rv
 obtain⟨t,rfl⟩:=ru
 refine call_range_1 ?_
 exact⟨.ref s.heap.objs.size,_,I.laid (t':=s.toks+1+1) (o:= .l9 0 j) (fun b o e=>cz _ e) (aE _) ⟨_,_,_,fS _ rfl⟩,rfl,q _ (I.hok.fresh (aE _))⟩
theorem Th(hc:X.calm=true):fY X (.type "list") Nq:=by
  intro pins s σ H xs us Q I rv h
  obtain⟨a,lo,hi,rfl,hH,hb,q⟩:=h
  obtain⟨u,rfl,ru⟩:=vals1 rv
  cases ru
  obtain⟨t,u,v,e⟩:=(show bP X.prog X.w H s.heap a (.l9 lo hi) from I.hok a _ hH)
  refine call_list_range (n:=(hi-lo).toNat) (I.ok.hd hc) (show IsRange s.heap a lo hi 1 t u v from e) (small_one (by walk_at "o") (by walk_at "o") (by walk_at "o") (by walk_at "o")) (rangeSize_nat lo hi) (by walk_at "o") fun h' tk acc c' kp hl hi'=>?_
  have vv:Vals (((List.range (hi-lo).toNat).map fun(i:Nat)=>lo+(i:Int)).map V.int) acc.toList:=by
    have key:∀(n:Nat) (l:List Value),l.length=n->∀b:Int,(∀(j:Nat) (v:Value),l[j]?=some v->∃t,v=Value.int (b+(j:Int)) t)->Vals (((List.range n).map fun(i:Nat)=>b+(i:Int)).map V.int) l:=by
      intro n
      induction n with
      |zero=>intro l hl b _;rw[pH.mp hl];exact .nil
      | succ n ih =>
        intro l hl b hv
        cases l with
        |nil=>cases hl
        | cons x r =>
          obtain⟨t,e⟩:=hv 0 x rfl
          rw[A7,bx,bx]
          refine .cons ⟨t,by simpa using e⟩ ?_
          have:=ih r (by simpa using hl) (b+1) (fun j v e=>by
            obtain⟨t,z⟩:=hv (j+1) v (by simpa using e)
            exact⟨t,by rw[z];congr 1;walk_at "o"⟩)
          rw[mL] at this⊢
          rw[mL]
          have e:∀i:Nat,((V.int∘fun(i:Nat)=>b+(i:Int))∘Nat.succ) i=(V.int∘fun(i:Nat)=>b+1+(i:Int)) i:=fun i=>by
            show V.int (b+((i+1:Nat):Int))=V.int (b+1+(i:Int));congr 1;walk_at "o"
          rw[zE fun i _=>e i]
          exact this
    refine key _ _ (by rw[cV];exact hi'.1) lo fun j v e=>?_
    obtain⟨t,z⟩:=hi'.2 j v (by rw[<-jj];exact e)
    exact⟨t,by rw[z];congr 1;walk_at "o"⟩
  refine⟨.ref s.heap.objs.size,_,I.laid (t':=tk) (o:= .lst (((List.range (hi-lo).toNat).map fun(i:Nat)=>lo+(i:Int)).map V.int)) kp (aE _) ⟨?_,acc.toList,c',vv,by simpa using hl⟩,rfl,q _ (I.hok.fresh (aE _))⟩
  rw[ay,ay,List.length_range]
  exact dw (show(hi-lo).toNat<=20000 by walk_at "o") (by decide)
theorem Y7(hc:X.calm=true):fY X (.builtin "all") (EY X.K):=by
  intro pins s σ H xs us Q I rv h
  obtain⟨p,bs,rfl,hp,q⟩:=h
  obtain⟨u,rfl,ru⟩:=vals1 rv
  cases ru
  obtain⟨its,rs,il,hz⟩:=I.list hp
  have hl:=rs.length
  have hv:∀(i:Nat) (v:Value),its.toArray[i]?=some v->v= .bool (bs.getD i false):=fun i v e=>by
    have hi:i<bs.length:=by
      have:=(uZ.mp e).1
      rw[ay] at hl
      simp at this;walk_at "o"
    obtain⟨u,hu,ru⟩:=rs.get (i:=i) (x:= .bl bs[i]) (by rw[dG,bE hi];rfl)
    rw[G0,hu] at e
    cases e
    rw[pe,bE hi]
    exact ru
  have ll:=il.isList
  have hlt:p<s.heap.objs.size:=by obtain⟨o,e,_⟩:=ll;exact bC e
  refine call_all_walk (wpAny_pyIter_list ll ⟨s.heap.objs.size,_,_,_,_,_,fun i=>bs.getD i false,rfl,Walks.list (A:=X.A.in1) (I.ok.hd hc) _ p (cX hlt) its.toArray,⟨⟨_,fS _ rfl,rfl,rfl⟩,ll.push _⟩,fun i v s Q E hP hQ=>?_,fun h' tk kp=>?_⟩)
  · rw[hv i v hP];exact wpAny_truthy_bool hQ
  · have e:(List.range its.toArray.size).all (fun i=>bs.getD i false)=bs.all id:=by
      have hs:its.toArray.size=bs.length:=by rw[ay] at hl;simp;walk_at "o"
      rw[hs]
      clear hv hl rs q hp hs hz
      induction bs with
      |nil=>rfl
      | cons b r ih =>
        rw[bw,A7,ny,ny,List.all_map]
        simpa[Function.comp_def] using congrArg (b && ·) ih
    rw[e]
    refine⟨.bl (bs.all id),H,I.kept fun b o q=>kp b o (fun m=>?_) (cz _ q),rfl,q⟩
    have:=az.mp m
    rw[this] at q
    exact absurd (bC q) (lQ _)
end
section
variable{G:Gx}{ρ:Rh}{te:TE}{K:PySem.W.Frag}{Φ:Pd}
theorem aI.OB{Θ:Bool->List PyData->Prop}(h:Ev G ρ te fun _ x=>∃n:Int,x= .int n/\ -10000<=n/\n<=10000/\Θ true (((List.range n.toNat).map fun(i:Nat)=>(0:Int)+(i:Int)).map .int)):aI G ρ (eY Nq (aL (eY HC (aL te aX)) aX)) Θ:=fun nb σ H Q W z=>
 h nb σ H _ W fun f v H1 x ⟨n,ex,h1,h2,q⟩ s1 hv=>by
  subst ex
  rw[hv.cS]
  refine⟨n,rfl,fun a ha=>⟨a,0,n,rfl,aQ,by walk_at "o",fun l hl=>?_⟩⟩
  rw[Int.sub_zero]
  exact aI.fin (f:=true) W (s1.trans (.same s1.2 (cE ha))) hl (yh _) q z
theorem Ev.sum(h:Ev G ρ te fun _ x=>∃ns:List Int,x= .list (ns.map .int)/\Φ true (.int ns.sum)):Ev G ρ (eY (N4 K) (aL te aX)) Φ:=fun nb σ H Q W z=>
 h nb σ H _ W fun f v H1 x ⟨ns,ex,q⟩ s1 hv=>by
  subst ex
  obtain⟨a,xs,rfl,na,hx,hd⟩:=hv.gF
  have e:=uw hd
  subst e
  exact⟨a,ns,rfl, .of hx,z true _ H1 _ q s1 (.int _)⟩
theorem NI{nb:Addr->Prop}{H:Hp}:∀{is:List Bool} {xs:List V},ah nb H (is.map PyData.bool) xs->xs=is.map V.bl
  |[],_,h=>by unfold List.map ah at h;exact h
  | i :: is, _, h => by
    rw[bx] at h
    unfold ah at h
    obtain⟨y,ys,rfl,h1,h2⟩:=h
    unfold af at h1
    rw[bx,h1,NI h2]
theorem Ev.all(h:Ev G ρ te fun _ x=>∃bs:List Bool,x= .list (bs.map .bool)/\Φ true (.bool (bs.all id))):Ev G ρ (eY (EY K) (aL te aX)) Φ:=fun nb σ H Q W z=>
 h nb σ H _ W fun f v H1 x ⟨bs,ex,q⟩ s1 hv=>by
  subst ex
  obtain⟨a,xs,rfl,na,hx,hd⟩:=hv.gF
  have e:=NI hd
  subst e
  exact⟨a,bs,rfl, .of hx,z true _ H1 _ q s1 (.bl _)⟩
end
end L2
set_option maxRecDepth 100000
set_option maxHeartbeats 4000000
namespace L2
open PySem PySem.Spec PyProof.Rows
noncomputable def ja:PyData->String->Bool
 | .bool _,T=>T=="bool" ||T=="int"
 | .int _,T=>T=="int"
 | .str _,T=>T=="str"
 | .list _,T=>T=="list"
 | .tuple _,T=>T=="tuple"
 |_,_=>false
noncomputable def AR:PyData->String
 | .none=> "NoneType" | .bool _=> "bool" | .int _=> "int" | .str _=> "str" | .list _=> "list" | .tuple _=> "tuple" | .dict _=> "dict"
theorem Le(ds:List PyData):ja (.list ds) "list"=true/\ja (.list ds) "tuple"=false:=⟨rfl,rfl⟩
theorem Io(ds:List PyData):ja (.tuple ds) "list"=false/\ja (.tuple ds) "tuple"=true:=⟨rfl,rfl⟩
theorem Ru{K:PySem.W.Frag}{nb:Addr->Prop}{H:Hp}{d:PyData}{v:V}(h:af nb H d v):iO K H v (.type (AR d)):=by
 cases d<;>unfold af at h
 ·subst h;exact .aB
 ·subst h;exact .bl _
 ·subst h;exact .int _
 ·subst h;exact .str _
 ·obtain⟨a,xs,rfl,_,e,_⟩:=h;exact .lst e
 ·obtain⟨a,xs,rfl,_,e,_⟩:=h;exact .tup e
 ·obtain⟨a,xs,rfl,_,e,_⟩:=h;exact e.elim .dK fun⟨_,e⟩=> .JT e
noncomputable def rQ(T:String):Prop:=T="int" \/T="bool" \/T="list" \/T="tuple" \/T="str"
theorem JE{K:PySem.W.Frag}{d:PyData}{T:String}(hT:rQ T):PySem.W.kitOne K (.type (AR d)) (.type T)=some (ja d T):=by
 rcases hT with rfl|rfl|rfl|rfl|rfl<;>cases d<;>(with_unfolding_all rfl)
theorem Lk{K:PySem.W.Frag}{d:PyData}:∀{Ts:List String},(∀T∈Ts,rQ T)->PySem.W.kitAny K (.type (AR d)) (Ts.map Value.type)=some (Ts.any (ja d))
  |[],_=>rfl
  | T :: r, h => by
    rw[bx]
    unfold PySem.W.kitAny
    rw[JE (h T (bT ..)),mq]
    cases ja d T with
    |true=>rfl
    |false=>exact Lk fun T m=>h T (bJ _ m)
noncomputable def yM:List V->Hp->VK->Prop:=fun xs H Q=>∃(x:V) (tp:Addr) (Ts:List String) (nb:Addr->Prop) (d:PyData),xs=[x, .ref tp]/\H tp=some (.tup (Ts.map V.ty))/\af nb H d x/\(∀T∈Ts,rQ T)/\Q (.bl (Ts.any (ja d))) H
theorem Lp:∀{Ts:List String} {us:List Value},Vals (Ts.map V.ty) us->us=Ts.map Value.type
 |[],_, .nil=>rfl
 |T::r,_, .cons h t=>by rw[bx,Lp t,show _=Value.type T from h]
section
variable{X:Cx}
theorem HF:fY X (.builtin "isinstance") yM:=by
 intro pins s σ H xs us Q I rv h
 obtain⟨x,tp,Ts,nb,d,rfl,ht,hd,h5,q⟩:=h
 obtain⟨u,v,rfl,ru,rv⟩:=rv.two
 cases (show v=Value.ref tp from rv)
 obtain⟨_,its,vt,o,ho,hc,n,hdat⟩:=(show bP X.prog X.w H s.heap tp (.tup (Ts.map V.ty)) from I.hok tp _ ht)
 have e:=Lp vt
 subst e
 obtain⟨c0,d0,dt,sl⟩:=o
 dsimp only at hc hdat
 subst hc hdat
 have fin:∀tk,EP X pins σ Q (.bool (Ts.any (ja d))) {s with toks:=tk}:=fun tk=>⟨.bl _,H,I.tok tk,rfl,q⟩
 have ka:=Lk (K:=X.K) (d:=d) h5
 cases d<;>unfold af at hd
 ·subst hd;cases (show u=Value.none from ru);exact o5 PySem.W.kitx_none I.bM True.intro ho ka (fun z=>nomatch z) fin
 ·subst hd;cases (show u=Value.bool _ from ru);exact o5 PySem.W.kitx_bool I.bM True.intro ho ka (fun z=>nomatch z) fin
 ·subst hd;obtain⟨t,rfl⟩:=(show∃t,u=Value.int _ t from ru);exact o5 PySem.W.kitx_int I.bM True.intro ho ka (fun z=>nomatch z) fin
 ·subst hd;obtain⟨t,rfl⟩:=(show∃t,u=Value.str _ t from ru);exact o5 PySem.W.kitx_str I.bM True.intro ho ka (fun z=>nomatch z) fin
 ·obtain⟨a,ys,rfl,_,ea,_⟩:=hd
  cases (show u=Value.ref a from ru)
  obtain⟨_,_,n,_,h1⟩:=(show bP X.prog X.w H s.heap a (.lst ys) from I.hok a _ ea)
  exact o5 Cm I.bM ⟨_,h1,rfl⟩ ho ka (fun z=>nomatch z) fin
 ·obtain⟨a,ys,rfl,_,ea,_⟩:=hd
  cases (show u=Value.ref a from ru)
  obtain⟨_,_,_,o',h1,h2,_⟩:=(show bP X.prog X.w H s.heap a (.tup ys) from I.hok a _ ea)
  exact o5 PySem.W.kitx_tuple I.bM ⟨o',h1,h2⟩ ho ka (fun z=>nomatch z) fin
 ·obtain⟨a,ys,rfl,_,ea,_⟩:=hd
  cases (show u=Value.ref a from ru)
  obtain⟨_,_,vs,_,dd⟩:=(show bP X.prog X.w H s.heap a (.dK ys) from ea.ok I.hok)
  exact o5 yk I.bM dd.typeIs ho ka (fun z=>nomatch z) fin
end
section
variable{G:Gx}{ρ:Rh}{ta tb te:TE}{K:PySem.W.Frag}{Φ:Pd}{T U:String}
theorem Ev.OC(hT:rQ T)(h:Ev G ρ te fun _ x=>Φ true (.bool (ja x T))):Ev G ρ (eY (lz K) (aL te (aL (tC (.ty T)) aX))) Φ:=fun nb σ H Q W z=>
 h nb σ H _ W fun f v H1 d q s1 hv=>⟨v,T,_,_,rfl,Ru hv,JE hT,z true _ H1 _ q s1 (.bl _)⟩
theorem Ev.Zg(hT:rQ T)(hU:rQ U)(h:Ev G ρ te fun _ x=>Φ true (.bool (ja x T||ja x U))):Ev G ρ (eY yM (aL te (aL (sC (aL (tC (.ty T)) (aL (tC (.ty U)) aX))) aX))) Φ:=fun nb σ H Q W z=>
 h nb σ H _ W fun f v H1 d q s1 hv=>by
  refine⟨by show 2<=sizeLine;decide,fun p hp=>⟨v,p,[T,U],G.S nb f,d,rfl,aQ,hv.keep (aM.of (cE hp)),fun S m=>?_,?_⟩⟩
  ·rcases aA.mp m with e|m
   ·rw[e];exact hT
   ·rw[az.mp m];exact hU
  ·rw[mq,mq,List.any_nil,oH]
   exact z true _ _ _ q (s1.trans (.same s1.2 (cE hp))) (.bl _)
theorem Ev.N9(h:Ev G ρ te fun _ x=>∃ds,(x= .list ds\/x= .tuple ds)/\Φ true (.int ds.length)):Ev G ρ (eY (kH K) (aL te aX)) Φ:=fun nb σ H Q W z=>
 h nb σ H _ W fun f v H1 d ⟨ds,e,q⟩ s1 hv=>by
  rcases e with e|e
  ·subst e
   obtain⟨a,xs,rfl,n,hx,hd⟩:=hv.gF
   exact⟨a,xs,rfl, .inl (.of hx),by rw[hd.length];exact z true _ H1 _ q s1 (.int _)⟩
  ·subst e
   obtain⟨a,xs,rfl,n,hx,hd⟩:=hv.ofT
   exact⟨a,xs,rfl, .inr (.of hx),by rw[hd.length];exact z true _ H1 _ q s1 (.int _)⟩
theorem Ev.D6(h:Ev G ρ ta fun f x=>∃ds,(x= .list ds\/x= .tuple ds)/\Ev G ρ tb fun _ y=>∃k,y= .int k/\∃e,cB ds k=some e/\Φ f e):Ev G ρ (cG (xY K) ta tb) Φ:=
 Ev.lC (h.mono fun f x ⟨ds,ex,q⟩=>q.mono fun g y ⟨k,ey,e,he,p⟩ nb σ H u v Q W hu hv z=>by
  subst ey
  rcases ex with ex|ex
  ·subst ex
   obtain⟨a,xs,rfl,n,hx,hd⟩:=hu.gF
   obtain⟨w,hw,hD⟩:=hd.cB he
   exact .inl ⟨a,xs,k,w,rfl,hv.cS, .of hx,hw,z f _ H _ p (.refl W.ao) hD⟩
  ·subst ex
   obtain⟨a,xs,rfl,n,hx,hd⟩:=hu.ofT
   obtain⟨w,hw,hD⟩:=hd.cB he
   exact .inr (.inl ⟨a,xs,k,w,rfl,hv.cS, .of hx,hw,z f _ H _ p (.refl W.ao) hD⟩))
end
theorem Callee.void{P:Program}{w:World}{K:PySem.W.Frag}{mg:Str->Option Value}{base:Heap}{x:Str}{st:Stmt}{k:Nat}{ps:List Str}{sp:Sp}{f:Addr}{fd:FuncData}(F:bW K x x st f fd)(b:Binds K fd ps [])(m:mg x=some (.ref f))(hv:∀vs H Q E,¬sp vs H Q E):Callee P w K mg base x k ps sp:=
 ⟨f,fd,⟨fun vs H Q E h=>(hv vs H Q E h).elim,fun A outer s H args us vs Q E _ _ _ _ h=>(hv vs H Q E h).elim⟩,b,F.kp,m⟩
end L2
set_option maxRecDepth 100000
set_option maxHeartbeats 4000000
namespace L2
open PySem PySem.Spec PyProof.Rows
section
variable{G:Gx}{ρ c7:Rh}{te:TE}{gt:TG}{n i:Nat}{it:Nat->PyData->Prop}{fi:Bool}{Θ:Bool->List PyData->Prop}{E:DE}
theorem Ke(os:List Int):fF (os.map PyData.int)=true:=by
 unfold fF
 rw[rC]
 intro x hx
 obtain⟨y,_,rfl⟩:=fQ.mp hx
 rfl
theorem lu.ints(P:Int->Prop)(ht:∀i d,it i d->Gv G c7 gt fi d fun gM=>Wk c7 gM/\Ev G gM te fun _ e=>∃r:Int,e= .int r/\P r)(h:∀os:List Int,os.length=n->(∀x∈os,P x)->Θ true (os.map .int)):lu G c7 n it fi gt rF te Θ:=by
 refine⟨false,fun i ds=>ds.length=i/\∃os:List Int,ds=os.map .int/\∀x∈os,P x,⟨rfl,[],rfl,fun _ h=>nomatch h⟩,?_,?_⟩
 ·rintro i d ds hd hl ⟨hl2,os,rfl,ho⟩
  refine fun nb σ H v Q W hv z=>ht i d hd nb σ H v Q W hv fun σ' ρ' ⟨w,q⟩ W'=>z σ' ρ' ⟨w,Tv.uD (zy (q.mono fun f e ⟨r,ee,hr⟩=>⟨fun z=>(by cases z),?_,os++[r],?_,fun x hx=>?_⟩))⟩ W'
  ·rw[fu,lV,hl2]
  ·rw[ee];simp
  ·rcases jc.mp hx with h|h
   ·exact ho x h
   ·rw[az.mp h];exact hr
 ·rintro ds hl ⟨hl2,os,rfl,ho⟩
  rw[Ke,uE]
  exact h os (by rw[ay] at hl2;exact hl2) ho
theorem lu.rel{α:Type}(φ:α->PyData)(fl:Bool)(P:Nat->α->Prop)(ht:∀i d,it i d->Gv G c7 gt fi d fun gM=>Wk c7 gM/\Ev G gM te fun f e=>(fl=true->f=true)/\∃r:α,e=φ r/\P i r)
  (h:∀os:List α,os.length=n->(∀(i:Nat) x,os[i]?=some x->P i x)->Θ (fl||fF (os.map φ)) (os.map φ)):lu G c7 n it fi gt rF te Θ:=by
 refine⟨fl,fun i ds=>ds.length=i/\∃os:List α,ds=os.map φ/\∀(i:Nat) x,os[i]?=some x->P i x,⟨rfl,[],rfl,fun j x e=>by simp at e⟩,?_,?_⟩
 ·rintro i d ds hd hl ⟨hl2,os,rfl,ho⟩
  refine fun nb σ H v Q W hv z=>ht i d hd nb σ H v Q W hv fun σ' ρ' ⟨w,q⟩ W'=>z σ' ρ' ⟨w,Tv.uD (zy (q.mono fun f e ⟨hf,r,ee,hr⟩=>⟨hf,?_,os++[r],?_,fun j x hj=>?_⟩))⟩ W'
  ·rw[fu,lV,hl2]
  ·rw[ee];simp
  ·rw[ay] at hl2
   rcases Nat.lt_trichotomy j os.length with h|h|h
   ·exact ho j x (by rwa[dz h] at hj)
   ·subst h
    simp at hj
    subst hj
    rw[hl2];exact hr
   ·rw[rO (by rw[fu,lV];walk_at "o")] at hj
    cases hj
 ·rintro ds hl ⟨hl2,os,rfl,ho⟩
  exact h os (by rw[ay] at hl2;exact hl2) ho
theorem Sv.aad(h:∀a,E.nx (ρ.set i (.own a true []))):Sv G ρ (i6 (mK aX) (gC i)) E:=Sv.Hr (aI.lst (Av.nil ⟨by decide,fun a=>h a⟩))
end
noncomputable def Xd:R2:=fun x y H Q=>∃a b:Bool,x= .bl a/\y= .bl b/\Q (.bl (a==b)) H
theorem Ev.isB{G:Gx}{ρ:Rh}{ta:TE}{b:Bool}{Φ:Pd}(h:Ev G ρ ta fun _ x=>∃a,x= .bool a/\Φ true (.bool (a==b))):Ev G ρ (cG Xd ta (tC (.bl b))) Φ:=fun nb σ H Q W z=>
 h nb σ H _ W fun f v H1 d ⟨a,e,q⟩ s1 hv=>by
  subst e
  unfold af at hv
  subst hv
  exact⟨a,b,rfl,rfl,z true _ H1 _ q s1 (.bl _)⟩
theorem pI{X:Cx}{K:PySem.W.Frag}{a:Expr}{ta:TE}(hK:X.K=K)(ha:PE X a ta)(he:∀whole,isTrue a X.env whole=(do let v<-whole;standAt a.pos;holding [v] (truthy v))):PT X a (EF K ta):=by
 subst hK
 exact YI ha he
theorem P7{X:Cx}{K:PySem.W.Frag}{es:List Expr}{k:Nat}{t:jh}{n:Nat}{pos:Pos}(hK:X.K=K)(hc:X.calm=true)(h:vj X es t)(hn:(assignEach es X.env).length=n:=by rfl)(hst:(assignEach es X.env).findIdx? (·.1)=none:=by rfl):PG X (.Tuple es k pos) (E3 K n t):=by
 subst hK
 exact R1 hc h hn hst
theorem Sv.Jk{G:Gx}{ρ:Rh}{s:TS}{E:DE}(I:Rh->Prop)(h:Sv G ρ s {E with nx:=I})(hI:∀ρ',I ρ'->E.nx ρ'):Sv G ρ s E:=fun nb σ H D W K=>h nb σ H D W ⟨fun nb ρ σ H q W=>K.nx nb ρ σ H (hI ρ q) W,K.bk,K.ct,K.rt,K.rw⟩
theorem pick{L:List Int}{k:Int}(h0:0<=k)(h1:k<L.length)(P:Int->Prop)(hP:∀x∈L,P x):∃x,cB (L.map PyData.int) k=some (.int x)/\P x:=by
 have hL:k.toNat<L.length:=by walk_at "o"
 exact⟨L[k.toNat],rj h0 (by rw[dG,bE hL];rfl),hP _ (nk hL)⟩
end L2
set_option maxRecDepth 100000
set_option maxHeartbeats 4000000
namespace L2
open PySem PySem.Spec PyProof.Rows
theorem fit{p S r y:Int}(hp:0<p)(h:∃k,y*r=1+p*k):(S+((0-S%p)*r%p)*y)%p=0:=by
 obtain⟨k,hk⟩:=h
 have e1:=FH S p
 have e2:=FH ((0-S%p)*r) p
 refine Int.emod_eq_zero_of_dvd ⟨S/p-S%p*k-(0-S%p)*r/p*y,?_⟩
 generalize S%p=R at*
 generalize S/p=s at*
 generalize (0-R)*r/p=q at*
 generalize hf:(0-R)*r%p=f at*
 have e3:f*y=(0-R)*r*y-p*q*y:=by rw[<-Int.sub_mul];congr 1;walk_at "o"
 have e4:(0-R)*r*y= -R-R*(p*k):=by
  rw[xR,Int.mul_comm r y,hk,Int.mul_add,Int.mul_one,Int.sub_mul,Int.zero_mul];walk_at "o"
 rw[e3,e4,Int.mul_sub,Int.mul_sub,<-xR p R k,Int.mul_comm p R,xR R p k,<-xR p q y]
 walk_at "o"
end L2
set_option maxRecDepth 100000
set_option maxHeartbeats 4000000
namespace L2
open PySem PySem.Spec PyProof.Rows
theorem K6:∀xs ys:List Int,PyData.eqvAll (xs.map PyData.int) (ys.map PyData.int)=decide (xs=ys)
  |[],[]=>by simp[PyData.eqvAll]
  |[],y::ys=>by simp[PyData.eqvAll]
  |x::xs,[]=>by simp[PyData.eqvAll]
  | x :: xs, y :: ys => by
    simp only[bx,PyData.eqvAll,K6 xs ys]
    have:PyData.eqv (.int x) (.int y)=decide (x=y):=by rw[nQ];simp[PyData.eqv]
    rw[this,nQ]
    simp
theorem OQ(xs ys:List Int):PyData.eqv (.list (xs.map .int)) (.list (ys.map .int))=decide (xs=ys):=by
 simp only[PyData.eqv]
 exact K6 xs ys
theorem shaped_ints(xs:List Int):SeqAt.shaped (.list (xs.map .int))=true:=by
 have h:=W6 (xs.map some)
 have e:(xs.map some).map uG=xs.map PyData.int:=by rw[mL];rfl
 rw[e] at h
 unfold SeqAt.shaped
 simp[PyData.canLay0,PyData.depth,h.1,h.2]
end L2
set_option maxRecDepth 100000
set_option maxHeartbeats 4000000
namespace L2
open PySem PySem.Spec PyProof.Rows
noncomputable def MS(K:PySem.W.Frag)(te:TE)(ts:TO):TE:=fun σ H Q=>te σ H fun x H1=>ts σ H1 fun k H2=>k=some (-1)/\∃a xs,x= .ref a/\aS K H2 a xs/\∀p,H2 p=none->Q (.ref p) (upd H2 p (.lst xs.reverse))
theorem ah.rev{nb:Addr->Prop}{H:Hp}:∀{ds:List PyData} {xs:List V},ah nb H ds xs->ah nb H ds.reverse xs.reverse
  |[],xs,h=>by unfold ah at h;subst h;exact .nil
  | d :: ds, xs, h => by
    unfold ah at h
    obtain⟨y,ys,e,h1,h2⟩:=h
    subst e
    rw[List.reverse_cons,List.reverse_cons]
    exact ah.append (ah.rev h2) (.cons h1 .nil)
section
variable{G:Gx}{ρ:Rh}{Φ:Pd}{ta tb te:TE}{K:PySem.W.Frag}
theorem aI.rev{ts:TO}{Θ:Bool->List PyData->Prop}(h:Ev G ρ te fun f x=>∃ds,x= .list ds/\Ov G ρ ts fun o=>o=some (-1)/\Θ (f||fF ds.reverse) ds.reverse):aI G ρ (MS K te ts) Θ:=fun nb σ H Q W z=>
 h nb σ H _ W fun f v H1 d ⟨ds,e,q⟩ s1 hv=>q nb σ H1 _ (W.step s1) fun o H2 ⟨eo,q2⟩ s2=>by
  subst e
  obtain⟨a,xs,rfl,n,hx,hd⟩:=(hv.keep s2.fG).gF
  exact⟨eo,a,xs,rfl, .of hx,fun p hp=>aI.fin W (s1.trans s2) hp hd.rev q2 z⟩
theorem Ev.rev{ts:TO}(h:Ev G ρ te fun f x=>∃ds,x= .list ds/\Ov G ρ ts fun o=>o=some (-1)/\Φ (f||fF ds.reverse) (.list ds.reverse)):Ev G ρ (MS K te ts) Φ:=(aI.rev (Θ:=fun f ds=>Φ f (.list ds)) h).ev
theorem XS{X:Cx}{K:PySem.W.Frag}(hK:X.K=K):dB X (compareOp .In) (zG K false):=by subst hK;exact UO
theorem Ev.WE{ng:Bool}(h:Ev G ρ ta fun _ x=>∃k:Int,x= .int k/\Ev G ρ tb fun _ y=>∃ns:List Int,y= .list (ns.map .int)/\Φ true (.bool (decide (k∈ns) !=ng))):Ev G ρ (cG (zG K ng) ta tb) Φ:=fun nb σ H Q W z=>
 h nb σ H _ W fun f v H1 d ⟨k,e,q⟩ s1 hv=>q nb σ H1 _ (W.step s1) fun g u H2 d2 ⟨ns,e2,p⟩ s2 hu=>by
  subst e e2
  have hk:=hv.cS
  subst hk
  obtain⟨a,xs,rfl,na,hx,hd⟩:=hu.gF
  have ex:=uw hd
  subst ex
  refine⟨a,ns.map V.int,rfl, .inl (.of hx),rfl,?_,?_⟩
  ·rw[rC]
   intro x hx
   obtain⟨o,_,rfl⟩:=fQ.mp hx
   rfl
  ·have e:sM (V.int k) (ns.map V.int)=decide (k∈ns):=by
    unfold sM
    rw[List.any_map,nQ,xg,decide_eq_true_eq]
    constructor
    ·rintro⟨o,m,h⟩
     have:o=k:=eq_of_beq h
     exact this▸m
    ·intro m
     exact⟨k,m,beq_self_eq_true k⟩
   have e2:(if ng=true then !sM (V.int k) (ns.map V.int) else sM (V.int k) (ns.map V.int))=(decide (k∈ns) !=ng):=by
    rw[e]
    cases ng<;>simp
   rw[e2]
   exact z true _ H2 _ p (s1.trans s2) (.bl _)
end
noncomputable def mS(p n:Int)(prs:bY):Prop:=prs≠[]/\(prs.Pairwise fun a b=>a.1<b.1)/\∀pr∈prs,0<=pr.1/\pr.1<n/\1<=pr.2/\pr.2<p
end L2
set_option maxRecDepth 100000
set_option maxHeartbeats 1000000
namespace PC
noncomputable def aD(n:Nat):Prop:=2<=n/\∀d,d∣n->d=1\/d=n
noncomputable def tr(q:Nat):Nat->Nat->Bool
 |0,_=>false
 |f+1,d=>if q<d*d then true else if q%d=0 then false else tr q f (d+1)
theorem HG{q:Nat}:∀{f d:Nat},tr q f d=true->∀e,d<=e->e*e<=q->q%e≠0
  |0,_,h=>by simp[tr] at h
  | f + 1, d, h => by
    intro e hde hee
    unfold tr at h
    by_cases h1:q<d*d
    · have:=Nat.mul_le_mul hde hde
      walk_at "o"
    · rw[if_neg h1] at h
      by_cases h2:q%d=0
      · rw[if_pos h2] at h;cases h
      · rw[if_neg h2] at h
        by_cases h3:d=e
        · rw[<-h3];exact h2
        · exact HG h e (by walk_at "o") hee
theorem Nc{q:Nat}(h2:2<=q)(h:∀e,2<=e->e*e<=q->q%e≠0):aD q:=by
 refine⟨h2,fun d hd=>?_⟩
 obtain⟨e,he⟩:=hd
 by_cases d1:d=1
 ·exact .inl d1
 by_cases e1:e=1
 ·right;rw[he,e1,Dm]
 exfalso
 have d0:d≠0:=fun z=>by rw[z,BR] at he;walk_at "o"
 have e0:e≠0:=fun z=>by rw[z,Nat.mul_zero] at he;walk_at "o"
 by_cases hle:d<=e
 ·refine h d (by walk_at "o") (by rw[he];exact Nat.mul_le_mul_left d hle) ?_
  rw[he];exact Nat.mul_mod_right d e
 ·refine h e (by walk_at "o") (by rw[he];exact Nat.mul_le_mul_right e (by walk_at "o")) ?_
  rw[he];exact Nat.mul_mod_left d e
theorem bN(f:Nat){q:Nat}(h2:2<=q)(h:tr q f 2=true):aD q:=Nc h2 (HG h)
noncomputable def pw(N:Nat):Nat->Nat->Nat->Nat->Nat
 |0,_,_,acc=>acc
 |f+1,e,g,acc=>pw N f (e/2) (g*g%N) (if e%2=1 then acc*g%N else acc)
theorem Me{N:Nat}:∀(f e g acc:Nat),e<2^f->pw N f e g acc%N=acc*g^e%N
  | 0, e, g, acc, h => by
    have:e=0:=by simp at h;exact h
    subst this
    simp[pw]
  | f + 1, e, g, acc, h => by
    have h2:e/2<2^f:=by rw[Nat.pow_succ] at h;walk_at "o"
    unfold pw
    rw[Me f _ _ _ h2]
    have e2:g^e=(g*g)^(e/2)*g^(e%2):=by
      conv=>lhs;rw[<-AJ e 2]
      rw[yT,Nat.pow_mul,Nat.pow_two]
    have m1:(g*g%N)^(e/2)%N=(g*g)^(e/2)%N:=(Nat.pow_mod _ _ _).symm
    rw[e2]
    by_cases ho:e%2=1
    · rw[if_pos ho,ho,Nat.pow_one,l8,m1,DO,<-l8]
      congr 1
      rw[u7,ye g]
    · have ho':e%2=0:=by walk_at "o"
      rw[if_neg ho,ho',Nat.pow_zero,Dm,l8,m1,<-l8]
theorem Tc{P:Nat->Prop}:∀n,P n->∃m,P m/\∀k,k<m->¬P k:=by
  intro n
  induction n using Nat.strongRecOn with
  | _ n ih =>
    intro h
    by_cases hk:∃k,k<n/\P k
    · obtain⟨k,hk1,hk2⟩:=hk
      exact ih k hk1 hk2
    · exact⟨n,h,fun k hk1 hk2=>hk ⟨k,hk1,hk2⟩⟩
theorem GU:∀(n:Nat) (f:Nat->Nat),(∀i,i<n+1->f i<n)->∃i j,i<j/\j<n+1/\f i=f j
  |0,f,h=>absurd (h 0 (by walk_at "o")) (by walk_at "o")
  | n + 1, f, h => by
    by_cases he:∃i,i<n+1/\f i=f (n+1)
    · obtain⟨i,h1,h2⟩:=he
      exact⟨i,n+1,h1,by walk_at "o",h2⟩
    · have hne:∀i,i<n+1->f i≠f (n+1):=fun i hi e=>he ⟨i,hi,e⟩
      have ie:=h (n+1) (by walk_at "o")
      obtain⟨i,j,h1,h2,h3⟩:=GU n (fun i=>if f i=n then f (n+1) else f i) (fun i hi=>by
        have g1:=h i (by walk_at "o")
        have g2:=hne i hi
        by_cases c:f i=n
        · simp only[c,if_true]
          have:f (n+1)≠n:=fun z=>g2 (c.trans z.symm)
          walk_at "o"
        · simp only[c,if_false]
          walk_at "o")
      refine⟨i,j,h1,by walk_at "o",?_⟩
      have gi:=hne i (by walk_at "o")
      have gj:=hne j (by walk_at "o")
      by_cases ci:f i=n
      · by_cases cj:f j=n
        · rw[ci,cj]
        · simp only[ci,cj,if_true,if_false] at h3
          exact absurd h3.symm gj
      · by_cases cj:f j=n
        · simp only[ci,cj,if_true,if_false] at h3
          exact absurd h3 gi
        · simpa only[ci,cj,if_false] using h3
noncomputable def kj:List (Nat×Nat)->Nat
 |[]=>1
 |qe::r=>Nat.lcm (qe.1^qe.2) (kj r)
theorem Gh{o:Nat}:∀{fs:List (Nat×Nat)},(∀qe∈fs,qe.1^qe.2∣o)->kj fs∣o
 |[],_=>⟨o,by simp[kj]⟩
 |qe::r,h=>Nat.lcm_dvd (h qe bT) (Gh fun x hx=>h x (bJ _ hx))
theorem ON{q m:Nat}(hq:aD q)(h:¬q∣m):Nat.Coprime q m:=by
 rcases hq.2 _ (Nat.gcd_dvd_left q m) with e|e
 ·exact e
 ·exact absurd (e▸Nat.gcd_dvd_right q m) h
theorem R5{q m:Nat}(h:Nat.Coprime q m)(e:Nat):Nat.Coprime (q^e) m:=Nat.Coprime.pow_left e h
theorem S7(a b c d:Nat):(a%d)*(b%d)%d*(c%d)%d=a*b*c%d:=by
 rw[<-l8 a b,<-l8 (a*b) c]
theorem KN{N g d:Nat}{fs:List (Nat×Nat)}(hN:2<=N)(hd:d∣N)(d1:1<d)(h1:g^(N-1)%N=1%N)
  (hq:∀qe∈fs,aD qe.1/\qe.1^qe.2∣N-1/\Nat.gcd (g^((N-1)/qe.1)%N+(N-1)) N=1):kj fs<d:=by
 have down:∀{a b:Nat},a%N=b%N->a%d=b%d:=fun{a b} e=>by
  rw[<-AA a hd,e,AA b hd]
 have one:1%d=1:=Nat.mod_eq_of_lt d1
 have f1:g^(N-1)%d=1:=by rw[down h1,one]
 obtain⟨o,⟨o0,o1⟩,MZ⟩:=Tc (P:=fun k=>0<k/\g^k%d=1) (N-1) ⟨by walk_at "o",f1⟩
 have per:∀q r:Nat,g^(o*q+r)%d=g^r%d:=fun q r=>by
  rw[yT,Nat.pow_mul,l8,Nat.pow_mod,o1,Nat.one_pow,one,Dd,DO]
 have Uk:∀k,g^k%d=1->o∣k:=fun k hk=>by
  have e:=AJ k o
  rw[<-e,per] at hk
  by_cases h0:k%o=0
  ·exact GS h0
  ·exact absurd ⟨by walk_at "o",hk⟩ (MZ (k%o) (z5 _ o0))
 have od:=Uk _ f1
 have parts:kj fs∣o:=Gh fun qe wm=>by
  obtain⟨pq,⟨c,hc⟩,gq⟩:=hq qe wm
  obtain⟨m,hm⟩:=od
  by_cases M8:qe.1∣m
  ·exfalso
   obtain⟨m',hm'⟩:=M8
   have q0:0<qe.1:=by have:=pq.1;walk_at "o"
   have ek:(N-1)/qe.1=o*m':=by
    rw[hm,hm',show o*(qe.1*m')=qe.1*(o*m') by rw[<-u7,ye o,u7],Nat.mul_div_cancel_left _ q0]
   have e1:g^((N-1)/qe.1)%d=1:=by
    have:=per m' 0
    rw[ux,Nat.pow_zero,one] at this
    rw[ek];exact this
   have e2:d∣g^((N-1)/qe.1)%N+(N-1):=by
    have e3:(g^((N-1)/qe.1)%N)%d=1:=by rw[AA _ hd];exact e1
    obtain⟨k,hk⟩:=hd
    have e4:=AJ (g^((N-1)/qe.1)%N) d
    rw[e3] at e4
    refine⟨(g^((N-1)/qe.1)%N)/d+k,?_⟩
    rw[Nat.mul_add,<-hk]
    walk_at "o"
   have e5:=Nat.dvd_gcd e2 hd
   rw[gq] at e5
   have:=ET (by walk_at "o") e5
   walk_at "o"
  ·have cp:=R5 (ON pq M8) qe.2
   have YW:qe.1^qe.2∣o*m:=⟨c,by rw[<-hm];exact hc⟩
   exact cp.dvd_of_dvd_mul_right YW
 have T5:o<d:=by
  refine Nat.lt_of_not_le fun hle=>?_
  have unit:∀i,i<=N-1->(g^i%d)*(g^(N-1-i)%d)%d=1:=fun i hi=>by
   rw[<-l8,<-yT,show i+(N-1-i)=N-1 by walk_at "o"];exact f1
  have ZY:o<=N-1:=ET (by walk_at "o") od
  have pos:∀i,i<o->0<g^i%d:=fun i hi=>by
   refine Nat.pos_of_ne_zero fun z=>?_
   have:=unit i (by walk_at "o")
   rw[z,BR,Nat.zero_mod] at this
   cases this
  obtain⟨i,j,h1,h2,h3⟩:=GU (d-1) (fun i=>g^i%d-1) (fun i hi=>by
   have a1:=pos i (by walk_at "o")
   have a2:=z5 (g^i) (show d>0 by walk_at "o")
   walk_at "o")
  have pi:=pos i (by walk_at "o")
  have pj:=pos j (by walk_at "o")
  have e:g^i%d=g^j%d:=by walk_at "o"
  have ej:g^j=g^i*g^(j-i):=by rw[<-yT,show i+(j-i)=j by walk_at "o"]
  have u:=unit i (by walk_at "o")
  have k1:g^(j-i)%d=1:=by
   have w:(g^i%d)*(g^(N-1-i)%d)%d*(g^(j-i)%d)%d=(g^j%d)*(g^(N-1-i)%d)%d:=by
    rw[S7,<-l8 (g^j),ej]
    congr 1
    rw[u7,u7,ye (g^(N-1-i))]
   rw[u,Dd,DO,<-e,u] at w
   exact w
  exact MZ (j-i) (by walk_at "o") ⟨by walk_at "o",k1⟩
 exact rG (ET o0 parts) T5
theorem U7{N g:Nat}(fs:List (Nat×Nat))(hN:2<=N)(h1:g^(N-1)%N=1%N)
  (hq:∀qe∈fs,aD qe.1/\qe.1^qe.2∣N-1/\Nat.gcd (g^((N-1)/qe.1)%N+(N-1)) N=1) (hF:N<(kj fs+1)*(kj fs+1)):aD N:=by
 refine⟨hN,fun d hd=>?_⟩
 obtain⟨e,he⟩:=id hd
 by_cases d1:d=1
 ·exact .inl d1
 by_cases e1:e=1
 ·right;rw[he,e1,Dm]
 exfalso
 have d0:d≠0:=fun z=>by rw[z,BR] at he;walk_at "o"
 have e0:e≠0:=fun z=>by rw[z,Nat.mul_zero] at he;walk_at "o"
 have b1:=KN hN hd (by walk_at "o") h1 hq
 have b2:=KN hN ⟨d,by rw[he,ye]⟩ (show 1<e by walk_at "o") h1 hq
 have:=Nat.mul_le_mul (show kj fs+1<=d from b1) (show kj fs+1<=e from b2)
 walk_at "o"
noncomputable def Nf(N g:Nat)(fs:List (Nat×Nat)):Bool:=
 decide (2<=N) && decide (N<2^140) &&(pw N 140 (N-1) g 1%N==1) && fs.all (fun qe=>((N-1)%qe.1^qe.2==0) &&(Nat.gcd (pw N 140 ((N-1)/qe.1) g 1%N+(N-1)) N==1)) && decide (N<(kj fs+1)*(kj fs+1))
theorem cQ{N:Nat}(g:Nat)(fs:List (Nat×Nat))(hp:∀qe∈fs,aD qe.1)(h:Nf N g fs=true):aD N:=by
 unfold Nf at h
 simp only[dN,decide_eq_true_eq,beq_iff_eq,rC] at h
 obtain⟨⟨⟨⟨h1,h2⟩,h3⟩,h4⟩,h5⟩:=h
 have P:∀e,e<=N-1->pw N 140 e g 1%N=g^e%N:=fun e he=>by
  rw[Me 140 e g 1 (by walk_at "o"),Dd]
 refine U7 (g:=g) fs h1 (by rw[<-P _ (aE _),h3,Nat.mod_eq_of_lt (by walk_at "o")]) (fun qe wm=>?_) h5
 obtain⟨g1,g2⟩:=h4 qe wm
 refine⟨hp qe wm,GS g1,?_⟩
 rw[<-P _ (Nat.div_le_self _ _)]
 exact g2
end PC
set_option maxRecDepth 100000
set_option maxHeartbeats 1000000
namespace PC
theorem BW:aD 2:=bN 4 (by decide) (by decide+kernel)
theorem Qm:aD 3:=bN 4 (by decide) (by decide+kernel)
theorem Si:aD 5:=bN 5 (by decide) (by decide+kernel)
theorem Ej:aD 7:=bN 5 (by decide) (by decide+kernel)
theorem Pj:aD 11:=bN 6 (by decide) (by decide+kernel)
theorem Xj:aD 101:=bN 13 (by decide) (by decide+kernel)
theorem Y3:aD 10007:=bN 103 (by decide) (by decide+kernel)
theorem OF:aD 65537:=bN 259 (by decide) (by decide+kernel)
theorem XN:aD 1000003:=bN 1003 (by decide) (by decide+kernel)
theorem Ro:aD 17:=bN 7 (by decide) (by decide+kernel)
theorem VD:aD 998244353:=cQ 3 [(17,1),(7,1),(2,23)] (fun qe h=>by
 simp only[aA,cJ,or_false] at h
 rcases h with rfl|rfl|rfl
 ·exact Ro
 ·exact Ej
 ·exact BW) (by decide+kernel)
theorem XG:aD 148721:=bN 388 (by decide) (by decide+kernel)
theorem PU:aD 500000003:=cQ 2 [(148721,1)] (fun qe h=>by
 simp only[aA,cJ,or_false] at h
 subst h;exact XG) (by decide+kernel)
theorem VA:aD 1000000007:=cQ 2 [(500000003,1)] (fun qe h=>by
 simp only[aA,cJ,or_false] at h
 subst h;exact PU) (by decide+kernel)
theorem L8:aD 331:=bN 21 (by decide) (by decide+kernel)
theorem KD:aD 151:=bN 15 (by decide) (by decide+kernel)
theorem QZ:aD 2147483647:=cQ 3 [(331,1),(151,1)] (fun qe h=>by
 simp only[aA,cJ,or_false] at h
 rcases h with rfl|rfl
 ·exact L8
 ·exact KD) (by decide+kernel)
theorem Of:aD 250049:=bN 503 (by decide) (by decide+kernel)
theorem Ph:aD 26005097:=cQ 2 [(250049,1)] (fun qe h=>by
 simp only[aA,cJ,or_false] at h
 subst h;exact Of) (by decide+kernel)
theorem RM:aD 1000000000039:=cQ 2 [(26005097,1)] (fun qe h=>by
 simp only[aA,cJ,or_false] at h
 subst h;exact Ph) (by decide+kernel)
theorem Vm:aD 234931:=bN 487 (by decide) (by decide+kernel)
theorem XF:aD 8740842787:=cQ 2 [(234931,1)] (fun qe h=>by
 simp only[aA,cJ,or_false] at h
 subst h;exact Vm) (by decide+kernel)
theorem V4:aD 52445056723:=cQ 2 [(8740842787,1)] (fun qe h=>by
 simp only[aA,cJ,or_false] at h
 subst h;exact XF) (by decide+kernel)
theorem SH:aD 1000000000000000003:=cQ 2 [(52445056723,1)] (fun qe h=>by
 simp only[aA,cJ,or_false] at h
 subst h;exact V4) (by decide+kernel)
theorem Qi:aD 15331:=bN 126 (by decide) (by decide+kernel)
theorem RQ:aD 2131:=bN 49 (by decide) (by decide+kernel)
theorem Y6:aD 5594472617641:=cQ 2 [(15331,1),(2131,1)] (fun qe h=>by
 simp only[aA,cJ,or_false] at h
 rcases h with rfl|rfl
 ·exact Qi
 ·exact RQ) (by decide+kernel)
theorem WM:aD 18446744073709551557:=cQ 2 [(5594472617641,1)] (fun qe h=>by
 simp only[aA,cJ,or_false] at h
 subst h;exact Y6) (by decide+kernel)
theorem Xa:aD 1321:=bN 39 (by decide) (by decide+kernel)
theorem X8:aD 61:=bN 10 (by decide) (by decide+kernel)
theorem WK:aD 2305843009213693951:=cQ 3 [(1321,1),(331,1),(151,1),(61,1)] (fun qe h=>by
 simp only[aA,cJ,or_false] at h
 rcases h with rfl|rfl|rfl|rfl
 ·exact Xa
 ·exact L8
 ·exact KD
 ·exact X8) (by decide+kernel)
theorem Rm:aD 8707:=bN 96 (by decide) (by decide+kernel)
theorem V9:aD 1913:=bN 46 (by decide) (by decide+kernel)
theorem P9:aD 2931542417:=cQ 3 [(8707,1),(1913,1)] (fun qe h=>by
 simp only[aA,cJ,or_false] at h
 rcases h with rfl|rfl
 ·exact Rm
 ·exact V9) (by decide+kernel)
theorem Pq:aD 2113:=bN 48 (by decide) (by decide+kernel)
theorem VU:aD 683:=bN 29 (by decide) (by decide+kernel)
theorem Xp:aD 618970019642690137449562111:=cQ 3 [(2931542417,1),(2113,1),(683,1)] (fun qe h=>by
 simp only[aA,cJ,or_false] at h
 rcases h with rfl|rfl|rfl
 ·exact P9
 ·exact Pq
 ·exact VU) (by decide+kernel)
theorem W8:aD 1097:=bN 36 (by decide) (by decide+kernel)
theorem Qd:aD 131:=bN 14 (by decide) (by decide+kernel)
theorem YM:aD 67254877:=cQ 2 [(1097,1),(131,1)] (fun qe h=>by
 simp only[aA,cJ,or_false] at h
 rcases h with rfl|rfl
 ·exact W8
 ·exact Qd) (by decide+kernel)
theorem PZ:aD 28059810762433:=cQ 3 [(67254877,1)] (fun qe h=>by
 simp only[aA,cJ,or_false] at h
 subst h;exact YM) (by decide+kernel)
theorem WQ:aD 53:=bN 10 (by decide) (by decide+kernel)
theorem P4:aD 37:=bN 9 (by decide) (by decide+kernel)
theorem RS:aD 13:=bN 6 (by decide) (by decide+kernel)
theorem Vf:aD 20394401:=cQ 3 [(53,1),(37,1),(13,1)] (fun qe h=>by
 simp only[aA,cJ,or_false] at h
 rcases h with rfl|rfl|rfl
 ·exact WQ
 ·exact P4
 ·exact RS) (by decide+kernel)
theorem N1:aD 162259276829213363391578010288127:=cQ 3 [(28059810762433,1),(20394401,1)] (fun qe h=>by
 simp only[aA,cJ,or_false] at h
 rcases h with rfl|rfl
 ·exact PZ
 ·exact Vf) (by decide+kernel)
theorem Qt:aD 699053:=bN 839 (by decide) (by decide+kernel)
theorem To:aD 77158673929:=cQ 3 [(699053,1)] (fun qe h=>by
 simp only[aA,cJ,or_false] at h
 subst h;exact Qt) (by decide+kernel)
theorem VP:aD 649657:=bN 809 (by decide) (by decide+kernel)
theorem Q4:aD 92737:=bN 307 (by decide) (by decide+kernel)
theorem Sh:aD 170141183460469231731687303715884105727:=cQ 3 [(77158673929,1),(649657,1),(92737,1)] (fun qe h=>by
 simp only[aA,cJ,or_false] at h
 rcases h with rfl|rfl|rfl
 ·exact To
 ·exact VP
 ·exact Q4) (by decide+kernel)
theorem QF:aD 7963:=bN 92 (by decide) (by decide+kernel)
theorem Yo:aD 3011:=bN 57 (by decide) (by decide+kernel)
theorem RY:aD 575438233:=cQ 2 [(7963,1),(3011,1)] (fun qe h=>by
 simp only[aA,cJ,or_false] at h
 rcases h with rfl|rfl
 ·exact QF
 ·exact Yo) (by decide+kernel)
theorem WR:aD 52316542391429:=cQ 2 [(575438233,1)] (fun qe h=>by
 simp only[aA,cJ,or_false] at h
 subst h;exact RY) (by decide+kernel)
theorem Uw:aD 104633084782859:=cQ 2 [(52316542391429,1)] (fun qe h=>by
 simp only[aA,cJ,or_false] at h
 subst h;exact WR) (by decide+kernel)
theorem S9:aD 179:=bN 16 (by decide) (by decide+kernel)
theorem UE:aD 31:=bN 8 (by decide) (by decide+kernel)
theorem Vn:aD 7935071:=cQ 2 [(179,1),(31,1)] (fun qe h=>by
 simp only[aA,cJ,or_false] at h
 rcases h with rfl|rfl
 ·exact S9
 ·exact UE) (by decide+kernel)
theorem Ve:aD 15870143:=cQ 2 [(7935071,1)] (fun qe h=>by
 simp only[aA,cJ,or_false] at h
 subst h;exact Vn) (by decide+kernel)
theorem RJ:aD 401321030361983486780957614729:=cQ 2 [(104633084782859,1),(15870143,1)] (fun qe h=>by
 simp only[aA,cJ,or_false] at h
 rcases h with rfl|rfl
 ·exact Uw
 ·exact Ve) (by decide+kernel)
theorem Va:aD 1000000000000000000000000000000000000003:=cQ 2 [(401321030361983486780957614729,1)] (fun qe h=>by
 simp only[aA,cJ,or_false] at h
 subst h;exact RJ) (by decide+kernel)
theorem UR:aD 25733:=bN 163 (by decide) (by decide+kernel)
theorem Q6:aD 1151:=bN 36 (by decide) (by decide+kernel)
theorem Q9:aD 4916701379:=cQ 2 [(25733,1),(1151,1)] (fun qe h=>by
 simp only[aA,cJ,or_false] at h
 rcases h with rfl|rfl
 ·exact UR
 ·exact Q6) (by decide+kernel)
theorem Y0:aD 83:=bN 12 (by decide) (by decide+kernel)
theorem UP:aD 23:=bN 7 (by decide) (by decide+kernel)
theorem UG:aD 1676254721:=cQ 5 [(83,1),(23,1),(7,3)] (fun qe h=>by
 simp only[aA,cJ,or_false] at h
 rcases h with rfl|rfl|rfl
 ·exact Y0
 ·exact UP
 ·exact Ej) (by decide+kernel)
theorem Rf:aD 149927568276670622397029177:=cQ 2 [(4916701379,1),(1676254721,1)] (fun qe h=>by
 simp only[aA,cJ,or_false] at h
 rcases h with rfl|rfl
 ·exact Q9
 ·exact UG) (by decide+kernel)
theorem Q0:aD 9999999999999999999999999999999999999983:=cQ 2 [(149927568276670622397029177,1)] (fun qe h=>by
 simp only[aA,cJ,or_false] at h
 subst h;exact Rf) (by decide+kernel)
end PC
namespace L2
open PC
noncomputable def kP(p:Int):Prop:=2<=p/\∀d:Int,0<d->d∣p->d=1\/d=p
theorem eu{n:Nat}(h:aD n):kP (n:Int):=by
 refine⟨by have:=h.1;walk_at "o",fun d d0 hd=>?_⟩
 obtain⟨k,rfl⟩:=Ka (Int.le_of_lt d0)
 rcases h.2 k (Int.natCast_dvd_natCast.mp hd) with e|e
 ·left;rw[e];rfl
 ·right;rw[e]
theorem Uc{p:Int}(h2:2<=p)(h:wG p):kP p:=by
 obtain⟨n,rfl⟩:=Ka (show 0<=p by walk_at "o")
 refine eu (Nc (by walk_at "o") fun e e1 e2 e3=>?_)
 refine h (e:Int) (by walk_at "o") (by rw[<-Int.natCast_mul];exact Int.ofNat_le.mpr e2) ?_
 have:=congrArg (Nat.cast:Nat->Int) e3
 simpa using this
theorem PV:∀p∈xq,kP p:=by
 intro p hp
 simp only[xq,aA,cJ,or_false] at hp
 rcases hp with rfl|rfl|rfl|rfl|rfl|rfl|rfl|rfl|rfl|rfl|rfl|rfl|rfl|rfl|rfl|rfl|rfl|rfl|rfl|rfl|rfl|rfl
 ·exact eu BW
 ·exact eu Qm
 ·exact eu Si
 ·exact eu Ej
 ·exact eu BW
 ·exact eu Pj
 ·exact eu Xj
 ·exact eu Y3
 ·exact eu OF
 ·exact eu XN
 ·exact eu VD
 ·exact eu VA
 ·exact eu QZ
 ·exact eu RM
 ·exact eu SH
 ·exact eu WM
 ·exact eu WK
 ·exact eu Xp
 ·exact eu N1
 ·exact eu Sh
 ·exact eu Va
 ·exact eu Q0
end L2
set_option maxRecDepth 100000
set_option maxHeartbeats 4000000
set_option maxRecDepth 100000
set_option maxHeartbeats 4000000
set_option maxRecDepth 100000
set_option maxHeartbeats 4000000
set_option maxRecDepth 100000
set_option maxHeartbeats 4000000
namespace L2
open PySem PySem.Spec PyProof.Rows
section
variable{G:Gx}{ρ:Rh}{Φ:Pd}{te:TE}{t:TA}{i n:Nat}{f:Bool}{ds:List PyData}{Θ:List PyData->Prop}
theorem Ev.tupS(h:Av G ρ t fun es=>es.length<=10000/\Φ (iH es||fF (es.map (·.2))) (.tuple (es.map (·.2)))):Ev G ρ (sC t) Φ:=fun nb σ H Q W z=>
 h nb σ H _ W fun es vs H1 ⟨hl,p⟩ s1 q1=>⟨dw (by rw[q1.len];exact hl) (by decide),fun a ha=>z _ _ _ _ p (s1.trans (.same (W.step s1).ao (cE ha))) (by
  cases hs:fF (es.map (·.2)) with
  |true=>rw[uE];exact .tup ((W.step s1).fresh ha) aQ ((q1.all (f:=false) fun z=>by cases z).jE hs)
  |false=>rw[oH];exact .tup ((W.step s1).fresh ha) aQ ((q1.all fun z=>z).keep (aM.of (cE ha))))⟩
theorem Ev.NW(h:Ev G ρ te fun _ x=>∃n:Int,x= .int n/\2<=n/\n<=10002/\∀r:Int,kP r->r<10^40->Φ true (.int r)):Ev G ρ (fq Cq [] E0 (aL te aX)) Φ:=fun nb σ H Q W z=>
 h nb σ H _ W fun f v H1 d ⟨n,e,h1,h2,p⟩ s1 hv=>by
  subst e
  exact⟨n,by rw[hv.cS];rfl,h1,h2,fun r H' sm r1 r2 r3=>z true _ H' _ (p r (Uc r1 r3) (by walk_at "o")) (s1.trans (.same (W.step s1).ao sm)) (.int r)⟩
theorem Ev.str{x:Str}(h:Φ true (.str x)):Ev G ρ (tC (.str x)) Φ:=fun nb σ H Q W z=>z true _ H _ h (.refl W.ao) (by unfold af;rfl)
end
noncomputable def sol(p b a:Int):Int:=open Classical in if h:∃x,0<=x/\x<p/\∃k,b*x-a=p*k then Classical.choose h else 0
noncomputable def N7(wd:Wo)(prs:bY):bY:=prs.filter fun pr=>wd[pr.1.toNat]?==some none
noncomputable def YH(p:Int)(prs:bY)(rest:Int)(wd:Wo):Option (Int×Int):=match N7 wd prs with
 |[pr]=>some (pr.1,sol p pr.2 (rest-q9 prs wd%p))
 |_=>none
theorem zI{X:Cx}{K:PySem.W.Frag}{tg l:Expr}{tl:TE}(hK:X.K=K)(hl:PE X l tl):PI X tg l (vc K tl):=by subst hK;exact V0 hl
end L2
set_option maxRecDepth 100000
set_option maxHeartbeats 4000000
namespace L2
open PySem PySem.Spec PyProof.Rows
section
variable{G:Gx}{ρ:Rh}{Φ:Pd}{ta tb te:TE}{E:DE}{K:PySem.W.Frag}
theorem Ev.Z9{tl th:TO}(h:Ev G ρ te fun f x=>∃ds,x= .tuple ds/\Ov G ρ tl fun lo=>Ov G ρ th fun hi=>¬(HT.eO ds.length 0 lo=0/\HT.eO ds.length ds.length hi=ds.length)/\Φ f (.tuple (AD ds lo hi))):Ev G ρ (BZ (X7 K) te tl th) Φ:=fun nb σ H Q W z=>
 h nb σ H _ W fun f v H1 d ⟨ds,e,q⟩ s1 hv=>q nb σ H1 _ (W.step s1) fun lo H2 q2 s2=>q2 nb σ H2 _ ((W.step s1).step s2) fun hi H3 ⟨hn,q3⟩ s3=>by
  subst e
  obtain⟨a,xs,rfl,n,hx,hd⟩:=((hv.keep s2.fG).keep s3.fG).ofT
  have W3:=((W.step s1).step s2).step s3
  refine⟨a,xs,rfl, .of hx,by rw[hd.length];exact hn,fun p hp=>?_⟩
  exact z f _ _ _ q3 (s1.trans (s2.trans (s3.trans (.same W3.ao (cE hp))))) (.tup (W3.fresh hp) aQ (hd.cut.keep (aM.of (cE hp))))
theorem Ev.aak(h:Ev G ρ ta fun f x=>∃ds,x= .tuple ds/\ds≠[]/\Ev G ρ tb fun g y=>∃es,y= .tuple es/\es≠[]/\ds.length+es.length<=10000/\Φ (f && g) (.tuple (ds++es))):Ev G ρ (cG (N6 K) ta tb) Φ:=fun nb σ H Q W z=>
 h nb σ H _ W fun f v H1 d ⟨ds,e,hne,q⟩ s1 hv=>q nb σ H1 _ (W.step s1) fun g u H2 d2 ⟨es,e2,Ws,hl,p⟩ s2 hu=>by
  subst e e2
  obtain⟨a,xs,rfl,n,hx,hd⟩:=(hv.keep s2.fG).ofT
  obtain⟨c,ys,rfl,m,hy,hc⟩:=hu.ofT
  have W2:=(W.step s1).step s2
  have G8:=hd.length
  have hyl:=hc.length
  refine⟨a,c,xs,ys,rfl,rfl, .of hx, .of hy,fun z=>hne (pH.mp (by rw[<-G8,z];rfl)),dw (by rw[G8,hyl];exact hl) (by decide),fun z=>absurd (pH.mp (by rw[<-hyl,z];rfl)) Ws,fun _ q hq=>?_⟩
  refine z (f && g) _ _ _ p (s1.trans (s2.trans (.same W2.ao (cE hq)))) (.tup (W2.fresh hq) aQ ?_)
  exact(ah.append (hd.av (bX (fun z=>(dN _ _▸z).1) fun _ z=>z)) (hc.av (bX (fun z=>(dN _ _▸z).2) fun _ z=>z))).keep (aM.of (cE hq))
end
end L2
set_option maxRecDepth 100000
set_option maxHeartbeats 4000000
namespace L2
open PySem PySem.Spec PyProof.Rows
noncomputable def xP(es:List Fd):Bool:=es.all fun e=>e.1||gH e.2
section
variable{G:Gx}{ρ:Rh}{Φ:Pd}{t:TA}{te:TE}
theorem jw.HV{nb:Addr->Prop}{H:Hp}:∀{es:List Fd} {vs:List V} {f:Bool},jw G nb H es vs->(f=true->xP es=true)->ah (G.S nb f) H (es.map (·.2)) vs
  |[],_,_,h,_=>by unfold jw at h;subst h;exact .nil
  | e :: es, _, f, h, hf => by
    obtain⟨v,ws,rfl,h1,h2⟩:=h
    have hh:f=true->(e.1||gH e.2)=true/\xP es=true:=fun z=>by
      have:=hf z
      unfold xP at this
      rw[ny,dN] at this
      exact this
    refine .cons ?_ (h2.HV fun z=>(hh z).2)
    cases hs:gH e.2 with
    |true=>exact h1.jE hs
    |false=>exact h1.av (bX (fun z=>by have:=(hh z).1;rw[hs,oH] at this;exact this) fun _ z=>z)
theorem Ev.QO(h:Av G ρ t fun es=>es.length<=10000/\Φ (xP es) (.tuple (es.map (·.2)))):Ev G ρ (sC t) Φ:=fun nb σ H Q W z=>
 h nb σ H _ W fun es vs H1 ⟨hl,p⟩ s1 q1=>⟨dw (by rw[q1.len];exact hl) (by decide),fun a ha=>z _ _ _ _ p (s1.trans (.same (W.step s1).ao (cE ha)))
  (.tup ((W.step s1).fresh ha) aQ ((q1.HV fun z=>z).keep (aM.of (cE ha))))⟩
end
noncomputable def Wb:R2:=fun x y H Q=>∃a b:Bool,x= .bl a/\y= .bl b/\Q (.bl (!(a==b))) H
theorem Ev.aaf{G:Gx}{ρ:Rh}{ta:TE}{b:Bool}{Φ:Pd}(h:Ev G ρ ta fun _ x=>∃a,x= .bool a/\Φ true (.bool (!(a==b)))):Ev G ρ (cG Wb ta (tC (.bl b))) Φ:=fun nb σ H Q W z=>
 h nb σ H _ W fun f v H1 d ⟨a,e,q⟩ s1 hv=>by
  subst e
  unfold af at hv
  subst hv
  exact⟨a,b,rfl,rfl,z true _ H1 _ q s1 (.bl _)⟩
noncomputable abbrev mP(r:List Int):PyData:= .list (r.map .int)
end L2
set_option maxRecDepth 100000
set_option maxHeartbeats 4000000
set_option maxRecDepth 100000
namespace L2
open PySem PySem.Spec PyProof.Rows
section
variable{κ:Type}[DecidableEq κ]
noncomputable def gE(kvs:List (κ×V))(k:κ):Option V:=(kvs.find? fun kv=>decide (kv.1=k)).map (·.2)
noncomputable def putK(kvs:List (κ×V))(k:κ)(v:V):List (κ×V):=
 if(kvs.any fun kv=>decide (kv.1=k))=true then kvs.map (fun kv=>if kv.1=k then(kv.1,v) else kv) else kvs++[(k,v)]
noncomputable def mO(kvs:List (κ×V))(k:κ):List (κ×V):=kvs.filter fun kv=>decide (kv.1≠k)
theorem N2{k:κ}:gE ([]:List (κ×V)) k=none:=rfl
theorem zA{p:κ×V}{r:List (κ×V)}{k:κ}(e:p.1=k):gE (p::r) k=some p.2:=by simp[gE,nL,e]
theorem zD{p:κ×V}{r:List (κ×V)}{k:κ}(e:¬p.1=k):gE (p::r) k=gE r k:=by simp[gE,nL,e]
theorem C3(k:κ):∀kvs:List (κ×V),(kvs.any fun kv=>decide (kv.1=k))=(gE kvs k).isSome
  |[]=>rfl
  | p :: r => by
    rw[mq]
    by_cases e:p.1=k
    · simp only[zA e,decide_eq_true e,DK,Option.isSome_some]
    · rw[zD e,decide_eq_false e,nZ];exact C3 k r
theorem VJ(kvs:List (κ×V))(k:κ)(v:V):(putK kvs k v).length<=kvs.length+1:=by
 unfold putK
 split
 ·rw[ay];walk_at "o"
 ·rw[fu,bw,D9];walk_at "o"
theorem iI.C1{o:Option V}{u:Option Value}(r:iI o u):o.isSome=u.isSome:=by
  cases o with
  | none => cases u with
    |none=>rfl
    |some _=>exact(show False from r).elim
  | some _ => cases u with
    |none=>exact(show False from r).elim
    |some _=>rfl
theorem KV.val{kvs:List (κ×V)}{vs:List (κ×Value)}(r:KV kvs vs)(k:κ):iI (gE kvs k) (valueAt vs k):=by
  unfold KV at r
  induction r with
  |nil=>exact True.intro
  | @cons p q ps qs h t ih =>
    obtain⟨h1,h2⟩:=h
    by_cases e:p.1=k
    · have e':q.1=k:=h1.symm.trans e
      have b:valueAt (q::qs) k=some q.2:=by simp[valueAt,nL,e']
      rw[zA e,b];exact h2
    · have e':¬q.1=k:=fun z=>e (h1.trans z)
      have b:valueAt (q::qs) k=valueAt qs k:=by simp[valueAt,nL,e']
      rw[zD e,b];exact ih
theorem KV.any{kvs:List (κ×V)}{vs:List (κ×Value)}(r:KV kvs vs)(k:κ):(kvs.any fun kv=>decide (kv.1=k))=vs.any fun kv=>decide (kv.1=k):=by
 unfold KV at r
 induction r with
 |nil=>rfl
 |cons h t ih=>rw[mq,mq,ih,h.1]
theorem KV.repl{kvs:List (κ×V)}{vs:List (κ×Value)}(r:KV kvs vs)(k:κ){y:V}{u:Value}(ry:RelV y u):
    KV (kvs.map fun kv=>if kv.1=k then(kv.1,y) else kv) (vs.map fun kv=>if kv.1=k then(kv.1,u) else kv):=by
  unfold KV at r⊢
  induction r with
  |nil=>exact .nil
  | @cons p q ps qs h t ih =>
    rw[bx,bx]
    refine .cons ?_ ih
    obtain⟨h1,h2⟩:=h
    by_cases e:p.1=k
    · rw[if_pos e,if_pos (h1.symm.trans e)];exact⟨h1,ry⟩
    · rw[if_neg e,if_neg (fun z=>e (h1.trans z))];exact⟨h1,h2⟩
theorem KV.put{kvs:List (κ×V)}{vs:List (κ×Value)}(r:KV kvs vs)(k:κ){y:V}{u:Value}(ry:RelV y u):KV (putK kvs k y) (stored vs k u):=by
 unfold putK stored
 rw[r.any k]
 by_cases e:(vs.any fun kv=>decide (kv.1=k))=true
 ·rw[if_pos e,if_pos e];exact r.repl k ry
 ·rw[if_neg e,if_neg e];exact Paired.snoc r ⟨rfl,ry⟩
theorem KV.drop{kvs:List (κ×V)}{vs:List (κ×Value)}(r:KV kvs vs)(k:κ):KV (mO kvs k) (without vs k):=by
  unfold KV at r⊢
  unfold mO without
  induction r with
  |nil=>exact .nil
  | @cons p q ps qs h t ih =>
    obtain⟨h1,h2⟩:=h
    rw[uY,uY]
    by_cases e:p.1=k
    · have a:¬decide (p.1≠k)=true:=by simp[e]
      have b:¬decide (q.1≠k)=true:=by simp[h1.symm.trans e]
      rw[if_neg a,if_neg b];exact ih
    · have e':¬q.1=k:=fun z=>e (h1.trans z)
      have a:decide (p.1≠k)=true:=by simp[e]
      have b:decide (q.1≠k)=true:=by simp[e']
      rw[if_pos a,if_pos b];exact .cons ⟨h1,h2⟩ ih
theorem KV.keys{kvs:List (κ×V)}{vs:List (κ×Value)}(r:KV kvs vs):kvs.map (·.1)=vs.map (·.1):=by
 unfold KV at r
 induction r with
 |nil=>rfl
 |cons h t ih=>rw[bx,bx,ih,h.1]
theorem KV.length{kvs:List (κ×V)}{vs:List (κ×Value)}(r:KV kvs vs):kvs.length=vs.length:=Paired.length r
theorem J0(kvs:List (κ×V))(k:κ):(mO kvs k).length<=kvs.length:=vR _ _
end
theorem sV{P:Program}{w:World}{k:Key}{u:Value}(r:RelV (kV k) u):(g9 P w).is k u=true:=by
 cases k with
 |inl i=>obtain⟨t,e⟩:=(show∃t,u=Value.int i t from r);subst e;exact QB P w i t
 |inr x=>obtain⟨t,e⟩:=(show∃t,u=Value.str x t from r);subst e;exact W9 P w x t
theorem Kr{P:Program}{w:World}:∀{ks:List Key} {us:List Value},Vals (ks.map kV) us->ItemsAre (g9 P w) ks us
  |[],_,r=>by rw[vX] at r;cases r;exact .nil
  | k :: ks, _, r => by
    rw[bx] at r
    cases r with
    |cons h t=>exact .cons (sV h) (Kr t)
noncomputable abbrev KT(H:Hp):List (List Key×V)->List (List Key×Addr×Value)->Prop:=Paired fun p q=>p.1=q.1/\H q.2.1=some (.tup (p.1.map kV))/\RelV p.2 q.2.2
theorem KT.val{H:Hp}{kvs:List (List Key×V)}{xs:List (List Key×Addr×Value)}(r:KT H kvs xs)(k:List Key):iI (gE kvs k) ((atKey xs k).map (·.2)):=by
  induction r with
  |nil=>exact True.intro
  | @cons p q ps qs h t ih =>
    obtain⟨h1,_,h2⟩:=h
    by_cases e:p.1=k
    · have e':q.1=k:=h1.symm.trans e
      have b:atKey (q::qs) k=some q.2:=by simp[atKey,nL,e']
      rw[zA e,b];exact h2
    · have e':¬q.1=k:=fun z=>e (h1.trans z)
      have b:atKey (q::qs) k=atKey qs k:=by simp[atKey,nL,e']
      rw[zD e,b];exact ih
section
variable{P:Program}{w:World}{H:Hp}{h:Heap}{a:Addr}
theorem NU{u:HO}(ok:bU P w H h)(e:Rd H a u):bP P w H h a u:=e.ok ok
theorem Cp{kvs:List (Key×V)}(ok:bU P w H h)(e:Rd H a (.dK kvs)):kvs.length<=sizeLine/\(a==sysModules)=false/\∃vs,KV kvs vs/\h.DictOf (g9 P w) a vs:=
 show bP P w H h a (.dK kvs) from NU ok e
theorem DY{kvs:List (Key×V)}(ok:bU P w H h)(e:H a=some (.dK kvs)):kvs.length<=sizeLine/\(a==sysModules)=false/\∃vs,KV kvs vs/\h.DictOf (g9 P w) a vs:=Cp ok (.inl e)
theorem FO{ks:List Key}(ok:bU P w H h)(e:H a=some (.tup (ks.map kV))):(tupleKind (g9 P w)).is h ks a:=by
 obtain⟨_,its,r,o,h1,h2,n,h3⟩:=(show bP P w H h a (.tup (ks.map kV)) from ok a _ e)
 exact⟨o,its.toArray,n,h1,h2,h3,by simpa using Kr r⟩
theorem Ox{kvs:List (List Key×V)}(ok:bU P w H h)(e:Rd H a (.dT kvs)):kvs.length<=sizeLine/\(a==sysModules)=false/\
    ∃xs,KT H kvs xs/\h.DictOfH (tupleKind (g9 P w)) a xs:=by
  obtain⟨z,y,xs,r,o,es,ep,h1,h2,h3,h4,h5⟩:=(show bP P w H h a (.dT kvs) from NU ok e)
  refine⟨z,y,xs,r,o,es,ep,h1,h2,h3,h4,fun x hx=>?_,h5⟩
  have all:∀{l:List (List Key×V)} {m:List (List Key×Addr×Value)},KT H l m->∀x∈m,(tupleKind (g9 P w)).is h x.1 x.2.1:=by
    intro l m q
    induction q with
    |nil=>intro x hx;exact nomatch hx
    | @cons p q ps qs hq t ih =>
      intro x hx
      rcases aA.mp hx with e|hx
      · subst e
        exact FO ok (by rw[<-hq.1];exact hq.2.1)
      · exact ih x hx
  exact all r x hx
end
noncomputable def vd(H:Hp)(a:Addr)(y:V)(r:Option V):Prop:=
 (∃kvs k,Rd H a (.dK kvs)/\y=kV k/\r=gE kvs k)\/∃kvs k b,Rd H a (.dT kvs)/\y= .ref b/\H b=some (.tup (k.map kV))/\r=gE kvs k
theorem vd.k{H:Hp}{a:Addr}{kvs:List (Key×V)}{k:Key}(e:H a=some (.dK kvs)):vd H a (kV k) (gE kvs k):= .inl ⟨kvs,k, .inl e,rfl,rfl⟩
section
variable{X:Cx}{pins:List (Addr×Obj)}{σ:St}{H:Hp}{s:Shared}{a:Addr}{y v:V}{u r:Value}{o:Option V}{A:Around}{E:Value->Shared->Prop}
theorem Inv.big(I:Inv X pins σ H s):sysModules<s.heap.objs.size:=by
 have h:mainGlobals<s.heap.objs.size:=(I.mod.glob.keeps I.bk).lt
 exact t7 (by decide) h
theorem XA{Q:Value->Shared->Prop}(hu:A.units+1<cLine)(I:Inv X pins σ H s)(g:vd H a y o)(ry:RelV y u)(h:∀s',Inv X pins σ H s'->Q (.bool o.isSome) s'):
  wpAny (model X.prog X.w) A (compareOp .In u (.ref a)) Q E s:=by
 rcases g with ⟨kvs,k,e,ey,l⟩|⟨kvs,k,b,e,ey,eb,l⟩
 ·subst ey
  obtain⟨z,hd,vs,rel,dd⟩:=Cp I.hok e
  refine wpAny_in_of (sV ry) hd dd.mapOf ?_
  rw[<-(rel.val k).C1,<-l]
  exact h _ (I.tok _)
 ·subst ey
  cases (show u=Value.ref b from ry)
  obtain⟨z,hd,xs,rel,dd⟩:=Ox I.hok e
  refine wpAny_in_heap (tupleKind_room_in1 hu) (FO I.hok eb) hd dd ?_
  have q:=(rel.val k).C1
  rw[Option.isSome_map] at q
  rw[<-q,<-l]
  exact h _ (I.tok _)
theorem Cf{h':Heap}{t':Nat}{ob:HO}(I:Inv X pins σ H s)(mu:tB (H a))(hs:Heap.SameBut a s.heap h')(he:∃q,h'.get? a=some q)(new:bP X.prog X.w (upd H a ob) h' a ob):
  Inv X pins σ (upd H a ob) {s with heap:=h',toks:=t'}:=
 I.write (x:=a) (e:=a) mu (.inl rfl) (fun b q hb z=>(hs.2 b hb).trans z) he new
theorem ER{P:Program}{w:World}{H':Hp}{h':Heap}{kvs:List (Key×V)}{vs:List (Key×Value)}(z:kvs.length<=sizeLine)(hd:(a==sysModules)=false)(rel:KV kvs vs)(dd:h'.DictOf (g9 P w) a vs):
  bP P w H' h' a (.dK kvs):=⟨z,hd,vs,rel,dd⟩
end
section
variable{X:Cx}{pins:List (Addr×Obj)}{σ:St}{H:Hp}{s:Shared}{a:Addr}{kvs:List (Key×V)}{k:Key}{u:Value}{A:Around}{E:Value->Shared->Prop}
theorem ZK{Q:Unit->Shared->Prop}(I:Inv X pins σ H s)(e:H a=some (.dK kvs))(ry:RelV (kV k) u)(l:(gE kvs k).isSome=true)(h:∀s',Inv X pins σ (upd H a (.dK (mO kvs k))) s'->Q () s'):
  wpAny (model X.prog X.w) A (delItem (.ref a) u) Q E s:=by
 obtain⟨z,hd,vs,rel,dd⟩:=DY I.hok e
 refine wpAny_delItem_slot dd.typeIs (by decide) Hu
  (call_meetsIn Hu dd.typeIs PySem.F.entry_dict_delitem (PySem.F.args_dict_delitem_2 _ _) (meets_dict_delitem_pairs (g9 X.prog X.w) a (sV ry)) ⟨vs,dd,by rw[<-rel.length];exact z,by rw[<-(rel.val k).C1];exact l,fun h' jH hs=>h _ ?_⟩)
 have he:∃q,h'.get? a=some q:=let ⟨q,_,_,hq,_⟩:=jH;⟨q,hq⟩
 exact Cf I (by rw[e];exact True.intro) hs he (ER (dw (J0 kvs k) z) hd (rel.drop k) jH)
theorem Q3{v:V}{more:List Value}{Q:Value->Shared->Prop}(I:Inv X pins σ H s)(e:H a=some (.dK kvs))(ry:RelV (kV k) u)(l:gE kvs k=some v)(hm:more=[]\/∃x,more=[x])
  (h:∀w' s',Inv X pins σ (upd H a (.dK (mO kvs k))) s'->RelV v w'->Q w' s'):wpAny (model X.prog X.w) A (call (.builtin "dict.pop") (.ref a::u::more)) Q E s:=by
 obtain⟨z,hd,vs,rel,dd⟩:=DY I.hok e
 obtain⟨w',hw,rw'⟩:=iI.some_of (v:=v) (o:=valueAt vs k) (by rw[<-l];exact rel.val k)
 have hp:(keyPart u).isSome=true:=by
  cases k with
  |inl i=>obtain⟨t,q⟩:=(show∃t,u=Value.int i t from ry);subst q;rfl
  |inr x=>obtain⟨t,q⟩:=(show∃t,u=Value.str x t from ry);subst q;rfl
 have ha:argsOk "dict.pop" ⟨.ref a::u::more,[]⟩:=by
  rcases hm with q|⟨x,q⟩
  ·subst q;exact PySem.F.args_dict_pop_2 _ _
  ·subst q;exact PySem.F.args_dict_pop_3 _ _ _
 refine call_meetsIn Eb dd.typeIs PySem.F.entry_dict_pop ha (meets_dict_pop_there (g9 X.prog X.w) a (sV ry) more hm hp)
  ⟨vs,w',dd,by rw[<-rel.length];exact z,hw,fun h' jH hs=>h w' _ ?_ rw'⟩
 have he:∃q,h'.get? a=some q:=let ⟨q,_,_,hq,_⟩:=jH;⟨q,hq⟩
 exact Cf I (by rw[e];exact True.intro) hs he (ER (dw (J0 kvs k) z) hd (rel.drop k) jH)
end
theorem Q8{P:Program}{w:World}{H:Hp}(h:Heap)(hb:sysModules<h.objs.size):bP P w H (h.push {cls:= .type "dict",data:= .dict #[]}) h.objs.size (.dK []):=
 ⟨eU _,beq_eq_false_iff_ne.mpr (cR (cX hb)),[], .nil,Heap.DictOf.new h⟩
noncomputable def Jz:TE:=fun _ H Q=>∀p,H p=none->Q (.ref p) (upd H p (.dK []))
section
variable{X:Cx}{pos:Pos}
theorem Gm:PE X (.Dict [] [] pos) Jz:=fun pins s σ H Q I h=>
 wpAny_Dict_empty ⟨.ref s.heap.objs.size,_,I.laid (a:=s.heap.objs.size) (o:= .dK []) (t':=s.toks) (fun _ _ q=>cz _ q) (aE _) (Q8 s.heap I.big),rfl,h _ (I.hok.fresh (aE _))⟩
end
end L2
/-THE LAST THEOREM (shape;LID,My.*are yours):
   My.Adr:a structure of the addresses that your layer names (classes,functions);My.Txt K t:a structure (Prop) of the equations over K;
   My.txt_mk:{K} {implicit addresses ..} (e1:nsIn K mainGlobals "law"=some (some (.ref f))) (e2:K.lookup f=some ⟨oc,od, .func (fnOf "law" "law" params body scope dV kV doc pm an cdv ct),sl⟩) (e3:codeIn K cdv "law"=true) .. :∃t,My.Txt K t
set_option maxRecDepth 100000 in
set_option maxHeartbeats 0 in
(the tactic k_is has no namespace:write k_is)-/
set_option maxRecDepth 100000
set_option maxHeartbeats 4000000
namespace L2
open PySem PySem.Spec PyProof.Rows
section
variable{X:Cx}
noncomputable def LA:V->V->V->Hp->(Hp->Prop)->Prop:=fun o i v H Q=>∃a kvs k,o= .ref a/\i=kV k/\H a=some (.dK kvs)/\kvs.length<sizeLine/\Q (upd H a (.dK (putK kvs k v)))
theorem set_dict:E9 X LA:=by
 intro pins s σ H o i v ov iv u Q I ro ri rv h
 obtain⟨a,kvs,k,rfl,rfl,hH,Zz,q⟩:=h
 cases ro
 obtain⟨z,hd,vs,rel,dd⟩:=DY I.hok hH
 have hz:vs.length<=sizeLine:=by rw[<-rel.length];exact z
 have hl:(putK kvs k v).length<=sizeLine:=by have:=VJ kvs k v;walk_at "o"
 refine wpAny_setItem_pairs (hsz:=hz) (sV ri) dd fun h' jH hs=>?_
 have he:∃q,h'.get? a=some q:=let ⟨q,_,_,hq,_⟩:=jH;⟨q,hq⟩
 exact⟨_,Cf I (by rw[hH];exact True.intro) hs he (ER hl hd (rel.put k rv) jH),q⟩
end
end L2
set_option maxRecDepth 100000
set_option maxHeartbeats 4000000
set_option maxRecDepth 100000
set_option maxHeartbeats 4000000
namespace L2
noncomputable abbrev Cn:=List (Int×Int)
structure M6(cs:Cn):Prop where
 l9:∀c∈cs,0<=c.1/\c.1<=12/\0<=c.2/\c.2<=10^7
 nd:(cs.map (·.1)).Nodup
 len:cs.length<=14
 pos:∃c∈cs,0<c.1/\0<c.2
noncomputable def Nz:Cn->Rat->Rat
 |[],_=>0
 |c::r,v=>(if 0<c.1 then((c.1*c.2:Int):Rat)*v^(c.1.toNat-1) else 0)+Nz r v
noncomputable def Lw:Cn->Int
 |[]=>0
 |c::r=>c.1*c.2+Lw r
noncomputable def LF(cs:Cn)(v:Rat):Rat:=Nz cs v/(Lw cs:Int)
noncomputable def Vb(l c:Cn)(s v:Rat):Rat:=s*LF l (1-LF c (1-v))
section
variable{l c:Cn}{s:Rat}(hl:M6 l)(hc:M6 c)(s0:0<=s)
include hl hc s0
end
noncomputable def Js(x:Rat):Int:= -((-x).floor)
end L2
namespace L2
structure Gw where
 l:Cn
 c:Cn
 s:Rat
 u:Int
noncomputable def Gw.gr(g:Gw)(x:Int):Rat:=Vb g.l g.c g.s ((x:Rat)/g.u)*g.u
noncomputable def Gw.lo(g:Gw):Nat->Int
 |0=>(g.s*g.u).floor
 |k+1=>(g.gr (g.lo k)).floor
noncomputable def Gw.hi(g:Gw):Nat->Int
 |0=>Js (g.s*g.u)
 |k+1=>Js (g.gr (g.hi k))
end L2
set_option maxRecDepth 100000
set_option maxHeartbeats 4000000
namespace L2
open PySem PySem.Spec PyProof.Rows
@[reducible] noncomputable def ZR(g:Gw)(k:Nat):PyData:= .tuple [.int (g.lo k), .int (g.hi k)]
@[reducible] noncomputable def aai(n:Nat):PyData:= .tuple [.str "falls", .int n]
@[reducible] noncomputable def Zw(x:Int):PyData:= .tuple [.str "stays", .int x]
@[reducible] noncomputable def ZU:PyData:= .tuple [.str "open"]
noncomputable def SJ(K:PySem.W.Frag)(n:Nat)(t:jh):TG:=fun v σ H Q=>∃a xs,v= .ref a/\aS K H a xs/\xs.length=n/\t xs σ H Q
theorem Gv.lst{G:Gx}{ρ:Rh}{f:Bool}{ds:List PyData}{K:PySem.W.Frag}{Θ:Rh->Prop}{n:Nat}{u:jh}(hl:ds.length=n)(h:uL G ρ u f ds Θ):Gv G ρ (SJ K n u) f (.list ds) Θ:=fun nb σ H v Q W hv z=>by
 obtain⟨a,xs,rfl,m,hx,hd⟩:=hv.gF
 exact⟨a,xs,rfl, .of hx,by rw[hd.length];exact hl,h nb σ H xs Q W hd z⟩
end L2
set_option maxRecDepth 100000
set_option maxHeartbeats 4000000
namespace L2
open PySem PySem.Spec PyProof.Rows PySem.W
section
variable{n:Nat}{cmp:Nat->Nat->(Bool->Shared->Prop)->Shared->Prop}{s:Shared}
variable(h0:0<n)(hc:∀i j C,i<n->j<n->(∀b,C b s)->cmp i j C s)
include h0 hc
end
end L2
set_option maxRecDepth 100000
set_option maxHeartbeats 4000000
namespace L2
open PySem PySem.Spec PyProof.Rows PySem.W
section
variable{n:Nat}{key:Nat->Int}{cmp:Nat->Nat->(Bool->Shared->Prop)->Shared->Prop}{s:Shared}
variable(h0:0<n)(hc:∀i j C,i<n->j<n->C (decide (key i<key j)) s->cmp i j C s)
include h0 hc
end
end L2
set_option maxRecDepth 100000
set_option maxHeartbeats 4000000
set_option maxRecDepth 100000
set_option maxHeartbeats 4000000
namespace L2
open PySem PySem.Spec PyProof.Rows
@[reducible] noncomputable def ZW(l c:Cn)(u p:Int):Gw:=⟨l,c,(p:Rat)/u,u⟩
end L2
set_option maxRecDepth 100000
set_option maxHeartbeats 4000000
namespace L2
open PySem PySem.Spec PyProof.Rows
theorem Ev.lend{G:Gx}{ρ:Rh}{te:TE}{Φ:Pd}{a:Addr}{f:Bool}{ds:List PyData}(i:Nat)(e:ρ[i]?=some (.own a f ds))(h:Ev G (ρ.set i (.d f (.list ds))) te fun _ d=>gH d=true/\Φ true d):Ev G ρ te Φ:=fun nb σ H Q W z=>
 h _ σ H Q (Sv.share W e) fun f v H' d ⟨hs,p⟩ st hv=>z true v H' d p st (hv.jE hs)
end L2
set_option maxRecDepth 100000
set_option maxHeartbeats 4000000
set_option maxRecDepth 100000
set_option maxHeartbeats 4000000
set_option maxRecDepth 100000
set_option maxHeartbeats 4000000
namespace L2
open PySem PySem.Spec PyProof.Rows
noncomputable abbrev Ks:=List (Int×PyData)
noncomputable def kF(ks:Ks)(k:Int):Option PyData:=(ks.find? fun p=>decide (p.1=k)).map (·.2)
noncomputable def gK(ks:Ks)(k:Int):Bool:=ks.any fun p=>decide (p.1=k)
noncomputable def jQ(ks:Ks)(k:Int)(d:PyData):Ks:=if gK ks k then ks.map fun p=>if p.1=k then(p.1,d) else p else ks++[(k,d)]
noncomputable def gU(ks:Ks)(k:Int):Ks:=ks.filter fun p=>decide (p.1≠k)
theorem Jc(ks:Ks)(k:Int):(kF ks k).isSome=gK ks k:=by
  unfold kF gK
  rw[Option.isSome_map]
  induction ks with
  |nil=>rfl
  | cons p r ih =>
    rw[nL,mq]
    by_cases h:p.1=k
    · simp[h]
    · simp only[h,decide_false,nZ];exact ih
theorem HJ{ks:Ks}{k:Int}:gK ks k=true↔k∈ks.map (·.1):=by
 unfold gK
 rw[xg,fQ]
 constructor
 ·rintro⟨p,h1,h2⟩;exact⟨p,h1,by simpa using h2⟩
 ·rintro⟨p,h1,h2⟩;exact⟨p,h1,by simpa using h2⟩
theorem Tr{k:Int}:kF [] k=none:=rfl
theorem vU{p:Int×PyData}{r:Ks}{k:Int}:kF (p::r) k=if p.1=k then some p.2 else kF r k:=by
 unfold kF
 rw[nL]
 by_cases h:p.1=k<;>simp[h]
theorem ZL{ks:Ks}{k j:Int}{d:PyData}:kF (ks++[(k,d)]) j=match kF ks j with|some x=>some x|none=>if j=k then some d else none:=by
  induction ks with
  | nil =>
    rw[List.nil_append,vU,Tr]
    by_cases h:k=j
    · subst h;simp
    · have h':¬j=k:=fun z=>h z.symm
      simp[h,h']
  | cons p r ih =>
    rw[jk,vU,vU,ih]
    by_cases h:p.1=j<;>simp[h]
section
variable{S:Addr->Prop}{H:Hp}
theorem aq.val:∀{ks:Ks} {ps:List (Key×V)} (k:Int),aq S H (ks.map fZ) ps->match kF ks k with|some d=>∃v,gE ps (Sum.inl k)=some v/\af S H d v|none=>gE ps (Sum.inl k)=none
  |[],ps,k,h=>by unfold aq at h;subst h;exact N2
  | p :: r, ps, k, h => by
    rw[bx] at h
    unfold aq at h
    obtain⟨q,qs,rfl,h1,h2⟩:=h
    unfold c8 at h1
    obtain⟨h3,h4⟩:=h1
    have h3:q.1=Sum.inl p.1:=h3
    rw[vU]
    have ih:=aq.val k h2
    by_cases e:p.1=k
    · rw[if_pos e]
      refine⟨q.2,?_,h4⟩
      rw[zA (by rw[h3,e])]
    · rw[if_neg e,zD (fun z=>e (by rw[h3] at z;exact DI z))]
      exact ih
theorem aq.snoc:∀{ks:Ks} {ps:List (Key×V)} {k:Int} {d:PyData} {v:V},aq S H (ks.map fZ) ps->af S H d v->aq S H ((ks++[(k,d)]).map fZ) (ps++[(Sum.inl k,v)])
  | [], ps, k, d, v, h, hd => by
    unfold aq at h;subst h
    show aq S H [fZ (k,d)] [(Sum.inl k,v)]
    unfold aq
    exact⟨_,_,rfl,by unfold c8;exact⟨rfl,hd⟩,by unfold aq;rfl⟩
  | p :: r, ps, k, d, v, h, hd => by
    rw[bx] at h
    unfold aq at h
    obtain⟨q,qs,rfl,h1,h2⟩:=h
    rw[jk,bx,jk]
    unfold aq
    exact⟨q,_,rfl,h1,aq.snoc h2 hd⟩
theorem aq.repl:∀{ks:Ks} {ps:List (Key×V)} {k:Int} {d:PyData} {v:V},aq S H (ks.map fZ) ps->af S H d v->aq S H ((ks.map fun p=>if p.1=k then(p.1,d) else p).map fZ) (ps.map fun kv=>if kv.1=Sum.inl k then(kv.1,v) else kv)
  |[],ps,k,d,v,h,hd=>by unfold aq at h;subst h;simp only[vX];unfold aq;rfl
  | p :: r, ps, k, d, v, h, hd => by
    rw[bx] at h
    unfold aq at h
    obtain⟨q,qs,rfl,h1,h2⟩:=h
    rw[bx,bx,bx]
    unfold c8 at h1
    obtain⟨h3,h4⟩:=h1
    have h3:q.1=Sum.inl p.1:=h3
    unfold aq
    refine⟨_,_,rfl,?_,aq.repl h2 hd⟩
    by_cases e:p.1=k
    · rw[if_pos e,if_pos (by rw[h3,e])]
      unfold c8
      exact⟨h3,hd⟩
    · rw[if_neg e,if_neg (fun z=>e (by rw[h3] at z;exact DI z))]
      unfold c8
      exact⟨h3,h4⟩
theorem aq.any:∀{ks:Ks} {ps:List (Key×V)} (k:Int),aq S H (ks.map fZ) ps->(ps.any fun kv=>decide (kv.1=Sum.inl k))=gK ks k:=fun{ks ps} k h=>by
 rw[C3,<-Jc]
 have:=aq.val k h
 cases hv:kF ks k with
 |none=>rw[hv] at this;rw[this];rfl
 |some d=>rw[hv] at this;obtain⟨v,e,_⟩:=this;rw[e];rfl
theorem aq.put{ks:Ks}{ps:List (Key×V)}{k:Int}{d:PyData}{v:V}(h:aq S H (ks.map fZ) ps)(hd:af S H d v):aq S H ((jQ ks k d).map fZ) (putK ps (Sum.inl k) v):=by
 unfold jQ putK
 rw[aq.any k h]
 split
 ·exact aq.repl h hd
 ·exact aq.snoc h hd
theorem aq.len:∀{ks:Ks} {ps:List (Key×V)},aq S H (ks.map fZ) ps->ps.length=ks.length
  |[],ps,h=>by unfold aq at h;subst h;rfl
  | p :: r, ps, h => by
    rw[bx] at h
    unfold aq at h
    obtain⟨q,qs,rfl,_,h2⟩:=h
    simp[aq.len h2]
theorem aq.keys:∀{ks:Ks} {ps:List (Key×V)},aq S H (ks.map fZ) ps->ps.map (·.1)=(ks.map (·.1)).map Sum.inl
  |[],ps,h=>by unfold aq at h;subst h;rfl
  | p :: r, ps, h => by
    rw[bx] at h
    unfold aq at h
    obtain⟨q,qs,rfl,h1,h2⟩:=h
    unfold c8 at h1
    have h3:q.1=Sum.inl p.1:=h1.1
    simp[aq.keys h2,h3]
end
noncomputable def tF(G:Gx)(ρ:Rh)(te:TE)(Φ:Bool->Ks->Prop):Prop:=∀nb σ H (Q:VK),Wd G nb ρ σ H->
 (∀f a ps H' ks,Φ f ks->Step G.B H H'->H a=none->H' a=some (.dK ps)->aq (fun x=>G.S nb f x\/x=a) H' (ks.map fZ) ps->Q (.ref a) H')->te σ H Q
section
variable{G:Gx}{ρ c7:Rh}{Φ Ψ:Pd}{ta tb te:TE}{t:TA}{i:Nat}{f g:Bool}{d e:PyData}{ks:Ks}{K:PySem.W.Frag}{E:DE}{Θ:Bool->Ks->Prop}
theorem tF.new(h:Θ true []):tF G ρ Jz Θ:=fun nb σ H Q W z p hp=>z true p [] _ [] h (.same W.ao (cE hp)) hp aQ (by unfold aq;rfl)
@[reducible] noncomputable def ZG(p:Int×PyData):PyData:= .tuple [.int p.1,p.2]
end
noncomputable def Jb(ng:Bool):R2:=fun x y H Q=>∃a o,y= .ref a/\vd H a x o/\Q (.bl (o.isSome !=ng)) H
theorem IP{X:Cx}(hu:X.A.units+64<cLine):dB X (compareOp .In) (Jb false):=by
 intro pins s σ H x y v u Q I rx ry h
 obtain⟨a,o,rfl,g,q⟩:=h
 cases ry
 exact XA (by walk_at "o") I g rx fun s' I'=>⟨.bl o.isSome,H,I',rfl,by simpa using q⟩
end L2
set_option maxRecDepth 100000
set_option maxHeartbeats 4000000
set_option maxRecDepth 100000
set_option maxHeartbeats 4000000
namespace L2
open PySem PySem.Spec PyProof.Rows
structure U3(n:Int)(cs:List bY):Prop where
 n0:1<=n
 n1:n<=10
 c0:cs≠[]
 c1:cs.length<=8
 ok:∀prs∈cs,prs≠[]/\prs.length<=4/\(prs.map (·.1)).Pairwise (· < ·)/\∀pr∈prs,0<=pr.1/\pr.1<n
section
variable{n:Int}{cs:List bY}(h:U3 n cs)
include h
end
end L2
set_option maxRecDepth 100000
set_option maxHeartbeats 4000000
set_option maxRecDepth 100000
set_option maxHeartbeats 4000000
set_option maxRecDepth 100000
set_option maxHeartbeats 4000000
namespace L2
open PySem PySem.Spec PyProof.Rows
noncomputable def Mw:V->List V->Hp->VK->Prop:=fun x vs H Q=>∃l,∃ns:List Int,∃k:Int,x= .ref l/\vs=[.int k]/\H l=some (.lst (ns.map V.int))/\k∈ns/\Q .aB (upd H l (.lst ((ns.erase k).map V.int)))
theorem KS:∀{its:List Value} {ns:List Int} {m:Nat} {v:Value},IntsAre its ns->its[m]?=some v->∃k t,ns[m]?=some k/\v= .int k t
 |_,_,_,_, .nil,e=>by simp at e
 |_,_,0,_, .cons n t h,e=>by simp at e;exact⟨n,t,rfl,e.symm⟩
 |_,_,m+1,_, .cons n t h,e=>by simpa using KS (m:=m) h (by simpa using e)
theorem Mb{α β:Type}(f:α->β):∀(xs:List α) (k:Nat),(xs.map f).eraseIdx k=(xs.eraseIdx k).map f
 |[],_=>rfl
 |x::xs,0=>rfl
 |x::xs,k+1=>by show f x::(xs.map f).eraseIdx k=_;rw[Mb f xs k];rfl
section
variable{X:Cx}
theorem U8:vM X "list.remove" Mw:=by
 intro pins s σ H x vs v us Q I rx rv h
 obtain⟨l,ns,k,rfl,rfl,hH,hk,q⟩:=h
 cases rx
 obtain⟨u,rfl,ru⟩:=rv.one
 obtain⟨t,rfl⟩:=ru
 obtain⟨z,its,n,r,hl,e⟩:=I.sD hH
 have hI:=zZ r
 have hlen:=hI.length
 have hj:ns.idxOf k<ns.length:=List.idxOf_lt_length_of_mem hk
 have hat:∀m (hm:m<its.toArray.size),isInt k its.toArray[m]=decide (ns[m]'(by rw[cN] at hm;walk_at "o")=k):=fun m hm=>by
  rw[cN] at hm
  obtain⟨k',t',e1,e2⟩:=KS (m:=m) (v:=its[m]) hI (bE hm)
  have e3:ns[m]'(by walk_at "o")=k':=by rw[bE (by walk_at "o")] at e1;exact iM e1
  rw[List.getElem_toArray,e2,e3]
  unfold isInt
  first|rfl|(simp)|skip
 refine call_meets Lu ⟨_,e,rfl⟩ PySem.F.entry_list_remove (PySem.F.args_list_remove_2 _ _)
  (MeetsSeq.list_remove l its.toArray n (.int k t) (isInt k) (fun y hy=>eq_isInt k t hI y (by simpa using hy)) (ns.idxOf k) (by rw[cN];walk_at "o") ?_ ?_ (by rw[cN];walk_at "o")) ⟨e,?_⟩
 ·rw[hat]
  exact decide_eq_true (List.getElem_idxOf hj)
 ·intro m hm hlt
  rw[hat]
  exact decide_eq_false fun z=>by
   have:=List.not_of_lt_findIdx (p:=(· ==k)) (xs:=ns) (i:=m) (by exact hlt)
   simp at this
   exact this z
 ·refine⟨.aB,_,I.Dr (its':=its.eraseIdx (ns.idxOf k)) hH e ?_ (by rw[List.erase_eq_eraseIdx_of_idxOf rfl,<-Mb];exact r.eraseIdx _) ?_,rfl,q⟩
  ·show its.toArray.eraseIdxIfInBounds _=_
   rw[List.eraseIdxIfInBounds_toArray]
  ·have:=List.length_erase_le (a:=k) (l:=ns)
   rw[ay] at hl z⊢
   walk_at "o"
end
noncomputable def rS(G:Gx)(ρ:Rh)(te:TE)(Φ:PyData->Prop):Prop:=∀nb σ H (Q:VK),Wd G nb ρ σ H->(∀v H' d,Φ d->Step G.B H H'->af (fun a=>H a≠none) H' d v->Q v H')->te σ H Q
end L2
set_option maxRecDepth 100000
set_option maxHeartbeats 1000000
set_option maxRecDepth 100000
set_option maxHeartbeats 4000000
namespace L2
open PySem PySem.Spec PyProof.Rows
noncomputable def RC(mC:List Int)(prs:bY):Nat:=(prs.filter fun pr=>decide (pr.1∈mC)).length
noncomputable def JV(cs:List bY)(mC:List Int):Bool:=cs.all fun prs=>decide (RC mC prs≠1)
end L2
set_option maxRecDepth 100000
set_option maxHeartbeats 4000000
set_option maxRecDepth 100000
set_option maxHeartbeats 4000000
namespace L2
open PySem PySem.Spec PyProof.Rows
noncomputable def MD:V->List V->Hp->VK->Prop:=fun x vs H Q=>∃a kvs k v,x= .ref a/\vs=[kV k]/\H a=some (.dK kvs)/\gE kvs k=some v/\Q v (upd H a (.dK (mO kvs k)))
theorem Mq{X:Cx}:vM X "dict.pop" MD:=by
 intro pins s σ H x vs v us Q I rx rv h
 obtain⟨a,kvs,k,w,rfl,rfl,hH,hv,q⟩:=h
 cases rx
 obtain⟨u,rfl,ru⟩:=rv.one
 exact Q3 I hH ru hv (.inl rfl) fun w' s' I' r'=>⟨w,_,I',r',q⟩
theorem aq.drop{S:Addr->Prop}{H:Hp}{k:Int}:∀{ks:Ks} {ps:List (Key×V)},aq S H (ks.map fZ) ps->aq S H ((gU ks k).map fZ) (mO ps (Sum.inl k))
  |[],ps,h=>by unfold aq at h;subst h;unfold gU mO;simp only[List.filter_nil,vX];unfold aq;rfl
  | p :: r, ps, h => by
    rw[bx] at h
    unfold aq at h
    obtain⟨q,qs,rfl,h1,h2⟩:=h
    have ih:=aq.drop (k:=k) h2
    have h0:=h1
    unfold c8 at h1
    have h3:q.1=Sum.inl p.1:=h1.1
    unfold gU mO at ih⊢
    rw[uY,uY]
    by_cases e:p.1=k
    · rw[if_neg (by simpa using e),if_neg (by rw[h3,e];simp)]
      exact ih
    · rw[if_pos (by simpa using e),if_pos (by rw[h3];simpa using e),bx]
      unfold aq
      exact⟨q,_,rfl,h0,ih⟩
structure NO(cs:List bY)(mC g:List Int):Prop where
 sub:∃q:Int->Bool,g=mC.filter q
 out:JV cs g=true
 max:∀T:List Int,(∀x∈T,x∈mC)->JV cs T=true->∀x∈T,x∈g
@[reducible] noncomputable def Z6(S:List Int):Ks:=S.map fun x=>(x,PyData.bool true)
end L2
set_option maxRecDepth 100000
set_option maxHeartbeats 4000000
namespace L2
open PySem PySem.Spec PyProof.Rows
theorem Ky:∀{a b:List Int},a.Pairwise (· < ·)->b.Pairwise (· < ·)->(∀k,k∈a↔k∈b)->a=b
  |[],[],_,_,_=>rfl
  |[],y::b,_,_,h=>absurd ((h y).mpr (bT ..)) (by simp)
  |x::a,[],_,_,h=>absurd ((h x).mp (bT ..)) (by simp)
  | x :: a, y :: b, ha, hb, h => by
    obtain⟨ha1,ha2⟩:=oY.mp ha
    obtain⟨hb1,hb2⟩:=oY.mp hb
    have e:x=y:=by
      rcases aA.mp ((h x).mp (bT ..)) with z|z
      · exact z
      · rcases aA.mp ((h y).mpr (bT ..)) with w|w
        · exact w.symm
        · have:=hb1 x z;have:=ha1 y w;walk_at "o"
    subst e
    have:a=b:=Ky ha2 hb2 fun k=>by
      constructor
      · intro hk
        rcases aA.mp ((h k).mp (bJ _ hk)) with z|z
        · have:=ha1 k hk;walk_at "o"
        · exact z
      · intro hk
        rcases aA.mp ((h k).mpr (bJ _ hk)) with z|z
        · have:=hb1 k hk;walk_at "o"
        · exact z
    rw[this]
theorem Oq{a b:List Int}(h:b.Pairwise (· < ·))(hs:a.Pairwise (· <= ·))(hp:a.Perm b):a=b:=by
 have nd:a.Nodup:=hp.nodup_iff.mpr (h.imp fun h=>by walk_at "o")
 have hlt:a.Pairwise (· < ·):=(hs.and nd).imp fun⟨h1,h2⟩=>by walk_at "o"
 exact Ky hlt h fun k=>hp.mem_iff
theorem NO.mem{cs:List bY}{mC g:List Int}(h:NO cs mC g):∀x∈g,x∈mC:=fun x hx=>by
 obtain⟨q,e⟩:=h.sub
 rw[e] at hx
 exact(k9.mp hx).1
end L2
set_option maxRecDepth 100000
set_option maxHeartbeats 4000000
namespace L2
open PySem PySem.Spec PyProof.Rows
noncomputable def IT(row:List Int):Int:=match row.getLast? with|none=>0|some l=>l+1
noncomputable def Qy(n:Int)(row:List Int):List Int:=(List.range (n-IT row).toNat).map fun(i:Nat)=>IT row+(i:Int)
noncomputable def ext(n:Int)(row:List Int):List (List Int):=(Qy n row).map fun p=>row++[p]
@[reducible] noncomputable def aac:Option (List Int)->PyData
 |none=> .none
 |some r=>mP r
end L2
set_option maxRecDepth 100000
set_option maxHeartbeats 4000000
set_option maxRecDepth 100000
set_option maxHeartbeats 4000000
set_option maxRecDepth 100000
set_option maxHeartbeats 4000000
set_option maxRecDepth 100000
set_option maxHeartbeats 4000000
namespace L2
open PySem PySem.Spec PyProof.Rows
noncomputable def gI(r:List Int)(i:Nat):Int:=r.getD i 0
noncomputable def co(prs:bY)(j:Nat):Int:=(prs.map fun pr=>if pr.1.toNat=j then pr.2 else 0).sum
noncomputable def Ue(p:Int)(m:Nat)(prs:bY):Prop:=(prs.map (·.1)).Nodup/\prs.length<=1000/\∀pr∈prs,0<=pr.1/\pr.1<m/\1<=pr.2/\pr.2<p
end L2
set_option maxRecDepth 100000
set_option maxHeartbeats 4000000
set_option maxRecDepth 100000
set_option maxHeartbeats 4000000
set_option maxRecDepth 100000
set_option maxHeartbeats 4000000
set_option maxRecDepth 100000
set_option maxHeartbeats 4000000
namespace L2
open PySem PySem.Spec PyProof.Rows
theorem gf{P:(Addr->Prop)->Prop}{H:Hp}(hP:∀{S S':Addr->Prop},(∀a,S' a->S a)->P S->P S')(hf:∀{S:Addr->Prop} {p:Addr},H p=none->P S->P fun a=>S a\/a=p):∀{L:List Addr} {S:Addr->Prop},(∀a∈L,H a=none)->P S->P fun a=>S a\/a∈L
 |[],S,_,h=>hP (fun a z=>z.elim (fun z=>z) fun z=>by cases z) h
 | p :: L, S, hL, h => hP (fun a z => by
   rcases z with z|z
   ·exact .inl (.inl z)
   ·rcases aA.mp z with z|z
    ·exact .inr z
    ·exact .inl (.inr z)) (hf (hL p (bT ..)) (gf hP hf (L:=L) (fun a m=>hL a (bJ _ m)) h))
section
variable{G:Gx}{ρ:Rh}{nb:Addr->Prop}{σ:St}{H H1:Hp}{i:Nat}{L:List Addr}{c c':Cu}{f:Bool}{d:PyData}{p:Addr}{o:HO}{E:DE}
theorem Wd.Gk(W:Wd G nb ρ σ H)(s1:Step G.B H H1)(ha:∀a∈L,H a=none)(e:∀a∈L,H1 a≠none):Wd G (fun x=>nb x\/x∈L) ρ σ H1/\(∀a∈L,NB G.B a)/\∀f x,G.S (fun x=>nb x\/x∈L) f x->(G.S nb f x\/x∈L):=by
  have hN:∀a∈L,NB G.B a:=fun a m=>NB.new W.ao (ha a m)
  have hA:∀f x,G.S (fun x=>nb x\/x∈L) f x->(G.S nb f x\/x∈L):=fun f x z=>by
    rcases z with (z|z)|z|z|z
    · exact .inl (.inl z)
    · exact .inr z
    · exact .inl (.inr (.inl z))
    · exact .inl (.inr (.inr (.inl z)))
    · exact .inl (.inr (.inr (.inr z)))
  have W1:=W.step s1
  have fD:∀{S:Addr->Prop} {d:PyData} {v:V},af S H d v->af (fun a=>S a\/a∈L) H d v:=fun{S d v} h=>gf (P:=fun S=>af S H d v) (fun z h=>af.av z h) (fun hp h=>af.fresh hp h) ha h
  have vA:∀{S:Addr->Prop} {d:List PyData} {v:List V},ah S H d v->ah (fun a=>S a\/a∈L) H d v:=fun{S d v} h=>gf (P:=fun S=>ah S H d v) (fun z h=>ah.av z h) (fun hp h=>ah.fresh hp h) ha h
  have u5:∀{S:Addr->Prop} {d:List (PyData×PyData)} {v:List (Key×V)},aq S H d v->aq (fun a=>S a\/a∈L) H d v:=fun{S d v} h=>gf (P:=fun S=>aq S H d v) (fun z h=>aq.av z h) (fun hp h=>aq.fresh hp h) ha h
  have fH:∀{S:Addr->Prop} {d:HD} {v:V},dR S H d v->dR (fun a=>S a\/a∈L) H d v:=fun{S d v} h=>gf (P:=fun S=>dR S H d v) (fun z h=>dR.av h z) (fun hp h=>dR.fresh h hp) ha h
  refine⟨?_,hN,hA⟩
  refine⟨W1.ao,fun x n=>?_,W1.old,fun x n q=>?_,W.gA,W.len,W.gB,fun h m=>((fH (W.fT h m)).keep (s1.but fun x z=> .inl (.inr (.inr (.inl z))))).av (hA h.1),fun j s e'=>?_,W.apart,W.gV,W.dh⟩
  · rcases n with n|n
    · exact W1.live x n
    · exact e x n
  · rcases n with n|n
    · exact W.cC x n q
    · cases z:G.H0 x with
      |none=>rfl
      |some o=>have:=ha x n;rw[W.old x o q z] at this;cases this
  · obtain⟨x,e1,h⟩:=W.ok j s e'
    refine⟨x,e1,?_⟩
    cases s with
    |no=>trivial
    |d f d=>obtain⟨v,e,h⟩:=h;exact⟨v,e,((fD h).keep (s1.but fun x z=> .inl (.inr (.inr (.inl z))))).av (hA f)⟩
    |own c f es=>obtain⟨e,n,q,xs,hx,hd⟩:=h;exact⟨e, .inl n,q,xs,s1.1 _ _ q hx,((vA hd).keep (s1.but fun x z=> .inl (.inr (.inr (.inl z))))).av (hA f)⟩
    |ao=>exact h
    |raw v=>exact h
    |ez c f es=>obtain⟨e,n,q,xs,hx,hd⟩:=h;exact⟨e, .inl n,q,xs,s1.1 _ _ q hx,((u5 hd).keep (s1.but fun x z=> .inl (.inr (.inr (.inl z))))).av (hA f)⟩
    | cu c =>
      obtain⟨e,n,q⟩:=h
      refine⟨e,fun a ha=>⟨.inl (n a ha).1,(n a ha).2⟩,c.av (hA c.f) (c.keep (.of fun x o hx e=>s1.1 x o ?_ e) (gf (P:=fun S=>c.P S H) (fun z h=>c.av z h) (fun hp h=>c.fresh hp h) ha q))⟩
      rcases hx with hx|hx
      · exact jT fun z=>hx (.inl (.inr (.inr (.inl z))))
      · exact(n x hx).2
theorem pU.wI{x:Option V}{s:Sl}(h:pU G nb H x s):∀a∈s.adr,nb a/\NB G.B a:=by
 cases s with
 |own a f ds=>intro x hx;rw[az.mp hx];exact⟨h.2.1,h.2.2.1⟩
 |ez a f ds=>intro x hx;rw[az.mp hx];exact⟨h.2.1,h.2.2.1⟩
 |cu c=>exact h.2.1
 |no=>intro _ z;cases z
 |d _ _=>intro _ z;cases z
 |ao=>intro _ z;cases z
 |raw _=>intro _ z;cases z
theorem Wd.DP(W:Wd G nb ρ σ H)(s1:Step G.B H H1)(ha:∀a∈c.F,H a=none)(e:∀a∈c.F,H1 a≠none)(hP:c.P (fun x=>G.S nb c.f x\/x∈c.F) H1):Wd G (fun x=>nb x\/x∈c.F) (ρ.set i (.cu c)) (σ.set i (some c.v)) H1:=by
 obtain⟨W2,hN,hA⟩:=W.Gk s1 ha e
 refine W2.set ⟨rfl,fun a m=>⟨.inr m,hN a m⟩,c.av (hA c.f) hP⟩ (fun _ _ _ z=>by cases z) (fun _ _ _ z=>by cases z) (fun x hx j t hj ht hc z=>?_)
 obtain⟨y,e1,h⟩:=W.ok j _ ht
 exact W.live x (h.wI x z).1 (ha x hx)
theorem Wd.sY(W:Wd G nb ρ σ H)(e:ρ[i]?=some (.cu c))(hp:p∈c.F)(hv:c'.v=c.v)(hF:∀a∈c'.F,a∈c.F)(h:c'.P (G.S nb c'.f) (upd H p o)):Wd G nb (ρ.set i (.cu c')) σ (upd H p o):=by
 obtain⟨x,e1,h1,h2,h3⟩:=W.ok i _ e
 subst h1
 have hil:i<ρ.length:=(bh.mp e).1
 have W0:Wd G nb (ρ.set i .no) (σ.set i (some c.v)) H:=W.set trivial fun _ _ _ z=>by cases z
 have other:∀(j:Nat) s,(ρ.set i .no)[j]?=some s->s≠ .no->p∉s.adr:=fun j s hs hn=>by
  have hij:i≠j:=fun z=>by subst z;rw[cy hil] at hs;cases hs;exact hn rfl
  rw[bA hij] at hs
  exact W.dh i j c s hij e hs p hp
 have W1:Wd G nb (ρ.set i .no) (σ.set i (some c.v)) (upd H p o):=W0.write (h2 p hp).1 (h2 p hp).2 (fun j a f ds hs z=>other j _ hs (by intro z;cases z) (az.mpr z.symm)) (fun j a f ds hs z=>other j _ hs (by intro z;cases z) (az.mpr z.symm)) (fun j c hs=>other j _ hs (by intro z;cases z))
 have W2:=W1.set (i:=i) (s:= .cu c') (x:=some c.v) ⟨by rw[hv],fun a m=>h2 a (hF a m),h⟩ (fun _ _ _ z=>by cases z) (fun _ _ _ z=>by cases z) (fun x hx j t hj ht hc=>by
  rw[bA (cR hj)] at ht
  exact W.dh i j c t (cR hj) e ht x (hF x hx))
 rw[nc,nc] at W2
 have:σ.set i (some c.v)=σ:=by
  apply oW
  intro j
  by_cases hij:i=j
  ·subst hij;rw[cy (by rw[W.len];exact hil),e1]
  ·rw[bA hij]
 rwa[this] at W2
theorem Wd.RI(W:Wd G nb ρ σ H)(e:ρ[i]?=some (.cu c))(h:c.P (G.S nb c.f) H->(∀a∈c.F,G.H0 a=none/\¬G.A a/\NB G.B a)->af (G.S (fun x=>nb x/\x∉c.F) f) H d c.v):Wd G (fun x=>nb x/\x∉c.F) (ρ.set i (.d f d)) σ H:=by
 obtain⟨x,e1,h1,h2,h3⟩:=W.ok i _ e
 subst h1
 have hil:i<ρ.length:=(bh.mp e).1
 have W0:Wd G nb (ρ.set i .no) (σ.set i (some c.v)) H:=W.set trivial fun _ _ _ z=>by cases z
 have W1:Wd G (fun x=>nb x/\x∉c.F) (ρ.set i .no) (σ.set i (some c.v)) H:=by
  refine⟨W0.ao,fun x n=>W0.live x n.1,W0.old,fun x n=>W0.cC x n.1,W0.gA,W0.len,W0.gB,fun h m=>(W0.fT h m).av (bX (fun z=>z) fun _ z=>z.1),fun j s e'=>?_,W0.apart,W0.gV,W0.dh⟩
  obtain⟨x,lU,hh⟩:=W0.ok j s e'
  refine⟨x,lU,?_⟩
  have hij:s≠ .no->i≠j:=fun n z=>by subst z;rw[cy hil] at e';cases e';exact n rfl
  have ap:s≠ .no->∀a∈s.adr,a∉c.F:=fun n a m z=>by
   have hij:=hij n
   rw[bA hij] at e'
   exact W.dh i j c s hij e e' a z m
  cases s with
  |no=>trivial
  |d f d=>obtain⟨v,e,hh⟩:=hh;exact⟨v,e,hh.av (bX (fun z=>z) fun _ z=>z.1)⟩
  |own a f es=>obtain⟨e2,n,q,xs,hx,hd⟩:=hh;exact⟨e2,⟨n,ap (by intro z;cases z) a (az.mpr rfl)⟩,q,xs,hx,hd.av (bX (fun z=>z) fun _ z=>z.1)⟩
  |ao=>exact hh
  |raw v=>exact hh
  |ez a f es=>obtain⟨e2,n,q,xs,hx,hd⟩:=hh;exact⟨e2,⟨n,ap (by intro z;cases z) a (az.mpr rfl)⟩,q,xs,hx,hd.av (bX (fun z=>z) fun _ z=>z.1)⟩
  |cu c2=>obtain⟨e2,n,q⟩:=hh;exact⟨e2,fun a m=>⟨⟨(n a m).1,ap (by intro z;cases z) a m⟩,(n a m).2⟩,c2.av (bX (fun z=>z) fun _ z=>z.1) q⟩
 have W2:=W1.u9 (i:=i) (f:=f) (d:=d) (v:=c.v) (h h3 fun a m=>⟨W.cC a (h2 a m).1 (h2 a m).2,fun z=>W.gA a z (W.cC a (h2 a m).1 (h2 a m).2),(h2 a m).2⟩)
 rw[nc,nc] at W2
 have:σ.set i (some c.v)=σ:=by
  apply oW
  intro j
  by_cases hij:i=j
  ·subst hij;rw[cy (by rw[W.len];exact hil),e1]
  ·rw[bA hij]
 rwa[this] at W2
end
end L2
set_option maxRecDepth 100000
set_option maxHeartbeats 4000000
namespace L2
open PySem PySem.Spec PyProof.Rows
noncomputable abbrev Z7:=Int×Addr×List PyData
end L2
set_option maxRecDepth 100000
set_option maxHeartbeats 4000000
namespace L2
open PySem PySem.Spec PyProof.Rows
noncomputable def yO(prs:bY)(pl:Int):Option Int:=(prs.find? fun pr=>decide (pr.1=pl)).map (·.2)
noncomputable def Ex(p:Int)(c:Nat):Option Int->List (Int×Int)
 |some f=>[((c:Int),sol p f 1)]
 |none=>[]
noncomputable def Dg(p:Int)(cs:List bY)(pl:Int)(i:Nat):List (Int×Int):=(List.range i).flatMap fun c=>Ex p c (yO (cs.getD c []) pl)
theorem YE{p:Int}{cs:List bY}{pl:Int}{q:Int×Int}{i:Nat}(hi:i<=cs.length)(h:q∈Dg p cs pl i):∃(c:Nat) (prs:bY) (f:Int),cs[c]?=some prs/\c<i/\yO prs pl=some f/\q=((c:Int),sol p f 1):=by
  unfold Dg at h
  obtain⟨c,hc,hq⟩:=tK.mp h
  have hc:=yZ.mp hc
  have e:cs[c]?=some cs[c]:=bE (by walk_at "o")
  rw[pe,e] at hq
  cases hf:yO cs[c] pl with
  |none=>simp[Ex,hf] at hq
  | some f =>
    have hq:q∈Ex p c (yO cs[c] pl):=hq
    rw[hf] at hq
    exact⟨c,cs[c],f,e,hc,hf,az.mp hq⟩
noncomputable def tZ(p:Int)(cs:List bY)(ws:List Int)(pl:Int):List Int:=
 (Dg p cs pl cs.length).map fun q=>(ws.getD pl.toNat 0-q9 (cs.getD q.1.toNat []) (ws.map some)%p*q.2)%p
structure Cr(p n:Int)(cs:List bY):Prop where
 hp:kP p
 kY:p<10^40
 n0:1<=n
 n1:n<=400
 cl:cs.length<=400
 ok:∀prs∈cs,Ue p n.toNat prs
end L2
set_option maxRecDepth 100000
set_option maxHeartbeats 4000000
namespace L2
open PySem PySem.Spec PyProof.Rows
noncomputable def GX(L:List Int)(w x:Int):Bool:=decide (x≠w) && decide (L.length<2*L.count x)
noncomputable def xD(L:List Int)(w:Int):List Int:=(L.filter (GX L w)).take 1
@[reducible] noncomputable def ZZ(t:Int×Int×Int):PyData:= .tuple [.int t.1, .int t.2.1, .int t.2.2]
noncomputable def ME(p:Int)(cs:List bY)(ws:List Int)(i:Nat):List (Int×Int×Int):=(xD (tZ p cs ws (i:Int)) (ws.getD i 0)).map fun x=>((i:Int),ws.getD i 0,x)
noncomputable def vq(p:Int)(cs:List bY)(ws:List Int)(m:Nat):List (Int×Int×Int):=(List.range m).flatMap (ME p cs ws)
end L2
set_option maxRecDepth 100000
set_option maxHeartbeats 4000000
namespace L2
open PySem PySem.Spec PyProof.Rows
noncomputable def brk(p:Int)(cs:List bY)(ws:List Int):Nat:=cs.countP fun prs=>decide (q9 prs (ws.map some)%p≠0)
noncomputable abbrev Bst:=Int×Option (Int×Int×Int)
end L2
set_option maxRecDepth 100000
set_option maxHeartbeats 4000000
set_option maxRecDepth 100000
set_option maxHeartbeats 4000000
set_option maxRecDepth 100000
set_option maxHeartbeats 4000000
namespace L2
open PySem PySem.Spec PyProof.Rows
structure oF(P:Program)(w:World)(K:PySem.W.Frag)(mg:Str->Option Value)(base:Heap)(C:Addr)(m:Str)(k:Nat)(ps:List Str)(sp:Sp):Prop where
 cl:cZ K C
 ex:∃f fd,aY P w K mg base cT k f fd ps sp/\Binds K fd ps []/\Meth K C m f
structure Ec(P:Program)(w:World)(K:PySem.W.Frag)(mg:Str->Option Value)(base:Heap)(C:Addr)(x:Str)(k:Nat)(ps:List Str)(sp:Sp):Prop where
 ex:∃f fd,aY P w K mg base cT k f fd ps sp/\Binds K fd ps []/\Mk K C f/\mg x=some (.ref C)
section
variable{X:Cx}{C:Addr}{k:Nat}{ps:List Str}{sp:Sp}{x m:Str}{p pos apos:Pos}{e o:Expr}{es:List Expr}{ta:TE}{t:TA}
theorem ZC{pl:Sem Bool}(c:oF X.prog X.w X.K X.mg X.base C m k ps sp)(he:PE X o ta)(hr:cK k X.A)(ha:PA X (e::es) t)
  (hst:starEach (e::es) X.env=(false,eval e X.env)::starEach es X.env:=by rfl) (hpl:(backTo pos (starEach es X.env)).any (·.1)=false:=by rfl)
  (ht : eval (.Call (.Attribute o m apos) (e :: es) [] pos) X.env = (do
   let ov<-eval o X.env
   standAt apos.atName
   let (f,first)<-holding [ov] (getMethod ov m pl)
   callWith pos f first (backTo pos (starEach (e::es) X.env)) (backToKw pos (keywordEach [] X.env))):=by rfl):
  PE X (.Call (.Attribute o m apos) (e::es) [] pos) (n5 C m sp [] E0 ta t):=by
 obtain⟨f,fd,F,b,mm⟩:=c.ex
 exact S6 (pl:=pl) he c.cl mm F hr b .nil vW ha hst hpl ht
theorem AK{pl:Sem Bool}(c:oF X.prog X.w X.K X.mg X.base C m k ps sp)(he:PE X o ta)(hr:cK k X.A)
  (ht : eval (.Call (.Attribute o m apos) [] [] pos) X.env = (do
   let ov<-eval o X.env
   standAt apos.atName
   let (f,first)<-holding [ov] (getMethod ov m pl)
   callWith pos f first (backTo pos (starEach [] X.env)) (backToKw pos (keywordEach [] X.env))):=by rfl):
  PE X (.Call (.Attribute o m apos) [] [] pos) (n5 C m sp [] E0 ta aX):=by
 obtain⟨f,fd,F,b,mm⟩:=c.ex
 exact O1 (pl:=pl) he c.cl mm F hr b .nil vW ht
theorem Ux(c:Ec X.prog X.w X.K X.mg X.base C x k ps sp)(hr:cK (k+1) X.A)(ha:PA X (e::es) t)(hg:Gl X x:=by rfl)
  (hdb:(x==("__debug__":Str))=false:=by decide) (he:starEach (e::es) X.env=(false,eval e X.env)::starEach es X.env:=by rfl) (hpl:(backTo pos (starEach es X.env)).any (·.1)=false:=by rfl):
  PE X (.Call (.Name x p) (e::es) [] pos) (Dj C sp [] E0 t):=by
 obtain⟨f,fd,F,b,M,m⟩:=c.ex
 exact SM M F hr hg m b .nil vW ha hdb he hpl
end
section
variable{G:Gx}{ρ:Rh}{nb:Addr->Prop}{σ:St}{H H':Hp}{i:Nat}{c c':Cu}{E:DE}
theorem Wd.Ea(W:Wd G nb ρ σ H)(e:ρ[i]?=some (.cu c))(hH:∀a o,a∉c.F->H a=some o->H' a=some o)(hv:c'.v=c.v)(hF:∀a∈c'.F,a∈c.F\/H a=none\/(nb a/\NB G.B a/\∀(j:Nat) s,ρ[j]?=some s->a∉s.adr))(hl:∀a,a∈c.F\/a∈c'.F->H' a≠none)
    (h:c'.P (G.S (fun x=>nb x\/x∈c'.F) c'.f) H'):Wd G (fun x=>nb x\/x∈c'.F) (ρ.set i (.cu c')) σ H':=by
  obtain⟨x0,e1,h1,h2,h3⟩:=W.ok i _ e
  subst h1
  have hil:i<ρ.length:=(bh.mp e).1
  obtain⟨L,hL⟩:∃L,L=c'.F.filter fun a=>(H a).isNone:=⟨_,rfl⟩
  have ha:∀a∈L,H a=none:=fun a m=>by
    rw[hL,k9] at m
    exact uF.mp m.2
  have CJ:∀a∈c'.F,nb a\/a∈L:=fun a m=>by
    rcases hF a m with z|z|z
    · exact .inl (h2 a z).1
    · exact .inr (by rw[hL];exact k9.mpr ⟨m,uF.mpr z⟩)
    · exact .inl z.1
  have hA:∀f x,G.S (fun x=>nb x\/x∈c'.F) f x->(G.S nb f x\/x∈L):=fun f x z=>by
    rcases z with (z|z)|z|z|z
    · exact .inl (.inl z)
    · exact(CJ x z).elim (fun z=> .inl (.inl z)) .inr
    · exact .inl (.inr (.inl z))
    · exact .inl (.inr (.inr (.inl z)))
    · exact .inl (.inr (.inr (.inr z)))
  have bt:∀f,aM (G.S (fun x=>nb x\/x∈c'.F) f) H H':=fun f a o n q=>hH a o (fun z=>n (.inl (.inl (h2 a z).1))) q
  have fD:∀{S:Addr->Prop} {d:PyData} {v:V},af S H d v->af (fun a=>S a\/a∈L) H d v:=fun{S d v} h=>gf (P:=fun S=>af S H d v) (fun z h=>af.av z h) (fun hp h=>af.fresh hp h) ha h
  have vA:∀{S:Addr->Prop} {d:List PyData} {v:List V},ah S H d v->ah (fun a=>S a\/a∈L) H d v:=fun{S d v} h=>gf (P:=fun S=>ah S H d v) (fun z h=>ah.av z h) (fun hp h=>ah.fresh hp h) ha h
  have u5:∀{S:Addr->Prop} {d:List (PyData×PyData)} {v:List (Key×V)},aq S H d v->aq (fun a=>S a\/a∈L) H d v:=fun{S d v} h=>gf (P:=fun S=>aq S H d v) (fun z h=>aq.av z h) (fun hp h=>aq.fresh hp h) ha h
  have fH:∀{S:Addr->Prop} {d:HD} {v:V},dR S H d v->dR (fun a=>S a\/a∈L) H d v:=fun{S d v} h=>gf (P:=fun S=>dR S H d v) (fun z h=>dR.av h z) (fun hp h=>dR.fresh h hp) ha h
  have gR:∀a∈c'.F,NB G.B a:=fun a m=>(hF a m).elim (fun z=>(h2 a z).2) fun z=>z.elim (fun z=>NB.new W.ao z) fun z=>z.2.1
  have Xr:jv G.B H':=fun b l eb=>by
    obtain⟨ns,i0,c0,st,n,g1,g2,g3⟩:=W.ao b l eb
    have hb:b∉c.F:=fun z=>(h2 b z).2 b l eb rfl
    have OV:l∉c.F:=fun z=>by
      obtain⟨_,_,_,_,_,_,q2,_⟩:=W.gB b l eb
      rw[W.cC l (h2 l z).1 (h2 l z).2] at q2;cases q2
    exact⟨ns,i0,c0,st,n,hH _ _ hb g1,hH _ _ OV g2,g3⟩
  have other:∀(j:Nat) s,i≠j->ρ[j]?=some s->∀a∈s.adr,a∉c.F:=fun j s hij hs a m z=>W.dh i j c s hij e hs a z m
  refine⟨Xr,fun a n=>?_,fun a o n q=>?_,fun a n q=>?_,W.gA,by rw[gp];exact W.len,W.gB,fun h m=>((fH (W.fT h m)).av (hA h.1)).keep (bt h.1),fun j s e'=>?_,?_,?_,?_⟩
  · rcases n with n|n
    · by_cases z:a∈c.F
      · exact hl a (.inl z)
      · cases q:H a with
        |none=>exact absurd q (W.live a n)
        |some o=>rw[hH a o z q];exact g7 _
    · exact hl a (.inr n)
  · refine hH a o (fun z=>?_) (W.old a o n q)
    rw[W.cC a (h2 a z).1 n] at q;cases q
  · rcases n with n|n
    · exact W.cC a n q
    · rcases hF a n with z|z|z
      · exact W.cC a (h2 a z).1 q
      · cases w:G.H0 a with
        |none=>rfl
        |some o=>rw[W.old a o q w] at z;cases z
      · exact W.cC a z.1 q
  · by_cases hij:i=j
    · subst hij
      rw[cy hil] at e'
      cases e'
      exact⟨some c.v,e1,by rw[hv],fun a m=>⟨.inr m,gR a m⟩,h⟩
    · rw[bA hij] at e'
      obtain⟨x,e2,q⟩:=W.ok j s e'
      refine⟨x,e2,?_⟩
      have ap:=other j s hij e'
      cases s with
      |no=>trivial
      |d f d=>obtain⟨v,e,h⟩:=q;exact⟨v,e,((fD h).av (hA f)).keep (bt f)⟩
      |own a f es=>obtain⟨e,n,q,xs,hx,hd⟩:=q;exact⟨e, .inl n,q,xs,hH _ _ (ap a (az.mpr rfl)) hx,((vA hd).av (hA f)).keep (bt f)⟩
      |ao=>exact q
      |raw v=>exact q
      |ez a f es=>obtain⟨e,n,q,xs,hx,hd⟩:=q;exact⟨e, .inl n,q,xs,hH _ _ (ap a (az.mpr rfl)) hx,((u5 hd).av (hA f)).keep (bt f)⟩
      | cu c2 =>
        obtain⟨e,n,q⟩:=q
        refine⟨e,fun a ha=>⟨.inl (n a ha).1,(n a ha).2⟩,c2.keep (.of fun x o hx e=>hH x o ?_ e) (c2.av (hA c2.f) (gf (P:=fun S=>c2.P S H) (fun z h=>c2.av z h) (fun hp h=>c2.fresh hp h) ha q))⟩
        rcases hx with hx|hx
        · exact fun z=>hx (.inl (.inl (h2 x z).1))
        · exact ap x hx
  all_goals
    intro j k
  · intro a f as c2 g cs hjk q1 q2
    have hj:i≠j:=fun z=>by subst z;rw[cy hil] at q1;cases q1
    have hk:i≠k:=fun z=>by subst z;rw[cy hil] at q2;cases q2
    rw[bA hj] at q1
    rw[bA hk] at q2
    exact W.apart j k a f as c2 g cs hjk q1 q2
  · intro a f as c2 g cs hjk q1 q2
    have hj:i≠j:=fun z=>by subst z;rw[cy hil] at q1;cases q1
    have hk:i≠k:=fun z=>by subst z;rw[cy hil] at q2;cases q2
    rw[bA hj] at q1
    rw[bA hk] at q2
    exact W.gV j k a f as c2 g cs hjk q1 q2
  · intro c2 s hjk q1 q2 a m z
    have uT:∀(j:Nat) s,i≠j->ρ[j]?=some s->∀a∈s.adr,a∉c'.F:=fun j s hij hs a m z=>by
      rcases hF a z with w|w|w
      · exact other j s hij hs a m w
      · obtain⟨x,_,q⟩:=W.ok j s hs
        exact W.live a (q.wI a m).1 w
      · exact w.2.2 j s hs m
    by_cases hj:i=j
    · subst hj
      rw[cy hil] at q1
      cases q1
      rw[bA hjk] at q2
      exact uT k s hjk q2 a z m
    · rw[bA hj] at q1
      by_cases hk:i=k
      · subst hk
        rw[cy hil] at q2
        cases q2
        exact uT j _ hj q1 a m z
      · rw[bA hk] at q2
        exact W.dh j k c2 s hjk q1 q2 a m z
end
noncomputable def bK(G:Gx)(ρ:Rh)(te:TE)(Φ:Rh->Pd):Prop:=∀nb σ H (Q:VK),Wd G nb ρ σ H->(∀au ρ' f v H' d,Φ ρ' f d->Wd G au ρ' σ H'->af (G.S au f) H' d v->Q v H')->te σ H Q
noncomputable def uo(G:Gx)(ρ:Rh)(ta:TA)(Φ:Rh->List Fd->Prop):Prop:=∀nb σ H (Q:List V->Hp->Prop),Wd G nb ρ σ H->(∀au ρ' es vs H',Φ ρ' es->Wd G au ρ' σ H'->jw G au H' es vs->Q vs H')->ta σ H Q
section
variable{G:Gx}{ρ:Rh}{Φ:Rh->Pd}{ta tb te:TE}{t:TA}{c u:TT}{i:Nat}{E:DE}{s s':TS}
theorem bK.of(h:Ev G ρ te (Φ ρ)):bK G ρ te Φ:=fun nb σ H Q W z=>h nb σ H Q W fun f v H' d q st hv=>z nb ρ f v H' d q (W.step st) hv
theorem uo.cons{Θ:Rh->List Fd->Prop}(h:bK G ρ te fun ρ' f d=>Av G ρ' t fun es=>Θ ρ' ((f,d)::es)):uo G ρ (aL te t) Θ:=fun nb σ H Q W z=>
 h nb σ H _ W fun au ρ' f v H1 d p1 W1 q1=>p1 au σ H1 _ W1 fun es vs H2 p2 s2 q2=>z au ρ' _ _ H2 p2 (W1.step s2) ⟨v,vs,rfl,q1.keep s2.fG,q2⟩
theorem bK.nH{n:Nat}{F:DF}(hm:jM F)(h:uo G ρ t fun ρ' es=>es.length=n/\F (es.map (·.2)) fun f d=>Φ ρ' (f||iH es) d):bK G ρ (fq (ic n F) [] E0 t) Φ:=fun nb σ H Q W z=>
 h nb σ H _ W fun au ρ' es vs H1 ⟨hl,p⟩ W1 q1=>by
  rw[gm]
  refine⟨by rw[q1.len,hl],G.S au (iH es),es.map (·.2),W1.gb,q1.all fun z=>z,hm _ _ _ p fun f d hp v H' sm hd=>z au ρ' _ v H' d hp (W1.step (.same W1.ao sm)) (hd.av fun a q=>?_)⟩
  cases f with
  |false=>rw[nZ] at q;exact .inl q
  |true=>exact .inr ⟨rfl,W1.gb a q⟩
namespace Sv
theorem pS{g:TG}(h:bK G ρ te fun ρ' f d=>Gv G ρ' g f d E.nx):Sv G ρ (i6 te g) E:=fun nb σ H D W K=>h nb σ H _ W fun au ρ' f v H1 d q W1 hv=>q au σ H1 v _ W1 hv fun σ' ρ' p W'=>K.nx au ρ' σ' H1 p W'
theorem lJ(h:bK G ρ te fun ρ' f d=>∀nb v H,af (G.S nb f) H d v->E.rw nb ρ' v H):Sv G ρ (pN te) E:=fun nb σ H D W K=>h nb σ H _ W fun au ρ' f v H1 d q W1 hv=>K.rw au ρ' σ v H1 (q au v H1 hv) W1
end Sv
end
structure jo(c c':Cu)(H H':Hp):Prop where
 v:c'.v=c.v
 f:c'.f=false
 sub:∀a∈c.F,a∈c'.F
 new:∀a∈c'.F,a∈c.F\/H a=none
 kp:∀a o,a∉c.F->H a=some o->H' a=some o
 lv:∀a∈c'.F,H' a≠none
noncomputable abbrev CF:=Cu->List PyData->(Cu->Pd)->Prop
noncomputable def pP(F:CF):Prop:=∀c ds (Φ Ψ:Cu->Pd),F c ds Φ->(∀c f d,Φ c f d->Ψ c f d)->F c ds Ψ
noncomputable def iC(n:Nat)(F:CF):Sp:=fun vs H Q _=>vs.length=n/\∃(nb:Addr->Prop) (c:Cu) (ws:List V) (ds:List PyData),vs=c.v::ws/\dX nb H/\(∀a∈c.F,nb a)/\c.f=false/\c.P nb H/\ah nb H ds ws/\
 F c ds fun c' f d=>∀v H',jo c c' H H'->c'.P (fun a=>nb a\/a∈c'.F) H'->af (fun a=>nb a\/a∈c'.F\/(f=true/\H a≠none)) H' d v->Q v H'
section
variable{G:Gx}{ρ:Rh}{Φ:Rh->Pd}{ta tb te:TE}{t:TA}{i:Nat}{E:DE}{c:Cu}{C:Addr}{m:Str}{n:Nat}{F:CF}
theorem bK.Lg{nb:Addr->Prop}{σ:St}{H1:Hp}{Q:VK}{es:List Fd}{vs:List V}(hm:pP F)(e:ρ[i]?=some (.cu c))(W1:Wd G nb ρ σ H1)(q1:jw G nb H1 es vs)(hl:es.length+1=n)(hcf:c.f=false)(p:F c (es.map (·.2)) fun c' f d=>Φ (ρ.set i (.cu c')) f d)
  (z:∀au ρ' f v H' d,Φ ρ' f d->Wd G au ρ' σ H'->af (G.S au f) H' d v->Q v H'):iC n F (c.v::(vs++[])) H1 Q E0:=by
 rw[gm]
 obtain⟨x0,e1,h1,h2,h3⟩:=W1.ok i _ e
 refine⟨by rw[bw,q1.len,hl],G.S nb false,c,vs,es.map (·.2),rfl,W1.gb,fun a m=> .inl (h2 a m).1,hcf,by rw[hcf] at h3;exact h3,q1.all (f:=false) (fun z=>by cases z),hm _ _ _ _ p fun c' f d hp v H' to hP hd=>?_⟩
 refine z _ _ f v H' d hp (W1.Ea (c':=c') e to.kp to.v (fun a m=>(to.new a m).imp id .inl) (fun a m=>m.elim (fun m=>to.lv a (to.sub a m)) fun m=>to.lv a m) (c'.av (fun a y=>?_) hP)) (hd.av fun a y=>?_)
 ·rw[to.f] at y
  rcases y with (y|y)|y|y|y
  ·exact .inl (.inl y)
  ·exact .inr y
  ·exact .inl (.inr (.inl y))
  ·exact .inl (.inr (.inr (.inl y)))
  ·cases y.1
 ·rcases y with (y|y)|y|y|y
  ·exact .inl (.inl y)
  ·exact .inr (.inl y)
  ·exact .inl (.inr (.inl y))
  ·exact .inl (.inr (.inr (.inl y)))
  ·exact .inr (.inr ⟨y.1,W1.gb (f:=true) a (.inr (.inr (.inr ⟨rfl,y.2⟩)))⟩)
theorem bK.Lm(hm:pP F)(e:ρ[i]?=some (.cu c))(hcf:c.f=false)(hi:∀S H,c.P S H->∃a dx fs,c.v= .ref a/\H a=some (.ins C dx fs)/\fs.lookup m=none)
  (h:Av G ρ t fun es=>es.length+1=n/\F c (es.map (·.2)) fun c' f d=>Φ (ρ.set i (.cu c')) f d):bK G ρ (n5 C m (iC n F) [] E0 (bf i) t) Φ:=fun nb σ H Q W z=>by
 obtain⟨x0,e1,h1,h2,h3⟩:=W.ok i _ e
 subst h1
 obtain⟨a,dx,fs,g1,g2,g3⟩:=hi _ _ h3
 refine⟨c.v,e1,a,dx,fs,g1,g2,g3,h nb σ H _ W fun es vs H1 ⟨hl,p⟩ s1 q1=>?_⟩
 exact bK.Lg hm e (W.step s1) q1 hl hcf p z
theorem bK.callC(hm:pP F)(e:ρ[i]?=some (.cu c))(hcf:c.f=false)(h:Av G ρ t fun es=>es.length+1=n/\F c (es.map (·.2)) fun c' f d=>Φ (ρ.set i (.cu c')) f d):bK G ρ (fq (iC n F) [] E0 (aL (bf i) t)) Φ:=fun nb σ H Q W z=>by
 obtain⟨x0,e1,h1,h2,h3⟩:=W.ok i _ e
 subst h1
 refine⟨c.v,e1,h nb σ H _ W fun es vs H1 ⟨hl,p⟩ s1 q1=>?_⟩
 exact bK.Lg hm e (W.step s1) q1 hl hcf p z
end
noncomputable def jP(F:List Addr)(H:Hp)(nb:Addr->Prop):Gx:=⟨none,fun a=>if a∈F then none else H a,fun a=>nb a/\a∉F,[]⟩
structure kc(c c':Cu):Prop where
 v:c'.v=c.v
 f:c'.f=false
 sub:∀a∈c.F,a∈c'.F
theorem kc.refl{c:Cu}(h:c.f=false):kc c c:=⟨rfl,h,fun _ m=>m⟩
noncomputable def objE(G:Gx)(c:Cu)(Φ:Cu->Pd):DE where
 nx:=fun ρ=>∃c',ρ[0]?=some (.cu c')/\kc c c'/\Φ c' true .none
 rt:=fun _ _=>False
 rw:=fun nb ρ v H=>∃c' f d,ρ[0]?=some (.cu c')/\kc c c'/\Φ c' f d/\af (G.S nb f) H d v
section
variable{ρ:Rh}{t:TS}{N:List Str}{ws:List V}{ds:List PyData}{nb:Addr->Prop}{H:Hp}{Q:VK}{Φ:Cu->Pd}{c:Cu}
theorem Sv.wM(hl:dX nb H)(hF:∀a∈c.F,nb a)(hf:c.f=false)(hP:c.P nb H)(hd:ah nb H ds ws)
    (aC:∀c' f d v H',Φ c' f d->jo c c' H H'->c'.P (fun a=>nb a\/a∈c'.F) H'->af (fun a=>nb a\/a∈c'.F\/(f=true/\H a≠none)) H' d v->Q v H')
    (bQ:ρ= .cu c::ds.map (Sl.d false)++List.replicate (N.length-(ds.length+1)) .no) (h:Sv (jP c.F H nb) ρ t (objE (jP c.F H nb) c Φ)):t {nx:=fun _ H'=>Q .aB H',rt:=Q} (start N (c.v::ws)) H:=by
  have hlen:=hd.length
  have gR:∀a,NB (jP c.F H nb).B a:=fun a b l e=>by cases e
  have key:∀{au ρ' σ' H' c'} {f:Bool} {d:PyData} {v:V},Wd (jP c.F H nb) au ρ' σ' H'->ρ'[0]?=some (.cu c')->kc c c'->Φ c' f d->af ((jP c.F H nb).S au f) H' d v->Q v H':=fun{au ρ' σ' H' c' f d v} W e up p hv=>by
    obtain⟨x0,e1,h1,h2,h3⟩:=W.ok 0 _ e
    have tT:∀(f:Bool) a,nb a\/a∈c'.F\/(f=true/\H a≠none)->(jP c.F H nb).S au f a:=fun f a z=>by
      by_cases m:a∈c'.F
      · exact .inl (h2 a m).1
      have m':a∉c.F:=fun z=>m (up.sub a z)
      rcases z with z|z|z
      · exact .inr (.inl ⟨z,m'⟩)
      · exact absurd z m
      · exact .inr (.inr (.inr ⟨z.1,by show(if a∈c.F then none else H a)≠none;rw[if_neg m'];exact z.2⟩))
    refine aC c' f d v H' p ⟨up.v,up.f,up.sub,fun a m=>?_,fun a o n q=>?_,fun a m=>W.live a (h2 a m).1⟩ (c'.av (fun a z=>by rw[up.f];exact tT false a (z.elim .inl fun z=> .inr (.inl z))) h3) (hv.av (tT f))
    · have:=W.cC a (h2 a m).1 (h2 a m).2
      by_cases z:a∈c.F
      · exact .inl z
      · exact .inr (by have q:(if a∈c.F then none else H a)=none:=this;rwa[if_neg z] at q)
    · exact W.old a o (gR a) (by show(if a∈c.F then none else H a)=_;rw[if_neg n];exact q)
  refine h (fun a=>a∈c.F) _ H _ ⟨fun _ _ z=>(by cases z),fun a z=>hl a (hF a z),fun a o _ e=>?_,fun a z _=>by show(if a∈c.F then none else H a)=none;rw[if_pos z],fun a z=>?_,?_,fun _ _ z=>(by cases z),fun _ m=>(by cases m),fun i s e=>?_,?_,?_,?_⟩ ⟨fun au ρ' σ' H' ⟨c',e,up,p⟩ W=>key W e up p .aB,fun _ _ _ _ q _=>q.elim,fun _ _ _ _ q _=>q.elim,fun _ _ _ _ _ _ _ q _ _=>q.elim,fun au ρ' σ' v H' ⟨c',f,d,e,up,p,hv⟩ W=>key W e up p hv⟩
  · have e:(if a∈c.F then none else H a)=some o:=e
    by_cases z:a∈c.F
    · rw[if_pos z] at e;cases e
    · rwa[if_neg z] at e
  · show(if a∈c.F then none else H a)≠none
    rw[if_neg z.2];exact hl a z.1
  · rw[bQ];unfold start;simp[hlen]
  · rw[bQ] at e
    unfold start
    have av:∀a,(jP c.F H nb).S (fun a=>a∈c.F) false a->nb a:=fun a z=>by
      rcases z with z|z|z|z
      · exact hF a z
      · exact z.1
      · exact absurd (gR a) z
      · cases z.1
    cases i with
    |zero=>simp at e;subst e;exact⟨some c.v,by simp,rfl,fun a m=>⟨m,gR a⟩,by rw[hf];exact c.av av hP⟩
    | succ i =>
      simp only[jk,i8,bx,bw] at e⊢
      by_cases hi:i<ds.length
      · rw[dz (by rw[ay];exact hi)] at e
        obtain⟨v,d,hv,rfl,q⟩:=jS hd e
        refine⟨some v,?_,v,rfl,q.av av⟩
        rw[dz (by rw[ay,hlen];exact hi),dG,hv];rfl
      · rw[dP (by rw[ay];walk_at "o"),dj] at e
        split at e
        · rename_i h'
          cases e
          refine⟨none,?_,trivial⟩
          rw[ay] at h'
          rw[dP (by rw[ay];walk_at "o"),dj,if_pos (by rw[ay,hlen];exact h')]
        · cases e
  all_goals
    have sl:∀{i:Nat} {s:Sl},ρ[i+1]?=some s->s.adr=[]:=fun{i s} e1=>by
      rw[bQ] at e1
      simp only[jk,i8] at e1
      by_cases hi:i<ds.length
      · rw[dz (by rw[ay];exact hi)] at e1
        obtain⟨_,_,_,z,_⟩:=jS hd e1
        subst z;rfl
      · rw[dP (by rw[ay];walk_at "o"),dj] at e1
        split at e1
        · cases e1;rfl
        · cases e1
    have s0:∀{s:Sl},ρ[0]?=some s->s= .cu c:=fun{s} e1=>by rw[bQ] at e1;simp at e1;exact e1.symm
  · intro i j a f as c2 g cs hij e1
    cases i with
    |zero=>cases s0 e1
    |succ i=>cases sl e1
  · intro i j a f as c2 g cs hij e1
    cases i with
    |zero=>cases s0 e1
    |succ i=>cases sl e1
  · intro i j c2 s hij e1 e2 a m
    cases i with
    | zero =>
      cases j with
      |zero=>exact absurd rfl hij
      |succ j=>rw[sl e2];exact fun z=>by cases z
    | succ i =>
      have:=sl e1
      rw[show Sl.adr (.cu c2)=c2.F from rfl] at this
      rw[this] at m;cases m
end
end L2
set_option maxRecDepth 100000
set_option maxHeartbeats 4000000
namespace L2
open PySem PySem.Spec PyProof.Rows
theorem Kp.sub{S:Addr->Prop}{F F':List Addr}{H H':Hp}(k:Kp S F H H')(h:∀a∈F',a∈F):Kp S F' H H':=⟨fun a m=>k.own a (h a m),k.lst,k.tup,k.ez⟩
noncomputable def eg(a:Addr)(ks:List (Int×PyData)):Cu where
 v:= .ref a
 F:=[a]
 f:=false
 P:=fun S H=>∃ps,H a=some (.dK ps)/\aq S H (ks.map fZ) ps
 keep:=fun k ⟨xs,h,q⟩=>⟨xs,k.own _ (az.mpr rfl) _ h,aq.kp k q⟩
 av:=fun z ⟨xs,h,q⟩=>⟨xs,h,q.av z⟩
 fresh:=fun z ⟨xs,h,q⟩=>⟨xs,h,q.fresh z⟩
inductive Fl where
 |d (d:PyData)|cu (c:Cu)
noncomputable def Fl.adr:Fl->List Addr
 | .d _=>[]
 | .cu c=>c.F
noncomputable def kW(S:Addr->Prop)(H:Hp)(v:V):Fl->Prop
 | .d d=>af S H d v
 | .cu c=>v=c.v/\c.P S H
noncomputable abbrev Fs:=List (Str×Fl)
noncomputable def bL(S:Addr->Prop)(H:Hp):Fs->List (Str×V)->Prop
 |[],vs=>vs=[]
 |f::fs,vs=>∃v ws,vs=(f.1,v)::ws/\kW S H v f.2/\bL S H fs ws
noncomputable def cA(x dx:Addr)(fs:Fs):List Addr:=x::dx::fs.flatMap fun f=>f.2.adr
theorem kW.map{S S':Addr->Prop}{H H':Hp}{v:V}{fl:Fl}(h:kW S H v fl)(hd:∀d v,af S H d v->af S' H' d v)(hc:∀c,fl= .cu c->c.P S H->c.P S' H'):kW S' H' v fl:=by
 cases fl with
 |d d=>exact hd _ _ h
 |cu c=>exact⟨h.1,hc c rfl h.2⟩
theorem bL.map{S S':Addr->Prop}{H H':Hp}:∀{fs:Fs} {vs:List (Str×V)},bL S H fs vs->(∀d v,af S H d v->af S' H' d v)->(∀f∈fs,∀c,f.2= .cu c->c.P S H->c.P S' H')->bL S' H' fs vs
 |[],_,h,_,_=>h
 |f::fs,_,⟨v,ws,e,h1,h2⟩,hd,hc=>⟨v,ws,e,h1.map hd (hc f (bT ..)),bL.map h2 hd fun g m=>hc g (bJ _ m)⟩
theorem Fx{x dx:Addr}{fs:Fs}{f:Str×Fl}(h:f∈fs){a:Addr}(m:a∈f.2.adr):a∈cA x dx fs:=bJ _ (bJ _ (tK.mpr ⟨f,h,m⟩))
noncomputable def bB(C x dx:Addr)(fs:Fs):Cu where
 v:= .ref x
 F:=cA x dx fs
 f:=false
 P:=fun S H=>(cA x dx fs).Nodup/\H dx=some (.own x)/\fs.length<=900/\∃vs,H x=some (.ins C dx vs)/\bL S H fs vs
 keep:=fun k ⟨n,h,l,vs,q,r⟩=>⟨n,k.own _ (by simp[cA]) _ h,l,vs,k.own _ (by simp[cA]) _ q,r.map (fun d v z=>af.kp k z) fun f m c e z=>c.keep (k.sub fun a y=>Fx m (by rw[e];exact y)) z⟩
 av:=fun z ⟨n,h,l,vs,q,r⟩=>⟨n,h,l,vs,q,r.map (fun d v y=>y.av z) fun f m c e y=>c.av z y⟩
 fresh:=fun z ⟨n,h,l,vs,q,r⟩=>⟨n,h,l,vs,q,r.map (fun d v y=>y.fresh z) fun f m c e y=>c.fresh z y⟩
theorem bL.get{S:Addr->Prop}{H:Hp}{f:Str}{fl:Fl}:∀{fs:Fs} {vs:List (Str×V)},bL S H fs vs->fs.lookup f=some fl->∃v,vs.lookup f=some v/\kW S H v fl
  |[],_,h,e=>by simp at e
  | (g, x) :: fs, _, ⟨v, ws, e, h1, h2⟩, q => by
    subst e
    rw[bG] at q⊢
    cases hb:(f==g) with
    |true=>rw[hb] at q;cases q;exact⟨v,rfl,h1⟩
    |false=>rw[hb] at q;exact bL.get h2 q
theorem bL.no{S:Addr->Prop}{H:Hp}{f:Str}:∀{fs:Fs} {vs:List (Str×V)},bL S H fs vs->fs.lookup f=none->vs.lookup f=none
  |[],_,h,e=>by unfold bL at h;subst h;rfl
  | (g, x) :: fs, _, ⟨v, ws, e, h1, h2⟩, q => by
    subst e
    rw[bG] at q⊢
    cases hb:(f==g) with
    |true=>rw[hb] at q;cases q
    |false=>rw[hb] at q;exact bL.no h2 q
noncomputable def cO(f:Str)(v:Fl):Fs->Fs
 |[]=>[(f,v)]
 |(g,x)::r=>if g=f then(g,v)::r else(g,x)::cO f v r
theorem bL.put{S:Addr->Prop}{H:Hp}{f:Str}{fl:Fl}{v:V}(hv:kW S H v fl):∀{fs:Fs} {vs:List (Str×V)},bL S H fs vs->bL S H (cO f fl fs) (fh f v vs)
  |[],_,h=>by unfold bL at h;subst h;exact⟨v,[],rfl,hv,rfl⟩
  | (g, x) :: fs, _, ⟨w, ws, e, h1, h2⟩ => by
    subst e
    unfold cO fh
    by_cases h:g=f
    · rw[if_pos h,if_pos h];exact⟨v,ws,rfl,hv,h2⟩
    · rw[if_neg h,if_neg h];exact⟨w,_,rfl,h1,bL.put hv h2⟩
theorem bL.len{S:Addr->Prop}{H:Hp}:∀{fs:Fs} {vs:List (Str×V)},bL S H fs vs->vs.length=fs.length
 |[],_,h=>by unfold bL at h;subst h;rfl
 |f::fs,_,⟨v,ws,e,h1,h2⟩=>by subst e;simp[bL.len h2]
theorem bB.is{C x dx:Addr}{fs:Fs}{m:Str}(hm:fs.lookup m=none):∀S H,(bB C x dx fs).P S H->∃a dx' vs,(bB C x dx fs).v= .ref a/\H a=some (.ins C dx' vs)/\vs.lookup m=none:=fun S H ⟨n,h,l,vs,q,r⟩=>⟨x,dx,vs,rfl,q,r.no hm⟩
section
variable{G:Gx}{ρ:Rh}{Φ:Pd}{ta tb te:TE}{t:TA}{i:Nat}{E:DE}{C x dx l:Addr}{fs:Fs}{K:PySem.W.Frag}{f m:Str}{d:PyData}{ds:List PyData}
theorem Wd.pX{nb:Addr->Prop}{σ:St}{H:Hp}(W:Wd G nb ρ σ H)(e:ρ[i]?=some (.cu (bB C x dx fs))):∃vs,σ[i]?=some (some (.ref x))/\(∀a∈cA x dx fs,nb a/\NB G.B a)/\(cA x dx fs).Nodup/\H dx=some (.own x)/\fs.length<=900/\H x=some (.ins C dx vs)/\bL (G.S nb false) H fs vs:=by
 obtain⟨x0,e1,h1,h2,n,h,l,vs,q,r⟩:=W.ok i _ e
 subst h1
 exact⟨vs,e1,h2,n,h,l,q,r⟩
theorem Ev.fld(e:ρ[i]?=some (.cu (bB C x dx fs)))(cl:cZ K C)(na:cF K C f)(hl:fs.lookup f=some (.d d))(h:Φ false d):Ev G ρ (n9 K (bf i) f) Φ:=fun nb σ H Q W z=>by
 obtain⟨vs,e1,h2,n,h3,l,q,r⟩:=W.pX e
 obtain⟨v,g1,g2⟩:=r.get hl
 exact⟨.ref x,e1,x,C,dx,vs,v,rfl,q,cl,na,g1,z false v H d h (.refl W.ao) g2⟩
theorem lookup_mem{fl:Fl}:∀{fs:Fs},fs.lookup f=some fl->(f,fl)∈fs
  |[],h=>by simp at h
  | (g, y) :: r, h => by
    rw[bG] at h
    cases hb:(f==g) with
    |true=>rw[hb] at h;cases h;rw[beq_iff_eq.mp hb];exact bT ..
    |false=>rw[hb] at h;exact bJ _ (lookup_mem h)
theorem BS{fl:Fl}(hl:fs.lookup f=some fl){a:Addr}(m:a∈fl.adr):a∈cA x dx fs:=Fx (lookup_mem hl) m
theorem CS{nb:Addr->Prop}{σ:St}{H:Hp}{Q:VK}{c:Cu}(W:Wd G nb ρ σ H)(e:ρ[i]?=some (.cu (bB C x dx fs)))(cl:cZ K C)(na:cF K C f)(hl:fs.lookup f=some (.cu c))
  (z:(∀a∈c.F,nb a/\NB G.B a)->c.P (G.S nb false) H->Q c.v H):n9 K (bf i) f σ H Q:=by
 obtain⟨vs,e1,h2,n,h3,len,q,r⟩:=W.pX e
 obtain⟨v,g1,g2,g3⟩:=r.get hl
 exact⟨.ref x,e1,x,C,dx,vs,v,rfl,q,cl,na,g1,by rw[g2];exact z (fun a m=>h2 a (BS hl m)) g3⟩
theorem Dy{fl qR:Fl}(h':qR.adr=fl.adr):∀{fs:Fs},fs.lookup f=some fl->((cO f qR fs).flatMap fun g=>g.2.adr)=fs.flatMap fun g=>g.2.adr
  |[],h=>by simp at h
  | (g, y) :: r, h => by
    unfold cO
    rw[bG] at h
    cases hb:(f==g) with
    | true =>
      rw[hb] at h;cases h
      rw[if_pos (beq_iff_eq.mp hb).symm,p7,p7,h']
    | false =>
      rw[hb] at h
      rw[if_neg (fun z=>by rw[z,beq_self_eq_true] at hb;cases hb),p7,p7,Dy h' h]
theorem AL{fl qR:Fl}:∀{fs:Fs},fs.lookup f=some fl->(cO f qR fs).length=fs.length
  |[],h=>by simp at h
  | (g, y) :: r, h => by
    unfold cO
    rw[bG] at h
    cases hb:(f==g) with
    |true=>rw[if_pos (beq_iff_eq.mp hb).symm];rfl
    | false =>
      rw[hb] at h
      rw[if_neg (fun z=>by rw[z,beq_self_eq_true] at hb;cases hb),bw,bw,AL h]
theorem kW.wr{S:Addr->Prop}{H:Hp}{v:V}{fl:Fl}{p:Addr}{o:HO}(hS:S p)(hp:p∉fl.adr)(h:kW S H v fl):kW S (upd H p o) v fl:=
 h.map (fun d v z=>z.keep (aM.set hS)) fun c e z=>c.keep (.of fun a o' m q=>by
  rw[aT]
  ·exact q
  ·rintro rfl
   rcases m with m|m
   ·exact m hS
   ·rw[e] at hp;exact hp m) z
theorem bL.Cs{S:Addr->Prop}{H:Hp}{p:Addr}{o:HO}(hS:S p):∀{fs:Fs} {vs:List (Str×V)},(p∉fs.flatMap fun g=>g.2.adr)->bL S H fs vs->bL S (upd H p o) fs vs
  |[],_,_,h=>h
  | g :: fs, _, hp, ⟨v, ws, e, h1, h2⟩ => by
    rw[p7,jc] at hp
    exact⟨v,ws,e,h1.wr hS fun z=>hp (.inl z),bL.Cs hS (fun z=>hp (.inr z)) h2⟩
theorem bL.wr{S:Addr->Prop}{H:Hp}{p:Addr}{o:HO}{c c':Cu}(hS:S p)(hp:p∈c.F)(hv:c'.v=c.v)(hc:c'.P S (upd H p o)):∀{fs:Fs} {vs:List (Str×V)},(fs.flatMap fun g=>g.2.adr).Nodup->fs.lookup f=some (.cu c)->bL S H fs vs->bL S (upd H p o) (cO f (.cu c') fs) vs
  |[],_,_,h,_=>by simp at h
  | (g, y) :: r, _, hn, h, ⟨v, ws, e, h1, h2⟩ => by
    unfold cO
    rw[p7,EB] at hn
    rw[bG] at h
    cases hb:(f==g) with
    | true =>
      rw[hb] at h;cases h
      rw[if_pos (beq_iff_eq.mp hb).symm]
      exact⟨v,ws,e,⟨by rw[hv];exact h1.1,hc⟩,bL.Cs hS (fun z=>hn.2.2 p hp p z rfl) h2⟩
    | false =>
      rw[hb] at h
      rw[if_neg (fun z=>by rw[z,beq_self_eq_true] at hb;cases hb)]
      exact⟨v,ws,e,h1.wr hS fun z=>hn.2.2 p z p (tK.mpr ⟨_,lookup_mem h,hp⟩) rfl,bL.wr hS hp hv hc hn.2.1 h h2⟩
theorem Wd.Hy{nb:Addr->Prop}{σ:St}{H:Hp}{c c':Cu}{p:Addr}{o:HO}(W:Wd G nb ρ σ H)(e:ρ[i]?=some (.cu (bB C x dx fs)))(hl:fs.lookup f=some (.cu c))(hp:p∈c.F)(hv:c'.v=c.v)(hF:c'.F=c.F)(h:c'.P (G.S nb false) (upd H p o)):
  Wd G nb (ρ.set i (.cu (bB C x dx (cO f (.cu c') fs)))) σ (upd H p o):=by
 obtain⟨vs,e1,h2,n,h3,len,q,r⟩:=W.pX e
 have J5:p∈cA x dx fs:=BS hl hp
 have hS:G.S nb false p:= .inl (h2 p J5).1
 have hn:=n
 unfold cA at hn
 obtain⟨n1,n2⟩:=fW.mp hn
 obtain⟨n3,n4⟩:=fW.mp n2
 have hin:p∈fs.flatMap fun g=>g.2.adr:=tK.mpr ⟨_,lookup_mem hl,hp⟩
 have hpx:x≠p:=fun z=>n1 (by rw[z];exact bJ _ hin)
 have U1:dx≠p:=fun z=>n3 (by rw[z];exact hin)
 have eF:cA x dx (cO f (.cu c') fs)=cA x dx fs:=by unfold cA;rw[Dy (fl:= .cu c) (qR:= .cu c') hF hl]
 refine W.sY (c':=bB C x dx (cO f (.cu c') fs)) e J5 rfl (fun a m=>by rw[show(bB C x dx (cO f (.cu c') fs)).F=cA x dx fs from eF] at m;exact m) ?_
 exact⟨by rw[eF];exact n,by rw[aT U1];exact h3,by rw[AL hl];exact len,vs,by rw[aT hpx];exact q,bL.wr hS hp hv h n4 hl r⟩
theorem bL.Ih{S:Addr->Prop}{H:Hp}{fl:Fl}{v:V}{p:Addr}{o:HO}(hS:S p)(hv:kW S (upd H p o) v fl){fs:Fs}{vs:List (Str×V)}(hp:p∉fs.flatMap fun g=>g.2.adr)(h:bL S H fs vs):bL S (upd H p o) (cO f fl fs) (fh f v vs):=bL.put hv (bL.Cs hS hp h)
theorem vE{fl:Fl}:∀{fs:Fs},fs.lookup f=none->cO f fl fs=fs++[(f,fl)]
  |[],_=>rfl
  | (g, y) :: r, h => by
    unfold cO
    rw[bG] at h
    cases hb:(f==g) with
    |true=>rw[hb] at h;cases h
    | false =>
      rw[hb] at h
      rw[if_neg (fun z=>by rw[z,beq_self_eq_true] at hb;cases hb),vE h];rfl
theorem Sv.mX(e:ρ[i]?=some (.cu (bB C x dx fs)))(cl:cZ K C)(na:cF K C f)(hl:fs.lookup f=none\/∃d0,fs.lookup f=some (.d d0))(hlen:fs.length<900)(h:Ev G ρ te fun _ d=>E.nx (ρ.set i (.cu (bB C x dx (cO f (.d d) fs))))):Sv G ρ (Bb K (bf i) te f) E:=fun nb σ H D W KK=>
 h nb σ H _ W fun fg v H1 d q s1 hv=>by
  have W1:=W.step s1
  obtain⟨vs,e1,h2,n,h3,len,qx,r⟩:=W1.pX e
  have uN:G.S nb false x:= .inl (h2 x (by simp[cA])).1
  have hn:=n
  unfold cA at hn
  obtain⟨n1,n2⟩:=fW.mp hn
  have hdx:dx≠x:=fun z=>n1 (by rw[z];exact bT ..)
  have hx:x∉fs.flatMap fun g=>g.2.adr:=fun z=>n1 (bJ _ z)
  have eF:cA x dx (cO f (.d d) fs)=cA x dx fs:=by
   unfold cA
   rcases hl with hl|⟨d0,hl⟩
   ·rw[vE hl,M5]
    show _::_::(_++([]++[]))=_
    rw[gm,gm]
   ·rw[Dy (fl:= .d d0) (qR:= .d d) rfl hl]
  have eL:(cO f (.d d) fs).length<=900:=by
   rcases hl with hl|⟨d0,hl⟩
   ·rw[vE hl,fu,lV];walk_at "o"
   ·rw[AL hl];exact len
  refine⟨.ref x,e1,x,C,dx,vs,rfl,qx,cl,na,by rw[r.len];walk_at "o",KK.nx nb _ _ _ q ?_⟩
  refine W1.sY (c':=bB C x dx (cO f (.d d) fs)) e (by show x∈cA x dx fs;simp[cA]) rfl (fun a m=>by rw[show(bB C x dx (cO f (.d d) fs)).F=cA x dx fs from eF] at m;exact m) ?_
  refine⟨by rw[eF];exact n,by rw[aT hdx];exact h3,eL,_,aQ,bL.Ih uN ?_ hx r⟩
  exact(hv.av (bX (fun z=>by cases z) fun _ z=>z)).keep (aM.set uN)
theorem Wd.Sy{nb:Addr->Prop}{σ:St}{H H1:Hp}{c:Cu}{vs:List (Str×V)}{l:Addr}(W:Wd G nb ρ σ H)(s1:Step G.B H H1)(e:ρ[i]?=some (.cu (bB C x dx fs)))(hl:fs.lookup f=none)(hlen:fs.length<900)(eN:c.F=[l])(zQ:c.v= .ref l)(t8:H l=none)(hl1:H1 l≠none)
  (hP:c.P (fun a=>G.S nb false a\/a=l) H1) (qx:H1 x=some (.ins C dx vs)):Wd G (fun a=>(nb a\/a∈[l])\/a∈cA x dx (fs++[(f, .cu c)])) (ρ.set i (.cu (bB C x dx (fs++[(f, .cu c)])))) σ (upd H1 x (.ins C dx (fh f c.v vs))):=by
 have PD:∀a∈[l],H a=none:=fun a m=>by rw[az.mp m];exact t8
 obtain⟨Zy,e0,Qn,_⟩:=W.pX e
 have m7:l∉cA x dx fs:=fun z=>W.live l (Qn l z).1 t8
 obtain⟨W1,Vq,S1⟩:=W.Gk s1 PD (fun a m=>by rw[az.mp m];exact hl1)
 obtain⟨vs',e1,h2,n,h3,len,NN,r⟩:=W1.pX e
 rw[qx] at NN
 cases NN
 have hn:=n
 unfold cA at hn
 obtain⟨n1,n2⟩:=fW.mp hn
 have hdx:dx≠x:=fun z=>n1 (by rw[z];exact bT ..)
 have hx:x∉fs.flatMap fun g=>g.2.adr:=fun z=>n1 (bJ _ z)
 have hlx:l≠x:=fun z=>m7 (by rw[z];simp[cA])
 have NR:x∈cA x dx fs:=by simp[cA]
 have eF:cA x dx (fs++[(f, .cu c)])=cA x dx fs++[l]:=by
  unfold cA
  rw[M5]
  show _::_::(_++(c.F++[]))=_
  rw[eN]
  rfl
 have hS:∀{a},G.S (fun y=>(nb y\/y∈[l])\/y∈cA x dx (fs++[(f, .cu c)])) false a->G.S (fun y=>nb y\/y∈[l]) false a:=fun{a} z=>by
  rcases z with (z|z)|z|z|z
  ·exact .inl z
  ·rw[eF,jc] at z
   rcases z with z|z
   ·exact .inl (h2 a z).1
   ·exact .inl (.inr z)
  ·exact .inr (.inl z)
  ·exact .inr (.inr (.inl z))
  ·exact .inr (.inr (.inr z))
 refine W1.Ea (c:=bB C x dx fs) (c':=bB C x dx (fs++[(f, .cu c)])) e (fun a o na q=>?_) rfl (fun a m=>?_) (fun a m=>?_) ?_
 ·rw[aT (fun z=>na (by rw[z];exact NR))];exact q
 ·rw[show(bB C x dx (fs++[(f, .cu c)])).F=cA x dx fs++[l] from eF,jc] at m
  rcases m with m|m
  ·exact .inl m
  ·rw[az.mp m]
   refine .inr (.inr ⟨.inr (az.mpr rfl),Vq l (az.mpr rfl),fun j s hs z=>?_⟩)
   obtain⟨y,_,q⟩:=W.ok j s hs
   exact W.live l (q.wI l z).1 t8
 ·by_cases z:a=x
  ·rw[z,aQ];exact g7 _
  ·rw[aT z]
   rcases m with m|m
   ·exact W1.live a (h2 a m).1
   ·rw[show(bB C x dx (fs++[(f, .cu c)])).F=cA x dx fs++[l] from eF,jc] at m
    rcases m with m|m
    ·exact W1.live a (h2 a m).1
    ·rw[az.mp m];exact hl1
 ·refine⟨?_,by rw[aT hdx];exact h3,by rw[fu,lV];walk_at "o",_,aQ,?_⟩
  ·rw[eF,EB]
   exact⟨n,by simp,fun a m b m' z=>m7 (by rw[az.mp m'] at z;rw[<-z];exact m)⟩
  ·have uN:G.S (fun y=>nb y\/y∈[l]) false x:= .inl (h2 x NR).1
   have:=bL.Ih (f:=f) (fl:= .cu c) (v:=c.v) (o:= .ins C dx (fh f c.v vs)) uN ⟨rfl,c.keep (S:=G.S (fun y=>nb y\/y∈[l]) false) (.of fun a o m q=>?_) (c.av (fun a z=>?_) hP)⟩ hx r
   ·rw[vE hl] at this
    exact this.map (fun d v z=>z.av fun a=>hS) fun g m c' e z=>c'.av (fun a=>hS) z
   ·rw[aT]
    ·exact q
    ·rintro rfl
     rcases m with m|m
     ·exact m uN
     ·rw[eN] at m;exact hlx (az.mp m).symm
   ·rcases S1 false a z with z|z
    ·exact .inl z
    ·exact .inr (az.mp z)
noncomputable def pQ(G:Gx)(ρ:Rh)(ta:TA)(Φ:List PyData->Prop):Prop:=∀nb σ H (Q:List V->Hp->Prop),Wd G nb ρ σ H->(∀ds vs H',Φ ds->Step G.B H H'->ah (fun a=>¬NB G.B a) H' ds vs->Q vs H')->ta σ H Q
theorem pQ.nil{Θ:List PyData->Prop}(h:Θ []):pQ G ρ aX Θ:=fun nb σ H Q W z=>z [] [] H h (.refl W.ao) .nil
theorem Sv.make{n:Nat}{F:CF}(hm:pP F)(h:Av G ρ t fun es=>es.length+1=n/\∀x dx,F (bB C x dx []) (es.map (·.2)) fun c' _ d=>d= .none/\E.nx (ρ.set i (.cu c'))):Sv G ρ (i6 (Dj C (iC n F) [] E0 t) (gC i)) E:=fun nb σ H D W KK=>
 h nb σ H _ W fun es vs H1 ⟨hl,p⟩ s1 q1 x dx hx hdx hne=>by
  have W1:=W.step s1
  have hsm:bu H1 (upd (upd H1 dx (.own x)) x (.ins C dx [])):=fun a o e=>by
   rw[aT (iF e hx),aT (iF e hdx)];exact e
  have Xc:∀a,G.S nb false a->H1 a≠none:=fun a y=>W1.gb a y
  have fD:ah (fun a=>G.S nb false a\/a∈[x,dx]) (upd (upd H1 dx (.own x)) x (.ins C dx [])) (es.map (·.2)) vs:=by
   have hq:=q1.all (f:=false) fun z=>by cases z
   generalize es.map (·.2)=dl at hq
   refine ah.keep (aM.of hsm) ?_
   exact gf (P:=fun S=>ah S H1 dl vs) (fun z h=>ah.av z h) (fun hp h=>ah.fresh hp h) (L:=[x,dx]) (fun a m=>by
    rcases aA.mp m with m|m
    ·rw[m];exact hx
    ·rw[az.mp m];exact hdx) hq
  rw[gm]
  refine⟨by rw[bw,q1.len,hl],fun a=>G.S nb false a\/a∈[x,dx],bB C x dx [],vs,es.map (·.2),rfl,fun a y=>?_,fun a m=> .inr m,rfl,?_,fD,hm _ _ _ _ (p x dx) fun c' f d ⟨hd0,hp⟩ v H' to hP hd=>?_⟩
  ·rcases y with y|y
   ·cases e:H1 a with
    |none=>exact absurd e (Xc a y)
    |some o=>rw[hsm a o e];exact g7 _
   ·rcases aA.mp y with m|m
    ·rw[m,aQ];exact g7 _
    ·rw[az.mp m,aT hne,aQ];exact g7 _
  ·refine⟨by simp[cA,cR hne],by rw[aT hne,aQ],by decide,[],aQ,rfl⟩
  ·subst hd0
   refine⟨hd.L5,?_⟩
   have hfr:∀a∈c'.F,H1 a=none:=fun a m=>by
    rcases to.new a m with y|y
    ·rcases aA.mp y with m|m
     ·rw[m];exact hx
     ·rw[az.mp m];exact hdx
    ·cases e:H1 a with
     |none=>rfl
     |some o=>rw[hsm a o e] at y;cases y
   have st:Step G.B H1 H':=by
    have sm:bu H1 H':=fun a o e=>to.kp a o (fun m=>by
     rcases aA.mp m with m|m
     ·rw[m,hx] at e;cases e
     ·rw[az.mp m,hdx] at e;cases e) (hsm a o e)
    exact .same W1.ao sm
   have:=W1.DP (i:=i) (c:=c') st hfr to.lv (c'.av (fun a y=>?_) hP)
   ·rw[to.v] at this
    exact KK.nx _ _ _ _ hp this
   ·rw[to.f] at y
    rcases y with y|y
    ·exact .inl (.inl y)
    ·exact .inr y
end
end L2
set_option maxRecDepth 100000
set_option maxHeartbeats 4000000
set_option maxRecDepth 100000
set_option maxHeartbeats 4000000
namespace L2
open PySem PySem.Spec PyProof.Rows
theorem rS.YG{G:Gx}{ρ:Rh}{te:TE}{Θ:Bool->List PyData->Prop}(h:rS G ρ te fun d=>∃ds,d= .list ds/\fF ds=true/\Θ true ds):aI G ρ te Θ:=fun nb σ H Q W z=>
 h nb σ H _ W fun v H' d hh st hd=>by
  obtain⟨ds,e,hs,p⟩:=hh
  subst e
  obtain⟨c,xs,rfl,n,hx,hds⟩:=hd.gF
  exact z true c xs H' ds p st (jT fun z=>n z) hx (ah.jE hs hds)
end L2
set_option maxRecDepth 100000
set_option maxHeartbeats 4000000
set_option maxRecDepth 100000
set_option maxHeartbeats 4000000
set_option maxRecDepth 100000
set_option maxHeartbeats 4000000
namespace L2
open PySem PySem.Spec PyProof.Rows
inductive Oi where
 |own (b:Addr)|dat (x:PyData)
inductive OO where
 |lst (xs:List Oi)|tup (xs:List Oi)|ez (ks:List (Int×Oi))
noncomputable abbrev c9:=List (Addr×OO)
noncomputable def eS(S:Addr->Prop)(H:Hp):Oi->V->Prop
 | .own b,v=>v= .ref b
 | .dat x,v=>af S H x v
noncomputable def dZ(S:Addr->Prop)(H:Hp)(xs:List Oi)(vs:List V):Prop:=vs.length=xs.length/\∀(i:Nat) x v,xs[i]?=some x->vs[i]?=some v->eS S H x v
noncomputable def Xl(ks:List (Int×Oi))(vs:List V):List (Key×V):=List.zipWith (fun k v=>(Sum.inl k.1,v)) ks vs
noncomputable def ue(S:Addr->Prop)(H:Hp)(a:Addr):OO->Prop
 | .lst xs=>∃vs,H a=some (.lst vs)/\dZ S H xs vs
 | .tup xs=>∃vs,H a=some (.tup vs)/\dZ S H xs vs
 | .ez ks=>∃vs,H a=some (.dK (Xl ks vs))/\dZ S H (ks.map (·.2)) vs
noncomputable def lI(S:Addr->Prop)(H:Hp)(L:c9):Prop:=(L.map (·.1)).Nodup/\∀a o,L.lookup a=some o->ue S H a o
section
variable{S S':Addr->Prop}{H H':Hp}{x:Oi}{v:V}{xs:List Oi}{vs:List V}{a b:Addr}{o:OO}{L:c9}{F:List Addr}{p:Addr}
theorem lM{L:c9}:∀{a:Addr} {o:OO},L.lookup a=some o->a∈L.map (·.1):=by
  induction L with
  |nil=>intro a o h;cases h
  | cons q L ih =>
    intro a o h
    rw[bx]
    by_cases c:a=q.1
    · rw[c];exact bT ..
    · rw[bG,beq_false_of_ne c] at h
      exact bJ _ (ih h)
theorem eS.kp(m:Kp S F H H')(h:eS S H x v):eS S H' x v:=by
 cases x with
 |own b=>exact h
 |dat x=>exact af.kp m h
theorem eS.av(b:∀a,S' a->S a)(h:eS S H x v):eS S' H x v:=by
 cases x with
 |own b=>exact h
 |dat x=>exact af.av b h
theorem eS.fresh(hp:H p=none)(h:eS S H x v):eS (fun a=>S a\/a=p) H x v:=by
 cases x with
 |own b=>exact h
 |dat x=>exact af.fresh hp h
theorem eS.keep(m:aM S H H')(h:eS S H x v):eS S H' x v:=by
 cases x with
 |own b=>exact h
 |dat x=>exact af.keep m h
theorem dZ.imp(h:dZ S H xs vs)(q:∀x v,eS S H x v->eS S' H' x v):dZ S' H' xs vs:=⟨h.1,fun i x v e1 e2=>q x v (h.2 i x v e1 e2)⟩
theorem ue.imp(h:ue S H a o)(q:∀x v,eS S H x v->eS S' H' x v)(e:∀ho,H a=some ho->H' a=some ho):ue S' H' a o:=by
 cases o with
 |lst xs=>obtain⟨vs,h1,h2⟩:=h;exact⟨vs,e _ h1,h2.imp q⟩
 |tup xs=>obtain⟨vs,h1,h2⟩:=h;exact⟨vs,e _ h1,h2.imp q⟩
 |ez ks=>obtain⟨vs,h1,h2⟩:=h;exact⟨vs,e _ h1,h2.imp q⟩
theorem dZ.at{k:Int}(h:dZ S H xs vs)(e:cB xs k=some x):∃v,cB vs k=some v/\eS S H x v:=by
  unfold cB at e⊢
  rw[h.1]
  cases z:jX xs.length k with
  |none=>rw[z] at e;cases e
  | some j =>
    rw[z] at e
    have e:xs[j]?=some x:=e
    have hj:=(bh.mp e).1
    have hv:vs[j]?=some (vs[j]'(by rw[h.1];exact hj)):=bE _
    exact⟨_,hv,h.2 j x _ e hv⟩
theorem dZ.snoc(h:dZ S H xs vs)(q:eS S H x v):dZ S H (xs++[x]) (vs++[v]):=by
 refine⟨by rw[fu,fu,h.1];rfl,fun i y u e1 e2=>?_⟩
 by_cases c:i<xs.length
 ·rw[dz c] at e1
  rw[dz (by rw[h.1];exact c)] at e2
  exact h.2 i y u e1 e2
 ·rw[dP (by walk_at "o")] at e1
  rw[dP (by rw[h.1];walk_at "o"),h.1] at e2
  cases hi:i-xs.length with
  |zero=>rw[hi] at e1 e2;simp at e1 e2;subst e1 e2;exact q
  |succ m=>rw[hi] at e1;simp at e1
theorem dZ.set(h:dZ S H xs vs)(q:eS S H x v)(j:Nat):dZ S H (xs.set j x) (vs.set j v):=by
 refine⟨by rw[gp,gp,h.1],fun i y u e1 e2=>?_⟩
 by_cases c:j=i
 ·subst c
  have hl:j<xs.length:=by have:=(bh.mp e1).1;rwa[gp] at this
  rw[cy hl] at e1
  rw[cy (by rw[h.1];exact hl)] at e2
  cases e1;cases e2;exact q
 ·rw[bA c] at e1 e2
  exact h.2 i y u e1 e2
theorem dZ.nil:dZ S H [] []:=⟨rfl,fun i x v e=>by simp at e⟩
theorem dZ.cons(q:eS S H x v)(h:dZ S H xs vs):dZ S H (x::xs) (v::vs):=by
 refine⟨by rw[bw,bw,h.1],fun i y u e1 e2=>?_⟩
 cases i with
 |zero=>simp at e1 e2;subst e1 e2;exact q
 |succ i=>exact h.2 i y u (by simpa using e1) (by simpa using e2)
theorem FU{ds:List PyData}:∀{vs:List V},vs.length=ds.length->(∀(i:Nat) d v,ds[i]?=some d->vs[i]?=some v->af S H d v)->ah S H ds vs:=by
  induction ds with
  |nil=>intro vs h _;rw[pH.mp h];exact .nil
  | cons d ds ih =>
    intro vs h q
    cases vs with
    |nil=>cases h
    |cons v vs=>exact .cons (q 0 d v rfl rfl) (ih (by simpa using h) fun i d' v' e1 e2=>q (i+1) d' v' (by simpa using e1) (by simpa using e2))
end
noncomputable def gQ(L:c9)(b:Addr)(o:OO):c9:=L.map fun q=>if q.1=b then(b,o) else q
theorem ve(L:c9)(b:Addr)(o:OO):(gQ L b o).map (·.1)=L.map (·.1):=by
 unfold gQ
 rw[mL]
 apply zE
 intro q _
 show(if q.1=b then(b,o) else q).1=q.1
 split
 ·rename_i h;exact h.symm
 ·rfl
theorem pF{L:c9}{a b:Addr}{o:OO}(h:a≠b):(gQ L b o).lookup a=L.lookup a:=by
  induction L with
  |nil=>rfl
  | cons q L ih =>
    show List.lookup a ((if q.1=b then(b,o) else q)::gQ L b o)=_
    by_cases c:q.1=b
    · rw[if_pos c,bG,beq_false_of_ne h,ih]
      rw[bG,beq_false_of_ne (by rw[c];exact h)]
    · rw[if_neg c,bG,bG,ih]
theorem yJ{L:c9}{b:Addr}{o:OO}(h:b∈L.map (·.1)):(gQ L b o).lookup b=some o:=by
  induction L with
  |nil=>cases h
  | cons q L ih =>
    show List.lookup b ((if q.1=b then(b,o) else q)::gQ L b o)=_
    by_cases c:q.1=b
    · rw[if_pos c,bG,beq_self_eq_true]
    · rw[if_neg c,bG,beq_false_of_ne (fun z=>c z.symm)]
      rw[bx] at h
      exact ih ((aA.mp h).resolve_left fun z=>c z.symm)
theorem lI.put{S:Addr->Prop}{H:Hp}{L:c9}{b:Addr}{ho:HO}{o:OO}(h:lI S H L)(hb:b∈L.map (·.1))(hS:S b)(hk:ue S (upd H b ho) b o):lI S (upd H b ho) (gQ L b o):=by
 refine⟨by rw[ve];exact h.1,fun a o' e=>?_⟩
 by_cases c:a=b
 ·subst c
  rw[yJ hb] at e
  cases e
  exact hk
 ·rw[pF c] at e
  exact(h.2 a o' e).imp (fun x v q=>q.keep (aM.set hS)) fun ho' q=>by rw[aT c];exact q
noncomputable def stC(v:V)(f:Bool)(L:c9):Cu where
 v:=v
 F:=L.map (·.1)
 f:=f
 P:=fun S H=>lI S H L
 keep:=fun k p=>⟨p.1,fun a o e=>(p.2 a o e).imp (fun x v q=>q.kp k) fun ho q=>k.own _ (lM e) _ q⟩
 av:=fun z p=>⟨p.1,fun a o e=>(p.2 a o e).imp (fun x v q=>q.av z) fun ho q=>q⟩
 fresh:=fun hp p=>⟨p.1,fun a o e=>(p.2 a o e).imp (fun x v q=>q.fresh hp) fun ho q=>q⟩
noncomputable def fB(G:Gx)(ρ:Rh)(te:TE)(Ψ:Addr->Prop):Prop:=∀nb σ H (Q:VK),Wd G nb ρ σ H->(∀b H',Ψ b->Step G.B H H'->Q (.ref b) H')->te σ H Q
section
variable{G:Gx}{ρ:Rh}{ta tb te:TE}{t:TA}{E:DE}{i j:Nat}{v:V}{f:Bool}{L:c9}{K:PySem.W.Frag}{Φ:Pd}{Ψ:Addr->Prop}{r:Addr}
theorem Wd.nv{nb:Addr->Prop}{σ:St}{H:Hp}(W:Wd G nb ρ σ H)(e:ρ[i]?=some (.cu (stC v f L))):σ[i]?=some (some v)/\(∀a∈L.map (·.1),nb a/\NB G.B a)/\lI (G.S nb f) H L:=by
 obtain⟨x,e1,h1,h2,h3⟩:=W.ok i _ e
 exact⟨by rw[e1,h1];rfl,h2,h3⟩
theorem fB.root(e:ρ[i]?=some (.cu (stC (.ref r) f L)))(h:Ψ r):fB G ρ (bf i) Ψ:=fun nb σ H Q W z=>⟨.ref r,(W.nv e).1,z r H h (.refl W.ao)⟩
theorem fB.vp(e:ρ[i]?=some (.cu (stC v f L)))(h:fB G ρ ta fun b=>Ev G ρ tb fun _ y=>∃k xs c,y= .int k/\L.lookup b=some (.lst xs)/\cB xs k=some (.own c)/\Ψ c):fB G ρ (cG (bS K) ta tb) Ψ:=fun nb σ H Q W z=>
 h nb σ H _ W fun b H1 q s1=>q nb σ H1 _ (W.step s1) fun g u H2 y ⟨k,xs,c,ey,hb,hc,p⟩ s2 hu=>by
  subst ey
  obtain⟨vs,h1,h2⟩:=(((W.step s1).step s2).nv e).2.2.2 b _ hb
  obtain⟨v',e1,e2⟩:=h2.at hc
  have e2:v'= .ref c:=e2
  subst e2
  exact⟨b,vs,k, .ref c,rfl,hu.cS,aS.of h1,e1,z c H2 p (s1.trans s2)⟩
theorem Ev.zJ(e:ρ[i]?=some (.cu (stC v f L)))(h:fB G ρ ta fun b=>Ev G ρ tb fun _ y=>∃k xs x,y= .int k/\L.lookup b=some (.lst xs)/\cB xs k=some (.dat x)/\Φ f x):Ev G ρ (cG (bS K) ta tb) Φ:=fun nb σ H Q W z=>
 h nb σ H _ W fun b H1 q s1=>q nb σ H1 _ (W.step s1) fun g u H2 y ⟨k,xs,x,ey,hb,hc,p⟩ s2 hu=>by
  subst ey
  obtain⟨vs,h1,h2⟩:=(((W.step s1).step s2).nv e).2.2.2 b _ hb
  obtain⟨v',e1,e2⟩:=h2.at hc
  exact⟨b,vs,k,v',rfl,hu.cS,aS.of h1,e1,z f v' H2 x p (s1.trans s2) e2⟩
theorem lI.mono{nb:Addr->Prop}{H:Hp}{g:Bool}(h:lI (G.S nb f) H L):lI (G.S nb (f && g)) H L:=⟨h.1,fun a o e=>(h.2 a o e).imp (fun x v q=>q.av (bX (fun z=>by rw[dN] at z;exact z.1) fun _ z=>z)) fun _ q=>q⟩
theorem Sv.Ii(e:ρ[i]?=some (.cu (stC v f L)))(h:fB G ρ ta fun b=>∃xs,L.lookup b=some (.lst xs)/\xs.length<10000/\Ev G ρ te fun g d=>E.nx (ρ.set i (.cu (stC v (f && g) (gQ L b (.lst (xs++[.dat d]))))))):
  Sv G ρ (mV (oR K "list" Cj ta (aL te aX))) E:=fun nb σ H D W KK=>
 h nb σ H _ W fun b H1 ⟨xs,hb,hl,q⟩ s1=>by
  have W1:=W.step s1
  obtain⟨vs,h1,h2⟩:=(W1.nv e).2.2.2 b _ hb
  refine⟨.inl ⟨rfl,_,aS.of h1⟩,?_⟩
  refine q nb σ H1 _ W1 fun g u H2 d p s2 hu=>?_
  have W2:=W1.step s2
  obtain⟨_,hF,hk⟩:=W2.nv e
  obtain⟨vs,h1,h2⟩:=hk.2 b _ hb
  have hbm:=lM hb
  refine⟨b,vs,u,rfl,rfl,h1,dM (by rw[h2.1];exact hl) (by decide),KK.nx nb _ _ _ p (W2.sY e hbm rfl (fun a ha=>by
   have ha:a∈(gQ L b (.lst (xs++[.dat d]))).map (·.1):=ha
   rw[ve] at ha;exact ha) ?_)⟩
  have hS:G.S nb (f && g) b:= .inl (hF b hbm).1
  refine hk.mono.put hbm hS ⟨_,aQ,?_⟩
  refine dZ.snoc ((h2.imp fun x v q=>(q.av (bX (fun z=>by rw[dN] at z;exact z.1) fun _ z=>z)).keep (aM.set hS))) ?_
  exact(hu.av (bX (fun z=>by rw[dN] at z;exact z.2) fun _ z=>z)).keep (aM.set hS)
theorem Sv.Xh(e:ρ[i]?=some (.cu (stC v f L)))(h:Ev G ρ te fun g d=>fB G ρ ta fun b=>Ev G ρ tb fun _ y=>∃k m xs,y= .int k/\L.lookup b=some (.lst xs)/\jX xs.length k=some m/\E.nx (ρ.set i (.cu (stC v (f && g) (gQ L b (.lst (xs.set m (.dat d)))))))):
  Sv G ρ (i6 te (zp ta tb vJ)) E:=fun nb σ H D W KK=>
 h nb σ H _ W fun g u H1 d q s1 hu=>by
  refine q nb σ H1 _ (W.step s1) fun b H2 q s2=>?_
  refine q nb σ H2 _ ((W.step s1).step s2) fun g2 y H3 yd ⟨k,m,xs,ey,hb,hm,p⟩ s3 hy=>?_
  subst ey
  have W3:=((W.step s1).step s2).step s3
  obtain⟨_,hF,hk⟩:=W3.nv e
  obtain⟨vs,h1,h2⟩:=hk.2 b _ hb
  have hbm:=lM hb
  have Oj:af (G.S nb g) H3 d u:=hu.keep (s2.trans s3).fG
  refine⟨b,vs,k,m,rfl,hy.cS,h1,by rw[h2.1];exact hm,KK.nx nb _ _ _ p (W3.sY e hbm rfl (fun a ha=>by
   have ha:a∈(gQ L b (.lst (xs.set m (.dat d)))).map (·.1):=ha
   rw[ve] at ha;exact ha) ?_)⟩
  have hS:G.S nb (f && g) b:= .inl (hF b hbm).1
  refine hk.mono.put hbm hS ⟨_,aQ,?_⟩
  exact dZ.set (x:= .dat d) ((h2.imp fun x v q=>(q.av (bX (fun z=>by rw[dN] at z;exact z.1) fun _ z=>z)).keep (aM.set hS))) ((Oj.av (bX (fun z=>by rw[dN] at z;exact z.2) fun _ z=>z)).keep (aM.set hS)) m
end
end L2
set_option maxRecDepth 100000
set_option maxHeartbeats 4000000
namespace L2
open PySem PySem.Spec PyProof.Rows
inductive iK(L:c9):Oi->PyData->Prop
 |dat (x:PyData):iK L (.dat x) x
 |lst {b:Addr} {xs:List Oi} {ds:List PyData} (e:L.lookup b=some (.lst xs)) (h:ds.length=xs.length) (q:∀(i:Nat) x d,xs[i]?=some x->ds[i]?=some d->iK L x d):iK L (.own b) (.list ds)
 |tup {b:Addr} {xs:List Oi} {ds:List PyData} (e:L.lookup b=some (.tup xs)) (h:ds.length=xs.length) (q:∀(i:Nat) x d,xs[i]?=some x->ds[i]?=some d->iK L x d):iK L (.own b) (.tuple ds)
theorem iK.Sa{S S':Addr->Prop}{H:Hp}{L:c9}(h:lI S H L)(hS:∀a,S' a->S a)(hn:∀a∈L.map (·.1),¬S' a){x:Oi}{d:PyData}(q:iK L x d):∀{v:V},eS S H x v->af S' H d v:=by
  induction q with
  |dat x=>intro v hv;exact af.av hS hv
  | lst e hl _ ih =>
    intro v hv
    have hv:v=_:=hv
    subst hv
    obtain⟨vs,h1,h2⟩:=h.2 _ _ e
    refine .lst (hn _ (lM e)) h1 (FU (by rw[h2.1,hl]) fun i d v e1 e2=>?_)
    have hi:=(bh.mp e1).1
    have hx:=bE (l:=_) (i:=i) (by rw[<-hl];exact hi)
    exact ih i _ d hx e1 (h2.2 i _ v hx e2)
  | tup e hl _ ih =>
    intro v hv
    have hv:v=_:=hv
    subst hv
    obtain⟨vs,h1,h2⟩:=h.2 _ _ e
    refine .tup (hn _ (lM e)) h1 (FU (by rw[h2.1,hl]) fun i d v e1 e2=>?_)
    have hi:=(bh.mp e1).1
    have hx:=bE (l:=_) (i:=i) (by rw[<-hl];exact hi)
    exact ih i _ d hx e1 (h2.2 i _ v hx e2)
theorem iK.RE{L:c9}{b:Addr}{ds:List PyData}(e:L.lookup b=some (.lst (ds.map .dat))):iK L (.own b) (.list ds):=by
 refine .lst e (by rw[ay]) fun i x d e1 e2=>?_
 rw[dG,e2] at e1
 cases e1
 exact .dat d
section
variable{G:Gx}{ρ:Rh}{ta tb te:TE}{t:TA}{E:DE}{i j:Nat}{f:Bool}{L:c9}{K:PySem.W.Frag}{Φ:Pd}{r:Addr}{d:PyData}
theorem Wd.Gb{nb:Addr->Prop}{σ:St}{H:Hp}(W:Wd G nb ρ σ H)(e:ρ[i]?=some (.cu (stC (.ref r) f L)))(hd:iK L (.own r) d):Wd G (fun x=>nb x/\x∉L.map (·.1)) (ρ.set i (.d f d)) σ H:=
 W.RI e fun p hn=>hd.Sa p (bX (fun z=>z) fun _ z=>z.1) (fun a m z=>by
  obtain⟨q1,q2,q3⟩:=hn a m
  rcases z with z|z|z|z
  ·exact z.2 m
  ·exact q2 z
  ·exact z q3
  ·exact z.2 q1) rfl
theorem Tv.zk{tt:TT}{Θ:Bool->Prop}(i:Nat)(e:ρ[i]?=some (.cu (stC (.ref r) f L)))(hd:iK L (.own r) d)(h:Tv G (ρ.set i (.d f d)) tt Θ):Tv G ρ tt Θ:=fun nb σ H Q W z=>h _ σ H Q (W.Gb e hd) z
theorem Ev.zk(i:Nat)(e:ρ[i]?=some (.cu (stC (.ref r) f L)))(hd:iK L (.own r) d)(h:Ev G (ρ.set i (.d f d)) te fun _ x=>gH x=true/\Φ true x):Ev G ρ te Φ:=fun nb σ H Q W z=>
 h _ σ H Q (W.Gb e hd) fun g v H' x ⟨hs,p⟩ st hv=>z true v H' x p st (hv.jE hs)
end
end L2
set_option maxRecDepth 100000
set_option maxHeartbeats 4000000
set_option maxRecDepth 100000
set_option maxHeartbeats 4000000
set_option maxRecDepth 100000
set_option maxHeartbeats 4000000
set_option maxRecDepth 100000
set_option maxHeartbeats 4000000
set_option maxRecDepth 100000
set_option maxHeartbeats 4000000
set_option maxRecDepth 100000
set_option maxHeartbeats 4000000
namespace L2
open PySem PySem.Spec PyProof.Rows
noncomputable abbrev RF:=Cu->List PyData->Pd->Prop
noncomputable def qJ(F:RF):Prop:=∀c ds (Φ Ψ:Pd),F c ds Φ->(∀f d,Φ f d->Ψ f d)->F c ds Ψ
noncomputable def kG(n:Nat)(F:RF):Sp:=fun vs H Q _=>vs.length=n/\∃(nb:Addr->Prop) (c:Cu) (ws:List V) (ds:List PyData),vs=c.v::ws/\dX nb H/\(∀a∈c.F,¬nb a/\H a≠none)/\c.P nb H/\ah nb H ds ws/\
 F c ds fun f d=>∀v H',bu H H'->af (fun a=>nb a\/(f=true/\H a≠none)) H' d v->Q v H'
theorem IF{n:Nat}{F:RF}{vs:List V}{H:Hp}{Q:VK}{E:XK}(h:kG n F vs H Q E):∃(nb:Addr->Prop) (c:Cu) (ws:List V) (ds:List PyData) (Φ:Pd),vs=c.v::ws/\dX nb H/\(∀a∈c.F,¬nb a/\H a≠none)/\c.P nb H/\ah nb H ds ws/\(∀f d v H',Φ f d->bu H H'->af (fun a=>nb a\/(f=true/\H a≠none)) H' d v->Q v H')/\F c ds Φ:=by
 obtain⟨_,nb,c,ws,ds,e,h1,h2,h3,h4,h5⟩:=h
 exact⟨nb,c,ws,ds,_,e,h1,h2,h3,h4,fun f d v H' q=>q v H',h5⟩
section
variable{ρ:Rh}{t:TS}{N:List Str}{ws:List V}{ds:List PyData}{nb:Addr->Prop}{H:Hp}{Q:VK}{Φ:Pd}{c:Cu}
noncomputable abbrev um(H:Hp)(nb:Addr->Prop)(c:Cu):Gx:=⟨none,H,nb,[(false, .th c,c.v)]⟩
theorem Sv.K9(hl:dX nb H)(hF:∀a∈c.F,¬nb a/\H a≠none)(hP:c.P nb H)(hd:ah nb H ds ws)(aC:∀f d v H',Φ f d->bu H H'->af (fun a=>nb a\/(f=true/\H a≠none)) H' d v->Q v H')
    (bQ:ρ= .raw c.v::ds.map (Sl.d false)++List.replicate (N.length-(ds.length+1)) .no) (h:Sv (um H nb c) ρ t {nx:=fun _=>Φ true .none,rt:=Φ}):t {nx:=fun _ H'=>Q .aB H',rt:=Q} (start N (c.v::ws)) H:=by
  have hlen:=hd.length
  have gR:∀a,NB (um H nb c).B a:=fun a b l e=>by cases e
  have sm:∀{au ρ' σ' H'},Wd (um H nb c) au ρ' σ' H'->bu H H':=fun W a o e=>W.old a o (gR a) e
  have av:∀a,(um H nb c).S (fun _=>False) false a->nb a:=fun a z=>by
    rcases z with z|z|z|z
    · exact z.elim
    · exact z
    · exact absurd (gR a) z
    · cases z.1
  have sl:∀{i:Nat} {s:Sl},ρ[i]?=some s->s.adr=[]:=fun{i s} e1=>by
    rw[bQ] at e1
    cases i with
    |zero=>simp at e1;subst e1;rfl
    | succ i =>
      simp only[jk,i8] at e1
      by_cases hi:i<ds.length
      · rw[dz (by rw[ay];exact hi)] at e1
        obtain⟨_,_,_,z,_⟩:=jS hd e1
        subst z;rfl
      · rw[dP (by rw[ay];walk_at "o"),dj] at e1
        split at e1
        · cases e1;rfl
        · cases e1
  refine h (fun _=>False) _ H _ ⟨fun _ _ z=>(by cases z),fun _ z=>z.elim,fun _ _ _ e=>e,fun _ z=>z.elim,hl,?_,fun _ _ z=>(by cases z),fun x m=>?_,fun i s e=>?_,?_,?_,?_⟩ ⟨fun au ρ' σ' H' q W=>aC _ _ _ _ q (sm W) .aB,fun _ _ _ _ q _=>q.elim,fun _ _ _ _ q _=>q.elim,fun au ρ' σ' f v H' d q W hv=>aC f d v H' q (sm W) (hv.av fun a z=>?_),fun _ _ _ _ _ q _=>q.elim⟩
  · rw[bQ];unfold start;simp[hlen]
  · rw[az.mp m]
    exact⟨rfl,fun a m=>⟨fun z=>(hF a m).1 (av a z),(hF a m).2⟩,c.av av hP⟩
  · rw[bQ] at e
    unfold start
    cases i with
    |zero=>simp at e;subst e;exact⟨some c.v,by simp,rfl⟩
    | succ i =>
      simp only[jk,i8,bx,bw] at e⊢
      by_cases hi:i<ds.length
      · rw[dz (by rw[ay];exact hi)] at e
        obtain⟨v,d,hv,rfl,q⟩:=jS hd e
        refine⟨some v,?_,v,rfl,q.av av⟩
        rw[dz (by rw[ay,hlen];exact hi),dG,hv];rfl
      · rw[dP (by rw[ay];walk_at "o"),dj] at e
        split at e
        · rename_i h'
          cases e
          refine⟨none,?_,trivial⟩
          rw[ay] at h'
          rw[dP (by rw[ay];walk_at "o"),dj,if_pos (by rw[ay,hlen];exact h')]
        · cases e
  · intro i j a f as c2 g cs hij e1
    cases sl e1
  · intro i j a f as c2 g cs hij e1
    cases sl e1
  · intro i j c2 s hij e1 e2 a m
    have:=sl e1
    rw[show Sl.adr (.cu c2)=c2.F from rfl] at this
    rw[this] at m;cases m
  · rcases z with z|z
    · exact .inr (.inl z)
    · exact .inr (.inr (.inr z))
end
section
variable{G:Gx}{ρ:Rh}{Φ:Pd}{ta tb te:TE}{t:TA}{i n:Nat}{E:DE}{C x dx l:Addr}{fs:Fs}{K:PySem.W.Frag}{f m:Str}{d:PyData}{ds:List PyData}{c:Cu}{F:RF}
theorem K7{nb:Addr->Prop}{σ:St}{H1:Hp}{Q:VK}{vs:List V}(hm:qJ F)(W1:Wd G nb ρ σ H1)(q1:ah (fun a=>¬NB G.B a) H1 ds vs)(eN:∀a∈c.F,NB G.B a/\H1 a≠none)(gJ:c.P (fun a=>¬NB G.B a) H1)(hl:ds.length+1=n)(p:F c ds fun f d=>(f=true\/gH d=true)/\Φ true d)
  (z:∀f v H' d,Φ f d->Step G.B H1 H'->af (G.S nb f) H' d v->Q v H'):kG n F (c.v::(vs++[])) H1 Q E0:=by
 rw[gm]
 refine⟨by rw[bw,q1.length,hl],fun a=>¬NB G.B a,c,vs,ds,rfl,fun a y=>NB.kM W1.ao y,fun a m=>⟨fun y=>y (eN a m).1,(eN a m).2⟩,gJ,q1,hm _ _ _ _ p fun f d ⟨hf,hp⟩ v H' sm hd=>z true v H' d hp (.same W1.ao sm) ?_⟩
 rcases hf with hf|hf
 ·exact hd.av fun a y=> .inr ⟨hf,W1.gb (f:=true) a y⟩
 ·exact hd.jE hf
theorem CV{nb:Addr->Prop}{σ:St}{H:Hp}(W:Wd G nb ρ σ H)(e:ρ[i]?=some (.cu c))(hcf:c.f=false):(∀a∈c.F,NB G.B a/\H a≠none)/\c.P (fun a=>¬NB G.B a) H:=by
 obtain⟨x0,e1,h1,h2,h3⟩:=W.ok i _ e
 exact⟨fun a m=>⟨(h2 a m).2,W.live a (h2 a m).1⟩,c.av (fun a y=> .inr (.inr (.inl y))) h3⟩
theorem CK{H H1:Hp}(st:Step G.B H H1)(h:(∀a∈c.F,NB G.B a/\H a≠none)/\c.P (fun a=>¬NB G.B a) H):(∀a∈c.F,NB G.B a/\H1 a≠none)/\c.P (fun a=>¬NB G.B a) H1:=by
 refine⟨fun a m=>⟨(h.1 a m).1,Iw (h.1 a m).1 st (h.1 a m).2⟩,c.keep (.of fun a o m q=>st.1 a o ?_ q) h.2⟩
 rcases m with m|m
 ·exact jT m
 ·exact(h.1 a m).1
theorem Ev.MR(hm:qJ F)(e:ρ[i]?=some (.cu c))(hcf:c.f=false)(hi:∀S H,c.P S H->∃a dx fs,c.v= .ref a/\H a=some (.ins C dx fs)/\fs.lookup m=none)
  (h:pQ G ρ t fun ds=>ds.length+1=n/\F c ds fun f d=>(f=true\/gH d=true)/\Φ true d):Ev G ρ (n5 C m (kG n F) [] E0 (bf i) t) Φ:=fun nb σ H Q W z=>by
 obtain⟨x0,e1,h1,h2,h3⟩:=W.ok i _ e
 subst h1
 obtain⟨a,dx,fs,g1,g2,g3⟩:=hi _ _ h3
 refine⟨c.v,e1,a,dx,fs,g1,g2,g3,h nb σ H _ W fun ds vs H1 ⟨hl,p⟩ s1 q1=>?_⟩
 have k:=CK s1 (CV W e hcf)
 exact K7 hm (W.step s1) q1 k.1 k.2 hl p fun f v H' d hp st hv=>z f v H' d hp (s1.trans st) hv
theorem Ev.PR(hm:qJ F)(e:ρ[i]?=some (.cu c))(hcf:c.f=false)(h:pQ G ρ t fun ds=>ds.length+1=n/\F c ds fun f d=>(f=true\/gH d=true)/\Φ true d):Ev G ρ (fq (kG n F) [] E0 (aL (bf i) t)) Φ:=fun nb σ H Q W z=>by
 obtain⟨x0,e1,h1,h2,h3⟩:=W.ok i _ e
 subst h1
 refine⟨c.v,e1,h nb σ H _ W fun ds vs H1 ⟨hl,p⟩ s1 q1=>?_⟩
 have k:=CK s1 (CV W e hcf)
 exact K7 hm (W.step s1) q1 k.1 k.2 hl p fun f v H' d hp st hv=>z f v H' d hp (s1.trans st) hv
theorem Wd.held{nb:Addr->Prop}{σ:St}{H:Hp}{v:V}(W:Wd G nb ρ σ H)(hh:(false,HD.th c,v)∈G.hold):v=c.v/\(∀a∈c.F,¬G.S nb false a/\H a≠none)/\c.P (G.S nb false) H:=W.fT _ hh
end
end L2
set_option maxRecDepth 100000
set_option maxHeartbeats 4000000
set_option maxRecDepth 100000
set_option maxHeartbeats 4000000
set_option maxRecDepth 100000
set_option maxHeartbeats 4000000
set_option maxRecDepth 100000
set_option maxHeartbeats 4000000
set_option maxRecDepth 100000
set_option maxHeartbeats 4000000
namespace L2
open PySem PySem.Spec PyProof.Rows
noncomputable def aZ:Nat->(Nat->Int)->Int
 |0,_=>0
 |n+1,f=>aZ n f+f n
theorem DA{n:Nat}{f:Nat->Int}:aZ (n+1) f=aZ n f+f n:=rfl
theorem zH{f g:Nat->Int}:∀{n:Nat},(∀k,k<n->f k=g k)->aZ n f=aZ n g
 |0,_=>rfl
 |n+1,h=>by unfold aZ;rw[zH fun k hk=>h k (by walk_at "o"),h n (by walk_at "o")]
theorem B4{f g:Nat->Int}:∀{n:Nat},aZ n (fun k=>f k+g k)=aZ n f+aZ n g
 |0=>rfl
 |n+1=>by rw[DA,DA,DA,B4];walk_at "o"
theorem EW{a:Int}{f:Nat->Int}:∀{n:Nat},aZ n (fun k=>a*f k)=a*aZ n f
 |0=>by unfold aZ;simp
 |n+1=>by unfold aZ;rw[EW,Int.mul_add]
theorem yX:∀{n:Nat},aZ n (fun _=>0)=0
 |0=>rfl
 |n+1=>by unfold aZ;rw[yX];rfl
theorem FE{f:Nat->Nat->Int}{n:Nat}:∀{m:Nat},aZ n (fun k=>aZ m fun c=>f c k)=aZ m fun c=>aZ n (f c)
  |0=>yX
  | m + 1 => by
    show aZ n (fun k=>aZ m (fun c=>f c k)+f m k)=aZ m (fun c=>aZ n (f c))+aZ n (f m)
    rw[B4,FE]
theorem HK{f:Nat->Int}{b:Int}:∀{n:Nat},(∀k,k<n->f k<=b)->aZ n f<=n*b
  |0,_=>by unfold aZ;simp
  | n + 1, h => by
    unfold aZ
    have h1:=HK (n:=n) fun k hk=>h k (by walk_at "o")
    have h2:=h n (by walk_at "o")
    rw[show((n+1:Nat):Int)*b=n*b+b by rw[Int.natCast_add,Int.add_mul];simp]
    walk_at "o"
theorem KH{f:Nat->Int}(hf:∀k,f k=0\/f k=1):∀{n:Nat},(∀k k',k<k'->k'<n->¬(f k=1/\f k'=1))->aZ n f<=1
  |0,_=>by unfold aZ;walk_at "o"
  | n + 1, h => by
    unfold aZ
    rcases hf n with e|e
    · have:=KH hf (n:=n) fun k k' a b=>h k k' a (by walk_at "o")
      walk_at "o"
    · have:aZ n f=0:=by
        rw[zH (g:=fun _=>0) fun k hk=>(hf k).resolve_right fun z=>h k n hk (by walk_at "o") ⟨z,e⟩]
        exact yX
      walk_at "o"
theorem meet{I:Nat->Nat->Int}(hI:∀c k,I c k=0\/I c k=1){n:Nat}:∀{m:Nat},(∀c d k k',c<d->d<m->k<k'->k'<n->¬(I c k=1/\I d k=1/\I c k'=1/\I d k'=1))->
    aZ n (fun k=>aZ m (fun c=>I c k)*(aZ m (fun c=>I c k)-1))<=m*(m-1)
  | 0, _ => by
    rw[zH (g:=fun _=>0) fun k _=>by unfold aZ;simp,yX];simp
  | m + 1, h => by
    have ih:=meet hI (n:=n) (m:=m) fun c d k k' a b=>h c d k k' a (by walk_at "o")
    have e:aZ n (fun k=>aZ (m+1) (fun c=>I c k)*(aZ (m+1) (fun c=>I c k)-1))=aZ n (fun k=>aZ m (fun c=>I c k)*(aZ m (fun c=>I c k)-1)+2*aZ m (fun c=>I m k*I c k)):=by
      refine zH fun k _=>?_
      rw[EW]
      show(aZ m (fun c=>I c k)+I m k)*(aZ m (fun c=>I c k)+I m k-1)=_
      generalize aZ m (fun c=>I c k)=D
      rcases hI m k with z|z<;>rw[z]<;>grind
    rw[e,B4,EW,FE (f:=fun c k=>I m k*I c k)]
    have h2:aZ m (fun c=>aZ n fun k=>I m k*I c k)<=m*1:=HK fun c hc=>KH (fun k=>by rcases hI m k with z|z<;>rcases hI c k with y|y<;>rw[z,y]<;>simp) fun k k' hk hk' ⟨z1,z2⟩=>by
      refine h c m k k' hc (by walk_at "o") hk hk' ?_
      rcases hI m k with a|a<;>rcases hI c k with b|b<;>rcases hI m k' with a'|a'<;>rcases hI c k' with b'|b'<;>simp_all
    have e3:((m+1:Nat):Int)*((m+1:Nat)-1)=(m:Int)*(m-1)+2*m:=by rw[Int.natCast_add];grind
    walk_at "o"
end L2
set_option maxRecDepth 100000
set_option maxHeartbeats 4000000
set_option maxRecDepth 100000
set_option maxHeartbeats 4000000
set_option maxRecDepth 100000
set_option maxHeartbeats 4000000
set_option maxRecDepth 100000
set_option maxHeartbeats 4000000
set_option maxRecDepth 100000
set_option maxHeartbeats 4000000
namespace L2
open PySem PySem.Spec PyProof.Rows
section
variable{p n m:Int}{c1 c2 cs:List bY}{u w:List Int}
theorem Us{ws:List Int}(hV:Cr p n cs)(hl:ws.length=n.toNat)(hw:∀x∈ws,0<=x/\x<p)(h:brk p cs ws=0):vq p cs ws n.toNat=[]:=by
  have hb:=List.countP_eq_zero.mp h
  refine List.flatMap_eq_nil_iff.mpr fun i hi=>?_
  have hi:=yZ.mp hi
  unfold ME
  have Y4:xD (tZ p cs ws (i:Int)) (ws.getD i 0)=[]:=by
    cases e:xD (tZ p cs ws (i:Int)) (ws.getD i 0) with
    |nil=>rfl
    | cons x r =>
      exfalso
      have hx:x∈xD (tZ p cs ws (i:Int)) (ws.getD i 0):=by rw[e];exact bT
      have G3:=k9.mp (M7 hx)
      have hg:=G3.2
      unfold GX at hg
      rw[dN,decide_eq_true_eq] at hg
      refine hg.1 ?_
      have hm:=G3.1
      unfold tZ at hm
      obtain⟨q,hq,rfl⟩:=fQ.mp hm
      obtain⟨c,prs,f,hc,_,_,rfl⟩:=YE (aE _) hq
      have hz:=hb prs (iQ hc)
      have hz:q9 prs (ws.map some)%p=0:=by simpa using hz
      show(ws.getD (i:Int).toNat 0-q9 (cs.getD (c:Int).toNat []) (ws.map some)%p*sol p f 1)%p=_
      rw[Int.toNat_natCast,Int.toNat_natCast,show cs.getD c []=prs by rw[pe,hc];rfl,hz,Int.zero_mul,Int.sub_zero]
      have:=hw (ws.getD i 0) (by rw[pe,bE (by walk_at "o")];exact nk _)
      exact Int.emod_eq_of_lt this.1 this.2
  rw[Y4];rfl
inductive Way(p:Int)(cs:List bY)(n k:Nat)(ws:List Int):Prop
 |held (hb:brk p cs ws=0) (ht:vq p cs ws n=[])
 |rest (hb:brk p cs ws≠0) (ht:vq p cs ws n=[])
 |on (hb:brk p cs ws≠0) (ht:vq p cs ws n≠[])
theorem way(hV:Cr p n cs){ws:List Int}(hl:ws.length=n.toNat)(hw:∀x∈ws,0<=x/\x<p)(k:Nat):Way p cs n.toNat k ws:=by
 by_cases h1:brk p cs ws=0
 ·exact .held h1 (Us hV hl hw h1)
 by_cases h2:vq p cs ws n.toNat=[]
 ·exact .rest h1 h2
 ·exact .on h1 h2
end
end L2
set_option maxRecDepth 100000
set_option maxHeartbeats 4000000
set_option maxRecDepth 100000
set_option maxHeartbeats 4000000
set_option maxRecDepth 100000
set_option maxHeartbeats 4000000
set_option maxRecDepth 100000
set_option maxHeartbeats 4000000
namespace L2
open PySem PySem.Spec PyProof.Rows
noncomputable def YO(cs:List bY):Prop:=cs.Pairwise fun a b=>∀x y:Int,x≠y->x∈a.map (·.1)->y∈a.map (·.1)->x∈b.map (·.1)->y∈b.map (·.1)->False
structure Ua(p n:Int)(cs:List bY)(ws:List Int):Prop where
 v:Cr p n cs
 a:YO cs
 t:∀prs∈cs,q9 prs (ws.map some)%p=0
 l:ws.length=n.toNat
 r:∀x∈ws,0<=x/\x<p
section
variable{p n:Int}{cs:List bY}{ws xs O:List Int}{i:Nat}
theorem wr(h:Ua p n cs ws)(hi:i<n.toNat):0<=ws.getD i 0/\ws.getD i 0<p:=by
 have:=h.l
 exact h.r _ (by rw[pe,bE (by walk_at "o")];exact nk _)
end
end L2
set_option maxRecDepth 100000
set_option maxHeartbeats 4000000
set_option maxRecDepth 100000
set_option maxHeartbeats 4000000
namespace L2
open PySem PySem.Spec PyProof.Rows
theorem Vl(q:Nat->Bool)(k:Nat):(List.range (k+1)).filter q=(List.range k).filter q++if q k=true then[k] else[]:=by
 rw[List.range_succ,List.filter_append]
 congr 1
 rw[uY,List.filter_nil]
section
variable{p n:Int}{d:Nat}{cs:List bY}{ws L:List Int}
noncomputable def only(cs:List bY)(L:List Int)(x:Int)(c:Nat):Prop:=((cs.getD c []).filter fun pr=>decide (pr.1∈L)).map (·.1)=[x]
end
end L2
set_option maxRecDepth 100000
set_option maxHeartbeats 4000000
namespace L2
open PySem PySem.Spec PyProof.Rows
section
variable{P:Program}{w:World}{H H':Hp}{h h':Heap}{a:Addr}{o:HO}
theorem bP.there(x:bP P w H h a o):∃u,h.get? a=some u:=by
 cases o with
 |lst xs=>obtain⟨_,_,_,_,e⟩:=x;exact⟨_,e⟩
 |tup xs=>obtain⟨_,_,_,_,e,_⟩:=x;exact⟨_,e⟩
 |dK kvs=>obtain⟨_,_,_,_,o,_,_,e,_⟩:=x;exact⟨_,e⟩
 |dT kvs=>obtain⟨_,_,_,_,o,_,_,e,_⟩:=x;exact⟨_,e⟩
 |set S n=>obtain⟨o,_,_,_,e,_⟩:=x;exact⟨_,e⟩
 |ins C dx fs=>obtain⟨_,_,_,e,_⟩:=x;exact⟨_,e⟩
 |own y=>obtain⟨_,e⟩:=x;exact⟨_,e⟩
 |xd fs=>obtain⟨_,⟨_,_,_,e,_⟩,_⟩:=x;exact⟨_,e⟩
 |l9 lo hi=>obtain⟨_,_,_,e⟩:=x;exact⟨_,e⟩
 |gv ob u=>obtain⟨e,_⟩:=x;exact⟨_,e⟩
 |nT ps=>exact⟨_,x⟩
 |met f y=>exact⟨_,x⟩
 |ext φ=>obtain⟨_,⟨_,e⟩,_⟩:=x;exact⟨_,e⟩
end
noncomputable def Yh(h0 h:Heap)(H:Hp)(ea:Addr)(vs:Array Value):Prop:=
 vs[1]?=some .none\/∃T oT ts,vs[1]?=some (.ref T)/\T≠ea/\h0.get? T=none/\H T=none/\h.get? T=some oT/\oT.data= .fields ts/\ts[3]?=some .none
structure kh(h0 h:Heap)(H:Hp)(ea:Addr)(C:Value):Prop where
 new:h0.get? ea=none
 free:H ea=none
 at_:∃oe vs a0,h.get? ea=some oe/\oe.cls=C/\oe.data= .fields vs/\vs[0]?=some a0/\Yh h0 h H ea vs
noncomputable def Off(h:Heap)(ea b:Addr):Prop:=b≠ea/\∀oe vs T,h.get? ea=some oe->oe.data= .fields vs->vs[1]?=some (.ref T)->b≠T
noncomputable def xV(h:Heap)(ea:Addr):Prop:=∃oe vs T,h.get? ea=some oe/\oe.data= .fields vs/\vs[1]?=some (.ref T)
structure oq(hid:List Addr)(h h':Heap):Prop where
 kp:∀b o,h.get? b=some o->b∉hid->h'.get? b=some o
 sl:∀b o,h.get? b=some o->(∀vs,o.data≠ .fields vs)->∃sl,h'.get? b=some {o with slots:=sl}
theorem IA{fs ex hid:List Addr}{H0 H:Hp}{h0 h h':Heap}(u:Un fs ex H0 H h0 h)(st:oq hid h h')(hh:∀b∈hid,h0.get? b=none\/b∈fs)(hfs:∀b∈fs,∀o,h.get? b=some o->∀vs,o.data≠ .fields vs):Un fs ex H0 H h0 h':=by
 have nh:∀b o,h0.get? b=some o->b∉fs->b∉hid:=fun b o e hb z=>by
  rcases hh b z with q|q
  ·rw[q] at e;cases e
  ·exact hb q
 refine⟨fun b o e n hb hx=>st.kp b o (u.keep b o e n hb hx) (nh b o e hb),fun b o e n hb hx=>?_,u.free,fun b o e hx=>?_,u.tups,u.jV,u.j4⟩
 ·obtain⟨sl,e1⟩:=u.slot b o e n hb hx
  obtain⟨wo,e2⟩:=st.sl b _ e1 (hfs b hb _ e1)
  exact⟨wo,e2⟩
 ·obtain⟨o',e1⟩:=u.there b o e hx
  by_cases hb:b∈fs
  ·obtain⟨wo,e2⟩:=st.sl b _ e1 (hfs b hb _ e1)
   exact⟨_,e2⟩
  ·exact⟨o',st.kp b o' e1 (nh b o e hb)⟩
theorem bU.stir{P:Program}{w:World}{H:Hp}{h h':Heap}{hid:List Addr}(x:bU P w H h)(st:oq hid h h')(hn:∀b∈hid,H b=none):bU P w H h':=fun a o e=>
 (x a o e).stay (fun b u hb q => st.kp b u q fun z => by
  have n:=hn b z
  rcases hb with rfl|hb
  ·rw[e] at n;cases n
  ·rw[hb] at n;cases n) (fun _ q=>q) fun _ _ q=>q
theorem GP{h base base':Heap}:∀(l:List Env),h.FunFrames base l->(∀b∈frs l,base'.get? b=none)->h.FunFrames base' l
  |[],_,_=>trivial
  | env :: r, hl, hb => by
    obtain⟨hk,⟨L,o,hf,hn,ho,hd⟩,hr⟩:=hl
    have hm:∀b,b∈L::frs r->b∈frs (env::r):=fun b z=>by unfold frs;rw[kq,hf];exact z
    exact⟨hk,⟨L,o,hf,hb L (hm L bT),ho,hd⟩,GP r hr fun b z=>hb b (hm b (bJ _ z))⟩
structure Hid(h0 h:Heap)(H:Hp)(l:List Env)(ea:Addr)(hid:List Addr):Prop where
 me:ea∈hid
 fr:∀b∈frs l,b∈hid
 un:∀b∈hid,H b=none
 old:∀b∈hid,b∈frs l\/h0.get? b=none
 off:∀b,Off h ea b->b∉frs l->b∉hid
section
variable{P:Program}{w:World}{M:Model}{A:Around}{E:Value->Shared->Prop}{s:Shared}{env:Env}{outer:List Env}{L ea:Addr}{C:Value}{H:Hp}{h0 base:Heap}{Q:Unit->Shared->Prop}
theorem Ca{h:Heap}{l:List Addr}:(PySem.W.hideAll h l).StaysIn h:=fun b o e=>PySem.W.of_hideAll l e
theorem Wv{h:Heap}{hid:List Addr}{l:List Env}{T:Addr}(hok:bU P w H h)(hd:Hid h0 h H l ea hid)(nP:∀b o,h0.get? b=some o->∃o',h.get? b=some o'){h':Heap}(ff:h'.FunFrames (PySem.W.hideAll h hid) l){oT:Obj}{ts:Array Value}
  (e:(PySem.W.hideAll h hid).get? T=none) (eT:h'.get? T=some oT) (dT:oT.data= .fields ts):h0.get? T=none/\H T=none:=by
 by_cases hm:T∈hid
 ·refine⟨?_,hd.un T hm⟩
  rcases hd.old T hm with q|q
  ·obtain⟨_,o,ho,n⟩:=ff.mem q
   rw[eT] at ho;cases ho
   exact absurd dT (n ts)
  ·exact q
 ·have hn:h.get? T=none:=by
   cases z:h.get? T with
   |none=>rfl
   |some o=>rw[EZ hid z hm] at e;cases e
  refine⟨?_,?_⟩
  ·cases z:h0.get? T with
   |none=>rfl
   |some o=>obtain⟨o',z'⟩:=nP T o z;rw[hn] at z';cases z'
  ·cases z:H T with
   |none=>rfl
   |some o=>obtain⟨o',z'⟩:=(hok T o z).there;rw[hn] at z';cases z'
theorem D7{h h':Heap}{hid:List Addr}{l:List Env}{a0:Value}(F:kh h0 h H ea C)(hok:bU P w H h)(hd:Hid h0 h H l ea hid)(nP:∀b o,h0.get? b=some o->∃o',h.get? b=some o')(ff:h'.FunFrames (PySem.W.hideAll h hid) l)
  (t:h'.TracedW (PySem.W.hideAll h hid) ea C a0):kh h0 h' H ea C:=by
 obtain⟨oe,vs,T,oT,ts,e1,⟨e2,e3⟩,e4,e5,e6,e7,e8,e9,lX⟩:=t
 obtain⟨q1,q2⟩:=Wv hok hd nP ff e6 e8 e9
 exact⟨F.new,F.free,oe,vs,a0,e1,e2,e4,e3, .inr ⟨T,oT,ts,e5,e7,q1,q2,e8,e9,lX⟩⟩
theorem DS{h:Heap}{hid:List Addr}{l:List Env}(hd:Hid h0 h H l ea hid)(ff:h.FunFrames base l):h.FunFrames (PySem.W.hideAll h hid) l:=
 GP l ff fun b hb=>pK hid (hd.fr b hb)
theorem Ew{h h':Heap}{hid:List Addr}(st:(PySem.W.hideAll h hid).StaysIn h')(sl:∀(b:Addr) (o:Obj),h.get? b=some o->(∀(vs:Array Value),o.data≠Data.fields vs)->∃sl,h'.get? b=some {o with slots:=sl}):oq hid h h':=
 ⟨fun b o e hb=>st b o (EZ hid e hb),sl⟩
theorem GW{h:Heap}{l:List Env}(F:kh h0 h H ea C)(hfr:∀b∈frs l,H b=none):∃hid,Hid h0 h H l ea hid/\∀oe vs T,h.get? ea=some oe->oe.data= .fields vs->vs[1]?=some (.ref T)->T∈hid:=by
 obtain⟨oe,vs,a0,e1,e2,e3,e4,t⟩:=F.at_
 rcases t with t|⟨T,oT,ts,e5,e7,q1,q2,e8,e9,lX⟩
 ·refine⟨ea::frs l,⟨bT,fun b hb=>bJ _ hb,fun b hb=>?_,fun b hb=>?_,?_⟩,fun E2 vs' T' z1 z2 z3=>?_⟩
  ·rcases aA.mp hb with rfl|hb
   ·exact F.free
   ·exact hfr b hb
  ·rcases aA.mp hb with rfl|hb
   ·exact .inr F.new
   ·exact .inl hb
  ·exact fun b ho nb hb=>(aA.mp hb).elim ho.1 nb
  ·rw[e1] at z1;cases z1
   rw[e3] at z2;cases z2
   rw[t] at z3;cases z3
 ·refine⟨ea::T::frs l,⟨bT,fun b hb=>bJ _ (bJ _ hb),fun b hb=>?_,fun b hb=>?_,?_⟩,fun E2 vs' T' z1 z2 z3=>?_⟩
  ·rcases aA.mp hb with rfl|hb
   ·exact F.free
   ·rcases aA.mp hb with rfl|hb
    ·exact q2
    ·exact hfr b hb
  ·rcases aA.mp hb with rfl|hb
   ·exact .inr F.new
   ·rcases aA.mp hb with rfl|hb
    ·exact .inr q1
    ·exact .inl hb
  ·intro b ho nb hb
   rcases aA.mp hb with z|hb
   ·exact ho.1 z
   ·rcases aA.mp hb with z|hb
    ·exact ho.2 oe vs T e1 e3 e5 z
    ·exact nb hb
  ·rw[e1] at z1;cases z1
   rw[e3] at z2;cases z2
   rw[e5] at z3;cases z3
   exact bJ _ bT
theorem Yx{h b:Heap}{a0:Value}(t:h.TracedW b ea C a0):xV h ea:=by
 obtain⟨oe,vs,T,oT,ts,e1,⟨e2,e3⟩,e4,e5,_⟩:=t
 exact⟨oe,vs,T,e1,e4,e5⟩
theorem WT(hA:A.frames=some (env::outer))(hf:s.heap.FunFrames base (env::outer))(hL:env.frame=some L)(F:kh h0 s.heap H ea C)(hok:bU P w H s.heap)(hfr:∀b∈frs (env::outer),H b=none)
  (nP:∀b o,h0.get? b=some o->∃o',s.heap.get? b=some o')
  (q:∀h' hid,oq hid s.heap h'->Hid h0 s.heap H (env::outer) ea hid->kh h0 h' H ea C->xV h' ea->Q () {s with heap:=h'}):wpAny M A (leaving env (.ref ea)) Q E s:=by
 obtain⟨hid,hd,hT⟩:=GW F hfr
 obtain⟨oe,vs,a0,e1,e2,e3,e4,t⟩:=F.at_
 have fin:∀h',(PySem.W.hideAll s.heap hid).LeftW (env::outer) ea C a0 s.heap h'->Q () {s with heap:=h'}:=fun h' ⟨st,ff,tr,sl⟩=>
  q h' hid (Ew st sl) hd (D7 F hok hd nP ff tr) (Yx tr)
 rcases t with t|⟨T,oT,ts,e5,e7,q1,q2,e8,e9,lX⟩
 ·refine wpAny_leaving_firstW hA (DS hd hf) hL e1 Ca (pK hid hd.me) e3 t e4 fun h' l=>?_
  rw[e2] at l
  exact fin h' l
 ·exact wpAny_leaving_nextW hA (DS hd hf) hL ⟨oe,vs,T,oT,ts,e1,⟨e2,e4⟩,e3,e5,pK hid (hT oe vs T e1 e3 e5),e7,e8,e9,lX⟩ Ca (pK hid hd.me) fin
end
noncomputable def iS(P:Program)(w:World):kg:=fun outer H s E e s'=>∃ea C H',e= .ref ea/\s'.os=s.os/\AllBare s'.gens/\Un (frs outer) [] H H' s.heap s'.heap/\bU P w H' s'.heap/\kh s.heap s'.heap H' ea C/\xV s'.heap ea/\E C none H'
noncomputable def kR(X:Cx)(tr:Bool)(EX:St->XK):Prop:=∀(pins:List (Addr×Obj)) (σ:St) (H:Hp) (s:Shared) (ea:Addr) (C:Value),Inv X pins σ H s->kh X.s₀.heap s.heap H ea C->(∀p∈X.pn++pins,Off s.heap ea p.1)->(tr=true->xV s.heap ea)->EX σ C none H->X.xe (.ref ea) s
theorem oE{P:Program}{w:World}{K:PySem.W.Frag}{mg:Str->Option Value}{base:Heap}{N:List Str}{qual:Str}{scope:Scope}{f:Addr}{cd:Value}{A:Around}{outer:List Env}{s₀:Shared}{H₀:Hp}{E:XK}{tr:Bool}:
  kR (nu (iS P w) P w K mg base N qual scope f cd A outer s₀ H₀ E) tr (fun _=>E):=by
 intro pins σ H s ea C I F _ _ q
 show wpAny _ _ (leaving _ _) _ _ _
 refine WT (h0:=s₀.heap) (base:=base) (P:=P) (w:=w) I.ok.frames I.stack rfl F I.hok I.wO (fun b o e=>I.base.there b o e (fun z=>nomatch z)) fun h' hid st hd F' TL=>?_
 have nf:∀b∈frs outer,∀o,s.heap.get? b=some o->∀vs,o.data≠ .fields vs:=fun b hb o e=>by
  obtain⟨_,o',ho,n⟩:=I.gx.mem hb
  rw[e] at ho;cases ho
  exact n
 refine⟨ea,C,H,rfl,I.os,I.bare,IA I.base st (fun b hb=>?_) nf,I.hok.stir st hd.un,F',TL,q⟩
 rcases hd.old b hb with z|z
 ·rcases aA.mp (show b∈s₀.heap.objs.size::frs outer from z) with rfl|z
  ·exact .inl (A5 (aE _))
  ·exact .inr z
 ·exact .inl z
section
variable{X:Cx}{EX:St->XK}{pins:List (Addr×Obj)}{σ:St}{H:Hp}{s s':Shared}{e:Value}
theorem kR.passes{tr:Bool}(x:kR X tr EX)(hex:X.ex=[])(I:Inv X pins σ H s)(h:iS X.prog X.w X.stack H s (EX σ) e s'):X.xe e s':=by
 obtain⟨ea,C,H',rfl,os,bare,un,hok,F,td,q⟩:=h
 obtain⟨hh,g,d,t,os'⟩:=s'
 obtain rfl:os'=s.os:=os
 have J:=I.call (h':=hh) (g':=g) (d':=d) (t':=t) (ch:=[]) un hok bare (fun b z=>nomatch z)
 have old:∀b,s.heap.get? b=none->X.s₀.heap.get? b=none:=fun b n=>by
  cases z:X.s₀.heap.get? b with
  |none=>rfl
  |some o=>obtain⟨o',z'⟩:=I.base.there b o z (by rw[hex];exact fun z=>nomatch z);rw[n] at z';cases z'
 obtain⟨n,fr,oe,vs,a0,e1,e2,e3,e4,t⟩:=F
 refine x pins σ H' _ ea C J ⟨old _ n,fr,oe,vs,a0,e1,e2,e3,e4,?_⟩ (fun p hp=>?_) (fun _=>td) q
 ·rcases t with t|⟨T,oT,ts,e5,e7,q1,q2,e8,e9,lX⟩
  ·exact .inl t
  ·exact .inr ⟨T,oT,ts,e5,e7,old _ q1,q2,e8,e9,lX⟩
 ·have hs:=(I.pin p hp).1
  refine⟨fun z=>?_,fun E2 vs' T' z1 z2 z3 z=>?_⟩
  ·rw[z,n] at hs;cases hs
  ·rw[e1] at z1;cases z1
   rw[e3] at z2;cases z2
   rcases t with t|⟨T,oT,ts,e5,e7,q1,q2,e8,e9,lX⟩
   ·rw[t] at z3;cases z3
   ·rw[e5] at z3;cases z3
    rw[z,q1] at hs;cases hs
end
noncomputable def GG(sp:Sp)(EX:St->XK)(t:TA):TE:=fun σ H Q=>t σ H fun vs H1=>sp vs H1 Q (EX σ)
noncomputable def JA(C:Addr)(m:Str)(sp:Sp)(EX:St->XK)(ta:TE)(t:TA):TE:=fun σ H Q=>ta σ H fun x H1=>∃a dx fs,x= .ref a/\H1 a=some (.ins C dx fs)/\fs.lookup m=none/\
 t σ H1 fun vs H2=>sp (x::vs) H2 Q (EX σ)
structure nM(P:Program)(w:World)(K:PySem.W.Frag)(mg:Str->Option Value)(base:Heap)(x:Str)(k:Nat)(ps:List Str)(sp:Sp):Prop where
 ex:∃f fd,aY P w K mg base (iS P w) k f fd ps sp/\Binds K fd ps []/\mg x=some (.ref f)/\PySem.W.keepIn K (.ref f)=true
structure lN(P:Program)(w:World)(K:PySem.W.Frag)(mg:Str->Option Value)(base:Heap)(C:Addr)(m:Str)(k:Nat)(ps:List Str)(sp:Sp):Prop where
 cl:cZ K C
 ex:∃f fd,aY P w K mg base (iS P w) k f fd ps sp/\Binds K fd ps []/\Meth K C m f
section
variable{X:Cx}{EX:St->XK}{tr:Bool}{k:Nat}{f C:Addr}{fd:FuncData}{ps:List Str}{sp:Sp}{x m:Str}{p pos apos:Pos}{e o:Expr}{es:List Expr}{ta:TE}{t:TA}
theorem Gz{pins:List (Addr×Obj)}{σ:St}{H:Hp}{s:Shared}{Q:VK}{us:List Value}{vs:List V}(F:aY X.prog X.w X.K X.mg X.base (iS X.prog X.w) k f fd ps sp)(hr:cK k X.A)(hb:Binds X.K fd ps [])(hx:kR X tr EX)(hex:X.ex=[])
    (I:Inv X pins σ H s) (r:Vals vs us) (h:sp vs H Q (EX σ)):wpAny (model X.prog X.w) X.A (call (.ref f) us) (EP X pins σ Q) X.xe s:=by
  have hl:us.length=ps.length:=by rw[<-r.length];exact F.len _ _ _ _ h
  have hb':=hb s us I.bM (by rw[gm];exact hl)
  rw[gm] at hb'
  refine wpAny_call (codeAny_mono (F.run X.A X.stack s H ⟨us,[]⟩ us vs Q (EX σ) hr I.AG hb' r h) fun r s' hq=>?_)
  cases r with
  |error e=>exact hx.passes hex I hq
  | ok fl =>
    cases fl with
    |ret u=>exact I.after hq
    |next=>exact False.elim hq
    |brk=>exact False.elim hq
    |cont=>exact False.elim hq
theorem BQ(c:nM X.prog X.w X.K X.mg X.base x k ps sp)(hx:kR X tr EX)(hex:X.ex=[])(hr:cK k X.A)(hg:Gl X x)(ha:PA X (e::es) t)
  (hdb:(x==("__debug__":Str))=false:=by decide) (he:starEach (e::es) X.env=(false,eval e X.env)::starEach es X.env:=by rfl) (hpl:(backTo pos (starEach es X.env)).any (·.1)=false:=by rfl):
  PE X (.Call (.Name x p) (e::es) [] pos) (GG sp EX t):=by
 intro pins s σ H Q I h
 obtain⟨f,fd,F,b,hm,hk⟩:=c.ex
 refine wpAny_Call_Name_kw (qU I hg hm ?_ hdb)
 refine vn (h₀:=X.base) I.ok.mod.nY hk (aF (ha pos pins s σ H _ I h) fun us s1 ⟨vs,H1,I1,r,q⟩=>⟨I1.bM,?_⟩) he hpl
 exact Gz F hr b hx hex I1 r q
theorem zC{pl:Sem Bool}(c:lN X.prog X.w X.K X.mg X.base C m k ps sp)(he:PE X o ta)(hx:kR X tr EX)(hex:X.ex=[])(hr:cK k X.A)(ha:PA X (e::es) t)
  (hst:starEach (e::es) X.env=(false,eval e X.env)::starEach es X.env:=by rfl) (hpl:(backTo pos (starEach es X.env)).any (·.1)=false:=by rfl)
  (ht : eval (.Call (.Attribute o m apos) (e :: es) [] pos) X.env = (do
   let ov<-eval o X.env
   standAt apos.atName
   let (f,first)<-holding [ov] (getMethod ov m pl)
   callWith pos f first (backTo pos (starEach (e::es) X.env)) (backToKw pos (keywordEach [] X.env))):=by rfl):
  PE X (.Call (.Attribute o m apos) (e::es) [] pos) (JA C m sp EX ta t):=by
 intro pins s σ H Q I h
 obtain⟨f,fd,F,b,hm⟩:=c.ex
 refine yz (pl:=pl) (aF (he pins s σ H _ I h) fun u s1 ⟨x,H1,I1,rx,a,dx,fs,ex,ea,l,q⟩=>?_) ht
 subst ex
 obtain rfl:u=Value.ref a:=rx
 refine yL I1 ea c.cl hm l ?_
 refine vn (first:=[.ref a]) (h₀:=X.base) I.ok.mod.nY hm.kp (aF (ha pos pins s1 σ H1 _ I1 q) fun us s2 ⟨vs,H2,I2,r,q2⟩=>⟨I2.bM,?_⟩) hst hpl
 exact Gz (us:= .ref a::us) (vs:= .ref a::vs) F hr b hx hex I2 (.cons rfl r) q2
end
section
variable{P:Program}{w:World}{K:PySem.W.Frag}{mg:Str->Option Value}{base:Heap}
theorem bW.qT{x qual:Str}{st:Stmt}{f:Addr}{fd:FuncData}{N ps:List Str}{k:Nat}{sp:Sp}(F:bW K x qual st f fd)(S:cW N ps (aW st))(len:∀vs H Q E,sp vs H Q E->vs.length=ps.length)
  (hbody : ∀ (cdv : Value) (A : Around) (outer : List Env) (s : Shared) (H : Hp) (vs : List V) (Q : VK) (E : XK), cK k (A.deeper (envOfC qual (aW st) s.heap.objs.size f cdv)) -> sp vs H Q E ->
   ∃t,gn (nu (iS P w) P w K mg base N qual (aW st) f cdv A outer s H E) (g8 st) t/\t {nx:=fun _ H'=>Q .aB H',rt:=Q} (start N vs) H):aY P w K mg base (iS P w) (k+1) f fd ps sp:=by
 obtain⟨oc,od,kV,doc,pm,an,cdv,ct,osl,rfl,lk,hcd⟩:=F.ex
 exact GQ lk hcd S len fun A outer s H vs Q E hr kI=>hbody cdv A outer s H vs Q E hr kI
end
noncomputable abbrev iW:List Value:=[.type "ValueError", .type "Exception", .type "BaseException", .type "object"]
structure XC(K:PySem.W.Frag)(C:Addr)(up:List Value):Prop where
 ob:∃nm q N bs hdct sn sub ab col dd k0 k1 k2 k3 k5 mN,mN "__init__"=none/\∀h:Heap,K.In h->h.get? C=some (excClassObj nm q C N bs (up++iW) hdct sn sub ab col dd k0 k1 k2 k3 k5 "ValueError.__new__")/\h.Ns N mN/\OwnTail h iW (up++iW)
 Ig:(up++iW).contains (Value.type "BaseException")=true
noncomputable def MV(C:Addr)(EX:St->XK)(t:TA):TS:=fun _ σ H=>t σ H fun vs H1=>vs.length<=1000/\EX σ (.ref C) none H1
section
variable{X:Cx}{EX:St->XK}{x:Str}{C:Addr}{up:List Value}{e:Expr}{es:List Expr}{np cpos pos:Pos}{t:TA}
theorem yQ(hx:kR X false EX)(hex:X.ex=[])(hc:XC X.K C up)(Ot:X.calm=true)(hg:Gl X x)(hm:X.mg x=some (.ref C))(ha:PA X (e::es) t)
  (hdb:(x==("__debug__":Str))=false:=by decide) (he:starEach (e::es) X.env=(false,eval e X.env)::starEach es X.env:=by rfl) (hpl:(backTo cpos (starEach (e::es) X.env)).any (·.1)=false:=by rfl):
  PS X (.Raise (some (.Call (.Name x np) (e::es) [] cpos)) none pos) (MV C EX t):=by
 intro pins s σ H D I h
 obtain⟨nm,q,N,bs,hdct,sn,sub,ab,col,dd,k0,k1,k2,k3,k5,mN,hi,ho⟩:=hc.ob
 refine wpAny_Raise_call_subU (nm:=nm) (q:=q) (C:=C) (N:=N) (bs:=bs) (bm:=up++iW) (bmB:=iW) (hdct:=hdct) (sn:=sn) (sub:=sub) (ab:=ab) (col:=col) (dd:=dd) (k0:=k0) (k1:=k1) (k2:=k2) (k3:=k3) (k5:=k5) (B:="ValueError") (Bn:="ValueError") (mN:=mN) F.excBase_ValueError (by decide) F.excBase_ValueError hc.Ig (I.ok.hd Ot) hpl hi ?_
 refine qU I hg hm ?_ hdb
 refine⟨rfl,?_⟩
 have h2:=ha cpos pins s σ H _ I h
 rw[he] at h2⊢
 refine PySem.Calls.evalArgs_plain (aF h2 fun us s2 ⟨vs,H2,I2,r,hl,qE⟩=>?_)
 obtain⟨z1,z2,z3⟩:=ho s2.heap I2.bM
 refine⟨rfl,?_,z1,z2,z3,fun h' e' mk=>?_⟩
 ·show us.length<=sizeLine
  rw[<-r.length]
  exact dw hl (by decide)
 ·obtain⟨t',q1,q2,q3⟩:=mk.there
  have old:∀b,s2.heap.get? b=none->X.s₀.heap.get? b=none:=fun b n=>by
   cases z:X.s₀.heap.get? b with
   |none=>rfl
   |some o=>obtain⟨o',z'⟩:=I2.base.there b o z (by rw[hex];exact fun z=>nomatch z);rw[n] at z';cases z'
  have fr:H2 e'=none:=by
   cases z:H2 e' with
   |none=>rfl
   |some o=>obtain⟨o',z'⟩:=(I2.hok e' o z).there;rw[mk.new] at z';cases z'
  have J:Inv X pins σ H2 {s2 with heap:=h'}:=I2.un (t':=s2.toks) (Un.kept mk.keeps) (I2.hok.kept mk.keeps)
  refine hx pins σ H2 _ e' (.ref C) J ⟨old _ mk.new,fr,_,_,_,q1,rfl,rfl,rfl, .inl rfl⟩ (fun p hp=>?_) (fun z=>nomatch z) qE
  have hs:=(I2.pin p hp).1
  refine⟨fun z=>?_,fun oe vs T w1 w2 w3=>?_⟩
  ·rw[z,mk.new] at hs;cases hs
  ·rw[q1] at w1;cases w1
   cases w2
   cases w3
end
section
variable{M:Model}{A:Around}{E:Value->Shared->Prop}{nm q T4 q0:Str}{C N C0 N0:Addr}{bs bm XT xy:List Value}{hdct XH:Bool}{sn Wr:List Str}{sub Vc:List Value}{ab Xe:Bool}{col Ow:Option Bool}{dd Um:Option Addr}{k0 k1 k2 k3 k5 l0 l1 l2 l3 l5:Option Value}{newId OE:String}
theorem Qu{h:Heap}{g:Array GenState}{d:Drawn}{t:Nat}{os:OsState}{e:Addr}{oe:Obj}{Q:Bool->Shared->Prop}
  (hC:h.get? C=some (excClassObj nm q C N bs bm hdct sn sub ab col dd k0 k1 k2 k3 k5 newId)) (h0:h.get? C0=some (excClassObj T4 q0 C0 N0 XT xy XH Wr Vc Xe Ow Um l0 l1 l2 l3 l5 OE)) (he:h.get? e=some oe) (hcls:oe.cls= .ref C)
  (hb0:xy.contains (.type "BaseException")=true) (hup:(Value.ref C::bm).contains (.ref C0)=true) (hq:Q true ⟨h,g,d,t,os⟩):wpAny M A (excMatches (.ref e) (.ref C0)) Q E ⟨h,g,d,t,os⟩:=by
 have Tw:(Value.ref C0::xy).contains (.type "BaseException")=true:=by rw[De,hb0,uE]
 have f:=tc_notTuple
 unfold excMatches
 repeat (first|(with_reducible refine wpAny_loadPart_at he ?_;rw[hcls])|with_reducible refine wpAny_loadPart_at h0 ?_|(with_reducible refine wpAny_isSubtype_exc h0 ?_;rw[Tw])|(with_reducible refine wpAny_isSubtype_exc hC ?_;rw[hup])|wp_step)
 exact hq
end
noncomputable def Cx.catch(X:Cx)(ps:List (Addr×Obj))(W:Value->Shared->Prop):Cx:={X with pn:=X.pn++ps,xe:=W}
noncomputable def Cx.sup(X:Cx)(ea:Addr):Cx:={X with A:=X.A.mark (some (.ref ea)),calm:=false,xe:=fun _ _=>False}
noncomputable def pR(ea:Addr)(C:Value):Heap->Prop:=fun h=>∃oe vs,h.get? ea=some oe/\oe.cls=C/\oe.data= .fields vs
section
variable{X:Cx}{pins ps:List (Addr×Obj)}{σ:St}{H:Hp}{s:Shared}{W:Value->Shared->Prop}{ea:Addr}{C:Value}
theorem Inv.Wf(I:Inv X ps σ H s):Inv (X.catch ps W) [] σ H s:=
 have o:=I.ok
 ⟨⟨o.mod,o.kind,o.glob,o.blt,o.above,o.inj,o.has,o.mE,o.hd,o.frames,o.stk,o.nU,o.bs,o.jW,o.mT,o.lZ,o.gx,o.kr⟩,I.os,I.bare,I.base,I.loc,I.cell,I.free,I.gu,fun p hp=>I.pin p (by rwa[gm] at hp),I.hok,I.len⟩
theorem Inv.uy(I:Inv (X.catch ps W) pins σ H s):Inv X ps σ H s:=
 have o:=I.ok
 ⟨⟨o.mod,o.kind,o.glob,o.blt,o.above,o.inj,o.has,o.mE,o.hd,o.frames,o.stk,o.nU,o.bs,o.jW,o.mT,o.lZ,o.gx,o.kr⟩,I.os,I.bare,I.base,I.loc,I.cell,I.free,I.gu,fun p hp=>I.pin p (ug _ hp),I.hok,I.len⟩
theorem Inv.Gs(I:Inv X ps σ H s):Inv (X.sup ea) ps σ H s:=
 have o:=I.ok
 ⟨⟨o.mod,o.kind,o.glob,o.blt,o.above,o.inj,o.has,o.mE,fun z=>(nomatch z),o.frames,o.stk,o.nU,o.bs,o.jW,o.mT,o.lZ,o.gx,o.kr⟩,I.os,I.bare,I.base,I.loc,I.cell,I.free,I.gu,I.pin,I.hok,I.len⟩
theorem Inv.VV(hh:X.calm=true->X.A.handled=none)(I:Inv (X.sup ea) ps σ H s):Inv X ps σ H s:=
 have o:=I.ok
 ⟨⟨o.mod,o.kind,o.glob,o.blt,o.above,o.inj,o.has,o.mE,hh,o.frames,o.stk,o.nU,o.bs,o.jW,o.mT,o.lZ,o.gx,o.kr⟩,I.os,I.bare,I.base,I.loc,I.cell,I.free,I.gu,I.pin,I.hok,I.len⟩
theorem Inv.stir{hid:List Addr}{h':Heap}(I:Inv X pins σ H s)(st:oq hid s.heap h')(hd:Hid X.s₀.heap s.heap H X.stack ea hid)(hp:∀p∈X.pn++pins,Off s.heap ea p.1):Inv X pins σ H {s with heap:=h'}:=by
 have sub:∀b∈hid,X.s₀.heap.get? b=none\/b∈X.fs:=fun b hb=>by
  rcases hd.old b hb with z|z
  ·rcases aA.mp (I.uB b z) with rfl|z
   ·exact .inl (A5 I.ok.above)
   ·exact .inr z
  ·exact .inl z
 have nf:∀b∈X.fs,∀o,s.heap.get? b=some o->∀vs,o.data≠ .fields vs:=fun b hb o e=>by
  obtain⟨_,o',ho,n⟩:=I.gx.mem hb
  rw[e] at ho;cases ho
  exact n
 have ce:∀{c:Addr} {v:Option Value},s.heap.IsCell c v->h'.IsCell c v:=fun{c v} ⟨o,ho,hd⟩=>by
  obtain⟨sl,e⟩:=st.sl _ o ho (fun vs z=>by rw[hd] at z;cases z)
  exact⟨_,e,hd⟩
 obtain⟨m,⟨o,es,ep,ho,hd',r⟩,hl⟩:=I.loc
 obtain⟨sl,e⟩:=st.sl _ o ho (fun vs z=>by rw[hd'] at z;cases z)
 refine⟨I.ok,I.os,I.bare,IA I.base st sub nf,⟨m,⟨_,es,ep,e,hd',r⟩,fun i x v e1 e2 e3=>?_⟩,fun x c e=>let ⟨v,z⟩:=I.cell x c e;⟨v,ce z⟩,I.free,I.gu,fun p lE=>?_,I.hok.stir st hd.un,I.len⟩
 ·obtain⟨u,r,q⟩:=hl i x v e1 e2 e3
  exact⟨u,r,q.elim .inl fun⟨k,c,e,z⟩=> .inr ⟨k,c,e,ce z⟩⟩
 ·obtain⟨e,n,ne,M1,d⟩:=I.pin p lE
  exact⟨st.kp _ _ e (hd.off _ (hp p lE) fun z=>(aA.mp (I.uB _ z)).elim ne M1),n,ne,M1,d⟩
theorem Inv.SY(I:Inv X pins σ H s)(F:kh X.s₀.heap s.heap H ea C)(hp:∀p∈X.pn++pins,p.1≠ea):Inv X pins σ (upd H ea (.ext (pR ea C))) s:=by
 obtain⟨oe,vs,a0,e1,e2,e3,e4,t⟩:=F.at_
 have n0:∀b o,X.s₀.heap.get? b=some o->b≠ea:=fun b o e z=>by rw[z,F.new] at e;cases e
 have nt:∀b o,H b=some o->b≠ea:=fun b o e z=>by rw[z,F.free] at e;cases e
 refine⟨I.ok,I.os,I.bare,⟨I.base.keep,I.base.slot,fun b o e n hx=>?_,I.base.there,fun b xs q=>?_,fun b o u q=>?_,fun b qs q=>?_⟩,I.loc,I.cell,?_,fun x c e=>?_,fun p h=>?_,fun a o e=>?_,I.len⟩
 ·rw[aT (n0 b o e)];exact I.base.free b o e n hx
 ·have z:=I.base.tups b xs q
  rw[aT (nt _ _ z)];exact z
 ·have z:=I.base.jV b o u q
  rw[aT (nt _ _ z)];exact z
 ·obtain⟨more,z⟩:=I.base.j4 b qs q
  exact⟨more,by rw[aT (nt _ _ z)];exact z⟩
 ·rw[aT]
  ·exact I.free
  ·intro z
   obtain⟨m,⟨o,es,ep,ho,hd,_⟩,_⟩:=I.loc
   rw[z,e1] at ho;cases ho
   rw[e3] at hd;cases hd
 ·rw[aT]
  ·exact I.gu x c e
  ·intro z
   obtain⟨v,o,ho,hd⟩:=I.cell x c e
   rw[z,e1] at ho;cases ho
   rw[e3] at hd;cases hd
 ·obtain⟨z1,z2,z3⟩:=I.pin p h
  exact⟨z1,by rw[aT (hp p h)];exact z2,z3⟩
 ·by_cases ha:a=ea
  ·subst ha
   rw[aQ] at e;cases e
   exact⟨⟨oe,vs,e1,e2,e3⟩,⟨_,e1⟩,fun h1 h2 ⟨oe,vs,z1,z2,z3⟩ k=>⟨oe,vs,k _ z1,z2,z3⟩⟩
  ·rw[aT ha] at e
   exact(I.hok a o e).stay (fun _ _ _ q=>q) (fun b q=>by rw[aT (nt _ _ q)];exact q) fun b xs q=>by rw[aT (nt _ _ q)];exact q
theorem zb{M:Model}{A:Around}{E:Value->Shared->Prop}{i:Nat}{x:Str}{pos:Pos}{Q:Unit->Shared->Prop}(I:Inv X pins σ H s)(hN:X.N.Nodup)(hi:X.N[i]?=some x)(hk:X.env.scope.names.lookup x=some .local)
  (h:∀s',Inv X pins (σ.set i none) H s'->Q () s'):wpAny M A (do bindName X.env x .none;unbindBehindTheSuite X.env x pos) Q E s:=by
 have uJ:i<σ.length:=by rw[I.len];exact(bh.mp hi).1
 refine wpAny_bind (bindName_ (xN I hN hi (.inl hk) (v:= .aB) (u:= .none) rfl (fun s1 I1=>?_) (.inr hk)))
 unfold unbindBehindTheSuite
 refine wpAny_onRaise ?_
 obtain⟨m,hn,hl⟩:=id I1.loc
 have hcls:(X.env.scope.kind== .class||(X.env.scope.kind== .module && X.env.locals !=X.env.globals))=false:=by rw[I.ok.kind];rfl
 have hm:m x=some .none:=by
  obtain⟨u,r,q⟩:=hl i x .aB hi (by rw[cy uJ]) (.inl hk)
  obtain rfl:u=Value.none:=r
  rcases q with ⟨_,e⟩|⟨z,_⟩
  ·exact e
  ·have hk':X.env.kindOf x=some .local:=hk
   rw[hk'] at z
   rcases z with z|z<;>cases z
 refine wpAny_unbindName_local hk hn hm hcls fun h' u hn' hs=>?_
 obtain⟨oL,_,_,tD,_⟩:=id hn
 refine h _ ⟨I1.ok,I1.os,I1.bare,⟨fun b o e n hb hx=>?_,fun b o e n hb hx=>?_,I1.base.free,fun b o e hx=>?_,I1.base.tups,I1.base.jV,I1.base.j4⟩,⟨_,hn',fun j y v' e1 e2 e3=>?_⟩,fun y c e=>?_,I1.free,I1.gu,fun p hp=>?_,fun b ob e=>?_,by simpa using I.len⟩
 ·exact(hs.2 b (cX (dM (bC e) I.ok.above))).trans (I1.base.keep b o e n hb hx)
 ·obtain⟨sl,e1⟩:=I1.base.slot b o e n hb hx
  exact⟨sl,(hs.2 b (cX (dM (bC e) I.ok.above))).trans e1⟩
 ·obtain⟨o',e1⟩:=I1.base.there b o e hx
  exact⟨o',(hs.2 b (cX (dM (bC e) I.ok.above))).trans e1⟩
 ·by_cases hj:j=i
  ·subst hj
   rw[cy uJ] at e2
   cases e2
  ·rw[bA (cR hj)] at e2
   obtain⟨u',r',q⟩:=hl j y v' e1 (by rw[bA (cR hj)];exact e2) e3
   refine⟨u',r',?_⟩
   rcases q with ⟨k,e⟩|⟨k,c,e,z⟩
   ·refine .inl ⟨k,?_⟩
    have:y≠x:=fun e=>hj (Ba hN e1 (e▸hi))
    simp[this,e]
   ·exact .inr ⟨k,c,e,z.sameBut hs (I1.mU y c e)⟩
 ·obtain⟨v,z⟩:=I1.cell y c e
  exact⟨v,z.sameBut hs (I1.mU y c e)⟩
 ·obtain⟨e,n,ne,nf,d⟩:=I1.pin p hp
  exact⟨(hs.2 p.1 ne).trans e,n,ne,nf,d⟩
 ·refine(I1.hok b ob e).stay (fun c w' hc q=>(hs.2 c ?_).trans q) (fun _ q=>q) fun _ _ q=>q
  rintro rfl
  rcases hc with z|hc
  ·rw[<-z,I1.free] at e;cases e
  ·rw[I1.free] at hc;cases hc
end
noncomputable def Dx(i:Nat)(D:Ends):Ends:={nx:=fun σ H=>D.nx (σ.set i none) H,rt:=D.rt,bk:=fun σ H=>D.bk (σ.set i none) H,ct:=fun σ H=>D.ct (σ.set i none) H}
noncomputable def BH(K:PySem.W.Frag)(C0:Addr)(i:Nat)(ts:TS)(D:Ends):St->XK:=fun σ Cv _ H=>∃C up,Cv= .ref C/\XC K C up/\(Value.ref C::(up++iW)).contains (.ref C0)=true/\∀ea,H ea=none->ts (Dx i D) (σ.set i (some (.ref ea))) (upd H ea (.ext (pR ea Cv)))
noncomputable def Pw(X:Cx)(hdl:ExceptHandler)(ps:List (Addr×Obj))(D:Ends):Value->Shared->Prop:=fun e s=>wpAny (model X.prog X.w) X.A (noteFrame e X.env) (fun _ s₂=>wpAny (model X.prog X.w) X.A (setFlight e none) (fun _ s₃=>wpAny (model X.prog X.w) X.A (handleBy e X.env [hdl]) (SP X ps D) X.xe s₃) X.xe s₂) X.xe s
section
variable{X:Cx}{C0:Addr}{oV:List Value}{xc n:Str}{np hpos pos:Pos}{b₀:Stmt}{suite body:List Stmt}{ts:TS}{i:Nat}{tb:(St->XK)->TS}
theorem UM(D:Ends)(ps:List (Addr×Obj))(hc0:XC X.K C0 oV)(hg:Gl X xc)(hm:X.mg xc=some (.ref C0))(hN:X.N.Nodup)(hi:X.N[i]?=some n)(hk:X.env.scope.names.lookup n=some .local)(hst:X.stack=X.env::X.outer)(hfr:X.env.frame=some X.env.locals)(hex:X.ex=[])
  (hs:∀ea,gn (X.sup ea) (b₀::suite) ts) (hdb:(xc==("__debug__":Str))=false):
  kR (X.catch ps (Pw X (.ExceptHandler (some (.Name xc np)) (some n) (b₀::suite) hpos) ps D)) true (BH X.K C0 i ts D):=by
 intro Dz σ H s ea Cv I' F hp td q
 have I:Inv X ps σ H s:=I'.uy
 obtain⟨C,up,rfl,O8,hct,q⟩:=q
 have F:kh X.s₀.heap s.heap H ea (.ref C):=F
 have hp:∀p∈X.pn++ps,Off s.heap ea p.1:=fun p h=>hp p (ug _ h)
 have nP:∀b o,X.s₀.heap.get? b=some o->∃o',s.heap.get? b=some o':=fun b o e=>I.base.there b o e (by rw[hex];exact fun z=>nomatch z)
 obtain⟨hid,hd,hT⟩:=GW F I.wO
 have ff:s.heap.FunFrames (PySem.W.hideAll s.heap hid) (X.env::X.outer):=hst▸DS hd I.stack
 have hA:X.A.frames=some (X.env::X.outer):=hst▸I.ok.frames
 have hd':Hid X.s₀.heap s.heap H (X.env::X.outer) ea hid:=hst▸hd
 obtain⟨oe,vs,a0,e1,e2,e3,e4,t⟩:=F.at_
 have tw:s.heap.TracedW (PySem.W.hideAll s.heap hid) ea (.ref C) a0:=by
  rcases t with t|⟨T,oT,ts,e5,e7,q1,q2,e8,e9,lX⟩
  ·obtain⟨E2,vs',T,z1,z2,z3⟩:=td rfl
   rw[e1] at z1;cases z1
   rw[e3] at z2;cases z2
   rw[t] at z3;cases z3
  ·exact⟨oe,vs,T,oT,ts,e1,⟨e2,e4⟩,e3,e5,pK hid (hT oe vs T e1 e3 e5),e7,e8,e9,lX⟩
 show wpAny _ _ (noteFrame (.ref ea) X.env) _ _ s
 refine wpAny_noteFrame_onW hA ff hfr tw Ca (pK hid hd.me) fun h1 ⟨st1,N8,Xu,PY⟩=>?_
 refine wpAny_setFlight_noneW st1 N8 Xu fun h2 st2 FG HZ Rb=>?_
 have S2:oq hid s.heap h2:=Ew st2 fun b o e n=>by
  obtain⟨sl,z⟩:=PY b o e n
  exact⟨sl,Rb b _ z n⟩
 have I2:Inv X ps σ H {s with heap:=h2}:=I.stir S2 hd hp
 have F2:kh X.s₀.heap h2 H ea (.ref C):=D7 F I.hok hd' nP FG HZ
 refine wpAny_handleBy_cons (codeAny_handlers_test (qU (I2.Gs (ea:=ea)) hg hm ?_ hdb)) (by intro z;cases z)
 obtain⟨Z3,Zs,a2,f1,f2,_,_,_⟩:=F2.at_
 obtain⟨nm,qn,N,bs,hdct,sn,sub,ab,col,dd,k0,k1,k2,k3,k5,mN,_,ho⟩:=O8.ob
 obtain⟨Gr,qn',N',bs',Lc,sn',sub',GN,col',jH,l0,l1,l2,l3,l5,Zv,_,ho'⟩:=hc0.ob
 refine Qu (ho h2 I2.bM).1 (ho' h2 I2.bM).1 f1 f2 hc0.Ig hct ?_
 refine codeAny_handlers_suite_as ?_
 refine wpAny_setFlight_noneW st2 FG HZ fun h3 st3 XU Qa Te=>?_
 have S3:oq hid s.heap h3:=Ew st3 fun b o e n=>by
  obtain⟨sl,z⟩:=S2.sl b o e n
  exact⟨sl,Te b _ z n⟩
 have I3:Inv X ps σ H {s with heap:=h3}:=I.stir S3 hd hp
 have F3:kh X.s₀.heap h3 H ea (.ref C):=D7 F I.hok hd' nP XU Qa
 have I4:=I3.SY F3 fun p h=>(hp p h).1
 refine xN I4 hN hi (.inl hk) (v:= .ref ea) (u:= .ref ea) rfl (fun s5 I5=>?_) (.inr hk)
 refine wpAny_mono (hs ea ps s5 _ _ (Dx i D) I5.Gs (q ea F.free)) (fun f s6 hf=>?_) fun _ _ z=>z.elim
 have out:∀{σ':St} {H':Hp},Inv (X.sup ea) ps σ' H' s6->Inv X ps σ' H' s6:=fun J=>J.VV I.ok.hd
 cases f with
 |next=>obtain⟨σ',H',J,d⟩:=hf;exact zb (out J) hN hi hk fun s7 J7=>⟨_,_,J7,d⟩
 |brk=>obtain⟨σ',H',J,d⟩:=hf;exact zb (out J) hN hi hk fun s7 J7=>⟨_,_,J7,d⟩
 |cont=>obtain⟨σ',H',J,d⟩:=hf;exact zb (out J) hN hi hk fun s7 J7=>⟨_,_,J7,d⟩
 |ret u=>obtain⟨v,σ',H',J,r,d⟩:=hf;exact zb (out J) hN hi hk fun s7 J7=>⟨_,_,_,J7,r,d⟩
theorem Vk(hc0:XC X.K C0 oV)(hg:Gl X xc)(hm:X.mg xc=some (.ref C0))(hN:X.N.Nodup)(hi:X.N[i]?=some n)(hk:X.env.scope.names.lookup n=some .local)(hst:X.stack=X.env::X.outer)(hfr:X.env.frame=some X.env.locals)(hex:X.ex=[])
  (hb:∀(ps:List (Addr×Obj)) (W:Value->Shared->Prop) (EX:St->XK),kR (X.catch ps W) true EX->gn (X.catch ps W) body (tb EX)) (hs:∀ea,gn (X.sup ea) (b₀::suite) ts) (hdb:(xc==("__debug__":Str))=false:=by decide):
  PS X (.Try body [.ExceptHandler (some (.Name xc np)) (some n) (b₀::suite) hpos] [] [] pos) (fun D σ H=>tb (BH X.K C0 i ts D) D σ H):=by
 intro pins s σ H D I h
 refine wpAny_Try_except ?_
 refine wpAny_mono (hb pins _ _ (UM D pins hc0 hg hm hN hi hk hst hfr hex hs hdb) [] s σ H D I.Wf h) (fun f s1 hf=>?_) (fun e s1 z=>z)
 cases f with
 |next=>obtain⟨σ',H',J,d⟩:=hf;exact wpAny_execs_nil ⟨_,_,J.uy,d⟩
 |brk=>obtain⟨σ',H',J,d⟩:=hf;exact⟨_,_,J.uy,d⟩
 |cont=>obtain⟨σ',H',J,d⟩:=hf;exact⟨_,_,J.uy,d⟩
 |ret u=>obtain⟨v,σ',H',J,r,d⟩:=hf;exact⟨_,_,_,J.uy,r,d⟩
end
end L2
set_option maxRecDepth 100000
set_option maxHeartbeats 4000000
namespace L2
open PySem PySem.Spec PyProof.Rows
section
variable{prog:Program}{w:World}{A:Around}{E:Value->Shared->Prop}{h:Heap}{g:Array GenState}{d:Drawn}{t:Nat}{os:OsState}{a:Addr}{o:Obj}{K:PySem.W.Frag}
 {nm q:Str} {C N:Addr} {bs bm:List Value} {hdct:Bool} {sn:List Str} {sub:List Value} {ab:Bool} {col:Option Bool} {dd:Option Addr} {k0 k1 k2 k3 k5:Option Value} {newId:String}
theorem Yt{R:Result->Shared->Prop}(eC:h.get? C=some (excClassObj nm q C N bs bm hdct sn sub ab col dd k0 k1 k2 k3 k5 newId))(eo:bm.contains (.type "object")=true)(ea:h.get? a=some o)(ec:o.cls= .ref C)
  (fin:R (.ok (.ret (.ref C))) ⟨h,g,d,t,os⟩):codeAny (model prog w) A (.call (.builtin "getset_descriptor.__get__") ⟨[.builtin "object.__class__", .ref a, .ref C],[]⟩) R ⟨h,g,d,t,os⟩:=by
 have LC:(⟨h,g,d,t,os⟩:Shared).TypeIs (.builtin "object.__class__") "getset_descriptor":=Br
 have eB:(Value.ref C::bm).contains (.type (".".intercalate ("object.__class__".cutAt '.').dropLast))=true:=by
  rw[F.owner_object_class,De,eo,uE]
 refine codeAny_call_builtin F.slot_gs_get.plain F.entry_gs_get (F.slot_gs_get.check _ _ _ _ _ _ _ _ LC (F.args_gs_get _ _ _) ?_)
 repeat (any_goals (first|assumption|(with_reducible refine wpAny_loadPart_at ea ?_;rw[ec])|(with_reducible refine wpAny_isSubtype_exc eC ?_;rw[eB])|wp_step))
 refine⟨Code.quiet_builtin _ (by decide+kernel),codeAny_builtin F.entry_object_class ?_⟩
 repeat (any_goals (first|assumption|(with_reducible refine wpAny_loadPart_at ea ?_;rw[ec])|wp_step))
theorem Tg{tk:Tok}{Q:Fin->Shared->Prop}(X:K.In h)(gc:PySem.W.findIn K (.ref C) "__class__"=some (some (.builtin "object.__class__")))(eC:h.get? C=some (excClassObj nm q C N bs bm hdct sn sub ab col dd k0 k1 k2 k3 k5 newId))(eo:bm.contains (.type "object")=true)(ea:h.get? a=some o)(ec:o.cls= .ref C)
  (fin:Q (.done (.ret (.ref C))) ⟨h,g,d,t,os⟩):wpAny (model prog w) A (Builtin.«object.__getattribute__» ⟨[.ref a, .str "__class__" tk],[]⟩) Q E ⟨h,g,d,t,os⟩:=by
 have LC:(⟨h,g,d,t,os⟩:Shared).TypeIs (.builtin "object.__class__") "getset_descriptor":=Br
 have y5:=Br
 have y6:=F.slot_gs_get.lookup
 have y7:=F.slot_gs_set.lookup
 have L:=Al (M:=model prog w) X gc
 repeat (any_goals (first|assumption|(with_reducible refine wpAny_loadPart_at ea ?_;rw[ec])|with_reducible refine Eo L ?_|wp_step))
 refine Yt eC eo ea ec ?_
 repeat (any_goals (first|assumption|wp_step))
theorem Q5{M:Model}{nameV:Value}{Q:Unit->Shared->Prop}(eC:h.get? C=some (excClassObj nm q C N bs bm hdct sn sub ab col dd k0 k1 k2 k3 k5 newId))(eb:bm.contains (.type "BaseException")=true)(ea:h.get? a=some o)(ec:o.cls= .ref C)
  (fin:Q () ⟨h,g,d,t,os⟩):wpAny M A (checkBuiltinCall "BaseException.__getattribute__" ⟨[.ref a,nameV],[]⟩) Q E ⟨h,g,d,t,os⟩:=by
 have y1:builtinKind "BaseException.__getattribute__"=some .slot:=by decide+kernel
 have y2:splitId "BaseException.__getattribute__"=some ("BaseException","__getattribute__"):=by decide+kernel
 have eB:(Value.ref C::bm).contains (.type "BaseException")=true:=by rw[De,eb,uE]
 have y3:=F.args_bexc_ga (.ref a) nameV
 simp only[checkBuiltinCall,y1,y2]
 refine wpAny_bind ?_
 unfold isInstance
 repeat (first|(with_reducible refine wpAny_loadPart_at ea ?_;rw[ec])|(with_reducible refine wpAny_isSubtype_exc eC ?_;rw[eB])|wp_step)
 exact fin
theorem VR{tk:Tok}{Q:Value->Shared->Prop}(X:K.In h)(gg:PySem.W.findIn K (.ref C) "__getattribute__"=some (some (.builtin "BaseException.__getattribute__")))(gt:PySem.W.findIn K (.ref C) "__getattr__"=some none)(gc:PySem.W.findIn K (.ref C) "__class__"=some (some (.builtin "object.__class__")))
  (eC:h.get? C=some (excClassObj nm q C N bs bm hdct sn sub ab col dd k0 k1 k2 k3 k5 newId)) (eo:bm.contains (.type "object")=true) (eb:bm.contains (.type "BaseException")=true) (ea:h.get? a=some o) (ec:o.cls= .ref C) (fin:Q (.ref C) ⟨h,g,d,t,os⟩):
  wpAny (model prog w) A (getAttrBy (.ref a) (.str "__class__" tk) false) Q E ⟨h,g,d,t,os⟩:=by
 have y1:=F.attrBase_ValueError.ga.bind (.ref a)
 have x2:(Value.builtin "BaseException.__getattribute__"==Value.builtin "object.__getattribute__")=false:=by decide+kernel
 have x1:(onTheHeap (Value.ref C) && Value.builtin "BaseException.__getattribute__"==Value.builtin "object.__getattribute__")=false:=by rw[x2];rfl
 have L1:=Al (M:=model prog w) X gg
 have L2:=Al (M:=model prog w) X gt
 repeat (any_goals (first|assumption|(with_reducible refine wpAny_loadPart_at ea ?_;rw[ec])|with_reducible refine Eo L1 ?_|with_reducible refine Eo L2 ?_|wp_step))
 refine codeAny_call_builtin F.attrBase_ValueError.ga.plain F.entry_bexc_ga (Q5 eC eb ea ec (Tg X gc eC eo ea ec ?_))
 repeat (any_goals (first|assumption|wp_step))
theorem QH{Q:Option Value->Shared->Prop}(X:K.In h)(gg:PySem.W.findIn K (.ref C) "__getattribute__"=some (some (.builtin "BaseException.__getattribute__")))(gt:PySem.W.findIn K (.ref C) "__getattr__"=some none)(gc:PySem.W.findIn K (.ref C) "__class__"=some (some (.builtin "object.__class__")))
  (eC:h.get? C=some (excClassObj nm q C N bs bm hdct sn sub ab col dd k0 k1 k2 k3 k5 newId)) (eo:bm.contains (.type "object")=true) (eb:bm.contains (.type "BaseException")=true) (ea:h.get? a=some o) (ec:o.cls= .ref C) (fin:Q (some (.ref C)) ⟨h,g,d,t+1,os⟩):
  wpAny (model prog w) A (getAttr? (.ref a) "__class__") Q E ⟨h,g,d,t,os⟩:=by
 unfold getAttr? getAttrBy?
 repeat (any_goals (first|assumption|with_reducible apply VR X gg gt gc eC eo eb ea ec|wp_step))
end
structure XI(K:PySem.W.Frag)(C:Addr)(up:List Value):Prop extends XC K C up where
 gg:PySem.W.findIn K (.ref C) "__getattribute__"=some (some (.builtin "BaseException.__getattribute__"))
 gt:PySem.W.findIn K (.ref C) "__getattr__"=some none
 gc:PySem.W.findIn K (.ref C) "__class__"=some (some (.builtin "object.__class__"))
theorem zP{up:List Value}{v:Value}(h:iW.contains v=true):(up++iW).contains v=true:=by
 rw[List.contains_iff_mem] at h⊢
 exact jY _ h
theorem WZ{K:PySem.W.Frag}{C ea:Addr}{up:List Value}(c:XI K C up):PySem.W.KitX K (.ref ea) (.ref C) (pR ea (.ref C)) where
 ty:=fun M h _ ⟨oe,vs,e1,e2,_⟩=>e2▸(PySem.W.Looks.ld e1).andThen .now
 it:=fun M h X _=>by
  obtain⟨nm,q,N,bs,hdct,sn,sub,ab,col,dd,k0,k1,k2,k3,k5,mN,_,ho⟩:=c.ob
  intro A' Q' E' s' k z
  unfold isType loadHead
  exact wpAny_bind (wpAny_loadPart (k _ _ (ho h X).1) (wpAny_pure z))
 ne:=fun h tp jH its n sl X htp=>by
  obtain⟨nm,q,N,bs,hdct,sn,sub,ab,col,dd,k0,k1,k2,k3,k5,mN,_,ho⟩:=c.ob
  refine uP.mpr fun z=>?_
  have e:C=tp:=Value.ref.inj (beq_iff_eq.mp z)
  subst e
  have z:=(ho h X).1.symm.trans htp
  have z2:=congrArg Obj.cls (iM z)
  have y:Value.type "type"=Value.type "tuple":=z2
  exact absurd y (by decide)
 ca:=fun{prog w A E Q s} X p k=>by
  obtain⟨oe,vs,e1,e2,_⟩:=p
  obtain⟨nm,q,N,bs,hdct,sn,sub,ab,col,dd,k0,k1,k2,k3,k5,mN,_,ho⟩:=c.ob
  obtain⟨h,g,d,t,os⟩:=s
  exact QH X c.gg c.gt c.gc (ho h X).1 (zP (by decide)) (zP (by decide)) e1 e2 k
noncomputable def lg(K:PySem.W.Frag):List V->Hp->VK->Prop:=fun xs H Q=>∃(ea C:Addr) (up:List Value) (cv:V) (c:Value) (b:Bool),xs=[.ref ea,cv]/\H ea=some (.ext (pR ea (.ref C)))/\XI K C up/\(∀u,RelV cv u->u=c)/\PySem.W.kitOne K (.ref C) c=some b/\Q (.bl b) H
theorem nJ{X:Cx}:fY X (.builtin "isinstance") (lg X.K):=by
 intro pins s σ H xs us Q I rv h
 obtain⟨ea,C,up,cv,c,b,rfl,he,hc,zQ,hb,q⟩:=h
 obtain⟨u,v,rfl,ru,r2⟩:=rv.two
 cases (show u=Value.ref ea from ru)
 cases zQ v r2
 have p:pR ea (.ref C) s.heap:=(show bP X.prog X.w H s.heap ea (.ext (pR ea (.ref C))) from I.hok ea _ he).1
 exact jn (WZ hc) I.bM p hb (fun z=>nomatch z) fun tk=>⟨.bl b,H,I.tok tk,rfl,q⟩
end L2
set_option maxRecDepth 100000
set_option maxHeartbeats 4000000
namespace L2
open PySem PySem.Spec PyProof.Rows
noncomputable abbrev qB:=List PyData->Pd->(Addr->Prop)->Prop
noncomputable def BF(F:qB):Prop:=∀ds (Φ Ψ:Pd) (X Y:Addr->Prop),F ds Φ X->(∀f d,Φ f d->Ψ f d)->(∀C,X C->Y C)->F ds Ψ Y
noncomputable def pT(n:Nat)(F:qB):Sp:=fun vs H Q E=>vs.length=n/\∃(nb:Addr->Prop) (ds:List PyData),dX nb H/\ah nb H ds vs/\
 F ds (fun f d=>∀v H',bu H H'->af (fun a=>nb a\/(f=true/\H a≠none)) H' d v->Q v H') fun C=>∀H',bu H H'->E (.ref C) none H'
noncomputable abbrev mZ:=Cu->List PyData->(Cu->Pd)->(Cu->Addr->Prop)->Prop
noncomputable def p9(F:mZ):Prop:=∀c ds (Φ Ψ:Cu->Pd) (X Y:Cu->Addr->Prop),F c ds Φ X->(∀c f d,Φ c f d->Ψ c f d)->(∀c C,X c C->Y c C)->F c ds Ψ Y
noncomputable def iG(n:Nat)(F:mZ):Sp:=fun vs H Q E=>vs.length=n/\∃(nb:Addr->Prop) (c:Cu) (ws:List V) (ds:List PyData),vs=c.v::ws/\dX nb H/\(∀a∈c.F,nb a)/\c.f=false/\c.P nb H/\ah nb H ds ws/\
 F c ds (fun c' f d=>∀v H',jo c c' H H'->c'.P (fun a=>nb a\/a∈c'.F) H'->af (fun a=>nb a\/a∈c'.F\/(f=true/\H a≠none)) H' d v->Q v H') fun c' C=>∀H',jo c c' H H'->c'.P (fun a=>nb a\/a∈c'.F) H'->E (.ref C) none H'
theorem JH{n:Nat}{F:qB}{vs:List V}{H:Hp}{Q:VK}{E:XK}(h:pT n F vs H Q E):∃(nb:Addr->Prop) (ds:List PyData) (Φ:Pd) (Ξ:Addr->Prop),dX nb H/\ah nb H ds vs/\(∀f d v H',Φ f d->bu H H'->af (fun a=>nb a\/(f=true/\H a≠none)) H' d v->Q v H')/\(∀C H',Ξ C->bu H H'->E (.ref C) none H')/\F ds Φ Ξ:=by
 obtain⟨_,nb,ds,h1,h2,h3⟩:=h
 exact⟨nb,ds,_,_,h1,h2,fun f d v H' q=>q v H',fun C H' q=>q H',h3⟩
theorem xT{n:Nat}{F:mZ}{vs:List V}{H:Hp}{Q:VK}{E:XK}(h:iG n F vs H Q E):∃(nb:Addr->Prop) (c:Cu) (ws:List V) (ds:List PyData) (Φ:Cu->Pd) (Ξ:Cu->Addr->Prop),vs=c.v::ws/\dX nb H/\(∀a∈c.F,nb a)/\c.f=false/\c.P nb H/\ah nb H ds ws/\
  (∀c' f d v H',Φ c' f d->jo c c' H H'->c'.P (fun a=>nb a\/a∈c'.F) H'->af (fun a=>nb a\/a∈c'.F\/(f=true/\H a≠none)) H' d v->Q v H')/\(∀c' C H',Ξ c' C->jo c c' H H'->c'.P (fun a=>nb a\/a∈c'.F) H'->E (.ref C) none H')/\F c ds Φ Ξ:=by
 obtain⟨_,nb,c,ws,ds,e,h1,h2,h3,h4,h5,h6⟩:=h
 exact⟨nb,c,ws,ds,_,_,e,h1,h2,h3,h4,h5,fun c' f d v H' q=>q v H',fun c' C H' q=>q H',h6⟩
noncomputable def pJ(G:Gx)(EX:St->XK)(Ξ:Addr->Rh->Prop):Prop:=∀nb ρ σ H C,Ξ C ρ->Wd G nb ρ σ H->EX σ (.ref C) none H
section
variable{G:Gx}{ρ:Rh}{Φ:Pd}{ta tb te:TE}{t:TA}{i j n:Nat}{E:DE}{c:Cu}{C:Addr}{m:Str}{EX:St->XK}{Ξ:Addr->Rh->Prop}{F:qB}{F':mZ}
theorem Ev.Au(hx:pJ G EX Ξ)(hm:BF F)(h:Av G ρ t fun es=>es.length=n/\F (es.map (·.2)) (fun f d=>Φ (f||iH es) d) fun C=>Ξ C ρ):Ev G ρ (GG (pT n F) EX t) Φ:=fun nb σ H Q W z=>
 h nb σ H _ W fun es vs H1 ⟨hl,p⟩ s1 q1=>by
  have W1:=W.step s1
  refine⟨by rw[q1.len,hl],G.S nb (iH es),es.map (·.2),W1.gb,q1.all fun z=>z,hm _ _ _ _ _ p (fun f d hp v H' sm hd=>z _ v H' d hp (s1.trans (.same W1.ao sm)) (hd.av fun a q=>?_)) fun C hC H' sm=>hx nb ρ σ H' C hC (W1.step (.same W1.ao sm))⟩
  cases f with
  |false=>rw[nZ] at q;exact .inl q
  |true=>exact .inr ⟨rfl,W1.gb a q⟩
theorem Sv.raise(hx:pJ G EX Ξ)(h:Av G ρ t fun es=>es.length<=1000/\Ξ C ρ):Sv G ρ (MV C EX t) E:=fun nb σ H D W KK=>
 h nb σ H _ W fun es vs H1 ⟨hl,p⟩ s1 q1=>⟨by rw[q1.len];exact hl,hx nb ρ σ H1 C p (W.step s1)⟩
theorem bK.Xi{Φ:Rh->Pd}{nb:Addr->Prop}{σ:St}{H1:Hp}{Q:VK}{es:List Fd}{vs:List V}(hx:pJ G EX Ξ)(hm:p9 F')(e:ρ[i]?=some (.cu c))(W1:Wd G nb ρ σ H1)(q1:jw G nb H1 es vs)(hl:es.length+1=n)(hcf:c.f=false)(p:F' c (es.map (·.2)) (fun c' f d=>Φ (ρ.set i (.cu c')) f d) fun c' C=>Ξ C (ρ.set i (.cu c')))
  (z:∀au ρ' f v H' d,Φ ρ' f d->Wd G au ρ' σ H'->af (G.S au f) H' d v->Q v H'):iG n F' (c.v::vs) H1 Q (EX σ):=by
 obtain⟨x0,e1,h1,h2,h3⟩:=W1.ok i _ e
 have key:∀{c':Cu} {H':Hp},jo c c' H1 H'->c'.P (fun a=>G.S nb false a\/a∈c'.F) H'->Wd G (fun x=>nb x\/x∈c'.F) (ρ.set i (.cu c')) σ H':=fun{c' H'} to hP=>by
  refine W1.Ea (c':=c') e to.kp to.v (fun a m=>(to.new a m).imp id .inl) (fun a m=>m.elim (fun m=>to.lv a (to.sub a m)) fun m=>to.lv a m) (c'.av (fun a y=>?_) hP)
  rw[to.f] at y
  rcases y with (y|y)|y|y|y
  ·exact .inl (.inl y)
  ·exact .inr y
  ·exact .inl (.inr (.inl y))
  ·exact .inl (.inr (.inr (.inl y)))
  ·cases y.1
 refine⟨by rw[bw,q1.len,hl],G.S nb false,c,vs,es.map (·.2),rfl,W1.gb,fun a m=> .inl (h2 a m).1,hcf,by rw[hcf] at h3;exact h3,q1.all (f:=false) (fun z=>by cases z),hm _ _ _ _ _ _ p (fun c' f d hp v H' to hP hd=>?_) fun c' C hC H' to hP=>hx _ _ σ H' C hC (key to hP)⟩
 refine z _ _ f v H' d hp (key to hP) (hd.av fun a y=>?_)
 rcases y with (y|y)|y|y|y
 ·exact .inl (.inl y)
 ·exact .inr (.inl y)
 ·exact .inl (.inr (.inl y))
 ·exact .inl (.inr (.inr (.inl y)))
 ·exact .inr (.inr ⟨y.1,W1.gb (f:=true) a (.inr (.inr (.inr ⟨rfl,y.2⟩)))⟩)
theorem bK.B7{Φ:Rh->Pd}(hx:pJ G EX Ξ)(hm:p9 F')(e:ρ[i]?=some (.cu c))(hcf:c.f=false)(hi:∀S H,c.P S H->∃a dx fs,c.v= .ref a/\H a=some (.ins C dx fs)/\fs.lookup m=none)
  (h:Av G ρ t fun es=>es.length+1=n/\F' c (es.map (·.2)) (fun c' f d=>Φ (ρ.set i (.cu c')) f d) fun c' C=>Ξ C (ρ.set i (.cu c'))):bK G ρ (JA C m (iG n F') EX (bf i) t) Φ:=fun nb σ H Q W z=>by
 obtain⟨x0,e1,h1,h2,h3⟩:=W.ok i _ e
 subst h1
 obtain⟨a,dx,fs,g1,g2,g3⟩:=hi _ _ h3
 refine⟨c.v,e1,a,dx,fs,g1,g2,g3,h nb σ H _ W fun es vs H1 ⟨hl,p⟩ s1 q1=>?_⟩
 exact bK.Xi hx hm e (W.step s1) q1 hl hcf p z
end
section
variable{ρ:Rh}{t:TS}{N:List Str}{vs ws:List V}{ds:List PyData}{nb:Addr->Prop}{H:Hp}{Q:VK}{E:XK}{c:Cu}
theorem Sv.JF{Φ:Pd}{Ξ:Addr->Prop}(hl:dX nb H)(hd:ah nb H ds vs)(aC:∀f d v H',Φ f d->bu H H'->af (fun a=>nb a\/(f=true/\H a≠none)) H' d v->Q v H')(fO:∀C H',Ξ C->bu H H'->E (.ref C) none H')
  (bQ:ρ=ds.map (Sl.d false)++List.replicate (N.length-ds.length) .no) (h:pJ ⟨none,H,nb,[]⟩ (fun _=>E) (fun C _=>Ξ C)->Sv ⟨none,H,nb,[]⟩ ρ t {nx:=fun _=>Φ true .none,rt:=Φ}):t {nx:=fun _ H'=>Q .aB H',rt:=Q} (start N vs) H:=
 Sv.yF hl hd aC bQ (h fun au ρ' σ' H' C q W=>fO C H' q fun a o e=>W.old a o (fun _ _ z=>by cases z) e)
theorem GH{c':Cu}{au:Addr->Prop}{ρ':Rh}{σ':St}{H':Hp}(W:Wd (jP c.F H nb) au ρ' σ' H')(e:ρ'[0]?=some (.cu c'))(up:kc c c'):jo c c' H H'/\c'.P (fun a=>nb a\/a∈c'.F) H':=by
 have gR:∀a,NB (jP c.F H nb).B a:=fun a b l e=>by cases e
 obtain⟨x0,e1,h1,h2,h3⟩:=W.ok 0 _ e
 refine⟨⟨up.v,up.f,up.sub,fun a m=>?_,fun a o n q=>?_,fun a m=>W.live a (h2 a m).1⟩,c'.av (fun a z=>?_) h3⟩
 ·have:=W.cC a (h2 a m).1 (h2 a m).2
  by_cases z:a∈c.F
  ·exact .inl z
  ·exact .inr (by have q:(if a∈c.F then none else H a)=none:=this;rwa[if_neg z] at q)
 ·exact W.old a o (gR a) (by show(if a∈c.F then none else H a)=_;rw[if_neg n];exact q)
 ·by_cases m:a∈c'.F
  ·exact .inl (h2 a m).1
  ·have m':a∉c.F:=fun z=>m (up.sub a z)
   exact .inr (.inl ⟨z.elim id fun z=>absurd z m,m'⟩)
theorem Sv.AM{Φ:Cu->Pd}{Ξ:Cu->Addr->Prop}(hl:dX nb H)(hF:∀a∈c.F,nb a)(hf:c.f=false)(hP:c.P nb H)(hd:ah nb H ds ws)
  (aC:∀c' f d v H',Φ c' f d->jo c c' H H'->c'.P (fun a=>nb a\/a∈c'.F) H'->af (fun a=>nb a\/a∈c'.F\/(f=true/\H a≠none)) H' d v->Q v H') (fO:∀c' C H',Ξ c' C->jo c c' H H'->c'.P (fun a=>nb a\/a∈c'.F) H'->E (.ref C) none H')
  (bQ:ρ= .cu c::ds.map (Sl.d false)++List.replicate (N.length-(ds.length+1)) .no) (h:pJ (jP c.F H nb) (fun _=>E) (fun C ρ'=>∃c',ρ'[0]?=some (.cu c')/\kc c c'/\Ξ c' C)->Sv (jP c.F H nb) ρ t (objE (jP c.F H nb) c Φ)):t {nx:=fun _ H'=>Q .aB H',rt:=Q} (start N (c.v::ws)) H:=
 Sv.wM hl hF hf hP hd aC bQ (h fun au ρ' σ' H' C ⟨c',e,up,q⟩ W=>fO c' C H' q (GH W e up).1 (GH W e up).2)
end
noncomputable def nW(ea C:Addr):Cu where
 v:= .ref ea
 F:=[ea]
 f:=false
 P:=fun _ H=>H ea=some (.ext (pR ea (.ref C)))
 keep:=fun k h=>k.own ea (az.mpr rfl) _ h
 av:=fun _ h=>h
 fresh:=fun _ h=>h
noncomputable def Fo(K:PySem.W.Frag)(C0:Addr)(i:Nat)(tb:(St->XK)->TS)(ts:TS):TS:=fun D σ H=>tb (BH K C0 i ts D) D σ H
section
variable{G:Gx}{ρ:Rh}{i j:Nat}{E:DE}{c:Cu}{C C0:Addr}{K:PySem.W.Frag}{tb:(St->XK)->TS}{ts:TS}
theorem Wd.forget{nb:Addr->Prop}{σ:St}{H:Hp}{x:Option V}(W:Wd G nb ρ σ H):Wd G nb (ρ.set i .no) (σ.set i x) H:=W.set (s:= .no) trivial (fun _ _ _ z=>by cases z)
theorem Sv.Ym(Ξ:Addr->Rh->Prop)(hb:∀EX,pJ G EX Ξ->Sv G ρ (tb EX) E)
  (hh:∀C ρ',Ξ C ρ'->(∃up,XC K C up/\(Value.ref C::(up++iW)).contains (.ref C0)=true)/\∀ea,Sv G (ρ'.set i (.cu (nW ea C))) ts {nx:=fun jN=>E.nx (jN.set i .no),rt:=E.rt,bk:=fun jN=>E.bk (jN.set i .no),ct:=fun jN=>E.ct (jN.set i .no),rw:=E.rw}):Sv G ρ (Fo K C0 i tb ts) E:=fun nb σ H D W KK=>
 hb _ (fun au ρ' σ' H' C q W'=>by
  obtain⟨⟨up,xc,ct⟩,hs⟩:=hh C ρ' q
  refine⟨C,up,rfl,xc,ct,fun ea Gq=>hs ea _ _ _ _ (W'.DP (i:=i) (c:=nW ea C) (.same W'.ao (cE Gq)) (fun a m=>by rw[az.mp m];exact Gq) (fun a m=>by rw[az.mp m,aQ];exact g7 _) aQ) ⟨fun LX jN σ2 H2 q W2=>KK.nx _ _ _ _ q W2.forget,fun LX jN σ2 H2 q W2=>KK.bk _ _ _ _ q W2.forget,fun LX jN σ2 H2 q W2=>KK.ct _ _ _ _ q W2.forget,KK.rt,KK.rw⟩⟩) nb σ H D W KK
theorem Sv.move(e:ρ[j]?=some (.cu c))(hij:i≠j)(h:E.nx ((ρ.set j .no).set i (.cu c))):Sv G ρ (i6 (bf j) (gC i)) E:=fun nb σ H D W KK=>by
 obtain⟨x0,e1,h1,h2,h3⟩:=W.ok j _ e
 subst h1
 refine⟨c.v,e1,?_⟩
 have hjl:j<ρ.length:=(bh.mp e).1
 have es:σ.set j (some c.v)=σ:=by
  refine oW fun k=>?_
  by_cases z:j=k
  ·subst z
   rw[cy (by rw[W.len];exact hjl),e1]
  ·rw[bA z]
 have W1:Wd G nb (ρ.set j .no) σ H:=by
  have:=W.forget (i:=j) (x:=some c.v)
  rwa[es] at this
 refine KK.nx nb _ _ _ h (W1.set (x:=some c.v) ⟨rfl,h2,h3⟩ (fun _ _ _ z=>by cases z) (fun _ _ _ z=>by cases z) fun a m k s hk hs _ z=>?_)
 by_cases hjk:j=k
 ·subst hjk
  rw[cy hjl] at hs
  cases hs
  cases z
 ·rw[bA hjk] at hs
  exact W.dh j k c s hjk e hs a m z
end
section
variable{G:Gx}{ρ:Rh}{Φ:Pd}{i:Nat}{C ea:Addr}{up:List Value}{K:PySem.W.Frag}{cv:V}{cl:Value}{b:Bool}
theorem Ev.PF{c:Cu}{a:Addr}(e:ρ[i]?=some (.cu c))(hv:c.v= .ref a)(h:Φ true (.bool false)):Ev G ρ (cG t6 (bf i) (tC .aB)) Φ:=fun nb σ H Q W z=>by
 obtain⟨x0,e1,h1,h2,h3⟩:=W.ok i _ e
 subst h1
 refine⟨c.v,e1,?_⟩
 show t6 c.v .aB H Q
 refine⟨rfl,?_⟩
 rw[hv]
 exact z true _ H _ h (.refl W.ao) (.bl false)
theorem Ev.cI(e:ρ[i]?=some (.raw (.ref ea)))(hh:(false,HD.th (nW ea C),V.ref ea)∈G.hold)(xi:XI K C up)(zQ:∀u,RelV cv u->u=cl)(hb:PySem.W.kitOne K (.ref C) cl=some b)(h:Φ true (.bool b)):Ev G ρ (eY (lg K) (aL (bf i) (aL (tC cv) aX))) Φ:=fun nb σ H Q W z=>by
 obtain⟨x0,e1,h1⟩:=W.ok i _ e
 have h1:x0=some (.ref ea):=h1
 subst h1
 obtain⟨_,_,h3⟩:=W.held hh
 exact⟨.ref ea,e1,ea,C,up,cv,cl,b,rfl,h3,xi,zQ,hb,z true _ H _ h (.refl W.ao) (.bl b)⟩
end
section
variable{X:Cx}{C0:Addr}{oV:List Value}{xc n:Str}{np hpos pos:Pos}{b₀:Stmt}{suite body:List Stmt}{ts:TS}{i:Nat}{tb:(St->XK)->TS}
theorem TH(hc0:XC X.K C0 oV)(hg:Gl X xc)(hm:X.mg xc=some (.ref C0))(hN:X.N.Nodup)(hi:X.N[i]?=some n)(hk:X.env.scope.names.lookup n=some .local)(hst:X.stack=X.env::X.outer)(hfr:X.env.frame=some X.env.locals)(hex:X.ex=[])
  (hb:∀(ps:List (Addr×Obj)) (W:Value->Shared->Prop) (EX:St->XK),kR (X.catch ps W) true EX->gn (X.catch ps W) body (tb EX)) (hs:∀ea,gn (X.sup ea) (b₀::suite) ts) (hdb:(xc==("__debug__":Str))=false:=by decide):
  PS X (.Try body [.ExceptHandler (some (.Name xc np)) (some n) (b₀::suite) hpos] [] [] pos) (Fo X.K C0 i tb ts):=Vk hc0 hg hm hN hi hk hst hfr hex hb hs hdb
end
noncomputable def sS(es:Array DictEntry):Bool:=(es.toList.all fun e=>match e.key with| .str _ _=>true|_=>false) &&(nsFind es "__init__").isNone
theorem Et{K:PySem.W.Frag}{N:Addr}{oc:Value}{od:Option Addr}{es:Array DictEntry}{ep:Nat}{sl:Array (Option Value)}(e:List.lookup N K=some ⟨oc,od, .dict es ep,sl⟩)(h:sS es=true):∃mN:Str->Option Value,mN "__init__"=none/\∀hp:Heap,K.In hp->hp.Ns N mN:=by
 unfold sS at h
 rw[dN] at h
 refine⟨nsFind es,uF.mp h.2,fun hp k=>⟨_,es,ep,k _ _ e,rfl,fun x hx=>?_,fun _=>rfl⟩⟩
 have:=rC.mp h.1 x (tS.mpr hx)
 cases z:x.key with
 |str n t=>exact⟨n,t,rfl⟩
 |_=>rw[z] at this;cases this
noncomputable def gy(K:PySem.W.Frag)(x:Str)(C:Addr)(up:List Value):Prop:=PySem.W.nsIn K mainGlobals x=some (some (.ref C))/\XI K C up
section
variable{oc Vd:Value}{od UH:Option Addr}{es J6:Array DictEntry}{ep Ss:Nat}{sl Iu:Array (Option Value)}{K:PySem.W.Frag}{x nm q YC qA Gr q':Str}{C N A NA C' N':Addr}{bs' sub' bm':List Value}{Lc GN:Bool}{sn':List Str}{col':Option Bool}{jH:Option Addr}{X5 Wt P6 Pa VO:Option Value}{new':String}{bs Zc sub YD:List Value}{hdct VB ab WC:Bool}{sn Pu:List Str}{col Vi:Option Bool}{dd QC:Option Addr}{k0 k1 k2 k3 k5 a0 a1 a2 a3 a5:Option Value}
theorem gy.Su(a:PySem.W.nsIn K mainGlobals x=some (some (.ref C)))(o:List.lookup C K=some (excClassObj nm q C N bs iW hdct sn sub ab col dd k0 k1 k2 k3 k5 "ValueError.__new__"))(i:List.lookup N K=some ⟨oc,od, .dict es ep,sl⟩)(j:sS es=true)
  (gg:PySem.W.findIn K (.ref C) "__getattribute__"=some (some (.builtin "BaseException.__getattribute__"))) (gt:PySem.W.findIn K (.ref C) "__getattr__"=some none) (gc:PySem.W.findIn K (.ref C) "__class__"=some (some (.builtin "object.__class__"))):gy K x C []:=by
 obtain⟨mN,hn,hs⟩:=Et i j
 exact⟨a,⟨⟨nm,q,N,bs,hdct,sn,sub,ab,col,dd,k0,k1,k2,k3,k5,mN,hn,fun h k=>⟨k _ _ o,hs h k, .base⟩⟩,zP (by decide)⟩,gg,gt,gc⟩
theorem gy.mk1(oA:List.lookup A K=some (excClassObj YC qA A NA Zc iW VB Pu YD WC Vi QC a0 a1 a2 a3 a5 "ValueError.__new__"))(iA:List.lookup NA K=some ⟨Vd,UH, .dict J6 Ss,Iu⟩)(jA:sS J6=true)(a:PySem.W.nsIn K mainGlobals x=some (some (.ref C)))(o:List.lookup C K=some (excClassObj nm q C N bs (.ref A::iW) hdct sn sub ab col dd k0 k1 k2 k3 k5 "ValueError.__new__"))(i:List.lookup N K=some ⟨oc,od, .dict es ep,sl⟩)(j:sS es=true)
  (gg:PySem.W.findIn K (.ref C) "__getattribute__"=some (some (.builtin "BaseException.__getattribute__"))) (gt:PySem.W.findIn K (.ref C) "__getattr__"=some none) (gc:PySem.W.findIn K (.ref C) "__class__"=some (some (.builtin "object.__class__"))):gy K x C [.ref A]:=by
 obtain⟨mN,hn,hs⟩:=Et i j
 obtain⟨mA,hnA,YS⟩:=Et iA jA
 exact⟨a,⟨⟨nm,q,N,bs,hdct,sn,sub,ab,col,dd,k0,k1,k2,k3,k5,mN,hn,fun h k=>⟨k _ _ o,hs h k, .own (k _ _ oA) (YS h k) hnA .base⟩⟩,zP (by decide)⟩,gg,gt,gc⟩
theorem cY{bm:List Value}{b:Bool}(o:List.lookup C K=some (excClassObj nm q C N bs bm hdct sn sub ab col dd k0 k1 k2 k3 k5 "ValueError.__new__"))(o':List.lookup C' K=some (excClassObj Gr q' C' N' bs' bm' Lc sn' sub' GN col' jH X5 Wt P6 Pa VO new'))(hb:(Value.ref C::bm).contains (.ref C')=b):PySem.W.kitOne K (.ref C) (.ref C')=some b:=by
 unfold PySem.W.kitOne
 by_cases z:(Value.ref C==Value.ref C')=true
 ·rw[if_pos z]
  have e:=beq_iff_eq.mp z
  rw[<-hb,<-e]
  simp
 ·rw[if_neg z]
  unfold PySem.W.kitCls PySem.W.clsIn PySem.W.typeIn
  simp only[o']
  rw[if_pos (by rfl)]
  unfold PySem.W.subIn PySem.W.mroIn PySem.W.clsIn
  simp only[o]
  rw[<-hb]
  rfl
theorem z7{bm:List Value}{b:Bool}(o:List.lookup C K=some (excClassObj nm q C N bs bm hdct sn sub ab col dd k0 k1 k2 k3 k5 "ValueError.__new__"))(hb:(Value.ref C::bm).contains (.type "ValueError")=b):PySem.W.kitOne K (.ref C) (.type "ValueError")=some b:=by
 unfold PySem.W.kitOne
 rw[if_neg (by intro z;cases beq_iff_eq.mp z)]
 unfold PySem.W.kitCls
 simp only[]
 rw[if_pos (by decide+kernel)]
 unfold PySem.W.subIn PySem.W.mroIn PySem.W.clsIn
 simp only[o]
 rw[<-hb]
 rfl
end
theorem SK:bootBuiltins "ValueError"=some (.type "ValueError"):=by decide+kernel
theorem XI.up1{K:PySem.W.Frag}{C A:Addr}(x:XI K C [.ref A]):∃up,XC K C up/\(Value.ref C::(up++iW)).contains (.ref A)=true:=⟨_,x.toXC,by simp⟩
theorem nM.mk'{P:Program}{w:World}{K:PySem.W.Frag}{mg:Str->Option Value}{base:Heap}{x:Str}{st:Stmt}{k:Nat}{ps:List Str}{sp:Sp}{f:Addr}{fd:FuncData}(F:bW K x x st f fd)(ok:aY P w K mg base (iS P w) k f fd ps sp)(b:Binds K fd ps [])
  (m:mg x=some (.ref f)):nM P w K mg base x k ps sp:=⟨f,fd,ok,b,m,F.kp⟩
end L2
set_option maxRecDepth 100000
set_option maxHeartbeats 4000000
set_option maxRecDepth 100000
set_option maxHeartbeats 4000000
set_option maxRecDepth 100000
set_option maxHeartbeats 4000000
set_option maxRecDepth 100000
set_option maxHeartbeats 4000000
namespace L2
open PySem PySem.Spec PyProof.Rows PySem.NumText
noncomputable abbrev nS(n:Int):Str:=Str.ofString (toString n)
end L2
set_option maxRecDepth 100000
set_option maxHeartbeats 4000000
set_option maxRecDepth 100000
set_option maxHeartbeats 4000000
set_option maxRecDepth 100000
set_option maxHeartbeats 4000000
namespace L2
open PySem PySem.Spec PyProof.Rows
theorem VM{prog:Program}{w:World}:∀{its:List Value} {us:List (Key×Value)} {ms:List Int},us.map (·.1)=ms.map Sum.inl->its.length=us.length->(∀(i:Nat) v,its[i]?=some v->∃k x,us[i]?=some (k,x)/\(g9 prog w).is k v=true)->IntsAre its ms:=by
  intro its
  induction its with
  | nil =>
    intro us ms e l _
    cases us with
    | nil => cases ms with
      |nil=>exact .nil
      |cons _ _=>cases e
    |cons _ _=>cases l
  | cons v its ih =>
    intro us ms e l hp
    cases us with
    |nil=>cases l
    | cons u us => cases ms with
      |nil=>cases e
      | cons m ms =>
        have e1:u.1=Sum.inl m:=by injection e
        have e2:us.map (·.1)=ms.map Sum.inl:=by injection e
        obtain⟨k,x,q1,q2⟩:=hp 0 v rfl
        have q1:u=(k,x):=by simpa using q1
        subst q1
        have e1:k=Sum.inl m:=e1
        subst e1
        obtain⟨t,rfl⟩:=v7 (k:=m) (v:=v) q2
        exact .cons m t (ih (us:=us) (ms:=ms) e2 (by simpa using l) fun i v q=>by simpa using hp (i+1) v (by simpa using q))
noncomputable def Aj:List V->Hp->VK->Prop:=fun xs H Q=>∃a,∃kvs:List (Key×V),∃ms:List Int,xs=[.ref a]/\Rd H a (.dK kvs)/\kvs.map (·.1)=ms.map Sum.inl/\∀l,H l=none->Q (.ref l) (upd H l (.lst (ms.map V.int)))
theorem LN{X:Cx}(hc:X.calm=true):fY X (.type "list") Aj:=by
 intro pins s σ H xs us Q I rv h
 obtain⟨a,kvs,ms,rfl,hH,hk,q⟩:=h
 obtain⟨u,rfl,ru⟩:=vals1 rv
 cases ru
 obtain⟨z,hd,ps,rel,dd⟩:=Cp I.hok hH
 obtain⟨ep,hat⟩:=dd.dictAt
 have hz:ps.length<=sizeLine:=by rw[<-rel.length];exact z
 have r6:kvs.length=ms.length:=by have:=congrArg List.length hk;simpa using this
 refine PySem.W.kdl_call (PySem.W.kdl_dict hd) (I.ok.hd hc) hat hz fun h' tk acc' c' hkp hS hacc=>?_
 have hI:IntsAre acc'.toList ms:=VM (us:=ps) (by rw[<-rel.keys];exact hk) (by rw[cV];exact hacc.1) fun i v e=>hacc.2 i v (by rw[<-jj];exact e)
 have new:bP X.prog X.w (upd H s.heap.objs.size (.lst (ms.map V.int))) h' s.heap.objs.size (.lst (ms.map V.int)):=by
  refine⟨by rw[ay,<-r6];exact z,acc'.toList,c',wu hI,?_⟩
  rw[Array.toArray_toList];exact hS
 exact⟨.ref s.heap.objs.size,_,I.laid (t':=tk) hkp (aE _) new,rfl,q _ (I.hok.fresh (aE _))⟩
section
variable{G:Gx}{ρ:Rh}{Φ:Pd}{ta tb te:TE}{t:TA}{i:Nat}{E:DE}{C x dx l:Addr}{fs:Fs}{K:PySem.W.Frag}{f m:Str}{d:PyData}{ks:Ks}{Θ:Bool->List PyData->Prop}
theorem Sv.Mr(e:ρ[i]?=some (.cu (bB C x dx fs)))(cl:cZ K C)(na:cF K C f)(hl:fs.lookup f=none)(hlen:fs.length<900)(h:tF G ρ te fun _ ks=>∀l,E.nx (ρ.set i (.cu (bB C x dx (fs++[(f, .cu (eg l ks))]))))):Sv G ρ (Bb K (bf i) te f) E:=fun nb σ H D W KK=>
 h nb σ H _ W fun fg l ps H1 ks q s1 t8 el hd=>by
  obtain⟨vs,e1,h2,n,h3,len,qx,r⟩:=(W.step s1).pX e
  refine⟨.ref x,e1,x,C,dx,vs,rfl,qx,cl,na,by rw[r.len];walk_at "o",KK.nx _ _ _ _ (q l) (W.Sy (c:=eg l ks) s1 e hl hlen rfl rfl t8 (by rw[el];exact g7 _) ⟨ps,el,hd.av fun a z=>?_⟩ qx)⟩
  rcases z with z|z
  ·exact .inl (bX (fun w=>by cases w) (fun _ w=>w) a z)
  ·exact .inr z
theorem Sv.Fq(e:ρ[i]?=some (.cu (bB C x dx fs)))(cl:cZ K C)(na:cF K C f)(hl:fs.lookup f=some (.cu (eg l ks)))(h:Ev G ρ te fun _ d=>Ev G ρ tb fun _ y=>∃k,y= .int k/\ks.length<10000/\E.nx (ρ.set i (.cu (bB C x dx (cO f (.cu (eg l (jQ ks k d))) fs))))):Sv G ρ (i6 te (zp (n9 K (bf i) f) tb LA)) E:=fun nb σ H D W KK=>
 h nb σ H _ W fun g v H1 d q s1 hv=>CS (W.step s1) e cl na hl fun hF ⟨ps,hp,hd⟩=>q nb σ H1 _ (W.step s1) fun g' u H2 y ⟨k,ey,hlk,p⟩ s2 hu=>by
  subst ey
  have W2:=(W.step s1).step s2
  have m7:=hF l (az.mpr rfl)
  have hS:G.S nb false l:= .inl m7.1
  have hlen:=hd.len
  refine⟨l,ps, .inl k,rfl,hu.cS,s2.1 _ _ m7.2 hp,dM (by rw[hlen];exact hlk) (by decide),KK.nx nb _ _ _ p (W2.Hy (c:=eg l ks) (c':=eg l (jQ ks k d)) e hl (az.mpr rfl) rfl rfl ⟨_,aQ,?_⟩)⟩
  exact(aq.put (hd.keep s2.fG) ((hv.av (bX (fun z=>by cases z) fun _ z=>z)).keep s2.fG)).keep (aM.set hS)
theorem Sv.Ic(e:ρ[i]?=some (.cu (bB C x dx fs)))(cl:cZ K C)(na:cF K C f)(hl:fs.lookup f=some (.cu (eg l ks)))(h:Ev G ρ te fun _ y=>∃k,y= .int k/\gK ks k=true/\E.nx (ρ.set i (.cu (bB C x dx (cO f (.cu (eg l (gU ks k))) fs))))):Sv G ρ (mV (oR K "dict" MD (n9 K (bf i) f) (aL te aX))) E:=fun nb σ H D W KK=>by
 unfold mV oR
 exact CS W e cl na hl fun hF ⟨ps,hp,hd⟩=>⟨.inr (.inr (.inl ⟨rfl, .inl ⟨_,hp⟩⟩)),h nb σ H _ W fun g v H1 y ⟨k,ey,hk,q⟩ s1 hv=>by
  subst ey
  have hk':=hv.cS
  subst hk'
  have W1:=W.step s1
  have m7:=hF l (az.mpr rfl)
  have hS:G.S nb false l:= .inl m7.1
  have hd1:=hd.keep s1.fG
  have:=aq.val k hd1
  rw[<-Jc] at hk
  obtain⟨d,ed⟩:=BE.mp hk
  rw[ed] at this
  obtain⟨v,hv',_⟩:=this
  exact⟨l,ps, .inl k,v,rfl,rfl,s1.1 _ _ m7.2 hp,hv',KK.nx nb _ _ _ q (W1.Hy (c:=eg l ks) (c':=eg l (gU ks k)) e hl (az.mpr rfl) rfl rfl ⟨_,aQ,(aq.drop hd1).keep (aM.set hS)⟩)⟩⟩
theorem Ev.NL{ng:Bool}(e:ρ[i]?=some (.cu (bB C x dx fs)))(cl:cZ K C)(na:cF K C f)(hl:fs.lookup f=some (.cu (eg l ks)))(h:Ev G ρ ta fun _ y=>∃k,y= .int k/\Φ true (.bool (gK ks k !=ng))):Ev G ρ (cG (Jb ng) ta (n9 K (bf i) f)) Φ:=fun nb σ H Q W z=>
 h nb σ H _ W fun g w H1 y ⟨k,ey,p⟩ s1 hw=>CS (W.step s1) e cl na hl fun hF ⟨ps,hp,hd⟩=>by
  subst ey
  refine⟨l,_,rfl,by rw[hw.cS];exact vd.k (k:= .inl k) hp,?_⟩
  have:(gE ps (Sum.inl k)).isSome=gK ks k:=by rw[<-C3];exact aq.any k hd
  rw[this]
  exact z true _ H1 _ p s1 (.bl _)
end
end L2
set_option maxRecDepth 100000
set_option maxHeartbeats 4000000
namespace L2
open PySem PySem.Spec PyProof.Rows
noncomputable def FF(cs:List Cu):List Addr:=cs.flatMap (·.F)
theorem jU{cs:List Cu}{a:Addr}:a∈FF cs↔∃c∈cs,a∈c.F:=by unfold FF;rw[tK]
noncomputable def eH(ρ:Rh):List Nat->List Cu->Prop
 |[],[]=>True
 |i::is,c::cs=>ρ[i]?=some (.cu c)/\eH ρ is cs
 |_,_=>False
noncomputable def fJ:List Cu->List Cu->Prop
 |[],[]=>True
 |c::cs,c'::cs'=>kc c c'/\fJ cs cs'
 |_,_=>False
noncomputable def fU(ρ:Rh):List Nat->List Cu->Rh
 |i::is,c::cs=>fU (ρ.set i (.cu c)) is cs
 |_,_=>ρ
structure oN(B:Bg)(cs cs':List Cu)(H H':Hp):Prop where
 up:fJ cs cs'
 new:∀a∈FF cs',a∈FF cs\/H a=none
 ap:cs'.Pairwise fun c d=>∀a∈c.F,a∉d.F
 kp:∀a o,a∉FF cs->NB B a->H a=some o->H' a=some o
 ao:jv B H'
 lv:∀a∈FF cs',H' a≠none
theorem fJ.len:∀{cs cs':List Cu},fJ cs cs'->cs'.length=cs.length
 |[],[],_=>rfl
 |c::cs,c'::cs',h=>by rw[bw,bw,fJ.len h.2]
 |[],_::_,h=>h.elim
 |_::_,[],h=>h.elim
theorem fJ.at:∀{cs cs':List Cu},fJ cs cs'->∀{k:Nat} {c c':Cu},cs[k]?=some c->cs'[k]?=some c'->kc c c'
 |c::cs,c'::cs',h,0,_,_,e1,e2=>by cases e1;cases e2;exact h.1
 |c::cs,c'::cs',h,k+1,_,_,e1,e2=>fJ.at h.2 (by simpa using e1) (by simpa using e2)
 |[],_,_,_,_,_,e1,_=>by simp at e1
 |_::_,[],_,_,_,_,_,e2=>by simp at e2
theorem fJ.sub{cs cs':List Cu}(h:fJ cs cs'):∀a∈FF cs,a∈FF cs':=fun a m=>by
 obtain⟨c,hc,ha⟩:=jU.mp m
 obtain⟨k,hk⟩:=jm hc
 have hl:=(bh.mp hk).1
 have hk':=bE (l:=cs') (i:=k) (by rw[h.len];exact hl)
 exact jU.mpr ⟨_,iQ hk',(h.at hk hk').sub a ha⟩
theorem fJ.f{cs cs':List Cu}(h:fJ cs cs'):∀c∈cs',c.f=false:=fun c m=>by
 obtain⟨k,hk⟩:=jm m
 have hl:=(bh.mp hk).1
 exact(h.at (bE (by rw[<-h.len];exact hl)) hk).f
theorem eH.len{ρ:Rh}:∀{is:List Nat} {cs:List Cu},eH ρ is cs->is.length=cs.length
 |[],[],_=>rfl
 |_::is,_::cs,h=>by rw[bw,bw,eH.len h.2]
 |[],_::_,h=>h.elim
 |_::_,[],h=>h.elim
theorem eH.at{ρ:Rh}:∀{is:List Nat} {cs:List Cu},eH ρ is cs->∀{k i:Nat} {c:Cu},is[k]?=some i->cs[k]?=some c->ρ[i]?=some (.cu c)
 |_::is,_::cs,h,0,_,_,e1,e2=>by cases e1;cases e2;exact h.1
 |_::is,_::cs,h,k+1,_,_,e1,e2=>eH.at h.2 (by simpa using e1) (by simpa using e2)
 |[],_,_,_,_,_,e1,_=>by simp at e1
 |_::_,[],_,_,_,_,_,e2=>by simp at e2
theorem eH.om{ρ:Rh}:eH ρ [] []:=trivial
theorem eH.mk{ρ:Rh}{i:Nat}{is:List Nat}{c:Cu}{cs:List Cu}(h:ρ[i]?=some (.cu c))(t:eH ρ is cs):eH ρ (i::is) (c::cs):=⟨h,t⟩
theorem fJ.om:fJ [] []:=trivial
theorem fJ.mk{c c':Cu}{cs cs':List Cu}(h:kc c c')(t:fJ cs cs'):fJ (c::cs) (c'::cs'):=⟨h,t⟩
theorem JW{c d:Cu}(h:c.f=false)(k:d.f=false):∀x∈[c,d],x.f=false:=fun x m=>by
 rcases aA.mp m with z|z
 ·rw[z];exact h
 ·rw[az.mp z];exact k
theorem MO:∀{ρ:Rh} {is:List Nat} {cs:List Cu},(fU ρ is cs).length=ρ.length
 |ρ,i::is,c::cs=>by unfold fU;rw[MO,gp]
 |ρ,[],_=>by unfold fU;rfl
 |ρ,_::_,[]=>by unfold fU;rfl
theorem k8{j:Nat}:∀{ρ:Rh} {is:List Nat} {cs:List Cu},j∉is->(fU ρ is cs)[j]?=ρ[j]?
  | ρ, i :: is, c :: cs, h => by
    unfold fU
    rw[k8 fun z=>h (bJ _ z),bA fun z=>h (by rw[z];exact bT)]
  |ρ,[],_,_=>by unfold fU;rfl
  |ρ,_::_,[],_=>by unfold fU;rfl
theorem Kz:∀{ρ:Rh} {is:List Nat} {cs:List Cu},is.Nodup->is.length=cs.length->(∀i∈is,i<ρ.length)->∀{k i:Nat},is[k]?=some i->∃c,cs[k]?=some c/\(fU ρ is cs)[i]?=some (.cu c)
  | ρ, i0 :: is, c :: cs, nd, hl, hb, 0, i, e => by
    cases e
    unfold fU
    refine⟨c,rfl,?_⟩
    rw[k8 (fW.mp nd).1,cy (hb i0 bT)]
  | ρ, i0 :: is, c :: cs, nd, hl, hb, k + 1, i, e => by
    unfold fU
    exact Kz (fW.mp nd).2 (by simpa using hl) (fun i m=>by rw[gp];exact hb i (bJ _ m)) (k:=k) (by simpa using e)
  |ρ,[],_,_,_,_,_,_,e=>by simp at e
  |ρ,_::_,[],_,hl,_,_,_,_=>by simp at hl
section
variable{G:Gx}{ρ:Rh}{nb:Addr->Prop}{σ:St}{H H':Hp}{is:List Nat}{cs cs':List Cu}
theorem Wd.setM(W:Wd G nb ρ σ H)(nd:is.Nodup)(hat:eH ρ is cs)(to:oN G.B cs cs' H H')(h:∀c∈cs',c.P (G.S (fun x=>nb x\/x∈FF cs') false) H'):Wd G (fun x=>nb x\/x∈FF cs') (fU ρ is cs') σ H':=by
  have hlen:=hat.len
  have hlen':=to.up.len
  have slot:∀c∈cs,∃(k i:Nat),is[k]?=some i/\cs[k]?=some c/\ρ[i]?=some (.cu c):=fun c m=>by
    obtain⟨k,hk⟩:=jm m
    have hl:=(bh.mp hk).1
    have hi:=bE (l:=is) (i:=k) (by walk_at "o")
    exact⟨k,_,hi,hk,hat.at hi hk⟩
  have h2:∀a∈FF cs,nb a/\NB G.B a:=fun a m=>by
    obtain⟨c,hc,ha⟩:=jU.mp m
    obtain⟨k,i,_,_,e⟩:=slot c hc
    obtain⟨x0,e1,g1,g2,g3⟩:=W.ok i _ e
    exact g2 a ha
  have hil:∀i∈is,i<ρ.length:=fun i m=>by
    obtain⟨k,hk⟩:=jm m
    have hl:=(bh.mp hk).1
    exact(bh.mp (hat.at hk (bE (l:=cs) (i:=k) (by walk_at "o")))).1
  obtain⟨L,hL⟩:∃L,L=(FF cs').filter fun a=>(H a).isNone:=⟨_,rfl⟩
  have ha:∀a∈L,H a=none:=fun a m=>by
    rw[hL,k9] at m
    exact uF.mp m.2
  have CJ:∀a∈FF cs',nb a\/a∈L:=fun a m=>by
    rcases to.new a m with z|z
    · exact .inl (h2 a z).1
    · exact .inr (by rw[hL];exact k9.mpr ⟨m,uF.mpr z⟩)
  have hA:∀f x,G.S (fun x=>nb x\/x∈FF cs') f x->(G.S nb f x\/x∈L):=fun f x z=>by
    rcases z with (z|z)|z|z|z
    · exact .inl (.inl z)
    · exact(CJ x z).elim (fun z=> .inl (.inl z)) .inr
    · exact .inl (.inr (.inl z))
    · exact .inl (.inr (.inr (.inl z)))
    · exact .inl (.inr (.inr (.inr z)))
  have bt:∀f,aM (G.S (fun x=>nb x\/x∈FF cs') f) H H':=fun f a o n q=>to.kp a o (fun z=>n (.inl (.inl (h2 a z).1))) (jT fun z=>n (.inr (.inr (.inl z)))) q
  have fD:∀{S:Addr->Prop} {d:PyData} {v:V},af S H d v->af (fun a=>S a\/a∈L) H d v:=fun{S d v} h=>gf (P:=fun S=>af S H d v) (fun z h=>af.av z h) (fun hp h=>af.fresh hp h) ha h
  have vA:∀{S:Addr->Prop} {d:List PyData} {v:List V},ah S H d v->ah (fun a=>S a\/a∈L) H d v:=fun{S d v} h=>gf (P:=fun S=>ah S H d v) (fun z h=>ah.av z h) (fun hp h=>ah.fresh hp h) ha h
  have u5:∀{S:Addr->Prop} {d:List (PyData×PyData)} {v:List (Key×V)},aq S H d v->aq (fun a=>S a\/a∈L) H d v:=fun{S d v} h=>gf (P:=fun S=>aq S H d v) (fun z h=>aq.av z h) (fun hp h=>aq.fresh hp h) ha h
  have fH:∀{S:Addr->Prop} {d:HD} {v:V},dR S H d v->dR (fun a=>S a\/a∈L) H d v:=fun{S d v} h=>gf (P:=fun S=>dR S H d v) (fun z h=>dR.av h z) (fun hp h=>dR.fresh h hp) ha h
  have gR:∀a∈FF cs',NB G.B a:=fun a m=>(to.new a m).elim (fun z=>(h2 a z).2) fun z=>NB.new W.ao z
  have other:∀(j:Nat) s,j∉is->ρ[j]?=some s->∀a∈s.adr,a∉FF cs:=fun j s hj hs a m z=>by
    obtain⟨c,hc,hca⟩:=jU.mp z
    obtain⟨k,i,hi,_,e⟩:=slot c hc
    exact W.dh i j c s (fun z=>hj (z▸iQ hi)) e hs a hca m
  have uT:∀(j:Nat) s,j∉is->ρ[j]?=some s->∀a∈s.adr,a∉FF cs':=fun j s hj hs a m z=>by
    rcases to.new a z with w|w
    · exact other j s hj hs a m w
    · obtain⟨x,_,q⟩:=W.ok j s hs
      exact W.live a (q.wI a m).1 w
  have nA:∀(j:Nat) s,j∈is->(fU ρ is cs')[j]?=some s->∃(k:Nat) (c:Cu),is[k]?=some j/\cs'[k]?=some c/\s= .cu c:=fun j s m e=>by
    obtain⟨k,hk⟩:=jm m
    obtain⟨c,hc,e'⟩:=Kz (cs:=cs') nd (by walk_at "o") hil hk
    rw[e'] at e;cases e
    exact⟨k,c,hk,hc,rfl⟩
  refine⟨to.ao,fun a n=>?_,fun a o n q=>?_,fun a n q=>?_,W.gA,by rw[MO];exact W.len,W.gB,fun h m=>((fH (W.fT h m)).av (hA h.1)).keep (bt h.1),fun j s e'=>?_,?_,?_,?_⟩
  · rcases n with n|n
    · by_cases z:a∈FF cs
      · exact to.lv a (to.up.sub a z)
      · by_cases hN:NB G.B a
        · cases q:H a with
          |none=>exact absurd q (W.live a n)
          |some o=>rw[to.kp a o z hN q];exact g7 _
        · exact NB.kM to.ao hN
    · exact to.lv a n
  · refine to.kp a o (fun z=>?_) n (W.old a o n q)
    rw[W.cC a (h2 a z).1 n] at q;cases q
  · rcases n with n|n
    · exact W.cC a n q
    · rcases to.new a n with z|z
      · exact W.cC a (h2 a z).1 q
      · cases w:G.H0 a with
        |none=>rfl
        |some o=>rw[W.old a o q w] at z;cases z
  · by_cases hj:j∈is
    · obtain⟨k,c',hk,hc',rfl⟩:=nA j s hj e'
      have r6:=(bh.mp hk).1
      have hc:=bE (l:=cs) (i:=k) (by walk_at "o")
      obtain⟨x0,e1,g1,g2,g3⟩:=W.ok j _ (hat.at hk hc)
      have u:=to.up.at hc hc'
      have hm:=iQ hc'
      refine⟨x0,e1,by rw[g1,u.v],fun a m=>⟨.inr (jU.mpr ⟨_,hm,m⟩),gR a (jU.mpr ⟨_,hm,m⟩)⟩,?_⟩
      rw[u.f];exact h c' hm
    · rw[k8 hj] at e'
      obtain⟨x,e2,q⟩:=W.ok j s e'
      refine⟨x,e2,?_⟩
      have ap:=other j s hj e'
      cases s with
      |no=>trivial
      |d f d=>obtain⟨v,e,h⟩:=q;exact⟨v,e,((fD h).av (hA f)).keep (bt f)⟩
      |own a f es=>obtain⟨e,n,q,xs,hx,hd⟩:=q;exact⟨e, .inl n,q,xs,to.kp _ _ (ap a (az.mpr rfl)) q hx,((vA hd).av (hA f)).keep (bt f)⟩
      |ao=>exact q
      |raw v=>exact q
      |ez a f es=>obtain⟨e,n,q,xs,hx,hd⟩:=q;exact⟨e, .inl n,q,xs,to.kp _ _ (ap a (az.mpr rfl)) q hx,((u5 hd).av (hA f)).keep (bt f)⟩
      | cu c2 =>
        obtain⟨e,n,q⟩:=q
        refine⟨e,fun a ha=>⟨.inl (n a ha).1,(n a ha).2⟩,c2.keep (.of fun x o hx e=>to.kp x o ?_ ?_ e) (c2.av (hA c2.f) (gf (P:=fun S=>c2.P S H) (fun z h=>c2.av z h) (fun hp h=>c2.fresh hp h) ha q))⟩
        · rcases hx with hx|hx
          · exact fun z=>hx (.inl (.inl (h2 x z).1))
          · exact ap x hx
        · rcases hx with hx|hx
          · exact jT fun z=>hx (.inr (.inr (.inl z)))
          · exact(n x hx).2
  all_goals
    intro j k
  · intro a f as c2 g cs2 hjk q1 q2
    have hj:j∉is:=fun z=>by obtain⟨_,_,_,_,z⟩:=nA j _ z q1;cases z
    have hk:k∉is:=fun z=>by obtain⟨_,_,_,_,z⟩:=nA k _ z q2;cases z
    rw[k8 hj] at q1
    rw[k8 hk] at q2
    exact W.apart j k a f as c2 g cs2 hjk q1 q2
  · intro a f as c2 g cs2 hjk q1 q2
    have hj:j∉is:=fun z=>by obtain⟨_,_,_,_,z⟩:=nA j _ z q1;cases z
    have hk:k∉is:=fun z=>by obtain⟨_,_,_,_,z⟩:=nA k _ z q2;cases z
    rw[k8 hj] at q1
    rw[k8 hk] at q2
    exact W.gV j k a f as c2 g cs2 hjk q1 q2
  · intro c2 s hjk q1 q2 a m z
    by_cases hj:j∈is
    · obtain⟨k1,c',hk1,hc',e⟩:=nA j _ hj q1
      cases e
      by_cases hk:k∈is
      · obtain⟨k2,d',hk2,hd',rfl⟩:=nA k _ hk q2
        have hne:k1≠k2:=fun z=>by subst z;rw[hk1] at hk2;cases hk2;exact hjk rfl
        have pw:=D4.mp to.ap
        have l1:=bh.mp hc'
        have l2:=bh.mp hd'
        rcases EN hne with w|w
        · have:=pw k1 k2 l1.1 l2.1 w a (by rw[l1.2];exact m)
          rw[l2.2] at this
          exact this z
        · have:=pw k2 k1 l2.1 l1.1 w a (by rw[l2.2];exact z)
          rw[l1.2] at this
          exact this m
      · rw[k8 hk] at q2
        exact uT k s hk q2 a z (jU.mpr ⟨_,iQ hc',m⟩)
    · rw[k8 hj] at q1
      by_cases hk:k∈is
      · obtain⟨k2,d',hk2,hd',rfl⟩:=nA k _ hk q2
        exact uT j _ hj q1 a m (jU.mpr ⟨_,iQ hd',z⟩)
      · rw[k8 hk] at q2
        exact W.dh j k c2 s hjk q1 q2 a m z
end
noncomputable def gh:List Bool->List V->List V->List V
 |true::r,t::ts,ds=>t::gh r ts ds
 |false::r,ts,d::ds=>d::gh r ts ds
 |_,_,_=>[]
noncomputable def dW:List Bool->List Cu->List PyData->Rh
 |true::r,c::cs,ds=> .cu c::dW r cs ds
 |false::r,cs,d::ds=> .d false d::dW r cs ds
 |_,_,_=>[]
noncomputable def gG:List Bool->List Cu->List PyData->Prop
 |[],[],[]=>True
 |true::r,_::cs,ds=>gG r cs ds
 |false::r,cs,_::ds=>gG r cs ds
 |_,_,_=>False
noncomputable def iP:Nat->List Bool->List Nat
 |_,[]=>[]
 |k,true::r=>k::iP (k+1) r
 |k,false::r=>iP (k+1) r
noncomputable abbrev MF:=List Cu->List PyData->(List Cu->Pd)->Prop
noncomputable def zK(F:MF):Prop:=∀cs ds (Φ Ψ:List Cu->Pd),F cs ds Φ->(∀cs f d,Φ cs f d->Ψ cs f d)->F cs ds Ψ
noncomputable def runM(B:Bg)(nb:Addr->Prop)(cs:List Cu)(ds:List PyData)(ws:List V)(F:MF)(H:Hp)(Q:VK):Prop:=
 dX nb H/\(∀c∈cs,c.f=false/\c.P nb H/\∀a∈c.F,nb a)/\(cs.Pairwise fun c d=>∀a∈c.F,a∉d.F)/\ah nb H ds ws/\
 F cs ds fun cs' f d=>∀v H',oN B cs cs' H H'->(∀c∈cs',c.P (fun a=>nb a\/a∈FF cs') H')->af (fun a=>nb a\/a∈FF cs'\/(f=true/\H a≠none)) H' d v->Q v H'
noncomputable def RA(pat:List Bool)(F:MF):Sp:=fun vs H Q _=>vs.length=pat.length/\∃(nb:Addr->Prop) (cs:List Cu) (ws:List V) (ds:List PyData),vs=gh pat (cs.map (·.v)) ws/\gG pat cs ds/\runM none nb cs ds ws F H Q
noncomputable def pL(pat:List Bool)(F:MF):Sp:=fun vs H Q _=>vs.length=pat.length+1/\∃(b l:Addr) (nb:Addr->Prop) (cs:List Cu) (ws:List V) (ds:List PyData),vs= .ref b::gh pat (cs.map (·.v)) ws/\gG pat cs ds/\cU H b l/\nb b/\(∀a∈FF cs,a≠b/\a≠l)/\runM (some (b,l)) nb cs ds ws F H Q
section
variable{pat:List Bool}{F:MF}{vs:List V}{H:Hp}{Q:VK}{E:XK}
theorem HB(h:pL pat F vs H Q E):∃(b l:Addr) (nb:Addr->Prop) (cs:List Cu) (ws:List V) (ds:List PyData) (Φ:List Cu->Pd),vs= .ref b::gh pat (cs.map (·.v)) ws/\gG pat cs ds/\
  (∀cs' f d v H',Φ cs' f d->oN (some (b,l)) cs cs' H H'->(∀c∈cs',c.P (fun a=>nb a\/a∈FF cs') H')->af (fun a=>nb a\/a∈FF cs'\/(f=true/\H a≠none)) H' d v->Q v H')/\(cU H b l/\nb b/\(∀a∈FF cs,a≠b/\a≠l))/\(dX nb H/\(∀c∈cs,c.f=false/\c.P nb H/\∀a∈c.F,nb a)/\(cs.Pairwise fun c d=>∀a∈c.F,a∉d.F)/\ah nb H ds ws)/\F cs ds Φ:=by
 obtain⟨_,b,l,nb,cs,ws,ds,e,ht,hb,hn,hx,h1,h2,h3,h4,hF⟩:=h
 exact⟨b,l,nb,cs,ws,ds,_,e,ht,fun cs' f d v H' q=>q v H',⟨hb,hn,hx⟩,⟨h1,h2,h3,h4⟩,hF⟩
end
noncomputable def fV(B:Bg)(cs:List Cu)(H:Hp)(nb:Addr->Prop):Gx:=⟨B,fun a=>if a∈FF cs then none else H a,fun a=>nb a/\a∉FF cs,[]⟩
noncomputable def qI(G:Gx)(is:List Nat)(cs:List Cu)(Φ:List Cu->Pd):DE where
 nx:=fun ρ=>∃cs',eH ρ is cs'/\fJ cs cs'/\Φ cs' true .none
 rt:=fun _ _=>False
 rw:=fun nb ρ v H=>∃cs' f d,eH ρ is cs'/\fJ cs cs'/\Φ cs' f d/\af (G.S nb f) H d v
theorem yW:∀{pat:List Bool} {cs:List Cu} {ds:List PyData},gG pat cs ds->(dW pat cs ds).length=pat.length
 |[],[],[],_=>rfl
 |true::r,c::cs,ds,h=>by unfold dW;rw[bw,bw,yW (pat:=r) (cs:=cs) (ds:=ds) h]
 |false::r,cs,d::ds,h=>by unfold dW;rw[bw,bw,yW (pat:=r) (cs:=cs) (ds:=ds) (by unfold gG at h;exact h)]
 |[],_::_,_,h=>h.elim
 |[],[],_::_,h=>h.elim
 |true::_,[],[],h=>h.elim
 |true::_,[],_::_,h=>h.elim
 |false::_,[],[],h=>h.elim
 |false::_,_::_,[],h=>h.elim
theorem uW{nb:Addr->Prop}{H:Hp}:∀{pat:List Bool} {cs:List Cu} {ds:List PyData} {ws:List V},gG pat cs ds->ah nb H ds ws->(gh pat (cs.map (·.v)) ws).length=pat.length/\∀(i:Nat) s,(dW pat cs ds)[i]?=some s->∃v,(gh pat (cs.map (·.v)) ws)[i]?=some v/\((∃c∈cs,s= .cu c/\v=c.v)\/∃d,s= .d false d/\af nb H d v)
  |[],[],[],ws,_,_=>⟨by unfold gh;rfl,fun i s e=>by unfold dW at e;simp at e⟩
  | true :: r, c :: cs, ds, ws, h, hd => by
    obtain⟨l,k⟩:=uW (pat:=r) (cs:=cs) (ds:=ds) (ws:=ws) h hd
    simp only[bx,gh,dW]
    refine⟨by rw[bw,bw,l],fun i s e=>?_⟩
    cases i with
    |zero=>cases e;exact⟨c.v,rfl, .inl ⟨c,bT,rfl,rfl⟩⟩
    | succ i =>
      obtain⟨v,e1,q⟩:=k i s (by simpa using e)
      exact⟨v,by simpa using e1,q.imp (fun⟨c,m,q⟩=>⟨c,bJ _ m,q⟩) id⟩
  | false :: r, cs, d :: ds, ws, h, hd => by
    unfold ah at hd
    obtain⟨y,ys,rfl,h1,h2⟩:=hd
    obtain⟨l,k⟩:=uW (pat:=r) (cs:=cs) (ds:=ds) (ws:=ys) (by unfold gG at h;exact h) h2
    simp only[bx,gh,dW]
    refine⟨by rw[bw,bw,l],fun i s e=>?_⟩
    cases i with
    |zero=>cases e;exact⟨y,rfl, .inr ⟨d,rfl,h1⟩⟩
    | succ i =>
      obtain⟨v,e1,q⟩:=k i s (by simpa using e)
      exact⟨v,by simpa using e1,q⟩
  |[],_::_,_,_,h,_=>h.elim
  |[],[],_::_,_,h,_=>h.elim
  |true::_,[],[],_,h,_=>h.elim
  |true::_,[],_::_,_,h,_=>h.elim
  |false::_,[],[],_,h,_=>h.elim
  |false::_,_::_,[],_,h,_=>h.elim
theorem Dq:∀{pat:List Bool} {cs:List Cu} {ds:List PyData},gG pat cs ds->∀{i:Nat} {s:Sl},(dW pat cs ds)[i]?=some s->(∃c∈cs,s= .cu c)\/∃d,s= .d false d
  |[],[],[],_,i,s,e=>by unfold dW at e;simp at e
  | true :: r, c :: cs, ds, h, i, s, e => by
    unfold dW at e
    cases i with
    |zero=>cases e;exact .inl ⟨c,bT,rfl⟩
    |succ i=>exact(Dq (pat:=r) (cs:=cs) (ds:=ds) h (i:=i) (by simpa using e)).imp (fun⟨c,m,q⟩=>⟨c,bJ _ m,q⟩) id
  | false :: r, cs, d :: ds, h, i, s, e => by
    unfold dW at e
    cases i with
    |zero=>cases e;exact .inr ⟨d,rfl⟩
    |succ i=>exact Dq (pat:=r) (cs:=cs) (ds:=ds) (by unfold gG at h;exact h) (i:=i) (by simpa using e)
  |[],_::_,_,h,_,_,_=>h.elim
  |[],[],_::_,h,_,_,_=>h.elim
  |true::_,[],[],h,_,_,_=>h.elim
  |true::_,[],_::_,h,_,_,_=>h.elim
  |false::_,[],[],h,_,_,_=>h.elim
  |false::_,_::_,[],h,_,_,_=>h.elim
theorem qO:∀{pat:List Bool} {cs:List Cu} {ds:List PyData},gG pat cs ds->(cs.Pairwise fun c d=>∀a∈c.F,a∉d.F)->∀{i j:Nat} {c d:Cu},i<j->(dW pat cs ds)[i]?=some (.cu c)->(dW pat cs ds)[j]?=some (.cu d)->∀a∈c.F,a∉d.F
  |[],[],[],_,_,i,j,c,d,_,e,_=>by unfold dW at e;simp at e
  | true :: r, c0 :: cs, ds, h, pw, i, j, c, d, hij, e1, e2 => by
    unfold dW at e1 e2
    obtain⟨p1,p2⟩:=oY.mp pw
    cases j with
    |zero=>walk_at "o"
    | succ j =>
      have e2:(dW r cs ds)[j]?=some (.cu d):=by simpa using e2
      cases i with
      | zero =>
        cases e1
        rcases Dq (pat:=r) (cs:=cs) (ds:=ds) h e2 with ⟨c',m,z⟩|⟨_,z⟩
        · cases z;exact p1 _ m
        · cases z
      |succ i=>exact qO (pat:=r) (cs:=cs) (ds:=ds) h p2 (by walk_at "o":i<j) (by simpa using e1) e2
  | false :: r, cs, d0 :: ds, h, pw, i, j, c, d, hij, e1, e2 => by
    unfold dW at e1 e2
    cases j with
    |zero=>walk_at "o"
    | succ j =>
      cases i with
      |zero=>cases e1
      |succ i=>exact qO (pat:=r) (cs:=cs) (ds:=ds) (by unfold gG at h;exact h) pw (by walk_at "o":i<j) (by simpa using e1) (by simpa using e2)
  |[],_::_,_,h,_,_,_,_,_,_,_,_=>h.elim
  |[],[],_::_,h,_,_,_,_,_,_,_,_=>h.elim
  |true::_,[],[],h,_,_,_,_,_,_,_,_=>h.elim
  |true::_,[],_::_,h,_,_,_,_,_,_,_,_=>h.elim
  |false::_,[],[],h,_,_,_,_,_,_,_,_=>h.elim
  |false::_,_::_,[],h,_,_,_,_,_,_,_,_=>h.elim
section
variable{B:Bg}{ρ:Rh}{is:List Nat}{cs:List Cu}{ds:List PyData}{ws:List V}{nb:Addr->Prop}{H:Hp}{Q:VK}{Φ:List Cu->Pd}{t:TS}{N:List Str}{pat:List Bool}{b l:Addr}
theorem eH.pw{G:Gx}{au:Addr->Prop}{σ':St}{H':Hp}(W:Wd G au ρ σ' H'):∀{is:List Nat} {cs':List Cu},is.Nodup->eH ρ is cs'->cs'.Pairwise fun c d=>∀a∈c.F,a∉d.F
  |[],[],_,_=> .nil
  | i :: is, c :: cs, nd, h => by
    obtain⟨n1,n2⟩:=fW.mp nd
    refine oY.mpr ⟨fun d m a ha=>?_,eH.pw W n2 h.2⟩
    obtain⟨k,hk⟩:=jm m
    have hl:=(bh.mp hk).1
    have hi:=bE (l:=is) (i:=k) (by rw[h.2.len];exact hl)
    exact W.dh i _ c _ (fun z=>n1 (z▸iQ hi)) h.1 (h.2.at hi hk) a ha
  |[],_::_,_,h=>h.elim
  |_::_,[],_,h=>h.elim
theorem z9{cs':List Cu}{au:Addr->Prop}{ρ':Rh}{σ':St}{H':Hp}(W:Wd (fV B cs H nb) au ρ' σ' H')(nd:is.Nodup)(e:eH ρ' is cs')(up:fJ cs cs'):
  oN B cs cs' H H'/\(∀c∈cs',c.P (fun a=>nb a\/a∈FF cs') H')/\∀f a,nb a\/a∈FF cs'\/(f=true/\H a≠none)->(fV B cs H nb).S au f a:=by
 have slot:∀c∈cs',∃i:Nat,ρ'[i]?=some (Sl.cu c):=fun c m=>by
  obtain⟨k,hk⟩:=jm m
  have hl:=(bh.mp hk).1
  have hi:=bE (l:=is) (i:=k) (by rw[e.len];exact hl)
  exact⟨_,e.at hi hk⟩
 have h2:∀a∈FF cs',au a/\NB B a:=fun a m=>by
  obtain⟨c,hc,ha⟩:=jU.mp m
  obtain⟨i,ei⟩:=slot c hc
  obtain⟨x0,e1,g1,g2,g3⟩:=W.ok i _ ei
  exact g2 a ha
 have tT:∀(f:Bool) a,nb a\/a∈FF cs'\/(f=true/\H a≠none)->(fV B cs H nb).S au f a:=fun f a z=>by
  by_cases m:a∈FF cs'
  ·exact .inl (h2 a m).1
  have m':a∉FF cs:=fun z=>m (up.sub a z)
  rcases z with z|z|z
  ·exact .inr (.inl ⟨z,m'⟩)
  ·exact absurd z m
  ·exact .inr (.inr (.inr ⟨z.1,by show(if a∈FF cs then none else H a)≠none;rw[if_neg m'];exact z.2⟩))
 refine⟨⟨up,fun a m=>?_,e.pw W nd,fun a o n hN q=>?_,W.ao,fun a m=>W.live a (h2 a m).1⟩,fun c m=>?_,tT⟩
 ·have:=W.cC a (h2 a m).1 (h2 a m).2
  by_cases z:a∈FF cs
  ·exact .inl z
  ·exact .inr (by have q:(if a∈FF cs then none else H a)=none:=this;rwa[if_neg z] at q)
 ·exact W.old a o hN (by show(if a∈FF cs then none else H a)=_;rw[if_neg n];exact q)
 ·obtain⟨i,ei⟩:=slot c m
  obtain⟨x0,e1,g1,g2,g3⟩:=W.ok i _ ei
  refine c.av (fun a z=>?_) g3
  rw[up.f c m]
  exact tT false a (z.elim .inl fun z=> .inr (.inl z))
theorem Nm(hB:∀b l,B=some (b,l)->cU H b l/\nb b/\∀a∈FF cs,a≠b/\a≠l)(hw:dX nb H/\(∀c∈cs,c.f=false/\c.P nb H/\∀a∈c.F,nb a)/\(cs.Pairwise fun c d=>∀a∈c.F,a∉d.F)/\ah nb H ds ws){σ:St}(hl:σ.length=ρ.length)
    (hok:∀(i:Nat) s,ρ[i]?=some s->(s= .ao/\∃b l,B=some (b,l)/\σ[i]?=some (some (.ref b)))\/(s= .no/\∃x,σ[i]?=some x)\/(∃c∈cs,s= .cu c/\σ[i]?=some (some c.v))\/∃d v,s= .d false d/\σ[i]?=some (some v)/\af nb H d v)
    (hap:∀(i j:Nat) c d,i≠j->ρ[i]?=some (.cu c)->ρ[j]?=some (.cu d)->∀a∈c.F,a∉d.F):Wd (fV B cs H nb) (fun a=>a∈FF cs) ρ σ H:=by
  obtain⟨h1,h2,h3,h4⟩:=hw
  have hF:∀a∈FF cs,nb a:=fun a m=>by
    obtain⟨c,hc,ha⟩:=jU.mp m
    exact(h2 c hc).2.2 a ha
  have gR:∀a∈FF cs,NB B a:=fun a m b l e=>((hB b l e).2.2 a m).1
  have av:∀a,(fV B cs H nb).S (fun a=>a∈FF cs) false a->nb a:=fun a z=>by
    rcases z with z|z|z|z
    · exact hF a z
    · exact z.1
    · cases e:B with
      |none=>exact absurd (fun b l q=>by rw[show(fV B cs H nb).B=B from rfl,e] at q;cases q) z
      | some bl =>
        obtain⟨b,l⟩:=bl
        have:a=b:=jT fun n=>z fun b' l' q=>by rw[show(fV B cs H nb).B=B from rfl,e] at q;cases q;exact n
        rw[this];exact(hB b l e).2.1
    · cases z.1
  refine⟨fun b l e=>(hB b l e).1,fun a z=>h1 a (hF a z),fun a o _ e=>?_,fun a z _=>by show(if a∈FF cs then none else H a)=none;rw[if_pos z],fun a z=>?_,hl,fun b l e=>?_,fun _ m=>(by cases m),fun i s e=>?_,?_,?_,?_⟩
  · have e:(if a∈FF cs then none else H a)=some o:=e
    by_cases z:a∈FF cs
    · rw[if_pos z] at e;cases e
    · rwa[if_neg z] at e
  · show(if a∈FF cs then none else H a)≠none
    rw[if_neg z.2];exact h1 a z.1
  · obtain⟨hb,hn,hx⟩:=hB b l e
    obtain⟨ns,i0,c0,st,n,g1,g2,g3⟩:=hb
    refine⟨ns,i0,c0,st,n,?_,?_,g3⟩
    · show(if b∈FF cs then none else H b)=_
      rw[if_neg fun z=>(hx b z).1 rfl];exact g1
    · show(if l∈FF cs then none else H l)=_
      rw[if_neg fun z=>(hx l z).2 rfl];exact g2
  · rcases hok i s e with ⟨rfl,b,l,e1,e2⟩|⟨rfl,x,e2⟩|⟨c,m,rfl,e2⟩|⟨d,v,rfl,e2,q⟩
    · exact⟨_,e2,b,l,e1,rfl⟩
    · exact⟨x,e2,trivial⟩
    · refine⟨_,e2,rfl,fun a ha=>?_,?_⟩
      · have:=jU.mpr ⟨c,m,ha⟩
        exact⟨this,gR a this⟩
      · rw[(h2 c m).1]
        exact c.av av (h2 c m).2.1
    · exact⟨_,e2,v,rfl,q.av av⟩
  · intro i j a f as c g cs hij e1
    rcases hok i _ e1 with ⟨z,_⟩|⟨z,_⟩|⟨_,_,z,_⟩|⟨_,_,z,_⟩<;>cases z
  · intro i j a f as c g cs hij e1
    rcases hok i _ e1 with ⟨z,_⟩|⟨z,_⟩|⟨_,_,z,_⟩|⟨_,_,z,_⟩<;>cases z
  · intro i j c s hij e1 e2 a m
    rcases hok j _ e2 with ⟨rfl,_⟩|⟨rfl,_⟩|⟨d,_,rfl,_⟩|⟨_,_,rfl,_⟩
    · exact fun z=>by cases z
    · exact fun z=>by cases z
    · exact hap i j c d hij e1 e2 a m
    · exact fun z=>by cases z
theorem Ds:∀{k:Nat} {pat:List Bool},∀i∈iP k pat,k<=i
  |_,[],_,h=>by cases h
  | k, true :: r, i, h => by
    unfold iP at h
    rcases aA.mp h with z|z
    · walk_at "o"
    · have:=Ds (k:=k+1) (pat:=r) i z;walk_at "o"
  | k, false :: r, i, h => by
    unfold iP at h
    have:=Ds (k:=k+1) (pat:=r) i h;walk_at "o"
theorem pZ:∀{k:Nat} {pat:List Bool},(iP k pat).Nodup
 |_,[]=>by unfold iP;exact .nil
 |k,true::r=>by unfold iP;exact fW.mpr ⟨fun z=>by have:=Ds _ z;walk_at "o",pZ⟩
 |k,false::r=>by unfold iP;exact pZ
theorem Sv.Zx(hfit:gG pat cs ds)(aC:∀cs' f d v H',Φ cs' f d->oN none cs cs' H H'->(∀c∈cs',c.P (fun a=>nb a\/a∈FF cs') H')->af (fun a=>nb a\/a∈FF cs'\/(f=true/\H a≠none)) H' d v->Q v H')(hw:dX nb H/\(∀c∈cs,c.f=false/\c.P nb H/\∀a∈c.F,nb a)/\(cs.Pairwise fun c d=>∀a∈c.F,a∉d.F)/\ah nb H ds ws)
  (bQ:ρ=dW pat cs ds++List.replicate (N.length-pat.length) .no) (h:Sv (fV none cs H nb) ρ t (qI (fV none cs H nb) (iP 0 pat) cs Φ)):t {nx:=fun _ H'=>Q .aB H',rt:=Q} (start N (gh pat (cs.map (·.v)) ws)) H:=by
 obtain⟨al,C7⟩:=uW hfit hw.2.2.2
 have rl:=yW hfit
 refine h (fun a=>a∈FF cs) _ H _ (Nm (fun _ _ z=>by cases z) hw (by rw[bQ];unfold start;simp[al,rl]) (fun i s e=>?_) fun i j c d hij e1 e2=>?_) ⟨fun au ρ' σ' H' ⟨c',e,up,p⟩ W=>?_,fun _ _ _ _ q _=>q.elim,fun _ _ _ _ q _=>q.elim,fun _ _ _ _ _ _ _ q _ _=>q.elim,fun au ρ' σ' v H' ⟨c',f,d,e,up,p,hv⟩ W=>?_⟩
 ·rw[bQ] at e
  unfold start
  by_cases hi:i<pat.length
  ·rw[dz (by walk_at "o")] at e
   obtain⟨v,e1,q⟩:=C7 i s e
   have e3:(List.map some (gh pat (cs.map (·.v)) ws)++List.replicate (N.length-(gh pat (cs.map (·.v)) ws).length) none)[i]?=some (some v):=by rw[dz (by rw[ay];walk_at "o"),dG,e1];rfl
   rcases q with ⟨c,m,e2,e4⟩|⟨d,e2,q⟩
   ·exact .inr (.inr (.inl ⟨c,m,e2,by rw[e3,e4]⟩))
   ·exact .inr (.inr (.inr ⟨d,v,e2,e3,q⟩))
  ·rw[dP (by walk_at "o"),dj] at e
   split at e
   ·rename_i h'
    cases e
    refine .inr (.inl ⟨rfl,none,?_⟩)
    rw[dP (by rw[ay];walk_at "o"),dj,ay,al,if_pos (by walk_at "o")]
   ·cases e
 ·rw[bQ] at e1 e2
  have lo:∀{i:Nat} {c:Cu},(dW pat cs ds++List.replicate (N.length-pat.length) Sl.no)[i]?=some (.cu c)->(dW pat cs ds)[i]?=some (.cu c):=fun{i c} e=>by
   by_cases hi:i<pat.length
   ·rwa[dz (by walk_at "o")] at e
   ·rw[dP (by walk_at "o"),dj] at e
    split at e<;>cases e
  rcases EN hij with z|z
  ·exact qO hfit hw.2.2.1 z (lo e1) (lo e2)
  ·exact fun a m q=>qO hfit hw.2.2.1 z (lo e2) (lo e1) a q m
 ·obtain⟨a1,a2,a3⟩:=z9 W pZ e up
  exact aC _ _ _ _ _ p a1 a2 .aB
 ·obtain⟨a1,a2,a3⟩:=z9 W pZ e up
  exact aC _ _ _ _ _ p a1 a2 (hv.av (a3 f))
theorem Sv.GB(hfit:gG pat cs ds)(aC:∀cs' f d v H',Φ cs' f d->oN (some (b,l)) cs cs' H H'->(∀c∈cs',c.P (fun a=>nb a\/a∈FF cs') H')->af (fun a=>nb a\/a∈FF cs'\/(f=true/\H a≠none)) H' d v->Q v H')(hb:cU H b l/\nb b/\(∀a∈FF cs,a≠b/\a≠l))(hw:dX nb H/\(∀c∈cs,c.f=false/\c.P nb H/\∀a∈c.F,nb a)/\(cs.Pairwise fun c d=>∀a∈c.F,a∉d.F)/\ah nb H ds ws)
    (bQ:ρ= .ao::dW pat cs ds++List.replicate (N.length-(pat.length+1)) .no) (h:Sv (fV (some (b,l)) cs H nb) ρ t (qI (fV (some (b,l)) cs H nb) (iP 1 pat) cs Φ)):t {nx:=fun _ H'=>Q .aB H',rt:=Q} (start N (.ref b::gh pat (cs.map (·.v)) ws)) H:=by
  obtain⟨al,C7⟩:=uW hfit hw.2.2.2
  have rl:=yW hfit
  refine h (fun a=>a∈FF cs) _ H _ (Nm (fun b' l' z=>by cases z;exact hb) hw (by rw[bQ];unfold start;simp[al,rl]) (fun i s e=>?_) fun i j c d hij e1 e2=>?_) ⟨fun au ρ' σ' H' ⟨c',e,up,p⟩ W=>?_,fun _ _ _ _ q _=>q.elim,fun _ _ _ _ q _=>q.elim,fun _ _ _ _ _ _ _ q _ _=>q.elim,fun au ρ' σ' v H' ⟨c',f,d,e,up,p,hv⟩ W=>?_⟩
  · rw[bQ] at e
    unfold start
    cases i with
    |zero=>cases e;exact .inl ⟨rfl,b,l,rfl,rfl⟩
    | succ i =>
      simp only[jk,i8,bx,bw] at e⊢
      by_cases hi:i<pat.length
      · rw[dz (by walk_at "o")] at e
        obtain⟨v,e1,q⟩:=C7 i s e
        have e3:(List.map some (gh pat (cs.map (·.v)) ws)++List.replicate (N.length-((gh pat (cs.map (·.v)) ws).length+1)) none)[i]?=some (some v):=by rw[dz (by rw[ay];walk_at "o"),dG,e1];rfl
        rcases q with ⟨c,m,e2,e4⟩|⟨d,e2,q⟩
        · exact .inr (.inr (.inl ⟨c,m,e2,by rw[e3,e4]⟩))
        · exact .inr (.inr (.inr ⟨d,v,e2,e3,q⟩))
      · rw[dP (by walk_at "o"),dj] at e
        split at e
        · rename_i h'
          cases e
          refine .inr (.inl ⟨rfl,none,?_⟩)
          rw[dP (by rw[ay];walk_at "o"),dj,ay,al,if_pos (by walk_at "o")]
        · cases e
  · rw[bQ] at e1 e2
    have lo:∀{i:Nat} {c:Cu},(Sl.ao::dW pat cs ds++List.replicate (N.length-(pat.length+1)) Sl.no)[i]?=some (.cu c)->∃i',i=i'+1/\(dW pat cs ds)[i']?=some (.cu c):=fun{i c} e=>by
      cases i with
      |zero=>cases e
      | succ i =>
        simp only[jk,i8] at e
        by_cases hi:i<pat.length
        · exact⟨i,rfl,by rwa[dz (by walk_at "o")] at e⟩
        · rw[dP (by walk_at "o"),dj] at e
          split at e<;>cases e
    obtain⟨i',hi',g1⟩:=lo e1
    obtain⟨j',hj',g2⟩:=lo e2
    rcases EN hij with z|z
    · exact qO hfit hw.2.2.1 (by walk_at "o":i'<j') g1 g2
    · exact fun a m q=>qO hfit hw.2.2.1 (by walk_at "o":j'<i') g2 g1 a q m
  · obtain⟨a1,a2,a3⟩:=z9 W pZ e up
    exact aC _ _ _ _ _ p a1 a2 .aB
  · obtain⟨a1,a2,a3⟩:=z9 W pZ e up
    exact aC _ _ _ _ _ p a1 a2 (hv.av (a3 f))
end
noncomputable def gD(G:Gx)(ρ:Rh)(pat:List Bool)(tvs:List V)(ta:TA)(Θ:List PyData->Prop):Prop:=∀nb σ H (Q:List V->Hp->Prop),Wd G nb ρ σ H->(∀ds ws H',Θ ds->Step G.B H H'->ah (G.S nb false) H' ds ws->Q (gh pat tvs ws) H')->ta σ H Q
section
variable{G:Gx}{ρ:Rh}{Φ:Rh->Pd}{te:TE}{t:TA}{pat:List Bool}{tvs:List V}{Θ:List PyData->Prop}{i j:Nat}{c:Cu}{is:List Nat}{cs:List Cu}{F:MF}
theorem gD.nil(h:Θ []):gD G ρ [] [] aX Θ:=fun nb σ H Q W z=>z [] [] H h (.refl W.ao) .nil
theorem gD.thing(e:ρ[j]?=some (.cu c))(h:gD G ρ pat tvs t Θ):gD G ρ (true::pat) (c.v::tvs) (aL (bf j) t) Θ:=fun nb σ H Q W z=>by
 obtain⟨x,e1,h1,_⟩:=W.ok j _ e
 subst h1
 exact⟨c.v,e1,h nb σ H _ W fun ds ws H1 p s q=>z ds ws H1 p s q⟩
theorem gD.data(h:Ev G ρ te fun _ d=>gD G ρ pat tvs t fun ds=>Θ (d::ds)):gD G ρ (false::pat) tvs (aL te t) Θ:=fun nb σ H Q W z=>
 h nb σ H _ W fun f v H1 d p1 s1 q1=>p1 nb σ H1 _ (W.step s1) fun ds ws H2 p2 s2 q2=>z (d::ds) (v::ws) H2 p2 (s1.trans s2) (.cons ((q1.av (bX (fun z=>by cases z) fun _ z=>z)).keep s2.fG) q2)
theorem Ge{nb:Addr->Prop}{σ:St}{H1 H':Hp}{B:Bg}{cs':List Cu}{f:Bool}{d:PyData}{v:V}{Q:VK}(W1:Wd G nb ρ σ H1)(nd:is.Nodup)(hat:eH ρ is cs)(to:oN G.B cs cs' H1 H')(hP:∀c∈cs',c.P (fun a=>G.S nb false a\/a∈FF cs') H')(hd:af (fun a=>G.S nb false a\/a∈FF cs'\/(f=true/\H1 a≠none)) H' d v)(hp:Φ (fU ρ is cs') f d)
  (z:∀au ρ' f v H' d,Φ ρ' f d->Wd G au ρ' σ H'->af (G.S au f) H' d v->Q v H'):Q v H':=by
 refine z _ _ f v H' d hp (W1.setM nd hat to fun c m=>c.av (fun a y=>?_) (hP c m)) (hd.av fun a y=>?_)
 ·rcases y with (y|y)|y|y|y
  ·exact .inl (.inl y)
  ·exact .inr y
  ·exact .inl (.inr (.inl y))
  ·exact .inl (.inr (.inr (.inl y)))
  ·cases y.1
 ·rcases y with (y|y)|y|y|y
  ·exact .inl (.inl y)
  ·exact .inr (.inl y)
  ·exact .inl (.inr (.inl y))
  ·exact .inl (.inr (.inr (.inl y)))
  ·exact .inr (.inr ⟨y.1,W1.gb (f:=true) a (.inr (.inr (.inr ⟨rfl,y.2⟩)))⟩)
theorem JG{nb:Addr->Prop}{σ:St}{H1:Hp}(W1:Wd G nb ρ σ H1)(nd:is.Nodup)(hat:eH ρ is cs)(hf:∀c∈cs,c.f=false):(∀c∈cs,c.f=false/\c.P (G.S nb false) H1/\∀a∈c.F,G.S nb false a)/\(cs.Pairwise fun c d=>∀a∈c.F,a∉d.F)/\∀a∈FF cs,nb a/\NB G.B a:=by
 have slot:∀c∈cs,∃i:Nat,ρ[i]?=some (Sl.cu c):=fun c m=>by
  obtain⟨k,hk⟩:=jm m
  have hl:=(bh.mp hk).1
  have hi:=bE (l:=is) (i:=k) (by rw[hat.len];exact hl)
  exact⟨_,hat.at hi hk⟩
 refine⟨fun c m=>?_,hat.pw W1 nd,fun a m=>?_⟩
 ·obtain⟨i,e⟩:=slot c m
  obtain⟨x0,e1,g1,g2,g3⟩:=W1.ok i _ e
  exact⟨hf c m,by rw[hf c m] at g3;exact g3,fun a ha=> .inl (g2 a ha).1⟩
 ·obtain⟨c,hc,ha⟩:=jU.mp m
  obtain⟨i,e⟩:=slot c hc
  obtain⟨x0,e1,g1,g2,g3⟩:=W1.ok i _ e
  exact g2 a ha
theorem NJ{nb:Addr->Prop}{H:Hp}{ds:List PyData}{ws:List V}(h:gG pat cs ds)(hd:ah nb H ds ws):(gh pat (cs.map (·.v)) ws).length=pat.length:=(uW h hd).1
theorem bK.ZJ(is:List Nat)(cs:List Cu)(hm:zK F)(nd:is.Nodup)(hat:eH ρ is cs)(hf:∀c∈cs,c.f=false)(h:gD G ρ pat (cs.map (·.v)) t fun ds=>gG pat cs ds/\F cs ds fun cs' f d=>Φ (fU ρ is cs') f d):bK G ρ (fq (RA pat F) [] E0 t) Φ:=fun nb σ H Q W z=>
 h nb σ H _ W fun ds ws H1 ⟨fit,p⟩ s1 q1=>by
  have W1:=W.step s1
  obtain⟨g1,g2,g3⟩:=JG W1 nd hat hf
  rw[gm]
  refine⟨NJ fit q1,G.S nb false,cs,ws,ds,rfl,fit,W1.gb,g1,g2,q1,hm _ _ _ _ p fun cs' f d hp v H' to hP hd=>?_⟩
  refine Ge (B:=none) W1 nd hat ⟨to.up,to.new,to.ap,fun a o n _ q=>to.kp a o n (fun _ _ z=>by cases z) q,fun b l e=>?_,to.lv⟩ hP hd hp z
  obtain⟨ns,i0,c0,st,n,g4,g5,g6⟩:=W1.ao b l e
  have hx:∀x,(x=b\/x=l)->x∉FF cs:=fun x hx m=>by
   obtain⟨k1,k2⟩:=g3 x m
   obtain⟨_,_,_,_,_,q1,q2,_⟩:=W1.gB b l e
   have:=W1.cC x k1 k2
   rcases hx with rfl|rfl
   ·rw[q1] at this;cases this
   ·rw[q2] at this;cases this
  exact⟨ns,i0,c0,st,n,to.kp _ _ (hx b (.inl rfl)) (fun _ _ z=>by cases z) g4,to.kp _ _ (hx l (.inr rfl)) (fun _ _ z=>by cases z) g5,g6⟩
theorem bK.Kn(is:List Nat)(cs:List Cu)(hm:zK F)(nd:is.Nodup)(e:ρ[i]?=some .ao)(hat:eH ρ is cs)(hf:∀c∈cs,c.f=false)(h:gD G ρ pat (cs.map (·.v)) t fun ds=>gG pat cs ds/\F cs ds fun cs' f d=>Φ (fU ρ is cs') f d):bK G ρ (fq (pL pat F) [] E0 (aL (bf i) t)) Φ:=fun nb σ H Q W z=>by
 obtain⟨b,l,hB,e1,B⟩:=W.wB e
 refine⟨.ref b,e1,h nb σ H _ W fun ds ws H1 ⟨fit,p⟩ s1 q1=>?_⟩
 have W1:=W.step s1
 obtain⟨g1,g2,g3⟩:=JG W1 nd hat hf
 show pL pat F ((V.ref b::_)++[]) H1 Q E0
 rw[gm]
 refine⟨by rw[bw,NJ fit q1],b,l,G.S nb false,cs,ws,ds,rfl,fit,W1.ao b l hB, .inr (.inr (.inl fun n=>n b l hB rfl)),fun a m=>?_,W1.gb,g1,g2,q1,hm _ _ _ _ p fun cs' f d hp v H' to hP hd=>Ge (B:=some (b,l)) W1 nd hat (by rw[hB];exact to) hP hd hp z⟩
 obtain⟨k1,k2⟩:=g3 a m
 refine⟨k2 b l hB,fun x=>?_⟩
 obtain⟨_,_,_,_,_,q1,q2,_⟩:=W1.gB b l hB
 have:=W1.cC a k1 k2
 rw[x,q2] at this;cases this
end
end L2
set_option maxRecDepth 100000
set_option maxHeartbeats 4000000
namespace L2
open PySem PySem.Spec PyProof.Rows
inductive iD where
 |lt (a b:Int)|ck (prs:bY) (r:Int)
noncomputable abbrev br:=List (Int×iD)
noncomputable def wc(q:Int×iD):Option (Int×PyData):=match q.2 with
 | .lt a b=>some (q.1, .tuple [.int a, .int b])
 | .ck _ _=>none
noncomputable def xj(q:Int×iD):Option (Int×PyData):=match q.2 with
 | .lt _ _=>none
 | .ck prs r=>some (q.1, .tuple [jq prs, .int r])
noncomputable def ldK(ds:br):Ks:=ds.filterMap wc
noncomputable def dc(ds:br):Ks:=ds.filterMap xj
noncomputable def GC(p n:Int):iD->Prop
 | .lt a b=>0<=a/\a<n/\0<=b/\b<p
 | .ck prs r=>mS p n prs/\0<=r/\r<p
structure cg(p n many:Int)(ds:br):Prop where
 rise:(ds.map (·.1)).Pairwise (· < ·)
 rg:∀q∈ds,0<=q.1/\q.1<many
 ok:∀q∈ds,GC p n q.2
 len:ds.length<=4000
theorem KR{q:Int×iD}{r:Int×PyData}(h:wc q=some r):r.1=q.1/\∃a b,q.2= .lt a b/\r.2= .tuple [.int a, .int b]:=by
 obtain⟨k,d⟩:=q
 cases d with
 |lt a b=>cases h;exact⟨rfl,a,b,rfl,rfl⟩
 |ck _ _=>cases h
theorem FY{q:Int×iD}{r:Int×PyData}(h:xj q=some r):r.1=q.1/\∃prs x,q.2= .ck prs x/\r.2= .tuple [jq prs, .int x]:=by
 obtain⟨k,d⟩:=q
 cases d with
 |lt _ _=>cases h
 |ck prs x=>cases h;exact⟨rfl,prs,x,rfl,rfl⟩
theorem LO{ds:br}{k:Int}{d:PyData}:(k,d)∈ldK ds↔∃a b,(k,iD.lt a b)∈ds/\d= .tuple [.int a, .int b]:=by
  unfold ldK
  rw[u0]
  constructor
  · rintro⟨q,hq,e⟩
    obtain⟨e1,a,b,e2,e3⟩:=KR e
    exact ⟨a, b, by have : q = (k, .lt a b) := Prod.ext e1.symm e2
                    rwa[<-this],e3⟩
  · rintro⟨a,b,h,rfl⟩
    exact⟨_,h,rfl⟩
theorem Fi{ds:br}{k:Int}{d:PyData}:(k,d)∈dc ds↔∃prs r,(k,iD.ck prs r)∈ds/\d= .tuple [jq prs, .int r]:=by
  unfold dc
  rw[u0]
  constructor
  · rintro⟨q,hq,e⟩
    obtain⟨e1,a,b,e2,e3⟩:=FY e
    exact ⟨a, b, by have : q = (k, .ck a b) := Prod.ext e1.symm e2
                    rwa[<-this],e3⟩
  · rintro⟨a,b,h,rfl⟩
    exact⟨_,h,rfl⟩
theorem KQ{ks:Ks}{k:Int}:gK ks k=true↔∃d,(k,d)∈ks:=by
 rw[HJ,fQ]
 constructor
 ·rintro⟨⟨k',d⟩,h,rfl⟩;exact⟨d,h⟩
 ·rintro⟨d,h⟩;exact⟨_,h,rfl⟩
theorem w4{ds:br}{k:Int}:gK (ldK ds) k=true↔∃a b,(k,iD.lt a b)∈ds:=by
 rw[KQ]
 exact⟨fun⟨d,h⟩=>by obtain⟨a,b,h,_⟩:=LO.mp h;exact⟨a,b,h⟩,fun⟨a,b,h⟩=>⟨_,LO.mpr ⟨a,b,h,rfl⟩⟩⟩
theorem yq{ds:br}{k:Int}:gK (dc ds) k=true↔∃prs r,(k,iD.ck prs r)∈ds:=by
 rw[KQ]
 exact⟨fun⟨d,h⟩=>by obtain⟨a,b,h,_⟩:=Fi.mp h;exact⟨a,b,h⟩,fun⟨a,b,h⟩=>⟨_,Fi.mpr ⟨a,b,h,rfl⟩⟩⟩
theorem GO{ks:Ks}{k:Int}{d:PyData}(h:gK ks k≠true):jQ ks k d=ks++[(k,d)]:=by unfold jQ;rw[if_neg h]
theorem LM{ds:br}(h:(ds.map (·.1)).Pairwise (· < ·)):∀{k:Int} {d e:iD},(k,d)∈ds->(k,e)∈ds->d=e:=by
  induction ds with
  |nil=>intro k d e h;cases h
  | cons q r ih =>
    intro k d e h1 h2
    rw[bx] at h
    obtain⟨h3,h4⟩:=oY.mp h
    rcases aA.mp h1 with e1|e1<;>rcases aA.mp h2 with e2|e2
    · rw[<-e1] at e2;cases e2;rfl
    · have:=h3 k (fQ.mpr ⟨_,e2,rfl⟩)
      rw[<-e1] at this
      exact absurd this (yI _)
    · have:=h3 k (fQ.mpr ⟨_,e1,rfl⟩)
      rw[<-e2] at this
      exact absurd this (yI _)
    · exact ih h4 e1 e2
section
variable{p n many:Int}{ds:br}
theorem cg.nd(h:cg p n many ds):(ds.map (·.1)).Nodup:=h.rise.imp fun z=>Int.ne_of_lt z
theorem cg.Vh(h:cg p n many ds):gK (ldK ds) many≠true:=fun z=>by
 obtain⟨a,b,m⟩:=w4.mp z
 exact absurd (h.rg _ m).2 (yI _)
theorem cg.Sk(h:cg p n many ds):gK (dc ds) many≠true:=fun z=>by
 obtain⟨a,b,m⟩:=yq.mp z
 exact absurd (h.rg _ m).2 (yI _)
theorem cg.Yd(h:cg p n many ds)(a b:Int):jQ (ldK ds) many (.tuple [.int a, .int b])=ldK (ds++[(many, .lt a b)])/\dc (ds++[(many, .lt a b)])=dc ds:=by
 rw[GO h.Vh]
 unfold ldK dc
 rw[vB,vB]
 exact⟨rfl,gm _⟩
theorem cg.VX(h:cg p n many ds)(prs:bY)(r:Int):jQ (dc ds) many (.tuple [jq prs, .int r])=dc (ds++[(many, .ck prs r)])/\ldK (ds++[(many, .ck prs r)])=ldK ds:=by
 rw[GO h.Sk]
 unfold ldK dc
 rw[vB,vB]
 exact⟨rfl,gm _⟩
theorem cg.snoc(h:cg p n many ds)(h0:0<=many){d:iD}(hd:GC p n d)(hl:ds.length<4000):cg p n (many+1) (ds++[(many,d)]):=by
 refine⟨?_,fun q m=>?_,fun q m=>?_,by rw[fu,lV];walk_at "o"⟩
 ·rw[mJ]
  refine Bv.mpr ⟨h.rise,by simp,fun x hx y hy=>?_⟩
  obtain⟨q,hq,rfl⟩:=fQ.mp hx
  have:y=many:=by simpa using hy
  rw[this];exact(h.rg q hq).2
 ·rcases jc.mp m with m|m
  ·have:=h.rg q m;walk_at "o"
  ·rw[az.mp m];exact⟨h0,by show many<many+1;walk_at "o"⟩
 ·rcases jc.mp m with m|m
  ·exact h.ok q m
  ·rw[az.mp m];exact hd
noncomputable def gY(ds:br)(k:Int):br:=ds.filter fun q=>decide (q.1≠k)
theorem Hz(g:Int×iD->Option (Int×PyData))(hg:∀q r,g q=some r->r.1=q.1)(ds:br)(k:Int):gU (ds.filterMap g) k=(gY ds k).filterMap g:=by
  induction ds with
  |nil=>rfl
  | cons q r ih =>
    cases e:g q with
    | none =>
      rw[Np e,ih]
      unfold gY
      by_cases hk:q.1=k
      · rw[AU (by simpa using hk)]
      · rw[DV (by simpa using hk),Np e]
    | some x =>
      rw[wY e]
      unfold gY gU at ih⊢
      by_cases hk:q.1=k
      · rw[AU (by rw[hg q x e];simpa using hk),AU (by simpa using hk)]
        exact ih
      · rw[DV (by rw[hg q x e];simpa using hk),DV (by simpa using hk),wY e]
        exact congrArg _ ih
theorem LJ(ds:br)(k:Int):gU (ldK ds) k=ldK (gY ds k):=Hz wc (fun _ _ h=>(KR h).1) ds k
theorem Kc(ds:br)(k:Int):gU (dc ds) k=dc (gY ds k):=Hz xj (fun _ _ h=>(FY h).1) ds k
theorem Hw{ks:Ks}{k:Int}(h:gK ks k≠true):gU ks k=ks:=by
 unfold gU
 refine List.filter_eq_self.mpr fun q m=>decide_eq_true fun z=>h ?_
 rw[HJ]
 exact fQ.mpr ⟨q,m,z⟩
theorem cg.out(h:cg p n many ds)(k:Int):cg p n many (gY ds k):=
 ⟨h.rise.sublist ((List.filter_sublist).map _),fun q m=>h.rg q (k9.mp m).1,fun q m=>h.ok q (k9.mp m).1,dw (vR ..) h.len⟩
theorem cg.Ry(h:cg p n many ds){k a b:Int}(m:(k,iD.lt a b)∈ds):gU (ldK ds) k=ldK (gY ds k)/\dc (gY ds k)=dc ds:=by
 refine⟨LJ ds k,?_⟩
 rw[<-Kc]
 refine Hw fun z=>?_
 obtain⟨prs,r,m'⟩:=yq.mp z
 cases LM h.rise m m'
theorem cg.O4(h:cg p n many ds){k r:Int}{prs:bY}(m:(k,iD.ck prs r)∈ds):gU (dc ds) k=dc (gY ds k)/\ldK (gY ds k)=ldK ds:=by
 refine⟨Kc ds k,?_⟩
 rw[<-LJ]
 refine Hw fun z=>?_
 obtain⟨a,b,m'⟩:=w4.mp z
 cases LM h.rise m m'
theorem keys_perm(ds:br):((ldK ds).map (·.1)++(dc ds).map (·.1)).Perm (ds.map (·.1)):=by
  induction ds with
  |nil=>exact .nil
  | cons q r ih =>
    obtain⟨k,d⟩:=q
    unfold ldK dc at ih⊢
    cases d with
    | lt a b =>
      rw[kq,kq]
      exact ih.cons k
    | ck prs x =>
      rw[kq,kq]
      exact List.perm_middle.trans (ih.cons k)
theorem cg.keys(h:cg p n many ds){rs:List Int}(hp:rs.Perm ((ldK ds).map (·.1)++(dc ds).map (·.1)))(hs:rs.Pairwise (· <= ·)):rs=ds.map (·.1):=Oq h.rise hs (hp.trans (keys_perm ds))
end
structure Pc where
 wd:Wo
 wh:Int->Option PyData
noncomputable def V7(k:Int):PyData:= .tuple [.str "letter", .int k]
noncomputable def V5(k t:Int):PyData:= .tuple [.str "check", .int k, .int t]
noncomputable def Ho(ds:br)(a:Int):Option (Int×Int):=ds.findSome? fun q=>match q.2 with
 | .lt a' b=>if a'=a then some (q.1,b) else none
 | .ck _ _=>none
noncomputable def J9(p:Int)(ds:br)(wd:Wo)(a:Int):Option (Int×Int):=ds.findSome? fun q=>match q.2 with
  | .lt _ _=>none
  | .ck prs r => match YH p prs r wd with
    |some (a',x)=>if a'=a then some (q.1,x) else none
    |none=>none
noncomputable def N5(n:Int)(ds:br):Pc where
 wd:=(List.range n.toNat).map fun(i:Nat)=>(Ho ds i).map (·.2)
 wh:=fun a=>if 0<=a/\a<n then(Ho ds a).map fun x=>V7 x.1 else none
noncomputable def UN(p:Int)(ds:br)(t:Int)(c:Pc):Pc where
 wd:=(List.range c.wd.length).map fun(i:Nat)=>match c.wd[i]? with
  |some (some x)=>some x
  |_=>(J9 p ds c.wd i).map (·.2)
 wh:=fun a=>match c.wh a with
  |some w=>some w
  |none=>if 0<=a/\a<c.wd.length then(J9 p ds c.wd a).map fun x=>V5 x.1 t else none
noncomputable def Lv(p n:Int)(ds:br):Nat->Pc
 |0=>N5 n ds
 |t+1=>UN p ds ((t:Int)+1) (Lv p n ds t)
noncomputable def BN(p n:Int)(ds:br):Pc:=Lv p n ds (n.toNat+1)
noncomputable def OP(p n:Int)(ds:br)(d:PyData):Prop:=∃W:Ks,d= .tuple [Sg (BN p n ds).wd, .dict (W.map fZ)]/\∀a,kF W a=(BN p n ds).wh a
noncomputable def LastOk(p n:Int)(ds:br)(d:PyData):Prop:=d= .none\/OP p n ds d
noncomputable abbrev gW(p n:Int)(a b:Addr)(ds:br)(many:Int)(last:PyData):Fs:=[("p", .d (.int p)),("n", .d (.int n)),("letter_deeds", .cu (eg a (ldK ds))),("check_deeds", .cu (eg b (dc ds))),("many", .d (.int many)),("last", .d last)]
noncomputable abbrev bF(C x dx a b:Addr)(p n:Int)(ds:br)(many:Int)(last:PyData):Cu:=bB C x dx (gW p n a b ds many last)
inductive Ask where
 |lt (a b:Int)|ck (prs:bY) (r:Int)|bk (k:Int)|wy (k:Int)
noncomputable def jC:Ask->PyData
 | .lt a b=> .tuple [.str "letter", .int a, .int b]
 | .ck prs r=> .tuple [.str "check",jq prs, .int r]
 | .bk k=> .tuple [.str "back", .int k]
 | .wy k=> .tuple [.str "why", .int k]
noncomputable def YZ:Option PyData->PyData
 |none=> .none
 |some d=>d
structure R6 where
 es:br
 many:Int
 found:PyData
 names:List Str
open Classical in
noncomputable def aV(p n many:Int)(es:br):Ask->R6
 | .lt a b=>if 0<=a/\a<n then if 0<=b/\b<p then⟨es++[(many, .lt a b)],many+1, .int many,[]⟩ else⟨es,many, .none,["NoLetter"]⟩ else⟨es,many, .none,["NoPlace"]⟩
 | .ck prs r=>if mS p n prs then if 0<=r/\r<p then⟨es++[(many, .ck prs r)],many+1, .int many,[]⟩ else⟨es,many, .none,["NoLetter"]⟩ else⟨es,many, .none,["NoCheck"]⟩
 | .bk k=>if∃d,(k,d)∈es then⟨gY es k,many, .none,[]⟩ else⟨es,many, .none,["NoDeed"]⟩
 | .wy k=>if 0<=k/\k<n then⟨es,many,YZ ((BN p n es).wh k),[]⟩ else⟨es,many, .none,["NoPlace"]⟩
noncomputable abbrev pA(d:PyData)(l:List Str):PyData:= .tuple [d, .list (l.map .str)]
theorem Hj{p n many:Int}{es:br}(h:cg p n many es)(h0:0<=many)(hl:es.length<4000)(q:Ask):cg p n (aV p n many es q).many (aV p n many es q).es/\0<=(aV p n many es q).many/\(aV p n many es q).es.length<=es.length+1:=by
  cases q with
  | lt a b =>
    simp only[aV]
    split
    · split
      · rename_i c1 c2
        exact⟨h.snoc h0 (d:= .lt a b) ⟨c1.1,c1.2,c2.1,c2.2⟩ hl,by show 0<=many+1;walk_at "o",by simp⟩
      · exact⟨h,h0,iV _⟩
    · exact⟨h,h0,iV _⟩
  | ck prs r =>
    simp only[aV]
    split
    · split
      · rename_i c1 c2
        exact⟨h.snoc h0 (d:= .ck prs r) ⟨c1,c2.1,c2.2⟩ hl,by show 0<=many+1;walk_at "o",by simp⟩
      · exact⟨h,h0,iV _⟩
    · exact⟨h,h0,iV _⟩
  | bk k =>
    simp only[aV]
    split
    · exact⟨h.out k,h0,Nat.le_succ_of_le (vR ..)⟩
    · exact⟨h,h0,iV _⟩
  | wy k =>
    simp only[aV]
    split
    · exact⟨h,h0,iV _⟩
    · exact⟨h,h0,iV _⟩
section
variable{G:Gx}{ρ:Rh}{Φ:Pd}{te:TE}{t:TA}{i m:Nat}{C x dx l:Addr}{fs:Fs}{K:PySem.W.Frag}{f:Str}{ks:Ks}{Θ:Bool->List PyData->Prop}
theorem aI.Nk(h:Ev G ρ te fun _ x=>∃ks:Ks,x= .dict (ks.map fZ)/\Θ true ((ks.map (·.1)).map .int)):aI G ρ (eY Aj (aL te aX)) Θ:=fun nb σ H Q W z=>
 h nb σ H _ W fun fg v H1 d ⟨ks,ed,q⟩ s1 hv=>by
  subst ed
  unfold af at hv
  obtain⟨l,ps,rfl,hn,hp,hd⟩:=hv
  refine⟨l,ps,ks.map (·.1),rfl,hp,hd.keys,fun p P5=>?_⟩
  refine aI.fin (f:=true) (ds:=(ks.map (·.1)).map .int) W s1 P5 ?_ (by rw[DK];exact q) z
  generalize ks.map (·.1)=ns
  induction ns with
  |nil=>exact .nil
  |cons n r ih=>exact .cons (.int n) ih
theorem Ev.J8(e:ρ[i]?=some (.raw (.ref x)))(hh:(false,HD.th (bB C x dx fs),V.ref x)∈G.hold)(cl:cZ K C)(na:cF K C f)(hl:fs.lookup f=some (.cu (eg l ks)))(h:Φ false (.dict (ks.map fZ))):Ev G ρ (n9 K (bf i) f) Φ:=fun nb σ H Q W z=>by
 obtain⟨x0,e1,h1⟩:=W.ok i _ e
 have h1:x0=some (.ref x):=h1
 subst h1
 obtain⟨_,h2,n,h3,len,vs,q,r⟩:=W.held hh
 obtain⟨v,g1,g2,ps,hp,hd⟩:=r.get hl
 refine⟨.ref x,e1,x,C,dx,vs,v,rfl,q,cl,na,g1,z false v H _ h (.refl W.ao) ?_⟩
 unfold af
 exact⟨l,ps,g2,(h2 l (BS (fl:= .cu (eg l ks)) hl (az.mpr rfl))).1, .inl hp,hd⟩
end
end L2
set_option maxRecDepth 100000
set_option maxHeartbeats 4000000
namespace L2
open PySem PySem.Spec PyProof.Rows
noncomputable def iE:List (Option PyData)->List Addr->List Oi
 |none::r,a::as=> .own a::iE r as
 |some d::r,as=> .dat d::iE r as
 |_,_=>[]
noncomputable def sZ:List (Option PyData)->Nat
 |none::r=>sZ r+1
 |some _::r=>sZ r
 |[]=>0
noncomputable def jl(G:Gx)(ρ:Rh)(ta:TA)(Θ:List (Option PyData)->Prop):Prop:=∀nb σ H (Q:List V->Hp->Prop),Wd G nb ρ σ H->
 (∀its (as:List Addr) vs H',Θ its->Step G.B H H'->as.Nodup->(∀a∈as,H a=none/\H' a=some (.lst []))->as.length=sZ its->(iE its as).length=its.length->dZ (fun x=>G.S nb false x\/x∈as) H' (iE its as) vs->Q vs H')->ta σ H Q
section
variable{G:Gx}{ρ:Rh}{ta tb te:TE}{t:TA}{E:DE}{i j n:Nat}{v:V}{f:Bool}{L:c9}{K:PySem.W.Frag}{Φ:Pd}{Θ:List (Option PyData)->Prop}
theorem jl.nil(h:Θ []):jl G ρ aX Θ:=fun nb σ H Q W z=>z [] [] [] H h (.refl W.ao) .nil (fun _ m=>by cases m) rfl rfl .nil
theorem jl.dat(h:Ev G ρ te fun _ d=>jl G ρ t fun its=>Θ (some d::its)):jl G ρ (aL te t) Θ:=fun nb σ H Q W z=>
  h nb σ H _ W fun g u H1 d q s1 hu=>q nb σ H1 _ (W.step s1) fun its as vs H2 p s2 nd hn hl hb hv=>by
    have hS:∀a∈as,H1 a=none:=fun a m=>(hn a m).1
    refine z (some d::its) as (u::vs) H2 p (s1.trans s2) nd (fun a m=>⟨?_,(hn a m).2⟩) hl (by unfold iE;rw[bw,bw,hb]) ?_
    · cases e:H a with
      |none=>rfl
      | some o =>
        have h1:=hS a m
        rw[s1.1 a o (NB.new (W.step s1).ao h1) e] at h1
        cases h1
    · unfold iE
      refine .cons ?_ hv
      have h1:af (fun x=>G.S nb false x\/x∈as) H1 d u:=gf (P:=fun S=>af S H1 d u) (fun z h=>af.av z h) (fun hp h=>af.fresh hp h) hS (hu.av (bX (fun z=>by cases z) fun _ z=>z))
      exact h1.keep (s2.but fun x z=> .inl (.inr (.inr (.inl z))))
theorem jl.new(h:jl G ρ t fun its=>Θ (none::its)):jl G ρ (aL (mK aX) t) Θ:=fun nb σ H Q W z=>by
 refine⟨by show 0<=sizeLine;exact eU _,fun a ha=>?_⟩
 have hsm:bu H (upd H a (.lst [])):=cE ha
 have s1:Step G.B H (upd H a (.lst [])):= .same W.ao hsm
 refine h _ σ _ _ (W.more (o:= .lst []) ha) fun its as vs H2 p s2 nd hn hl hb hv=>?_
 have yb:NB G.B a:=NB.new W.ao ha
 have hna:a∉as:=fun m=>by have:=(hn a m).1;rw[aQ] at this;cases this
 refine z (none::its) (a::as) (.ref a::vs) H2 p (s1.trans s2) (fW.mpr ⟨hna,nd⟩) (fun b m=>?_) (by unfold sZ;rw[bw,hl]) (by unfold iE;rw[bw,bw,hb]) ?_
 ·rcases aA.mp m with rfl|m
  ·exact⟨ha,s2.1 _ _ yb aQ⟩
  ·refine⟨?_,(hn b m).2⟩
   have:=(hn b m).1
   rwa[aT (fun z=>hna (by rw[<-z];exact m))] at this
 ·unfold iE
  refine .cons rfl (hv.imp fun x v q=>q.av fun b z=>?_)
  rcases z with z|z
  ·exact .inl (bX (fun z=>z) (fun _ z=> .inl z) b z)
  ·rcases aA.mp z with z|z
   ·exact .inl (.inl (.inr z))
   ·exact .inr z
theorem Sv.Vg(h:jl G ρ t fun its=>its.length<=1000/\∀o as,(o::as).Nodup->as.length=sZ its->E.nx (ρ.set i (.cu (stC (.ref o) false ((o, .lst (iE its as))::as.map fun a=>(a, .lst [])))))):Sv G ρ (i6 (mK t) (gC i)) E:=fun nb σ H D W KK=>
  h nb σ H _ W fun its as vs H1 ⟨hlen,q⟩ s1 nd hn hl hb hv=>by
    have hvl:vs.length=its.length:=by rw[hv.1,hb]
    refine⟨dw (show vs.length<=1000 by walk_at "o") (by decide),fun o ho=>?_⟩
    have hoa:o∉as:=fun m=>by rw[(hn o m).2] at ho;cases ho
    have Z8:NB G.B o:=NB.new s1.2 ho
    have hsm:bu H1 (upd H1 o (.lst vs)):=cE ho
    have s2:Step G.B H (upd H1 o (.lst vs)):=s1.trans (.same s1.2 hsm)
    have hkeys:((o,OO.lst (iE its as))::as.map fun a=>(a,OO.lst [])).map (·.1)=o::as:=by
      rw[bx,mL]
      congr 1
      exact List.map_id'' (fun _=>rfl) as
    have uK:H o=none:=W.none_of s1 ho
    refine KK.nx _ _ _ _ (q o as (fW.mpr ⟨hoa,nd⟩) hl) (W.DP (c:=stC (.ref o) false ((o, .lst (iE its as))::as.map fun a=>(a, .lst []))) s2 (fun a m=>?_) (fun a m=>?_) ⟨?_,fun b x e=>?_⟩)
    · have m:a∈((o,OO.lst (iE its as))::as.map fun a=>(a,OO.lst [])).map (·.1):=m
      rw[hkeys] at m
      rcases aA.mp m with rfl|m
      · exact uK
      · exact(hn a m).1
    · have m:a∈((o,OO.lst (iE its as))::as.map fun a=>(a,OO.lst [])).map (·.1):=m
      rw[hkeys] at m
      rcases aA.mp m with rfl|m
      · rw[aQ];exact g7 _
      · rw[hsm a _ (hn a m).2];exact g7 _
    · rw[hkeys];exact fW.mpr ⟨hoa,nd⟩
    · have hF:∀c,c∈(stC (.ref o) false ((o, .lst (iE its as))::as.map fun a=>(a, .lst []))).F↔c∈o::as:=fun c=>by
        show c∈((o,OO.lst (iE its as))::as.map fun a=>(a,OO.lst [])).map (·.1)↔_
        rw[hkeys]
      by_cases KI:b=o
      · subst KI
        rw[bG,beq_self_eq_true] at e
        cases e
        refine⟨vs,aQ,hv.imp fun x v q=>((q.fresh ho).av fun c z=>?_).keep (aM.of hsm)⟩
        rcases z with z|z
        · exact .inl (.inl z)
        · rw[hF] at z
          rcases aA.mp z with z|z
          · exact .inr z
          · exact .inl (.inr z)
      · rw[bG,beq_false_of_ne KI] at e
        have:b∈as/\x= .lst []:=by
          clear hv hb hn hl nd hoa hvl hkeys hF q
          induction as with
          |nil=>cases e
          | cons a r ih =>
            rw[bx] at e
            by_cases hba:b=a
            · subst hba
              rw[bG,beq_self_eq_true] at e
              cases e
              exact⟨bT,rfl⟩
            · rw[bG,beq_false_of_ne hba] at e
              obtain⟨h1,h2⟩:=ih e
              exact⟨bJ _ h1,h2⟩
        obtain⟨hm,rfl⟩:=this
        exact⟨[],hsm b _ (hn b hm).2, .nil⟩
theorem JY{S:Addr->Prop}{H:Hp}:∀{ns:List Int} {vs:List V},dZ S H (ns.map fun n=> .dat (.int n)) vs->vs=ns.map .int
  |[],vs,h=>by have:=h.1;simp at this;exact this
  | n :: r, vs, h => by
    cases vs with
    |nil=>have:=h.1;simp at this
    | cons v vs =>
      have h0:=h.2 0 (.dat (.int n)) v rfl rfl
      have h0:af S H (.int n) v:=h0
      rw[h0.cS]
      rw[JY (S:=S) (H:=H) (ns:=r) (vs:=vs) ⟨by have:=h.1;simpa using this,fun i x u e1 e2=>h.2 (i+1) x u (by simpa using e1) (by simpa using e2)⟩]
      rfl
theorem Wm{S:Addr->Prop}{H:Hp}(ns:List Int):dZ S H (ns.map fun n=> .dat (.int n)) (ns.map .int):=by
 refine⟨by simp,fun i x v e1 e2=>?_⟩
 rw[dG] at e1 e2
 obtain⟨n,hn,rfl⟩:=ow.mp e1
 rw[hn] at e2
 cases e2
 exact(af.int n:af S H (.int n) _)
theorem Sv.Ou(e:ρ[i]?=some (.cu (stC v f L)))(h:fB G ρ ta fun b=>∃ns:List Int,L.lookup b=some (.lst (ns.map fun n=> .dat (.int n)))/\Ev G ρ te fun _ y=>∃k,y= .int k/\k∈ns/\E.nx (ρ.set i (.cu (stC v f (gQ L b (.lst ((ns.erase k).map fun n=> .dat (.int n)))))))):
  Sv G ρ (mV (oR K "list" Mw ta (aL te aX))) E:=fun nb σ H D W KK=>
 h nb σ H _ W fun b H1 ⟨ns,hb,q⟩ s1=>by
  have W1:=W.step s1
  obtain⟨vs,h1,h2⟩:=(W1.nv e).2.2.2 b _ hb
  refine⟨.inl ⟨rfl,_,aS.of h1⟩,?_⟩
  refine q nb σ H1 _ W1 fun g u H2 y ⟨k,ey,hk,p⟩ s2 hu=>?_
  subst ey
  have hk':=hu.cS
  subst hk'
  have W2:=W1.step s2
  obtain⟨_,hF,hs⟩:=W2.nv e
  obtain⟨vs,h1,h2⟩:=hs.2 b _ hb
  have hvs:=JY h2
  subst hvs
  have hbm:=lM hb
  have hS:G.S nb f b:= .inl (hF b hbm).1
  refine⟨b,ns,k,rfl,rfl,h1,hk,KK.nx nb _ _ _ p (W2.sY e hbm rfl (fun a ha=>by
   have ha:a∈(gQ L b (.lst ((ns.erase k).map fun n=> .dat (.int n)))).map (·.1):=ha
   rw[ve] at ha;exact ha) (hs.put hbm hS ⟨_,aQ,Wm _⟩))⟩
theorem rS.MR{n:Nat}{F:RF}{c:Cu}{C:Addr}{m:Str}{Ψ:PyData->Prop}(hm:qJ F)(e:ρ[i]?=some (.cu c))(hcf:c.f=false)(hi:∀S H,c.P S H->∃a dx fs,c.v= .ref a/\H a=some (.ins C dx fs)/\fs.lookup m=none)
  (h:pQ G ρ t fun ds=>ds.length+1=n/\F c ds fun f d=>f=true/\Ψ d):rS G ρ (n5 C m (kG n F) [] E0 (bf i) t) Ψ:=fun nb σ H Q W z=>by
 obtain⟨x0,e1,h1,h2,h3⟩:=W.ok i _ e
 subst h1
 obtain⟨a,dx,fs,g1,g2,g3⟩:=hi _ _ h3
 refine⟨c.v,e1,a,dx,fs,g1,g2,g3,h nb σ H _ W fun ds vs H1 ⟨hl,p⟩ s1 q1=>?_⟩
 have k:=CK s1 (CV W e hcf)
 rw[gm]
 have W1:=W.step s1
 refine⟨by rw[bw,q1.length,hl],fun a=>¬NB G.B a,c,vs,ds,rfl,fun a y=>NB.kM W1.ao y,fun a m=>⟨fun y=>y (k.1 a m).1,(k.1 a m).2⟩,k.2,q1,hm _ _ _ _ p fun f d ⟨hf,hp⟩ v H' sm hd=>z v H' d hp (s1.trans (.same W1.ao sm)) ?_⟩
 refine hd.av fun a y=> .inr ⟨hf,fun w=>y ?_⟩
 exact W.none_of s1 w
end
structure eG(L:c9)(o o1 o2:Addr)(m:Int)(ns gs:List Int):Prop where
 nd:[o,o1,o2].Nodup
 h0:L.lookup o=some (.lst [.dat (.int m), .own o1, .own o2])
 h1:L.lookup o1=some (.lst (ns.map fun n=> .dat (.int n)))
 h2:L.lookup o2=some (.lst (gs.map fun n=> .dat (.int n)))
theorem Nj{L:c9}{b:Addr}{ns:List Int}(h:L.lookup b=some (.lst (ns.map fun n=> .dat (.int n)))):iK L (.own b) (mP ns):=iK.RE (by rw[h,mL];rfl)
noncomputable abbrev Dt(m:Int)(ns gs:List Int):PyData:= .list [.int m,mP ns,mP gs]
theorem eG.Du{L:c9}{o o1 o2:Addr}{m:Int}{ns gs:List Int}(h:eG L o o1 o2 m ns gs):iK L (.own o) (Dt m ns gs):=by
 refine .lst h.h0 rfl fun i x d e1 e2=>?_
 match i with
 |0=>cases e1;cases e2;exact .dat _
 |1=>cases e1;cases e2;exact Nj h.h1
 |2=>cases e1;cases e2;exact Nj h.h2
 |i+3=>cases e1
section
variable{L:c9}{o o1 o2:Addr}{m m':Int}{ns gs ns':List Int}(h:eG L o o1 o2 m ns gs)
theorem eG.ne(h:eG L o o1 o2 m ns gs):o≠o1/\o≠o2/\o1≠o2:=by have:=h.nd;simp at this;exact⟨this.1.1,this.1.2,this.2⟩
theorem eG.Sd(h:eG L o o1 o2 m ns gs)(m':Int):eG (gQ L o (.lst [.dat (.int m'), .own o1, .own o2])) o o1 o2 m' ns gs:=by
 obtain⟨n1,n2,n3⟩:=h.ne
 exact⟨h.nd,yJ (lM h.h0),(pF n1.symm).trans h.h1,(pF n2.symm).trans h.h2⟩
theorem eG.Ia(h:eG L o o1 o2 m ns gs)(ns':List Int):eG (gQ L o1 (.lst (ns'.map fun n=> .dat (.int n)))) o o1 o2 m ns' gs:=by
 obtain⟨n1,n2,n3⟩:=h.ne
 exact⟨h.nd,(pF n1).trans h.h0,yJ (lM h.h1),(pF n3.symm).trans h.h2⟩
theorem eG.put2(h:eG L o o1 o2 m ns gs)(gs':List Int):eG (gQ L o2 (.lst (gs'.map fun n=> .dat (.int n)))) o o1 o2 m ns gs':=by
 obtain⟨n1,n2,n3⟩:=h.ne
 exact⟨h.nd,(pF n2).trans h.h0,(pF n3).trans h.h1,yJ (lM h.h2)⟩
end
theorem FL{r:Addr}{L L':c9}(h:∀a∈L.map (·.1),a∈L'.map (·.1)):kc (stC (.ref r) false L) (stC (.ref r) false L'):=⟨rfl,rfl,h⟩
theorem xS{L L':c9}{b:Addr}{o:OO}(h:∀a∈L.map (·.1),a∈L'.map (·.1)):∀a∈L.map (·.1),a∈(gQ L' b o).map (·.1):=by rw[ve];exact h
theorem Vr{ds:br}(nd:(ds.map (·.1)).Nodup)(k:Int):(gY ds k).map (·.1)=(ds.map (·.1)).erase k:=by
 rw[nd.erase_eq_filter]
 unfold gY
 rw[List.filter_map]
 congr 1
 refine List.filter_congr fun q _=>?_
 show decide (q.1≠k)=(q.1 !=k)
 by_cases c:q.1=k<;>simp[c]
theorem mem_keys{ds:br}{k:Int}:k∈ds.map (·.1)↔∃d,(k,d)∈ds:=by
 rw[fQ]
 exact⟨fun⟨q,h,e⟩=>⟨q.2,by rw[<-e];exact h⟩,fun⟨d,h⟩=>⟨_,h,rfl⟩⟩
theorem PL(p n many:Int)(es:br)(q:Ask):(aV p n many es q).many<=many+1:=by
 cases q with
 |lt a b=>simp only[aV];split<;>(try split)<;>first|exact wR _|exact(by walk_at "o":many<=many+1)
 |ck a b=>simp only[aV];split<;>(try split)<;>first|exact wR _|exact(by walk_at "o":many<=many+1)
 |bk k=>simp only[aV];split<;>exact(by walk_at "o":many<=many+1)
 |wy k=>simp only[aV];split<;>exact(by walk_at "o":many<=many+1)
end L2
set_option maxRecDepth 100000
set_option maxHeartbeats 4000000
set_option maxRecDepth 100000
set_option maxHeartbeats 4000000
namespace L2
open PySem PySem.Spec PyProof.Rows
variable{p n many:Int}{es:br}
end L2
set_option maxRecDepth 100000
set_option maxHeartbeats 8000000
namespace K85
open PySem L2
noncomputable def top(i:Nat):Stmt:=PySem.Challenge.pw_fewchecks_k85_numbers_taken_back.main.body.getD i (.Pass ⟨0,0,0,0⟩)
noncomputable abbrev aaj:Stmt:=top 0
noncomputable abbrev ZA:Stmt:=top 11
noncomputable abbrev ZS:Stmt:=top 12
noncomputable abbrev Z1:Stmt:=top 13
noncomputable abbrev CA:Stmt:=top 15
noncomputable abbrev DM:Stmt:=top 16
noncomputable abbrev D5:Stmt:=top 17
noncomputable abbrev EM:Stmt:=top 18
noncomputable abbrev Z4:Stmt:=top 20
noncomputable abbrev ZT:Stmt:=top 23
noncomputable abbrev ZX:Stmt:=top 24
noncomputable abbrev vK:Stmt:=top 27
noncomputable abbrev Cw:Stmt:=top 28
noncomputable abbrev yf:Stmt:=top 29
noncomputable abbrev EK:Stmt:=top 30
noncomputable abbrev B9:Stmt:=top 31
noncomputable abbrev AB:Stmt:=top 32
noncomputable abbrev xW:Stmt:=top 33
noncomputable abbrev zN:Stmt:=top 34
noncomputable abbrev wF:Stmt:=top 35
noncomputable abbrev B0:Stmt:=top 36
noncomputable abbrev wK:Stmt:=top 37
noncomputable abbrev Ey:Stmt:=top 38
noncomputable abbrev BC:Stmt:=top 39
noncomputable abbrev Cc:Stmt:=top 40
noncomputable abbrev lK:Stmt:=top 41
noncomputable abbrev sj:Stmt:=inClass (top 25) 0
noncomputable abbrev qf:Stmt:=inClass (top 25) 1
noncomputable abbrev qL:Stmt:=inClass (top 25) 2
noncomputable abbrev qm:Stmt:=inClass (top 25) 3
noncomputable abbrev sf:Stmt:=inClass (top 25) 4
noncomputable abbrev qy:Stmt:=inClass (top 25) 8
noncomputable abbrev qg:Stmt:=inClass (top 25) 9
noncomputable abbrev QU:Prop:=∀{l:PySem.W.OpenLaw} {w:World} {K:PySem.W.Frag} {h:Heap} {mg:Str->Option Value} {fa:Addr} {f0 f1 f2 f3 f4 f5 f6 f7 f8 f9 MN Mj Nu Jo Lj NG Ko LK xm sJ rP qS rz qG qK qM:Addr} (X:K.In h) (G:h.Ns mainGlobals mg) (IS:mg "law"=some (.ref fa))
  {Kh DG:Option Addr} {Lx:Array (Option Value)} {KJ BV Bm CG yE CH:Value} {Nl HU:Option Addr} {HY:Array (Option Value)} {Kw Ln Ib LS A6 Lr:Value} {Lh MQ:Option Addr} {Jh:Array (Option Value)} {Ni LD Jj Ga Bc GA:Value} {Ff Ji:Option Addr} {FZ:Array (Option Value)} {MY MI Jf Jx En Ft:Value} {L4 HS:Option Addr} {JX:Array (Option Value)} {Jd Fp Mi HA E8 J1:Value} {Ny J4:Option Addr} {JU:Array (Option Value)} {KO MA Hi Hl Ei FQ:Value} {HQ FN:Option Addr} {Kg:Array (Option Value)} {G7 Gp FT HE CO LZ:Value} {Li Ll:Option Addr} {Jw:Array (Option Value)} {Gi IW JJ Nd CU GV:Value}
  {ak:Addr} (wX:PySem.W.nsIn K mainGlobals "Desk"=some (some (.ref ak))) (vD:PySem.W.plainGet K ak Str.empty=true) (ym:PySem.W.hasDictIn K ak=true) (zF:PySem.W.plainOver K ak=true) (Ab:PySem.W.findIn K (.ref ak) "__setattr__"=some (some (.builtin "object.__setattr__"))) (zo:PySem.W.makesIn K ak=true) (Aa:PySem.W.keepIn K (.ref ak)=true)
  {aN:Addr} (tL:gy K "NetError" aN [])
  {aK:Addr} (uV:gy K "NoPlace" aK [.ref aN])
  {aH:Addr} (uH:gy K "NoLetter" aH [.ref aN])
  {aP:Addr} (tM:gy K "NoCheck" aP [.ref aN])
  {aO:Addr} (sO:gy K "NoDeed" aO [.ref aN])
  {jg:Addr} (zc:PySem.W.nsIn K mainGlobals "NoNet"=some (some (.ref jg)))
  {iZ:Addr} (sQ:gy K "NoText" iZ [.ref aN])
  {iY:Addr} (vg:gy K "NotFormed" iY [.ref aN])
  (rL:PySem.W.kitOne K (.ref aK) (.ref aK)=some true)
  (rR:PySem.W.kitOne K (.ref aK) (.ref aH)=some false)
  (rM:PySem.W.kitOne K (.ref aK) (.ref aP)=some false)
  (qN:PySem.W.kitOne K (.ref aK) (.ref aO)=some false)
  (rm:PySem.W.kitOne K (.ref aK) (.ref jg)=some false)
  (sF:PySem.W.kitOne K (.ref aK) (.ref iZ)=some false)
  (qq:PySem.W.kitOne K (.ref aK) (.ref iY)=some false)
  (sI:PySem.W.kitOne K (.ref aK) (.type "ValueError")=some true)
  (sq:PySem.W.kitOne K (.ref aH) (.ref aK)=some false)
  (sA:PySem.W.kitOne K (.ref aH) (.ref aH)=some true)
  (qY:PySem.W.kitOne K (.ref aH) (.ref aP)=some false)
  (qQ:PySem.W.kitOne K (.ref aH) (.ref aO)=some false)
  (qh:PySem.W.kitOne K (.ref aH) (.ref jg)=some false)
  (rT:PySem.W.kitOne K (.ref aH) (.ref iZ)=some false)
  (rH:PySem.W.kitOne K (.ref aH) (.ref iY)=some false)
  (rX:PySem.W.kitOne K (.ref aH) (.type "ValueError")=some true)
  (rN:PySem.W.kitOne K (.ref aP) (.ref aK)=some false)
  (sE:PySem.W.kitOne K (.ref aP) (.ref aH)=some false)
  (p6:PySem.W.kitOne K (.ref aP) (.ref aP)=some true)
  (qW:PySem.W.kitOne K (.ref aP) (.ref aO)=some false)
  (sH:PySem.W.kitOne K (.ref aP) (.ref jg)=some false)
  (sN:PySem.W.kitOne K (.ref aP) (.ref iZ)=some false)
  (sG:PySem.W.kitOne K (.ref aP) (.ref iY)=some false)
  (se:PySem.W.kitOne K (.ref aP) (.type "ValueError")=some true)
  (rY:PySem.W.kitOne K (.ref aO) (.ref aK)=some false)
  (qw:PySem.W.kitOne K (.ref aO) (.ref aH)=some false)
  (qP:PySem.W.kitOne K (.ref aO) (.ref aP)=some false)
  (rZ:PySem.W.kitOne K (.ref aO) (.ref aO)=some true)
  (sL:PySem.W.kitOne K (.ref aO) (.ref jg)=some false)
  (qD:PySem.W.kitOne K (.ref aO) (.ref iZ)=some false)
  (rE:PySem.W.kitOne K (.ref aO) (.ref iY)=some false)
  (qu:PySem.W.kitOne K (.ref aO) (.type "ValueError")=some true)
  (jf:PySem.W.findIn K (.ref ak) "p"=some none)
  (jI:PySem.W.findIn K (.ref ak) "n"=some none)
  (iy:PySem.W.findIn K (.ref ak) "letter_deeds"=some none)
  (iu:PySem.W.findIn K (.ref ak) "check_deeds"=some none)
  (j7:PySem.W.findIn K (.ref ak) "many"=some none)
  (jB:PySem.W.findIn K (.ref ak) "last"=some none)
  (d0:bR K "is_check" "is_check" CA f0)
  (d1:bR K "ask_place" "ask_place" DM f1)
  (d2:bR K "is_letter" "is_letter" D5 f2)
  (d3:bR K "ask_letter" "ask_letter" EM f3)
  (d4:bR K "_law_bag" "_law_bag" vK f4)
  (d5:bR K "_law_draw" "_law_draw" Cw f5)
  (d6:bR K "_law_prime_from" "_law_prime_from" yf f6)
  (d7:bR K "_law_prime" "_law_prime" EK f7)
  (d8:bR K "_law_letter" "_law_letter" B9 f8)
  (d9:bR K "_law_factor" "_law_factor" AB f9)
  (zm:bR K "_law_places" "_law_places" xW MN)
  (zu:bR K "_law_alike" "_law_alike" zN Mj)
  (vG:bR K "_law_kinds" "_law_kinds" wF Nu)
  (yi:bR K "_law_done" "_law_done" B0 Jo)
  (wz:bR K "_law_pairs" "_law_pairs" wK Lj)
  (Aq:bR K "_law_tell" "_law_tell" Ey NG)
  (zw:bR K "_law_number" "_law_number" BC Ko)
  (we:bR K "_law_back" "_law_back" Cc LK)
  (wj:PySem.W.nsIn K mainGlobals "law"=some (some (.ref xm))) (z4:K.lookup xm=some ⟨KJ,Kh, .func (PySem.W.fnOf "law" "law" (iX lK) (g8 lK) (aW lK) .none BV Bm CG DG yE CH),Lx⟩) (wA:PySem.W.codeIn K yE "law"=true) (zz:PySem.W.keepIn K (.ref xm)=true)
  (zv:PySem.W.findIn K (.ref ak) "__init__"=some (some (.ref sJ))) (za:PySem.W.isFn K (.ref sJ)=true) (zO:K.lookup sJ=some ⟨Kw,Nl, .func (PySem.W.fnOf "__init__" "Desk.__init__" (iX sj) (g8 sj) (aW sj) .none Ln Ib LS HU A6 Lr),HY⟩) (zq:PySem.W.codeIn K A6 "Desk.__init__"=true) (zh:PySem.W.keepIn K (.ref sJ)=true)
  (yU:PySem.W.findIn K (.ref ak) "letter"=some (some (.ref rP))) (vQ:PySem.W.isFn K (.ref rP)=true) (ya:K.lookup rP=some ⟨Ni,Lh, .func (PySem.W.fnOf "letter" "Desk.letter" (iX qf) (g8 qf) (aW qf) .none LD Jj Ga MQ Bc GA),Jh⟩) (zd:PySem.W.codeIn K Bc "Desk.letter"=true) (tN:PySem.W.keepIn K (.ref rP)=true)
  (vF:PySem.W.findIn K (.ref ak) "check"=some (some (.ref qS))) (An:PySem.W.isFn K (.ref qS)=true) (xO:K.lookup qS=some ⟨MY,Ff, .func (PySem.W.fnOf "check" "Desk.check" (iX qL) (g8 qL) (aW qL) .none MI Jf Jx Ji En Ft),FZ⟩) (xJ:PySem.W.codeIn K En "Desk.check"=true) (uz:PySem.W.keepIn K (.ref qS)=true)
  (zW:PySem.W.findIn K (.ref ak) "new_number"=some (some (.ref rz))) (yR:PySem.W.isFn K (.ref rz)=true) (Ao:K.lookup rz=some ⟨Jd,L4, .func (PySem.W.fnOf "new_number" "Desk.new_number" (iX qm) (g8 qm) (aW qm) .none Fp Mi HA HS E8 J1),JX⟩) (Ar:PySem.W.codeIn K E8 "Desk.new_number"=true) (tO:PySem.W.keepIn K (.ref rz)=true)
  (ze:PySem.W.findIn K (.ref ak) "take_back"=some (some (.ref qG))) (vV:PySem.W.isFn K (.ref qG)=true) (xE:K.lookup qG=some ⟨KO,Ny, .func (PySem.W.fnOf "take_back" "Desk.take_back" (iX sf) (g8 sf) (aW sf) .none MA Hi Hl J4 Ei FQ),JU⟩) (wQ:PySem.W.codeIn K Ei "Desk.take_back"=true) (tV:PySem.W.keepIn K (.ref qG)=true)
  (xF:PySem.W.findIn K (.ref ak) "why"=some (some (.ref qK))) (yr:PySem.W.isFn K (.ref qK)=true) (xM:K.lookup qK=some ⟨G7,HQ, .func (PySem.W.fnOf "why" "Desk.why" (iX qy) (g8 qy) (aW qy) .none Gp FT HE FN CO LZ),Kg⟩) (zl:PySem.W.codeIn K CO "Desk.why"=true) (uu:PySem.W.keepIn K (.ref qK)=true)
  (zY:PySem.W.findIn K (.ref ak) "standing"=some (some (.ref qM))) (vC:PySem.W.isFn K (.ref qM)=true) (xC:K.lookup qM=some ⟨Gi,Li, .func (PySem.W.fnOf "standing" "Desk.standing" (iX qg) (g8 qg) (aW qg) .none IW JJ Nd Ll CU GV),Jw⟩) (yG:PySem.W.codeIn K CU "Desk.standing"=true) (vm:PySem.W.keepIn K (.ref qM)=true)
  (zL:PySem.W.nsIn K mainGlobals "ValueError"=some none)
  (vY:PySem.W.nsIn K mainGlobals "abs"=some none)
  (wW:PySem.W.nsIn K mainGlobals "all"=some none)
  (Ag:PySem.W.nsIn K mainGlobals "bool"=some none)
  (vO:PySem.W.nsIn K mainGlobals "int"=some none)
  (yj:PySem.W.nsIn K mainGlobals "isinstance"=some none)
  (Ah:PySem.W.nsIn K mainGlobals "len"=some none)
  (xx:PySem.W.nsIn K mainGlobals "list"=some none)
  (As:PySem.W.nsIn K mainGlobals "min"=some none)
  (x9:PySem.W.nsIn K mainGlobals "range"=some none)
  (zf:PySem.W.nsIn K mainGlobals "set"=some none)
  (yt:PySem.W.nsIn K mainGlobals "sorted"=some none)
  (zX:PySem.W.nsIn K mainGlobals "str"=some none)
  (xo:PySem.W.nsIn K mainGlobals "tuple"=some none),
  ∃fd:FuncData,(∀(s:Shared) (v:Value),BindsTo s fd ⟨[v],[]⟩ [("script",v)])/\∀base:Heap,K.In base->base.Ns mainGlobals mg->aY l.prog w K mg base cT 6 fa fd ["script"] (wD K)
theorem walk{l:PySem.W.OpenLaw}{q:Program}{loose:List Str}{XP:(Str->Option Value)->Heap->Prop}{YP:World->Heap->Prop}{d:DefRec}{K:Params->PySem.W.Frag}(hn:l.most=some 63)(hdf:d.params.defaults=[])
  (hY:∀(w:World) (h:Heap),YP w h->(K w.params).In h)
  (F : ∀ (w : World) (mg : Str -> Option Value) (fa : Addr) (h : Heap), (K w.params).In h -> h.Ns mainGlobals mg -> mg d.name = some (.ref fa) ->
   ∃fd:FuncData,(∀(s:Shared) (u:Value),BindsTo s fd ⟨[u],[]⟩ [("script",u)])/\∀base:Heap,(K w.params).In base->base.Ns mainGlobals mg->aY l.prog w (K w.params) mg base cT 6 fa fd ["script"] (wD (K w.params))):
  PySem.W.WalkO q loose XP YP l.row.toRowW d [] (fun f vs=>PySem.call f vs):=
 L2.Ql (n:=63) (k:=6) (x:="script") (CX:=fun _=>cT) (sp:=fun w=>wD (K w.params)) hn (by decide) hdf ⟨rfl,by decide,by decide⟩ hY F (fun _ _ a ns hl _ hS=>⟨a,ns,rfl,hS,hl,fun _=>rfl⟩) fun _ _ _ _ _ z=>z
local macro_rules| `(tactic|walk_at "d0")=> `(tactic|first|omega|assumption|decide|(unfold Sm at*;omega)|(unfold wU;omega)|(unfold AW;decide)|(unfold AW;omega))
local macro_rules| `(tactic|walk_at "ds")=> `(tactic|((try dsimp only);first|walk_at "d0" |(refine And.intro ?_ ?_<;>walk_at "d0")|(refine Or.inl ?_;walk_at "d0")|(refine Or.inr (And.intro ?_ ?_)<;>walk_at "d0")))
local macro_rules| `(tactic|walk_at "s1")=> `(tactic|with_reducible first
 |refine R.seq ?_|refine R.asg ?_|refine R.setC ?_|refine R.jL ?_|refine R.ret ?_|refine R.next ?_|refine R.c ?_|refine R.op ?_|refine R.test ?_|refine R.bl ?_|refine R.tru ?_
 |refine R.and ?_|refine R.cb ?_|refine R.call ?_|refine R.nil ?_|refine R.cons ?_
 |refine R.lst ?_|refine R.sl ?_|refine R.UX ?_|refine R.part ?_|refine R.tyInt ?_|refine R.Ku ?_|refine R.YV ?_|refine R.gcons ?_|refine R.gnil ?_|refine R.uD ?_
 |refine R.fL ?_|refine R.XM ?_|refine R.neI ?_|refine R.eqNI ?_|refine R.eqIN ?_|refine R.isI ?_|refine R.notI ?_|refine R.notN ?_|refine R.intB ?_|refine R.bits ?_
 |refine zy ?_|refine Mz ?_|refine R.nilE ?_|refine R.isiII ?_|refine R.isiIB ?_|refine R.rng1 ?_|refine R.SX ?_|refine R.iL ?_|refine R.Wi ?_|refine R.comp ?_)
local macro_rules| `(tactic|walk_at "st")=> `(tactic|repeat (first
 |walk_at "s1"
 |((with_reducible refine' R.var ?h0 ?_);(case h0=>rfl))
 |((with_reducible refine' R.rI ?h1 ?_);(case h1=>walk_at "ds"))
 |((with_reducible refine' R.D6 (o:= .lst []) ?h1 ?_);(case h1=>rfl))
 |((with_reducible refine' R.FD ?h0 ?h1 ?_);(case h0=>assumption);(case h1=>rfl))
 |((with_reducible refine' R.ixTM ?h0 ?h1 ?_);(case h0=>assumption);(case h1=>rfl))
 |((with_reducible refine' R.fU ?h1 ?_);(case h1=>rfl))
 |((with_reducible refine' R.setM ?h0 ?h1 ?_);(case h0=>assumption);(case h1=>rfl))
 |((with_reducible refine' R.Sz ?h0 ?_);(case h0=>assumption))
 |((with_reducible refine' R.lenL ?h0 ?_);(case h0=>assumption))
 |((with_reducible refine' R.rng1I ?h0 ?h1 ?_);(case h0=>walk_at "ds");(case h1=>walk_at "ds"))
 |((with_reducible refine' R.RG ?h0 ?_);(case h0=>walk_at "ds"))
 |((with_reducible refine' R.B6 ?h0 ?_);(case h0=>assumption))
 |((with_reducible refine' R.gX ?h0 ?_);(case h0=>first|exact R.dT (by omega)|exact R.dTn (by omega)|decide))
 |((with_reducible refine' R.Gd ?h0 ?_);(case h0=>first|exact R.dF (by omega)|exact R.MK (by omega)|decide))
 |(with_reducible refine R.U0 ?_)|(with_reducible refine R.NV ?_)))
local macro_rules| `(tactic|walk_at "mo")=> `(tactic|repeat (first|refine Exists.imp fun _=>?_|refine And.imp_right ?_))
local macro_rules| `(tactic|walk_at "fv")=> `(tactic|first|exact Or.inl rfl|exact Or.inr (Or.inl rfl)|exact Or.inr (Or.inr (Or.inl rfl))|exact Or.inr (Or.inr (Or.inr (Or.inl rfl)))|exact Or.inr (Or.inr (Or.inr (Or.inr rfl))))
local macro_rules| `(tactic|walk_at "d1")=> `(tactic|with_reducible first
 |refine Sv.seq ?_|refine Sv.asg ?_|refine Sv.setCF ?_|refine Sv.jL ?_|refine Sv.ret ?_|refine Sv.next ?_|refine Sv.retN ?_
 |refine Ev.int ?_|refine Ev.bl ?_|refine Ev.aB ?_|refine Ev.fL ?_|refine Ev.BU ?_|refine Ev.rI ?_|refine Ev.rU ?_|refine Ev.eq ?_|refine Ev.ne ?_|refine Ev.is ?_|refine Ev.isNot ?_|refine Ev.Oh ?_|refine Ev.WE ?_|refine Ev.str ?_|refine Ev.NW ?_
 |refine Ev.Zb ?_|refine Ev.orV ?_|refine Ev.Vo ?_|refine Ev.Zh ?_|refine Tv.test ?_|refine Tv.and ?_|refine Tv.or ?_|refine Tv.not ?_|refine Tv.uD ?_|refine Tv.Hf ?_
 |refine Ev.QO ?_|refine Ev.tup ?_|refine Ev.lst ?_|refine Av.nil ?_|refine Av.cons ?_|refine Av.SN ?_|refine Ev.min2 ?_|refine Ev.max2 ?_|refine Ev.intB ?_
 |refine R.di ?_|refine R.db ?_|refine R.dl ?_|refine R.dt ?_|refine R.YT ?_|refine R.Sn ?_|refine R.Yp ?_|refine R.eqni ?_|refine R.eqin ?_|refine R.eqnn ?_|refine R.Uu ?_
 |refine Gv.mR ?_|refine Gv.Er ?_|refine Gv.SS ?_|refine Gv.nameT ?_|refine Gv.Kf ?_|refine Gv.Vz ?_|refine Gv.Se ?_|refine zy ?_|refine Mz ?_)
local macro_rules| `(tactic|walk_at "dt")=> `(tactic|repeat (first
 |((with_reducible refine' Sv.retOwn ?h0 ?_);(case h0=>rfl))
 |((with_reducible refine' Sv.setOwn ?h0 ?_);(case h0=>rfl))
 |walk_at "d1"
 |((with_reducible refine' Ev.var ?h0 ?_);(case h0=>rfl))
 |((with_reducible refine' Ev.draw ?h0 ?_);(case h0=>rfl))
 |((with_reducible refine' Ev.ixOwn ?h0 ?_);(case h0=>rfl))
 |((with_reducible refine' Ev.lenOwn ?h0 ?_);(case h0=>rfl))
 |((with_reducible refine' Ev.OJ ?h0 ?h1 ?_);(case h0=>rfl);(case h1=>assumption))
 |((with_reducible refine' Ev.listOwn ?h0 ?_);(case h0=>rfl))
 |((with_reducible refine' Ev.slOwn ?h0 ?_);(case h0=>rfl))
 |((with_reducible refine' Sv.append ?h0 ?_);(case h0=>rfl))
 |((with_reducible refine' Sv.setOwn ?h0 ?_);(case h0=>rfl))
 |((with_reducible refine' Sv.retOwn ?h0 ?_);(case h0=>rfl))
 |((with_reducible refine' Gv.tup ?h0 ?_);(case h0=>rfl))
 |((with_reducible refine' R.at_ ?h0 ?_);(case h0=>first|rfl|assumption))
 |(with_reducible refine Ev.vp ?_)|(with_reducible refine Ev.RV ?_)|(with_reducible refine Ev.listOf ?_)|(with_reducible refine Ev.cat ?_)|(with_reducible refine Ev.N9 ?_)
 |((with_reducible refine' Ev.OC ?h0 ?_);(case h0=>walk_at "fv"))
 |((with_reducible refine' Ev.Zg ?h0 ?h1 ?_);(case h0=>walk_at "fv");(case h1=>walk_at "fv"))
 |(with_reducible refine Ev.all ?_)|(with_reducible refine Ev.D6 ?_)
 |((with_reducible refine' R.UL ?_))
 |((with_reducible refine' R.gX ?h0 ?_);(case h0=>first|exact R.dT (by omega)|exact R.dTn (by omega)|rfl))
 |((with_reducible refine' R.Gd ?h0 ?_);(case h0=>first|exact R.dF (by omega)|exact R.MK (by omega)|exact bH))
 |((with_reducible refine' R.Qs ?h0 ?_);(case h0=>first|walk_at "ds" |exact j9 rfl))))
local macro_rules| `(tactic|walk_at "wk")=> `(tactic|repeat (first|exact Wk.nil|apply Wk.no|apply Wk.eq))
section
variable{P:Program}{w:World}{K:PySem.W.Frag}{mg:Str->Option Value}{base:Heap}{f:Addr}{fd:FuncData}
noncomputable def Bk:DF:=fun ds Φ=>∃(p n:Int) (prs:bY),ds=[.int p, .int n,jq prs]/\∀b:Bool,(b=true↔mS p n prs)->Φ true (.bool b)
theorem Qo:jM Bk:=by
 intro ds Φ Ψ hm z;revert hm
 walk_at "mo";exact fun q=>fun b h=>z _ _ (q b h)
theorem vh:cW ["p","n","pairs","last","place","factor"] ["p","n","pairs"] (aW CA):=⟨rfl,rfl,rfl,by decide+kernel,rfl,by decide+kernel,by decide+kernel⟩
theorem PX(F:bW K "is_check" "is_check" CA f fd)(eZ:mg "len"=none):
  aY P w K mg base cT 1 f fd ["p","n","pairs"] (ic 3 Bk):=by
 refine F.ok vh (fun vs H Q E h=>h.1) (fun cdv A outer s H vs Q E hr h=>?_)
 obtain⟨nb,ds,Φ,hlive,hds,aC,hF⟩:=AN h
 obtain⟨p,n,prs,rfl,q⟩:=hF
 refine⟨_,(@aG _ _ _ _ _ (@bD _ _ (3) _ _ _ _ vh.nd rfl (Or.inl rfl) (@S8 _ _ _ _ _ _ Xf ai) (by rfl) (by first|exact .inl rfl|exact .inr rfl|assumption)) (@aG _ _ _ _ _ (@xw _ _ _ _ _ _ _ _ Ae rfl (zI (K:=K) rfl (pv 2)) (@P7 _ (K) _ _ _ (2) _ rfl rfl (@Jm _ _ _ _ _ (ko (i:=4) vh.nd rfl (Or.inl rfl)) (@Jm _ _ _ _ _ (ko (i:=5) vh.nd rfl (Or.inl rfl)) So (by rfl)) (by rfl)) (by rfl) (by rfl)) (@aG _ _ _ _ _ (@dH _ _ _ _ _ _ _ _ (PW.pt (oQ (@bZ _ _ _ _ _ _ _ _ vZ (pv 4) (pv 3) (bV _)) (oQ (@bZ _ _ _ _ _ _ _ _ Ck (pv 4) (pv 1) (bV _)) (oQ (@bZ _ _ _ _ _ _ _ _ ou (pv 5) ai (bV _)) (ur (@bZ _ _ _ _ _ _ _ _ Ck (pv 5) (pv 0) (bV _))))))) (@aJ _ _ _ (@cL _ _ _ _ rJ)) fX) (@aJ _ _ _ (@bD _ _ (3) _ _ _ _ vh.nd rfl (Or.inl rfl) (pv 4) (by rfl) (by first|exact .inl rfl|exact .inr rfl|assumption)))) (by intro _;rfl)) (@aJ _ _ _ (@cL _ _ _ _ (@u6 _ _ _ _ _ _ _ _ RL (@cP _ _ _ _ _ _ _ _ (kH K) oh rfl eZ nD (@aa _ _ _ _ _ (pv 2) aj rfl) (by decide) (by decide) (by rfl) (by rfl)) ai (bV _)))))),?_⟩
 refine Sv.yF hlive hds aC (ρ:=[.d false _, .d false _, .d false _, .no, .no, .no]) rfl ?_
 clear aC hds
 walk_at "dt"
 refine Sv.forL ?_
 walk_at "dt"
 intro v
 refine⟨fun i ρ=>∃(last:Int) (x4 x5:Sl),ρ=[.d false (.int p), .d false (.int n), .d false (jq prs), .d true (.int last),x4,x5]/\(-1<=last)/\((prs.take i).Pairwise fun a b=>a.1<b.1)/\(∀pr∈prs.take i,pr.1<=last/\0<=pr.1/\pr.1<n/\1<=pr.2/\pr.2<p)/\(last= -1\/∃pr∈prs.take i,pr.1=last),⟨-1,_,_,rfl,by walk_at "o",by simp,by simp, .inl rfl⟩,?_,?_⟩
 ·rintro i d ρ hd ⟨last,x4,x5,rfl,h1,h2,h3,h4⟩
  obtain⟨pr,sr,rfl⟩:=Ik hd
  have es:=take_snoc sr
  have hm:pr∈prs:=iQ sr
  have no:∀hb:¬(last<pr.1/\pr.1<n/\1<=pr.2/\pr.2<p),Φ true (.bool false):=fun hb=>q false (by
   refine⟨fun z=>(by cases z),fun⟨_,z1,z2⟩=>?_⟩
   exfalso
   apply hb
   have:=z2 pr hm
   refine⟨?_,this.2.1,this.2.2.1,this.2.2.2⟩
   rcases h4 with h4|⟨pr',h5,h6⟩
   ·walk_at "o"
   ·have z3:(prs.take (i+1)).Pairwise fun a b=>a.1<b.1:=z1.sublist (List.take_sublist _ _)
    rw[es] at z3
    have:=(Bv.mp z3).2.2 pr' h5 pr (az.mpr rfl)
    walk_at "o")
  walk_at "dt"
  by_cases c1:pr.1<=last
  ·walk_at "dt"
   exact no (by walk_at "o")
  walk_at "dt"
  by_cases c2:n<=pr.1
  ·walk_at "dt"
   exact no (by walk_at "o")
  walk_at "dt"
  by_cases c3:pr.2<1
  ·walk_at "dt"
   exact no (by walk_at "o")
  walk_at "dt"
  by_cases c4:p<=pr.2
  ·walk_at "dt"
   exact no (by walk_at "o")
  walk_at "dt"
  refine⟨_,_,_,rfl,by walk_at "o",?_,?_, .inr ⟨pr,by rw[es];simp,rfl⟩⟩
  ·rw[es]
   refine Bv.mpr ⟨h2,by simp,fun a ha b hb=>?_⟩
   rw[az.mp hb]
   have:=h3 a ha
   walk_at "o"
  ·intro a ha
   rw[es] at ha
   rcases jc.mp ha with ha|ha
   ·have:=h3 a ha
    walk_at "o"
   ·rw[az.mp ha]
    walk_at "o"
 ·rintro ρ ⟨last,x4,x5,rfl,h1,h2,h3,h4⟩
  rw[ay,List.take_length] at h2 h3
  walk_at "dt"
  refine q _ ?_
  rw[decide_eq_true_eq,ay]
  constructor
  ·intro h
   exact⟨fun z=>by subst z;simp at h,h2,fun pr sr=>(h3 pr sr).2⟩
  ·rintro⟨h,_⟩
   cases prs with
   |nil=>exact absurd rfl h
   |cons=>simp
noncomputable def Di(C:Addr):qB:=fun ds Φ Ξ=>∃(n a:Int),ds=[.int n, .int a]/\if 0<=a/\a<n then Φ true .none else Ξ C
theorem Tt{C:Addr}:BF (Di C):=by
 intro ds Φ Ψ X Y h z1 z2
 obtain⟨n,a,e,q⟩:=h
 refine⟨n,a,e,?_⟩
 split at q
 ·rename_i c;rw[if_pos c];exact z1 _ _ q
 ·rename_i c;rw[if_neg c];exact z2 _ q
theorem S4:cW ["n","place"] ["n","place"] (aW DM):=⟨rfl,rfl,rfl,by decide+kernel,rfl,by decide+kernel,by decide+kernel⟩
theorem RZ(F:bW K "ask_place" "ask_place" DM f fd){aN:Addr}{aK:Addr}(fR:XI K aN [])(fP:mg "NetError"=some (.ref aN))(eV:XI K aK [.ref aN])(iU:mg "NoPlace"=some (.ref aK)):
  aY P w K mg base (iS P w) 1 f fd ["n","place"] (pT 2 (Di aK)):=by
 refine F.qT S4 (fun vs H Q E h=>h.1) (fun cdv A outer s H vs Q E hr h=>?_)
 obtain⟨nb,ds,Φ,Ξ,hlive,hds,aC,fO,hF⟩:=JH h
 obtain⟨n,a,rfl,q⟩:=hF
 refine⟨_,(@aJ _ _ _ (@dH _ _ _ _ _ _ _ _ (PW.pt (oQ (@bZ _ _ _ _ _ _ _ _ ou (pv 1) ai (bV _)) (ur (@bZ _ _ _ _ _ _ _ _ Ck (pv 1) (pv 0) (bV _))))) (@aJ _ _ _ (yQ oE rfl eV.toXC rfl rfl iU (@aa _ _ _ _ _ eE aj rfl))) fX)),?_⟩
 refine Sv.JF hlive hds aC fO (ρ:=[.d false _, .d false _]) rfl fun jK=>?_
 clear aC hds fO
 by_cases c1:a<0
 ·rw[if_neg (by walk_at "o")] at q
  walk_at "dt"
  refine Sv.raise jK ?_
  walk_at "dt"
  exact q
 by_cases c2:n<=a
 ·rw[if_neg (by walk_at "o")] at q
  walk_at "dt"
  refine Sv.raise jK ?_
  walk_at "dt"
  exact q
 rw[if_pos (by walk_at "o")] at q
 walk_at "dt"
 exact q
noncomputable def Co:DF:=fun ds Φ=>∃(p a:Int),ds=[.int p, .int a]/\Φ true (.bool (decide (0<=a/\a<p)))
theorem TN:jM Co:=by
 intro ds Φ Ψ hm z;revert hm
 walk_at "mo";exact fun q=>z _ _ q
theorem WD:cW ["p","letter"] ["p","letter"] (aW D5):=⟨rfl,rfl,rfl,by decide+kernel,rfl,by decide+kernel,by decide+kernel⟩
theorem O5(F:bW K "is_letter" "is_letter" D5 f fd):
  aY P w K mg base cT 1 f fd ["p","letter"] (ic 2 Co):=by
 refine F.ok WD (fun vs H Q E h=>h.1) (fun cdv A outer s H vs Q E hr h=>?_)
 obtain⟨nb,ds,Φ,hlive,hds,aC,hF⟩:=AN h
 obtain⟨p,a,rfl,q⟩:=hF
 refine⟨_,(@aJ _ _ _ (@cL _ _ _ _ (@Nn _ _ _ _ _ _ _ (@u6 _ _ _ _ _ _ _ _ vZ ai (pv 1) (bV _)) (@ID _ _ _ _ _ (@u6 _ _ _ _ _ _ _ _ ou (pv 1) (pv 0) (bV _)))))),?_⟩
 refine Sv.yF hlive hds aC (ρ:=[.d false _, .d false _]) rfl ?_
 clear aC hds
 by_cases c1:0<=a
 ·rw[show decide (0<=a/\a<p)=decide (a<p) by simp[c1]] at q
  walk_at "dt"
  exact q
 ·rw[decide_eq_false (by walk_at "o")] at q
  walk_at "dt"
  exact q
noncomputable def Am(C:Addr):qB:=fun ds Φ Ξ=>∃(n a:Int),ds=[.int n, .int a]/\if 0<=a/\a<n then Φ true .none else Ξ C
theorem Il{C:Addr}:BF (Am C):=by
 intro ds Φ Ψ X Y h z1 z2
 obtain⟨n,a,e,q⟩:=h
 refine⟨n,a,e,?_⟩
 split at q
 ·rename_i c;rw[if_pos c];exact z1 _ _ q
 ·rename_i c;rw[if_neg c];exact z2 _ q
theorem R9:cW ["p","letter"] ["p","letter"] (aW EM):=⟨rfl,rfl,rfl,by decide+kernel,rfl,by decide+kernel,by decide+kernel⟩
theorem TV(F:bW K "ask_letter" "ask_letter" EM f fd){aN:Addr}{aH:Addr}(fR:XI K aN [])(fP:mg "NetError"=some (.ref aN))(dY:XI K aH [.ref aN])(ig:mg "NoLetter"=some (.ref aH))(Yi:Callee P w K mg base "is_letter" 1 ["p","letter"] (ic 2 Co)):
  aY P w K mg base (iS P w) 2 f fd ["p","letter"] (pT 2 (Am aH)):=by
 refine F.qT R9 (fun vs H Q E h=>h.1) (fun cdv A outer s H vs Q E hr h=>?_)
 obtain⟨nb,ds,Φ,Ξ,hlive,hds,aC,fO,hF⟩:=JH h
 obtain⟨n,a,rfl,q⟩:=hF
 refine⟨_,(@aJ _ _ _ (@dH _ _ _ _ _ _ _ _ (@vz _ _ _ _ (@pI _ (K) _ _ rfl (@bO _ _ _ _ _ _ _ _ _ _ Yi (hr.mono (by decide)) (@aa _ _ _ _ _ (pv 0) (@aa _ _ _ _ _ (pv 1) aj rfl) rfl) (by rfl) (by decide) (by rfl) (by rfl)) (fun _=>rfl))) (@aJ _ _ _ (yQ oE rfl dY.toXC rfl rfl ig (@aa _ _ _ _ _ eE aj rfl))) fX)),?_⟩
 refine Sv.JF hlive hds aC fO (ρ:=[.d false _, .d false _]) rfl fun jK=>?_
 clear aC hds fO
 refine Sv.jL ?_
 walk_at "dt"
 refine Ev.nH TN ?_
 walk_at "dt"
 refine⟨rfl,n,a,rfl,?_⟩
 by_cases c:0<=a/\a<n
 ·rw[decide_eq_true c]
  rw[if_pos c] at q
  walk_at "dt"
  exact q
 ·rw[decide_eq_false c]
  rw[if_neg c] at q
  walk_at "dt"
  refine Sv.raise jK ?_
  walk_at "dt"
  exact q
theorem zV:cW ["script","stir","cell"] ["script"] (aW vK):=⟨rfl,rfl,rfl,by decide+kernel,rfl,by decide+kernel,by decide+kernel⟩
theorem YA(F:bW K "_law_bag" "_law_bag" vK f fd)(Bj:mg "abs"=none):
  aY P w K mg base cT 1 f fd ["script"] (Gj K):=by
 refine F.ok zV (fun vs H Q E h=>?_) (fun cdv A outer s H vs Q E hr h=>?_)
 ·obtain⟨a,ns,rfl,hS,hl,q⟩:=h
  rfl
 obtain⟨a,ns,rfl,hS,hl,q⟩:=h
 refine⟨_,(@aG _ _ _ _ _ (@bD _ _ (1) _ _ _ _ zV.nd rfl (Or.inl rfl) ai (by rfl) (by first|exact .inl rfl|exact .inr rfl|assumption)) (@aG _ _ _ _ _ (@xw _ _ _ _ _ _ _ _ Ae rfl (zI (K:=K) rfl (@JP _ _ _ _ _ _ _ _ _ _ Iv (pv 0) L0 (@Iq _ _ _ ai))) (ko (i:=2) zV.nd rfl (Or.inl rfl)) (@aJ _ _ _ (@bD _ _ (1) _ _ _ _ zV.nd rfl (Or.inl rfl) (@aU _ _ _ _ _ _ _ _ lR (@aU _ _ _ _ _ _ _ _ fN (@aU _ _ _ _ _ _ _ _ fN (@aU _ _ _ _ _ _ _ _ qt (pv 1) ai) (@aU _ _ _ _ _ _ _ _ lR (pv 2) ai)) ai) ai) (by rfl) (by first|exact .inl rfl|exact .inr rfl|assumption))) (by intro _;rfl)) (@aJ _ _ _ (@cL _ _ _ _ (@dS _ _ _ _ (@aa _ _ _ _ _ (pY (lF.of (show mW (aW vK) ["script","stir","cell"] _ ["cell"] [none]=true by decide+kernel)) (zI (K:=K) rfl (@JP _ _ _ _ _ _ _ _ _ _ Iv (pv 0) L0 (@Iq _ _ _ ai))) (fun _ _ _ _=>⟨(ko (i:=0) (by show List.Nodup (["cell"]:List Str);decide+kernel) rfl (Or.inl rfl)),xQ,(@aU _ _ _ _ _ _ _ _ lR (@cP _ _ _ _ _ _ _ _ _ PJ rfl Bj PyProof.Rows.boot_abs (@aa _ _ _ _ _ (pv 0) aj rfl) (by decide) (by decide) (by rfl) (by rfl)) (@aU _ _ _ _ _ _ _ _ su ai ai))⟩)) (@aa _ _ _ _ _ ai (@aa _ _ _ _ _ ai (@aa _ _ _ _ _ (pv 1) (@aa _ _ _ _ _ ai aj rfl) rfl) rfl) rfl) rfl)))))),?_⟩
 have JK:lD (ns.map V.int) none (some 63)=ns.map V.int:=by
  have e:(ns.map V.int).length=ns.length:=ay _
  show List.take (min 63 (ns.map V.int).length-0) (List.drop 0 (ns.map V.int))=_
  rw[Ep]
  exact NP (by walk_at "o")
 walk_at "st"
 refine R.IM hS fun c hc=>?_
 rw[JK]
 refine R.B6 (aS.of aQ) ?_
 refine Sq (xs:=ns.map V.int) (fun i σ H1=>∃(st:Int) (x:Option V),σ=[some (.ref a),some (.int st),x]/\0<=st/\st<2147483647/\H1=upd H c (.lst (ns.map V.int))) ⟨19,none,rfl,by walk_at "o",by walk_at "o",rfl⟩ ?_ ?_ ?_
 ·rintro i σ H1 hi ⟨st,x,rfl,h1,h2,rfl⟩
  exact aS.of aQ
 ·rintro i x σ H1 hx ⟨st,y,rfl,h1,h2,rfl⟩
  rw[dG] at hx
  obtain⟨n,_,rfl⟩:=ow.mp hx
  walk_at "st"
  exact⟨_,_,rfl,pW _ (by decide),pB _ (by decide),rfl⟩
 ·rintro σ H1 ⟨st,x,rfl,h1,h2,rfl⟩
  walk_at "st"
  refine R.IM ((cE hc).seq hS) fun c2 hc2=>?_
  rw[JK]
  refine R.B6 (aS.of aQ) ?_
  intro acc hacc
  refine R.M3 (xs:=ns.map V.int) (fun i σ H2=>∃(x:Option V),σ=[x]/\H2=upd (upd (upd H c (.lst (ns.map V.int))) c2 (.lst (ns.map V.int))) acc (.lst (((ns.take i).map fun n=>(if n<0 then-n else n)%10^60).map V.int))) ⟨none,rfl,rfl⟩ ?_ ?_ ?_
  ·rintro i σ H1 hi ⟨x,rfl,rfl⟩
   refine aS.of ?_
   rw[aT (iF aQ hacc)]
   exact aQ
  ·rintro i x σ H1 hx ⟨y,rfl,rfl⟩
   rw[dG] at hx
   obtain⟨n,hn,rfl⟩:=ow.mp hx
   walk_at "st"
   refine⟨_,aQ,?_,_,rfl,?_⟩
   ·rw[ay,ay,lB]
    exact Ie (by walk_at "o")
   ·rw[DH,List.take_add_one,hn,mJ,mJ]
    rfl
  ·rintro σ H1 ⟨x,rfl,rfl⟩
   walk_at "st"
   refine(show ES _ _ _ from⟨by show 5<=sizeLine;decide,fun p hp=>?_⟩)
   have hn1:=iF (aQ (H:=upd (upd H c (.lst (ns.map V.int))) c2 (.lst (ns.map V.int))) (a:=acc)) hp
   have s1:bu H (upd (upd (upd H c (.lst (ns.map V.int))) c2 (.lst (ns.map V.int))) acc (.lst (((ns.take (ns.map V.int).length).map fun n=>(if n<0 then-n else n)%10^60).map V.int))):=(cE hc).trans ((cE hc2).trans (cE hacc))
   refine q p acc _ (s1.trans (cE hp)) (s1.free hp) ⟨_,0,0,st,0,aQ,by rw[aT hn1];exact aQ,?_,?_,by walk_at "o",by walk_at "o",by walk_at "o",h1,h2⟩
   ·intro y hy
    obtain⟨z,_,rfl⟩:=fQ.mp hy
    exact⟨pW _ (by decide),pB _ (by decide)⟩
   ·rw[ay,lB]
    walk_at "o"
theorem HH:cW ["bag","many","found"] ["bag","many"] (aW Cw):=⟨rfl,rfl,rfl,by decide+kernel,rfl,by decide+kernel,by decide+kernel⟩
theorem Wn(F:bW K "_law_draw" "_law_draw" Cw f fd)(eZ:mg "len"=none):
  aY P w K mg base cT 1 f fd ["bag","many"] jr:=by
 refine F.ok HH (fun vs H Q E h=>?_) (fun cdv A outer s H vs Q E hr h=>?_)
 ·obtain⟨b,l,many,rfl,hB,hm,hs,q⟩:=h
  rfl
 obtain⟨b,l,many,rfl,hB,hm,hs,q⟩:=h
 refine⟨_,(@aG _ _ _ _ _ (@dH _ _ _ _ _ _ _ _ (PW.pt (uS (@bZ _ _ _ _ _ _ _ _ iR (@aR _ _ _ _ _ _ _ bq (pv 0) ai (fun _ _=>rfl)) ai (bV _)) (uQ (@bZ _ _ _ _ _ _ _ _ ou (@aR _ _ _ _ _ _ _ bq (pv 0) ai (fun _ _=>rfl)) (@cP _ _ _ _ _ _ _ _ _ KG rfl eZ nD (@aa _ _ _ _ _ (@aR _ _ _ _ _ _ _ bq (pv 0) ai (fun _ _=>rfl)) aj rfl) (by decide) (by decide) (by rfl) (by rfl)) (bV _))))) (@aG _ _ _ _ _ (@m8 _ _ _ _ _ _ (@aR _ _ _ _ _ _ _ bq (@aR _ _ _ _ _ _ _ bq (pv 0) ai (fun _ _=>rfl)) (@aR _ _ _ _ _ _ _ bq (pv 0) ai (fun _ _=>rfl)) (fun _ _=>rfl)) (nF (pv 0) ai set_list) (by rfl) (by rfl) (by rfl)) (@aJ _ _ _ (@m8 _ _ _ _ _ _ (@aU _ _ _ _ _ _ _ _ fN (@aR _ _ _ _ _ _ _ bq (pv 0) ai (fun _ _=>rfl)) ai) (nF (pv 0) ai set_list) (by rfl) (by rfl) (by rfl)))) (@aJ _ _ _ (@dH _ _ _ _ _ _ _ _ (@bZ _ _ _ _ _ _ _ _ iR (@aR _ _ _ _ _ _ _ bq (pv 0) ai (fun _ _=>rfl)) ai (bV _)) (@aG _ _ _ _ _ (@m8 _ _ _ _ _ _ (@aU _ _ _ _ _ _ _ _ fN (@aR _ _ _ _ _ _ _ bq (pv 0) ai (fun _ _=>rfl)) ai) (nF (pv 0) ai set_list) (by rfl) (by rfl) (by rfl)) (@aG _ _ _ _ _ (@m8 _ _ _ _ _ _ (@aU _ _ _ _ _ _ _ _ lR (@aU _ _ _ _ _ _ _ _ fN (@aU _ _ _ _ _ _ _ _ fN (@aU _ _ _ _ _ _ _ _ fN (@aU _ _ _ _ _ _ _ _ su (@aR _ _ _ _ _ _ _ bq (pv 0) ai (fun _ _=>rfl)) ai) (@aU _ _ _ _ _ _ _ _ qt ai (@aR _ _ _ _ _ _ _ bq (pv 0) ai (fun _ _=>rfl)))) (@aU _ _ _ _ _ _ _ _ qt ai (@aR _ _ _ _ _ _ _ bq (pv 0) ai (fun _ _=>rfl)))) ai) ai) (nF (pv 0) ai set_list) (by rfl) (by rfl) (by rfl)) (@aJ _ _ _ (@cL _ _ _ _ (@aU _ _ _ _ _ _ _ _ lR (@aU _ _ _ _ _ _ _ _ v8 (@aR _ _ _ _ _ _ _ bq (pv 0) ai (fun _ _=>rfl)) ai) (pv 1)))))) fX))) (@aG _ _ _ _ _ (@bD _ _ (2) _ _ _ _ HH.nd rfl (Or.inl rfl) (@aU _ _ _ _ _ _ _ _ lR (@aR _ _ _ _ _ _ _ bq (pv 0) ai (fun _ _=>rfl)) (pv 1)) (by rfl) (by first|exact .inl rfl|exact .inr rfl|assumption)) (@aG _ _ _ _ _ (@m8 _ _ _ _ _ _ (@aU _ _ _ _ _ _ _ _ v8 (@aR _ _ _ _ _ _ _ bq (pv 0) ai (fun _ _=>rfl)) (pv 1)) (nF (pv 0) ai set_list) (by rfl) (by rfl) (by rfl)) (@aJ _ _ _ (@cL _ _ _ _ (pv 2)))))),?_⟩
 obtain⟨ns,i,c,st,n,h1,h2,h3,h4,h5,h6,h7,h8,h9⟩:=id hB
 have hlb:=Qj h1 h2
 have fin:∀(H1:Hp) (i' c':Int),H1 b=some (.lst [.ref l, .int i', .int c', .int st, .int n])->aM (Nb b) H H1->0<=i'->0<=c'->c'<10^60->
   ∀(H2:Hp),H2=upd H1 b (.lst [.ref l, .int i', .int (c'/many), .int st, .int n])->Q (.int (c'%many)) H2:=fun H1 i' c' e1 bt g1 g2 g3 H2 e2=>by
  subst e2
  have hd1:0<=c'/many:=Int.ediv_nonneg g2 (by walk_at "o")
  have hd2:c'/many<=c':=Int.ediv_le_self _ g2
  exact q _ _ (pW _ (by walk_at "o")) (pB _ hm) (bt.trans (aM.set rfl)) (cU.put hlb (bt _ _ hlb h2) h3 h4 g1 hd1 (by walk_at "o") h8 h9)
 walk_at "st"
 refine ua (fun c1=>?_) (fun c1=>?_)
 ·have c1:c=0:=of_decide_eq_true c1
  walk_at "st"
  refine ua (fun c2=>?_) (fun c2=>?_)
  ·have c2:i<(List.map V.int ns).length:=of_decide_eq_true c2
   rw[ay] at c2
   have hi:i.toNat<ns.length:=by walk_at "o"
   obtain⟨g1,g2⟩:=h3 _ (nk hi)
   walk_at "st"
   refine R.FD h2 (v:= .int ns[i.toNat]) (rj h5 (by rw[dG,bE hi];rfl)) ?_
   walk_at "st"
   refine fin (upd H b (.lst [.ref l, .int (i+1), .int ns[i.toNat], .int st, .int n])) (i+1) ns[i.toNat] aQ (aM.set rfl) (by walk_at "o") g1 g2 _ ?_
   rw[DH]
   rfl
  ·walk_at "st"
   exact q _ _ (pW _ (by walk_at "o")) (pB _ hm) (aM.set rfl) (cU.put hlb h2 h3 h4 h5 h6 h7 (pW _ (by decide)) (pB _ (by decide)))
 ·have c1:¬c=0:=of_decide_eq_false (uP.mpr c1)
  walk_at "st"
  exact fin H i c h1 (aM.refl _ _) h5 h6 h7 _ rfl
theorem Xv(is:List Int):PyData.eqv (.list (is.map PyData.int)) (.list [])=decide (is=[]):=by
 cases is<;>simp[PyData.eqv,PyData.eqvAll]
theorem Vj(is:List Int):SeqAt.shaped (.list (is.map PyData.int))=true:=by
 have h:PyData.depthAll (is.map PyData.int)=0/\PyData.canLayAll0 (is.map PyData.int)=true:=by
  induction is with
  |nil=>simp[PyData.depthAll,PyData.canLayAll0]
  |cons a r ih=>simp[PyData.depthAll,PyData.depth,PyData.canLayAll0,PyData.canLay0,ih.2,ih.1]
 unfold SeqAt.shaped
 simp[PyData.canLay0,PyData.depth,h.2,h.1]
theorem KA{nb:Addr->Prop}{H:Hp}:∀is:List Int,ah nb H (is.map PyData.int) (is.map V.int)
 |[]=>ah.nil
 |i::is=>ah.cons (.int i) (KA is)
theorem O2{r:Int}(h0:r<=10100)(h:∀d:Int,2<=d->d<102->¬(d*d<=r/\r%d=0)):wG r:=fun d d1 d2 e=>by
 by_cases hd:d<102
 ·exact h d d1 hd ⟨d2,e⟩
 ·have:102*102<=d*d:=EU (by walk_at "o") (by walk_at "o") (by walk_at "o") (by walk_at "o")
  walk_at "o"
theorem Lo:cW ["number","found"] ["number"] (aW yf):=⟨rfl,rfl,rfl,by decide+kernel,rfl,by decide+kernel,by decide+kernel⟩
theorem YB(F:bW K "_law_prime_from" "_law_prime_from" yf f fd)(fk:mg "range"=none):
  aY P w K mg base cT 1 f fd ["number"] Cq:=by
 refine F.ok Lo (fun vs H Q E h=>?_) (fun cdv A outer s H vs Q E hr h=>?_)
 ·obtain⟨n,rfl,hn1,hn2,q⟩:=h
  rfl
 obtain⟨n,rfl,hn1,hn2,q⟩:=h
 refine⟨_,(@aG _ _ _ _ _ (@xw _ _ _ _ _ _ _ _ Ae rfl (@Jp _ _ _ _ _ _ _ rfl fk (@aa _ _ _ _ _ (pv 0) (@aa _ _ _ _ _ (@aU _ _ _ _ _ _ _ _ fN (pv 0) ai) aj rfl) rfl) (by rfl) (by rfl)) (ko (i:=1) Lo.nd rfl (Or.inr rfl)) (@aJ _ _ _ (@dH _ _ _ _ _ _ _ _ (@bZ _ _ _ _ _ _ _ _ (TX hr.units) (pY (lF.of (show mW (aW yf) ["number","found"] _ ["k","found"] [none,some 1]=true by decide+kernel)) (@Jp _ _ _ _ _ _ _ rfl fk (@aa _ _ _ _ _ ai (@aa _ _ _ _ _ ai aj rfl) rfl) (by rfl) (by rfl)) (fun _ _ _ _=>⟨(ko (i:=0) (by show List.Nodup (["k","found"]:List Str);decide+kernel) rfl (Or.inl rfl)),(MT (PW.pt (uS (@bZ _ _ _ _ _ _ _ _ vZ (@aU _ _ _ _ _ _ _ _ qt (pv 0) (pv 0)) (pv 1) (bV _)) (uQ (@bZ _ _ _ _ _ _ _ _ iR (@aU _ _ _ _ _ _ _ _ lR (pv 1) (pv 0)) ai (bV _)))))),(pv 0)⟩)) (@dS _ _ _ _ aj) (bV _)) (@aJ _ _ _ (@cL _ _ _ _ (pv 1))) fX)) (by intro _;rfl)) (@aJ _ _ _ (@cL _ _ _ _ ai))),?_⟩
 walk_at "st"
 refine Nh (fun i σ H1=>bu H H1/\∃(x:Option V),σ=[some (.int n),x]) ⟨bu.refl _,none,rfl⟩ ?_ ?_
 ·rintro i σ H1 hi ⟨s1,x,rfl⟩
  have hi2:(i:Int)<60:=by walk_at "o"
  walk_at "st"
  intro acc hacc
  refine R.La (fun j σ H2=>bu H1 H2/\(∃x:Option V,σ=[x,some (.int (n+i))])/\∃is:List Int,H2 acc=some (.lst (is.map V.int))/\is.length<=j/\(is=[]->∀d:Int,2<=d->d<2+j->¬(d*d<=n+i/\(n+i)%d=0))) ?_ ?_ ?_
  ·exact⟨cE hacc,⟨none,rfl⟩,[],aQ,eU _,fun _ d d1 d2=>by walk_at "o"⟩
  ·rintro j σ H2 hj ⟨s2,⟨x,rfl⟩,is,e2,l2,h2⟩
   have hj2:(j:Int)<100:=by walk_at "o"
   have next:∀d:Int,d<2+((j+1:Nat):Int)->d<2+j\/d=2+j:=fun d h=>by walk_at "o"
   walk_at "st"
   refine ua (fun c1=>?_) (fun c1=>?_)
   ·have c1:(2+(j:Int))*(2+j)<=n+i:=of_decide_eq_true c1
    walk_at "st"
    refine ua (fun c2=>?_) (fun c2=>?_)
    ·have c2:(n+i)%(2+(j:Int))=0:=of_decide_eq_true c2
     walk_at "st"
     refine⟨_,e2,?_,?_,⟨_,rfl⟩,is++[2+(j:Int)],?_,?_,fun e=>?_⟩
     ·rw[ay];exact Ie (by walk_at "o")
     ·exact fun a o h=>by rw[aT (iF h hacc)];exact s2 _ _ h
     ·rw[aQ,mJ];rfl
     ·rw[fu,lV];walk_at "o"
     ·simp at e
    ·have c2:¬(n+i)%(2+(j:Int))=0:=of_decide_eq_false (uP.mpr c2)
     refine⟨s2,⟨_,rfl⟩,is,e2,by walk_at "o",fun e d d1 d2=>?_⟩
     rcases next d d2 with h|h
     ·exact h2 e d d1 h
     ·rw[h];exact fun z=>c2 z.2
   ·have c1:¬(2+(j:Int))*(2+j)<=n+i:=of_decide_eq_false (uP.mpr c1)
    walk_at "st"
    refine⟨s2,⟨_,rfl⟩,is,e2,by walk_at "o",fun e d d1 d2=>?_⟩
    rcases next d d2 with h|h
    ·exact h2 e d d1 h
    ·rw[h];exact fun z=>c1 z.1
  ·rintro σ H2 ⟨s2,⟨x,rfl⟩,is,e2,l2,h2⟩
   walk_at "st"
   refine R.SQ (by decide) fun p H3 s3 f3 e3=>?_
   refine⟨fun _=>False, .list (is.map PyData.int), .list [], .lst id (s3 _ _ e2) (KA is), .lst id e3 ah.nil,Vj is,by decide,?_⟩
   rw[Xv]
   walk_at "st"
   have s:bu H H3:=s1.trans (s2.trans s3)
   refine ua (fun c=>?_) (fun c=>?_)
   ·have c:is=[]:=by simpa using c
    walk_at "st"
    exact q _ _ s (by walk_at "o") (by walk_at "o") (O2 (by walk_at "o") fun d d1 d2=>h2 c d d1 (by walk_at "o"))
   ·walk_at "st"
    exact⟨s,_,rfl⟩
 ·rintro σ H1 ⟨s1,x,rfl⟩
  walk_at "st"
  refine q _ _ s1 (by walk_at "o") (by walk_at "o") fun d d1 d2=>?_
  have:2*2<=d*d:=EU d1 d1 (by walk_at "o") (by walk_at "o")
  walk_at "o"
noncomputable def DC:DF:=fun ds Φ=>ds=[]/\∀p:Int,kP p->p<10^40->∀f,Φ f (.int p)
theorem Yu:jM DC:=by
 intro ds Φ Ψ hm z;revert hm
 walk_at "mo";exact fun q=>fun p h1 h2 f=>z _ _ (q p h1 h2 f)
theorem Wc:∀x∈([2,3,5,7,2,11,101,10007,65537,1000003,998244353,1000000007,2147483647,1000000000039,10^Int.toNat 39+3,10^Int.toNat 40-17,2305843009213693951,618970019642690137449562111,162259276829213363391578010288127,170141183460469231731687303715884105727]:List Int),x∈xq/\x<10^40:=by decide
theorem uq:cW ["bag","some","way"] ["bag"] (aW EK):=⟨rfl,rfl,rfl,by decide+kernel,rfl,by decide+kernel,by decide+kernel⟩
theorem Sj(F:bW K "_law_prime" "_law_prime" EK f fd)(dJ:Callee P w K mg base "_law_draw" 1 ["bag","many"] jr)(OT:Callee P w K mg base "_law_prime_from" 1 ["number"] Cq):
  aY P w K mg base cT 2 f fd ["bag"] (iJ 1 DC):=by
 refine F.ok uq (fun vs H Q E h=>h.1) (fun cdv A outer s H vs Q E hr h=>?_)
 obtain⟨b,l,ws,nb,ds,Φ,rfl,hB,hlive,hnb,hds,aC,hF⟩:=qF h
 obtain⟨rfl,q⟩:=hF
 refine⟨_,(@aG _ _ _ _ _ (@QI _ 1 _ _ _ _ _ _ uq.nd rfl (Or.inl rfl) rfl (Or.inl rfl)) (@aG _ _ _ _ _ (@bD _ _ (1) _ _ _ _ uq.nd rfl (Or.inl rfl) (@aU _ _ _ _ _ _ _ _ tQ (pv 1) (@dS _ _ _ _ (@aa _ _ _ _ _ (@aU _ _ _ _ _ _ _ _ fN (@aU _ _ _ _ _ _ _ _ su ai ai) ai) (@aa _ _ _ _ _ (@aU _ _ _ _ _ _ _ _ uC (@aU _ _ _ _ _ _ _ _ su ai ai) ai) (@aa _ _ _ _ _ ai (@aa _ _ _ _ _ ai aj rfl) rfl) rfl) rfl))) (by rfl) (by first|exact .inl rfl|exact .inr rfl|assumption)) (@aG _ _ _ _ _ (@bD _ _ (1) _ _ _ _ uq.nd rfl (Or.inl rfl) (@aU _ _ _ _ _ _ _ _ tQ (pv 1) (@dS _ _ _ _ (@aa _ _ _ _ _ ai (@aa _ _ _ _ _ ai aj rfl) rfl))) (by rfl) (by first|exact .inl rfl|exact .inr rfl|assumption)) (@aG _ _ _ _ _ (@bD _ _ (2) _ _ _ _ uq.nd rfl (Or.inl rfl) (@bO _ _ _ _ _ _ _ _ _ _ dJ (hr.mono (by decide)) (@aa _ _ _ _ _ (pv 0) (@aa _ _ _ _ _ ai aj rfl) rfl) (by rfl) (by decide) (by rfl) (by rfl)) (by rfl) (by first|exact .inl rfl|exact .inr rfl|assumption)) (@aJ _ _ _ (@cL _ _ _ _ (@I0 _ _ _ _ _ _ _ _ (@bZ _ _ _ _ _ _ _ _ ou (pv 2) ai (bV _)) (@aR _ _ _ _ _ _ (bS K) bq (pv 1) (pv 2) (fun _ _=>rfl)) (@bO _ _ _ _ _ _ _ _ _ _ OT (hr.mono (by decide)) (@aa _ _ _ _ _ (@aU _ _ _ _ _ _ _ _ fN ai (@bO _ _ _ _ _ _ _ _ _ _ dJ (hr.mono (by decide)) (@aa _ _ _ _ _ (pv 0) (@aa _ _ _ _ _ ai aj rfl) rfl) (by rfl) (by decide) (by rfl) (by rfl))) aj rfl) (by rfl) (by decide) (by rfl) (by rfl))))))))),?_⟩
 refine Sv.rV hB hlive hnb hds aC (ρ:=[.ao, .no, .no]) rfl ?_
 clear aC hds
 walk_at "dt"
 intro way w1 w2
 by_cases c:way<20
 ·walk_at "dt"
  obtain⟨m,em,hm1,hm2⟩:=pick (L:=[2,3,5,7,2,11,101,10007,65537,1000003,998244353,1000000007,2147483647,1000000000039,10^Int.toNat 39+3,10^Int.toNat 40-17,2305843009213693951,618970019642690137449562111,162259276829213363391578010288127,170141183460469231731687303715884105727]) (k:=way) w1 (by show _<(20:Int);walk_at "o") _ Wc
  refine⟨_,em,?_⟩
  exact q m (PV m hm1) hm2 _
 ·walk_at "dt"
  intro r r1 r2
  walk_at "dt"
  exact fun r' h1 h2=>q r' h1 h2 _
noncomputable def Dc:DF:=fun ds Φ=>∃p:Int,ds=[.int p]/\2<=p/\p<10^40/\∀x:Int,0<=x->x<p->Φ true (.int x)
theorem MX:jM Dc:=by
 intro ds Φ Ψ hm z;revert hm
 walk_at "mo";exact fun q=>fun x a b=>z _ _ (q x a b)
theorem T8:cW ["bag","p"] ["bag","p"] (aW B9):=⟨rfl,rfl,rfl,by decide+kernel,rfl,by decide+kernel,by decide+kernel⟩
theorem YU(F:bW K "_law_letter" "_law_letter" B9 f fd)(dJ:Callee P w K mg base "_law_draw" 1 ["bag","many"] jr):
  aY P w K mg base cT 2 f fd ["bag","p"] (iJ 2 Dc):=by
 refine F.ok T8 (fun vs H Q E h=>h.1) (fun cdv A outer s H vs Q E hr h=>?_)
 obtain⟨b,l,ws,nb,ds,Φ,rfl,hB,hlive,hnb,hds,aC,hF⟩:=qF h
 obtain⟨p,rfl,p2,kY,q⟩:=hF
 refine⟨_,(@aJ _ _ _ (@cL _ _ _ _ (@aU _ _ _ _ _ _ _ _ lR (@aU _ _ _ _ _ _ _ _ qt (@bO _ _ _ _ _ _ _ _ _ _ dJ (hr.mono (by decide)) (@aa _ _ _ _ _ (pv 0) (@aa _ _ _ _ _ (pv 1) aj rfl) rfl) (by rfl) (by decide) (by rfl) (by rfl)) (@aU _ _ _ _ _ _ _ _ fN (@aU _ _ _ _ _ _ _ _ v8 (pv 1) ai) ai)) (pv 1)))),?_⟩
 refine Sv.rV hB hlive hnb hds aC (ρ:=[.ao, .d false _]) rfl ?_
 clear aC hds
 walk_at "dt"
 intro r r1 r2
 have h1:0<=r*(p/3+1):=Int.mul_nonneg r1 (by walk_at "o")
 have h2:r*(p/3+1)<=10^40*10^40:=EU (by walk_at "o") (by walk_at "o") (by walk_at "o") (by walk_at "o")
 walk_at "dt"
 exact q _ (pW _ (by walk_at "o")) (pB _ (by walk_at "o"))
noncomputable def DL:DF:=fun ds Φ=>∃p:Int,ds=[.int p]/\kP p/\p<10^40/\∀x:Int,0<x->x<p->Φ true (.int x)
theorem SE:jM DL:=by
 intro ds Φ Ψ hm z;revert hm
 walk_at "mo";exact fun q=>fun x a b=>z _ _ (q x a b)
theorem VF{p a b:Int}(hp:kP p)(h:p∣a*b):p∣a\/p∣b:=by
 by_cases ha:p∣a
 ·exact .inl ha
 ·right
  have hg:Int.gcd p a=1:=by
   have d1:(Int.gcd p a:Int)∣p:=Int.gcd_dvd_left ..
   have d2:(Int.gcd p a:Int)∣a:=Int.gcd_dvd_right ..
   have h0:0<(Int.gcd p a:Int):=by
    have:Int.gcd p a≠0:=fun z=>by have:=(Int.gcd_eq_zero_iff.mp z).1;have:=hp.1;walk_at "o"
    walk_at "o"
   rcases hp.2 _ h0 d1 with e|e
   ·exact_mod_cast e
   ·rw[e] at d2;exact absurd d2 ha
  have h':p.natAbs∣a.natAbs*b.natAbs:=by rw[<-Int.natAbs_mul];exact Ml.mpr h
  have c:Nat.Coprime p.natAbs a.natAbs:=hg
  exact Ml.mp (c.dvd_of_dvd_mul_left h')
theorem OD:cW ["bag","p"] ["bag","p"] (aW AB):=⟨rfl,rfl,rfl,by decide+kernel,rfl,by decide+kernel,by decide+kernel⟩
theorem O9(F:bW K "_law_factor" "_law_factor" AB f fd)(dJ:Callee P w K mg base "_law_draw" 1 ["bag","many"] jr):
  aY P w K mg base cT 2 f fd ["bag","p"] (iJ 2 DL):=by
 refine F.ok OD (fun vs H Q E h=>h.1) (fun cdv A outer s H vs Q E hr h=>?_)
 obtain⟨b,l,ws,nb,ds,Φ,rfl,hB,hlive,hnb,hds,aC,hF⟩:=qF h
 obtain⟨p,rfl,hp,kY,q⟩:=hF
 refine⟨_,(@aJ _ _ _ (@cL _ _ _ _ (@aU _ _ _ _ _ _ _ _ lR (@aU _ _ _ _ _ _ _ _ qt (@aU _ _ _ _ _ _ _ _ fN ai (@bO _ _ _ _ _ _ _ _ _ _ dJ (hr.mono (by decide)) (@aa _ _ _ _ _ (pv 0) (@aa _ _ _ _ _ (@aU _ _ _ _ _ _ _ _ uC (pv 1) ai) aj rfl) rfl) (by rfl) (by decide) (by rfl) (by rfl))) (@aU _ _ _ _ _ _ _ _ fN (@aU _ _ _ _ _ _ _ _ v8 (pv 1) ai) ai)) (pv 1)))),?_⟩
 refine Sv.rV hB hlive hnb hds aC (ρ:=[.ao, .d false _]) rfl ?_
 clear aC hds
 have p2:=hp.1
 walk_at "dt"
 intro r r1 r2
 walk_at "dt"
 refine q _ ?_ (pB _ (by walk_at "o"))
 have h0:=pW ((1+r)*(p/3+1)) (show p≠0 by walk_at "o")
 have hne:(1+r)*(p/3+1)%p≠0:=fun e=>by
  rcases VF hp (Int.dvd_of_emod_eq_zero e) with h|h
  ·have:=Int.le_of_dvd (by walk_at "o") h;walk_at "o"
  ·have:=Int.le_of_dvd (by walk_at "o") h;walk_at "o"
 walk_at "o"
noncomputable def Ef:DF:=fun ds Φ=>∃n wide:Int,ds=[.int n, .int wide]/\1<=n/\n<=420/\1<=wide/\wide<=420/\∀rs:List Int,rs≠[]->rs.length<=420->rs.Pairwise (· < ·)->(∀x∈rs,0<=x/\x<n)->Φ true (.list (rs.map .int))
theorem X3:jM Ef:=by
 intro ds Φ Ψ hm z;revert hm
 walk_at "mo";exact fun q=>fun rs a b c d=>z _ _ (q rs a b c d)
theorem Xw:cW ["bag","n","wide"] ["bag","n","wide"] (aW xW):=⟨rfl,rfl,rfl,by decide+kernel,rfl,by decide+kernel,by decide+kernel⟩
theorem WU(F:bW K "_law_places" "_law_places" xW f fd)(dJ:Callee P w K mg base "_law_draw" 1 ["bag","many"] jr)(p8:mg "sorted"=none)(fM:mg "list"=none)(El:mg "set"=none)(fk:mg "range"=none):
  aY P w K mg base cT 2 f fd ["bag","n","wide"] (iJ 3 Ef):=by
 refine F.ok Xw (fun vs H Q E h=>h.1) (fun cdv A outer s H vs Q E hr h=>?_)
 obtain⟨b,l,ws,nb,ds,Φ,rfl,hB,hlive,hnb,hds,aC,hF⟩:=qF h
 obtain⟨n,wide,rfl,n0,n1,w0,w1,q⟩:=hF
 refine⟨_,(@aG _ _ _ _ _ (@dH _ _ _ _ _ _ _ _ (PW.pt (uS (@bZ _ _ _ _ _ _ _ _ vZ (pv 1) ai (bV _)) (uQ (@bZ _ _ _ _ _ _ _ _ iR (@bO _ _ _ _ _ _ _ _ _ _ dJ (hr.mono (by decide)) (@aa _ _ _ _ _ (pv 0) (@aa _ _ _ _ _ ai aj rfl) rfl) (by rfl) (by decide) (by rfl) (by rfl)) ai (bV _))))) (@aJ _ _ _ (@cL _ _ _ _ (@p5 _ _ _ _ _ _ _ _ _ (Th rfl) rfl fM nE (@aa _ _ _ _ _ (@p5 _ _ _ _ _ _ _ _ _ XZ rfl fk PyProof.Rows.boot_range (@aa _ _ _ _ _ (pv 1) aj rfl) (by decide) (by decide) (by rfl) (by rfl)) aj rfl) (by decide) (by decide) (by rfl) (by rfl)))) fX) (@aJ _ _ _ (@cL _ _ _ _ (@cP _ _ _ _ _ _ _ _ (w9 P w) (VT rfl) rfl p8 NQ (@aa _ _ _ _ _ (@p5 _ _ _ _ _ _ _ _ (xU P w K) (Sb rfl) rfl El PyProof.Rows.boot_set (@aa _ _ _ _ _ (pY (lF.of (show mW (aW xW) ["bag","n","wide"] _ ["k","bag","n"] [none,some 0,some 1]=true by decide+kernel)) (@vS _ _ _ _ _ _ rfl fk (@aa _ _ _ _ _ (@aU _ _ _ _ _ _ _ _ fN ai (@bO _ _ _ _ _ _ _ _ _ _ dJ (hr.mono (by decide)) (@aa _ _ _ _ _ (pv 0) (@aa _ _ _ _ _ (pv 2) aj rfl) rfl) (by rfl) (by decide) (by rfl) (by rfl))) aj rfl) (by rfl)) (fun _ _ _ _=>⟨(ko (i:=0) (by show List.Nodup (["k","bag","n"]:List Str);decide+kernel) rfl (Or.inl rfl)),xQ,(@bO _ _ _ _ _ _ _ _ _ _ dJ (hr.mono (by decide)) (@aa _ _ _ _ _ (pv 1) (@aa _ _ _ _ _ (pv 2) aj rfl) rfl) (by rfl) (by decide) (by rfl) (by rfl))⟩)) aj rfl) (by decide) (by decide) (by rfl) (by rfl)) aj rfl) (by decide) (by decide) (by rfl) (by rfl))))),?_⟩
 refine Sv.rV hB hlive hnb hds aC (ρ:=[.ao, .d false _, .d false _]) rfl ?_
 clear aC hds
 have main:Ev {B:=some (b,l),H0:=H,A:=nb} [Sl.ao,Sl.d false (PyData.int n),Sl.d false (PyData.int wide)]
          (eY (w9 P w)
           (aL
            (eY (xU P w K)
             (aL
              (rD
               (vH
                (aL
                 (cG (fL fun i j => V.int (i + j)) (tC (V.int 1))
                  (fq jr [] E0 (aL (bf 0) (aL (bf 2) aX))))
                 aX))
               (gC 0) rF (fq jr [] E0 (aL (bf 1) (aL (bf 2) aX)))
               [none,some 0,some 1])
              aX))
            aX)) Φ:=by
  refine aI.ev (aI.Qx (aI.ev (aI.o8 (by decide) rfl ?_)))
  walk_at "dt"
  intro m0 m1 m2
  walk_at "dt"
  refine lu.ints (fun x=>0<=x/\x<n) ?_ fun os uK hos=>⟨os,rfl,by walk_at "o",fun rs hrs hmem=>?_⟩
  ·rintro i d ⟨hi,rfl⟩
   walk_at "dt"
   refine⟨by walk_at "wk",?_⟩
   walk_at "dt"
   exact fun r r1 r2=>⟨r,rfl,r1,r2⟩
  have hrl:0<rs.length:=by
   have:0<os.length:=by walk_at "o"
   obtain⟨y,hy⟩:=List.exists_mem_of_length_pos this
   exact List.length_pos_of_mem ((hmem y).mpr hy)
  have ZP:rs.length<=os.length:=MM (hrs.imp fun h=>by walk_at "o") fun k hk=>(hmem k).mp hk
  exact q rs (fun z=>by rw[z] at hrl;simp at hrl) (by walk_at "o") hrs fun x hx=>hos x ((hmem x).mp hx)
 walk_at "dt"
 by_cases c:n<=20
 ·rw[if_pos (decide_eq_true c)]
  walk_at "dt"
  intro r r1 r2
  by_cases c2:r=15
  ·walk_at "dt"
   refine aI.ev (aI.OB ?_)
   walk_at "dt"
   refine q _ ?_ ?_ ?_ ?_
   ·intro z
    have:=congrArg List.length z
    simp at this
    walk_at "o"
   ·simp;walk_at "o"
   ·rw[List.pairwise_map]
    exact Gn.imp fun h=>by walk_at "o"
   ·intro x hx
    obtain⟨i,hi,rfl⟩:=fQ.mp hx
    have:=yZ.mp hi
    walk_at "o"
  ·walk_at "dt"
   exact main
 ·rw[if_neg (by simpa using c)]
  walk_at "dt"
  exact main
noncomputable def Ad:Nat->PyData->Prop
 |0,_=>False
 |n+1,d=>gH d=true\/∃ds,(d= .list ds\/d= .tuple ds)/\ds.length<=10000/\∀e∈ds,Ad n e
theorem TQ{n:Nat}(r:List Int)(h:r.length<=10000):Ad (n+2) (mP r):= .inr ⟨_, .inl rfl,by rw[ay];exact h,fun e he=>by
 obtain⟨o,_,rfl⟩:=fQ.mp he
 exact .inl rfl⟩
theorem Ms{k:Nat}(d:PyData)(l:List Str)(hd:gH d=true)(h:l.length<=10000):Ad (k+3) (pA d l):= .inr ⟨_, .inr rfl,(by decide:2<=10000),fun e he=>by
 rcases aA.mp he with rfl|he
 ·exact .inl hd
 rcases aA.mp he with rfl|he
 ·exact .inr ⟨_, .inl rfl,by rw[ay];exact h,fun e he=>by obtain⟨y,_,rfl⟩:=fQ.mp he;exact .inl rfl⟩
 ·cases he⟩
noncomputable def kQ(n:Nat):DF:=fun ds Φ=>∃d,ds=[d,d]/\Ad n d/\Φ true (.bool true)
theorem tE(n:Nat):jM (kQ n):=by
 intro ds Φ Ψ hm z;revert hm
 walk_at "mo";exact fun q=>z _ _ q
theorem Vx:∀vs H Q E,¬ic 2 (kQ 0) vs H Q E:=fun vs H Q E ⟨_,_,_,_,_,d,_,h,_⟩=>h
theorem Ub:cW ["found","due"] ["found","due"] (aW zN):=⟨rfl,rfl,rfl,by decide+kernel,rfl,by decide+kernel,by decide+kernel⟩
theorem yo(n:Nat)(F:bW K "_law_alike" "_law_alike" zN f fd)(oX:Callee P w K mg base "_law_alike" (n) ["found","due"] (ic 2 (kQ n)))(dU:mg "isinstance"=none)(fM:mg "list"=none)(oK:mg "tuple"=none)(qd:mg "all"=none)(eZ:mg "len"=none)(o9:mg "bool"=none)(oj:mg "int"=none)(o6:mg "str"=none)(fk:mg "range"=none):
  aY P w K mg base cT (n+1) f fd ["found","due"] (ic 2 (kQ (n+1))):=by
 refine F.ok Ub (fun vs H Q E h=>h.1) (fun cdv A outer s H vs Q E hr h=>?_)
 obtain⟨nb,ds,Φ,hlive,hds,aC,hF⟩:=AN h
 obtain⟨d,rfl,hok,q⟩:=hF
 refine⟨_,(@aG _ _ _ _ _ (@dH _ _ _ _ _ _ _ _ (@pI _ (K) _ _ rfl (@cP _ _ _ _ _ _ _ _ (yM) HF rfl dU gk (@aa _ _ _ _ _ (pv 1) (@aa _ _ _ _ _ (@ir _ _ _ _ _ (@aa _ _ _ _ _ (jd (v:= .ty "list") rfl fM nE rfl) (@aa _ _ _ _ _ (jd (v:= .ty "tuple") rfl oK L6 rfl) aj rfl) rfl)) aj rfl) rfl) (by decide) (by decide) (by rfl) (by rfl)) (fun _=>rfl)) (@aG _ _ _ _ _ (@dH _ _ _ _ _ _ _ _ (PW.pt (oQ (@vz _ _ _ _ (@pI _ (K) _ _ rfl (@cP _ _ _ _ _ _ _ _ (yM) HF rfl dU gk (@aa _ _ _ _ _ (pv 0) (@aa _ _ _ _ _ (@ir _ _ _ _ _ (@aa _ _ _ _ _ (jd (v:= .ty "list") rfl fM nE rfl) (@aa _ _ _ _ _ (jd (v:= .ty "tuple") rfl oK L6 rfl) aj rfl) rfl)) aj rfl) rfl) (by decide) (by decide) (by rfl) (by rfl)) (fun _=>rfl))) (ur (@bZ _ _ _ _ _ _ _ _ wH (@cP _ _ _ _ _ _ _ _ (lz K) m9 rfl dU gk (@aa _ _ _ _ _ (pv 0) (@aa _ _ _ _ _ (jd (v:= .ty "list") rfl fM nE rfl) aj rfl) rfl) (by decide) (by decide) (by rfl) (by rfl)) (@cP _ _ _ _ _ _ _ _ (lz K) m9 rfl dU gk (@aa _ _ _ _ _ (pv 1) (@aa _ _ _ _ _ (jd (v:= .ty "list") rfl fM nE rfl) aj rfl) rfl) (by decide) (by decide) (by rfl) (by rfl)) (bV _))))) (@aJ _ _ _ (@cL _ _ _ _ rJ)) fX) (@aG _ _ _ _ _ (@dH _ _ _ _ _ _ _ _ (@bZ _ _ _ _ _ _ _ _ wH (@cP _ _ _ _ _ _ _ _ (kH K) oh rfl eZ nD (@aa _ _ _ _ _ (pv 0) aj rfl) (by decide) (by decide) (by rfl) (by rfl)) (@cP _ _ _ _ _ _ _ _ (kH K) oh rfl eZ nD (@aa _ _ _ _ _ (pv 1) aj rfl) (by decide) (by decide) (by rfl) (by rfl)) (bV _)) (@aJ _ _ _ (@cL _ _ _ _ rJ)) fX) (@aJ _ _ _ (@cL _ _ _ _ (@cP _ _ _ _ _ _ _ _ (EY K) (Y7 rfl) rfl qd PyProof.Rows.boot_all (@aa _ _ _ _ _ (pY (lF.of (show mW (aW zN) ["found","due"] _ ["k","found","due"] [none,some 0,some 1]=true by decide+kernel)) (@vS _ _ _ _ _ _ rfl fk (@aa _ _ _ _ _ (@cP _ _ _ _ _ _ _ _ (kH K) oh rfl eZ nD (@aa _ _ _ _ _ (pv 1) aj rfl) (by decide) (by decide) (by rfl) (by rfl)) aj rfl) (by rfl)) (fun _ _ _ _=>⟨(ko (i:=0) (by show List.Nodup (["k","found","due"]:List Str);decide+kernel) rfl (Or.inl rfl)),xQ,(@bO _ _ _ _ _ _ _ _ _ _ oX (hr.mono (aE _)) (@aa _ _ _ _ _ (@aR _ _ _ _ _ _ (xY K) G6 (pv 1) (pv 0) (fun _ _=>rfl)) (@aa _ _ _ _ _ (@aR _ _ _ _ _ _ (xY K) G6 (pv 2) (pv 0) (fun _ _=>rfl)) aj rfl) rfl) (by rfl) (by decide) (by rfl) (by rfl))⟩)) aj rfl) (by decide) (by decide) (by rfl) (by rfl)))))) fX) (@aG _ _ _ _ _ (@dH _ _ _ _ _ _ _ _ (PW.pt (oQ (@bZ _ _ _ _ _ _ _ _ wH (@cP _ _ _ _ _ _ _ _ (lz K) m9 rfl dU gk (@aa _ _ _ _ _ (pv 0) (@aa _ _ _ _ _ (jd (v:= .ty "bool") rfl o9 GY rfl) aj rfl) rfl) (by decide) (by decide) (by rfl) (by rfl)) (@cP _ _ _ _ _ _ _ _ (lz K) m9 rfl dU gk (@aa _ _ _ _ _ (pv 1) (@aa _ _ _ _ _ (jd (v:= .ty "bool") rfl o9 GY rfl) aj rfl) rfl) (by decide) (by decide) (by rfl) (by rfl)) (bV _)) (ur (@bZ _ _ _ _ _ _ _ _ wH (@cP _ _ _ _ _ _ _ _ (lz K) m9 rfl dU gk (@aa _ _ _ _ _ (pv 0) (@aa _ _ _ _ _ (jd (v:= .ty "int") rfl oj JM rfl) aj rfl) rfl) (by decide) (by decide) (by rfl) (by rfl)) (@cP _ _ _ _ _ _ _ _ (lz K) m9 rfl dU gk (@aa _ _ _ _ _ (pv 1) (@aa _ _ _ _ _ (jd (v:= .ty "int") rfl oj JM rfl) aj rfl) rfl) (by decide) (by decide) (by rfl) (by rfl)) (bV _))))) (@aJ _ _ _ (@cL _ _ _ _ rJ)) fX) (@aJ _ _ _ (@cL _ _ _ _ (@Nn _ _ _ _ _ _ _ (@u6 _ _ _ _ _ _ _ _ iR (@cP _ _ _ _ _ _ _ _ (lz K) m9 rfl dU gk (@aa _ _ _ _ _ (pv 0) (@aa _ _ _ _ _ (jd (v:= .ty "str") rfl o6 Jq rfl) aj rfl) rfl) (by decide) (by decide) (by rfl) (by rfl)) (@cP _ _ _ _ _ _ _ _ (lz K) m9 rfl dU gk (@aa _ _ _ _ _ (pv 1) (@aa _ _ _ _ _ (jd (v:= .ty "str") rfl o6 Jq rfl) aj rfl) rfl) (by decide) (by decide) (by rfl) (by rfl)) (bV _)) (@ID _ _ _ _ _ (@u6 _ _ _ _ _ _ _ _ iR (pv 0) (pv 1) (bV _)))))))),?_⟩
 refine Sv.yF hlive hds aC (ρ:=[.d false _, .d false _]) rfl ?_
 clear aC hds
 walk_at "dt"
 rcases hok with hs|⟨ds,hd,hl,he⟩
 ·have h1:(ja d "list" ||ja d "tuple")=false:=by cases d<;>first|rfl|cases hs
  rw[h1]
  walk_at "dt"
  rw[beq_self_eq_true]
  walk_at "dt"
  rw[beq_self_eq_true]
  walk_at "dt"
  rw[beq_self_eq_true]
  walk_at "dt"
  exact⟨true, .self hs,q⟩
 rcases hd with rfl|rfl
 ·rw[(Le ds).1,(Le ds).2,DK]
  walk_at "dt"
  refine aI.ev (aI.o8 (by decide) rfl ?_)
  walk_at "dt"
  refine⟨true,fun i es=>es=List.replicate i (.bool true),rfl,?_,?_⟩
  ·rintro i d' es ⟨hi,rfl⟩ hl' rfl
   have hi':i<ds.length:=by walk_at "o"
   have hat:cB ds (0+(i:Int))=some ds[i]:=rj (by walk_at "o") (by rw[show(0+(i:Int)).toNat=i by walk_at "o"];exact bE hi')
   walk_at "dt"
   refine⟨by walk_at "wk",?_⟩
   walk_at "dt"
   refine Ev.nH (tE n) ?_
   walk_at "dt"
   refine⟨rfl,ds[i],rfl,he _ (nk hi'),fun _=>rfl,?_⟩
   show _=List.replicate (i+1) _
   rw[MW]
  ·rintro es hl' rfl
   refine⟨List.replicate ds.length true,by simp,?_⟩
   rw[show(List.replicate ds.length true).all id=true by simp]
   exact q
 ·rw[(Io ds).1,(Io ds).2,nZ]
  walk_at "dt"
  refine aI.ev (aI.o8 (by decide) rfl ?_)
  walk_at "dt"
  refine⟨true,fun i es=>es=List.replicate i (.bool true),rfl,?_,?_⟩
  ·rintro i d' es ⟨hi,rfl⟩ hl' rfl
   have hi':i<ds.length:=by walk_at "o"
   have hat:cB ds (0+(i:Int))=some ds[i]:=rj (by walk_at "o") (by rw[show(0+(i:Int)).toNat=i by walk_at "o"];exact bE hi')
   walk_at "dt"
   refine⟨by walk_at "wk",?_⟩
   walk_at "dt"
   refine Ev.nH (tE n) ?_
   walk_at "dt"
   refine⟨rfl,ds[i],rfl,he _ (nk hi'),fun _=>rfl,?_⟩
   show _=List.replicate (i+1) _
   rw[MW]
  ·rintro es hl' rfl
   refine⟨List.replicate ds.length true,by simp,?_⟩
   rw[show(List.replicate ds.length true).all id=true by simp]
   exact q
noncomputable def nX:List Str:=["NoPlace","NoLetter","NoCheck","NoDeed","NoNet","NoText","NotFormed","odd"]
noncomputable def zg(kb:List Bool):List PyData:=((List.range 8).filter fun k=>kb.getD k false).map fun k=>PyData.str (nX.getD k Str.empty)
theorem vL{G:Gx}{K:PySem.W.Frag}{kb:List Bool}{Φ:Pd}(hl:kb.length=8)(q:Φ true (.list (zg kb))):lu G [.no, .d false (.list (kb.map .bool)), .d false (.list (nX.map .str))] (8:Int).toNat (fun i d=>i<(8:Int).toNat/\d= .int (0+(i:Int))) true (gC 0) (EF K (cG (bS K) (bf 1) (bf 0))) (cG (bS K) (bf 2) (bf 0)) fun f ds=>Φ f (.list ds):=by
  refine⟨false,fun i ds=>ds=((List.range i).filter fun k=>kb.getD k false).map fun k=>PyData.str (nX.getD k Str.empty),rfl,?_,?_⟩
  · rintro i e ds ⟨hi,rfl⟩ hl' rfl
    have Zu:i<8:=hi
    have e1:cB (kb.map PyData.bool) (0+(i:Int))=some (.bool (kb.getD i false)):=rj (by walk_at "o") (by
      rw[show(0+(i:Int)).toNat=i by walk_at "o",dG,bE (by walk_at "o")]
      rw[pe,bE (by walk_at "o")];rfl)
    have e2:cB (nX.map PyData.str) (0+(i:Int))=some (.str (nX.getD i Str.empty)):=by
      rcases(by walk_at "o":i=0\/i=1\/i=2\/i=3\/i=4\/i=5\/i=6\/i=7) with rfl|rfl|rfl|rfl|rfl|rfl|rfl|rfl<;>rfl
    have hfs:=Vl (fun k=>kb.getD k false) i
    refine Gv.mR ?_
    refine⟨by walk_at "wk",?_⟩
    show Tv _ [.d true (.int (0+(i:Int))), .d false (.list (kb.map .bool)), .d false (.list (nX.map .str))] _ _
    walk_at "dt"
    cases hb:kb.getD i false with
    | true =>
      rw[hb,if_pos rfl] at hfs
      rw[if_pos rfl]
      show Ev _ [.d true (.int (0+(i:Int))), .d false (.list (kb.map .bool)), .d false (.list (nX.map .str))] _ _
      walk_at "dt"
      show _=List.map _ (List.filter _ (List.range (i+1)))
      rw[hfs,mJ]
      rfl
    | false =>
      rw[hb,if_neg (by decide),gm] at hfs
      rw[if_neg (by decide)]
      show _=List.map _ (List.filter _ (List.range (i+1)))
      rw[hfs]
  rintro ds hl' rfl
  have e:fF (zg kb)=true:=by unfold fF zg;rw[rC];intro y hy;obtain⟨n,_,rfl⟩:=fQ.mp hy;rfl
  show Φ (false||fF (zg kb)) _
  rw[e]
  exact q
noncomputable def A9(CP CL CC CD:Addr):RF:=fun c ds Φ=>ds=[]/\∃ea,(c=nW ea CP/\Φ true (.list [.str "NoPlace"]))\/(c=nW ea CL/\Φ true (.list [.str "NoLetter"]))\/(c=nW ea CC/\Φ true (.list [.str "NoCheck"]))\/(c=nW ea CD/\Φ true (.list [.str "NoDeed"]))
theorem Qg{CP CL CC CD:Addr}:qJ (A9 CP CL CC CD):=fun c ds Φ Ψ ⟨e,ea,q⟩ z=>⟨e,ea,q.imp (fun q=>⟨q.1,z _ _ q.2⟩) fun q=>q.imp (fun q=>⟨q.1,z _ _ q.2⟩) fun q=>q.imp (fun q=>⟨q.1,z _ _ q.2⟩) fun q=>⟨q.1,z _ _ q.2⟩⟩
theorem sU:cW ["caught","kinds","names"] ["caught"] (aW wF):=⟨rfl,rfl,rfl,by decide+kernel,rfl,by decide+kernel,by decide+kernel⟩
theorem R7(F:bW K "_law_kinds" "_law_kinds" wF f fd){aN:Addr}{aK:Addr}{aH:Addr}{aP:Addr}{aO:Addr}{jg:Addr}{iZ:Addr}{iY:Addr}(fR:XI K aN [])(fP:mg "NetError"=some (.ref aN))(eV:XI K aK [.ref aN])(iU:mg "NoPlace"=some (.ref aK))(dY:XI K aH [.ref aN])(ig:mg "NoLetter"=some (.ref aH))(fE:XI K aP [.ref aN])(jZ:mg "NoCheck"=some (.ref aP))(fK:XI K aO [.ref aN])(jG:mg "NoDeed"=some (.ref aO))(D8:mg "NoNet"=some (.ref jg))(ML:XI K iZ [.ref aN])(DT:mg "NoText"=some (.ref iZ))(MG:XI K iY [.ref aN])(Ez:mg "NotFormed"=some (.ref iY))(rL:PySem.W.kitOne K (.ref aK) (.ref aK)=some true)(rR:PySem.W.kitOne K (.ref aK) (.ref aH)=some false)(rM:PySem.W.kitOne K (.ref aK) (.ref aP)=some false)(qN:PySem.W.kitOne K (.ref aK) (.ref aO)=some false)(rm:PySem.W.kitOne K (.ref aK) (.ref jg)=some false)(sF:PySem.W.kitOne K (.ref aK) (.ref iZ)=some false)(qq:PySem.W.kitOne K (.ref aK) (.ref iY)=some false)(sI:PySem.W.kitOne K (.ref aK) (.type "ValueError")=some true)(sq:PySem.W.kitOne K (.ref aH) (.ref aK)=some false)(sA:PySem.W.kitOne K (.ref aH) (.ref aH)=some true)(qY:PySem.W.kitOne K (.ref aH) (.ref aP)=some false)(qQ:PySem.W.kitOne K (.ref aH) (.ref aO)=some false)(qh:PySem.W.kitOne K (.ref aH) (.ref jg)=some false)(rT:PySem.W.kitOne K (.ref aH) (.ref iZ)=some false)(rH:PySem.W.kitOne K (.ref aH) (.ref iY)=some false)(rX:PySem.W.kitOne K (.ref aH) (.type "ValueError")=some true)(rN:PySem.W.kitOne K (.ref aP) (.ref aK)=some false)(sE:PySem.W.kitOne K (.ref aP) (.ref aH)=some false)(p6:PySem.W.kitOne K (.ref aP) (.ref aP)=some true)(qW:PySem.W.kitOne K (.ref aP) (.ref aO)=some false)(sH:PySem.W.kitOne K (.ref aP) (.ref jg)=some false)(sN:PySem.W.kitOne K (.ref aP) (.ref iZ)=some false)(sG:PySem.W.kitOne K (.ref aP) (.ref iY)=some false)(se:PySem.W.kitOne K (.ref aP) (.type "ValueError")=some true)(rY:PySem.W.kitOne K (.ref aO) (.ref aK)=some false)(qw:PySem.W.kitOne K (.ref aO) (.ref aH)=some false)(qP:PySem.W.kitOne K (.ref aO) (.ref aP)=some false)(rZ:PySem.W.kitOne K (.ref aO) (.ref aO)=some true)(sL:PySem.W.kitOne K (.ref aO) (.ref jg)=some false)(qD:PySem.W.kitOne K (.ref aO) (.ref iZ)=some false)(rE:PySem.W.kitOne K (.ref aO) (.ref iY)=some false)(qu:PySem.W.kitOne K (.ref aO) (.type "ValueError")=some true)(dU:mg "isinstance"=none)(fk:mg "range"=none)(Bd:mg "ValueError"=none):
  aY P w K mg base cT 1 f fd ["caught"] (kG 1 (A9 aK aH aP aO)):=by
 refine F.ok sU (fun vs H Q E h=>h.1) (fun cdv A outer s H vs Q E hr h=>?_)
 obtain⟨nb,c,ws,ds,Φ,rfl,hlive,eN,gJ,hds,aC,hF⟩:=IF h
 obtain⟨rfl,ea,q⟩:=hF
 refine⟨_,(@aG _ _ _ _ _ (@bD _ _ (1) _ _ _ _ sU.nd rfl (Or.inr rfl) (@dS _ _ _ _ (@aa _ _ _ _ _ (@cP _ _ _ _ _ _ _ _ (lg K) nJ rfl dU gk (@aa _ _ _ _ _ (pv 0) (@aa _ _ _ _ _ (o4 (v:= .ref aK) rfl iU rfl) aj rfl) rfl) (by decide) (by decide) (by rfl) (by rfl)) (@aa _ _ _ _ _ (@cP _ _ _ _ _ _ _ _ (lg K) nJ rfl dU gk (@aa _ _ _ _ _ (pv 0) (@aa _ _ _ _ _ (o4 (v:= .ref aH) rfl ig rfl) aj rfl) rfl) (by decide) (by decide) (by rfl) (by rfl)) (@aa _ _ _ _ _ (@cP _ _ _ _ _ _ _ _ (lg K) nJ rfl dU gk (@aa _ _ _ _ _ (pv 0) (@aa _ _ _ _ _ (o4 (v:= .ref aP) rfl jZ rfl) aj rfl) rfl) (by decide) (by decide) (by rfl) (by rfl)) aj rfl) rfl) rfl)) (by rfl) (by first|exact .inl rfl|exact .inr rfl|assumption)) (@aG _ _ _ _ _ (@bD _ _ (1) _ _ _ _ sU.nd rfl (Or.inr rfl) (@aU _ _ _ _ _ _ _ _ tQ (pv 1) (@dS _ _ _ _ (@aa _ _ _ _ _ (@cP _ _ _ _ _ _ _ _ (lg K) nJ rfl dU gk (@aa _ _ _ _ _ (pv 0) (@aa _ _ _ _ _ (o4 (v:= .ref aO) rfl jG rfl) aj rfl) rfl) (by decide) (by decide) (by rfl) (by rfl)) (@aa _ _ _ _ _ (@cP _ _ _ _ _ _ _ _ (lg K) nJ rfl dU gk (@aa _ _ _ _ _ (pv 0) (@aa _ _ _ _ _ (o4 (v:= .ref jg) rfl D8 rfl) aj rfl) rfl) (by decide) (by decide) (by rfl) (by rfl)) (@aa _ _ _ _ _ (@cP _ _ _ _ _ _ _ _ (lg K) nJ rfl dU gk (@aa _ _ _ _ _ (pv 0) (@aa _ _ _ _ _ (o4 (v:= .ref iZ) rfl DT rfl) aj rfl) rfl) (by decide) (by decide) (by rfl) (by rfl)) aj rfl) rfl) rfl))) (by rfl) (by first|exact .inl rfl|exact .inr rfl|assumption)) (@aG _ _ _ _ _ (@bD _ _ (1) _ _ _ _ sU.nd rfl (Or.inr rfl) (@aU _ _ _ _ _ _ _ _ tQ (pv 1) (@dS _ _ _ _ (@aa _ _ _ _ _ (@cP _ _ _ _ _ _ _ _ (lg K) nJ rfl dU gk (@aa _ _ _ _ _ (pv 0) (@aa _ _ _ _ _ (o4 (v:= .ref iY) rfl Ez rfl) aj rfl) rfl) (by decide) (by decide) (by rfl) (by rfl)) (@aa _ _ _ _ _ (@XO _ _ _ _ (@cP _ _ _ _ _ _ _ _ (lg K) nJ rfl dU gk (@aa _ _ _ _ _ (pv 0) (@aa _ _ _ _ _ (jd (v:= .ty "ValueError") rfl Bd SK rfl) aj rfl) rfl) (by decide) (by decide) (by rfl) (by rfl))) aj rfl) rfl))) (by rfl) (by first|exact .inl rfl|exact .inr rfl|assumption)) (@aG _ _ _ _ _ (@bD _ _ (2) _ _ _ _ sU.nd rfl (Or.inr rfl) (@dS _ _ _ _ (@aa _ _ _ _ _ eE (@aa _ _ _ _ _ eE (@aa _ _ _ _ _ eE (@aa _ _ _ _ _ eE (@aa _ _ _ _ _ eE (@aa _ _ _ _ _ eE (@aa _ _ _ _ _ eE (@aa _ _ _ _ _ eE aj rfl) rfl) rfl) rfl) rfl) rfl) rfl) rfl)) (by rfl) (by first|exact .inl rfl|exact .inr rfl|assumption)) (@aJ _ _ _ (@cL _ _ _ _ (pY (lF.of (show mW (aW wF) ["caught","kinds","names"] _ ["k","kinds","names"] [none,some 1,some 2]=true by decide+kernel)) (@vS _ _ _ _ _ _ rfl fk (@aa _ _ _ _ _ ai aj rfl) (by rfl)) (fun _ _ _ _=>⟨(ko (i:=0) (by show List.Nodup (["k","kinds","names"]:List Str);decide+kernel) rfl (Or.inl rfl)),(MT (@pI _ (K) _ _ rfl (@aR _ _ _ _ _ _ (bS K) bq (pv 1) (pv 0) (fun _ _=>rfl)) (fun _=>rfl))),(@aR _ _ _ _ _ _ (bS K) bq (pv 2) (pv 0) (fun _ _=>rfl))⟩)))))))),?_⟩
 refine Sv.K9 hlive eN gJ hds aC (ρ:=[.raw _, .no, .no]) rfl ?_
 clear aC hds
 rcases q with ⟨rfl,q⟩|⟨rfl,q⟩|⟨rfl,q⟩|⟨rfl,q⟩
 ·walk_at "dt"
  refine Ev.cI rfl (az.mpr rfl) eV (fun _ h=>h) rL ?_
  walk_at "dt"
  refine Ev.cI rfl (az.mpr rfl) eV (fun _ h=>h) rR ?_
  walk_at "dt"
  refine Ev.cI rfl (az.mpr rfl) eV (fun _ h=>h) rM ?_
  walk_at "dt"
  refine Ev.cI rfl (az.mpr rfl) eV (fun _ h=>h) qN ?_
  walk_at "dt"
  refine Ev.cI rfl (az.mpr rfl) eV (fun _ h=>h) rm ?_
  walk_at "dt"
  refine Ev.cI rfl (az.mpr rfl) eV (fun _ h=>h) sF ?_
  walk_at "dt"
  refine Ev.cI rfl (az.mpr rfl) eV (fun _ h=>h) qq ?_
  walk_at "dt"
  refine Ev.cI rfl (az.mpr rfl) eV (fun _ h=>h) sI ?_
  walk_at "dt"
  refine aI.ev (aI.o8 (by decide) rfl ?_)
  walk_at "dt"
  exact vL (kb:=[true,false,false,false,false,false,false,false]) rfl q
 ·walk_at "dt"
  refine Ev.cI rfl (az.mpr rfl) dY (fun _ h=>h) sq ?_
  walk_at "dt"
  refine Ev.cI rfl (az.mpr rfl) dY (fun _ h=>h) sA ?_
  walk_at "dt"
  refine Ev.cI rfl (az.mpr rfl) dY (fun _ h=>h) qY ?_
  walk_at "dt"
  refine Ev.cI rfl (az.mpr rfl) dY (fun _ h=>h) qQ ?_
  walk_at "dt"
  refine Ev.cI rfl (az.mpr rfl) dY (fun _ h=>h) qh ?_
  walk_at "dt"
  refine Ev.cI rfl (az.mpr rfl) dY (fun _ h=>h) rT ?_
  walk_at "dt"
  refine Ev.cI rfl (az.mpr rfl) dY (fun _ h=>h) rH ?_
  walk_at "dt"
  refine Ev.cI rfl (az.mpr rfl) dY (fun _ h=>h) rX ?_
  walk_at "dt"
  refine aI.ev (aI.o8 (by decide) rfl ?_)
  walk_at "dt"
  exact vL (kb:=[false,true,false,false,false,false,false,false]) rfl q
 ·walk_at "dt"
  refine Ev.cI rfl (az.mpr rfl) fE (fun _ h=>h) rN ?_
  walk_at "dt"
  refine Ev.cI rfl (az.mpr rfl) fE (fun _ h=>h) sE ?_
  walk_at "dt"
  refine Ev.cI rfl (az.mpr rfl) fE (fun _ h=>h) p6 ?_
  walk_at "dt"
  refine Ev.cI rfl (az.mpr rfl) fE (fun _ h=>h) qW ?_
  walk_at "dt"
  refine Ev.cI rfl (az.mpr rfl) fE (fun _ h=>h) sH ?_
  walk_at "dt"
  refine Ev.cI rfl (az.mpr rfl) fE (fun _ h=>h) sN ?_
  walk_at "dt"
  refine Ev.cI rfl (az.mpr rfl) fE (fun _ h=>h) sG ?_
  walk_at "dt"
  refine Ev.cI rfl (az.mpr rfl) fE (fun _ h=>h) se ?_
  walk_at "dt"
  refine aI.ev (aI.o8 (by decide) rfl ?_)
  walk_at "dt"
  exact vL (kb:=[false,false,true,false,false,false,false,false]) rfl q
 ·walk_at "dt"
  refine Ev.cI rfl (az.mpr rfl) fK (fun _ h=>h) rY ?_
  walk_at "dt"
  refine Ev.cI rfl (az.mpr rfl) fK (fun _ h=>h) qw ?_
  walk_at "dt"
  refine Ev.cI rfl (az.mpr rfl) fK (fun _ h=>h) qP ?_
  walk_at "dt"
  refine Ev.cI rfl (az.mpr rfl) fK (fun _ h=>h) rZ ?_
  walk_at "dt"
  refine Ev.cI rfl (az.mpr rfl) fK (fun _ h=>h) sL ?_
  walk_at "dt"
  refine Ev.cI rfl (az.mpr rfl) fK (fun _ h=>h) qD ?_
  walk_at "dt"
  refine Ev.cI rfl (az.mpr rfl) fK (fun _ h=>h) rE ?_
  walk_at "dt"
  refine Ev.cI rfl (az.mpr rfl) fK (fun _ h=>h) qu ?_
  walk_at "dt"
  refine aI.ev (aI.o8 (by decide) rfl ?_)
  walk_at "dt"
  exact vL (kb:=[false,false,false,true,false,false,false,false]) rfl q
noncomputable def qz(C:Addr):CF:=fun c ds Φ=>∃(x dx a b:Addr) (p n many:Int) (es:br) (last:PyData),c=bF C x dx a b p n es many last/\ds=[]/\Φ (bF C x dx a b p n es (many+1) .none) true (.int many)
theorem LI{C:Addr}:pP (qz C):=by
 intro c ds Φ Ψ hm z;revert hm
 walk_at "mo";exact fun q=>z _ _ _ q
theorem Zk:cW ["self"] ["self"] (aW qm):=⟨rfl,rfl,rfl,by decide+kernel,rfl,by decide+kernel,by decide+kernel⟩
theorem TF(F:bW K "new_number" "Desk.new_number" qm f fd){ak:Addr}(bz:cZ K ak)(jB:cF K ak "last")(j7:cF K ak "many"):
  aY P w K mg base cT 1 f fd ["self"] (iC 1 (qz ak)):=by
 refine F.ok Zk (fun vs H Q E h=>h.1) (fun cdv A outer s H vs Q E hr h=>?_)
 obtain⟨_,nb,c,ws,ds,rfl,hlive,eN,hcf,gJ,hds,hF⟩:=h
 obtain⟨Φ,aC,hF⟩:∃Φ:Cu->Pd,(∀c' f d v H',Φ c' f d->jo c c' H H'->c'.P (fun a=>nb a\/a∈c'.F) H'->af (fun a=>nb a\/a∈c'.F\/(f=true/\H a≠none)) H' d v->Q v H')/\qz ak c ds Φ:=⟨_,fun c' f d v H' q=>q v H',hF⟩
 obtain⟨x,dx,a,b,p,n,many,es,last,rfl,rfl,q⟩:=hF
 refine⟨_,(@aG _ _ _ _ _ (@mG _ _ _ _ _ _ _ _ (pv 0) ly rfl) (@aG _ _ _ _ _ (@mG _ _ _ _ _ _ _ _ (pv 0) (@aU _ _ _ _ _ _ _ _ fN (@iN _ _ _ _ _ (pv 0) rfl) ai) rfl) (@aJ _ _ _ (@cL _ _ _ _ (@aU _ _ _ _ _ _ _ _ uC (@iN _ _ _ _ _ (pv 0) rfl) ai))))),?_⟩
 refine Sv.wM hlive eN hcf gJ hds aC (ρ:=[.cu _]) rfl ?_
 clear aC hds
 refine Sv.seq (Sv.mX rfl bz jB (.inr ⟨_,rfl⟩) (j9 rfl) ?_)
 walk_at "dt"
 refine Sv.mX rfl bz j7 (.inr ⟨_,rfl⟩) (j9 rfl) ?_
 refine Ev.fL (Ev.fld rfl bz j7 rfl ⟨many,rfl,Ev.int ⟨1,rfl,?_⟩⟩)
 refine Sv.lJ (bK.of ?_)
 refine Ev.fL (Ev.fld rfl bz j7 rfl ⟨many+1,rfl,?_⟩)
 walk_at "dt"
 rw[show many+1-1=many by walk_at "o"]
 intro au v' H' hv
 exact⟨_,_,_,rfl,⟨rfl,rfl,fun a m=>m⟩,q,hv⟩
noncomputable def yv(C CP CL:Addr):mZ:=fun c ds Φ Ξ=>∃(x dx a b:Addr) (p n many pl le:Int) (es:br) (last:PyData),c=bF C x dx a b p n es many last/\ds=[.int pl, .int le]/\cg p n many es/\if 0<=pl/\pl<n then(if 0<=le/\le<p then Φ (bF C x dx a b p n (es++[(many, .lt pl le)]) (many+1) .none) true (.int many) else Ξ c CL) else Ξ c CP
theorem Yn{C CP CL:Addr}:p9 (yv C CP CL):=by
 intro c ds Φ Ψ X Y h z1 z2
 obtain⟨x,dx,a,b,p,n,many,pl,le,es,last,e1,e2,h3,q⟩:=h
 refine⟨x,dx,a,b,p,n,many,pl,le,es,last,e1,e2,h3,?_⟩
 split at q
 ·rename_i c;rw[if_pos c]
  split at q
  ·rename_i c;rw[if_pos c];exact z1 _ _ _ q
  ·rename_i c;rw[if_neg c];exact z2 _ _ q
 ·rename_i c;rw[if_neg c];exact z2 _ _ q
theorem HN:cW ["self","place","letter","number"] ["self","place","letter"] (aW qf):=⟨rfl,rfl,rfl,by decide+kernel,rfl,by decide+kernel,by decide+kernel⟩
theorem X6(F:bW K "letter" "Desk.letter" qf f fd){aN:Addr}{aK:Addr}{aH:Addr}{ak:Addr}(bz:cZ K ak)(jI:cF K ak "n")(jf:cF K ak "p")(iy:cF K ak "letter_deeds")(fR:XI K aN [])(fP:mg "NetError"=some (.ref aN))(eV:XI K aK [.ref aN])(iU:mg "NoPlace"=some (.ref aK))(dY:XI K aH [.ref aN])(ig:mg "NoLetter"=some (.ref aH))(AF:oF P w K mg base ak "new_number" 1 ["self"] (iC 1 (qz ak)))(VY:nM P w K mg base "ask_place" 1 ["n","place"] (pT 2 (Di aK)))(EC:nM P w K mg base "ask_letter" 2 ["p","letter"] (pT 2 (Am aH))):
  aY P w K mg base (iS P w) 3 f fd ["self","place","letter"] (iG 3 (yv ak aK aH)):=by
 refine F.qT HN (fun vs H Q E h=>h.1) (fun cdv A outer s H vs Q E hr h=>?_)
 obtain⟨nb,c,ws,ds,Φ,Ξ,rfl,hlive,eN,hcf,gJ,hds,aC,fO,hF⟩:=xT h
 obtain⟨x,dx,a,b,p,n,many,pl,le,es,last,rfl,rfl,hok,q⟩:=hF
 refine⟨_,(@aG _ _ _ _ _ (@lP _ _ _ _ (BQ VY (oE (tr:=true)) rfl (hr.mono (by decide)) rfl (@aa _ _ _ _ _ (@iN _ _ _ _ _ (pv 0) rfl) (@aa _ _ _ _ _ (pv 1) aj rfl) rfl)) (by rfl)) (@aG _ _ _ _ _ (@lP _ _ _ _ (BQ EC (oE (tr:=true)) rfl (hr.mono (by decide)) rfl (@aa _ _ _ _ _ (@iN _ _ _ _ _ (pv 0) rfl) (@aa _ _ _ _ _ (pv 2) aj rfl) rfl)) (by rfl)) (@aG _ _ _ _ _ (@bD _ _ (3) _ _ _ _ HN.nd rfl (Or.inl rfl) (@AK _ _ _ _ _ _ _ _ _ _ _ AF (pv 0) (hr.mono (by decide)) (by rfl)) (by rfl) (by first|exact .inl rfl|exact .inr rfl|assumption)) (@aG _ _ _ _ _ (@m8 _ _ _ _ _ _ (@ir _ _ _ _ _ (@aa _ _ _ _ _ (pv 1) (@aa _ _ _ _ _ (pv 2) aj rfl) rfl)) (nF (@iN _ _ _ _ _ (pv 0) rfl) (pv 3) set_dict) (by rfl) (by rfl) (by rfl)) (@aJ _ _ _ (@cL _ _ _ _ (pv 3))))))),?_⟩
 refine Sv.AM hlive eN hcf gJ hds aC fO (ρ:=[.cu _, .d false _, .d false _, .no]) rfl fun jK=>?_
 clear aC hds fO
 have hl:=hok.len
 refine Sv.seq ?_
 refine Sv.drop ?_
 refine Ev.Au jK Tt ?_
 refine Av.cons (Ev.fld rfl bz jI rfl ?_)
 walk_at "dt"
 refine⟨rfl,n,pl,rfl,?_⟩
 by_cases c:0<=pl/\pl<n
 ·rw[if_pos c] at q⊢
  refine Sv.seq ?_
  refine Sv.drop ?_
  refine Ev.Au jK Il ?_
  refine Av.cons (Ev.fld rfl bz jf rfl ?_)
  walk_at "dt"
  refine⟨rfl,p,le,rfl,?_⟩
  by_cases c2:0<=le/\le<p
  ·rw[if_pos c2] at q⊢
   refine Sv.seq ?_
   refine Sv.pS (bK.Lm LI rfl rfl (bB.is rfl) ?_)
   refine Av.nil ⟨rfl,x,dx,a,b,p,n,many,es,last,rfl,rfl,?_⟩
   refine Gv.mR ?_
   refine Sv.seq ?_
   refine Sv.Fq rfl bz iy rfl ?_
   walk_at "dt"
   obtain⟨e1,e2⟩:=hok.Yd pl le
   refine⟨rG (by have:=MP wc es;exact dw this hl) (by decide),?_⟩
   have e3:cO "letter_deeds" (.cu (eg a (jQ (ldK es) many (.tuple [.int pl, .int le])))) (gW p n a b es (many+1) .none)=gW p n a b (es++[(many, .lt pl le)]) (many+1) .none:=by
    unfold gW
    rw[e1,e2]
    rfl
   change Sv _ [.cu (bB ak x dx (cO "letter_deeds" (.cu (eg a (jQ (ldK es) many (.tuple [.int pl, .int le])))) (gW p n a b es (many+1) .none))), .d false (.int pl), .d false (.int le), .d true (.int many)] _ _
   rw[e3]
   refine Sv.lJ (bK.of ?_)
   walk_at "dt"
   intro au v' H' hv
   exact⟨_,_,_,rfl,⟨rfl,rfl,fun a m=>m⟩,q,hv⟩
  ·rw[if_neg c2] at q⊢
   exact⟨_,rfl, .refl rfl,q⟩
 ·rw[if_neg c] at q⊢
  exact⟨_,rfl, .refl rfl,q⟩
open Classical in
noncomputable def zT(C CC CL:Addr):mZ:=fun c ds Φ Ξ=>∃(x dx a b:Addr) (p n many r:Int) (prs:bY) (es:br) (last:PyData),c=bF C x dx a b p n es many last/\ds=[jq prs, .int r]/\cg p n many es/\if mS p n prs then(if 0<=r/\r<p then Φ (bF C x dx a b p n (es++[(many, .ck prs r)]) (many+1) .none) true (.int many) else Ξ c CL) else Ξ c CC
open Classical in
theorem UI{C CC CL:Addr}:p9 (zT C CC CL):=by
 intro c ds Φ Ψ X Y h z1 z2
 obtain⟨x,dx,a,b,p,n,many,r,prs,es,last,e1,e2,h3,q⟩:=h
 refine⟨x,dx,a,b,p,n,many,r,prs,es,last,e1,e2,h3,?_⟩
 split at q
 ·rename_i c;rw[if_pos c]
  split at q
  ·rename_i c;rw[if_pos c];exact z1 _ _ _ q
  ·rename_i c;rw[if_neg c];exact z2 _ _ q
 ·rename_i c;rw[if_neg c];exact z2 _ _ q
theorem Gy:cW ["self","pairs","rest","number"] ["self","pairs","rest"] (aW qL):=⟨rfl,rfl,rfl,by decide+kernel,rfl,by decide+kernel,by decide+kernel⟩
theorem TJ(F:bW K "check" "Desk.check" qL f fd){aN:Addr}{aH:Addr}{aP:Addr}{ak:Addr}(bz:cZ K ak)(jf:cF K ak "p")(iu:cF K ak "check_deeds")(jI:cF K ak "n")(fR:XI K aN [])(fP:mg "NetError"=some (.ref aN))(dY:XI K aH [.ref aN])(ig:mg "NoLetter"=some (.ref aH))(fE:XI K aP [.ref aN])(jZ:mg "NoCheck"=some (.ref aP))(AF:oF P w K mg base ak "new_number" 1 ["self"] (iC 1 (qz ak)))(EC:nM P w K mg base "ask_letter" 2 ["p","letter"] (pT 2 (Am aH)))(Qf:Callee P w K mg base "is_check" 1 ["p","n","pairs"] (ic 3 Bk))(fM:mg "list"=none):
  aY P w K mg base (iS P w) 3 f fd ["self","pairs","rest"] (iG 3 (zT ak aP aH)):=by
 refine F.qT Gy (fun vs H Q E h=>h.1) (fun cdv A outer s H vs Q E hr h=>?_)
 obtain⟨nb,c,ws,ds,Φ,Ξ,rfl,hlive,eN,hcf,gJ,hds,aC,fO,hF⟩:=xT h
 obtain⟨x,dx,a,b,p,n,many,r,prs,es,last,rfl,rfl,hok,q⟩:=hF
 refine⟨_,(@aG _ _ _ _ _ (@dH _ _ _ _ _ _ _ _ (@vz _ _ _ _ (@pI _ (K) _ _ rfl (@bO _ _ _ _ _ _ _ _ _ _ Qf (hr.mono (by decide)) (@aa _ _ _ _ _ (@iN _ _ _ _ _ (pv 0) rfl) (@aa _ _ _ _ _ (@iN _ _ _ _ _ (pv 0) rfl) (@aa _ _ _ _ _ (pv 1) aj rfl) rfl) rfl) (by rfl) (by decide) (by rfl) (by rfl)) (fun _=>rfl))) (@aJ _ _ _ (yQ oE rfl fE.toXC rfl rfl jZ (@aa _ _ _ _ _ eE aj rfl))) fX) (@aG _ _ _ _ _ (@lP _ _ _ _ (BQ EC (oE (tr:=true)) rfl (hr.mono (by decide)) rfl (@aa _ _ _ _ _ (@iN _ _ _ _ _ (pv 0) rfl) (@aa _ _ _ _ _ (pv 2) aj rfl) rfl)) (by rfl)) (@aG _ _ _ _ _ (@bD _ _ (3) _ _ _ _ Gy.nd rfl (Or.inl rfl) (@AK _ _ _ _ _ _ _ _ _ _ _ AF (pv 0) (hr.mono (by decide)) (by rfl)) (by rfl) (by first|exact .inl rfl|exact .inr rfl|assumption)) (@aG _ _ _ _ _ (@m8 _ _ _ _ _ _ (@ir _ _ _ _ _ (@aa _ _ _ _ _ (@p5 _ _ _ _ _ _ _ _ (vP K) RX rfl fM nE (@aa _ _ _ _ _ (pv 1) aj rfl) (by decide) (by decide) (by rfl) (by rfl)) (@aa _ _ _ _ _ (pv 2) aj rfl) rfl)) (nF (@iN _ _ _ _ _ (pv 0) rfl) (pv 3) set_dict) (by rfl) (by rfl) (by rfl)) (@aJ _ _ _ (@cL _ _ _ _ (pv 3))))))),?_⟩
 refine Sv.AM hlive eN hcf gJ hds aC fO (ρ:=[.cu _, .d false _, .d false _, .no]) rfl fun jK=>?_
 clear aC hds fO
 have hl:=hok.len
 refine Sv.seq ?_
 refine Sv.jL (Tv.not (Tv.Hf ?_))
 refine Ev.nH Qo ?_
 refine Av.cons (Ev.fld rfl bz jf rfl ?_)
 refine Av.cons (Ev.fld rfl bz jI rfl ?_)
 walk_at "dt"
 refine⟨rfl,p,n,prs,rfl,fun bb zU=>⟨_,rfl,?_⟩⟩
 by_cases c:mS p n prs
 ·rw[if_pos c] at q
  rw[zU.mpr c,if_neg (by decide)]
  refine Sv.next ?_
  refine Sv.seq ?_
  refine Sv.drop ?_
  refine Ev.Au jK Il ?_
  refine Av.cons (Ev.fld rfl bz jf rfl ?_)
  walk_at "dt"
  refine⟨rfl,p,r,rfl,?_⟩
  by_cases c2:0<=r/\r<p
  ·rw[if_pos c2] at q⊢
   refine Sv.seq ?_
   refine Sv.pS (bK.Lm LI rfl rfl (bB.is rfl) ?_)
   refine Av.nil ⟨rfl,x,dx,a,b,p,n,many,es,last,rfl,rfl,?_⟩
   refine Gv.mR ?_
   refine Sv.seq ?_
   refine Sv.Fq rfl bz iu rfl ?_
   walk_at "dt"
   obtain⟨e1,e2⟩:=hok.VX prs r
   refine⟨rG (by have:=MP xj es;exact dw this hl) (by decide),?_⟩
   have e3:cO "check_deeds" (.cu (eg b (jQ (dc es) many (.tuple [jq prs, .int r])))) (gW p n a b es (many+1) .none)=gW p n a b (es++[(many, .ck prs r)]) (many+1) .none:=by
    unfold gW
    rw[e1,e2]
    rfl
   change Sv _ [.cu (bB ak x dx (cO "check_deeds" (.cu (eg b (jQ (dc es) many (.tuple [jq prs, .int r])))) (gW p n a b es (many+1) .none))), .d false (jq prs), .d false (.int r), .d true (.int many)] _ _
   rw[e3]
   refine Sv.lJ (bK.of ?_)
   walk_at "dt"
   intro au v' H' hv
   exact⟨_,_,_,rfl,⟨rfl,rfl,fun a m=>m⟩,q,hv⟩
  ·rw[if_neg c2] at q⊢
   exact⟨_,rfl, .refl rfl,q⟩
 ·rw[if_neg c] at q
  rw[show bb=false from uP.mpr fun z=>c (zU.mp z),if_pos (by rfl)]
  refine Sv.raise jK ?_
  walk_at "dt"
  exact⟨_,rfl, .refl rfl,q⟩
open Classical in
noncomputable def vN(C CD:Addr):mZ:=fun c ds Φ Ξ=>∃(x dx a b:Addr) (p n many k:Int) (es:br) (last:PyData),c=bF C x dx a b p n es many last/\ds=[.int k]/\cg p n many es/\if(∃d,(k,d)∈es) then Φ (bF C x dx a b p n (gY es k) many .none) true .none else Ξ c CD
open Classical in
theorem QS{C CD:Addr}:p9 (vN C CD):=by
 intro c ds Φ Ψ X Y h z1 z2
 obtain⟨x,dx,a,b,p,n,many,k,es,last,e1,e2,h3,q⟩:=h
 refine⟨x,dx,a,b,p,n,many,k,es,last,e1,e2,h3,?_⟩
 split at q
 ·rename_i c;rw[if_pos c];exact z1 _ _ _ q
 ·rename_i c;rw[if_neg c];exact z2 _ _ q
theorem RD:cW ["self","number"] ["self","number"] (aW sf):=⟨rfl,rfl,rfl,by decide+kernel,rfl,by decide+kernel,by decide+kernel⟩
theorem Wq(F:bW K "take_back" "Desk.take_back" sf f fd){aN:Addr}{aO:Addr}{ak:Addr}(bz:cZ K ak)(jB:cF K ak "last")(iy:cF K ak "letter_deeds")(iu:cF K ak "check_deeds")(fR:XI K aN [])(fP:mg "NetError"=some (.ref aN))(fK:XI K aO [.ref aN])(jG:mg "NoDeed"=some (.ref aO)):
  aY P w K mg base (iS P w) 1 f fd ["self","number"] (iG 2 (vN ak aO)):=by
 refine F.qT RD (fun vs H Q E h=>h.1) (fun cdv A outer s H vs Q E hr h=>?_)
 obtain⟨nb,c,ws,ds,Φ,Ξ,rfl,hlive,eN,hcf,gJ,hds,aC,fO,hF⟩:=xT h
 obtain⟨x,dx,a,b,p,n,many,k,es,last,rfl,rfl,hok,q⟩:=hF
 refine⟨_,(@aG _ _ _ _ _ (@dH _ _ _ _ _ _ _ _ (@bZ _ _ _ _ _ _ _ _ (IP hr.units) (pv 1) (@iN _ _ _ _ _ (pv 0) rfl) (by with_unfolding_all rfl)) (@aJ _ _ _ (@lP _ _ _ _ (q8 KZ Eb Gu Mq (@iN _ _ _ _ _ (pv 0) rfl) (@aa _ _ _ _ _ (pv 1) aj rfl)) (by rfl))) (@aJ _ _ _ (@dH _ _ _ _ _ _ _ _ (@bZ _ _ _ _ _ _ _ _ (IP hr.units) (pv 1) (@iN _ _ _ _ _ (pv 0) rfl) (by with_unfolding_all rfl)) (@aJ _ _ _ (@lP _ _ _ _ (q8 KZ Eb Gu Mq (@iN _ _ _ _ _ (pv 0) rfl) (@aa _ _ _ _ _ (pv 1) aj rfl)) (by rfl))) (@aJ _ _ _ (yQ oE rfl fK.toXC rfl rfl jG (@aa _ _ _ _ _ eE aj rfl)))))) (@aJ _ _ _ (@mG _ _ _ _ _ _ _ _ (pv 0) ly rfl))),?_⟩
 refine Sv.AM hlive eN hcf gJ hds aC fO (ρ:=[.cu _, .d false _]) rfl fun jK=>?_
 clear aC hds fO
 refine Sv.seq ?_
 refine Sv.jL (Tv.test (Ev.NL rfl bz iy rfl ?_))
 walk_at "dt"
 rw[Bx]
 by_cases c1:gK (ldK es) k=true
 ·rw[if_pos c1]
  obtain⟨pl,le,m⟩:=w4.mp c1
  rw[if_pos ⟨_,m⟩] at q
  obtain⟨e1,e2⟩:=hok.Ry m
  refine Sv.Ic rfl bz iy rfl ?_
  walk_at "dt"
  have e3:cO "letter_deeds" (.cu (eg a (gU (ldK es) k))) (gW p n a b es many last)=gW p n a b (gY es k) many last:=by
   unfold gW
   rw[e1,e2]
   rfl
  change Sv _ [.cu (bB ak x dx (cO "letter_deeds" (.cu (eg a (gU (ldK es) k))) (gW p n a b es many last))), .d false (.int k)] _ _
  rw[e3]
  refine Sv.mX rfl bz jB (.inr ⟨_,rfl⟩) (j9 rfl) ?_
  walk_at "dt"
  exact⟨_,rfl,⟨rfl,rfl,fun a m=>m⟩,q⟩
 rw[if_neg c1]
 refine Sv.jL (Tv.test (Ev.NL rfl bz iu rfl ?_))
 walk_at "dt"
 rw[Bx]
 by_cases c2:gK (dc es) k=true
 ·rw[if_pos c2]
  obtain⟨prs,r,m⟩:=yq.mp c2
  rw[if_pos ⟨_,m⟩] at q
  obtain⟨e1,e2⟩:=hok.O4 m
  refine Sv.Ic rfl bz iu rfl ?_
  walk_at "dt"
  have e3:cO "check_deeds" (.cu (eg b (gU (dc es) k))) (gW p n a b es many last)=gW p n a b (gY es k) many last:=by
   unfold gW
   rw[e1,e2]
   rfl
  change Sv _ [.cu (bB ak x dx (cO "check_deeds" (.cu (eg b (gU (dc es) k))) (gW p n a b es many last))), .d false (.int k)] _ _
  rw[e3]
  refine Sv.mX rfl bz jB (.inr ⟨_,rfl⟩) (j9 rfl) ?_
  walk_at "dt"
  exact⟨_,rfl,⟨rfl,rfl,fun a m=>m⟩,q⟩
 rw[if_neg c2]
 rw[if_neg (fun⟨d,m⟩=>by
  cases d with
  |lt pl le=>exact c1 (w4.mpr ⟨pl,le,m⟩)
  |ck prs r=>exact c2 (yq.mpr ⟨prs,r,m⟩))] at q
 refine Sv.raise jK ?_
 walk_at "dt"
 exact⟨_,rfl, .refl rfl,q⟩
noncomputable def wN:mZ:=fun _ _ _ _=>False
theorem ZV:p9 wN:=fun _ _ _ _ _ _ h _ _=>h
theorem Sf:cW ["self","place"] ["self","place"] (aW qy):=⟨rfl,rfl,rfl,by decide+kernel,rfl,by decide+kernel,by decide+kernel⟩
theorem Rw(F:bW K "why" "Desk.why" qy f fd):
  aY P w K mg base (iS P w) 1 f fd ["self","place"] (iG 2 wN):=by
 refine F.qT Sf (fun vs H Q E h=>h.1) (fun cdv A outer s H vs Q E hr h=>?_)
 obtain⟨nb,c,ws,ds,Φ,Ξ,rfl,hlive,eN,hcf,gJ,hds,aC,fO,hF⟩:=xT h
 exact hF.elim
noncomputable def pM(C CP CL CC CD:Addr):CF:=fun c ds Φ=>∃(x dx a b:Addr) (p n many:Int) (es:br) (last:PyData) (k:Ask),c=bF C x dx a b p n es many last/\ds=[jC k]/\cg p n many es/\LastOk p n es last/\(∀w,k≠ .wy w)/\∀last',LastOk p n (aV p n many es k).es last'->Φ (bF C x dx a b p n (aV p n many es k).es (aV p n many es k).many last') true (pA (aV p n many es k).found (aV p n many es k).names)
theorem K8{C CP CL CC CD:Addr}:pP (pM C CP CL CC CD):=by
 intro c ds Φ Ψ hm z;revert hm
 walk_at "mo";exact fun q=>fun l' hl=>z _ _ _ (q l' hl)
theorem l6:cW ["desk","deed","caught","found","e"] ["desk","deed"] (aW B0):=⟨rfl,rfl,rfl,by decide+kernel,rfl,by decide+kernel,by decide+kernel⟩
theorem Pe(F:bW K "_law_done" "_law_done" B0 f fd){aN:Addr}{aK:Addr}{aH:Addr}{aP:Addr}{aO:Addr}{ak:Addr}(fR:XI K aN [])(fP:mg "NetError"=some (.ref aN))(eV:XI K aK [.ref aN])(iU:mg "NoPlace"=some (.ref aK))(dY:XI K aH [.ref aN])(ig:mg "NoLetter"=some (.ref aH))(fE:XI K aP [.ref aN])(jZ:mg "NoCheck"=some (.ref aP))(fK:XI K aO [.ref aN])(jG:mg "NoDeed"=some (.ref aO))(Rc:lN P w K mg base ak "letter" 3 ["self","place","letter"] (iG 3 (yv ak aK aH)))(NZ:lN P w K mg base ak "check" 3 ["self","pairs","rest"] (iG 3 (zT ak aP aH)))(Uq:lN P w K mg base ak "take_back" 1 ["self","number"] (iG 2 (vN ak aO)))(Ti:lN P w K mg base ak "why" 1 ["self","place"] (iG 2 wN))(Vp:Callee P w K mg base "_law_kinds" 1 ["caught"] (kG 1 (A9 aK aH aP aO))):
    aY P w K mg base cT 4 f fd ["desk","deed"] (iC 2 (pM ak aK aH aP aO)):=by
  refine F.ok l6 (fun vs H Q E h=>h.1) (fun cdv A outer s H vs Q E hr h=>?_)
  obtain⟨_,nb,c,ws,ds,rfl,hlive,eN,hcf,gJ,hds,hF⟩:=h
  obtain⟨Φ,aC,hF⟩:∃Φ:Cu->Pd,(∀c' f d v H',Φ c' f d->jo c c' H H'->c'.P (fun a=>nb a\/a∈c'.F) H'->af (fun a=>nb a\/a∈c'.F\/(f=true/\H a≠none)) H' d v->Q v H')/\pM ak aK aH aP aO c ds Φ:=⟨_,fun c' f d v H' q=>q v H',hF⟩
  obtain⟨x,dx,a,b,p,n,many,es,last,k,rfl,rfl,hok,ie,hnw,q⟩:=hF
  refine⟨_,(@aG _ _ _ _ _ (@bD _ _ (2) _ _ _ _ l6.nd rfl (Or.inl rfl) ly (by rfl) (by first|exact .inl rfl|exact .inr rfl|assumption)) (@aG _ _ _ _ _ (@bD _ _ (3) _ _ _ _ l6.nd rfl (Or.inl rfl) ly (by rfl) (by first|exact .inl rfl|exact .inr rfl|assumption)) (@aG _ _ _ _ _ (TH (i:=4) fR.toXC rfl fP l6.nd rfl rfl rfl rfl rfl (fun ps W EX hX=>(@aJ _ _ _ (@dH _ _ _ _ _ _ _ _ (@bZ _ _ _ _ _ _ _ _ iR (@aR _ _ _ _ _ _ (i7 K) jO (pv 1) ai (fun _ _=>rfl)) eE (bV _)) (@aJ _ _ _ (@bD _ _ (3) _ _ _ _ l6.nd rfl (Or.inl rfl) (zC Rc (pv 0) hX rfl (hr.mono (by decide)) (@aa _ _ _ _ _ (@aR _ _ _ _ _ _ (i7 K) jO (pv 1) ai (fun _ _=>rfl)) (@aa _ _ _ _ _ (@aR _ _ _ _ _ _ (i7 K) jO (pv 1) ai (fun _ _=>rfl)) aj rfl) rfl)) (by rfl) (by first|exact .inl rfl|exact .inr rfl|assumption))) (@aJ _ _ _ (@dH _ _ _ _ _ _ _ _ (@bZ _ _ _ _ _ _ _ _ iR (@aR _ _ _ _ _ _ (i7 K) jO (pv 1) ai (fun _ _=>rfl)) eE (bV _)) (@aJ _ _ _ (@bD _ _ (3) _ _ _ _ l6.nd rfl (Or.inl rfl) (zC NZ (pv 0) hX rfl (hr.mono (by decide)) (@aa _ _ _ _ _ (@aR _ _ _ _ _ _ (i7 K) jO (pv 1) ai (fun _ _=>rfl)) (@aa _ _ _ _ _ (@aR _ _ _ _ _ _ (i7 K) jO (pv 1) ai (fun _ _=>rfl)) aj rfl) rfl)) (by rfl) (by first|exact .inl rfl|exact .inr rfl|assumption))) (@aJ _ _ _ (@dH _ _ _ _ _ _ _ _ (@bZ _ _ _ _ _ _ _ _ iR (@aR _ _ _ _ _ _ (i7 K) jO (pv 1) ai (fun _ _=>rfl)) eE (bV _)) (@aJ _ _ _ (@bD _ _ (3) _ _ _ _ l6.nd rfl (Or.inl rfl) (zC Uq (pv 0) hX rfl (hr.mono (by decide)) (@aa _ _ _ _ _ (@aR _ _ _ _ _ _ (i7 K) jO (pv 1) ai (fun _ _=>rfl)) aj rfl)) (by rfl) (by first|exact .inl rfl|exact .inr rfl|assumption))) (@aJ _ _ _ (@bD _ _ (3) _ _ _ _ l6.nd rfl (Or.inl rfl) (zC Ti (pv 0) hX rfl (hr.mono (by decide)) (@aa _ _ _ _ _ (@aR _ _ _ _ _ _ (i7 K) jO (pv 1) ai (fun _ _=>rfl)) aj rfl)) (by rfl) (by first|exact .inl rfl|exact .inr rfl|assumption)))))))))) (fun ea=>(@aJ _ _ _ (@bD _ _ (2) _ _ _ _ l6.nd rfl (Or.inl rfl) (pv 4) (by rfl) (by first|exact .inl rfl|exact .inr rfl|assumption))))) (@aJ _ _ _ (@cL _ _ _ _ (@ir _ _ _ _ _ (@aa _ _ _ _ _ (pv 3) (@aa _ _ _ _ _ (@I0 _ _ _ _ _ _ _ _ (@bZ _ _ _ _ _ _ _ _ Zd (pv 2) ly (bV _)) (@dS _ _ _ _ aj) (@bO _ _ _ _ _ _ _ _ _ _ Vp (hr.mono (by decide)) (@aa _ _ _ _ _ (pv 2) aj rfl) (by rfl) (by decide) (by rfl) (by rfl))) aj rfl) rfl))))))),?_⟩
  refine Sv.wM hlive eN hcf gJ hds aC (ρ:=[.cu _, .d false _, .no, .no, .no]) rfl ?_
  clear aC hds
  refine Sv.seq ?_
  refine Sv.asg ?_
  walk_at "dt"
  refine Sv.Ym (fun C ρ'=>ρ'=[.cu (bF ak x dx a b p n es many last), .d false (jC k), .d true .none, .d true .none, .no]/\((C=aK/\aV p n many es k=⟨es,many, .none,["NoPlace"]⟩)\/(C=aH/\aV p n many es k=⟨es,many, .none,["NoLetter"]⟩)\/(C=aP/\aV p n many es k=⟨es,many, .none,["NoCheck"]⟩)\/(C=aO/\aV p n many es k=⟨es,many, .none,["NoDeed"]⟩))) ?_ ?_
  · intro EX hX
    cases k with
    | lt pl le =>
      simp only[aV] at q⊢
      rw[show jC (.lt pl le)= .tuple [.str "letter", .int pl, .int le] from rfl]
      walk_at "dt"
      refine⟨_, .ss _,_,rfl,?_⟩
      rw[if_pos rfl]
      refine Sv.pS (bK.B7 hX Yn rfl rfl (bB.is rfl) ?_)
      walk_at "dt"
      refine⟨rfl,x,dx,a,b,p,n,many,pl,le,es,last,rfl,rfl,hok,?_⟩
      by_cases c1:0<=pl/\pl<n
      · rw[if_pos c1] at q⊢
        by_cases c2:0<=le/\le<p
        · rw[if_pos c2] at q⊢
          refine Gv.name ?_
          refine Sv.lJ (bK.of ?_)
          walk_at "dt"
          intro au v' H' hv
          exact⟨_,_,_,rfl,⟨rfl,rfl,fun a m=>m⟩,q _ (.inl rfl),hv⟩
        · rw[if_neg c2]
          exact⟨rfl, .inr (.inl ⟨rfl,by simp only[aV];rw[if_pos c1,if_neg c2]⟩)⟩
      · rw[if_neg c1]
        exact⟨rfl, .inl ⟨rfl,by simp only[aV];rw[if_neg c1]⟩⟩
    | ck prs r =>
      simp only[aV] at q⊢
      rw[show jC (.ck prs r)= .tuple [.str "check",jq prs, .int r] from rfl]
      walk_at "dt"
      refine⟨_, .sd _ _,_,rfl,?_⟩
      rw[show decide (Str.ofString "check"=Str.ofString "letter")=false by decide,if_neg (by decide)]
      walk_at "dt"
      refine⟨_, .ss _,_,rfl,?_⟩
      rw[if_pos rfl]
      refine Sv.pS (bK.B7 hX UI rfl rfl (bB.is rfl) ?_)
      walk_at "dt"
      refine⟨rfl,x,dx,a,b,p,n,many,r,prs,es,last,rfl,rfl,hok,?_⟩
      by_cases c1:mS p n prs
      · rw[if_pos c1] at q⊢
        by_cases c2:0<=r/\r<p
        · rw[if_pos c2] at q⊢
          refine Gv.name ?_
          refine Sv.lJ (bK.of ?_)
          walk_at "dt"
          intro au v' H' hv
          exact⟨_,_,_,rfl,⟨rfl,rfl,fun a m=>m⟩,q _ (.inl rfl),hv⟩
        · rw[if_neg c2]
          exact⟨rfl, .inr (.inl ⟨rfl,by simp only[aV];rw[if_pos c1,if_neg c2]⟩)⟩
      · rw[if_neg c1]
        exact⟨rfl, .inr (.inr (.inl ⟨rfl,by simp only[aV];rw[if_neg c1]⟩))⟩
    | bk k =>
      simp only[aV] at q⊢
      rw[show jC (.bk k)= .tuple [.str "back", .int k] from rfl]
      walk_at "dt"
      refine⟨_, .sd _ _,_,rfl,?_⟩
      rw[show decide (Str.ofString "back"=Str.ofString "letter")=false by decide,if_neg (by decide)]
      walk_at "dt"
      refine⟨_, .sd _ _,_,rfl,?_⟩
      rw[show decide (Str.ofString "back"=Str.ofString "check")=false by decide,if_neg (by decide)]
      walk_at "dt"
      refine⟨_, .ss _,_,rfl,?_⟩
      rw[if_pos rfl]
      refine Sv.pS (bK.B7 hX QS rfl rfl (bB.is rfl) ?_)
      walk_at "dt"
      refine⟨rfl,x,dx,a,b,p,n,many,k,es,last,rfl,rfl,hok,?_⟩
      by_cases c1:∃d,(k,d)∈es
      · rw[if_pos c1] at q⊢
        refine Gv.name ?_
        refine Sv.lJ (bK.of ?_)
        walk_at "dt"
        intro au v' H' hv
        exact⟨_,_,_,rfl,⟨rfl,rfl,fun a m=>m⟩,q _ (.inl rfl),hv⟩
      · rw[if_neg c1]
        exact⟨rfl, .inr (.inr (.inr ⟨rfl,by simp only[aV];rw[if_neg c1]⟩))⟩
    |wy k=>exact absurd rfl (hnw k)
  · rintro C ρ' ⟨rfl,hC⟩
    refine⟨?_,fun ea=>?_⟩
    · rcases hC with ⟨rfl,_⟩|⟨rfl,_⟩|⟨rfl,_⟩|⟨rfl,_⟩
      · exact eV.up1
      · exact dY.up1
      · exact fE.up1
      · exact fK.up1
    refine Sv.move rfl (by decide) ?_
    refine Sv.lJ (bK.of ?_)
    generalize UB:(cG t6 (bf 2) (tC V.aB):TE)=tn
    walk_at "dt"
    subst UB
    refine Ev.PF (c:=nW ea C) (a:=ea) rfl rfl ?_
    refine⟨_,rfl,?_⟩
    rw[if_neg (by decide)]
    refine Ev.PR Qg rfl rfl (pQ.nil ?_)
    rcases hC with ⟨rfl,hc⟩|⟨rfl,hc⟩|⟨rfl,hc⟩|⟨rfl,hc⟩
    · rw[hc] at q
      refine⟨rfl,rfl,ea, .inl ⟨rfl, .inl rfl,?_⟩⟩
      walk_at "dt"
      intro au v' H' hv
      exact⟨_,_,_,rfl, .refl rfl,q _ ie,hv⟩
    · rw[hc] at q
      refine⟨rfl,rfl,ea, .inr (.inl ⟨rfl, .inl rfl,?_⟩)⟩
      walk_at "dt"
      intro au v' H' hv
      exact⟨_,_,_,rfl, .refl rfl,q _ ie,hv⟩
    · rw[hc] at q
      refine⟨rfl,rfl,ea, .inr (.inr (.inl ⟨rfl, .inl rfl,?_⟩))⟩
      walk_at "dt"
      intro au v' H' hv
      exact⟨_,_,_,rfl, .refl rfl,q _ ie,hv⟩
    · rw[hc] at q
      refine⟨rfl,rfl,ea, .inr (.inr (.inr ⟨rfl, .inl rfl,?_⟩))⟩
      walk_at "dt"
      intro au v' H' hv
      exact⟨_,_,_,rfl, .refl rfl,q _ ie,hv⟩
noncomputable def BO:DF:=fun ds Φ=>∃p n:Int,ds=[.int p, .int n]/\kP p/\p<10^40/\1<=n/\n<=400/\∀prs:bY,mS p n prs->prs.length<=420->Φ true (jq prs)
theorem Yr:jM BO:=by
 intro ds Φ Ψ hm z;revert hm
 walk_at "mo";exact fun q=>fun prs a b=>z _ _ (q prs a b)
theorem Ld:cW ["bag","p","n","wide"] ["bag","p","n"] (aW wK):=⟨rfl,rfl,rfl,by decide+kernel,rfl,by decide+kernel,by decide+kernel⟩
theorem O7(F:bW K "_law_pairs" "_law_pairs" wK f fd)(dJ:Callee P w K mg base "_law_draw" 1 ["bag","many"] jr)(Xo:Callee P w K mg base "_law_factor" 2 ["bag","p"] (iJ 2 DL))(N3:Callee P w K mg base "_law_places" 2 ["bag","n","wide"] (iJ 3 Ef)):
  aY P w K mg base cT 3 f fd ["bag","p","n"] (iJ 3 BO):=by
 refine F.ok Ld (fun vs H Q E h=>h.1) (fun cdv A outer s H vs Q E hr h=>?_)
 obtain⟨b,l,ws,nb,ds,Φ,rfl,hB,hlive,hnb,hds,aC,hF⟩:=qF h
 obtain⟨p,n,rfl,hp,kY,n1,n4,q⟩:=hF
 refine⟨_,(@aG _ _ _ _ _ (@bD _ _ (3) _ _ _ _ Ld.nd rfl (Or.inl rfl) (@aR _ _ _ _ _ _ (bS K) bq (@dS _ _ _ _ (@aa _ _ _ _ _ ai (@aa _ _ _ _ _ ai (@aa _ _ _ _ _ ai (@aa _ _ _ _ _ ai (@aa _ _ _ _ _ ai (@aa _ _ _ _ _ (pv 2) aj rfl) rfl) rfl) rfl) rfl) rfl)) (@bO _ _ _ _ _ _ _ _ _ _ dJ (hr.mono (by decide)) (@aa _ _ _ _ _ (pv 0) (@aa _ _ _ _ _ ai aj rfl) rfl) (by rfl) (by decide) (by rfl) (by rfl)) (fun _ _=>rfl)) (by rfl) (by first|exact .inl rfl|exact .inr rfl|assumption)) (@aJ _ _ _ (@cL _ _ _ _ (pY (lF.of (show mW (aW wK) ["bag","p","n","wide"] _ ["place","bag","p"] [none,some 0,some 1]=true by decide+kernel)) (zI (K:=K) rfl (@bO _ _ _ _ _ _ _ _ _ _ N3 (hr.mono (by decide)) (@aa _ _ _ _ _ (pv 0) (@aa _ _ _ _ _ (pv 2) (@aa _ _ _ _ _ (pv 3) aj rfl) rfl) rfl) (by rfl) (by decide) (by rfl) (by rfl))) (fun _ _ _ _=>⟨(ko (i:=0) (by show List.Nodup (["place","bag","p"]:List Str);decide+kernel) rfl (Or.inl rfl)),xQ,(@ir _ _ _ _ _ (@aa _ _ _ _ _ (pv 0) (@aa _ _ _ _ _ (@bO _ _ _ _ _ _ _ _ _ _ Xo (hr.mono (by decide)) (@aa _ _ _ _ _ (pv 1) (@aa _ _ _ _ _ (pv 2) aj rfl) rfl) (by rfl) (by decide) (by rfl) (by rfl)) aj rfl) rfl))⟩))))),?_⟩
 refine Sv.rV hB hlive hnb hds aC (ρ:=[.ao, .d false _, .d false _, .no]) rfl ?_
 clear aC hds
 walk_at "dt"
 intro w w0 w1
 obtain⟨m,em,m0,m1⟩:=pick (L:=[2,3,5,2,3,n]) w0 (by show w<6;walk_at "o") (fun x=>1<=x/\x<=420) (by simp;walk_at "o")
 refine⟨_,rfl,_,em,?_⟩
 refine Gv.mR ?_
 walk_at "dt"
 refine aI.ev (aI.OM (by decide) rfl ?_)
 refine Ev.pO X3 rfl ?_
 walk_at "dt"
 refine⟨rfl,n,m,rfl,n1,by walk_at "o",m0,m1,fun rs r0 r1 r2 r3=>?_⟩
 refine⟨_,rfl,by rw[ay];walk_at "o",fun v=>lu.rel pairD true (fun i pr=>rs[i]?=some pr.1/\0<pr.2/\pr.2<p) ?_ fun prs hpl MC=>?_⟩
 ·rintro j d hd
  obtain⟨x,hx,rfl⟩:=Ik hd
  walk_at "dt"
  refine⟨by walk_at "wk",?_⟩
  walk_at "dt"
  refine Ev.pO SE rfl ?_
  walk_at "dt"
  refine⟨rfl,p,rfl,hp,kY,fun y y1 y2=>?_⟩
  walk_at "dt"
  exact⟨fun _=>rfl,(x,y),rfl,hx,y1,y2⟩
 rw[ay] at hpl
 have hmap:prs.map (·.1)=rs:=by
  apply oW
  intro i
  rw[dG]
  by_cases hi:i<prs.length
  ·have e:=bE hi
   rw[(MC i _ e).1,e];rfl
  ·rw[rO (by walk_at "o"),rO (by walk_at "o")];rfl
 refine q prs ⟨fun z=>r0 (by rw[<-hmap,z];rfl),?_,fun pr sr=>?_⟩ (by walk_at "o")
 ·rw[<-hmap,List.pairwise_map] at r2
  exact r2
 ·obtain⟨k,hk⟩:=jm sr
  obtain⟨e1,e2,e3⟩:=MC k pr hk
  obtain⟨g1,g2⟩:=r3 _ (iQ e1)
  exact⟨g1,g2,by walk_at "o",e3⟩
noncomputable def C6(C CP CL CC CD:Addr):MF:=fun cs ds Φ=>∃(x dx a1 a2 o o1 o2:Addr) (p n many:Int) (es:br) (last:PyData) (L:c9) (gs:List Int),cs=[bF C x dx a1 a2 p n es many last,stC (.ref o) false L]/\ds=[.int p, .int n]/\kP p/\p<10^40/\1<=n/\n<=400/\cg p n many es/\0<=many/\es.length<1000/\LastOk p n es last/\eG L o o1 o2 many (es.map (·.1)) gs/\
 ∀es' mH last' L',cg p n mH es'->0<=mH->mH<=many+1->es'.length<=es.length+1->LastOk p n es' last'->eG L' o o1 o2 mH (es'.map (·.1)) gs->Φ [bF C x dx a1 a2 p n es' mH last',stC (.ref o) false L'] true (.bool true)
theorem YQ{C CP CL CC CD:Addr}:zK (C6 C CP CL CC CD):=fun cs ds Φ Ψ ⟨x,dx,a1,a2,o,o1,o2,p,n,many,es,last,L,gs,e1,e2,h1,h2,h3,h4,h5,h6,h7,h8,h9,q⟩ z=>⟨x,dx,a1,a2,o,o1,o2,p,n,many,es,last,L,gs,e1,e2,h1,h2,h3,h4,h5,h6,h7,h8,h9,fun es' mH last' L' k1 k2 k3 k4 k5 k6=>z _ _ _ (q es' mH last' L' k1 k2 k3 k4 k5 k6)⟩
theorem lT:cW ["bag","desk","p","n","own","way","deed","due"] ["bag","desk","p","n","own"] (aW Ey):=⟨rfl,rfl,rfl,by decide+kernel,rfl,by decide+kernel,by decide+kernel⟩
theorem PM(F:bW K "_law_tell" "_law_tell" Ey f fd){aN:Addr}{aK:Addr}{aH:Addr}{aP:Addr}{aO:Addr}{ak:Addr}(fR:XI K aN [])(fP:mg "NetError"=some (.ref aN))(eV:XI K aK [.ref aN])(iU:mg "NoPlace"=some (.ref aK))(dY:XI K aH [.ref aN])(ig:mg "NoLetter"=some (.ref aH))(fE:XI K aP [.ref aN])(jZ:mg "NoCheck"=some (.ref aP))(fK:XI K aO [.ref aN])(jG:mg "NoDeed"=some (.ref aO))(dJ:Callee P w K mg base "_law_draw" 1 ["bag","many"] jr)(oX:Callee P w K mg base "_law_alike" 4 ["found","due"] (ic 2 (kQ 4)))(Fc:Callee P w K mg base "_law_letter" 2 ["bag","p"] (iJ 2 Dc))(By:Callee P w K mg base "_law_done" 4 ["desk","deed"] (iC 2 (pM ak aK aH aP aO)))(V6:Callee P w K mg base "_law_pairs" 3 ["bag","p","n"] (iJ 3 BO)):
  aY P w K mg base cT 5 f fd ["bag","desk","p","n","own"] (pL [true,false,false,true] (C6 ak aK aH aP aO)):=by
 refine F.ok lT (fun vs H Q E h=>h.1) (fun cdv A outer s H vs Q E hr h=>?_)
 obtain⟨b,l,nb,Od,ws,ds,Φ,rfl,hfit,aC,AH,hw,hF⟩:=HB h
 obtain⟨x,dx,a1,a2,o,o1,o2,p,n,many,es,last,L,gs,rfl,rfl,hp,kY,n1,n4,hok,hm0,hlen,ie,how,q⟩:=hF
 refine⟨_,(@aG _ _ _ _ _ (@bD _ _ (5) _ _ _ _ lT.nd rfl (Or.inl rfl) (@bO _ _ _ _ _ _ _ _ _ _ dJ (hr.mono (by decide)) (@aa _ _ _ _ _ (pv 0) (@aa _ _ _ _ _ ai aj rfl) rfl) (by rfl) (by decide) (by rfl) (by rfl)) (by rfl) (by first|exact .inl rfl|exact .inr rfl|assumption)) (@aG _ _ _ _ _ (@bD _ _ (6) _ _ _ _ lT.nd rfl (Or.inl rfl) (@ir _ _ _ _ _ (@aa _ _ _ _ _ eE (@aa _ _ _ _ _ (@bO _ _ _ _ _ _ _ _ _ _ dJ (hr.mono (by decide)) (@aa _ _ _ _ _ (pv 0) (@aa _ _ _ _ _ (pv 3) aj rfl) rfl) (by rfl) (by decide) (by rfl) (by rfl)) (@aa _ _ _ _ _ (@bO _ _ _ _ _ _ _ _ _ _ Fc (hr.mono (by decide)) (@aa _ _ _ _ _ (pv 0) (@aa _ _ _ _ _ (pv 2) aj rfl) rfl) (by rfl) (by decide) (by rfl) (by rfl)) aj rfl) rfl) rfl)) (by rfl) (by first|exact .inl rfl|exact .inr rfl|assumption)) (@aG _ _ _ _ _ (@dH _ _ _ _ _ _ _ _ (@bZ _ _ _ _ _ _ _ _ ou (pv 5) ai (bV _)) (@aJ _ _ _ (@bD _ _ (6) _ _ _ _ lT.nd rfl (Or.inl rfl) (@ir _ _ _ _ _ (@aa _ _ _ _ _ eE (@aa _ _ _ _ _ (@bO _ _ _ _ _ _ _ _ _ _ V6 (hr.mono (by decide)) (@aa _ _ _ _ _ (pv 0) (@aa _ _ _ _ _ (pv 2) (@aa _ _ _ _ _ (pv 3) aj rfl) rfl) rfl) (by rfl) (by decide) (by rfl) (by rfl)) (@aa _ _ _ _ _ (@bO _ _ _ _ _ _ _ _ _ _ Fc (hr.mono (by decide)) (@aa _ _ _ _ _ (pv 0) (@aa _ _ _ _ _ (pv 2) aj rfl) rfl) (by rfl) (by decide) (by rfl) (by rfl)) aj rfl) rfl) rfl)) (by rfl) (by first|exact .inl rfl|exact .inr rfl|assumption))) fX) (@aG _ _ _ _ _ (@bD _ _ (7) _ _ _ _ lT.nd rfl (Or.inl rfl) (@ir _ _ _ _ _ (@aa _ _ _ _ _ (@aR _ _ _ _ _ _ (bS K) bq (pv 4) ai (fun _ _=>rfl)) (@aa _ _ _ _ _ (@dS _ _ _ _ aj) aj rfl) rfl)) (by rfl) (by first|exact .inl rfl|exact .inr rfl|assumption)) (@aG _ _ _ _ _ (@dH _ _ _ _ _ _ _ _ (@bZ _ _ _ _ _ _ _ _ iR (pv 5) ai (bV _)) (@aG _ _ _ _ _ (@bD _ _ (7) _ _ _ _ lT.nd rfl (Or.inl rfl) (@ir _ _ _ _ _ (@aa _ _ _ _ _ ly (@aa _ _ _ _ _ (@dS _ _ _ _ (@aa _ _ _ _ _ eE aj rfl)) aj rfl) rfl)) (by rfl) (by first|exact .inl rfl|exact .inr rfl|assumption)) (@aJ _ _ _ (@bD _ _ (6) _ _ _ _ lT.nd rfl (Or.inl rfl) (@ir _ _ _ _ _ (@aa _ _ _ _ _ eE (@aa _ _ _ _ _ (pv 3) (@aa _ _ _ _ _ (@aR _ _ _ _ _ _ (i7 K) jO (pv 6) ai (fun _ _=>rfl)) aj rfl) rfl) rfl)) (by rfl) (by first|exact .inl rfl|exact .inr rfl|assumption)))) fX) (@aG _ _ _ _ _ (@dH _ _ _ _ _ _ _ _ (@bZ _ _ _ _ _ _ _ _ iR (pv 5) ai (bV _)) (@aG _ _ _ _ _ (@bD _ _ (7) _ _ _ _ lT.nd rfl (Or.inl rfl) (@ir _ _ _ _ _ (@aa _ _ _ _ _ ly (@aa _ _ _ _ _ (@dS _ _ _ _ (@aa _ _ _ _ _ eE aj rfl)) aj rfl) rfl)) (by rfl) (by first|exact .inl rfl|exact .inr rfl|assumption)) (@aJ _ _ _ (@bD _ _ (6) _ _ _ _ lT.nd rfl (Or.inl rfl) (@ir _ _ _ _ _ (@aa _ _ _ _ _ eE (@aa _ _ _ _ _ (@dS _ _ _ _ aj) (@aa _ _ _ _ _ (@aR _ _ _ _ _ _ (i7 K) jO (pv 6) ai (fun _ _=>rfl)) aj rfl) rfl) rfl)) (by rfl) (by first|exact .inl rfl|exact .inr rfl|assumption)))) fX) (@aG _ _ _ _ _ (@dH _ _ _ _ _ _ _ _ (@bZ _ _ _ _ _ _ _ _ ou (pv 5) ai (bV _)) (@aG _ _ _ _ _ (@lP _ _ _ _ (q8 wC AV ED yN (@aR _ _ _ _ _ _ (bS K) bq (pv 4) ai (fun _ _=>rfl)) (@aa _ _ _ _ _ (@aR _ _ _ _ _ _ (bS K) bq (pv 4) ai (fun _ _=>rfl)) aj rfl)) (by rfl)) (@aJ _ _ _ (@m8 _ _ _ _ _ _ (@aU _ _ _ _ _ _ _ _ fN (@aR _ _ _ _ _ _ (bS K) bq (pv 4) ai (fun _ _=>rfl)) ai) (nF (pv 4) ai set_list) (by rfl) (by rfl) (by rfl)))) fX) (@aJ _ _ _ (@cL _ _ _ _ (@bO _ _ _ _ _ _ _ _ _ _ oX (hr.mono (by decide)) (@aa _ _ _ _ _ (@bO _ _ _ _ _ _ _ _ _ _ By (hr.mono (by decide)) (@aa _ _ _ _ _ (pv 1) (@aa _ _ _ _ _ (pv 6) aj rfl) rfl) (by rfl) (by decide) (by rfl) (by rfl)) (@aa _ _ _ _ _ (pv 7) aj rfl) rfl) (by rfl) (by decide) (by rfl) (by rfl))))))))))),?_⟩
 refine Sv.GB hfit aC AH hw (ρ:=[.ao, .cu _, .d false _, .d false _, .cu _, .no, .no, .no]) rfl ?_
 clear aC hw
 have p2:=hp.1
 have hso:=Hj hok hm0 (by walk_at "o")
 walk_at "dt"
 intro w w0 w1
 refine Gv.mR ?_
 walk_at "dt"
 intro r r0 r1
 walk_at "dt"
 refine Ev.pO MX rfl ?_
 walk_at "dt"
 refine⟨rfl,p,rfl,p2,kY,fun y y0 y1=>?_⟩
 generalize uI:(oM (qV _ (i6 _ (gC 6)) _) _:TS)=tl
 walk_at "dt"
 subst uI
 have Zo:¬mS p n []:=fun h=>h.1 rfl
 refine Sv.seq ?_
 refine Sv.Jk (fun ρ'=>∃(k:Ask) (f6:Bool),((w<2/\∃prs z,k= .ck prs z/\mS p n prs/\0<=z/\z<p)\/(¬w<2/\k= .lt r y))/\ρ'=[.ao, .cu (bF ak x dx a1 a2 p n es many last), .d false (.int p), .d false (.int n), .cu (stC (.ref o) false L), .d true (.int w), .d f6 (jC k), .no]) ?_ ?_
 ·by_cases c:w<2
  ·walk_at "dt"
   refine Ev.pO Yr rfl ?_
   walk_at "dt"
   refine⟨rfl,p,n,rfl,hp,kY,n1,n4,fun prs hck hpl=>?_⟩
   refine Av.cons (Ev.pO MX rfl ?_)
   walk_at "dt"
   refine⟨rfl,p,rfl,p2,kY,fun z z0 z1=>?_⟩
   walk_at "dt"
   exact⟨.ck prs z,_, .inl ⟨c,prs,z,rfl,hck,z0,z1⟩,rfl⟩
  ·walk_at "dt"
   exact⟨.lt r y,_, .inr ⟨c,rfl⟩,rfl⟩
 rintro ρ ⟨k,f6,hk,rfl⟩
 refine Sv.seq (Sv.asg (Ev.tup (Av.cons (Ev.zJ (i:=4) rfl (fB.root rfl (Ev.int ⟨0,_,_,rfl,how.h0,rfl,?_⟩))))))
 refine Av.cons (Ev.lst (Av.nil ⟨by decide,?_⟩))
 refine Av.nil ⟨by show 2<=10000;decide,?_⟩
 refine Gv.Kf ?_
 change Sv _ [.ao, .cu (bF ak x dx a1 a2 p n es many last), .d false (.int p), .d false (.int n), .cu (stC (.ref o) false L), .d true (.int w), .d f6 (jC k), .d false (pA (.int many) [])] _ _
 have fin:∀(k':Ask) (L':c9) (d6 d7:Bool),(∀v,k'≠ .wy v)->gH (aV p n many es k').found=true->(aV p n many es k').names.length<=10000->eG L' o o1 o2 (aV p n many es k').many ((aV p n many es k').es.map (·.1)) gs->(∀a∈L.map (·.1),a∈L'.map (·.1))->Sv (fV (some (b,l)) [bF ak x dx a1 a2 p n es many last,stC (V.ref o) false L] H nb) [.ao, .cu (bF ak x dx a1 a2 p n es many last), .d false (.int p), .d false (.int n), .cu (stC (.ref o) false L'), .d true (.int w), .d d6 (jC k'), .d d7 (pA (aV p n many es k').found (aV p n many es k').names)] (pN (fq (ic 2 (kQ 4)) [] E0 (aL (fq (iC 2 (pM ak aK aH aP aO)) [] E0 (aL (bf 1) (aL (bf 6) aX))) (aL (bf 7) aX)))) (qI (fV (some (b,l)) [bF ak x dx a1 a2 p n es many last,stC (V.ref o) false L] H nb) (iP 1 [true,false,false,true]) [bF ak x dx a1 a2 p n es many last,stC (V.ref o) false L] Φ):=fun k' L' d6 d7 hw hs hnl ho hsub=>by
  refine Sv.lJ ?_
  refine bK.nH (tE 4) ?_
  refine uo.cons (bK.callC K8 rfl rfl ?_)
  walk_at "dt"
  refine⟨rfl,x,dx,a1,a2,p,n,many,es,last,k',rfl,rfl,hok,ie,hw,fun last' hl'=>?_⟩
  walk_at "dt"
  refine⟨rfl,_,rfl,Ms _ _ hs hnl,?_⟩
  intro au v' H' hv
  obtain⟨s1,s2,s3⟩:=hso k'
  exact⟨[_,_],_,_, .mk rfl (.mk rfl .om), .mk ⟨rfl,rfl,fun a m=>m⟩ (.mk (FL hsub) .om),q _ _ _ _ s1 s2 (PL p n many es k') s3 hl' ho,hv⟩
 generalize hT:(oM (qV (tU (cG (fL _) (bf 5) (tC (V.int 4)))) _ _) _:TS)=T
 have upd:∀(k':Ask) (dd:iD) (d6 d7:Bool),w<4->(∀v,k'≠ .wy v)->aV p n many es k'=⟨es++[(many,dd)],many+1, .int many,[]⟩->Sv (fV (some (b,l)) [bF ak x dx a1 a2 p n es many last,stC (V.ref o) false L] H nb) [.ao, .cu (bF ak x dx a1 a2 p n es many last), .d false (.int p), .d false (.int n), .cu (stC (.ref o) false L), .d true (.int w), .d d6 (jC k'), .d d7 (pA (.int many) [])] T (qI (fV (some (b,l)) [bF ak x dx a1 a2 p n es many last,stC (V.ref o) false L] H nb) (iP 1 [true,false,false,true]) [bF ak x dx a1 a2 p n es many last,stC (V.ref o) false L] Φ):=fun k' dd d6 d7 Ct CZ hout=>by
  subst hT
  refine Sv.seq (Sv.jL ?_)
  refine Tv.test (Ev.BU (Ev.var rfl ⟨w,rfl,Ev.int ⟨4,rfl,_,rfl,?_⟩⟩))
  rw[if_pos (decide_eq_true Ct)]
  refine Sv.seq ?_
  refine Sv.Ii (i:=4) rfl (fB.vp (i:=4) rfl (fB.root rfl (Ev.int ⟨1,_,_,rfl,how.h0,rfl,_,how.h1,by rw[ay,ay];walk_at "o",?_⟩)))
  refine Ev.zJ (i:=4) rfl (fB.root rfl (Ev.int ⟨0,_,_,rfl,how.h0,rfl,?_⟩))
  have kE:=how.Ia (es.map (·.1)++[many])
  rw[mJ] at kE
  refine Sv.Xh (i:=4) rfl ?_
  refine Ev.fL (Ev.zJ (i:=4) rfl (fB.root rfl (Ev.int ⟨0,_,_,rfl,kE.h0,rfl,many,rfl,Ev.int ⟨1,rfl,?_⟩⟩)))
  refine fB.root rfl (Ev.int ⟨0,0,_,rfl,kE.h0,rfl,?_⟩)
  have ho2:=kE.Sd (many+1)
  have hf:=fun L2=>fin k' L2 d6 d7 CZ
  rw[hout] at hf
  refine hf _ rfl (eU _) ?_ (xS (xS fun a m=>m))
  rw[show(es++[(many,dd)]).map (·.1)=es.map (·.1)++[many] by rw[mJ];rfl]
  exact ho2
 have skip:∀(k':Ask) (d6 d7:Bool),¬w<4->(∀v,k'≠ .wy v)->aV p n many es k'=⟨es,many, .none,(aV p n many es k').names⟩->(aV p n many es k').names.length<=10000->Sv (fV (some (b,l)) [bF ak x dx a1 a2 p n es many last,stC (V.ref o) false L] H nb) [.ao, .cu (bF ak x dx a1 a2 p n es many last), .d false (.int p), .d false (.int n), .cu (stC (.ref o) false L), .d true (.int w), .d d6 (jC k'), .d d7 (pA .none (aV p n many es k').names)] T (qI (fV (some (b,l)) [bF ak x dx a1 a2 p n es many last,stC (V.ref o) false L] H nb) (iP 1 [true,false,false,true]) [bF ak x dx a1 a2 p n es many last,stC (V.ref o) false L] Φ):=fun k' d6 d7 Ct CZ hout hnl=>by
  subst hT
  refine Sv.seq (Sv.jL ?_)
  refine Tv.test (Ev.BU (Ev.var rfl ⟨w,rfl,Ev.int ⟨4,rfl,_,rfl,?_⟩⟩))
  rw[if_neg (by rw[decide_eq_false Ct];decide)]
  refine Sv.next ?_
  have hf:=fin k' L d6 d7 CZ
  have e1:(aV p n many es k').found= .none:=by rw[hout]
  have e2:(aV p n many es k').es=es:=by rw[hout]
  have e3:(aV p n many es k').many=many:=by rw[hout]
  rw[e1,e2,e3] at hf
  exact hf rfl hnl how fun a m=>m
 rcases hk with ⟨c,prs,z,rfl,hck,z0,z1⟩|⟨c,rfl⟩
 ·walk_at "dt"
  exact upd (.ck prs z) (.ck prs z) f6 false (by walk_at "o") (fun _=>by simp) (by simp only[aV];rw[if_pos hck,if_pos ⟨z0,z1⟩])
 by_cases c4:w<4
 ·walk_at "dt"
  exact upd (.lt r y) (.lt r y) f6 false c4 (fun _=>by simp) (by simp only[aV];rw[if_pos ⟨r0,r1⟩,if_pos ⟨y0,y1⟩])
 by_cases c5:w=4
 ·have hd:aV p n many es (.lt n y)=⟨es,many, .none,["NoPlace"]⟩:=by simp only[aV];rw[if_neg (by walk_at "o")]
  have hs:=skip (.lt n y) false false c4 (fun _=>by simp) (by rw[hd]) (by rw[hd];show 1<=10000;decide)
  rw[hd] at hs
  rw[show jC (.lt r y)= .tuple [.str "letter", .int r, .int y] from rfl]
  walk_at "dt"
  exact hs
 ·have hd:aV p n many es (.ck [] y)=⟨es,many, .none,["NoCheck"]⟩:=by simp only[aV];rw[if_neg Zo]
  have hs:=skip (.ck [] y) false false c4 (fun _=>by simp) (by rw[hd]) (by rw[hd];show 1<=10000;decide)
  rw[hd] at hs
  rw[show jC (.lt r y)= .tuple [.str "letter", .int r, .int y] from rfl]
  walk_at "dt"
  exact hs
noncomputable def Bs:DF:=fun ds Φ=>∃(m way:Int) (ns gs:List Int),ds=[Dt m ns gs, .int way]/\0<=way/\way<5/\0<=m/\m<=4000/\ns.length<=4000/\gs.length<=4000/\∀(f:Bool) (k:Int),Φ f (.int k)
theorem Rl:jM Bs:=by
 intro ds Φ Ψ hm z;revert hm
 walk_at "mo";exact fun q=>fun f k=>z _ _ (q f k)
theorem Rj:cW ["bag","own","way"] ["bag","own","way"] (aW BC):=⟨rfl,rfl,rfl,by decide+kernel,rfl,by decide+kernel,by decide+kernel⟩
theorem Zq(F:bW K "_law_number" "_law_number" BC f fd)(dJ:Callee P w K mg base "_law_draw" 1 ["bag","many"] jr)(eZ:mg "len"=none):
  aY P w K mg base cT 2 f fd ["bag","own","way"] (iJ 3 Bs):=by
 refine F.ok Rj (fun vs H Q E h=>h.1) (fun cdv A outer s H vs Q E hr h=>?_)
 obtain⟨b,l,ws,nb,ds,Φ,rfl,hB,hlive,hnb,hds,aC,hF⟩:=qF h
 obtain⟨m,way,ns,gs,rfl,w0,w1,m0,m1,hn,hg,q⟩:=hF
 refine⟨_,(@aG _ _ _ _ _ (@dH _ _ _ _ _ _ _ _ (PW.pt (uS (@bZ _ _ _ _ _ _ _ _ iR (pv 2) ai (bV _)) (uQ (@bZ _ _ _ _ _ _ _ _ (HM hr.units) (@aR _ _ _ _ _ _ (bS K) bq (pv 1) ai (fun _ _=>rfl)) (@dS _ _ _ _ aj) (bV _))))) (@aJ _ _ _ (@cL _ _ _ _ (@aR _ _ _ _ _ _ (bS K) bq (@aR _ _ _ _ _ _ (bS K) bq (pv 1) ai (fun _ _=>rfl)) (@bO _ _ _ _ _ _ _ _ _ _ dJ (hr.mono (by decide)) (@aa _ _ _ _ _ (pv 0) (@aa _ _ _ _ _ (@cP _ _ _ _ _ _ _ _ (kH K) oh rfl eZ nD (@aa _ _ _ _ _ (@aR _ _ _ _ _ _ (bS K) bq (pv 1) ai (fun _ _=>rfl)) aj rfl) (by decide) (by decide) (by rfl) (by rfl)) aj rfl) rfl) (by rfl) (by decide) (by rfl) (by rfl)) (fun _ _=>rfl)))) fX) (@aG _ _ _ _ _ (@dH _ _ _ _ _ _ _ _ (PW.pt (uS (@bZ _ _ _ _ _ _ _ _ iR (pv 2) ai (bV _)) (uQ (@bZ _ _ _ _ _ _ _ _ (HM hr.units) (@aR _ _ _ _ _ _ (bS K) bq (pv 1) ai (fun _ _=>rfl)) (@dS _ _ _ _ aj) (bV _))))) (@aJ _ _ _ (@cL _ _ _ _ (@aR _ _ _ _ _ _ (bS K) bq (@aR _ _ _ _ _ _ (bS K) bq (pv 1) ai (fun _ _=>rfl)) (@bO _ _ _ _ _ _ _ _ _ _ dJ (hr.mono (by decide)) (@aa _ _ _ _ _ (pv 0) (@aa _ _ _ _ _ (@cP _ _ _ _ _ _ _ _ (kH K) oh rfl eZ nD (@aa _ _ _ _ _ (@aR _ _ _ _ _ _ (bS K) bq (pv 1) ai (fun _ _=>rfl)) aj rfl) (by decide) (by decide) (by rfl) (by rfl)) aj rfl) rfl) (by rfl) (by decide) (by rfl) (by rfl)) (fun _ _=>rfl)))) fX) (@aJ _ _ _ (@cL _ _ _ _ (@aR _ _ _ _ _ _ (bS K) bq (@dS _ _ _ _ (@aa _ _ _ _ _ (@aR _ _ _ _ _ _ (bS K) bq (pv 1) ai (fun _ _=>rfl)) (@aa _ _ _ _ _ (@aR _ _ _ _ _ _ (bS K) bq (pv 1) ai (fun _ _=>rfl)) (@aa _ _ _ _ _ (@aR _ _ _ _ _ _ (bS K) bq (pv 1) ai (fun _ _=>rfl)) (@aa _ _ _ _ _ (@aU _ _ _ _ _ _ _ _ uC (@aU _ _ _ _ _ _ _ _ uC ai ai) (@bO _ _ _ _ _ _ _ _ _ _ dJ (hr.mono (by decide)) (@aa _ _ _ _ _ (pv 0) (@aa _ _ _ _ _ (@aU _ _ _ _ _ _ _ _ su ai ai) aj rfl) rfl) (by rfl) (by decide) (by rfl) (by rfl))) (@aa _ _ _ _ _ (@aU _ _ _ _ _ _ _ _ fN (@aR _ _ _ _ _ _ (bS K) bq (pv 1) ai (fun _ _=>rfl)) (@bO _ _ _ _ _ _ _ _ _ _ dJ (hr.mono (by decide)) (@aa _ _ _ _ _ (pv 0) (@aa _ _ _ _ _ (@aU _ _ _ _ _ _ _ _ su ai ai) aj rfl) rfl) (by rfl) (by decide) (by rfl) (by rfl))) aj rfl) rfl) rfl) rfl) rfl)) (pv 2) (fun _ _=>rfl)))))),?_⟩
 refine Sv.rV hB hlive hnb hds aC (ρ:=[.ao, .d false _, .d false _]) rfl ?_
 clear aC hds
 have hne:∀ns:List Int,(PyData.eqv (mP ns) (.list []) !=true)=decide (ns≠[]):=fun ns=>by
  rw[show PyData.eqv (mP ns) (.list [])=decide (ns=[]) from OQ ns []]
  by_cases c:ns=[]<;>simp[c]
 have hat:∀{ns:List Int} {r:Int},0<=r->r<ns.length->∃k,cB (ns.map PyData.int) r=some (.int k):=fun{ns r} h0 h1=>by
  have hl:r.toNat<ns.length:=by walk_at "o"
  exact⟨ns[r.toNat],rj h0 (by rw[dG,bE hl];rfl)⟩
 have Lq:∀ns:List Int,(ns.map PyData.int).length=ns.length:=fun ns=>ay ..
 generalize ie:(pN (cG (bS K) (mK (aL _ _)) (bf 2)):TS)=tl
 have last:∀{E:DE},E.rt=Φ->Sv {B:=some (b,l),H0:=H,A:=nb} [Sl.ao,Sl.d false (Dt m ns gs),Sl.d false (PyData.int way)] tl E:=fun{E} hE=>by
  subst ie
  walk_at "dt"
  intro r r0 r1
  walk_at "dt"
  intro r' r0' r1'
  walk_at "dt"
  obtain⟨k,ek,_⟩:=pick (L:=[m,m,m,0-1-r,m+r']) w0 (by show way<5;walk_at "o") (fun _=>True) (by simp)
  refine⟨.int k,ek,?_⟩
  rw[hE]
  exact q _ k
 walk_at "dt"
 by_cases c0:way=0
 ·rw[if_pos (decide_eq_true c0)]
  walk_at "dt"
  refine⟨shaped_ints _,by rfl,_,rfl,?_⟩
  rw[show(PyData.eqv (.list (ns.map .int)) (.list (List.map (fun x:Fd=>x.2) [])) !=true)=decide (ns≠[]) from hne ns]
  by_cases c1:ns=[]
  ·rw[if_neg (by simpa using c1)]
   walk_at "dt"
   exact last rfl
  ·rw[if_pos (decide_eq_true c1)]
   have hpos:0<ns.length:=Jg.mpr c1
   walk_at "dt"
   rw[Lq]
   refine⟨by walk_at "o",by unfold Sm;walk_at "o",fun r r0 r1=>?_⟩
   obtain⟨k,ek⟩:=hat r0 r1
   exact⟨r,rfl,_,ek,q _ k⟩
 rw[if_neg (by simpa using c0)]
 walk_at "dt"
 by_cases c1:way=1
 ·rw[if_pos (decide_eq_true c1)]
  walk_at "dt"
  refine⟨shaped_ints _,by rfl,_,rfl,?_⟩
  rw[show(PyData.eqv (.list (gs.map .int)) (.list (List.map (fun x:Fd=>x.2) [])) !=true)=decide (gs≠[]) from hne gs]
  by_cases c2:gs=[]
  ·rw[if_neg (by simpa using c2)]
   walk_at "dt"
   exact last rfl
  ·rw[if_pos (decide_eq_true c2)]
   have hpos:0<gs.length:=Jg.mpr c2
   walk_at "dt"
   rw[Lq]
   refine⟨by walk_at "o",by unfold Sm;walk_at "o",fun r r0 r1=>?_⟩
   obtain⟨k,ek⟩:=hat r0 r1
   exact⟨r,rfl,_,ek,q _ k⟩
 rw[if_neg (by simpa using c1)]
 walk_at "dt"
 exact last rfl
noncomputable def Ci(C CP CL CC CD:Addr):MF:=fun cs ds Φ=>∃(x dx a1 a2 o o1 o2:Addr) (p n many:Int) (es:br) (last:PyData) (L:c9) (gs:List Int),cs=[bF C x dx a1 a2 p n es many last,stC (.ref o) false L]/\ds=[]/\cg p n many es/\0<=many/\many<1000/\es.length<1000/\gs.length<1000/\LastOk p n es last/\eG L o o1 o2 many (es.map (·.1)) gs/\
 ∀es' last' L' gs',cg p n many es'->es'.length<=es.length->gs'.length<=gs.length+1->LastOk p n es' last'->eG L' o o1 o2 many (es'.map (·.1)) gs'->Φ [bF C x dx a1 a2 p n es' many last',stC (.ref o) false L'] true (.bool true)
theorem Tn{C CP CL CC CD:Addr}:zK (Ci C CP CL CC CD):=fun cs ds Φ Ψ ⟨x,dx,a1,a2,o,o1,o2,p,n,many,es,last,L,gs,e1,e2,h1,h2,h3,h4,h5,h6,h7,q⟩ z=>⟨x,dx,a1,a2,o,o1,o2,p,n,many,es,last,L,gs,e1,e2,h1,h2,h3,h4,h5,h6,h7,fun es' last' L' gs' k1 k2 k3 k4 k5=>z _ _ _ (q es' last' L' gs' k1 k2 k3 k4 k5)⟩
theorem zS:cW ["bag","desk","own","number","due"] ["bag","desk","own"] (aW Cc):=⟨rfl,rfl,rfl,by decide+kernel,rfl,by decide+kernel,by decide+kernel⟩
theorem Wj(F:bW K "_law_back" "_law_back" Cc f fd){aN:Addr}{aK:Addr}{aH:Addr}{aP:Addr}{aO:Addr}{ak:Addr}(fR:XI K aN [])(fP:mg "NetError"=some (.ref aN))(eV:XI K aK [.ref aN])(iU:mg "NoPlace"=some (.ref aK))(dY:XI K aH [.ref aN])(ig:mg "NoLetter"=some (.ref aH))(fE:XI K aP [.ref aN])(jZ:mg "NoCheck"=some (.ref aP))(fK:XI K aO [.ref aN])(jG:mg "NoDeed"=some (.ref aO))(QA:Callee P w K mg base "_law_number" 2 ["bag","own","way"] (iJ 3 Bs))(oX:Callee P w K mg base "_law_alike" 4 ["found","due"] (ic 2 (kQ 4)))(By:Callee P w K mg base "_law_done" 4 ["desk","deed"] (iC 2 (pM ak aK aH aP aO)))(dJ:Callee P w K mg base "_law_draw" 1 ["bag","many"] jr):
  aY P w K mg base cT 5 f fd ["bag","desk","own"] (pL [true,true] (Ci ak aK aH aP aO)):=by
 refine F.ok zS (fun vs H Q E h=>h.1) (fun cdv A outer s H vs Q E hr h=>?_)
 obtain⟨b,l,nb,Od,ws,ds,Φ,rfl,hfit,aC,AH,hw,hF⟩:=HB h
 obtain⟨x,dx,a1,a2,o,o1,o2,p,n,many,es,last,L,gs,rfl,rfl,hok,hm0,hm1,hlen,ZF,ie,how,q⟩:=hF
 refine⟨_,(@aG _ _ _ _ _ (@bD _ _ (3) _ _ _ _ zS.nd rfl (Or.inl rfl) (@bO _ _ _ _ _ _ _ _ _ _ QA (hr.mono (by decide)) (@aa _ _ _ _ _ (pv 0) (@aa _ _ _ _ _ (pv 2) (@aa _ _ _ _ _ (@aR _ _ _ _ _ _ (bS K) bq (@dS _ _ _ _ (@CI _ _ _ rfl)) (@bO _ _ _ _ _ _ _ _ _ _ dJ (hr.mono (by decide)) (@aa _ _ _ _ _ (pv 0) (@aa _ _ _ _ _ ai aj rfl) rfl) (by rfl) (by decide) (by rfl) (by rfl)) (fun _ _=>rfl)) aj rfl) rfl) rfl) (by rfl) (by decide) (by rfl) (by rfl)) (by rfl) (by first|exact .inl rfl|exact .inr rfl|assumption)) (@aG _ _ _ _ _ (@bD _ _ (4) _ _ _ _ zS.nd rfl (Or.inl rfl) (@ir _ _ _ _ _ (@aa _ _ _ _ _ ly (@aa _ _ _ _ _ (@dS _ _ _ _ (@aa _ _ _ _ _ eE aj rfl)) aj rfl) rfl)) (by rfl) (by first|exact .inl rfl|exact .inr rfl|assumption)) (@aG _ _ _ _ _ (@dH _ _ _ _ _ _ _ _ (bZ (XS (K:=K) (by rfl)) (pv 3) (@aR _ _ _ _ _ _ (bS K) bq (pv 2) ai (fun _ _=>rfl)) (by with_unfolding_all rfl)) (@aG _ _ _ _ _ (@bD _ _ (4) _ _ _ _ zS.nd rfl (Or.inl rfl) (@ir _ _ _ _ _ (@aa _ _ _ _ _ ly (@aa _ _ _ _ _ (@dS _ _ _ _ aj) aj rfl) rfl)) (by rfl) (by first|exact .inl rfl|exact .inr rfl|assumption)) (@aG _ _ _ _ _ (@lP _ _ _ _ (q8 wC Lu PySem.F.type_list_remove U8 (@aR _ _ _ _ _ _ (bS K) bq (pv 2) ai (fun _ _=>rfl)) (@aa _ _ _ _ _ (pv 3) aj rfl)) (by rfl)) (@aJ _ _ _ (@lP _ _ _ _ (q8 wC AV ED yN (@aR _ _ _ _ _ _ (bS K) bq (pv 2) ai (fun _ _=>rfl)) (@aa _ _ _ _ _ (pv 3) aj rfl)) (by rfl))))) fX) (@aJ _ _ _ (@cL _ _ _ _ (@bO _ _ _ _ _ _ _ _ _ _ oX (hr.mono (by decide)) (@aa _ _ _ _ _ (@bO _ _ _ _ _ _ _ _ _ _ By (hr.mono (by decide)) (@aa _ _ _ _ _ (pv 1) (@aa _ _ _ _ _ (@ir _ _ _ _ _ (@aa _ _ _ _ _ eE (@aa _ _ _ _ _ (pv 3) aj rfl) rfl)) aj rfl) rfl) (by rfl) (by decide) (by rfl) (by rfl)) (@aa _ _ _ _ _ (pv 4) aj rfl) rfl) (by rfl) (by decide) (by rfl) (by rfl))))))),?_⟩
 refine Sv.GB hfit aC AH hw (ρ:=[.ao, .cu _, .cu _, .no, .no]) rfl ?_
 clear aC hw
 have hfl:((es.map (·.1)).map PyData.int).length=es.length:=by rw[ay,ay]
 have hel:(es.map (·.1)).length=es.length:=ay ..
 refine Sv.seq (Sv.asg (Ev.zk 2 rfl how.Du ?_))
 walk_at "dt"
 refine Ev.pO Rl rfl ?_
 walk_at "dt"
 intro r r0 r1
 obtain⟨wy,Yw,y0,y1⟩:=pick (L:=[0,0,0,1,2,3,4]) r0 (by show r<7;walk_at "o") (fun x=>0<=x/\x<5) (by decide)
 refine⟨_,rfl,_,Yw,?_⟩
 refine Av.nil ⟨rfl,many,wy,es.map (·.1),gs,rfl,y0,y1,hm0,by walk_at "o",by walk_at "o",by walk_at "o",fun f3 k=>⟨rfl,?_⟩⟩
 refine Gv.mR ?_
 generalize uI:(oM (qV (tU (cG (zG K false) _ _)) _ _) _:TS)=tl
 walk_at "dt"
 subst uI
 have fin:∀(es':br) (L':c9) (names:List Str) (gs':List Int) (d4:Bool),aV p n many es (.bk k)=⟨es',many, .none,names⟩->names.length<=10000->es'.length<=es.length->gs'.length<=gs.length+1->eG L' o o1 o2 many (es'.map (·.1)) gs'->(∀a∈L.map (·.1),a∈L'.map (·.1))->Sv (fV (some (b,l)) [bF ak x dx a1 a2 p n es many last,stC (V.ref o) false L] H nb) [.ao, .cu (bF ak x dx a1 a2 p n es many last), .cu (stC (.ref o) false L'), .d true (.int k), .d d4 (pA .none names)] (pN (fq (ic 2 (kQ 4)) [] E0 (aL (fq (iC 2 (pM ak aK aH aP aO)) [] E0 (aL (bf 1) (aL (sC (aL (tC (V.str (Str.ofString "back"))) (aL (bf 3) aX))) aX))) (aL (bf 4) aX)))) (qI (fV (some (b,l)) [bF ak x dx a1 a2 p n es many last,stC (V.ref o) false L] H nb) (iP 1 [true,true]) [bF ak x dx a1 a2 p n es many last,stC (V.ref o) false L] Φ):=fun es' L' names gs' d4 hout hnl PN QJ ho hsub=>by
  refine Sv.lJ ?_
  refine bK.nH (tE 4) ?_
  refine uo.cons (bK.callC K8 rfl rfl ?_)
  walk_at "dt"
  refine⟨rfl,x,dx,a1,a2,p,n,many,es,last, .bk k,rfl,rfl,hok,ie,fun _=>by simp,fun last' hl'=>?_⟩
  have hk:=(Hj hok hm0 (by walk_at "o") (.bk k)).1
  rw[hout] at hl' hk⊢
  walk_at "dt"
  refine⟨rfl,_,rfl,Ms _ _ rfl hnl,?_⟩
  intro au v' H' hv
  exact⟨[_,_],_,_, .mk rfl (.mk rfl .om), .mk ⟨rfl,rfl,fun a m=>m⟩ (.mk (FL hsub) .om),q _ _ _ _ hk PN QJ hl' ho,hv⟩
 refine Sv.seq (Sv.jL (Tv.zk 2 rfl how.Du ?_))
 walk_at "dt"
 refine⟨es.map (·.1),rfl,?_⟩
 rw[Bx]
 refine⟨_,rfl,?_⟩
 by_cases c:k∈es.map (·.1)
 ·rw[if_pos (decide_eq_true c)]
  generalize uI:(oM (mV _) _:TS)=tl
  walk_at "dt"
  subst uI
  refine Sv.seq ?_
  refine Sv.Ou (i:=2) rfl (fB.vp (i:=2) rfl (fB.root rfl (Ev.int ⟨1,_,_,rfl,how.h0,rfl,_,how.h1,Ev.var rfl ⟨k,rfl,c,?_⟩⟩)))
  have kE:=how.Ia ((es.map (·.1)).erase k)
  refine Sv.Ii (i:=2) rfl (fB.vp (i:=2) rfl (fB.root rfl (Ev.int ⟨2,_,_,rfl,kE.h0,rfl,_,kE.h2,by rw[ay];walk_at "o",?_⟩)))
  refine Ev.var rfl ?_
  have ho2:=kE.put2 (gs++[k])
  rw[mJ] at ho2
  refine fin (gY es k) _ [] (gs++[k]) false ?_ (eU _) (vR ..) (by rw[fu];exact aE _) ?_ (xS (xS fun a m=>m))
  ·simp only[aV]
   rw[if_pos (mem_keys.mp c)]
  ·rw[Vr hok.nd]
   exact ho2
 ·rw[if_neg (by rw[decide_eq_false c];decide)]
  refine Sv.next ?_
  refine fin es L ["NoDeed"] gs false ?_ (by decide) (aE _) (iV _) how fun a m=>m
  simp only[aV]
  rw[if_neg fun h=>c (mem_keys.mpr h)]
noncomputable def Ac(C:Addr):RF:=fun c ds Φ=>∃(x dx a b:Addr) (p n many:Int) (es:br) (last:PyData),c=bF C x dx a b p n es many last/\ds=[]/\cg p n many es/\Φ true (mP (es.map (·.1)))
theorem Rn{C:Addr}:qJ (Ac C):=by
 intro c ds Φ Ψ hm z;revert hm
 walk_at "mo";exact fun q=>z _ _ q
theorem VC:cW ["self"] ["self"] (aW qg):=⟨rfl,rfl,rfl,by decide+kernel,rfl,by decide+kernel,by decide+kernel⟩
theorem Oz(F:bW K "standing" "Desk.standing" qg f fd){ak:Addr}(bz:cZ K ak)(iy:cF K ak "letter_deeds")(iu:cF K ak "check_deeds")(p8:mg "sorted"=none)(fM:mg "list"=none):
  aY P w K mg base cT 1 f fd ["self"] (kG 1 (Ac ak)):=by
 refine F.ok VC (fun vs H Q E h=>h.1) (fun cdv A outer s H vs Q E hr h=>?_)
 obtain⟨nb,c,ws,ds,Φ,rfl,hlive,eN,gJ,hds,aC,hF⟩:=IF h
 obtain⟨x,dx,a,b,p,n,many,es,last,rfl,rfl,hok,q⟩:=hF
 refine⟨_,(@aJ _ _ _ (@cL _ _ _ _ (@cP _ _ _ _ _ _ _ _ (C2 K) UD rfl p8 NQ (@aa _ _ _ _ _ (@aU _ _ _ _ _ _ _ _ tQ (@p5 _ _ _ _ _ _ _ _ (Aj) (LN rfl) rfl fM nE (@aa _ _ _ _ _ (@iN _ _ _ _ _ (pv 0) rfl) aj rfl) (by decide) (by decide) (by rfl) (by rfl)) (@p5 _ _ _ _ _ _ _ _ (Aj) (LN rfl) rfl fM nE (@aa _ _ _ _ _ (@iN _ _ _ _ _ (pv 0) rfl) aj rfl) (by decide) (by decide) (by rfl) (by rfl))) aj rfl) (by decide) (by decide) (by rfl) (by rfl)))),?_⟩
 refine Sv.K9 hlive eN gJ hds aC (ρ:=[.raw _]) rfl ?_
 clear aC hds
 have hl:=hok.len
 have hm:(false,HD.th (bF ak x dx a b p n es many last),V.ref x)∈(um H nb (bF ak x dx a b p n es many last)).hold:=az.mpr rfl
 have r6:((ldK es).map (·.1)++(dc es).map (·.1)).length<=4000:=by rw[(keys_perm es).length_eq,ay];exact hl
 refine Sv.ret (aI.ev (aI.S5 ?_))
 refine aI.ev (aI.cat (aI.ev (aI.Nk (Ev.J8 rfl hm bz iy rfl ⟨_,rfl,_,rfl,?_⟩))))
 refine aI.ev (aI.Nk (Ev.J8 rfl hm bz iu rfl ⟨_,rfl,_,rfl,?_⟩))
 refine⟨by rw[fu] at r6;simp only[ay] at r6⊢;walk_at "o",(ldK es).map (·.1)++(dc es).map (·.1),by rw[mJ],r6,fun rs hp hs=>?_⟩
 rw[hok.keys hp hs]
 exact q
noncomputable def uO(C:Addr):CF:=fun c ds Φ=>∃(x dx:Addr) (p n:Int),c=bB C x dx []/\ds=[.int p, .int n]/\∀a b,Φ (bF C x dx a b p n [] 0 .none) true .none
theorem Rx{C:Addr}:pP (uO C):=by
 intro c ds Φ Ψ hm z;revert hm
 walk_at "mo";exact fun q=>fun a b=>z _ _ _ (q a b)
theorem Wl:cW ["self","p","n"] ["self","p","n"] (aW sj):=⟨rfl,rfl,rfl,by decide+kernel,rfl,by decide+kernel,by decide+kernel⟩
theorem Uz(F:bW K "__init__" "Desk.__init__" sj f fd){ak:Addr}(bz:cZ K ak)(jf:cF K ak "p")(jI:cF K ak "n")(iy:cF K ak "letter_deeds")(iu:cF K ak "check_deeds")(j7:cF K ak "many")(jB:cF K ak "last"):
  aY P w K mg base cT 1 f fd ["self","p","n"] (iC 3 (uO ak)):=by
 refine F.ok Wl (fun vs H Q E h=>h.1) (fun cdv A outer s H vs Q E hr h=>?_)
 obtain⟨_,nb,c,ws,ds,rfl,hlive,eN,hcf,gJ,hds,hF⟩:=h
 obtain⟨Φ,aC,hF⟩:∃Φ:Cu->Pd,(∀c' f d v H',Φ c' f d->jo c c' H H'->c'.P (fun a=>nb a\/a∈c'.F) H'->af (fun a=>nb a\/a∈c'.F\/(f=true/\H a≠none)) H' d v->Q v H')/\uO ak c ds Φ:=⟨_,fun c' f d v H' q=>q v H',hF⟩
 obtain⟨x,dx,p,n,rfl,rfl,q⟩:=hF
 refine⟨_,(@aG _ _ _ _ _ (@mG _ _ _ _ _ _ _ _ (pv 0) (pv 1) rfl) (@aG _ _ _ _ _ (@mG _ _ _ _ _ _ _ _ (pv 0) (pv 2) rfl) (@aG _ _ _ _ _ (@mG _ _ _ _ _ _ _ _ (pv 0) Gm rfl) (@aG _ _ _ _ _ (@mG _ _ _ _ _ _ _ _ (pv 0) Gm rfl) (@aG _ _ _ _ _ (@mG _ _ _ _ _ _ _ _ (pv 0) ai rfl) (@aJ _ _ _ (@mG _ _ _ _ _ _ _ _ (pv 0) ly rfl))))))),?_⟩
 refine Sv.wM hlive eN hcf gJ hds aC (ρ:=[.cu _, .d false _, .d false _]) rfl ?_
 clear aC hds
 refine Sv.seq (Sv.mX rfl bz jf (.inl rfl) (j9 rfl) ?_)
 walk_at "dt"
 refine Sv.mX rfl bz jI (.inl rfl) (j9 rfl) ?_
 walk_at "dt"
 refine Sv.Mr rfl bz iy rfl (j9 rfl) (tF.new fun a=>?_)
 refine Sv.seq (Sv.Mr rfl bz iu rfl (j9 rfl) (tF.new fun b=>?_))
 refine Sv.seq (Sv.mX rfl bz j7 (.inl rfl) (j9 rfl) ?_)
 walk_at "dt"
 refine Sv.mX rfl bz jB (.inl rfl) (j9 rfl) ?_
 walk_at "dt"
 exact⟨_,rfl,⟨rfl,rfl,fun y m=>by
  rcases aA.mp (show y∈x::dx::[] from m) with h|h
  ·rw[h];exact bT
  ·rw[az.mp h];exact bJ _ bT⟩,q a b⟩
theorem lA:cW ["script","bag","p","n","desk","own","k","right","found"] ["script"] (aW lK):=⟨rfl,rfl,rfl,by decide+kernel,rfl,by decide+kernel,by decide+kernel⟩
theorem UA(F:bW K "law" "law" lK f fd){ak:Addr}{aK:Addr}{aH:Addr}{aP:Addr}{aO:Addr}(T7:oF P w K mg base ak "standing" 1 ["self"] (kG 1 (Ac ak)))(Zf:Ec P w K mg base ak "Desk" 1 ["self","p","n"] (iC 3 (uO ak)))(QT:Callee P w K mg base "_law_bag" 1 ["script"] (Gj K))(Wu:Callee P w K mg base "_law_prime" 2 ["bag"] (iJ 1 DC))(dJ:Callee P w K mg base "_law_draw" 1 ["bag","many"] jr)(P0:Callee P w K mg base "_law_tell" 5 ["bag","desk","p","n","own"] (pL [true,false,false,true] (C6 ak aK aH aP aO)))(VH:Callee P w K mg base "_law_back" 5 ["bag","desk","own"] (pL [true,true] (Ci ak aK aH aP aO)))(oX:Callee P w K mg base "_law_alike" 4 ["found","due"] (ic 2 (kQ 4)))(fk:mg "range"=none)(EH:mg "min"=none)(eZ:mg "len"=none):
  aY P w K mg base cT 6 f fd ["script"] (wD K):=by
 refine F.ok lA (fun vs H Q E h=>?_) (fun cdv A outer s H vs Q E hr h=>?_)
 ·obtain⟨a,ns,rfl,hS,hl,q⟩:=h
  rfl
 obtain⟨a,ns,rfl,hS,hl,q⟩:=h
 refine⟨_,(@aG _ _ _ _ _ (@bD _ _ (1) _ _ _ _ lA.nd rfl (Or.inl rfl) (@bO _ _ _ _ _ _ _ _ _ _ QT (hr.mono (by decide)) (@aa _ _ _ _ _ (pv 0) aj rfl) (by rfl) (by decide) (by rfl) (by rfl)) (by rfl) (by first|exact .inl rfl|exact .inr rfl|assumption)) (@aG _ _ _ _ _ (@bD _ _ (2) _ _ _ _ lA.nd rfl (Or.inl rfl) (@bO _ _ _ _ _ _ _ _ _ _ Wu (hr.mono (by decide)) (@aa _ _ _ _ _ (pv 1) aj rfl) (by rfl) (by decide) (by rfl) (by rfl)) (by rfl) (by first|exact .inl rfl|exact .inr rfl|assumption)) (@aG _ _ _ _ _ (@bD _ _ (3) _ _ _ _ lA.nd rfl (Or.inl rfl) (@aU _ _ _ _ _ _ _ _ fN ai (@bO _ _ _ _ _ _ _ _ _ _ dJ (hr.mono (by decide)) (@aa _ _ _ _ _ (pv 1) (@aa _ _ _ _ _ (@aR _ _ _ _ _ _ (bS K) bq (@dS _ _ _ _ (@CI _ _ _ rfl)) (@bO _ _ _ _ _ _ _ _ _ _ dJ (hr.mono (by decide)) (@aa _ _ _ _ _ (pv 1) (@aa _ _ _ _ _ ai aj rfl) rfl) (by rfl) (by decide) (by rfl) (by rfl)) (fun _ _=>rfl)) aj rfl) rfl) (by rfl) (by decide) (by rfl) (by rfl))) (by rfl) (by first|exact .inl rfl|exact .inr rfl|assumption)) (@aG _ _ _ _ _ (@bD _ _ (4) _ _ _ _ lA.nd rfl (Or.inl rfl) (@Ux _ _ _ _ _ _ _ _ _ _ _ Zf (hr.mono (by decide)) (@aa _ _ _ _ _ (pv 2) (@aa _ _ _ _ _ (pv 3) aj rfl) rfl) (by rfl) (by decide) (by rfl) (by rfl)) (by rfl) (by first|exact .inl rfl|exact .inr rfl|assumption)) (@aG _ _ _ _ _ (@bD _ _ (5) _ _ _ _ lA.nd rfl (Or.inl rfl) (@dS _ _ _ _ (@aa _ _ _ _ _ ai (@aa _ _ _ _ _ (@dS _ _ _ _ aj) (@aa _ _ _ _ _ (@dS _ _ _ _ aj) aj rfl) rfl) rfl)) (by rfl) (by first|exact .inl rfl|exact .inr rfl|assumption)) (@aG _ _ _ _ _ (@xw _ _ _ _ _ _ _ _ Ae rfl (@vS _ _ _ _ _ _ rfl fk (@aa _ _ _ _ _ (@aU _ _ _ _ _ _ _ _ fN ai (@cP _ _ _ _ _ _ _ _ _ (WO rfl) rfl EH PyProof.Rows.boot_min (@aa _ _ _ _ _ ai (@aa _ _ _ _ _ (@cP _ _ _ _ _ _ _ _ (kH K) oh rfl eZ nD (@aa _ _ _ _ _ (pv 0) aj rfl) (by decide) (by decide) (by rfl) (by rfl)) aj rfl) rfl) (by decide) (by decide) (by rfl) (by rfl))) aj rfl) (by rfl)) (ko (i:=6) lA.nd rfl (Or.inl rfl)) (@aG _ _ _ _ _ (@dH _ _ _ _ _ _ _ _ (@bZ _ _ _ _ _ _ _ _ iR (@bO _ _ _ _ _ _ _ _ _ _ dJ (hr.mono (by decide)) (@aa _ _ _ _ _ (pv 1) (@aa _ _ _ _ _ ai aj rfl) rfl) (by rfl) (by decide) (by rfl) (by rfl)) ai (bV _)) (@aJ _ _ _ (@bD _ _ (7) _ _ _ _ lA.nd rfl (Or.inl rfl) (@bO _ _ _ _ _ _ _ _ _ _ P0 (hr.mono (by decide)) (@aa _ _ _ _ _ (pv 1) (@aa _ _ _ _ _ (pv 4) (@aa _ _ _ _ _ (pv 2) (@aa _ _ _ _ _ (pv 3) (@aa _ _ _ _ _ (pv 5) aj rfl) rfl) rfl) rfl) rfl) (by rfl) (by decide) (by rfl) (by rfl)) (by rfl) (by first|exact .inl rfl|exact .inr rfl|assumption))) (@aJ _ _ _ (@bD _ _ (7) _ _ _ _ lA.nd rfl (Or.inl rfl) (@bO _ _ _ _ _ _ _ _ _ _ VH (hr.mono (by decide)) (@aa _ _ _ _ _ (pv 1) (@aa _ _ _ _ _ (pv 4) (@aa _ _ _ _ _ (pv 5) aj rfl) rfl) rfl) (by rfl) (by decide) (by rfl) (by rfl)) (by rfl) (by first|exact .inl rfl|exact .inr rfl|assumption)))) (@aG _ _ _ _ _ (@bD _ _ (8) _ _ _ _ lA.nd rfl (Or.inl rfl) (@AK _ _ _ _ _ _ _ _ _ _ _ T7 (pv 4) (hr.mono (by decide)) (by rfl)) (by rfl) (by first|exact .inl rfl|exact .inr rfl|assumption)) (@aG _ _ _ _ _ (@dH _ _ _ _ _ _ _ _ (PW.pt (oQ (@vz _ _ _ _ (@pI _ (K) _ _ rfl (pv 7) (fun _=>rfl))) (ur (@vz _ _ _ _ (@pI _ (K) _ _ rfl (@bO _ _ _ _ _ _ _ _ _ _ oX (hr.mono (by decide)) (@aa _ _ _ _ _ (pv 8) (@aa _ _ _ _ _ (@aR _ _ _ _ _ _ (bS K) bq (pv 5) ai (fun _ _=>rfl)) aj rfl) rfl) (by rfl) (by decide) (by rfl) (by rfl)) (fun _=>rfl)))))) (@aJ _ _ _ (@cL _ _ _ _ rJ)) fX) (@aJ _ _ _ (@lP _ _ _ _ (q8 wC AV ED yN (pv 8) (@aa _ _ _ _ _ (@aR _ _ _ _ _ _ (bS K) bq (pv 5) ai (fun _ _=>rfl)) aj rfl)) (by rfl)))))) (by intro _;rfl)) (@aJ _ _ _ (@cL _ _ _ _ rJ)))))))),?_⟩
 walk_at "st"
 refine⟨a,ns,rfl,hS,hl,fun b l H1 s1 f1 B1=>?_⟩
 have ZN:=s1.seq hS
 have key:∀(t:TS) (D:Ends),(∀H,D.rt (.bl true) H)->Sv (B5 b l H1) [.raw (.ref a), .ao, .no, .no, .no, .no, .no, .no, .no] t {nx:=fun _=>False,rt:=fun _ d=>d= .bool true}->t D [some (.ref a),some (.ref b),none,none,none,none,none,none,none] H1:=fun t D d2 h=>h _ _ _ D (XE (m:=7) B1) (RP d2)
 refine R.Ku ?_
 dsimp only
 refine key _ _ (fun H=>?_) ?_
 ·exact q _
 clear key q
 walk_at "dt"
 refine Ev.pO Yu rfl ?_
 walk_at "dt"
 refine⟨rfl,fun p hp kY f2=>?_⟩
 have p2:=hp.1
 walk_at "dt"
 intro w w0 w1
 obtain⟨m,em,m0,m1⟩:=pick (L:=[5,5,5,400]) w0 (by show w<4;walk_at "o") (fun x=>1<=x/\x<=400) (by decide)
 refine⟨_,rfl,_,em,?_⟩
 walk_at "dt"
 intro r r0 r1
 obtain⟨n,en,n0,n1⟩:∃n:Int,1+r=n/\1<=n/\n<=400:=⟨_,rfl,by walk_at "o",by walk_at "o"⟩
 refine⟨_,rfl,Gv.mR ?_⟩
 rw[en]
 refine Sv.seq (Sv.make Rx ?_)
 walk_at "dt"
 refine⟨rfl,fun x dx=>⟨x,dx,p,n,rfl,rfl,fun a1 a2=>⟨rfl,?_⟩⟩⟩
 refine Sv.seq (Sv.Vg ?_)
 refine jl.dat (Ev.int (jl.new (jl.new (jl.nil ⟨by decide,fun o as nd hal=>?_⟩))))
 obtain⟨o1,o2,rfl⟩:∃o1 o2,as=[o1,o2]:=by
  match as,hal with
  |[o1,o2],_=>exact⟨o1,o2,rfl⟩
 have Qc:eG ((o, .lst (iE [some (.int 0),none,none] [o1,o2]))::[o1,o2].map fun a=>(a, .lst [])) o o1 o2 0 [] []:=by
  have xA:=nd
  simp at xA
  have h1:o1≠o:=fun z=>xA.1.1 z.symm
  have h2:o2≠o:=fun z=>xA.1.2 z.symm
  have h3:o2≠o1:=fun z=>xA.2 z.symm
  refine⟨nd,by rw[bG,beq_self_eq_true];rfl,?_,?_⟩
  ·rw[bG,beq_false_of_ne h1]
   show List.lookup o1 ((o1,_)::_)=_
   rw[bG,beq_self_eq_true];rfl
  ·rw[bG,beq_false_of_ne h2]
   show List.lookup o2 ((o1,_)::_)=_
   rw[bG,beq_false_of_ne h3]
   show List.lookup o2 ((o2,_)::_)=_
   rw[bG,beq_self_eq_true];rfl
 refine Sv.seq ?_
 refine Sv.RO ?_
 walk_at "dt"
 refine⟨fun i ρ=>∃(es:br) (many:Int) (last:PyData) (L:c9) (gs:List Int) (x6 x7 x8:Sl),ρ=[.raw (.ref a), .ao, .d true (.int p), .d true (.int n), .cu (bF ak x dx a1 a2 p n es many last), .cu (stC (.ref o) false L),x6,x7,x8]/\cg p n many es/\0<=many/\many<=i/\es.length<=i/\gs.length<=i/\LastOk p n es last/\eG L o o1 o2 many (es.map (·.1)) gs,⟨[],0, .none,_,[],_,_,_,rfl,⟨.nil,(fun _ z=>nomatch z),(fun _ z=>nomatch z),eU _⟩,wR _,wR _,aE _,aE _, .inl rfl,Qc⟩,?_,?_⟩
 ·rintro i d ρ ⟨hi,rfl⟩ ⟨es,many,last,L,gs,x6,x7,x8,rfl,hok,hm0,hmi,hei,hgi,ie,how⟩
  have aah:i<66:=by
   have:(6+if(ns.length:Int)<60 then(ns.length:Int) else 60).toNat<=66:=by split<;>walk_at "o"
   walk_at "o"
  refine Gv.mR ?_
  refine Sv.seq ?_
  refine Sv.Jk (fun ρ'=>∃(es:br) (many:Int) (last:PyData) (L:c9) (gs:List Int) (x8:Sl),ρ'=[.raw (.ref a), .ao, .d true (.int p), .d true (.int n), .cu (bF ak x dx a1 a2 p n es many last), .cu (stC (.ref o) false L), .d true (.int (0+(i:Int))), .d true (.bool true),x8]/\cg p n many es/\0<=many/\many<=((i+1:Nat):Int)/\es.length<=i+1/\gs.length<=i+1/\LastOk p n es last/\eG L o o1 o2 many (es.map (·.1)) gs) ?_ ?_
  ·refine Sv.jL ?_
   walk_at "dt"
   intro v v0 v1
   walk_at "dt"
   by_cases c:v=0
   ·rw[if_pos (decide_eq_true c)]
    refine Sv.pS (bK.Kn [4,5] [bF ak x dx a1 a2 p n es many last,stC (.ref o) false L] YQ (by decide) rfl (.mk rfl (.mk rfl .om)) (JW rfl rfl) ?_)
    refine gD.thing rfl (gD.data (Ev.var rfl (gD.data (Ev.var rfl (gD.thing rfl (gD.nil ⟨trivial,?_⟩))))))
    refine⟨x,dx,a1,a2,o,o1,o2,p,n,many,es,last,L,gs,rfl,rfl,hp,kY,n0,n1,hok,hm0,by walk_at "o",ie,how,fun es' mH last' L' k1 k2 k3 k4 k5 k6=>?_⟩
    refine Gv.Er ?_
    exact⟨es',mH,last',L',gs,_,rfl,k1,k2,by walk_at "o",by walk_at "o",by walk_at "o",k5,k6⟩
   ·rw[if_neg (by simpa using c)]
    refine Sv.pS (bK.Kn [4,5] [bF ak x dx a1 a2 p n es many last,stC (.ref o) false L] Tn (by decide) rfl (.mk rfl (.mk rfl .om)) (JW rfl rfl) ?_)
    refine gD.thing rfl (gD.thing rfl (gD.nil ⟨trivial,?_⟩))
    refine⟨x,dx,a1,a2,o,o1,o2,p,n,many,es,last,L,gs,rfl,rfl,hok,hm0,by walk_at "o",by walk_at "o",by walk_at "o",ie,how,fun es' last' L' gs' k1 k2 k3 k4 k5=>?_⟩
    refine Gv.Er ?_
    exact⟨es',many,last',L',gs',_,rfl,k1,hm0,by walk_at "o",by walk_at "o",by walk_at "o",k4,k5⟩
  rintro ρ ⟨es,many,last,L,gs,x8,rfl,hok,hm0,hmi,hei,hgi,ie,how⟩
  refine Sv.seq ?_
  refine Sv.Hr (rS.YG (rS.MR Rn rfl rfl (bB.is rfl) (pQ.nil ?_)))
  refine⟨rfl,x,dx,a1,a2,p,n,many,es,last,rfl,rfl,hok,rfl,_,rfl,Ke _,fun A8=>?_⟩
  refine Sv.seq ?_
  refine Sv.jL ?_
  walk_at "dt"
  refine Ev.lend 8 rfl (Ev.zk 5 rfl how.Du ?_)
  refine Ev.nH (tE 4) ?_
  walk_at "dt"
  refine⟨mP (es.map (·.1)),rfl,TQ _ (by rw[ay];walk_at "o"),rfl,rfl,_,rfl,?_⟩
  rw[if_neg (by decide)]
  refine Sv.next ?_
  refine Sv.append rfl ?_
  refine Ev.zJ (i:=5) rfl (fB.root rfl (Ev.int ⟨0,_,_,rfl,how.h0,rfl,?_⟩))
  exact⟨by rw[ay,ay];walk_at "o",es,many,last,L,gs,_,_,_,rfl,hok,hm0,hmi,hei,hgi,ie,how⟩
 rintro ρ ⟨es,many,last,L,gs,x6,x7,x8,rfl,_⟩
 walk_at "dt"
 exact rfl
end
local macro_rules| `(tactic|walk_at "bn")=> `(tactic|(intro _ _ _ _ _ _ us hl;first|(obtain⟨_,h⟩:=II hl;subst h;rfl)|(obtain⟨_,_,h⟩:=ln2 hl;subst h;rfl)|(obtain⟨_,_,_,h⟩:=Ma hl;subst h;rfl)|(obtain⟨_,_,_,_,h⟩:=NS hl;subst h;rfl)|(obtain⟨_,_,_,_,_,h⟩:=Td hl;subst h;rfl)|(obtain⟨_,_,_,_,_,_,h⟩:=ln6 hl;subst h;rfl)|(obtain⟨_,_,_,_,_,_,_,h⟩:=ln7 hl;subst h;rfl)))
theorem all_mk:QU:=by
 intro l w K h mg fa f0 f1 f2 f3 f4 f5 f6 f7 f8 f9 MN Mj Nu Jo Lj NG Ko LK xm sJ rP qS rz qG qK qM X G IS Kh DG Lx KJ BV Bm CG yE CH Nl HU HY Kw Ln Ib LS A6 Lr Lh MQ Jh Ni LD Jj Ga Bc GA Ff Ji FZ MY MI Jf Jx En Ft L4 HS JX Jd Fp Mi HA E8 J1 Ny J4 JU KO MA Hi Hl Ei FQ HQ FN Kg G7 Gp FT HE CO LZ Li Ll Jw Gi IW JJ Nd CU GV ak wX vD ym zF Ab zo Aa aN tL aK uV aH uH aP tM aO sO jg zc iZ sQ iY vg rL rR rM qN rm sF qq sI sq sA qY qQ qh rT rH rX rN sE p6 qW sH sN sG se rY qw qP rZ sL qD rE qu jf jI iy iu j7 jB d0 d1 d2 d3 d4 d5 d6 d7 d8 d9 zm zu vG yi wz Aq zw we wj z4 wA zz zv za zO zq zh yU vQ ya zd tN vF An xO xJ uz zW yR Ao Ar tO ze vV xE wQ tV xF yr xM zl uu zY vC xC yG vm zL vY wW Ag vO yj Ah xx As x9 zf yt zX xo
 have e:=IS.symm.trans (cH X G wj)
 cases e
 obtain⟨a0,_,F0⟩:=d0
 have b0:=F0.binds (ps:=["p","n","pairs"]) (by walk_at "bn")
 obtain⟨a1,_,F1⟩:=d1
 have b1:=F1.binds (ps:=["n","place"]) (by walk_at "bn")
 obtain⟨a2,_,F2⟩:=d2
 have b2:=F2.binds (ps:=["p","letter"]) (by walk_at "bn")
 obtain⟨a3,_,F3⟩:=d3
 have b3:=F3.binds (ps:=["p","letter"]) (by walk_at "bn")
 obtain⟨a4,_,F4⟩:=d4
 have b4:=F4.binds (ps:=["script"]) (by walk_at "bn")
 obtain⟨a5,_,F5⟩:=d5
 have b5:=F5.binds (ps:=["bag","many"]) (by walk_at "bn")
 obtain⟨a6,_,F6⟩:=d6
 have b6:=F6.binds (ps:=["number"]) (by walk_at "bn")
 obtain⟨a7,_,F7⟩:=d7
 have b7:=F7.binds (ps:=["bag"]) (by walk_at "bn")
 obtain⟨a8,_,F8⟩:=d8
 have b8:=F8.binds (ps:=["bag","p"]) (by walk_at "bn")
 obtain⟨a9,_,F9⟩:=d9
 have b9:=F9.binds (ps:=["bag","p"]) (by walk_at "bn")
 obtain⟨Za,_,CY⟩:=zm
 have Uj:=CY.binds (ps:=["bag","n","wide"]) (by walk_at "bn")
 obtain⟨tu,_,kT⟩:=zu
 have tH:=kT.binds (ps:=["found","due"]) (by walk_at "bn")
 obtain⟨P8,_,DB⟩:=vG
 have R0:=DB.binds (ps:=["caught"]) (by walk_at "bn")
 obtain⟨Pg,_,BP⟩:=yi
 have Vy:=BP.binds (ps:=["desk","deed"]) (by walk_at "bn")
 obtain⟨UJ,_,Bw⟩:=wz
 have VS:=Bw.binds (ps:=["bag","p","n"]) (by walk_at "bn")
 obtain⟨OL,_,BI⟩:=Aq
 have Uo:=BI.binds (ps:=["bag","desk","p","n","own"]) (by walk_at "bn")
 obtain⟨Pk,_,Dl⟩:=zw
 have Yz:=Dl.binds (ps:=["bag","own","way"]) (by walk_at "bn")
 obtain⟨Up,_,AQ⟩:=we
 have VN:=AQ.binds (ps:=["bag","desk","own"]) (by walk_at "bn")
 have Zl:=lO (st:=lK) z4 wA zz
 have IB:=lO (st:=sj) zO zq zh
 have Xs:=IB.binds (ps:=["self","p","n"]) (by walk_at "bn")
 have FA:=lO (st:=qf) ya zd tN
 have Xz:=FA.binds (ps:=["self","place","letter"]) (by walk_at "bn")
 have Im:=lO (st:=qL) xO xJ uz
 have WS:=Im.binds (ps:=["self","pairs","rest"]) (by walk_at "bn")
 have LW:=lO (st:=qm) Ao Ar tO
 have YF:=LW.binds (ps:=["self"]) (by walk_at "bn")
 have GF:=lO (st:=sf) xE wQ tV
 have TR:=GF.binds (ps:=["self","number"]) (by walk_at "bn")
 have Ir:=lO (st:=qy) xM zl uu
 have VE:=Ir.binds (ps:=["self","place"]) (by walk_at "bn")
 have IL:=lO (st:=qg) xC yG vm
 have Q2:=IL.binds (ps:=["self"]) (by walk_at "bn")
 have bz:cZ K ak:=⟨vD,ym,zF,Ab⟩
 have fR:=tL.2
 have fP:=cH X G tL.1
 have eV:=uV.2
 have iU:=cH X G uV.1
 have dY:=uH.2
 have ig:=cH X G uH.1
 have fE:=tM.2
 have jZ:=cH X G tM.1
 have fK:=sO.2
 have jG:=cH X G sO.1
 have D8:=cH X G zc
 have ML:=sQ.2
 have DT:=cH X G sQ.1
 have MG:=vg.2
 have Ez:=cH X G vg.1
 have Bd:=i9 X G zL
 have Bj:=i9 X G vY
 have qd:=i9 X G wW
 have o9:=i9 X G Ag
 have oj:=i9 X G vO
 have dU:=i9 X G yj
 have eZ:=i9 X G Ah
 have fM:=i9 X G xx
 have EH:=i9 X G As
 have fk:=i9 X G x9
 have El:=i9 X G zf
 have p8:=i9 X G yt
 have o6:=i9 X G zX
 have oK:=i9 X G xo
 refine⟨PySem.W.fnOf "law" "law" (iX lK) (g8 lK) (aW lK) .none BV Bm CG DG yE CH,fun s v=> .of_eq rfl,fun base _ _=>?_⟩
 have Y5:=Callee.mk' F0 (PX (P:=l.prog) (w:=w) (base:=base) F0 eZ) b0 (cH X G a0)
 have Pb:=nM.mk' F1 (RZ (P:=l.prog) (w:=w) (base:=base) F1 fR fP eV iU) b1 (cH X G a1)
 have X4:=Callee.mk' F2 (O5 (P:=l.prog) (w:=w) (base:=base) F2) b2 (cH X G a2)
 have Hh:=nM.mk' F3 (TV (P:=l.prog) (w:=w) (base:=base) F3 fR fP dY ig X4) b3 (cH X G a3)
 have WA:=Callee.mk' F4 (YA (P:=l.prog) (w:=w) (base:=base) F4 Bj) b4 (cH X G a4)
 have mF:=Callee.mk' F5 (Wn (P:=l.prog) (w:=w) (base:=base) F5 eZ) b5 (cH X G a5)
 have Rk:=Callee.mk' F6 (YB (P:=l.prog) (w:=w) (base:=base) F6 fk) b6 (cH X G a6)
 have SW:=Callee.mk' F7 (Sj (P:=l.prog) (w:=w) (base:=base) F7 mF Rk) b7 (cH X G a7)
 have Zi:=Callee.mk' F8 (YU (P:=l.prog) (w:=w) (base:=base) F8 mF) b8 (cH X G a8)
 have Wx:=Callee.mk' F9 (O9 (P:=l.prog) (w:=w) (base:=base) F9 mF) b9 (cH X G a9)
 have WX:=Callee.mk' CY (WU (P:=l.prog) (w:=w) (base:=base) CY mF p8 fM El fk) Uj (cH X G Za)
 have O0:=Callee.void (P:=l.prog) (w:=w) (base:=base) (k:=0) (sp:=ic 2 (kQ 0)) kT tH (cH X G tu) Vx
 have Xm:=Callee.mk' kT (yo (P:=l.prog) (w:=w) (base:=base) 0 kT O0 dU fM oK qd eZ o9 oj o6 fk) tH (cH X G tu)
 have Qp:=Callee.mk' kT (yo (P:=l.prog) (w:=w) (base:=base) 1 kT Xm dU fM oK qd eZ o9 oj o6 fk) tH (cH X G tu)
 have SR:=Callee.mk' kT (yo (P:=l.prog) (w:=w) (base:=base) 2 kT Qp dU fM oK qd eZ o9 oj o6 fk) tH (cH X G tu)
 have Zm:=Callee.mk' kT (yo (P:=l.prog) (w:=w) (base:=base) 3 kT SR dU fM oK qd eZ o9 oj o6 fk) tH (cH X G tu)
 have DX:=Zm
 have Xx:=Callee.mk' DB (R7 (P:=l.prog) (w:=w) (base:=base) DB fR fP eV iU dY ig fE jZ fK jG D8 ML DT MG Ez rL rR rM qN rm sF qq sI sq sA qY qQ qh rT rH rX rN sE p6 qW sH sN sG se rY qw qP rZ sL qD rE qu dU fk Bd) R0 (cH X G P8)
 have Mn:oF l.prog w K mg base ak "new_number" 1 ["self"] (iC 1 (qz ak)):=⟨bz,rz,_,TF (P:=l.prog) (w:=w) (base:=base) LW bz jB j7,YF,⟨zW,yR,tO⟩⟩
 have VG:lN l.prog w K mg base ak "letter" 3 ["self","place","letter"] (iG 3 (yv ak aK aH)):=⟨bz,rP,_,X6 (P:=l.prog) (w:=w) (base:=base) FA bz jI jf iy fR fP eV iU dY ig Mn Pb Hh,Xz,⟨yU,vQ,tN⟩⟩
 have QK:lN l.prog w K mg base ak "check" 3 ["self","pairs","rest"] (iG 3 (zT ak aP aH)):=⟨bz,qS,_,TJ (P:=l.prog) (w:=w) (base:=base) Im bz jf iu jI fR fP dY ig fE jZ Mn Hh Y5 fM,WS,⟨vF,An,uz⟩⟩
 have XX:lN l.prog w K mg base ak "take_back" 1 ["self","number"] (iG 2 (vN ak aO)):=⟨bz,qG,_,Wq (P:=l.prog) (w:=w) (base:=base) GF bz jB iy iu fR fP fK jG,TR,⟨ze,vV,tV⟩⟩
 have VQ:lN l.prog w K mg base ak "why" 1 ["self","place"] (iG 2 wN):=⟨bz,qK,_,Rw (P:=l.prog) (w:=w) (base:=base) Ir,VE,⟨xF,yr,uu⟩⟩
 have K5:=Callee.mk' BP (Pe (P:=l.prog) (w:=w) (base:=base) BP fR fP eV iU dY ig fE jZ fK jG VG QK XX VQ Xx) Vy (cH X G Pg)
 have We:=Callee.mk' Bw (O7 (P:=l.prog) (w:=w) (base:=base) Bw mF Wx WX) VS (cH X G UJ)
 have OS:=Callee.mk' BI (PM (P:=l.prog) (w:=w) (base:=base) BI fR fP eV iU dY ig fE jZ fK jG mF DX Zi K5 We) Uo (cH X G OL)
 have Yv:=Callee.mk' Dl (Zq (P:=l.prog) (w:=w) (base:=base) Dl mF eZ) Yz (cH X G Pk)
 have OA:=Callee.mk' AQ (Wj (P:=l.prog) (w:=w) (base:=base) AQ fR fP eV iU dY ig fE jZ fK jG Yv DX K5 mF) VN (cH X G Up)
 have Yl:oF l.prog w K mg base ak "standing" 1 ["self"] (kG 1 (Ac ak)):=⟨bz,qM,_,Oz (P:=l.prog) (w:=w) (base:=base) IL bz iy iu p8 fM,Q2,⟨zY,vC,vm⟩⟩
 have Yj:Ec l.prog w K mg base ak "Desk" 1 ["self","p","n"] (iC 3 (uO ak)):=⟨sJ,_,Uz (P:=l.prog) (w:=w) (base:=base) IB bz jf jI iy iu j7 jB,Xs,⟨zo,zv,za,Aa⟩,cH X G wX⟩
 exact UA Zl Yl Yj WA SW mF OS OA DX fk EH eZ
end K85
section
open PySem PySem.W PyProof.Rows
set_option maxRecDepth 100000 in
set_option maxHeartbeats 0 in
theorem PySem.Challenge.cw_fewchecks_k85_numbers_taken_back_holds : PySem.Challenge.rw_fewchecks_k85_numbers_taken_back.Holds := by
 w_on
 o_law
 k_head
 (case hw=>w_witness2)
 k_fill
 refine K85.walk (l:=PySem.Challenge.rw_fewchecks_k85_numbers_taken_back) rfl rfl (fun w h Y=>PySem.W.kIn_of Y) ?F
 case F=>
  intro w mg fa h KX G hmg
  refine' K85.all_mk KX G hmg ?wX ?vD ?ym ?zF ?Ab ?zo ?Aa ?tL ?uV ?uH ?tM ?sO ?zc ?sQ ?vg ?rL ?rR ?rM ?qN ?rm ?sF ?qq ?sI ?sq ?sA ?qY ?qQ ?qh ?rT ?rH ?rX ?rN ?sE ?p6 ?qW ?sH ?sN ?sG ?se ?rY ?qw ?qP ?rZ ?sL ?qD ?rE ?qu ?jf ?jI ?iy ?iu ?j7 ?jB ?d0 ?d1 ?d2 ?d3 ?d4 ?d5 ?d6 ?d7 ?d8 ?d9 ?zm ?zu ?vG ?yi ?wz ?Aq ?zw ?we ?wj ?z4 ?wA ?zz ?zv ?za ?zO ?zq ?zh ?yU ?vQ ?ya ?zd ?tN ?vF ?An ?xO ?xJ ?uz ?zW ?yR ?Ao ?Ar ?tO ?ze ?vV ?xE ?wQ ?tV ?xF ?yr ?xM ?zl ?uu ?zY ?vC ?xC ?yG ?vm ?zL ?vY ?wW ?Ag ?vO ?yj ?Ah ?xx ?As ?x9 ?zf ?yt ?zX ?xo
  (case wX=>k_is)
  (case vD=>k_is)
  (case ym=>k_is)
  (case zF=>k_is)
  (case Ab=>k_is)
  (case zo=>k_is)
  (case Aa=>k_is)
  (case tL=>refine' L2.gy.Su ?qa ?qo ?qi ?qj ?jx ?je ?jy;(case qa=>k_is);(case qo=>k_is);(case qi=>k_is);(case qj=>first|rfl|kernel_rfl|decide+kernel);(case jx=>k_is);(case je=>k_is);(case jy=>k_is))
  (case uV=>refine' L2.gy.mk1 ?kD ?kC ?j6 ?qa ?qo ?qi ?qj ?jx ?je ?jy;(case qa=>k_is);(case kD=>k_is);(case kC=>k_is);(case j6=>first|rfl|kernel_rfl|decide+kernel);(case qo=>k_is);(case qi=>k_is);(case qj=>first|rfl|kernel_rfl|decide+kernel);(case jx=>k_is);(case je=>k_is);(case jy=>k_is))
  (case uH=>refine' L2.gy.mk1 ?kD ?kC ?j6 ?qa ?qo ?qi ?qj ?jx ?je ?jy;(case qa=>k_is);(case kD=>k_is);(case kC=>k_is);(case j6=>first|rfl|kernel_rfl|decide+kernel);(case qo=>k_is);(case qi=>k_is);(case qj=>first|rfl|kernel_rfl|decide+kernel);(case jx=>k_is);(case je=>k_is);(case jy=>k_is))
  (case tM=>refine' L2.gy.mk1 ?kD ?kC ?j6 ?qa ?qo ?qi ?qj ?jx ?je ?jy;(case qa=>k_is);(case kD=>k_is);(case kC=>k_is);(case j6=>first|rfl|kernel_rfl|decide+kernel);(case qo=>k_is);(case qi=>k_is);(case qj=>first|rfl|kernel_rfl|decide+kernel);(case jx=>k_is);(case je=>k_is);(case jy=>k_is))
  (case sO=>refine' L2.gy.mk1 ?kD ?kC ?j6 ?qa ?qo ?qi ?qj ?jx ?je ?jy;(case qa=>k_is);(case kD=>k_is);(case kC=>k_is);(case j6=>first|rfl|kernel_rfl|decide+kernel);(case qo=>k_is);(case qi=>k_is);(case qj=>first|rfl|kernel_rfl|decide+kernel);(case jx=>k_is);(case je=>k_is);(case jy=>k_is))
  (case zc=>k_is)
  (case sQ=>refine' L2.gy.mk1 ?kD ?kC ?j6 ?qa ?qo ?qi ?qj ?jx ?je ?jy;(case qa=>k_is);(case kD=>k_is);(case kC=>k_is);(case j6=>first|rfl|kernel_rfl|decide+kernel);(case qo=>k_is);(case qi=>k_is);(case qj=>first|rfl|kernel_rfl|decide+kernel);(case jx=>k_is);(case je=>k_is);(case jy=>k_is))
  (case vg=>refine' L2.gy.mk1 ?kD ?kC ?j6 ?qa ?qo ?qi ?qj ?jx ?je ?jy;(case qa=>k_is);(case kD=>k_is);(case kC=>k_is);(case j6=>first|rfl|kernel_rfl|decide+kernel);(case qo=>k_is);(case qi=>k_is);(case qj=>first|rfl|kernel_rfl|decide+kernel);(case jx=>k_is);(case je=>k_is);(case jy=>k_is))
  (case rL=>refine' L2.cY ?qo ?qp ?qb;(case qo=>k_is);(case qp=>k_is);(case qb=>first|rfl|decide+kernel))
  (case rR=>refine' L2.cY ?qo ?qp ?qb;(case qo=>k_is);(case qp=>k_is);(case qb=>first|rfl|decide+kernel))
  (case rM=>refine' L2.cY ?qo ?qp ?qb;(case qo=>k_is);(case qp=>k_is);(case qb=>first|rfl|decide+kernel))
  (case qN=>refine' L2.cY ?qo ?qp ?qb;(case qo=>k_is);(case qp=>k_is);(case qb=>first|rfl|decide+kernel))
  (case rm=>refine' L2.cY ?qo ?qp ?qb;(case qo=>k_is);(case qp=>k_is);(case qb=>first|rfl|decide+kernel))
  (case sF=>refine' L2.cY ?qo ?qp ?qb;(case qo=>k_is);(case qp=>k_is);(case qb=>first|rfl|decide+kernel))
  (case qq=>refine' L2.cY ?qo ?qp ?qb;(case qo=>k_is);(case qp=>k_is);(case qb=>first|rfl|decide+kernel))
  (case sI=>refine' L2.z7 ?qo ?qb;(case qo=>k_is);(case qb=>first|rfl|decide+kernel))
  (case sq=>refine' L2.cY ?qo ?qp ?qb;(case qo=>k_is);(case qp=>k_is);(case qb=>first|rfl|decide+kernel))
  (case sA=>refine' L2.cY ?qo ?qp ?qb;(case qo=>k_is);(case qp=>k_is);(case qb=>first|rfl|decide+kernel))
  (case qY=>refine' L2.cY ?qo ?qp ?qb;(case qo=>k_is);(case qp=>k_is);(case qb=>first|rfl|decide+kernel))
  (case qQ=>refine' L2.cY ?qo ?qp ?qb;(case qo=>k_is);(case qp=>k_is);(case qb=>first|rfl|decide+kernel))
  (case qh=>refine' L2.cY ?qo ?qp ?qb;(case qo=>k_is);(case qp=>k_is);(case qb=>first|rfl|decide+kernel))
  (case rT=>refine' L2.cY ?qo ?qp ?qb;(case qo=>k_is);(case qp=>k_is);(case qb=>first|rfl|decide+kernel))
  (case rH=>refine' L2.cY ?qo ?qp ?qb;(case qo=>k_is);(case qp=>k_is);(case qb=>first|rfl|decide+kernel))
  (case rX=>refine' L2.z7 ?qo ?qb;(case qo=>k_is);(case qb=>first|rfl|decide+kernel))
  (case rN=>refine' L2.cY ?qo ?qp ?qb;(case qo=>k_is);(case qp=>k_is);(case qb=>first|rfl|decide+kernel))
  (case sE=>refine' L2.cY ?qo ?qp ?qb;(case qo=>k_is);(case qp=>k_is);(case qb=>first|rfl|decide+kernel))
  (case p6=>refine' L2.cY ?qo ?qp ?qb;(case qo=>k_is);(case qp=>k_is);(case qb=>first|rfl|decide+kernel))
  (case qW=>refine' L2.cY ?qo ?qp ?qb;(case qo=>k_is);(case qp=>k_is);(case qb=>first|rfl|decide+kernel))
  (case sH=>refine' L2.cY ?qo ?qp ?qb;(case qo=>k_is);(case qp=>k_is);(case qb=>first|rfl|decide+kernel))
  (case sN=>refine' L2.cY ?qo ?qp ?qb;(case qo=>k_is);(case qp=>k_is);(case qb=>first|rfl|decide+kernel))
  (case sG=>refine' L2.cY ?qo ?qp ?qb;(case qo=>k_is);(case qp=>k_is);(case qb=>first|rfl|decide+kernel))
  (case se=>refine' L2.z7 ?qo ?qb;(case qo=>k_is);(case qb=>first|rfl|decide+kernel))
  (case rY=>refine' L2.cY ?qo ?qp ?qb;(case qo=>k_is);(case qp=>k_is);(case qb=>first|rfl|decide+kernel))
  (case qw=>refine' L2.cY ?qo ?qp ?qb;(case qo=>k_is);(case qp=>k_is);(case qb=>first|rfl|decide+kernel))
  (case qP=>refine' L2.cY ?qo ?qp ?qb;(case qo=>k_is);(case qp=>k_is);(case qb=>first|rfl|decide+kernel))
  (case rZ=>refine' L2.cY ?qo ?qp ?qb;(case qo=>k_is);(case qp=>k_is);(case qb=>first|rfl|decide+kernel))
  (case sL=>refine' L2.cY ?qo ?qp ?qb;(case qo=>k_is);(case qp=>k_is);(case qb=>first|rfl|decide+kernel))
  (case qD=>refine' L2.cY ?qo ?qp ?qb;(case qo=>k_is);(case qp=>k_is);(case qb=>first|rfl|decide+kernel))
  (case rE=>refine' L2.cY ?qo ?qp ?qb;(case qo=>k_is);(case qp=>k_is);(case qb=>first|rfl|decide+kernel))
  (case qu=>refine' L2.z7 ?qo ?qb;(case qo=>k_is);(case qb=>first|rfl|decide+kernel))
  (case jf=>k_is)
  (case jI=>k_is)
  (case iy=>k_is)
  (case iu=>k_is)
  (case j7=>k_is)
  (case jB=>k_is)
  (case d0=>refine' L2.bR.mk ?qa ?ql ?qc ?qk;(case qa=>k_is);(case ql=>k_is);(case qc=>k_is);(case qk=>k_is))
  (case d1=>refine' L2.bR.mk ?qa ?ql ?qc ?qk;(case qa=>k_is);(case ql=>k_is);(case qc=>k_is);(case qk=>k_is))
  (case d2=>refine' L2.bR.mk ?qa ?ql ?qc ?qk;(case qa=>k_is);(case ql=>k_is);(case qc=>k_is);(case qk=>k_is))
  (case d3=>refine' L2.bR.mk ?qa ?ql ?qc ?qk;(case qa=>k_is);(case ql=>k_is);(case qc=>k_is);(case qk=>k_is))
  (case d4=>refine' L2.bR.mk ?qa ?ql ?qc ?qk;(case qa=>k_is);(case ql=>k_is);(case qc=>k_is);(case qk=>k_is))
  (case d5=>refine' L2.bR.mk ?qa ?ql ?qc ?qk;(case qa=>k_is);(case ql=>k_is);(case qc=>k_is);(case qk=>k_is))
  (case d6=>refine' L2.bR.mk ?qa ?ql ?qc ?qk;(case qa=>k_is);(case ql=>k_is);(case qc=>k_is);(case qk=>k_is))
  (case d7=>refine' L2.bR.mk ?qa ?ql ?qc ?qk;(case qa=>k_is);(case ql=>k_is);(case qc=>k_is);(case qk=>k_is))
  (case d8=>refine' L2.bR.mk ?qa ?ql ?qc ?qk;(case qa=>k_is);(case ql=>k_is);(case qc=>k_is);(case qk=>k_is))
  (case d9=>refine' L2.bR.mk ?qa ?ql ?qc ?qk;(case qa=>k_is);(case ql=>k_is);(case qc=>k_is);(case qk=>k_is))
  (case zm=>refine' L2.bR.mk ?qa ?ql ?qc ?qk;(case qa=>k_is);(case ql=>k_is);(case qc=>k_is);(case qk=>k_is))
  (case zu=>refine' L2.bR.mk ?qa ?ql ?qc ?qk;(case qa=>k_is);(case ql=>k_is);(case qc=>k_is);(case qk=>k_is))
  (case vG=>refine' L2.bR.mk ?qa ?ql ?qc ?qk;(case qa=>k_is);(case ql=>k_is);(case qc=>k_is);(case qk=>k_is))
  (case yi=>refine' L2.bR.mk ?qa ?ql ?qc ?qk;(case qa=>k_is);(case ql=>k_is);(case qc=>k_is);(case qk=>k_is))
  (case wz=>refine' L2.bR.mk ?qa ?ql ?qc ?qk;(case qa=>k_is);(case ql=>k_is);(case qc=>k_is);(case qk=>k_is))
  (case Aq=>refine' L2.bR.mk ?qa ?ql ?qc ?qk;(case qa=>k_is);(case ql=>k_is);(case qc=>k_is);(case qk=>k_is))
  (case zw=>refine' L2.bR.mk ?qa ?ql ?qc ?qk;(case qa=>k_is);(case ql=>k_is);(case qc=>k_is);(case qk=>k_is))
  (case we=>refine' L2.bR.mk ?qa ?ql ?qc ?qk;(case qa=>k_is);(case ql=>k_is);(case qc=>k_is);(case qk=>k_is))
  (case wj=>k_is)
  (case z4=>k_is)
  (case wA=>k_is)
  (case zz=>k_is)
  (case zv=>k_is)
  (case za=>k_is)
  (case zO=>k_is)
  (case zq=>k_is)
  (case zh=>k_is)
  (case yU=>k_is)
  (case vQ=>k_is)
  (case ya=>k_is)
  (case zd=>k_is)
  (case tN=>k_is)
  (case vF=>k_is)
  (case An=>k_is)
  (case xO=>k_is)
  (case xJ=>k_is)
  (case uz=>k_is)
  (case zW=>k_is)
  (case yR=>k_is)
  (case Ao=>k_is)
  (case Ar=>k_is)
  (case tO=>k_is)
  (case ze=>k_is)
  (case vV=>k_is)
  (case xE=>k_is)
  (case wQ=>k_is)
  (case tV=>k_is)
  (case xF=>k_is)
  (case yr=>k_is)
  (case xM=>k_is)
  (case zl=>k_is)
  (case uu=>k_is)
  (case zY=>k_is)
  (case vC=>k_is)
  (case xC=>k_is)
  (case yG=>k_is)
  (case vm=>k_is)
  (case zL=>k_is)
  (case vY=>k_is)
  (case wW=>k_is)
  (case Ag=>k_is)
  (case vO=>k_is)
  (case yj=>k_is)
  (case Ah=>k_is)
  (case xx=>k_is)
  (case As=>k_is)
  (case x9=>k_is)
  (case zf=>k_is)
  (case yt=>k_is)
  (case zX=>k_is)
  (case xo=>k_is)
end
