import PyProof.Rows.All
import Wide.All
import OpenK.AllK
import Wide.FinOn
import Lean
import PyProof.EqAt
import PyProof.EqKinds
import PyProof.TupleCall
import PySem.Challenge.RW_fewchecks_k55_whole_half_of_them_wrong
set_option compiler.extract_closed false
set_option Elab.async false
set_option linter.all false
set_option maxRecDepth 100000
def aj:= @List.length_map
def aB:= @List.getElem?_eq_getElem
def aJ:= @Nat.le_refl
def aL:= @List.getElem?_map
def aM:= @List.mem_cons
def aP:= @List.getElem?_eq_some_iff
def aQ:= @List.mem_singleton
def aY:= @List.map_cons
def br:= @List.mem_of_getElem?
def bx:= @Ne.symm
def bz:= @List.length_append
def bC:= @PySem.Heap.lt_size
def bA:= @List.mem_cons_self
def bG:= @List.getD_eq_getElem?_getD
def bP:= @List.getElem?_set_ne
def bS:= @PySem.Heap.get?_push_of_some
def bY:= @PySem.W.mg_of
def cC:= @List.not_mem_nil
def cD:= @Bool.and_eq_true
def cG:= @List.mem_cons_of_mem
def cI:= @List.mem_map
def cW:= @Nat.ne_of_lt
def cX:= @List.getElem?_set_self
def cZ:= @List.map_append
def c7:= @PySem.PassesOwn.never
def dg:= @List.mem_append
def dw:= @List.map_map
def eE:= @Nat.le_trans
def dZ:= @Bool.false_ne_true
def eg:= @List.size_toArray
def eK:= @Nat.lt_of_lt_of_le
def eN:= @List.append_nil
def eS:= @Int.emod_nonneg
def eF:= @Int.emod_lt_of_pos
def eX:= @Int.toNat_natCast
def fk:= @PySem.Heap.get?_push_size
def eY:= @Nat.zero_le
def fE:= @List.take_length
def fL:= @Option.some.inj
def fQ:= @List.mem_filter
def fS:= @Classical.byContradiction
def fV:= @List.getElem?_eq_none
def gb:= @List.length_set
def fW:= @List.length_singleton
def fX:= @List.map_congr_left
def gm:= @List.getElem?_of_mem
def gz:= @List.nodup_cons
def gD:= @List.getElem?_append_left
def gy:= @List.lookup_cons
def gU:= @List.ext_getElem?
def ia:= @List.mem_append_right
def g9:= @List.getElem?_append_right
def g5:= @List.getElem?_replicate
def ig:= @List.getElem_mem
def ir:= @PySem.boot_len
def iH:= @List.length_range
def iS:= @PyProof.Rows.boot_list
def iE:= @PySem.W.mg_none_of
def iX:= @List.length_take
def iT:= @List.map_nil
def je:= @Option.some_ne_none
def jr:= @Nat.le_of_lt
def jx:= @Array.length_toList
def jt:= @Option.map_eq_some_iff
def jz:= @List.getElem?_range
def jK:= @Nat.lt_irrefl
def jC:= @List.mem_range
def jI:= @PySem.W.kia_one
def jL:= @List.set_set
def jO:= @List.mem_map_of_mem
def jU:= @PySem.F.plainAttrs_list
def j7:= @List.length_cons
def kr:= @List.pairwise_iff_getElem
def kY:= @PySem.Heap.get?_update_other
def kP:= @Int.zero_add
def kU:= @Array.getElem?_eq_getElem
def kK:= @List.find?_cons
def lu:= @Int.emod_eq_of_lt
def kN:= @PySem.F.slot_list_append
def k6:= @PySem.F.type_list_append
def kI:= @List.filter_append
def kQ:= @PyProof.Rows.boot_isinstance
def l6:= @PySem.Heap.size_push
def lI:= @PySem.Around.under_plainId
def lB:= @Nat.mul_mod
def nJ:= @Bool.eq_iff_iff
def mS:= @Nat.le_succ
def mP:= @Array.getElem?_toList
def nK:= @List.cons_append
def nv:= @List.getElem?_cons_succ
def nN:= @Int.mul_ediv_add_emod
def mV:= @Nat.lt_trans
def nu:= @PySem.F.called_set
def nH:= @Nat.lt_succ_of_lt
def nA:= @List.length_eq_zero_iff
def mR:= @List.append_assoc
def mJ:= @List.nodup_nil
def nO:= @List.any_cons
def nq:= @List.sum_cons
def nP:= @List.countP_cons
def pB:= @List.mem_append_left
def oG:= @Nat.ne_of_gt
def oY:= @PySem.mem_of_lookup
def oq:= @Bool.or_false
def oA:= @PySem.SeqAt.canLay_of_shaped
def oE:= @Int.zero_mul
def o7:= @Int.mul_le_mul_of_nonneg_left
def pe:= @List.nodup_append
def oO:= @List.any_eq_true
def oM:= @PySem.W.kia_tup
def o5:= @Int.eq_ofNat_of_zero_le
def p5:= @List.filterMap_cons
def qd:= @List.getElem?_take_of_lt
def qa:= @List.all_cons
def pS:= @Int.le_refl
def pT:= @Int.mul_sub
def pN:= @Nat.lt_succ_self
def qD:= @Int.emod_eq_zero_of_dvd
def qC:= @List.countP_append
def p8:= @List.countP_singleton
def qB:= @List.filter_nil
def rL:= @PySem.Value.isInt_shape
def tH:= @List.getElem_inj
def sS:= @List.take_zero
def sD:= @Bool.false_or
def sP:= @Option.map_some
def tu:= @Int.mul_comm
def rX:= @Int.mul_assoc
def sZ:= @Int.add_mul
def sV:= @Array.getElem?_eq_some_iff
def su:= @Bool.true_and
def qW:= @List.Nodup.length_le_of_subset
def tB:= @Bool.or_true
def rM:= @Nat.mul_assoc
def sW:= @Nat.mul_comm
def tK:= @Classical.choose_spec
def sX:= @List.getElem_map
def tL:= @List.range_succ
def tG:= @Int.le_trans
def rF:= @List.filter_cons_of_neg
def tE:= @List.map_take
def rH:= @List.map_set
def tQ:= @Sum.inl.inj
def uC:= @PySem.Paired.length
def uH:= @PyProof.Rows.callWith_type1
def uF:= @PySem.W.kitx_dict
def uK:= @PySem.Heap.get?_update_self
def vK:= @Nat.le_of_eq
def v7:= @Nat.lt_of_le_of_lt
def vL:= @List.all_eq_true
def vg:= @List.sum_append
def vZ:= @Int.ediv_nonneg
def tY:= @Int.mul_le_mul_of_nonneg_right
def u5:= @Nat.succ.inj
def wG:= @Array.size_extract
def xJ:= @Nat.mod_lt
def v8:= @PySem.F.plain_list_iadd
def vo:= @Int.sub_zero
def wQ:= @Nat.sub_zero
def ur:= @Nat.pow_add
def xC:= @Int.le_of_lt
def xh:= @Int.lt_trichotomy
def t9:= @PySem.F.slot_dict_get
def wU:= @List.count_append
def tX:= @PySem.F.slot_list_getattribute
def wF:= @List.foldl_append
def ue:= @Nat.sub_self
def v5:= @List.getElem?_eq_none_iff
def xg:= @List.flatMap_append
def vY:= @List.flatMap_singleton
def vF:= @List.mem_flatMap
def we:= @Int.dvd_of_emod_eq_zero
def xx:= @List.count_cons
def wu:= @List.pairwise_cons
def uV:= @List.mem_or_eq_of_mem_set
def xB:= @List.countP_eq_zero
def uQ:= @List.filter_cons_of_pos
def uy:= @PySem.F.plainAttrs_dict
def ug:= @PyProof.Rows.boot_sorted
def CB:= @List.mem_filterMap
def zE:= @PySem.W.kitx_list
def Ck:= @List.of_mem_zip
def yj:= @Option.isSome_iff_exists
def yI:= @List.length_drop
def xN:= @Nat.le_of_not_lt
def zR:= @List.take_add_one
def BL:= @Int.mul_nonneg
def ze:= @Int.mul_add
def AH:= @Array.getD_eq_getD_getElem?
def Bu:= @Array.getElem?_eq_none
def zO:= @Nat.lt_or_eq_of_le
def Dp:= @PyProof.Rows.F.plain_set_update_loop
def Cv:= @List.Perm.append_left
def Ay:= @Nat.lt_trichotomy
def Ei:= @List.range_succ_eq_map
def BP:= @Bool.false_eq_true
def Ef:= @Nat.lt_of_lt_of_eq
def C4:= @PySem.Calls.call_function_entry
def Dn:= @List.take_of_length_le
def Dd:= @Nat.mul_one
def CL:= @Nat.zero_mul
def AN:= @Nat.div_add_mod
def Ej:= @Nat.mod_mod
def DN:= @Nat.mod_mod_of_dvd
def BU:= @Nat.one_mul
def Dr:= @Nat.le_of_dvd
def xV:= @List.lookup_cons_self
def Ds:= @Option.isSome_map
def z5:= @List.count_singleton
def Bq:= @Int.emod_def
def zd:= @Int.add_mul_emod_self_left
def xO:= @List.filter_eq_nil_iff
def Dg:= @List.countP_le_length
def zG:= @Int.natCast_add
def zw:= @Nat.lt_or_gt_of_ne
def CW:= @List.length_pos_iff
def zz:= @List.length_filter_le
def BA:= @Int.ediv_le_self
def BQ:= @List.map_id
def yJ:= @PyProof.Rows.boot_range
def Aq:= @List.nodup_range
def yZ:= @PySem.F.type_dict_get
def DY:= @Bool.eq_false_iff
def BB:= @Int.mul_le_mul
def z6:= @PyProof.Rows.boot_int
def Aa:= @Int.mul_zero
def yD:= @List.Sublist.refl
def GA:= @PySem.Calls.Name_function_global
def HM:= @PySem.W.cellsFrom_some
def Hf:= @List.length_replicate
def Io:= @List.filterMap_cons_some
def Gu:= @Array.getElem?_push
def Ep:= @Array.getElem?_extract_of_lt
def HX:= @List.getElem?_toArray
def JV:= @List.length_eraseIdx_of_lt
def EN:= @PySem.F.entry_proto_collect
def G8:= @PySem.F.plain_proto_collect
def Fi:= @PySem.F.entry_list_iadd
def EH:= @PySem.F.plain_extend_loop
def K0:= @Nat.dvd_of_mod_eq_zero
def GJ:= @Int.gcd_eq_zero_iff
def Fe:= @Int.natAbs_dvd_natAbs
def J4:= @Int.emod_add_mul_ediv
def IQ:= @Nat.le_of_ble_eq_true
def ED:= @List.mem_of_mem_take
def KI:= @List.set_getElem_self
def Gg:= @PySem.F.slot_dict_values
def Ii:= @List.pairwise_append
def Fg:= @Int.ediv_eq_zero_of_lt
def Ic:= @PyProof.Rows.boot_min
def Jl:= @PyProof.Rows.boot_sum
def JZ:= @PySem.F.slot_list_pop
def Jj:= @PySem.F.type_list_pop
def G7:= @PyProof.Rows.boot_tuple
def FW:= @PyProof.Rows.boot_bool
def Kh:= @PyProof.Rows.boot_str
def IF:= @List.replicate_succ'
def Li:= @List.ne_nil_of_length_pos
def HV:= @Bool.and_eq_true_iff
namespace L2
open PySem PySem.Spec PyProof.Rows
abbrev Key:=Sum Int Str
def pV:Key->Value->Bool
 | .inl k,v=>Value.isInt k v
 | .inr x,v=>Value.isStrOf x v
def PB(w:World):Key->Int
 | .inl k=>hashInt k
 | .inr x=>hashStr w x
theorem lO:∀{k:Key} {v:Value},pV k v=true->(∃i t,k=Sum.inl i/\v=Value.int i t)\/(∃x t,k=Sum.inr x/\v=Value.str x t)
  | .inl i, v, h => by
    obtain⟨t,e⟩:=rL (k:=i) (v:=v) h
    exact .inl ⟨i,t,rfl,e⟩
  | .inr x, v, h => by
    obtain⟨t,e⟩:=Value.isStrOf_shape (x:=x) (v:=v) h
    exact .inr ⟨x,t,rfl,e⟩
theorem VZ(i:Int)(t:Tok):pV (.inl i) (.int i t)=true:=by simp[pV,Value.isInt]
theorem QF(x:Str)(t:Tok):pV (.inr x) (.str x t)=true:=by simp[pV,Value.isStrOf]
theorem QL(a b:Int):decide ((Sum.inl a:Key)=Sum.inl b)=(a==b):=by
 by_cases e:a=b
 ·subst e;simp
 ·have h:¬(Sum.inl a:Key)=Sum.inl b:=fun q=>e (tQ q)
  rw[decide_eq_false h]
  exact(beq_eq_false_iff_ne.mpr e).symm
theorem Yh(a b:Str):decide ((Sum.inr a:Key)=Sum.inr b)=decide (a=b):=by
 by_cases e:a=b
 ·subst e;simp
 ·have h:¬(Sum.inr a:Key)=Sum.inr b:=fun q=>e (Sum.inr.inj q)
  rw[decide_eq_false h,decide_eq_false e]
theorem Xc(a:Int)(b:Str):decide ((Sum.inl a:Key)=Sum.inr b)=false:=decide_eq_false (fun q=>nomatch q)
theorem N9(a:Str)(b:Int):decide ((Sum.inr a:Key)=Sum.inl b)=false:=decide_eq_false (fun q=>nomatch q)
def dP(prog:Program)(w:World):PySem.KeyKind prog w Key where
 is:=pV
 hash:=PB w
 inj:=fun v a b ha hb=>by
  rcases lO ha with ⟨i,t,rfl,rfl⟩|⟨x,t,rfl,rfl⟩
  ·rcases lO hb with ⟨j,u,rfl,e⟩|⟨y,u,rfl,e⟩
   ·injection e with e1 _;rw[e1]
   ·exact nomatch e
  ·rcases lO hb with ⟨j,u,rfl,e⟩|⟨y,u,rfl,e⟩
   ·exact nomatch e
   ·injection e with e1 _;rw[e1]
 byValue:=fun k v h=>by
  rcases lO h with ⟨i,t,rfl,rfl⟩|⟨x,t,rfl,rfl⟩<;>rfl
 pyHash:=fun hv h=>by
  rcases lO hv with ⟨i,t,rfl,rfl⟩|⟨x,t,rfl,rfl⟩
  ·exact wpAny_pyHash_int h
  ·exact wpAny_pyHash_str h
 eqBool:=fun hu hv h=>by
  rcases lO hu with ⟨i,t,rfl,rfl⟩|⟨x,t,rfl,rfl⟩
  ·rcases lO hv with ⟨j,u,rfl,rfl⟩|⟨y,u,rfl,rfl⟩
   ·rw[QL] at h;exact wpAny_eqBool_int h
   ·rw[Xc] at h;exact SeqAt.EqAt.int_str i t y u _ _ _ _ h
  ·rcases lO hv with ⟨j,u,rfl,rfl⟩|⟨y,u,rfl,rfl⟩
   ·rw[N9] at h;exact SeqAt.EqAt.str_int x t j u _ _ _ _ h
   ·rw[Yh] at h;exact wpAny_eqBool_str h
 «strs» :=fun k x t v h=>by
  rcases lO h with ⟨i,u,rfl,e⟩|⟨y,u,rfl,e⟩
  ·exact nomatch e
  ·injection e with e1 _
   subst e1
   cases v<;>rfl
theorem X4(prog:Program)(w:World)(i:Int)(t:Tok):(dP prog w).is (.inl i) (.int i t)=true:=VZ i t
theorem Wy(prog:Program)(w:World)(x:Str)(t:Tok):(dP prog w).is (.inr x) (.str x t)=true:=QF x t
inductive V where
 |aT|bl (b:Bool)|int (i:Int)|str (x:Str)|jk (b:Array UInt8)|lD (b:UInt64)|ref (a:Addr)|ty (n:String)
 deriving DecidableEq
def RelV:V->Value->Prop
 | .aT,u=>u=Value.none
 | .bl b,u=>u=Value.bool b
 | .int i,u=>∃t,u=Value.int i t
 | .str x,u=>∃t,u=Value.str x t
 | .jk b,u=>∃t,u=Value.bytes b t
 | .lD b,u=>∃t,u=Value.float b t
 | .ref a,u=>u=Value.ref a
 | .ty n,u=>u=Value.type n
abbrev Vals:List V->List Value->Prop:=Paired RelV
theorem Vals.length{xs:List V}{us:List Value}(r:Vals xs us):xs.length=us.length:=uC r
theorem Vals.get:∀{xs:List V} {us:List Value} {i:Nat} {x:V},Vals xs us->xs[i]?=some x->∃u,us[i]?=some u/\RelV x u
  |_,_,_,_, .nil,e=>by simp at e
  |_,_,0,_, .cons r _,e=>by simp at e;subst e;exact⟨_,rfl,r⟩
  | _, _, i + 1, x, .cons _ t, e => by
    obtain⟨u,h1,h2⟩:=Vals.get (i:=i) (x:=x) t (by simpa using e)
    exact⟨u,by simpa using h1,h2⟩
theorem Vals.set{x:V}{u:Value}(r:RelV x u):∀{xs:List V} {us:List Value} (i:Nat),Vals xs us->Vals (xs.set i x) (us.set i u)
 |_,_,_, .nil=> .nil
 |_,_,0, .cons _ t=> .cons r t
 |_,_,i+1, .cons q t=> .cons q (Vals.set r i t)
theorem Vals.append:∀{xs ys:List V} {us ws:List Value},Vals xs us->Vals ys ws->Vals (xs++ys) (us++ws)
 |_,_,_,_, .nil,s=>s
 |_,_,_,_, .cons r t,s=> .cons r (Vals.append t s)
theorem Vals.take:∀{xs:List V} {us:List Value} (n:Nat),Vals xs us->Vals (xs.take n) (us.take n)
 |_,_,0,_=> .nil
 |_,_,_+1, .nil=> .nil
 |_,_,n+1, .cons r t=> .cons r (Vals.take n t)
theorem Vals.drop:∀{xs:List V} {us:List Value} (n:Nat),Vals xs us->Vals (xs.drop n) (us.drop n)
 |_,_,0,r=>r
 |_,_,_+1, .nil=> .nil
 |_,_,n+1, .cons _ t=>Vals.drop n t
def jX:Option V->Option Value->Prop
 |some v,some u=>RelV v u
 |none,none=>True
 |_,_=>False
def KV{κ:Type}:List (κ×V)->List (κ×Value)->Prop:=Paired fun(p:κ×V) (q:κ×Value)=>p.1=q.1/\RelV p.2 q.2
def kV:Key->V
 | .inl i=> .int i
 | .inr x=> .str x
inductive HO where
  |lst (xs:List V)
  |tup (xs:List V)
  |dK (kvs:List (Key×V))|dT (kvs:List (List Key×V))
  |set (S:Int->Bool) (n:Nat)
  |ins (C dx:Addr) (fs:List (Str×V))
  |own (x:Addr)
  |xd (fs:List (Str×V))
  |met (f x:Addr)
  |nR (lo hi:Int)
  |cA (o:Obj) (u:HO)
  |oR (ps:Array Value)
  |ext (φ:Heap->Prop)
abbrev Hp:=Addr->Option HO
def upd(H:Hp)(a:Addr)(o:HO):Hp:=fun b=>if b=a then some o else H b
theorem aX{H:Hp}{a:Addr}{o:HO}:upd H a o a=some o:=by unfold upd;rw[if_pos rfl]
theorem au{H:Hp}{a b:Addr}{o:HO}(h:b≠a):upd H a o b=H b:=by unfold upd;rw[if_neg h]
theorem AR{H:Hp}{a:Addr}{o u:HO}:upd (upd H a o) a u=upd H a u:=by
 funext b;unfold upd;split<;>rfl
theorem MS{H:Hp}{a b:Addr}{o u:HO}(h:H a=some o)(h':H b=some u)(d:o≠u):a≠b:=by
 intro e;subst e;rw[h] at h';exact d (fL h')
theorem jc{H:Hp}{a b:Addr}{o:HO}(h:H a=some o)(h':H b=none):a≠b:=by
 intro e;subst e;rw[h] at h';cases h'
section
variable(P:Program)(w:World)
def bR(H:Hp)(h:Heap)(a:Addr):HO->Prop
 | .lst xs=>xs.length<=sizeLine/\∃(its:List Value) (n:Nat),Vals xs its/\h.get? a=some {cls:= .type "list",data:= .seq its.toArray n}
 | .tup xs=>xs.length<=sizeLine/\∃its:List Value,Vals xs its/\IsTup h a its.toArray
 | .dK kvs=>kvs.length<=sizeLine/\(a==sysModules)=false/\∃vs,KV kvs vs/\h.DictOf (dP P w) a vs
 | .dT kvs => kvs.length <= sizeLine /\ (a == sysModules) = false /\ ∃ xs : List (List Key × Addr × Value),
   Paired (fun(p:List Key×V) (q:List Key×Addr×Value)=>p.1=q.1/\H q.2.1=some (.tup (p.1.map kV))/\RelV p.2 q.2.2) kvs xs/\
   ∃o es ep,h.get? a=some o/\o.ExactDict/\o.data= .dict es ep/\es.toList=xs.map (entryOfKey (tupleKind (dP P w)))/\(xs.map (·.1)).Nodup
 | .set S n=>h.SetOf (intKind P w) a S n
 | .ins C dx fs => H dx = some (.own a) /\ fs.length <= 1000 /\ dx ≠ a /\ h.get? a = some (PySem.W.instObj C dx) /\
   ∃mA,h.Ns1 dx mA/\(∀f,jX (fs.lookup f) (mA f))/\PySem.Within mA (fs.map (·.1))
 | .own _=>∃o,h.get? a=some o
 | .xd fs=>∃mA,h.Ns1 a mA/\∀f,jX (fs.lookup f) (mA f)
 | .nR lo hi=>∃t u v,h.get? a=some {cls:= .type "range",data:= .fields #[.int lo t, .int hi u, .int 1 v]}
 | .cA o u=>h.get? a=some o/\bR H h a u
 | .oR ps=>h.get? a=some {cls:= .none,data:= .fields ps}
 | .met f x=>h.get? a=some (PySem.W.methodObj (.ref f) (.ref x))
 | .ext φ=>φ h/\(∃o,h.get? a=some o)/\∀h1 h2:Heap,φ h1->(∀o,h1.get? a=some o->h2.get? a=some o)->φ h2
def dD(H:Hp)(h:Heap):Prop:=∀a o,H a=some o->bR P w H h a o
end
section
variable{P:Program}{w:World}{H H':Hp}{h h':Heap}{a:Addr}{o:HO}
theorem bR.lt(x:bR P w H h a o):a<h.objs.size:=by
 cases o with
 |lst xs=>obtain⟨_,_,_,_,e⟩:=x;exact bC e
 |tup xs=>obtain⟨_,_,_,p⟩:=x;exact p.lt
 |dK kvs=>obtain⟨_,_,_,_,o,_,_,e,_⟩:=x;exact bC e
 |dT kvs=>obtain⟨_,_,_,_,o,_,_,e,_⟩:=x;exact bC e
 |set S n=>obtain⟨o,_,_,_,e,_⟩:=x;exact bC e
 |ins C dx fs=>obtain⟨_,_,_,e,_⟩:=x;exact bC e
 |own y=>obtain⟨_,e⟩:=x;exact bC e
 |xd fs=>obtain⟨_,⟨_,_,_,e,_⟩,_⟩:=x;exact bC e
 |nR lo hi=>obtain⟨_,_,_,e⟩:=x;exact bC e
 |cA ob u=>obtain⟨e,_⟩:=x;exact bC e
 |oR ps=>exact bC (show h.get? a=some _ from x)
 |met f y=>exact bC (show h.get? a=some _ from x)
 |ext φ=>obtain⟨_,⟨_,e⟩,_⟩:=x;exact bC e
theorem Paired.Ah{α β:Type}{F G:α->β->Prop}:∀{l₁:List α} {l₂:List β},Paired F l₁ l₂->(∀a b,F a b->G a b)->Paired G l₁ l₂
 |_,_, .nil,_=> .nil
 |_,_, .cons r t,f=> .cons (f _ _ r) (Paired.Ah t f)
theorem bR.stay(x:bR P w H h a o)(k:∀b u,(b=a\/H b=some (.own a))->h.get? b=some u->h'.get? b=some u)
    (ho:∀b,H b=some (.own a)->H' b=some (.own a)) (ht:∀b xs,H b=some (.tup xs)->H' b=some (.tup xs)):bR P w H' h' a o:=by
  induction o with
  |lst xs=>obtain⟨z,its,n,r,e⟩:=x;exact⟨z,its,n,r,k _ _ (.inl rfl) e⟩
  |tup xs=>obtain⟨z,its,r,ob,e,c⟩:=x;exact⟨z,its,r,ob,k _ _ (.inl rfl) e,c⟩
  |dK kvs=>obtain⟨z,y,vs,r,ob,es,ep,e,c⟩:=x;exact⟨z,y,vs,r,ob,es,ep,k _ _ (.inl rfl) e,c⟩
  | dT kvs =>
    obtain⟨z,y,xs,r,ob,es,ep,e,c⟩:=x
    exact⟨z,y,xs,Paired.Ah r fun p q z=>⟨z.1,ht _ _ z.2.1,z.2.2⟩,ob,es,ep,k _ _ (.inl rfl) e,c⟩
  |set S n=>obtain⟨ob,es,ep,t,e,c⟩:=x;exact⟨ob,es,ep,t,k _ _ (.inl rfl) e,c⟩
  | ins C dx fs =>
    obtain⟨d,z,ne,e,mA,⟨od,es,ep,e2,c⟩,r⟩:=x
    exact⟨ho _ d,z,ne,k _ _ (.inl rfl) e,mA,⟨od,es,ep,k _ _ (.inr d) e2,c⟩,r⟩
  |own y=>obtain⟨ob,e⟩:=x;exact⟨ob,k _ _ (.inl rfl) e⟩
  |xd fs=>obtain⟨mA,⟨od,es,ep,e,c⟩,r⟩:=x;exact⟨mA,⟨od,es,ep,k _ _ (.inl rfl) e,c⟩,r⟩
  |nR lo hi=>obtain⟨t,u,v,e⟩:=x;exact⟨t,u,v,k _ _ (.inl rfl) e⟩
  |cA ob u ih=>obtain⟨e,q⟩:=x;exact⟨k _ _ (.inl rfl) e,ih q⟩
  | oR ps =>
    have e:h.get? a=some {cls:= .none,data:= .fields ps}:=x
    show h'.get? a=some {cls:= .none,data:= .fields ps}
    exact k a _ (.inl rfl) e
  | met f y =>
    have e:h.get? a=some (PySem.W.methodObj (.ref f) (.ref y)):=x
    show h'.get? a=some (PySem.W.methodObj (.ref f) (.ref y))
    exact k a _ (.inl rfl) e
  |ext φ=>obtain⟨p,⟨o,e⟩,st⟩:=x;exact⟨st _ _ p fun o q=>k _ _ (.inl rfl) q,⟨o,k _ _ (.inl rfl) e⟩,st⟩
theorem dD.lt(x:dD P w H h)(e:H a=some o):a<h.objs.size:=(x a o e).lt
theorem dD.fresh(x:dD P w H h)(e:h.objs.size<=a):H a=none:=by
 cases q:H a with
 |none=>rfl
 |some u=>exact absurd (eK (x.lt q) e) (jK _)
theorem dD.kept(x:dD P w H h)(k:∀b u,h.get? b=some u->h'.get? b=some u):dD P w H h':=fun a o e=>
 (x a o e).stay (fun b u _ q=>k b u q) (fun _ q=>q) fun _ _ q=>q
theorem dD.laid(x:dD P w H h)(k:∀b u,h.get? b=some u->h'.get? b=some u)(hp:h.objs.size<=a)(new:bR P w (upd H a o) h' a o):dD P w (upd H a o) h':=fun b u e=>by
 have hn:=x.fresh hp
 by_cases hb:b=a
 ·subst hb;rw[aX] at e;cases e;exact new
 ·rw[au hb] at e
  exact(x b u e).stay (fun c v _ q=>k c v q) (fun c q=>by rw[au (jc q hn)];exact q) fun c xs q=>by rw[au (jc q hn)];exact q
end
def Rd(H:Hp)(a:Addr)(u:HO):Prop:=H a=some u\/∃o,H a=some (.cA o u)
theorem Rd.ok{P:Program}{w:World}{H:Hp}{h:Heap}{a:Addr}{u:HO}(r:Rd H a u)(x:dD P w H h):bR P w H h a u:=by
 rcases r with r|⟨o,r⟩
 ·exact x a u r
 ·obtain⟨_,q⟩:=x a _ r
  exact q
def sq:Option HO->Prop
 |some (.lst _)=>True
 |some (.dK _)=>True
 |some (.dT _)=>True
 |some (.set _ _)=>True
 |some (.ins _ _ _)=>True
 |some (.ext _)=>True
 |_=>False
section
variable{P:Program}{w:World}{H:Hp}{h h':Heap}{x e:Addr}{o':HO}
theorem dD.write(ok:dD P w H h)(mu:sq (H x))(he:e=x\/H e=some (.own x))(k:∀b u,b≠e->h.get? b=some u->h'.get? b=some u)(qA:∃u,h'.get? e=some u)
  (new:bR P w (upd H x o') h' x o'):dD P w (upd H x o') h':=fun b u q=>by
 have Il:∀c y,H c=some (.own y)->c≠x:=fun c y r z=>by subst z;rw[r] at mu;exact mu
 have QB:∀c xs,H c=some (.tup xs)->c≠x:=fun c xs r z=>by subst z;rw[r] at mu;exact mu
 by_cases hb:b=x
 ·subst hb;rw[aX] at q;cases q;exact new
 ·rw[au hb] at q
  by_cases o4:b=e
  ·have q':H b=some (.own x):=by
    rcases he with z|z
    ·exact absurd (o4.trans z) hb
    ·rw[o4];exact z
   rw[q] at q';cases q'
   obtain⟨v,hv⟩:=qA
   exact⟨v,by rw[o4];exact hv⟩
  ·refine(ok b u q).stay (fun c v hc r=>k c v ?_ r) (fun c r=>by rw[au (Il c b r)];exact r) fun c xs r=>by rw[au (QB c xs r)];exact r
   rcases hc with rfl|hc
   ·exact o4
   ·rintro rfl
    rcases he with z|z
    ·exact Il c b hc z
    ·rw[hc] at z;cases z;exact hb rfl
end
structure Un(fs ex:List Addr)(H H':Hp)(h h':Heap):Prop where
 keep:∀b o,h.get? b=some o->H b=none->b∉fs->b∉ex->h'.get? b=some o
 slot:∀b o,h.get? b=some o->H b=none->b∈fs->b∉ex->∃sl,h'.get? b=some {o with slots:=sl}
 free:∀b o,h.get? b=some o->H b=none->b∉ex->H' b=none
 there:∀b o,h.get? b=some o->b∉ex->∃o',h'.get? b=some o'
 tups:∀b xs,H b=some (.tup xs)->H' b=some (.tup xs)
 j6:∀b o u,H b=some (.cA o u)->H' b=some (.cA o u)
 lN:∀b ps,H b=some (.oR ps)->∃more,H' b=some (.oR (ps++more))
section
variable{fs fs' ex ex':List Addr}{H H1 H2:Hp}{h h1 h2 h':Heap}{a x e:Addr}{o:HO}
theorem Un.any(u:Un fs ex H H1 h h1){b:Addr}{ob:Obj}(q:h.get? b=some ob)(n:H b=none)(hx:b∉ex):∃sl,h1.get? b=some {ob with slots:=sl}:=by
 by_cases hb:b∈fs
 ·exact u.slot b ob q n hb hx
 ·exact⟨ob.slots,u.keep b ob q n hb hx⟩
theorem Un.kept(k:∀b u,h.get? b=some u->h'.get? b=some u):Un fs ex H H h h':=
 ⟨fun b ob q _ _ _=>k b ob q,fun b ob q _ _ _=>⟨ob.slots,k b ob q⟩,fun _ _ _ n _=>n,fun b ob q _=>⟨ob,k b ob q⟩,fun _ _ q=>q,fun _ _ _ q=>q,fun _ ps q=>⟨#[],by rw[q];simp⟩⟩
theorem Un.refl:Un fs ex H H h h:=Un.kept fun _ _ q=>q
theorem Un.laid(k:∀b u,h.get? b=some u->h'.get? b=some u)(hp:h.objs.size<=a)(hn:H a=none):Un fs ex H (upd H a o) h h' where
 keep:=fun b u q _ _ _=>k b u q
 slot:=fun b u q _ _ _=>⟨u.slots,k b u q⟩
 free:=fun b u q n _=>by rw[au (cW (eK (bC q) hp))];exact n
 there:=fun b u q _=>⟨u,k b u q⟩
 tups:=fun b xs q=>by rw[au (jc q hn)];exact q
 j6:=fun b u xs q=>by rw[au (jc q hn)];exact q
 lN:=fun b ps q=>⟨#[],by rw[au (jc q hn),q];simp⟩
theorem Un.write(mu:sq (H x))(he:e=x\/H e=some (.own x))(k:∀b u,b≠e->h.get? b=some u->h'.get? b=some u)(qA:∃u,h'.get? e=some u):Un fs ex H (upd H x o) h h':=by
 have hx:∀b,H b=none->b≠x:=fun b n z=>by subst z;rw[n] at mu;exact mu
 have hb:∀b,H b=none->b≠e:=fun b n z=>by
  subst z
  rcases he with r|r
  ·exact hx b n r
  ·rw[n] at r;cases r
 have hm:∀b u,H b=some u->¬sq (some u)->b≠x:=fun b u q nm z=>by subst z;rw[q] at mu;exact nm mu
 refine⟨fun b u q n _ _=>k b u (hb b n) q,fun b u q n _ _=>⟨u.slots,k b u (hb b n) q⟩,fun b u q n _=>by rw[au (hx b n)];exact n,fun b u q _=>?_,
  fun b xs q=>by rw[au (hm b _ q fun z=>z)];exact q,fun b u xs q=>by rw[au (hm b _ q fun z=>z)];exact q,fun b ps q=>⟨#[],by rw[au (hm b _ q fun z=>z),q];simp⟩⟩
 by_cases o4:b=e
 ·subst o4;exact qA
 ·exact⟨u,k b u o4 q⟩
end
def wW(h:Heap)(H:Hp):List Addr:=(List.range h.objs.size).filter fun a=>(H a).isSome
def lQ(h:Heap)(H:Hp):Heap:=PySem.W.hideAll h (wW h H)
theorem Vz(h:Heap)(H:Hp):(lQ h H).objs.size=h.objs.size:=PySem.W.hideAll_size _ _
theorem Rv{h:Heap}{H:Hp}{b:Addr}{o:Obj}(e:h.get? b=some o)(n:H b=none):(lQ h H).get? b=some o:=
 PySem.W.hideAll_get _ e fun hm=>by
  have q:(H b).isSome=true:=(fQ.mp hm).2
  rw[n] at q;simp at q
theorem RV{h:Heap}{H:Hp}{b:Addr}{o:Obj}(e:(lQ h H).get? b=some o):h.get? b=some o/\H b=none:=by
  have e':h.get? b=some o:=PySem.W.of_hideAll (wW h H) e
  refine⟨e',?_⟩
  cases q:H b with
  |none=>rfl
  | some x =>
    have hm:b∈wW h H:=fQ.mpr ⟨jC.mpr (bC e'),by simp[q]⟩
    have z:(lQ h H).get? b=none:=PySem.W.hideAll_none (wW h H) hm
    rw[z] at e;cases e
def Ob(g h:Heap)(L:Addr):List (Addr×Obj):=(List.range h.objs.size).filterMap fun a=>if a=L\/(g.get? a).isSome=true then none else(h.get? a).map fun o=>(a,o)
def rest(g h:Heap)(L d:Addr):List (Addr×Obj):=(Ob g h L).filter fun p=>decide (p.1≠d)
structure Mod(K:PySem.W.Frag)(mg:Str->Option Value)(base:Heap):Prop where
 yh:K.In base
 glob:base.Ns mainGlobals mg
 blt:∃mb,base.Ns builtinsNs mb/\∀x:Str,x≠"__name__" ->mb x=bootBuiltins x
 nolimit:base.NoLimit
structure Cx where
 prog:Program
 w:World
 K:PySem.W.Frag
 mg:Str->Option Value
 base:Heap
 A:Around
 N:List Str
 s₀:Shared
 H₀:Hp
 env:Env
 outer:List Env
 stack:List Env
 ex:List Addr
 fn:Str->Bool
 calm:Bool
 pn:List (Addr×Obj)
 xe:Value->Shared->Prop
def frs(l:List Env):List Addr:=l.filterMap (·.frame)
abbrev Cx.fs(X:Cx):List Addr:=frs X.outer
def zP(sc:Scope)(x:Str):Prop:=sc.names.lookup x=some .local\/sc.names.lookup x=some .cell\/sc.names.lookup x=some .free
def Loc(sc:Scope)(x:Str):Prop:=sc.names.lookup x=some .local\/sc.names.lookup x=some .cell
def Look(env:Env)(h:Heap)(m:Str->Option Value)(x:Str)(u:Value):Prop:=
 (env.kindOf x=some .local/\m x=some u)\/((env.kindOf x=some .cell\/env.kindOf x=some .free)/\∃c,env.cells.lookup x=some c/\h.IsCell c (some u))
structure Cx.Ok(X:Cx):Prop where
 mod:Mod X.K X.mg X.base
 kind:X.env.scope.kind= .function
 glob:X.env.globals=mainGlobals
 blt:X.env.builtins=builtinsNs
 above:X.s₀.heap.objs.size<=X.env.locals
 inj:∀x y c,X.env.cells.lookup x=some c->X.env.cells.lookup y=some c->x=y
 has:∀x,(X.env.kindOf x=some .cell\/X.env.kindOf x=some .free)->∃c,X.env.cells.lookup x=some c
 se:∀x c,X.fn x=true->X.env.cells.lookup x=some c->X.s₀.heap.objs.size<=c
 hd:X.calm=true->X.A.handled=none
 frames:X.A.frames=some X.stack
 stk:X.stack=X.outer\/(X.stack=X.env::X.outer/\X.env.frame=some X.env.locals)
 uh:∀b∈X.ex,b≠X.env.locals/\∀x c,X.env.cells.lookup x=some c->c≠b
 bs:∀b o,X.base.get? b=some o->X.s₀.heap.get? b=some o/\X.H₀ b=none
 oJ:X.base.objs.size<=X.s₀.heap.objs.size
 sY:∀b o,X.base.get? b=some o->b∉X.ex
 rA:∀b∈X.ex,b∉X.fs
 j4:X.s₀.heap.FunFrames X.base X.outer
 p7:∀b∈X.fs,X.H₀ b=none
structure Inv(X:Cx)(pins:List (Addr×Obj))(σ:List (Option V))(H:Hp)(s:Shared):Prop where
 ok:X.Ok
 os:s.os=X.s₀.os
 bare:AllBare s.gens
 base:Un X.fs X.ex X.H₀ H X.s₀.heap s.heap
 loc:∃m,s.heap.Ns X.env.locals m/\∀(i:Nat) (x:Str) (v:V),X.N[i]?=some x->σ[i]?=some (some v)->zP X.env.scope x->∃u,RelV v u/\Look X.env s.heap m x u
 cell:∀x c,X.env.cells.lookup x=some c->∃v,s.heap.IsCell c v
 free:H X.env.locals=none
 jw:∀x c,X.env.cells.lookup x=some c->H c=none
 pin:∀p∈X.pn++pins,s.heap.get? p.1=some p.2/\H p.1=none/\p.1≠X.env.locals/\p.1∉X.fs/\∀v,p.2.data≠ .cell v
 hok:dD X.prog X.w H s.heap
 len:σ.length=X.N.length
section
variable{X:Cx}{pins:List (Addr×Obj)}{σ:List (Option V)}{H H':Hp}{s:Shared}{h':Heap}
theorem Cx.Ok.M5(ok:X.Ok){b:Addr}{o:Obj}(e:X.base.get? b=some o):b∉X.fs:=fun hb=>by
 have:=(ok.j4.mem hb).1
 rw[e] at this;cases this
theorem Inv.bs(I:Inv X pins σ H s):∀b o,X.base.get? b=some o->s.heap.get? b=some o/\H b=none:=fun b o e=>
 ⟨I.base.keep b o (I.ok.bs b o e).1 (I.ok.bs b o e).2 (I.ok.M5 e) (I.ok.sY b o e),I.base.free b o (I.ok.bs b o e).1 (I.ok.bs b o e).2 (I.ok.sY b o e)⟩
theorem Inv.bk(I:Inv X pins σ H s):∀b o,X.base.get? b=some o->s.heap.get? b=some o:=fun b o e=>(I.bs b o e).1
theorem Inv.mod(I:Inv X pins σ H s):Mod X.K X.mg X.base:=I.ok.mod
theorem Inv.fh(I:Inv X pins σ H s):X.K.In s.heap:=I.ok.mod.yh.keeps I.bk
theorem Inv.lt(I:Inv X pins σ H s):X.env.locals<s.heap.objs.size:=let ⟨_,hn,_⟩:=I.loc;hn.lt
theorem Inv.sz(I:Inv X pins σ H s):X.s₀.heap.objs.size<=s.heap.objs.size:=eE I.ok.above (jr I.lt)
theorem Inv.TH(I:Inv X pins σ H s){a:Addr}(h:s.heap.objs.size<=a):a∉X.fs:=fun hb=>by
 obtain⟨_,o,ho,_⟩:=I.ok.j4.mem hb
 exact absurd (eK (bC ho) (eE I.sz h)) (jK _)
theorem Inv.n9(I:Inv X pins σ H s):∀x c,X.env.cells.lookup x=some c->c≠X.env.locals:=fun x c e z=>by
 obtain⟨v,o,ho,hd⟩:=I.cell x c e
 obtain⟨m,⟨o',es,ep,ho',hd',_⟩,_⟩:=I.loc
 rw[z,ho'] at ho;cases ho;rw[hd'] at hd;cases hd
theorem Inv.j4(I:Inv X pins σ H s):s.heap.FunFrames X.base X.outer:=by
  have all:∀(l:List Env),(∀b∈frs l,b∈X.fs)->X.s₀.heap.FunFrames X.base l->s.heap.FunFrames X.base l:=by
    intro l
    induction l with
    |nil=>intro _ _;trivial
    | cons env r ih =>
      intro hs hl
      obtain⟨hk,⟨L,o,hf,hn,ho,hd⟩,hr⟩:=hl
      have hL:L∈X.fs:=hs L (by unfold frs;rw[p5,hf];exact bA)
      obtain⟨sl,e⟩:=I.base.slot L o ho (I.ok.p7 L hL) hL fun z=>I.ok.rA L z hL
      exact⟨hk,⟨L,_,hf,hn,e,hd⟩,ih (fun b hb=>hs b (by unfold frs;rw[p5,hf];exact cG _ hb)) hr⟩
  exact all X.outer (fun _ hb=>hb) I.ok.j4
theorem Inv.stack(I:Inv X pins σ H s):s.heap.FunFrames X.base X.stack:=by
 rcases I.ok.stk with e|⟨e,hf⟩
 ·rw[e];exact I.j4
 ·rw[e]
  obtain⟨m,hn,_⟩:=I.loc
  refine .cons (by rw[I.ok.kind];decide) hf hn ?_ I.j4
  exact Heap.get?_none_of_le (eE I.ok.oJ I.ok.above)
theorem Inv.BF(I:Inv X pins σ H s):∀b∈frs X.stack,b∈X.env.locals::X.fs:=fun b hb=>by
 rcases I.ok.stk with e|⟨e,hf⟩
 ·rw[e] at hb;exact cG _ hb
 ·rw[e] at hb
  unfold frs at hb
  rw[p5,hf] at hb
  exact hb
theorem Inv.Jb(I:Inv X pins σ H s):∀b∈frs X.stack,H b=none:=fun b hb=>by
 rcases aM.mp (I.BF b hb) with e|hb
 ·rw[e];exact I.free
 ·obtain⟨_,o,ho,_⟩:=I.ok.j4.mem hb
  exact I.base.free b o ho (I.ok.p7 b hb) fun z=>I.ok.rA b z hb
theorem Inv.step{g':Array GenState}{t':Nat}{d':Drawn}{ch:List Addr}(I:Inv X pins σ H s)
  (hch:∀b∈ch,(b∈X.ex\/X.s₀.heap.objs.size<=b)/\b≠X.env.locals/\(∀x c,X.env.cells.lookup x=some c->c≠b)/\∀p∈X.pn++pins,p.1≠b)
  (keep:∀b o,b≠X.env.locals->b∉X.fs->b∉ch->s.heap.get? b=some o->H b=none->h'.get? b=some o)
  (slot:∀b o,b≠X.env.locals->b∈X.fs->b∉ch->s.heap.get? b=some o->H b=none->∃sl,h'.get? b=some {o with slots:=sl}) (free:∀b o,b∉ch->s.heap.get? b=some o->H b=none->H' b=none)
  (there:∀b o,b∉ch->s.heap.get? b=some o->∃o',h'.get? b=some o')
  (tups:∀b xs,H b=some (.tup xs)->H' b=some (.tup xs)) (j6:∀b o u,H b=some (.cA o u)->H' b=some (.cA o u)) (lN:∀b ps,H b=some (.oR ps)->∃more,H' b=some (.oR (ps++more)))
  (ns:∀m,s.heap.Ns X.env.locals m->h'.Ns X.env.locals m) (hok:dD X.prog X.w H' h') (hg:AllBare g'):
  Inv X pins σ H' {s with heap:=h',gens:=g',drawn:=d',toks:=t'}:=by
 have Gr:∀b o,X.s₀.heap.get? b=some o->b≠X.env.locals:=fun b o e=>cW (eK (bC e) I.ok.above)
 have vI:∀b o,X.s₀.heap.get? b=some o->b∉X.ex->b∉ch:=fun b o e hx hb=>by
  rcases(hch b hb).1 with z|z
  ·exact hx z
  ·exact absurd (eK (bC e) z) (jK _)
 have cellK:∀x c,X.env.cells.lookup x=some c->∀v,s.heap.IsCell c v->h'.IsCell c v:=fun x c e v ⟨o,ho,hd⟩=>by
  have qZ:c∉ch:=fun z=>(hch c z).2.2.1 x c e rfl
  by_cases hc:c∈X.fs
  ·obtain⟨sl,q⟩:=slot c o (I.n9 x c e) hc qZ ho (I.jw x c e)
   exact⟨_,q,hd⟩
  ·exact⟨o,keep c o (I.n9 x c e) hc qZ ho (I.jw x c e),hd⟩
 refine⟨I.ok,I.os,hg,⟨fun b o e n hb hx=>?_,fun b o e n hb hx=>?_,fun b o e n hx=>?_,fun b o e hx=>?_,fun b xs e=>tups b xs (I.base.tups b xs e),fun b o xs e=>j6 b o xs (I.base.j6 b o xs e),fun b ps e=>?_⟩,?_,fun x c e=>?_,?_,fun x c e=>?_,fun p hp=>?_,hok,I.len⟩
 ·exact keep b o (Gr b o e) hb (vI b o e hx) (I.base.keep b o e n hb hx) (I.base.free b o e n hx)
 ·obtain⟨sl,e1⟩:=I.base.slot b o e n hb hx
  obtain⟨S6,e2⟩:=slot b _ (Gr b o e) hb (vI b o e hx) e1 (I.base.free b o e n hx)
  exact⟨S6,e2⟩
 ·obtain⟨o',e1⟩:=I.base.there b o e hx
  exact free b o' (vI b o e hx) e1 (I.base.free b o e n hx)
 ·obtain⟨o',e1⟩:=I.base.there b o e hx
  exact there b o' (vI b o e hx) e1
 ·obtain⟨m1,e1⟩:=I.base.lN b ps e
  obtain⟨m2,e2⟩:=lN b _ e1
  exact⟨m1++m2,by rw[e2,Array.append_assoc]⟩
 ·obtain⟨m,hn,hl⟩:=I.loc
  refine⟨m,ns m hn,fun i x v e1 e2 e3=>?_⟩
  obtain⟨u,r,l⟩:=hl i x v e1 e2 e3
  refine⟨u,r,?_⟩
  rcases l with l|⟨k,c,e,z⟩
  ·exact .inl l
  ·exact .inr ⟨k,c,e,cellK x c e _ z⟩
 ·obtain⟨v,z⟩:=I.cell x c e
  exact⟨v,cellK x c e v z⟩
 ·obtain⟨m,⟨o,_,_,ho,_⟩,_⟩:=I.loc
  exact free _ o (fun z=>(hch _ z).2.1 rfl) ho I.free
 ·obtain⟨v,o,ho,hd⟩:=I.cell x c e
  exact free c o (fun z=>(hch c z).2.2.1 x c e rfl) ho (I.jw x c e)
 ·obtain⟨e,n,ne,nf,d⟩:=I.pin p hp
  have qZ:p.1∉ch:=fun z=>(hch p.1 z).2.2.2 p hp rfl
  exact⟨keep p.1 p.2 ne nf qZ e n,free p.1 p.2 qZ e n,ne,nf,d⟩
theorem Inv.un{t':Nat}(I:Inv X pins σ H s)(u:Un X.fs [] H H' s.heap h')(hok:dD X.prog X.w H' h'):Inv X pins σ H' {s with heap:=h',toks:=t'}:=by
 obtain⟨m,⟨o,es,ep,ho,r⟩,_⟩:=id I.loc
 obtain⟨sl,hL⟩:=u.any ho I.free (by simp)
 exact I.step (g':=s.gens) (d':=s.drawn) (ch:=[]) (fun _ z=>nomatch z) (fun b o _ hb _ e n=>u.keep b o e n hb (by simp)) (fun b o _ hb _ e n=>u.slot b o e n hb (by simp)) (fun b o _ e n=>u.free b o e n (by simp)) (fun b o _ e=>u.there b o e (by simp)) u.tups u.j6 u.lN (fun m' hm=>by
  obtain⟨o',es',vS,ho',r'⟩:=hm
  rw[ho] at ho';cases ho'
  exact⟨_,es',vS,hL,r'⟩) hok I.bare
theorem Inv.call{g':Array GenState}{t':Nat}{d':Drawn}{ch:List Addr}(I:Inv X pins σ H s)(u:Un (frs X.stack) ch H H' s.heap h')(hok:dD X.prog X.w H' h')(hg:AllBare g')
  (hch:∀b∈ch,(b∈X.ex\/X.s₀.heap.objs.size<=b)/\b≠X.env.locals/\(∀x c,X.env.cells.lookup x=some c->c≠b)/\∀p∈X.pn++pins,p.1≠b):
  Inv X pins σ H' {s with heap:=h',gens:=g',drawn:=d',toks:=t'}:=by
 obtain⟨m,⟨o,es,ep,ho,r⟩,_⟩:=id I.loc
 obtain⟨sl,hL⟩:=u.any ho I.free fun z=>(hch _ z).2.1 rfl
 exact I.step (ch:=ch) hch (fun b o hL hb hc e n=>u.keep b o e n (fun z=>(aM.mp (I.BF b z)).elim hL hb) hc) (fun b o _ _ hc e n=>u.any e n hc) (fun b o hc e n=>u.free b o e n hc) (fun b o hc e=>u.there b o e hc) u.tups u.j6 u.lN (fun m' hm=>by
  obtain⟨o',es',vS,ho',r'⟩:=hm
  rw[ho] at ho';cases ho'
  exact⟨_,es',vS,hL,r'⟩) hok hg
theorem Inv.turned{t':Nat}{it:Addr}(I:Inv X pins σ H s)(k:∀b o,b≠it->s.heap.get? b=some o->h'.get? b=some o)(hn:H it=none)(hL:it≠X.env.locals)
  (h1:it∈X.ex\/X.s₀.heap.objs.size<=it) (h2:∀x c,X.env.cells.lookup x=some c->c≠it) (h3:∀p∈X.pn++pins,p.1≠it):Inv X pins σ H {s with heap:=h',toks:=t'}:=by
 have FL:∀b u,H b=some u->b≠it:=fun b u e z=>by rw[z,hn] at e;cases e
 refine I.step (g':=s.gens) (d':=s.drawn) (ch:=[it]) (fun b hb=>?_) (fun b o _ _ hc e _=>k b o (fun z=>hc (by simp[z])) e) (fun b o _ _ hc e _=>⟨o.slots,k b o (fun z=>hc (by simp[z])) e⟩) (fun _ _ _ _ n=>n)
  (fun b o hc e=>⟨o,k b o (fun z=>hc (by simp[z])) e⟩) (fun _ _ e=>e) (fun _ _ _ e=>e) (fun b ps e=>⟨#[],by rw[e];simp⟩) (fun m hm=>?_) (fun b u e=>?_) I.bare
 ·have e:b=it:=by simpa using hb
  subst e
  exact⟨h1,hL,h2,h3⟩
 ·obtain⟨o,es,ep,ho,r⟩:=hm
  exact⟨o,es,ep,k _ o (bx hL) ho,r⟩
 ·refine(I.hok b u e).stay (fun c v hc q=>k c v ?_ q) (fun _ q=>q) fun _ _ q=>q
  rcases hc with z|z
  ·rw[z];exact FL b u e
  ·exact FL c _ z
theorem Inv.tok(I:Inv X pins σ H s)(t:Nat):Inv X pins σ H {s with toks:=t}:=I.un (h':=s.heap) (t':=t) Un.refl I.hok
theorem Inv.kept{t':Nat}(I:Inv X pins σ H s)(k:∀b u,s.heap.get? b=some u->h'.get? b=some u):Inv X pins σ H {s with heap:=h',toks:=t'}:=I.un (Un.kept k) (I.hok.kept k)
theorem Inv.laid{a:Addr}{o:HO}{t':Nat}(I:Inv X pins σ H s)(k:∀b u,s.heap.get? b=some u->h'.get? b=some u)(hp:s.heap.objs.size<=a)(new:bR X.prog X.w (upd H a o) h' a o):
  Inv X pins σ (upd H a o) {s with heap:=h',toks:=t'}:=I.un (Un.laid k hp (I.hok.fresh hp)) (I.hok.laid k hp new)
theorem Inv.write{x e:Addr}{o:HO}{t':Nat}(I:Inv X pins σ H s)(mu:sq (H x))(he:e=x\/H e=some (.own x))(k:∀b u,b≠e->s.heap.get? b=some u->h'.get? b=some u)(qA:∃u,h'.get? e=some u)
  (new:bR X.prog X.w (upd H x o) h' x o):Inv X pins σ (upd H x o) {s with heap:=h',toks:=t'}:=I.un (Un.write mu he k qA) (I.hok.write mu he k qA new)
theorem Inv.FD{HA:List (Addr×Obj)}(I:Inv X pins σ H s)(h:∀p∈HA,s.heap.get? p.1=some p.2/\H p.1=none/\p.1≠X.env.locals/\p.1∉X.fs/\∀v,p.2.data≠ .cell v):Inv X HA σ H s:=
 ⟨I.ok,I.os,I.bare,I.base,I.loc,I.cell,I.free,I.jw,fun p hp=>(dg.mp hp).elim (fun z=>I.pin p (pB _ z)) (h p),I.hok,I.len⟩
theorem Ls{N:List Str}(hN:N.Nodup){i j:Nat}{x:Str}(a:N[i]?=some x)(b:N[j]?=some x):i=j:=by
 obtain⟨h1,e1⟩:=aP.mp a
 obtain⟨h2,e2⟩:=aP.mp b
 exact(tH hN).mp (e1.trans e2.symm)
theorem Lq{M:Model}{A:Around}{E:Value->Shared->Prop}{i:Nat}{x:Str}{v:V}{u:Value}{Q:Unit->Shared->Prop}(I:Inv X pins σ H s)(hN:X.N.Nodup)(hi:X.N[i]?=some x)(hx:Loc X.env.scope x)(r:RelV v u)
  (h:∀s',Inv X pins (σ.set i (some v)) H s'->(∃a,Heap.SameBut a s.heap s'.heap/\(a=X.env.locals\/X.env.cells.lookup x=some a))->Q () s') (hf:X.fn x=true\/X.env.scope.names.lookup x=some .local:=by first|exact .inl rfl|exact .inr rfl|assumption):wpAny M A (storeName X.env x u) Q E s:=by
 obtain⟨m,hn,hl⟩:=id I.loc
 have hcls:(X.env.scope.kind== .class||(X.env.scope.kind== .module && X.env.locals !=X.env.globals))=false:=by rw[I.ok.kind];rfl
 have Gq:i<σ.length:=by rw[I.len];exact(aP.mp hi).1
 have n9:=I.n9
 have tracked:∀{a:Addr} {h':Heap},(∃o,s.heap.get? a=some o/\H a=none)->Heap.SameBut a s.heap h'->dD X.prog X.w H h':=fun{a h'} ha hs b ob e=>by
  obtain⟨_,_,hfree⟩:=ha
  refine(I.hok b ob e).stay (fun c w' hc q=>(hs.2 c ?_).trans q) (fun _ q=>q) fun _ _ q=>q
  rintro rfl
  rcases hc with rfl|hc
  ·rw[hfree] at e;cases e
  ·rw[hfree] at hc;cases hc
 rcases hx with hk|hk
 ·refine wpAny_storeName_local hk hn (fun h' hn' hs=>?_) hcls
  obtain⟨oL,_,_,uG,_⟩:=id hn
  refine h _ ⟨I.ok,I.os,I.bare,⟨fun b o e n hb hx=>?_,fun b o e n hb hx=>?_,I.base.free,fun b o e hx=>?_,I.base.tups,I.base.j6,I.base.lN⟩,⟨_,hn',fun j y v' e1 e2 e3=>?_⟩,fun y c e=>?_,I.free,I.jw,fun p hp=>?_,tracked ⟨oL,uG,I.free⟩ hs,by simpa using I.len⟩ ⟨_,hs, .inl rfl⟩
  ·exact(hs.2 b (cW (eK (bC e) I.ok.above))).trans (I.base.keep b o e n hb hx)
  ·obtain⟨sl,e1⟩:=I.base.slot b o e n hb hx
   exact⟨sl,(hs.2 b (cW (eK (bC e) I.ok.above))).trans e1⟩
  ·obtain⟨o',e1⟩:=I.base.there b o e hx
   exact⟨o',(hs.2 b (cW (eK (bC e) I.ok.above))).trans e1⟩
  ·by_cases hj:j=i
   ·subst hj
    rw[hi] at e1;cases e1
    rw[cX Gq] at e2
    cases e2
    exact⟨u,r, .inl ⟨hk,by simp⟩⟩
   ·rw[bP (bx hj)] at e2
    obtain⟨u',r',q⟩:=hl j y v' e1 e2 e3
    refine⟨u',r',?_⟩
    rcases q with ⟨k,e⟩|⟨k,c,e,z⟩
    ·refine .inl ⟨k,?_⟩
     have:y≠x:=fun e=>hj (Ls hN e1 (e▸hi))
     simp[this,e]
    ·exact .inr ⟨k,c,e,z.sameBut hs (n9 y c e)⟩
  ·obtain⟨w',z⟩:=I.cell y c e
   exact⟨w',z.sameBut hs (n9 y c e)⟩
  ·obtain⟨e,n,ne,nf,d⟩:=I.pin p hp
   exact⟨(hs.2 p.1 ne).trans e,n,ne,nf,d⟩
 ·have hfn:X.fn x=true:=by
   rcases hf with z|z
   ·exact z
   ·rw[z] at hk;cases hk
  obtain⟨c,hc⟩:=I.ok.has x (.inl hk)
  obtain⟨w',z⟩:=I.cell x c hc
  refine wpAny_storeName_cell I.ok.kind hk hc z (fun h' hc' hs=>?_)
  obtain⟨oc,hoc,RP⟩:=id z
  refine h {s with heap:=h'} ⟨I.ok,I.os,I.bare,⟨fun b o e n hb hx=>?_,fun b o e n hb hx=>?_,I.base.free,fun b o e hx=>?_,I.base.tups,I.base.j6,I.base.lN⟩,⟨m,hn.sameBut hs (bx (n9 x c hc)),fun j y v' e1 e2 e3=>?_⟩,fun y c' e=>?_,I.free,I.jw,fun p hp=>?_,tracked ⟨oc,hoc,I.jw x c hc⟩ hs,by simpa using I.len⟩ ⟨c,hs, .inr hc⟩
  ·exact(hs.2 b (cW (eK (bC e) (I.ok.se x c hfn hc)))).trans (I.base.keep b o e n hb hx)
  ·obtain⟨sl,e1⟩:=I.base.slot b o e n hb hx
   exact⟨sl,(hs.2 b (cW (eK (bC e) (I.ok.se x c hfn hc)))).trans e1⟩
  ·obtain⟨o',e1⟩:=I.base.there b o e hx
   exact⟨o',(hs.2 b (cW (eK (bC e) (I.ok.se x c hfn hc)))).trans e1⟩
  ·by_cases hj:j=i
   ·subst hj
    rw[hi] at e1;cases e1
    rw[cX Gq] at e2
    cases e2
    exact⟨u,r, .inr ⟨.inl hk,c,hc,hc'⟩⟩
   ·rw[bP (bx hj)] at e2
    obtain⟨u',r',q⟩:=hl j y v' e1 e2 e3
    refine⟨u',r',?_⟩
    rcases q with q|⟨k,c',e,z'⟩
    ·exact .inl q
    ·refine .inr ⟨k,c',e,z'.sameBut hs ?_⟩
     rintro rfl
     exact hj (Ls hN e1 (I.ok.inj _ _ _ e hc▸hi))
  ·by_cases hcc:c'=c
   ·subst hcc;exact⟨_,hc'⟩
   ·obtain⟨w2,z2⟩:=I.cell y c' e
    exact⟨w2,z2.sameBut hs hcc⟩
  ·obtain⟨e,n,ne,nf,d⟩:=I.pin p hp
   refine⟨(hs.2 p.1 ?_).trans e,n,ne,nf,d⟩
   intro q
   rw[q,hoc] at e
   have q':oc=p.2:=fL e
   exact d w' (by rw[<-q'];exact RP)
theorem GC{M:Model}{A:Around}{E:Value->Shared->Prop}{i:Nat}{x:Str}{v:V}{u:Value}{Q:Unit->Shared->Prop}(I:Inv X pins σ H s)(hN:X.N.Nodup)(hi:X.N[i]?=some x)(hx:Loc X.env.scope x)(r:RelV v u)
  (h:∀s',Inv X pins (σ.set i (some v)) H s'->Q () s') (hf:X.fn x=true\/X.env.scope.names.lookup x=some .local:=by first|exact .inl rfl|exact .inr rfl|assumption):wpAny M A (storeName X.env x u) Q E s:=
 Lq I hN hi hx r (fun s' I' _=>h s' I') hf
theorem Inv.PU{s':Shared}{ch:List Addr}(I:Inv X pins σ H s)(ho:s'.os=s.os)(u:Un (frs X.stack) ch H H' s.heap s'.heap)(hok:dD X.prog X.w H' s'.heap)(hg:AllBare s'.gens)
  (hch:∀b∈ch,(b∈X.ex\/X.s₀.heap.objs.size<=b)/\b≠X.env.locals/\(∀x c,X.env.cells.lookup x=some c->c≠b)/\∀p∈X.pn++pins,p.1≠b):Inv X pins σ H' s':=by
 obtain⟨h',g',d',t',o'⟩:=s'
 have e:o'=s.os:=ho
 subst e
 exact I.call (g':=g') (t':=t') (d':=d') u hok hg hch
end
abbrev XK:=Value->Option Addr->Hp->Prop
abbrev St:=List (Option V)
abbrev VK:=V->Hp->Prop
abbrev TE:=St->Hp->VK->Prop
abbrev TT:=St->Hp->(Bool->Hp->Prop)->Prop
abbrev TA:=St->Hp->(List V->Hp->Prop)->Prop
structure Ends where
 nx:St->Hp->Prop
 rt:VK
 bk:St->Hp->Prop:=fun _ _=>False
 ct:St->Hp->Prop:=fun _ _=>False
abbrev TS:=Ends->St->Hp->Prop
def EP(X:Cx)(pins:List (Addr×Obj))(σ:St)(Q:VK)(u:Value)(s':Shared):Prop:=∃v H',Inv X pins σ H' s'/\RelV v u/\Q v H'
def TP(X:Cx)(pins:List (Addr×Obj))(σ:St)(Q:Bool->Hp->Prop)(b:Bool)(s':Shared):Prop:=∃H',Inv X pins σ H' s'/\Q b H'
def AP(X:Cx)(pins:List (Addr×Obj))(σ:St)(Q:List V->Hp->Prop)(us:List Value)(s':Shared):Prop:=∃vs H',Inv X pins σ H' s'/\Vals vs us/\Q vs H'
def SP(X:Cx)(pins:List (Addr×Obj))(D:Ends)(f:Flow)(s':Shared):Prop:=
 match f with
 | .next=>∃σ' H',Inv X pins σ' H' s'/\D.nx σ' H'
 | .brk=>∃σ' H',Inv X pins σ' H' s'/\D.bk σ' H'
 | .cont=>∃σ' H',Inv X pins σ' H' s'/\D.ct σ' H'
 | .ret u=>∃v σ' H',Inv X pins σ' H' s'/\RelV v u/\D.rt v H'
def PE(X:Cx)(e:Expr)(t:TE):Prop:=
 ∀(pins:List (Addr×Obj)) (s:Shared) (σ:St) (H:Hp) (Q:VK),Inv X pins σ H s->t σ H Q->wpAny (model X.prog X.w) X.A (eval e X.env) (EP X pins σ Q) X.xe s
def PT(X:Cx)(e:Expr)(t:TT):Prop:=
 ∀(pins:List (Addr×Obj)) (s:Shared) (σ:St) (H:Hp) (Q:Bool->Hp->Prop),Inv X pins σ H s->t σ H Q->wpAny (model X.prog X.w) X.A (isTrue e X.env (eval e X.env)) (TP X pins σ Q) X.xe s
def PW(X:Cx)(e:Expr)(t:TT):Prop:=
 ∀(whole:Sem Value) (pins:List (Addr×Obj)) (s:Shared) (σ:St) (H:Hp) (Q:Bool->Hp->Prop),Inv X pins σ H s->t σ H Q->wpAny (model X.prog X.w) X.A (isTrue e X.env whole) (TP X pins σ Q) X.xe s
theorem PW.pt{X:Cx}{e:Expr}{t:TT}(h:PW X e t):PT X e t:=h _
def PA(X:Cx)(es:List Expr)(t:TA):Prop:=
 ∀(pos:Pos) (pins:List (Addr×Obj)) (s:Shared) (σ:St) (H:Hp) (Q:List V->Hp->Prop),Inv X pins σ H s->t σ H Q->wpAny (model X.prog X.w) X.A (spliced (backTo pos (starEach es X.env))) (AP X pins σ Q) X.xe s
def PS(X:Cx)(st:Stmt)(t:TS):Prop:=
 ∀(pins:List (Addr×Obj)) (s:Shared) (σ:St) (H:Hp) (D:Ends),Inv X pins σ H s->t D σ H->wpAny (model X.prog X.w) X.A (exec st X.env) (SP X pins D) X.xe s
def jo(X:Cx)(st:List Stmt)(t:TS):Prop:=
 ∀(pins:List (Addr×Obj)) (s:Shared) (σ:St) (H:Hp) (D:Ends),Inv X pins σ H s->t D σ H->wpAny (model X.prog X.w) X.A (execs st X.env) (SP X pins D) X.xe s
theorem aW{α:Type}{t:Sem α}{Q Q':α->Shared->Prop}{M:Model}{A:Around}{E:Value->Shared->Prop}{s:Shared}(h:wpAny M A t Q E s)(hQ:∀a s,Q a s->Q' a s):wpAny M A t Q' E s:=wpAny_mono h hQ fun _ _ x=>x
section
variable{X:Cx}
theorem bin{a b:Expr}{ta tb:TE}(ha:PE X a ta)(hb:PE X b tb){pins:List (Addr×Obj)}{s:Shared}{σ:St}{H:Hp}{R:V->V->Hp->Prop}(I:Inv X pins σ H s)(h:ta σ H fun x H1=>tb σ H1 fun y H2=>R x y H2)
  {α:Type} {Q:α->Shared->Prop} {f:Value->Value->Sem α}
  (hf:∀v u s2 x y H2,Inv X pins σ H2 s2->RelV x v->RelV y u->R x y H2->wpAny (model X.prog X.w) X.A (f v u) Q X.xe s2):
  wpAny (model X.prog X.w) X.A (eval a X.env) (fun v s₁=>wpAny (model X.prog X.w) X.A (eval b X.env) (fun u s₂=>wpAny (model X.prog X.w) X.A (f v u) Q X.xe s₂) X.xe s₁) X.xe s:=by
 refine aW (ha pins s σ H _ I h) fun v s1 ⟨x,H1,I1,r1,q1⟩=>?_
 refine aW (hb pins s1 σ H1 _ I1 q1) fun u s2 ⟨y,H2,I2,r2,q2⟩=>?_
 exact hf v u s2 x y H2 I2 r1 r2 q2
def cQ(i:Nat):TE:=fun σ H Q=>∃v,σ[i]?=some (some v)/\Q v H
def tC(v:V):TE:=fun _ H Q=>Q v H
theorem P4{i:Nat}{x:Str}{pos:Pos}(hN:X.N[i]?=some x)(hv:zP X.env.scope x)(hd:(x==("__debug__":Str))=false:=by decide)(hcd:(x==("__classdict__":Str))=false:=by decide):PE X (.Name x pos) (cQ i):=by
 intro pins s σ H Q I h
 obtain⟨v,e,h⟩:=h
 obtain⟨m,hn,hl⟩:=I.loc
 obtain⟨u,r,l⟩:=hl i x v hN e hv
 have fin:EP X pins σ Q u s:=⟨v,H,I,r,h⟩
 rcases l with ⟨hk,hm⟩|⟨hk,c,hc,hcell⟩
 ·exact wpAny_Name (wpAny_loadName_local I.ok.kind hk hn hm fin) hd
 ·rcases hk with hk|hk
  ·exact wpAny_Name (wpAny_loadName_cell I.ok.kind hk hc hcell fin) hd
  ·exact wpAny_Name (wpAny_loadName_free I.ok.kind hk hc hcell fin hcd) hd
theorem ao{i j pos}:PE X (.Constant (.int i) j pos) (tC (.int i)):=fun _ _ _ H _ I h=>wpAny_Constant_int ⟨.int i,H,I.tok _,⟨_,rfl⟩,h⟩
theorem mE{b j pos}:PE X (.Constant (.bool b) j pos) (tC (.bl b)):=fun _ _ _ H _ I h=>Constant_bool ⟨.bl b,H,I,rfl,h⟩
theorem qG{j pos}:PE X (.Constant .none j pos) (tC .aT):=fun _ _ _ H _ I h=>Constant_none ⟨.aT,H,I,rfl,h⟩
theorem kJ{x j pos}:PE X (.Constant (.str x) j pos) (tC (.str x)):=fun _ _ _ H _ I h=>Calls.Constant_str ⟨.str x,H,I.tok _,⟨_,rfl⟩,h⟩
def Gl(X:Cx)(x:Str):Prop:=X.env.kindOf x=some .globalImplicit
theorem XZ{E:Value->Shared->Prop}{pins:List (Addr×Obj)}{s:Shared}{σ:St}{H:Hp}{x:Str}{u:Value}{pos:Pos}{Q:Value->Shared->Prop}(I:Inv X pins σ H s)(hg:Gl X x)(hm:X.mg x=some u)(h:Q u s)
  (hd:(x==("__debug__":Str))=false:=by decide):wpAny (model X.prog X.w) X.A (eval (.Name x pos) X.env) Q E s:=
 GA I.ok.kind hg (Calls.loadGlobal_global (by rw[I.ok.glob];exact I.mod.glob.keeps I.bk) hm h) hd
theorem qf{E:Value->Shared->Prop}{pins:List (Addr×Obj)}{s:Shared}{σ:St}{H:Hp}{x:Str}{u:Value}{pos:Pos}{Q:Value->Shared->Prop}(I:Inv X pins σ H s)(hg:Gl X x)(hm:X.mg x=none)(hv:bootBuiltins x=some u)(h:Q u s)
  (hn:x≠"__name__":=by decide) (hd:(x==("__debug__":Str))=false:=by decide):wpAny (model X.prog X.w) X.A (eval (.Name x pos) X.env) Q E s:=by
 obtain⟨mb,h1,h2⟩:=I.mod.blt
 exact GA I.ok.kind hg (Calls.loadGlobal_builtin (by rw[I.ok.glob];exact I.mod.glob.keeps I.bk) hm (by rw[I.ok.blt];exact h1.keeps I.bk) ((h2 x hn).trans hv) h) hd
theorem jB{x:Str}{v:V}{u:Value}{pos:Pos}(hg:Gl X x)(hm:X.mg x=none)(hv:bootBuiltins x=some u)(r:RelV v u)(hn:x≠"__name__":=by decide)(hd:(x==("__debug__":Str))=false:=by decide):PE X (.Name x pos) (tC v):=
 fun _ _ _ H _ I h=>qf I hg hm hv ⟨v,H,I,r,h⟩ hn hd
variable{a b:Expr}{ta tb:TE}{pos:Pos}
def PC(X:Cx)(op:CmpOp)(a b:Expr)(t:TE):Prop:=
 ∀(pins:List (Addr×Obj)) (s:Shared) (σ:St) (H:Hp) (Q:VK),Inv X pins σ H s->t σ H Q->
  wpAny (model X.prog X.w) X.A (eval a X.env) (fun v s₁=>wpAny (model X.prog X.w) X.A (eval b X.env) (fun u s₂=>wpAny (model X.prog X.w) X.A (compareOp op v u) (EP X pins σ Q) X.xe s₂) X.xe s₁) X.xe s
variable{tA uB:TT}{rest:List Expr}
def Df(t u:TT):TT:=fun σ H Q=>t σ H fun c H1=>if c=true then u σ H1 Q else Q false H1
def Fv(t u:TT):TT:=fun σ H Q=>t σ H fun c H1=>if c=true then Q true H1 else u σ H1 Q
def J0(t:TT):TT:=fun σ H Q=>t σ H fun c H1=>Q (!c) H1
theorem pI(ha:PT X a tA):PW X (.BoolOp .And [a] pos) tA:=by
 intro wh pins s σ H Q I h
 refine isTrue_and (aW (ha pins s σ H Q I h) fun c s1 e=>?_)
 cases c with
 |true=>exact isTrue_and_nil e
 |false=>exact e
theorem AY(ha:PT X a tA):PW X (.BoolOp .Or [a] pos) tA:=by
 intro wh pins s σ H Q I h
 refine isTrue_or (aW (ha pins s σ H Q I h) fun c s1 e=>?_)
 cases c with
 |false=>exact isTrue_or_nil e
 |true=>exact e
theorem qz(ha:PT X a tA)(hb:PW X (.BoolOp .And (b::rest) pos) uB):PW X (.BoolOp .And (a::b::rest) pos) (Df tA uB):=by
 intro wh pins s σ H Q I h
 refine isTrue_and (aW (ha pins s σ H _ I h) fun c s1 ⟨H1,I1,q1⟩=>?_)
 cases c with
 |true=>exact hb wh pins s1 σ H1 Q I1 q1
 |false=>exact⟨H1,I1,q1⟩
theorem CV(ha:PT X a tA)(hb:PW X (.BoolOp .Or (b::rest) pos) uB):PW X (.BoolOp .Or (a::b::rest) pos) (Fv tA uB):=by
 intro wh pins s σ H Q I h
 refine isTrue_or (aW (ha pins s σ H _ I h) fun c s1 ⟨H1,I1,q1⟩=>?_)
 cases c with
 |true=>exact⟨H1,I1,q1⟩
 |false=>exact hb wh pins s1 σ H1 Q I1 q1
theorem rD(ha:PT X a tA):PT X (.UnaryOp .Not a pos) (J0 tA):=by
 intro pins s σ H Q I h
 exact isTrue_not (ha pins s σ H (fun c H1=>Q (!c) H1) I h)
def HW(ta tb:TE):TE:=fun σ H Q=>ta σ H fun x H1=>∃c,x= .bl c/\if c=true then tb σ H1 Q else Q (.bl false) H1
theorem Iu{op}{t:TE}(h:PE X a t):PE X (.BoolOp op [a] pos) t:=fun pins s σ H Q I hw=>BoolOp_one (h pins s σ H Q I hw)
theorem IA(ha:PE X a ta)(hb:PE X (.BoolOp .And (b::rest) pos) tb):PE X (.BoolOp .And (a::b::rest) pos) (HW ta tb):=by
 intro pins s σ H Q I h
 refine BoolOp_and (aW (ha pins s σ H _ I h) fun v s1 ⟨x,H1,I1,r1,q1⟩=>?_)
 obtain⟨c,rfl,q1⟩:=q1
 cases r1
 refine wpAny_truthy_bool ?_
 cases c with
 |true=>exact hb pins s1 σ H1 Q I1 q1
 |false=>exact⟨.bl false,H1,I1,rfl,q1⟩
def Jg(t:TT)(ta tb:TE):TE:=fun σ H Q=>t σ H fun c H1=>if c=true then ta σ H1 Q else tb σ H1 Q
theorem U3{c:Expr}(hc:PT X c tA)(ha:PE X a ta)(hb:PE X b tb):PE X (.IfExp c a b pos) (Jg tA ta tb):=by
 intro pins s σ H Q I h
 refine wpAny_IfExp (aW (hc pins s σ H _ I h) fun d s1 ⟨H1,I1,q1⟩=>?_)
 cases d with
 |true=>exact ha pins s1 σ H1 Q I1 q1
 |false=>exact hb pins s1 σ H1 Q I1 q1
end
def aV(K:PySem.W.Frag)(H:Hp)(a:Addr)(xs:List V):Prop:=
 Rd H a (.lst xs)\/
  ∃(o:Obj) (its:Array Value) (n:Nat),K.lookup a=some o/\o.cls= .type "list" /\o.dict=none/\o.data= .seq its n/\its.size<=sizeLine/\Vals xs its.toList
def gx(K:PySem.W.Frag)(H:Hp)(a:Addr)(xs:List V):Prop:=
 Rd H a (.tup xs)\/
  ∃(o:Obj) (its:Array Value) (n:Nat),K.lookup a=some o/\o.cls= .type "tuple" /\o.data= .seq its n/\its.size<=sizeLine/\Vals xs its.toList
def QW:Value->Option V
 | .none=>some .aT
 | .bool b=>some (.bl b)
 | .int i _=>some (.int i)
 | .str x _=>some (.str x)
 | .bytes b _=>some (.jk b)
 | .float b _=>some (.lD b)
 | .ref a=>some (.ref a)
 | .type n=>some (.ty n)
 |_=>none
theorem RelV.abs{x:V}{u:Value}(r:RelV x u):QW u=some x:=by
 cases x with
 |aT=>cases r;rfl
 |bl _=>cases r;rfl
 |int _=>obtain⟨t,rfl⟩:=r;rfl
 |str _=>obtain⟨t,rfl⟩:=r;rfl
 |jk _=>obtain⟨t,rfl⟩:=r;rfl
 |lD _=>obtain⟨t,rfl⟩:=r;rfl
 |ref _=>cases r;rfl
 |ty _=>cases r;rfl
theorem RelV.inj{x y:V}{u:Value}(r:RelV x u)(q:RelV y u):x=y:=fL (r.abs.symm.trans q.abs)
theorem Vals.inj{xs ys:List V}{us:List Value}(h:Vals xs us)(k:Vals ys us):xs=ys:=by
 induction h generalizing ys with
 |nil=>cases k;rfl
 |cons r t ih=>cases k with|cons r' t'=>rw[r.inj r',ih t']
section
variable{X:Cx}{pins:List (Addr×Obj)}{σ:St}{H:Hp}{s:Shared}{a:Addr}{xs ys:List V}
theorem aV.of{K:PySem.W.Frag}(h:H a=some (.lst xs)):aV K H a xs:= .inl (.inl h)
theorem gx.of{K:PySem.W.Frag}(h:H a=some (.tup xs)):gx K H a xs:= .inl (.inl h)
theorem Inv.list(I:Inv X pins σ H s)(h:aV X.K H a xs):∃its:List Value,Vals xs its/\PlainL s.heap a its.toArray/\xs.length<=sizeLine:=by
 rcases h with h|⟨o,its,n,hk,hc,hd,hs,hz,r⟩
 ·obtain⟨z,its,n,r,e⟩:=h.ok I.hok
  exact⟨its,r,⟨_,n,e,rfl,rfl,rfl⟩,z⟩
 ·refine⟨its.toList,r,⟨o,n,I.fh a o hk,hc,hd,by simpa using hs⟩,?_⟩
  have e:=r.length
  simp only[jx] at e
  omega
theorem Inv.tuple(I:Inv X pins σ H s)(h:gx X.K H a xs):∃its:List Value,Vals xs its/\IsTup s.heap a its.toArray/\xs.length<=sizeLine:=by
 rcases h with h|⟨o,its,n,hk,hc,hs,hz,r⟩
 ·obtain⟨z,its,r,p⟩:=h.ok I.hok
  exact⟨its,r,p,z⟩
 ·refine⟨its.toList,r,⟨o,I.fh a o hk,hc,n,by simpa using hs⟩,?_⟩
  have e:=r.length
  simp only[jx] at e
  omega
theorem Inv.Jv(I:Inv X pins σ H s)(h:aV X.K H a xs)(h':aV X.K H a ys):xs=ys:=by
 obtain⟨its,r,⟨o,n,e,_,_,d⟩,_⟩:=I.list h
 obtain⟨its',r',⟨o',n',e',_,_,d'⟩,_⟩:=I.list h'
 rw[e] at e';cases e'
 rw[d] at d'
 injection d' with d1 _
 have:its=its':=by simpa using congrArg Array.toList d1
 subst this
 exact r.inj r'
end
abbrev Cx.k8(X:Cx)(E:Value->Shared->Prop):Cx:={X with xe:=E}
abbrev Cx.uL(X:Cx):Cx:=X.k8 fun _ _=>False
theorem Cx.Ok.k8{X:Cx}(ok:X.Ok)(E:Value->Shared->Prop):(X.k8 E).Ok:=
 ⟨ok.mod,ok.kind,ok.glob,ok.blt,ok.above,ok.inj,ok.has,ok.se,ok.hd,ok.frames,ok.stk,ok.uh,ok.bs,ok.oJ,ok.sY,ok.rA,ok.j4,ok.p7⟩
theorem Cx.Ok.mH{X:Cx}{E:Value->Shared->Prop}(ok:(X.k8 E).Ok):X.Ok:=
 ⟨ok.mod,ok.kind,ok.glob,ok.blt,ok.above,ok.inj,ok.has,ok.se,ok.hd,ok.frames,ok.stk,ok.uh,ok.bs,ok.oJ,ok.sY,ok.rA,ok.j4,ok.p7⟩
section
variable{X:Cx}{pins:List (Addr×Obj)}{σ:St}{H:Hp}{s:Shared}{E:Value->Shared->Prop}
theorem Inv.k8(I:Inv X pins σ H s)(E:Value->Shared->Prop):Inv (X.k8 E) pins σ H s:=⟨I.ok.k8 E,I.os,I.bare,I.base,I.loc,I.cell,I.free,I.jw,I.pin,I.hok,I.len⟩
theorem Inv.mH(I:Inv (X.k8 E) pins σ H s):Inv X pins σ H s:=⟨I.ok.mH,I.os,I.bare,I.base,I.loc,I.cell,I.free,I.jw,I.pin,I.hok,I.len⟩
theorem SP.mH{D:Ends}{f:Flow}{s':Shared}(h:SP (X.k8 E) pins D f s'):SP X pins D f s':=by
 cases f with
 |next=>obtain⟨σ',H',I,q⟩:=h;exact⟨σ',H',I.mH,q⟩
 |brk=>obtain⟨σ',H',I,q⟩:=h;exact⟨σ',H',I.mH,q⟩
 |cont=>obtain⟨σ',H',I,q⟩:=h;exact⟨σ',H',I.mH,q⟩
 |ret u=>obtain⟨v,σ',H',I,r,q⟩:=h;exact⟨v,σ',H',I.mH,r,q⟩
theorem jo.uL{st:List Stmt}{t:TS}(h:jo X.uL st t):jo X st t:=fun pins s σ H D I hw=>
 wpAny_mono (h pins s σ H D (I.k8 _) hw) (fun _ _ q=>q.mH) fun _ _ z=>False.elim z
end
section
variable{X:Cx}{st:Stmt}{rest:List Stmt}{t u:TS}{e:Expr}{te:TE}{pos:Pos}
def uN:TS:=fun D σ H=>D.nx σ H
def pH(t u:TS):TS:=fun D σ H=>t {D with nx:=u D} σ H
theorem dj:jo X [] uN:=fun _ _ σ H _ I h=>wpAny_execs_nil ⟨σ,H,I,h⟩
theorem ak(h1:PS X st t)(h2:jo X rest u):jo X (st::rest) (pH t u):=by
  intro pins s σ H D I h
  refine wpAny_execs_cons (aW (h1 pins s σ H {D with nx:=u D} I h) fun f s1 q=>?_)
  cases f with
  | next =>
    obtain⟨σ',H',I',q⟩:=q
    exact h2 pins s1 σ' H' D I' q
  |ret v=>exact q
  |brk=>exact q
  |cont=>exact q
theorem az(h1:PS X st t):jo X [st] t:=by
 intro pins s σ H D I h
 refine wpAny_execs_cons (aW (h1 pins s σ H D I h) fun f s1 q=>?_)
 cases f with
 |next=>exact wpAny_execs_nil q
 |ret v=>exact q
 |brk=>exact q
 |cont=>exact q
def QG:TS:=fun D σ H=>D.ct σ H
theorem Inv.quiet{pins:List (Addr×Obj)}{σ:St}{H:Hp}{s:Shared}(I:Inv X pins σ H s):interactive X.env=false:=by simp[interactive,I.ok.kind]
def sI(te:TE):TS:=fun D σ H=>te σ H fun _ H1=>D.nx σ H1
theorem kO(he:PE X e te)(hs:swapsWith e none pos.line X.env=pure false:=by rfl):PS X (.Expr e pos) (sI te):=by
 intro pins s σ H D I h
 exact wpAny_Expr_any (aW (he pins s σ H _ I h) fun v s1 ⟨x,H1,I1,r1,q1⟩=>⟨σ,H1,I1,q1⟩) I.quiet hs
def rR(te:TE):TS:=fun D σ H=>te σ H D.rt
theorem aZ(he:PE X e te):PS X (.Return (some e) pos) (rR te):=by
 intro pins s σ H D I h
 exact wpAny_Return_some (aW (he pins s σ H _ I h) fun v s1 ⟨x,H1,I1,r1,q1⟩=>⟨x,σ,H1,I1,r1,q1⟩)
def tN(c:TT)(t u:TS):TS:=fun D σ H=>c σ H fun b H1=>if b=true then t D σ H1 else u D σ H1
theorem cN{c:Expr}{a b:List Stmt}{tc:TT}(hc:PT X c tc)(ha:jo X a t)(hb:jo X b u):PS X (.If c a b pos) (tN tc t u):=by
 intro pins s σ H D I h
 refine wpAny_If (aW (hc pins s σ H _ I h) fun d s1 ⟨H1,I1,q1⟩=>?_)
 cases d with
 |true=>exact ha pins s1 σ H1 D I1 q1
 |false=>exact hb pins s1 σ H1 D I1 q1
end
abbrev TG:=V->St->Hp->(St->Hp->Prop)->Prop
abbrev iW:=List V->St->Hp->(St->Hp->Prop)->Prop
def PG(X:Cx)(target:Expr)(t:TG):Prop:=
 ∀(pins:List (Addr×Obj)) (s:Shared) (σ:St) (H:Hp) (v:V) (u:Value) (Q:St->Hp->Prop),Inv X pins σ H s->RelV v u->t v σ H Q->
  wpAny (model X.prog X.w) X.A (assign target X.env u) (fun _ s'=>∃σ' H',Inv X pins σ' H' s'/\Q σ' H') X.xe s
def sF(X:Cx)(ts:List Expr)(t:iW):Prop:=
 ∀(pins:List (Addr×Obj)) (s:Shared) (σ:St) (H:Hp) (vs:List V) (us:List Value) (Q:St->Hp->Prop),Inv X pins σ H s->Vals vs us->t vs σ H Q->
  wpAny (model X.prog X.w) X.A (assignInOrder ((assignEach ts X.env).map (·.2)) us) (fun _ s'=>∃σ' H',Inv X pins σ' H' s'/\Q σ' H') X.xe s
abbrev qU:=V->V->V->Hp->(Hp->Prop)->Prop
def xo(X:Cx)(t:qU):Prop:=
 ∀(pins:List (Addr×Obj)) (s:Shared) (σ:St) (H:Hp) (o i v:V) (ov iv u:Value) (Q:Hp->Prop),Inv X pins σ H s->RelV o ov->RelV i iv->RelV v u->t o i v H Q->
  wpAny (model X.prog X.w) X.A (setItem ov iv u) (fun _ s'=>∃H',Inv X pins σ H' s'/\Q H') X.xe s
section
variable{X:Cx}{pos:Pos}
def fR(i:Nat):TG:=fun v σ H Q=>Q (σ.set i (some v)) H
theorem aH{i:Nat}{x:Str}(hN:X.N.Nodup)(hi:X.N[i]?=some x)(hx:Loc X.env.scope x)(hf:X.fn x=true\/X.env.scope.names.lookup x=some .local:=by first|exact .inl rfl|exact .inr rfl|assumption):PG X (.Name x pos) (fR i):=by
 intro pins s σ H v u Q I r h
 exact wpAny_assign_Name (GC I hN hi hx r (fun s' I'=>⟨_,H,I',h⟩) hf)
def z9:iW:=fun vs σ H Q=>vs=[]/\Q σ H
def z7(t:TG)(u:iW):iW:=fun vs σ H Q=>∃v r,vs=v::r/\t v σ H fun σ' H'=>u r σ' H' Q
theorem gM:sF X [] z9:=by
 intro pins s σ H vs us Q I r h
 obtain⟨e,h⟩:=h
 subst e
 cases r
 exact assignInOrder_nil ⟨σ,H,I,h⟩
theorem bV{e:Expr}{es:List Expr}{t:TG}{u:iW}(h1:PG X e t)(h2:sF X es u)
    (hs:(assignEach (e::es) X.env).map (·.2)=assign e X.env::(assignEach es X.env).map (·.2):=by rfl):sF X (e::es) (z7 t u):=by
  intro pins s σ H vs us Q I r h
  obtain⟨v,vr,e1,h⟩:=h
  subst e1
  cases r with
  | cons r rr =>
    rw[hs]
    refine assignInOrder_cons (aW (h1 pins s σ H _ _ _ I r h) fun _ s1 ⟨σ1,H1,I1,q1⟩=>?_)
    exact h2 pins s1 σ1 H1 _ _ Q I1 rr q1
def vN(K:PySem.W.Frag)(n:Nat)(t:iW):TG:=fun v σ H Q=>∃a xs,v= .ref a/\gx K H a xs/\xs.length=n/\t xs σ H Q
theorem JL{es:List Expr}{k:Nat}{t:iW}{n:Nat}(hc:X.calm=true)(h:sF X es t)
  (hn:(assignEach es X.env).length=n:=by rfl) (hst:(assignEach es X.env).findIdx? (·.1)=none:=by rfl):PG X (.Tuple es k pos) (vN X.K n t):=by
 intro pins s σ H v u Q I r hw
 obtain⟨a,xs,e1,hq,hl,hw⟩:=hw
 subst e1
 cases r
 obtain⟨its,rv,ht,hz⟩:=I.tuple hq
 refine assign_Tuple_tuple (I.ok.hd hc) ht (by simp[hn,<-hl,rv.length]) hst fun h' hx=>?_
 have I1:Inv X pins σ H {s with heap:=h'}:=I.kept (t':=s.toks) fun b o e=>hx b o (cW (bC e)) e
 exact h pins _ σ H xs _ Q I1 (by simpa using rv) hw
def oH(to ti:TE)(t:qU):TG:=fun v σ H Q=>to σ H fun o H1=>ti σ H1 fun i H2=>t o i v H2 fun H3=>Q σ H3
theorem jq{o i:Expr}{to ti:TE}{t:qU}(ho:PE X o to)(hi:PE X i ti)(hs:xo X t)
  (ha : ∀ v, assign (.Subscript o i pos) X.env v = (do
   let ov<-holding [v] (eval o X.env)
   let iv<-holding [v,ov] (eval i X.env)
   standAt pos
   holding [v,ov,iv] (setItem ov iv v)
   release [v,ov,iv] []):=by intro _;rfl):PG X (.Subscript o i pos) (oH to ti t):=by
 intro pins s σ H v u Q I r h
 rw[ha]
 refine wpAny_bind (wpAny_holding (aW (ho pins s σ H _ I h) fun ov s1 ⟨x,H1,I1,r1,q1⟩=>?_))
 refine wpAny_bind (wpAny_holding (aW (hi pins s1 σ H1 _ I1 q1) fun iv s2 ⟨y,H2,I2,r2,q2⟩=>?_))
 refine wpAny_bind (wpAny_standAt (wpAny_bind (wpAny_holding (aW (hs pins s2 σ H2 x y v ov iv u _ I2 r1 r2 r q2) fun _ s3 ⟨H3,I3,q3⟩=>?_))))
 exact wpAny_release ⟨σ,H3,I3,q3⟩
def gZ(te:TE)(g:TG):TS:=fun D σ H=>te σ H fun x H1=>g x σ H1 D.nx
theorem gK{tg e:Expr}{te:TE}{g:TG}(he:PE X e te)(hg:PG X tg g)(hs:swapsWithSole [tg] e pos.line X.env=pure false:=by rfl)(hw:swappedStores [tg] e X.env=pure none:=by rfl)
  (h1:(assignEach [tg] X.env).map (·.2)=[assign tg X.env]:=by rfl):PS X (.Assign [tg] e pos) (gZ te g):=by
 intro pins s σ H D I h
 refine wpAny_Assign_stores (aW (he pins s σ H _ I h) fun v s1 ⟨x,H1,I1,r1,q1⟩=>?_) hs hw
 rw[h1]
 exact aW (hg pins s1 σ H1 x v _ I1 r1 q1) fun _ s2 q=>q
theorem aE{i:Nat}{x:Str}{e:Expr}{te:TE}{pos':Pos}(hN:X.N.Nodup)(hi:X.N[i]?=some x)(hx:Loc X.env.scope x)(he:PE X e te)(hs:swapsWith e (some (.Name x pos')) pos.line X.env=pure false:=by rfl)(hf:X.fn x=true\/X.env.scope.names.lookup x=some .local:=by first|exact .inl rfl|exact .inr rfl|assumption):
  PS X (.Assign [.Name x pos'] e pos) (gZ te (fR i)):=by
 intro pins s σ H D I h
 refine wpAny_Assign_Name (aW (he pins s σ H _ I h) fun v s1 ⟨y,H1,I1,r1,q1⟩=>?_) hs
 exact GC I1 hN hi hx r1 (fun s2 I2=>⟨_,H1,I2,q1⟩) hf
end
section
variable{X:Cx}{pos:Pos}
def z0(c:TT)(tb:TS):TS:=fun D σ H=>∃W:Nat->St->Hp->Prop,(∃m,W m σ H)/\∀m σ H,W m σ H->
 c σ H fun b H1=>if b=true then∃N:St->Hp->Prop,(∀σ' H',N σ' H'->∃m',m'<m/\W m' σ' H')/\tb {D with nx:=N,ct:=N,bk:=D.nx} σ H1 else D.nx σ H1
theorem w4{c:Expr}{body:List Stmt}{tc:TT}{tb:TS}(hp:PassesOwn (model X.prog X.w) X.A X.env X.xe)(hc:PT X c tc)(hb:jo X body tb):PS X (.While c body [] pos) (z0 tc tb):=by
  intro pins s σ H D I h
  obtain⟨W,⟨m0,w0⟩,turn⟩:=h
  refine wpAny_While (codeAny_whileLoop (fun n s'=>∃σ' H',Inv X pins σ' H' s'/\W n σ' H') ?_ m0 ⟨σ,H,I,w0⟩)
  rintro n s1 ⟨σ1,H1,I1,w1⟩
  refine wpAny_passesOwn hp (aW (hc pins s1 σ1 H1 _ I1 (turn n σ1 H1 w1)) fun b s2 ⟨H2,I2,q2⟩=>?_)
  cases b with
  | true =>
    obtain⟨N,hN,q2⟩:=q2
    rw[if_pos rfl]
    refine wpAny_passesOwn hp (aW (hb pins s2 σ1 H2 _ I2 q2) fun f s3 q3=>?_)
    cases f with
    | next =>
      obtain⟨σ3,H3,I3,n3⟩:=q3
      obtain⟨m',hm,w3⟩:=hN σ3 H3 n3
      exact⟨m',hm,σ3,H3,I3,w3⟩
    | cont =>
      obtain⟨σ3,H3,I3,n3⟩:=q3
      obtain⟨m',hm,w3⟩:=hN σ3 H3 n3
      exact⟨m',hm,σ3,H3,I3,w3⟩
    |brk=>exact q3
    |ret v=>exact q3
  | false =>
    rw[if_neg dZ]
    exact wpAny_execs_nil ⟨σ1,H2,I2,q2⟩
end
structure It where
 go:Nat->Hp->Prop
 mU:Nat->Hp->V->Hp->Prop
 stop:Nat->Hp->Prop
def jd(X:Cx)(pins:List (Addr×Obj))(H:Hp)(b:Addr):Prop:=
 H b=none/\b≠X.env.locals/\b∉X.fs/\(b∈X.ex\/X.s₀.heap.objs.size<=b)/\(∀x c,X.env.cells.lookup x=some c->c≠b)/\∀p∈X.pn++pins,p.1≠b
theorem Inv.pQ{X:Cx}{pins:List (Addr×Obj)}{σ:St}{H H':Hp}{s:Shared}{b:Addr}(I:Inv X pins σ H s)(hb:s.heap.objs.size<=b)(hn:H' b=none):jd X pins H' b:=by
 refine⟨hn,oG (eK I.lt hb),I.TH hb, .inr (eE I.sz hb),fun x c e z=>?_,fun p hp z=>?_⟩
 ·obtain⟨v,q⟩:=I.cell x c e
  exact absurd (eK q.lt (by rw[z];exact hb)) (jK _)
 ·exact absurd (eK (bC (I.pin p hp).1) (by rw[z];exact hb)) (jK _)
structure Turn(P:Program)(w:World)(K:PySem.W.Frag)(tg:Expr)(J:It)(fp:List Addr)(it:Addr)(tn:Nat->Heap->Prop):Prop where
 mem:it∈fp
 obj:∀i h,tn i h->∀b∈fp,∃o,h.get? b=some o/\∀v,o.data≠ .cell v
 keep:∀i h h',tn i h->(∀b∈fp,∀o,h.get? b=some o->h'.get? b=some o)->tn i h'
 item:∀(X:Cx),X.prog=P->X.w=w->X.K=K->X.calm=true->∀(i:Nat) (pins:List (Addr×Obj)) (s:Shared) (σ:St) (H:Hp) (E:Value->Shared->Prop),Inv X pins σ H s->(∀b∈fp,jd X pins H b)->tn i s.heap->J.go i H->
  wpAny (model P w) X.A (pyNext (.ref it)) (fun r s1=>∃u,r=some u/\
   wpAny (model P w) X.A (letOwnedTupleGo tg (.ref it) u) (fun _ s2=>∃x H',Inv X pins σ H' s2/\RelV x u/\J.mU i H x H'/\tn (i+1) s2.heap/\∀b∈fp,H' b=none) E s1) E s
 done:∀(X:Cx),X.prog=P->X.w=w->X.K=K->X.calm=true->∀(i:Nat) (pins:List (Addr×Obj)) (s:Shared) (σ:St) (H:Hp) (E:Value->Shared->Prop),Inv X pins σ H s->(∀b∈fp,jd X pins H b)->tn i s.heap->J.stop i H->
  wpAny (model P w) X.A (pyNext (.ref it)) (fun r s1=>r=none/\Inv X pins σ H s1) E s
 self:∀(A:Around) (i:Nat) (s:Shared) (Q:Value->Shared->Prop) (E:Value->Shared->Prop),tn i s.heap->Q (.ref it) s->wpAny (model P w) A (pyIter (.ref it)) Q E s
abbrev TI:=St->Hp->(It->Hp->Prop)->Prop
def Fw(X:Cx)(pins:List (Addr×Obj))(σ:St)(tg:Expr)(R:It->Hp->Prop)(itv:Value)(s2:Shared):Prop:=
 ∃(it:Addr) (fp:List Addr) (tn:Nat->Heap->Prop) (J:It) (H':Hp),itv= .ref it/\Inv X pins σ H' s2/\Turn X.prog X.w X.K tg J fp it tn/\tn 0 s2.heap/\(∀b∈fp,jd X pins H' b)/\R J H'
def PI(X:Cx)(tg iter:Expr)(wi:TI):Prop:=
 ∀(pins:List (Addr×Obj)) (s:Shared) (σ:St) (H:Hp) (R:It->Hp->Prop),Inv X pins σ H s->wi σ H R->
  wpAny (model X.prog X.w) X.A (eval iter X.env) (fun v s1=>wpAny (model X.prog X.w) X.A (pyIter v) (Fw X pins σ tg R) X.xe s1) X.xe s
theorem CP{M:Model}{A:Around}{E:Value->Shared->Prop}{s:Shared}{tg:Expr}{it:Addr}{u:Value}{o:Obj}{n:String}{vs:Array Value}{Q:Unit->Shared->Prop}(ho:s.heap.get? it=some o)(hc:o.cls= .type n)(hd:o.data= .fields vs)
    (hn:["enumerate","zip","dict_itemiterator","dict_reverseitemiterator","odict_iterator","itertools.zip_longest","itertools.pairwise"].contains n=false) (hQ:Q () s):wpAny M A (letOwnedTupleGo tg (.ref it) u) Q E s:=by
  unfold letOwnedTupleGo
  cases tg<;>first
    |exact wpAny_pure hQ
    |(cases u<;>first
        |exact wpAny_pure hQ
        | (refine wpAny_bind (wpAny_load ho ?_)
           rw[hc,hd]
           show wpAny M A (if(["enumerate","zip","dict_itemiterator","dict_reverseitemiterator","odict_iterator","itertools.zip_longest","itertools.pairwise"].contains n && vs[0]?==some (rawInt _))=true then _ else _) Q E s
           rw[if_neg (by intro h;rw[hn,Bool.false_and] at h;cases h)]
           exact wpAny_pure hQ))
def nV(K:PySem.W.Frag)(a:Addr):It:=
 ⟨fun i H=>∃xs x,aV K H a xs/\xs[i]?=some x,fun i H x H'=>H'=H/\∀xs,aV K H a xs->xs[i]?=some x,fun i H=>∃xs,aV K H a xs/\xs.length<=i⟩
def jh(lo:Int)(n:Nat):It:=⟨fun i _=>i<n,fun i H x H'=>H'=H/\x= .int (lo+i),fun i _=>n<=i⟩
theorem WG{P:Program}{w:World}{K:PySem.W.Frag}{tg:Expr}(a it:Addr):Turn P w K tg (nV K a) [it] it (fun i h=>h.IsListIter it a i) where
 mem:=by simp
 obj:=fun i h st b hb=>by
  have e:b=it:=by simpa using hb
  subst e
  obtain⟨o,e,c,d⟩:=st
  exact⟨o,e,fun v z=>by rw[d] at z;cases z⟩
 keep:=fun i h h' st k=>st.at fun o e=>k it (by simp) o e
 item:=by
  intro X hP hw hK hc i pins s σ H E I hf st hg
  subst hP hw hK
  obtain⟨xs,x,hq,hx⟩:=hg
  obtain⟨its,rv,p,hz⟩:=I.list hq
  obtain⟨u,hu,ru⟩:=rv.get hx
  obtain⟨f0,f1,f2,f3,f4,f5⟩:=hf it (by simp)
  refine wpAny_pyNext_list_item st p.isList (x:=u) (by simpa using hu) fun h' st' sb=>?_
  have I1:Inv X pins σ H {s with heap:=h'}:=I.turned (t':=s.toks) (fun b o hb e=>(sb.2 b hb).trans e) f0 f1 f3 f4 f5
  obtain⟨o,e,c,d⟩:=id st'
  exact⟨u,rfl,CP (s:={s with heap:=h'}) e c d (by decide) ⟨x,H,I1,ru,⟨rfl,fun ys hy=>by rw[I.Jv hy hq];exact hx⟩,st',fun b hb=>(hf b hb).1⟩⟩
 done:=by
  intro X hP hw hK hc i pins s σ H E I hf st hg
  subst hP hw hK
  obtain⟨xs,hq,hx⟩:=hg
  obtain⟨its,rv,p,hz⟩:=I.list hq
  obtain⟨f0,f1,f2,f3,f4,f5⟩:=hf it (by simp)
  have hl:=rv.length
  exact wpAny_pyNext_list_end (I.ok.hd hc) st p.isList (by simp;omega) fun h' eb=>⟨rfl,I.turned (t':=s.toks) (fun b o hb e=>eb b o hb e) f0 f1 f3 f4 f5⟩
 self:=fun _ _ _ _ _ st h=>wpAny_pyIter_listiter st h
theorem MD{P:Program}{w:World}{K:PySem.W.Frag}{tg:Expr}(it:Addr)(lo:Int)(n:Nat):Turn P w K tg (jh lo n) [it] it (fun i h=>IsRangeIter h it (lo+(i:Nat)*1) ((n:Int)-(i:Nat)) 1) where
 mem:=by simp
 obj:=fun i h st b hb=>by
  have e:b=it:=by simpa using hb
  subst e
  exact⟨_,st,fun v z=>by
   have z':Data.fields _=Data.cell v:=z
   cases z'⟩
 keep:=fun i h h' st k=>k it (by simp) _ st
 item:=by
  intro X hP hw hK hc i pins s σ H E I hf st hg
  subst hP hw hK
  obtain⟨f0,f1,f2,f3,f4,f5⟩:=hf it (by simp)
  have W:=Walks.range (prog:=X.prog) (w:=X.w) (I.ok.hd hc) it lo 1 n
  refine W.item i s _ _ hg st fun v h' tk hv st' kk=>?_
  obtain⟨t,rfl⟩:=hv
  have I1:Inv X pins σ H {s with heap:=h',toks:=tk}:=I.turned (fun b o hb e=>kk b o (by simpa using hb) e) f0 f1 f3 f4 f5
  refine⟨_,rfl,CP (s:={s with heap:=h',toks:=tk}) (n:="range_iterator") st' rfl rfl (by decide) ⟨.int (lo+i),H,I1,⟨t,?_⟩,⟨rfl,rfl⟩,st',fun b hb=>(hf b hb).1⟩⟩
  rw[Int.mul_one]
 done:=by
  intro X hP hw hK hc i pins s σ H E I hf st hg
  subst hP hw hK
  obtain⟨f0,f1,f2,f3,f4,f5⟩:=hf it (by simp)
  exact wpAny_pyNext_range_end (I.ok.hd hc) st (by have:n<=i:=hg;omega) fun h' eb=>⟨rfl,I.turned (t':=s.toks) (fun b o hb e=>eb b o hb e) f0 f1 f3 f4 f5⟩
 self:=fun _ _ _ _ _ st h=>wpAny_pyIter_rangeiter st h
section
variable{X:Cx}{tg:Expr}
def pL(K:PySem.W.Frag)(tl:TE):TI:=fun σ H R=>tl σ H fun x H1=>∃a,x= .ref a/\(∃xs,aV K H1 a xs)/\R (nV K a) H1
theorem eB{l:Expr}{tl:TE}(hl:PE X l tl):PI X tg l (pL X.K tl):=by
 intro pins s σ H R I h
 refine aW (hl pins s σ H _ I h) fun v s1 ⟨x,H1,I1,r1,q1⟩=>?_
 obtain⟨a,e,⟨xs,hq⟩,q⟩:=q1
 subst e
 cases r1
 obtain⟨its,rv,p,hz⟩:=I1.list hq
 refine wpAny_pyIter_list p.isList ?_
 refine⟨s1.heap.objs.size,[s1.heap.objs.size],_,_,H1,rfl,I1.kept (t':=s1.toks) fun b o e=>bS _ e,WG a _,⟨_,fk _ rfl,rfl,rfl⟩,fun b hb=>?_,q⟩
 have e:b=s1.heap.objs.size:=by simpa using hb
 subst e
 exact I1.pQ (aJ _) (I1.hok.fresh (aJ _))
theorem Lw{pins:List (Addr×Obj)}{σ:St}{H:Hp}{s:Shared}{R:It->Hp->Prop}{E:Value->Shared->Prop}{lo hi:Int}{t u v:Tok}{tk:Nat}(I:Inv X pins σ H s)(h1: -(2^62)<=lo)(h2:lo<2^62)(h3: -(2^62)<=hi)(h4:hi<2^62)
  (q:R (jh lo (hi-lo).toNat) H):wpAny (model X.prog X.w) X.A (pyIter (.ref s.heap.objs.size)) (Fw X pins σ tg R) E {s with heap:=s.heap.push {cls:= .type "range",data:= .fields #[.int lo t, .int hi u, .int 1 v]},toks:=tk}:=by
 refine wpAny_pyIter_range (IsRange.new ..) (small_one h1 h2 h3 h4) ?_
 have I1:Inv X pins σ H {s with heap:=s.heap.push {cls:= .type "range",data:= .fields #[.int lo t, .int hi u, .int 1 v]},toks:=tk}:=I.kept fun b o e=>bS _ e
 refine⟨(s.heap.push {cls:= .type "range",data:= .fields #[.int lo t, .int hi u, .int 1 v]}).objs.size,[(s.heap.push {cls:= .type "range",data:= .fields #[.int lo t, .int hi u, .int 1 v]}).objs.size],_,_,H,rfl,
  I1.kept (t':=tk) fun b o e=>bS _ e,MD _ lo (hi-lo).toNat,?_,fun b hb=>?_,q⟩
 ·have e1:lo+((0:Nat):Int)*1=lo:=by simp
  have e2:(((hi-lo).toNat:Nat):Int)-((0:Nat):Int)=Builtin.Range.rangeSize lo hi 1:=by rw[rangeSize_one];split<;>omega
  show IsRangeIter _ _ (lo+((0:Nat):Int)*1) ((((hi-lo).toNat:Nat):Int)-((0:Nat):Int)) 1
  rw[e1,e2]
  exact fk _ rfl
 ·have e:b=(s.heap.push {cls:= .type "range",data:= .fields #[.int lo t, .int hi u, .int 1 v]}).objs.size:=by simpa using hb
  subst e
  exact I1.pQ (aJ _) (I1.hok.fresh (aJ _))
def qJ(ta:TA):TI:=fun σ H R=>ta σ H fun vs H1=>∃j:Int,vs=[.int j]/\ -(2^62)<=j/\j<2^62/\R (jh 0 j.toNat) H1
def Hw(ta:TA):TI:=fun σ H R=>ta σ H fun vs H1=>∃i j:Int,vs=[.int i, .int j]/\(-(2^62)<=i/\i<2^62/\ -(2^62)<=j/\j<2^62)/\R (jh i (j-i).toNat) H1
theorem gF{a:Expr}{ta:TA}{p pos:Pos}(hg:Gl X "range")(hm:X.mg "range"=none)(ha:PA X [a] ta)(hs:starEach [a] X.env=[(false,eval a X.env)]:=by rfl):PI X tg (.Call (.Name "range" p) [a] [] pos) (qJ ta):=by
  intro pins s σ H R I h
  refine Call_ (qf I hg hm boot_range (uH (aW (ha pos pins s σ H _ I h) fun us s1 ⟨vs,H1,I1,r1,q1⟩=>?_) hs rfl))
  obtain⟨j,e,q1,q2,q⟩:=q1
  subst e
  cases r1 with
  | cons r rr =>
    cases rr
    obtain⟨t,rfl⟩:=r
    exact call_range_1 (Lw I1 (by omega) (by omega) q1 q2 (by simpa using q))
theorem EA{a b:Expr}{ta:TA}{p pos:Pos}(hg:Gl X "range")(hm:X.mg "range"=none)(ha:PA X [a,b] ta)(hs:starEach [a,b] X.env=[(false,eval a X.env),(false,eval b X.env)]:=by rfl)(hs2:starEach [b] X.env=[(false,eval b X.env)]:=by rfl):
    PI X tg (.Call (.Name "range" p) [a,b] [] pos) (Hw ta):=by
  intro pins s σ H R I h
  refine Call_ (qf I hg hm boot_range (uH (aW (ha pos pins s σ H _ I h) fun us s1 ⟨vs,H1,I1,r1,q1⟩=>?_) (by rw[hs,hs2]) (by rw[hs2];rfl)))
  obtain⟨i,j,e,⟨q1,q2,q3,q4⟩,q⟩:=q1
  subst e
  cases r1 with
  | cons r rr =>
    cases rr with
    | cons r' rr =>
      cases rr
      obtain⟨t,rfl⟩:=r
      obtain⟨t',rfl⟩:=r'
      exact call_range_2 (Lw I1 q1 q2 q3 q4 q)
def pP(wi:TI)(g:TG)(tb:TS):TS:=fun D σ H=>wi σ H fun J H1=>∃W:Nat->Nat->St->Hp->Prop,(∃m,W 0 m σ H1)/\∀i m σ H,W i m σ H->
 (J.stop i H/\D.nx σ H)\/(J.go i H/\∃N:St->Hp->Prop,(∀σ' H',N σ' H'->∃m',m'<m/\W (i+1) m' σ' H')/\∀x H',J.mU i H x H'->g x σ H' fun σ2 H2=>tb {D with nx:=N,ct:=N,bk:=D.nx} σ2 H2)
def rV(fp:List Addr)(h:Heap):List (Addr×Obj):=fp.filterMap fun b=>(h.get? b).map fun o=>(b,o)
theorem u6{fp:List Addr}{h:Heap}{b:Addr}{o:Obj}(hb:b∈fp)(e:h.get? b=some o):(b,o)∈rV fp h:=CB.mpr ⟨b,hb,by rw[e];rfl⟩
theorem XH{fp:List Addr}{h:Heap}{p:Addr×Obj}(hp:p∈rV fp h):p.1∈fp/\h.get? p.1=some p.2:=by
  obtain⟨b,hb,e⟩:=CB.mp hp
  cases q:h.get? b with
  |none=>rw[q] at e;cases e
  | some o =>
    rw[q] at e
    have e':(b,o)=p:=fL e
    subst e'
    exact⟨hb,q⟩
theorem Inv.pinned{pins:List (Addr×Obj)}{σ:St}{H:Hp}{s:Shared}{fp:List Addr}(I:Inv X pins σ H s)(hf:∀b∈fp,jd X pins H b)(ho:∀b∈fp,∃o,s.heap.get? b=some o/\∀v,o.data≠ .cell v):Inv X (pins++rV fp s.heap) σ H s:=
 I.FD fun p hp=>(dg.mp hp).elim (fun z=>I.pin p (ia _ z)) fun z=>by
  obtain⟨hb,e⟩:=XH z
  obtain⟨f0,f1,f2,_⟩:=hf p.1 hb
  obtain⟨o,e',d⟩:=ho p.1 hb
  rw[e] at e';cases e'
  exact⟨e,f0,f1,f2,d⟩
theorem Inv.tP{pins pl:List (Addr×Obj)}{σ:St}{H:Hp}{s:Shared}(I:Inv X (pins++pl) σ H s):Inv X pins σ H s:=I.FD fun p hp=>I.pin p (ia _ (pB _ hp))
theorem dU{iter:Expr}{body:List Stmt}{wi:TI}{g:TG}{tb:TS}{pos:Pos}(hp:PassesOwn (model X.prog X.w) X.A X.env X.xe)(hc:X.calm=true)(hi:PI X tg iter wi)(hg:PG X tg g)(hb:jo X body tb)
  (hs:∀x,foldedSetIterable iter X.env x=pure x:=by intro _;rfl):PS X (.For tg iter body [] pos) (pP wi g tb):=by
 intro pins s σ H D I h
 refine wpAny_For (aW (hi pins s σ H _ I h) fun v s1 h1=>aW h1 fun itv s2 h2=>?_) hs
 obtain⟨it,fp,tn,J,H2,e,I2,T,st2,f2,W,⟨m0,w0⟩,turn⟩:=h2
 subst e
 have nU:∀{H':Hp},(∀b∈fp,H' b=none)->∀b∈fp,jd X pins H' b:=fun hn b hb=>⟨hn b hb,(f2 b hb).2⟩
 refine codeAny_forLoop_any (fun n s'=>∃i σ' H',Inv X pins σ' H' s'/\tn i s'.heap/\(∀b∈fp,H' b=none)/\W i n σ' H') ?_ m0 ⟨0,σ,H2,I2,st2,fun b hb=>(f2 b hb).1,w0⟩
 rintro n s3 ⟨i,σ3,H3,I3,st3,fr3,w3⟩
 rcases turn i n σ3 H3 w3 with ⟨stop,qn⟩|⟨go,N,hN,step⟩
 ·refine wpAny_passesOwn hp (aW (T.done X rfl rfl rfl hc i pins s3 σ3 H3 X.xe I3 (nU fr3) st3 stop) fun r s4 ⟨hr,I4⟩=>?_)
  subst hr
  exact wpAny_execs_nil ⟨σ3,H3,I4,qn⟩
 ·refine wpAny_passesOwn hp (aW (T.item X rfl rfl rfl hc i pins s3 σ3 H3 X.xe I3 (nU fr3) st3 go) fun r s4 ⟨u,hr,h4⟩=>?_)
  subst hr
  refine wpAny_passesOwn hp (aW h4 fun _ s5 ⟨x,H5,I5,r5,y5,nX,D5⟩=>?_)
  have DP:=I5.pinned (nU D5) (T.obj _ _ nX)
  refine wpAny_passesOwn hp (aW (hg _ s5 σ3 H5 x u _ DP r5 (step x H5 y5)) fun _ s6 ⟨r6,H6,I6,q6⟩=>?_)
  refine wpAny_passesOwn hp (aW (hb _ s6 r6 H6 _ I6 q6) fun f s7 q7=>?_)
  have again:∀{gC:St} {H7:Hp},Inv X (pins++rV fp s5.heap) gC H7 s7->N gC H7->∃m,m<n/\∃i σ' H',Inv X pins σ' H' s7/\tn i s7.heap/\(∀b∈fp,H' b=none)/\W i m σ' H':=fun{gC H7} I7 n7=>by
   obtain⟨m',hm,w7⟩:=hN gC H7 n7
   refine⟨m',hm,i+1,gC,H7,I7.tP,T.keep _ _ _ nX fun b hb o e=>(I7.pin (b,o) (ia _ (ia _ (u6 hb e)))).1,fun b hb=>?_,w7⟩
   obtain⟨o,e,d⟩:=T.obj _ _ nX b hb
   exact(I7.pin (b,o) (ia _ (ia _ (u6 hb e)))).2.1
  cases f with
  |next=>obtain⟨gC,H7,I7,n7⟩:=q7;exact again I7 n7
  |cont=>obtain⟨gC,H7,I7,n7⟩:=q7;exact again I7 n7
  |brk=>obtain⟨gC,H7,I7,q7⟩:=q7;exact⟨gC,H7,I7.tP,q7⟩
  |ret v=>obtain⟨x7,gC,H7,I7,r7,q7⟩:=q7;exact⟨x7,gC,H7,I7.tP,r7,q7⟩
end
theorem FT{K:PySem.W.Frag}{a:Addr}{xs:List V}{g:TG}{tb:TS}{D:Ends}{σ:St}{H:Hp}(Pv:Nat->St->Hp->Prop)(h0:Pv 0 σ H)(hl:∀i σ H,i<=xs.length->Pv i σ H->aV K H a xs)
  (hs:∀i x σ H,xs[i]?=some x->Pv i σ H->g x σ H fun σ2 H2=>tb {D with nx:=Pv (i+1),ct:=Pv (i+1),bk:=D.nx} σ2 H2) (hd:∀σ H,Pv xs.length σ H->D.nx σ H):
  ∃W:Nat->Nat->St->Hp->Prop,(∃m,W 0 m σ H)/\∀i m σ H,W i m σ H->
   ((nV K a).stop i H/\D.nx σ H)\/((nV K a).go i H/\∃N:St->Hp->Prop,(∀σ' H',N σ' H'->∃m',m'<m/\W (i+1) m' σ' H')/\∀x H',(nV K a).mU i H x H'->g x σ H' fun σ2 H2=>tb {D with nx:=N,ct:=N,bk:=D.nx} σ2 H2):=by
 refine⟨fun i m σ H=>m=xs.length-i/\i<=xs.length/\Pv i σ H,⟨xs.length,by simp,eY _,h0⟩,?_⟩
 rintro i m σ H ⟨rfl,hi,p⟩
 have q:=hl i σ H hi p
 by_cases hlt:i<xs.length
 ·refine .inr ⟨⟨xs,xs[i],q,by simp[hlt]⟩,Pv (i+1),fun σ' H' p'=>⟨xs.length-(i+1),by omega,rfl,hlt,p'⟩,fun x H' y=>?_⟩
  obtain⟨e,y⟩:=y
  subst e
  exact hs i x σ _ (y xs q) p
 ·have e:i=xs.length:=by omega
  subst e
  exact .inl ⟨⟨xs,q,aJ _⟩,hd σ H p⟩
theorem CD{lo:Int}{n:Nat}{g:TG}{tb:TS}{D:Ends}{σ:St}{H:Hp}(Pv:Nat->St->Hp->Prop)(h0:Pv 0 σ H)
  (hs:∀i σ H,i<n->Pv i σ H->g (.int (lo+i)) σ H fun σ2 H2=>tb {D with nx:=Pv (i+1),ct:=Pv (i+1),bk:=D.nx} σ2 H2) (hd:∀σ H,Pv n σ H->D.nx σ H):
  ∃W:Nat->Nat->St->Hp->Prop,(∃m,W 0 m σ H)/\∀i m σ H,W i m σ H->
   ((jh lo n).stop i H/\D.nx σ H)\/((jh lo n).go i H/\∃N:St->Hp->Prop,(∀σ' H',N σ' H'->∃m',m'<m/\W (i+1) m' σ' H')/\∀x H',(jh lo n).mU i H x H'->g x σ H' fun σ2 H2=>tb {D with nx:=N,ct:=N,bk:=D.nx} σ2 H2):=by
 refine⟨fun i m σ H=>m=n-i/\i<=n/\Pv i σ H,⟨n,by simp,eY _,h0⟩,?_⟩
 rintro i m σ H ⟨rfl,hi,p⟩
 by_cases hlt:i<n
 ·refine .inr ⟨hlt,Pv (i+1),fun σ' H' p'=>⟨n-(i+1),by omega,rfl,hlt,p'⟩,fun x H' y=>?_⟩
  obtain⟨e,y⟩:=y
  subst e y
  exact hs i σ _ hlt p
 ·have e:i=n:=by omega
  subst e
  exact .inl ⟨aJ _,hd σ H p⟩
theorem T8{c:TT}{tb:TS}{D:Ends}{σ:St}{H:Hp}(Pv:St->Hp->Prop)(μ:St->Hp->Nat)(h0:Pv σ H)
  (hs:∀σ H,Pv σ H->c σ H fun b H1=>if b=true then tb {D with nx:=fun σ' H'=>Pv σ' H'/\μ σ' H'<μ σ H,ct:=fun σ' H'=>Pv σ' H'/\μ σ' H'<μ σ H,bk:=D.nx} σ H1 else D.nx σ H1)
  (mono:∀σ H Q Q',(∀b H1,Q b H1->Q' b H1)->c σ H Q->c σ H Q'):z0 c tb D σ H:=by
 refine⟨fun m σ H=>m=μ σ H/\Pv σ H,⟨_,rfl,h0⟩,?_⟩
 rintro m σ H ⟨rfl,p⟩
 refine mono σ H _ _ (fun b H1 q=>?_) (hs σ H p)
 cases b with
 |true=>exact⟨_,fun σ' H' ⟨p',l⟩=>⟨_,l,rfl,p'⟩,q⟩
 |false=>exact q
abbrev R2:=V->V->Hp->VK->Prop
def eW(X:Cx)(f:Value->Value->Sem Value)(r:R2):Prop:=
 ∀(pins:List (Addr×Obj)) (s:Shared) (σ:St) (H:Hp) (x y:V) (v u:Value) (Q:VK),Inv X pins σ H s->RelV x v->RelV y u->r x y H Q->
  wpAny (model X.prog X.w) X.A (f v u) (EP X pins σ Q) X.xe s
def fF(X:Cx)(f:Value)(r:List V->Hp->VK->Prop):Prop:=
 ∀(pins:List (Addr×Obj)) (s:Shared) (σ:St) (H:Hp) (xs:List V) (us:List Value) (Q:VK),Inv X pins σ H s->Vals xs us->r xs H Q->
  wpAny (model X.prog X.w) X.A (call f us) (EP X pins σ Q) X.xe s
def V4(X:Cx)(r:V->Hp->(Bool->Hp->Prop)->Prop):Prop:=
 ∀(pins:List (Addr×Obj)) (s:Shared) (σ:St) (H:Hp) (x:V) (v:Value) (Q:Bool->Hp->Prop),Inv X pins σ H s->RelV x v->r x H Q->
  wpAny (model X.prog X.w) X.A (truthy v) (TP X pins σ Q) X.xe s
def c6(r:R2)(ta tb:TE):TE:=fun σ H Q=>ta σ H fun x H1=>tb σ H1 fun y H2=>r x y H2 Q
def KY(r:V->Hp->VK->Prop)(ta:TE):TE:=fun σ H Q=>ta σ H fun x H1=>r x H1 Q
def rI(C:Int->Int->Prop)(g:Int->Int->V):R2:=fun x y H Q=>∃i j,x= .int i/\y= .int j/\C i j/\Q (g i j) H
def iG(g:Int->Int->V):R2:=fun x y H Q=>∃i j,x= .int i/\y= .int j/\Q (g i j) H
section
variable{X:Cx}{a b c:Expr}{ta tb tc:TE}{pos:Pos}
theorem zA(ha:PE X a ta)(hb:PE X b tb){pins:List (Addr×Obj)}{s:Shared}{σ:St}{H:Hp}{R:V->V->Hp->Prop}(I:Inv X pins σ H s)
  (h:ta σ H fun x H1=>tb σ H1 fun y H2=>R x y H2) {Q:Value->Shared->Prop} {f:Value->Value->Sem Value}
  (hf:∀v u s2 x y H2,Inv X pins σ H2 s2->RelV x v->RelV y u->R x y H2->wpAny (model X.prog X.w) X.A (f v u) Q X.xe s2):
  wpAny (model X.prog X.w) X.A (eval a X.env) (fun v s₁=>wpAny (model X.prog X.w) X.A (eval b X.env) (fun u s₂=>wpAny (model X.prog X.w) X.A (f v u) Q X.xe s₂) X.xe s₁) X.xe s:=by
 refine aW (ha pins s σ H _ I h) fun v s1 ⟨x,H1,I1,r1,q1⟩=>?_
 refine aW (hb pins s1 σ H1 _ I1 q1) fun u s2 ⟨y,H2,I2,r2,q2⟩=>?_
 exact hf v u s2 x y H2 I2 r1 r2 q2
theorem aF{op:Operator}{r:R2}(ho:eW X (binaryOp op) r)(ha:PE X a ta)(hb:PE X b tb):PE X (.BinOp a op b pos) (c6 r ta tb):=by
 intro pins s σ H Q I h
 exact wpAny_BinOp (zA ha hb I h fun v u s2 x y H2 I2 rx ry q=>ho pins s2 σ H2 x y v u Q I2 rx ry q)
theorem u9{f:Value->Value->Sem Value}{C:Int->Int->Prop}{g:Int->Int->Int}
  (rule:∀(i j:Int) (t u:Tok) (s:Shared) (Q:Value->Shared->Prop) (E:Value->Shared->Prop),C i j->Q (.int (g i j) s.toks) {s with toks:=s.toks+1}->wpAny (model X.prog X.w) X.A (f (.int i t) (.int j u)) Q E s):
  eW X f (rI C fun i j=> .int (g i j)):=by
 intro pins s σ H x y v u Q I rx ry h
 obtain⟨i,j,rfl,rfl,hc,q⟩:=h
 obtain⟨t,rfl⟩:=rx
 obtain⟨t',rfl⟩:=ry
 exact rule i j t t' s _ _ hc ⟨.int (g i j),H,I.tok _,⟨_,rfl⟩,q⟩
theorem ET{f:Value->Value->Sem Value}{g:Int->Int->Int}
  (rule:∀(i j:Int) (t u:Tok) (s:Shared) (Q:Value->Shared->Prop) (E:Value->Shared->Prop),Q (.int (g i j) s.toks) {s with toks:=s.toks+1}->wpAny (model X.prog X.w) X.A (f (.int i t) (.int j u)) Q E s):
  eW X f (iG fun i j=> .int (g i j)):=by
 intro pins s σ H x y v u Q I rx ry h
 obtain⟨i,j,rfl,rfl,q⟩:=h
 obtain⟨t,rfl⟩:=rx
 obtain⟨t',rfl⟩:=ry
 exact rule i j t t' s _ _ ⟨.int (g i j),H,I.tok _,⟨_,rfl⟩,q⟩
theorem wB{f:Value->Value->Sem Value}{g:Int->Int->Bool}
  (rule:∀(i j:Int) (t u:Tok) (s:Shared) (Q:Value->Shared->Prop) (E:Value->Shared->Prop),Q (.bool (g i j)) s->wpAny (model X.prog X.w) X.A (f (.int i t) (.int j u)) Q E s):
  eW X f (iG fun i j=> .bl (g i j)):=by
 intro pins s σ H x y v u Q I rx ry h
 obtain⟨i,j,rfl,rfl,q⟩:=h
 obtain⟨t,rfl⟩:=rx
 obtain⟨t',rfl⟩:=ry
 exact rule i j t t' s _ _ ⟨.bl (g i j),H,I,rfl,q⟩
def DL(i j:Int):Prop:=0<=j/\j<=1000000/\i.natAbs<2^64
def uz(i j:Int):Prop:=(-(2^64)<i/\i<2^64)\/(-(2^64)<j/\j<2^64)
theorem uz.ok{i j:Int}(h:uz i j):IntMulOk i j:=by
 rcases h with ⟨h1,h2⟩|⟨h1,h2⟩
 ·exact .of_left (intBits_le_64 h1 h2)
 ·exact .of_right (intBits_le_64 h1 h2)
theorem dB:eW X (binaryOp .Add) (iG fun i j=> .int (i+j)):=ET fun _ _ _ _ _ _ _ q=>add_int q
theorem kB:eW X (binaryOp .Sub) (iG fun i j=> .int (i-j)):=ET fun _ _ _ _ _ _ _ q=>sub_int q
theorem iC:eW X (binaryOp .Mod) (rI (fun _ j=>0<j) fun i j=> .int (i%j)):=u9 fun i j _ _ _ _ _ hc q=>by
 have h1:(0:Int)<j:=hc
 exact mod_int' (by omega) (by rw[Int.fmod_eq_emod_of_nonneg i (by omega)];exact q)
theorem EK:eW X (binaryOp .Pow) (rI DL fun i j=> .int (i^j.toNat)):=u9 fun _ _ _ _ _ _ _ hc q=>pow_int_small hc.1 hc.2.1 hc.2.2 q
end
def Bd:V->V->Bool
 | .aT, .aT=>true| .aT, .int _=>true| .int _, .aT=>true| .aT, .bl _=>true| .bl _, .aT=>true| .aT, .str _=>true| .str _, .aT=>true
 | .int _, .int _=>true| .bl _, .bl _=>true| .str _, .str _=>true| .jk _, .jk _=>true
 | .int _, .str _=>true| .str _, .int _=>true| .bl _, .str _=>true| .str _, .bl _=>true
 |_,_=>false
def xR:R2:=fun x y H Q=>Bd x y=true/\Q (.bl (decide (x=y))) H
def CS:R2:=fun x y H Q=>Bd x y=true/\Q (.bl (!decide (x=y))) H
theorem Et{i j:Int}:decide (V.int i=V.int j)=(i==j):=by
 rw[nJ]
 simp
theorem Jt{i j:Bool}:decide (V.bl i=V.bl j)=(i==j):=by
 rw[nJ]
 simp
theorem Kv{i j:Str}:decide (V.str i=V.str j)=(i==j):=by
 rw[nJ]
 simp
theorem G6{i j:Array UInt8}:decide (V.jk i=V.jk j)=(i.toList==j.toList):=by
 rw[nJ]
 cases i
 cases j
 simp
section
variable{X:Cx}{a b c:Expr}{ta tb tc:TE}{pos:Pos}
theorem dh{pins:List (Addr×Obj)}{σ:St}{H:Hp}{s:Shared}{Q:VK}{k k':Bool}(I:Inv X pins σ H s)(q:Q (.bl k) H)(e:k=k'):EP X pins σ Q (.bool k') s:=by
 subst e
 exact⟨.bl k,H,I,rfl,q⟩
theorem iK:eW X (compareOp .Eq) xR:=by
  intro pins s σ H x y v u Q I rx ry h
  obtain⟨hs,q⟩:=h
  cases x with
  | aT =>
    cases rx
    cases y with
    |aT=>cases ry;exact PySem.EqNone.eq_none_none (dh I q (by simp))
    |bl j=>cases ry;exact PySem.EqNone.eq_none_bool (dh I q (by simp))
    |int j=>obtain⟨t',rfl⟩:=ry;exact PySem.EqNone.eq_none_int (dh I q (by simp))
    |str j=>obtain⟨t',rfl⟩:=ry;exact PySem.EqNone.eq_none_str (dh I q (by simp))
    |_=>exact absurd (show false=true from hs) dZ
  | bl i =>
    cases rx
    cases y with
    |aT=>cases ry;exact PySem.EqNone.eq_bool_none (dh I q (by simp))
    |bl j=>cases ry;exact eq_bool (dh I q Jt)
    |str j=>obtain⟨t',rfl⟩:=ry;exact PySem.EqMixed.eq_bool_str (dh I q (by simp))
    |_=>exact absurd (show false=true from hs) dZ
  | int i =>
    obtain⟨t,rfl⟩:=rx
    cases y with
    |aT=>cases ry;exact PySem.EqNone.eq_int_none (dh I q (by simp))
    |int j=>obtain⟨t',rfl⟩:=ry;exact eq_int (dh I q Et)
    |str j=>obtain⟨t',rfl⟩:=ry;exact PySem.EqMixed.eq_int_str (dh I q (by simp))
    |_=>exact absurd (show false=true from hs) dZ
  | str i =>
    obtain⟨t,rfl⟩:=rx
    cases y with
    |aT=>cases ry;exact PySem.EqNone.eq_str_none (dh I q (by simp))
    |bl j=>cases ry;exact PySem.EqMixed.eq_str_bool (dh I q (by simp))
    |int j=>obtain⟨t',rfl⟩:=ry;exact PySem.EqMixed.eq_str_int (dh I q (by simp))
    |str j=>obtain⟨t',rfl⟩:=ry;exact eq_str (dh I q Kv)
    |_=>exact absurd (show false=true from hs) dZ
  | jk i =>
    obtain⟨t,rfl⟩:=rx
    cases y with
    |jk j=>obtain⟨t',rfl⟩:=ry;exact PySem.W.eq_bytes (dh I q G6)
    |_=>exact absurd (show false=true from hs) dZ
  |_=>cases y<;>exact absurd (show false=true from hs) dZ
theorem jV:eW X (compareOp .NotEq) CS:=by
  intro pins s σ H x y v u Q I rx ry h
  obtain⟨hs,q⟩:=h
  cases x with
  | aT =>
    cases rx
    cases y with
    |aT=>cases ry;exact PySem.EqNone.ne_none_none (dh I q (by simp))
    |bl j=>cases ry;exact PySem.EqNone.ne_none_bool (dh I q (by simp))
    |int j=>obtain⟨t',rfl⟩:=ry;exact PySem.EqNone.ne_none_int (dh I q (by simp))
    |str j=>obtain⟨t',rfl⟩:=ry;exact PySem.EqNone.ne_none_str (dh I q (by simp))
    |_=>exact absurd (show false=true from hs) dZ
  | bl i =>
    cases rx
    cases y with
    |aT=>cases ry;exact PySem.EqNone.ne_bool_none (dh I q (by simp))
    |bl j=>cases ry;exact ne_bool (dh I q (congrArg not Jt))
    |str j=>obtain⟨t',rfl⟩:=ry;exact PySem.EqMixed.ne_bool_str (dh I q (by simp))
    |_=>exact absurd (show false=true from hs) dZ
  | int i =>
    obtain⟨t,rfl⟩:=rx
    cases y with
    |aT=>cases ry;exact PySem.EqNone.ne_int_none (dh I q (by simp))
    |int j=>obtain⟨t',rfl⟩:=ry;exact ne_int (dh I q (congrArg not Et))
    |str j=>obtain⟨t',rfl⟩:=ry;exact PySem.EqMixed.ne_int_str (dh I q (by simp))
    |_=>exact absurd (show false=true from hs) dZ
  | str i =>
    obtain⟨t,rfl⟩:=rx
    cases y with
    |aT=>cases ry;exact PySem.EqNone.ne_str_none (dh I q (by simp))
    |bl j=>cases ry;exact PySem.EqMixed.ne_str_bool (dh I q (by simp))
    |int j=>obtain⟨t',rfl⟩:=ry;exact PySem.EqMixed.ne_str_int (dh I q (by simp))
    |str j=>obtain⟨t',rfl⟩:=ry;exact ne_str (dh I q (congrArg not Kv))
    |_=>exact absurd (show false=true from hs) dZ
  | jk i =>
    obtain⟨t,rfl⟩:=rx
    cases y with
    |jk j=>obtain⟨t',rfl⟩:=ry;exact PySem.W.ne_bytes (dh I q (congrArg not G6))
    |_=>exact absurd (show false=true from hs) dZ
  |_=>cases y<;>exact absurd (show false=true from hs) dZ
theorem uv:eW X (compareOp .Lt) (iG fun i j=> .bl (decide (i<j))):=wB fun _ _ _ _ _ _ _ q=>lt_int q
theorem LX:eW X (compareOp .LtE) (iG fun i j=> .bl (decide (i<=j))):=wB fun _ _ _ _ _ _ _ q=>le_int q
theorem pY:eW X (compareOp .Gt) (iG fun i j=> .bl (decide (j<i))):=wB fun _ _ _ _ _ _ _ q=>gt_int q
theorem V0:eW X (compareOp .GtE) (iG fun i j=> .bl (decide (j<=i))):=wB fun _ _ _ _ _ _ _ q=>ge_int q
theorem Mu:eW X (compareOp .Is) (fun x y H Q=>y= .aT/\Q (.bl (decide (x= .aT))) H):=by
 intro pins s σ H x y v u Q I rx ry h
 obtain⟨rfl,q⟩:=h
 cases ry
 refine is_none_gen (dh I q ?_)
 cases x<;>first
  |(cases rx;rfl)
  |(obtain⟨t,rfl⟩:=rx;rfl)
theorem QN:eW X (compareOp .IsNot) (fun x y H Q=>y= .aT/\Q (.bl (!decide (x= .aT))) H):=by
 intro pins s σ H x y v u Q I rx ry h
 obtain⟨rfl,q⟩:=h
 cases ry
 refine isnot_none_gen (dh I q ?_)
 cases x<;>first
  |(cases rx;rfl)
  |(obtain⟨t,rfl⟩:=rx;rfl)
theorem bw(b:Expr){op:CmpOp}(h:op≠ .In:=by decide)(h2:op≠ .NotIn:=by decide):behindInMarks op b=false:=by
 have e1:(op==CmpOp.In)=false:=by cases op<;>first|rfl|exact absurd rfl h
 have e2:(op==CmpOp.NotIn)=false:=by cases op<;>first|rfl|exact absurd rfl h2
 cases b<;>simp[behindInMarks,e1,e2]
theorem qj{op:CmpOp}{r:R2}(ho:eW X (compareOp op) r)(ha:PE X a ta)(hb:PE X b tb)(hm:behindInMarks op b=false):PE X (.Compare a [op] [b] pos) (c6 r ta tb):=by
 intro pins s σ H Q I h
 exact wpAny_Compare1 (zA ha hb I h fun v u s2 x y H2 I2 rx ry q=>ho pins s2 σ H2 x y v u Q I2 rx ry q) hm
def vh(t:TE):TT:=fun σ H Q=>t σ H fun x H'=>∃k,x= .bl k/\Q k H'
theorem bB{op:CmpOp}{r:R2}(ho:eW X (compareOp op) r)(ha:PE X a ta)(hb:PE X b tb)(hm:behindInMarks op b=false):PT X (.Compare a [op] [b] pos) (vh (c6 r ta tb)):=by
 intro pins s σ H Q I h
 refine wpAny_isTrue_Compare1 (aW (ha pins s σ H _ I h) fun v s1 ⟨x,H1,I1,r1,q1⟩=>aW (hb pins s1 σ H1 _ I1 q1) fun u s2 ⟨y,H2,I2,r2,q2⟩=>
  aW (ho pins s2 σ H2 x y v u _ I2 r1 r2 q2) fun c s3 ⟨z,H3,I3,r3,k,e,q3⟩=>?_) hm
 subst e
 cases r3
 exact wpAny_truthy_bool ⟨H3,I3,q3⟩
def Dj(K:PySem.W.Frag)(x:V)(H:Hp)(k:Bool):Prop:=
 match x with
 | .aT=>k=false
 | .bl b=>k=b
 | .int i=>k=(i !=0)
 | .str y=>y.length<=sizeLine/\k=((y.length:Int) !=0)
 | .jk y=>y.size<=sizeLine/\k=((y.size:Int) !=0)
 | .ref p=>(∃xs,aV K H p xs/\k=!xs.isEmpty)\/(∃xs,gx K H p xs/\k=!xs.isEmpty)\/∃kvs,H p=some (.dK kvs)/\k=!kvs.isEmpty
 |_=>False
theorem TJ{κ:Type}{kvs:List (κ×V)}{vs:List (κ×Value)}(r:KV kvs vs):(!vs.isEmpty)=!kvs.isEmpty:=by
 cases r<;>rfl
theorem EZ{xs:List V}{its:List Value}(r:Vals xs its):(!its.toArray.isEmpty)=!xs.isEmpty:=by
 cases r<;>simp
theorem qF:(sizeLine:Nat)<2^63:=by rw[sizeLine_eq];decide
theorem WL:V4 X (fun x H Q=>∃k,Dj X.K x H k/\Q k H):=by
  intro pins s σ H x v Q I rx h
  obtain⟨k,e,q⟩:=h
  have hl:=qF
  have hs:sizeLine=16777216:=sizeLine_eq
  cases x with
  | aT =>
    cases rx
    have e':k=false:=e
    subst e'
    exact truthy_none ⟨H,I,q⟩
  | bl b =>
    cases rx
    have e':k=b:=e
    subst e'
    exact wpAny_truthy_bool ⟨H,I,q⟩
  | int i =>
    obtain⟨t,rfl⟩:=rx
    have e':k=(i !=0):=e
    subst e'
    exact PySem.P.truthy_int ⟨H,I,q⟩
  | str y =>
    obtain⟨t,rfl⟩:=rx
    obtain⟨hy,e'⟩:y.length<=sizeLine/\k=((y.length:Int) !=0):=e
    subst e'
    exact PySem.P.truthy_str (by omega) ⟨H,I.tok _,q⟩
  | jk y =>
    obtain⟨t,rfl⟩:=rx
    obtain⟨hy,e'⟩:y.size<=sizeLine/\k=((y.size:Int) !=0):=e
    subst e'
    exact PySem.W.truthy_bytes (by omega) ⟨H,I.tok _,q⟩
  | ref p =>
    cases rx
    have e':(∃xs,aV X.K H p xs/\k=!xs.isEmpty)\/(∃xs,gx X.K H p xs/\k=!xs.isEmpty)\/∃kvs,H p=some (.dK kvs)/\k=!kvs.isEmpty:=e
    rcases e' with ⟨xs,hx,e'⟩|⟨xs,hx,e'⟩|⟨kvs,hx,e'⟩
    · subst e'
      obtain⟨its,r,pl,hz⟩:=I.list hx
      have hlen:=r.length
      exact wpAny_truthy_list pl.isList (by simp only[eg];omega) ⟨H,I.tok _,by rw[EZ r];exact q⟩
    · subst e'
      obtain⟨its,r,pl,hz⟩:=I.tuple hx
      have hlen:=r.length
      exact truthy_tuple pl (by simp only[eg];omega) ⟨H,I.tok _,by rw[EZ r];exact q⟩
    · subst e'
      obtain⟨hz,hS,vs,r,m⟩:kvs.length<=sizeLine/\(p==sysModules)=false/\∃vs,KV kvs vs/\s.heap.DictOf (dP X.prog X.w) p vs:=I.hok p _ hx
      have hlen:kvs.length=vs.length:=uC r
      exact wpAny_truthy_dict hS m (by omega) ⟨H,I.tok _,by rw[TJ r];exact q⟩
  |_=>exact(show False from e).elim
theorem Rq(ha:PE X a ta)(he:∀whole,isTrue a X.env whole=(do let v<-whole;standAt a.pos;holding [v] (truthy v))):
  PT X a (fun σ H Q=>ta σ H fun x H'=>∃k,Dj X.K x H' k/\Q k H'):=by
 intro pins s σ H Q I h
 exact isTrue_plain (aW (ha pins s σ H _ I h) fun v s1 ⟨x,H1,I1,r1,q1⟩=>WL pins s1 σ H1 x v Q I1 r1 q1) (he _)
theorem vals1{x:V}{us:List Value}(r:Vals [x] us):∃u,us=[u]/\RelV x u:=by
 cases r with
 |cons r1 r2=>cases r2;exact⟨_,rfl,r1⟩
theorem vals2{x y:V}{us:List Value}(r:Vals [x,y] us):∃u w',us=[u,w']/\RelV x u/\RelV y w':=by
  cases r with
  | cons r1 r2 =>
    cases r2 with
    |cons r3 r4=>cases r4;exact⟨_,_,rfl,r1,r3⟩
theorem Xa:fF X (.builtin "abs") (fun xs H Q=>∃i,xs=[.int i]/\Q (.int (if i<0 then-i else i)) H):=by
 intro pins s σ H xs us Q I r h
 obtain⟨i,rfl,q⟩:=h
 obtain⟨u,rfl,t,rfl⟩:=vals1 r
 exact call_abs_int fun u tk=>⟨.int (if i<0 then-i else i),H,I.tok _,⟨_,rfl⟩,q⟩
theorem XY(hc:X.calm=true):fF X (.builtin "min") (fun xs H Q=>∃i j,xs=[.int i, .int j]/\Q (.int (if j<i then j else i)) H):=by
 intro pins s σ H xs us Q I r h
 obtain⟨i,j,rfl,q⟩:=h
 obtain⟨u,w',rfl,⟨t,rfl⟩,⟨t',rfl⟩⟩:=vals2 r
 refine min_two_ints (I.ok.hd hc) fun h' tk k=>⟨_,H,I.kept k,?_,q⟩
 by_cases hj:j<i
 ·rw[if_pos hj,if_pos hj];exact⟨_,rfl⟩
 ·rw[if_neg hj,if_neg hj];exact⟨_,rfl⟩
theorem W6:fF X (.type "int") (fun xs H Q=>(∃i,xs=[.int i]/\Q (.int i) H)\/∃k,xs=[.bl k]/\Q (.int (if k then 1 else 0)) H):=by
 intro pins s σ H xs us Q I r h
 rcases h with ⟨i,rfl,q⟩|⟨k,rfl,q⟩
 ·obtain⟨u,rfl,t,rfl⟩:=vals1 r
  exact call_int_int ⟨.int i,H,I,⟨_,rfl⟩,q⟩
 ·obtain⟨u,rfl,r1⟩:=vals1 r
  cases r1
  exact call_int_bool ⟨.int (if k then 1 else 0),H,I.tok _,⟨_,rfl⟩,q⟩
end
structure xX(h:Heap)(x dx C:Addr)(mA:Str->Option Value):Prop where
 obj:h.get? x=some (PySem.W.instObj C dx)
 ns:h.Ns1 dx mA
 ne:dx≠x
theorem Vv{h:Heap}{dx:Addr}{mA:Str->Option Value}(n:h.Ns1 dx mA):∃od,h.get? dx=some od/\∀name,PySem.W.lookIn name od=some (mA name):=by
 obtain⟨o,es,ep,ho,hd,hk,_,hm⟩:=n
 refine⟨o,ho,fun name=>?_⟩
 have e:=hm name
 unfold nsFind findBy at e
 rw[<-Array.find?_toList] at e
 unfold PySem.W.lookIn
 rw[hd]
 dsimp only
 split
 ·rename_i y q
  rw[q] at e
  exact congrArg some e
 ·rename_i q
  rw[q] at e
  have a:es.toList.any (·.refKey)=false:=by
   rw[List.any_eq_false]
   intro y hy
   obtain⟨z,t,hkey⟩:=hk y (Array.mem_toList_iff.mp hy)
   simp[DictEntry.refKey,hkey]
  have a':¬es.toList.any (·.refKey)=true:=by rw[a];exact dZ
  rw[if_neg a']
  exact congrArg some e
theorem xX.look{h:Heap}{x dx C:Addr}{mA:Str->Option Value}(I:xX h x dx C mA):∃od,PySem.W.InstAt h x (PySem.W.instObj C dx) C (some od)/\∀name,PySem.W.lookIn name od=some (mA name):=
 let ⟨od,ho,hl⟩:=Vv I.ns
 ⟨od,⟨I.obj,rfl,rfl,ho⟩,hl⟩
theorem jX.some_of{v:V}{o:Option Value}(r:jX (some v) o):∃u,o=some u/\RelV v u:=by
 cases o with
 |none=>exact(show False from r).elim
 |some u=>exact⟨u,rfl,r⟩
section
variable{P:Program}{w:World}{H H':Hp}{h h':Heap}{a C dx:Addr}{fs fs':List (Str×V)}
theorem YN(hok:dD P w H h)(e:H a=some (.ins C dx fs)):∃mA,xX h a dx C mA/\(∀f,jX (fs.lookup f) (mA f))/\PySem.Within mA (fs.map (·.1))/\fs.length<=1000/\H dx=some (.own a):=by
 obtain⟨d,z,ne,ob,mA,n,r,q⟩:=(show bR P w H h a (.ins C dx fs) from hok a _ e)
 exact⟨mA,⟨ob,n,ne⟩,r,q,z,d⟩
end
structure Au(K:PySem.W.Frag)(C:Addr):Prop where
 pg:PySem.W.plainGet K C Str.empty=true
 hd:PySem.W.hasDictIn K C=true
 po:PySem.W.plainOver K C=true
 sa:PySem.W.findIn K (.ref C) "__setattr__"=some (some (.builtin "object.__setattr__"))
theorem Au.get{K:PySem.W.Frag}{C:Addr}(c:Au K C)(f:Str):PySem.W.plainGet K C f=true:=c.pg
section
variable{X:Cx}{pins:List (Addr×Obj)}{σ:St}{H:Hp}{s:Shared}{A:Around}{E:Value->Shared->Prop}{Q:Value->Shared->Prop}{c:Value}{b:Bool}
inductive iY(K:PySem.W.Frag)(H:Hp):V->Value->Prop where
 |aT:iY K H .aT (.type "NoneType")
 |bl (x:Bool):iY K H (.bl x) (.type "bool")
 |int (i:Int):iY K H (.int i) (.type "int")
 |str (x:Str):iY K H (.str x) (.type "str")
 |lD (x:UInt64):iY K H (.lD x) (.type "float")
 |lst {a:Addr} {xs:List V} (e:H a=some (.lst xs)):iY K H (.ref a) (.type "list")
 |cA {a:Addr} {o:Obj} {xs:List V} (e:H a=some (.cA o (.lst xs))):iY K H (.ref a) (.type "list")
 |tup {a:Addr} {xs:List V} (e:H a=some (.tup xs)):iY K H (.ref a) (.type "tuple")
 |dK {a:Addr} {kvs:List (Key×V)} (e:H a=some (.dK kvs)):iY K H (.ref a) (.type "dict")
 |dT {a:Addr} {kvs:List (List Key×V)} (e:H a=some (.dT kvs)):iY K H (.ref a) (.type "dict")
 |Ir {a:Addr} {o:Obj} {kvs:List (Key×V)} (e:H a=some (.cA o (.dK kvs))):iY K H (.ref a) (.type "dict")
 | ins {a C dx : Addr} {fs : List (Str × V)} (e : H a = some (.ins C dx fs)) (cl : Au K C) (ha : PySem.W.findIn K (.ref C) "__class__" = some (some (.builtin "object.__class__")))
   (hn:PySem.W.specialIn K (.builtin "object.__class__") "__get__"=some (some (.builtin "getset_descriptor.__get__"))) (htk:PySem.W.takesIn K (.builtin "object.__class__")=some true)
   (hm:PySem.W.mroIn K C (.type "object")=some true):iY K H (.ref a) (.ref C)
theorem Vb{x:V}{u t:Value}(I:Inv X pins σ H s)(rx:RelV x u)(ty:iY X.K H x t)(e:PySem.W.kitOne X.K t c=some b)(h:∀tk,Q (.bool b) {s with toks:=tk}):
    wpAny (model X.prog X.w) A (call (.builtin "isinstance") [u,c]) Q E s:=by
  cases ty with
  |aT=>cases (show u=Value.none from rx);exact jI PySem.W.kitx_none I.fh True.intro e (fun z=>nomatch z) h
  |bl y=>cases (show u=Value.bool y from rx);exact jI PySem.W.kitx_bool I.fh True.intro e (fun z=>nomatch z) h
  |int i=>obtain⟨t,q⟩:=(show∃t,u=Value.int i t from rx);cases q;exact jI PySem.W.kitx_int I.fh True.intro e (fun z=>nomatch z) h
  |str y=>obtain⟨t,q⟩:=(show∃t,u=Value.str y t from rx);cases q;exact jI PySem.W.kitx_str I.fh True.intro e (fun z=>nomatch z) h
  |lD y=>obtain⟨t,q⟩:=(show∃t,u=Value.float y t from rx);cases q;exact jI PySem.W.kitx_float I.fh True.intro e (fun z=>nomatch z) h
  | @lst a xs ea =>
    cases (show u=Value.ref a from rx)
    obtain⟨_,_,n,_,h1⟩:=(show bR X.prog X.w H s.heap a (.lst xs) from I.hok a _ ea)
    exact jI zE I.fh ⟨_,h1,rfl⟩ e (fun z=>nomatch z) h
  | @cA a ob xs ea =>
    cases (show u=Value.ref a from rx)
    obtain⟨_,_,_,n,_,h1⟩:=(show bR X.prog X.w H s.heap a (.cA ob (.lst xs)) from I.hok a _ ea)
    exact jI zE I.fh ⟨_,h1,rfl⟩ e (fun z=>nomatch z) h
  | @tup a xs ea =>
    cases (show u=Value.ref a from rx)
    obtain⟨_,_,_,p⟩:=(show bR X.prog X.w H s.heap a (.tup xs) from I.hok a _ ea)
    obtain⟨o,h1,h2,_⟩:=p
    exact jI PySem.W.kitx_tuple I.fh ⟨o,h1,h2⟩ e (fun z=>nomatch z) h
  | @dK a kvs ea =>
    cases (show u=Value.ref a from rx)
    obtain⟨_,_,vs,_,p⟩:=(show bR X.prog X.w H s.heap a (.dK kvs) from I.hok a _ ea)
    obtain⟨o,es,ep,h1,h2,_⟩:=p
    exact jI uF I.fh ⟨o,h1,h2.1⟩ e (fun z=>nomatch z) h
  | @dT a kvs ea =>
    cases (show u=Value.ref a from rx)
    obtain⟨_,_,xs,_,o,es,ep,h1,h2,_⟩:=(show bR X.prog X.w H s.heap a (.dT kvs) from I.hok a _ ea)
    exact jI uF I.fh ⟨o,h1,h2.1⟩ e (fun z=>nomatch z) h
  | @Ir a ob kvs ea =>
    cases (show u=Value.ref a from rx)
    obtain⟨_,_,_,vs,_,o,es,ep,h1,h2,_⟩:=I.hok a _ ea
    exact jI uF I.fh ⟨o,h1,h2.1⟩ e (fun z=>nomatch z) h
  | @ins a C dx fs ea cl ha hn htk hm =>
    cases (show u=Value.ref a from rx)
    obtain⟨mA,O,_⟩:=YN I.hok ea
    obtain⟨od,J,_⟩:=O.look
    exact jI (PySem.W.kitx_own (cl.get _) cl.hd ha hn htk hm) I.fh J e (fun z=>nomatch z) h
end
structure gP(k:Nat)(A:Around):Prop where
 hd:A.handled=none
 dp:A.depth+3*k+5<recursionLimit
 un:A.units+16*k+200<cLine
theorem gP.mono{j k:Nat}{A:Around}(r:gP k A)(h:j<=k):gP j A:=⟨r.hd,by have:=r.dp;omega,by have:=r.un;omega⟩
theorem gP.deeper{k:Nat}{A:Around}(r:gP (k+1) A)(env:Env):gP k (A.deeper env):=
 ⟨r.hd,by have:=r.dp;show A.depth+1+3*k+5<_;omega,by have:=r.un;show A.units+3+16*k+200<_;omega⟩
theorem gP.depth{k:Nat}{A:Around}(r:gP k A):A.depth<recursionLimit:=by have:=r.dp;omega
theorem gP.units{k:Nat}{A:Around}(r:gP k A):A.units+64<cLine:=by have:=r.un;omega
def bT:TA:=fun _ H Q=>Q [] H
def bq(ta:TE)(tr:TA):TA:=fun σ H Q=>ta σ H fun x H1=>tr σ H1 fun xs H2=>Q (x::xs) H2
section
variable{X:Cx}{e:Expr}{es:List Expr}{te:TE}{t:TA}{pos:Pos}
theorem af:PA X [] bT:=fun _ _ _ _ H Q I h=>Calls.spliced_nil ⟨[],H,I, .nil,h⟩
theorem aa(ha:PE X e te)(hr:PA X es t)(hs:starEach (e::es) X.env=(false,eval e X.env)::starEach es X.env:=by rfl):PA X (e::es) (bq te t):=by
 intro pos pins s σ H Q I h
 rw[hs]
 show wpAny _ _ (spliced ((false,eval e X.env)::backTo pos (starEach es X.env))) _ _ s
 refine Calls.spliced_cons (aW (ha pins s σ H _ I h) fun u s1 ⟨x,H1,I1,r1,q1⟩=>?_)
 exact aW (hr pos pins s1 σ H1 _ I1 q1) fun us s2 ⟨xs,H2,I2,r2,q2⟩=>⟨x::xs,H2,I2, .cons r1 r2,q2⟩
def m9(t:TA):TE:=fun σ H Q=>t σ H fun xs H1=>xs.length<=sizeLine/\∀p,H1 p=none->Q (.ref p) (upd H1 p (.tup xs))
def oX(t:TA):TE:=fun σ H Q=>t σ H fun xs H1=>xs.length<=sizeLine/\∀p,H1 p=none->Q (.ref p) (upd H1 p (.lst xs))
theorem bF{x1}(h:PA X es t):PE X (.Tuple es x1 pos) (m9 t):=by
 intro pins s σ H Q I hq
 refine wpAny_Tuple_spliced (aW (h pos pins s σ H _ I hq) fun us s1 ⟨xs,H1,I1,r,z,q⟩=>⟨by rw[<-r.length];exact z,?_⟩)
 have hf:H1 s1.heap.objs.size=none:=I1.hok.fresh (aJ _)
 refine⟨.ref s1.heap.objs.size,upd H1 s1.heap.objs.size (.tup xs),I1.laid (t':=s1.toks) (fun b u e=>bS _ e) (aJ _) ?_,rfl,q _ hf⟩
 exact⟨z,us,r,⟨_,fk _ rfl,rfl,_,rfl⟩⟩
theorem eG(h:PA X es t):PE X (.List es pos) (oX t):=by
 intro pins s σ H Q I hq
 refine wpAny_List_spliced (aW (h pos pins s σ H _ I hq) fun us s1 ⟨xs,H1,I1,r,z,q⟩=>⟨by rw[<-r.length];exact z,?_⟩)
 have hf:H1 s1.heap.objs.size=none:=I1.hok.fresh (aJ _)
 refine⟨.ref s1.heap.objs.size,upd H1 s1.heap.objs.size (.lst xs),I1.laid (t':=s1.toks) (fun b u e=>bS _ e) (aJ _) ?_,rfl,q _ hf⟩
 exact⟨z,us,0,r,fk _ rfl⟩
end
abbrev Sp:=List V->Hp->VK->XK->Prop
abbrev lq:=List Env->Hp->Shared->XK->Value->Shared->Prop
structure vn(P:Program)(w:World)(K:PySem.W.Frag)(mg:Str->Option Value)(base:Heap)(A:Around)(outer:List Env)(s:Shared)(H:Hp):Prop where
 frames:A.frames=some outer
 mod:Mod K mg base
 bs:∀b o,base.get? b=some o->s.heap.get? b=some o/\H b=none
 oJ:base.objs.size<=s.heap.objs.size
 j4:s.heap.FunFrames base outer
 p7:∀b∈frs outer,H b=none
 hok:dD P w H s.heap
 bare:AllBare s.gens
def CE(outer:List Env)(P:Program)(w:World)(H:Hp)(s:Shared)(Q:VK)(u:Value)(s':Shared):Prop:=
 ∃v H',s'.os=s.os/\AllBare s'.gens/\Un (frs outer) [] H H' s.heap s'.heap/\dD P w H' s'.heap/\RelV v u/\Q v H'
def CR(CX:lq)(outer:List Env)(P:Program)(w:World)(H:Hp)(s:Shared)(Q:VK)(E:XK)(r:Result)(s':Shared):Prop:=
 match r with
 | .ok (.ret u)=>CE outer P w H s Q u s'
 | .ok _=>False
 | .error e=>CX outer H s E e s'
structure bE(P:Program)(w:World)(K:PySem.W.Frag)(mg:Str->Option Value)(base:Heap)(CX:lq)(k:Nat)(f:Addr)(fd:FuncData)(ps:List Str)(sp:Sp):Prop where
 len:∀vs H Q E,sp vs H Q E->vs.length=ps.length
 run:∀(A:Around) (outer:List Env) (s:Shared) (H:Hp) (args:Args) (us:List Value) (vs:List V) (Q:VK) (E:XK),gP k A->vn P w K mg base A outer s H->BindsTo s fd args (ps.zip us)->Vals vs us->sp vs H Q E->
  codeAny (model P w) A (.call (.ref f) args) (CR CX outer P w H s Q E) s
section
variable{X:Cx}{pins:List (Addr×Obj)}{σ:St}{H:Hp}{s s':Shared}
theorem Inv.SK(I:Inv X pins σ H s):vn X.prog X.w X.K X.mg X.base X.A X.stack s H:=
 ⟨I.ok.frames,I.ok.mod,I.bs,eE I.ok.oJ I.sz,I.stack,I.Jb,I.hok,I.bare⟩
theorem Inv.after{Q:VK}{u:Value}(I:Inv X pins σ H s)(h:CE X.stack X.prog X.w H s Q u s'):EP X pins σ Q u s':=by
 obtain⟨v,H',os,bare,un,hok,r,q⟩:=h
 obtain⟨hh,g,d,t,os'⟩:=s'
 obtain rfl:os'=s.os:=os
 exact⟨v,H',I.call (h':=hh) (g':=g) (d':=d) (t':=t) (ch:=[]) un hok bare (fun b z=>absurd z (by simp)),r,q⟩
end
def ju(sp:Sp)(nG:List V)(E:XK)(t:TA):TE:=fun σ H Q=>t σ H fun vs H1=>sp (vs++nG) H1 Q E
def Binds(K:PySem.W.Frag)(fd:FuncData)(ps:List Str)(ds:List Value):Prop:=
 ∀(s:Shared) (us:List Value),K.In s.heap->(us++ds).length=ps.length->BindsTo s fd ⟨us,[]⟩ (ps.zip (us++ds))
theorem Binds.all{K:PySem.W.Frag}{fd:FuncData}{ps:List Str}(h:∀us:List Value,us.length=ps.length->bindArgs fd ⟨us,[]⟩=pure (ps.zip us)):Binds K fd ps []:=fun s us _ hl=>by
 rw[eN] at hl⊢
 exact .of_eq (h us hl)
def Passes(CX:lq)(X:Cx)(E:XK):Prop:=∀(pins:List (Addr×Obj)) (σ:St) (H:Hp) (s:Shared) (e:Value) (s':Shared),Inv X pins σ H s->CX X.stack H s E e s'->X.xe e s'
section
variable{X:Cx}{CX:lq}{k:Nat}{f C:Addr}{fd:FuncData}{ps:List Str}{sp:Sp}{nG:List V}{ds:List Value}{E:XK}{x m:Str}{p pos apos:Pos}{e o:Expr}{es:List Expr}{ta:TE}{t:TA}
theorem Ws{pins:List (Addr×Obj)}{σ:St}{H:Hp}{s:Shared}{Q:VK}{us:List Value}{vs:List V}(F:bE X.prog X.w X.K X.mg X.base CX k f fd ps sp)(hr:gP k X.A)(hb:Binds X.K fd ps ds)(hd:Vals nG ds)(hx:Passes CX X E)
    (I:Inv X pins σ H s) (r:Vals vs us) (h:sp (vs++nG) H Q E):wpAny (model X.prog X.w) X.A (call (.ref f) us) (EP X pins σ Q) X.xe s:=by
  have r2:Vals (vs++nG) (us++ds):=r.append hd
  have hl:(us++ds).length=ps.length:=by rw[<-r2.length];exact F.len _ _ _ _ h
  refine wpAny_call (codeAny_mono (F.run X.A X.stack s H ⟨us,[]⟩ (us++ds) (vs++nG) Q E hr I.SK (hb s us I.fh hl) r2 h) fun r s' hq=>?_)
  cases r with
  |error e=>exact hx pins σ H s e s' I hq
  | ok fl =>
    cases fl with
    |ret u=>exact I.after hq
    |next=>exact False.elim hq
    |brk=>exact False.elim hq
    |cont=>exact False.elim hq
theorem WS(F:bE X.prog X.w X.K X.mg X.base CX k f fd ps sp)(hr:gP k X.A)(hg:Gl X x)(hm:X.mg x=some (.ref f))(hk:PySem.W.keepIn X.K (.ref f)=true)(hb:Binds X.K fd ps ds)(hd:Vals nG ds)(hx:Passes CX X E)
  (ha:PA X (e::es) t) (hdb:(x==("__debug__":Str))=false:=by decide) (he:starEach (e::es) X.env=(false,eval e X.env)::starEach es X.env:=by rfl) (hpl:(backTo pos (starEach es X.env)).any (·.1)=false:=by rfl):
  PE X (.Call (.Name x p) (e::es) [] pos) (ju sp nG E t):=by
 intro pins s σ H Q I h
 refine wpAny_Call_Name_kw (XZ I hg hm ?_ hdb)
 refine PySem.W.callWith_K (h₀:=X.base) I.ok.mod.yh hk (aW (ha pos pins s σ H _ I h) fun us s1 ⟨vs,H1,I1,r,q⟩=>⟨I1.fh,?_⟩) he hpl
 exact Ws F hr hb hd hx I1 r q
end
structure cz(N P:List Str)(sc:Scope):Prop where
 kind:sc.kind= .function
 co:sc.isCoroutine=false
 gen:sc.isGenerator=false
 nd:N.Nodup
 pre:N.take P.length=P
 par:∀x∈P,sc.names.lookup x=some .local\/sc.names.lookup x=some .cell
 U9:∀y∈sc.names,y.2≠ .free
theorem En{kindOf:Str->Option NameKind}{x:Str}:∀{binds:List (Str×Value)} {m:Str->Option Value},(∀v,(x,v)∉binds)->bindL kindOf binds m x=m x
  |[],_,_=>rfl
  | (n, v) :: r, m, h => by
    unfold bindL
    rw[En fun w hw=>h w (cG _ hw)]
    split
    · have:x≠n:=by rintro rfl;exact h v bA
      simp[this]
    · rfl
theorem Hu{kindOf:Str->Option NameKind}{x:Str}:∀{binds:List (Str×Value)} {m:Str->Option Value},(∀v,(x,v)∉binds)->bindC kindOf binds m x=m x
  |[],_,_=>rfl
  | (n, v) :: r, m, h => by
    unfold bindC
    rw[Hu fun w hw=>h w (cG _ hw)]
    split
    · rfl
    · have:x≠n:=by rintro rfl;exact h v bA
      simp[this]
theorem GK{kindOf:Str->Option NameKind}{x:Str}{v:Value}:∀{P:List Str} {vs:List Value} {i:Nat} {m:Str->Option Value},P.Nodup->P[i]?=some x->vs[i]?=some v->kindOf x=some .local->
    bindL kindOf (P.zip vs) m x=some v
  |[],_,_,_,_,h,_,_=>by simp at h
  |_::_,[],_,_,_,_,h,_=>by simp at h
  | p :: P, w :: vs, 0, m, nd, h1, h2, hk => by
    simp at h1 h2;subst h1;subst h2
    show bindL kindOf ((p,w)::P.zip vs) m p=_
    unfold bindL
    rw[En fun v hv=>(gz.mp nd).1 (Ck hv).1,if_pos hk]
    simp
  | p :: P, w :: vs, i + 1, m, nd, h1, h2, hk => by
    show bindL kindOf ((p,w)::P.zip vs) m x=_
    unfold bindL
    exact GK (i:=i) (gz.mp nd).2 (by simpa using h1) (by simpa using h2) hk
theorem KU{kindOf:Str->Option NameKind}{x:Str}{v:Value}:∀{P:List Str} {vs:List Value} {i:Nat} {m:Str->Option Value},P.Nodup->P[i]?=some x->vs[i]?=some v->kindOf x≠some .local->
    bindC kindOf (P.zip vs) m x=some v
  |[],_,_,_,_,h,_,_=>by simp at h
  |_::_,[],_,_,_,_,h,_=>by simp at h
  | p :: P, w :: vs, 0, m, nd, h1, h2, hk => by
    simp at h1 h2;subst h1;subst h2
    show bindC kindOf ((p,w)::P.zip vs) m p=_
    unfold bindC
    rw[Hu fun v hv=>(gz.mp nd).1 (Ck hv).1,if_neg hk]
    simp
  | p :: P, w :: vs, i + 1, m, nd, h1, h2, hk => by
    show bindC kindOf ((p,w)::P.zip vs) m x=_
    unfold bindC
    exact KU (i:=i) (gz.mp nd).2 (by simpa using h1) (by simpa using h2) hk
def start(N:List Str)(vs:List V):St:=vs.map some++List.replicate (N.length-vs.length) none
def pU(CX:lq)(P:Program)(w:World)(K:PySem.W.Frag)(mg:Str->Option Value)(base:Heap)(N:List Str)(qual:Str)(scope:Scope)(f:Addr)(cd:Value)(A:Around)(outer:List Env)(s:Shared)(H:Hp)(E:XK):Cx where
 prog:=P
 w:=w
 K:=K
 mg:=mg
 base:=base
 A:=A.deeper (envOfC qual scope s.heap.objs.size f cd)
 N:=N
 s₀:=s
 H₀:=H
 env:=envOfC qual scope s.heap.objs.size f cd
 outer:=outer
 stack:=envOfC qual scope s.heap.objs.size f cd::outer
 ex:=[]
 calm:=true
 fn:=fun _=>true
 pn:=[]
 xe:=fun e s'=>wpAny (model P w) (A.deeper (envOfC qual scope s.heap.objs.size f cd)) (leaving (envOfC qual scope s.heap.objs.size f cd) e) (fun _ s''=>CX outer H s E e s'') (fun e' s''=>CX outer H s E e' s'') s'
theorem GL{sc:Scope}{n:Nat}{x:Str}(h:sc.names.lookup x=some .cell):∃c,(cellsFrom n sc.names []).lookup x=some c:=by
 have q:=HM sc.names n [] (.inl h)
 exact yj.mp q
theorem Qa{CX:lq}{P:Program}{w:World}{K:PySem.W.Frag}{mg:Str->Option Value}{base:Heap}{N ps:List Str}{qual:Str}{scope:Scope}{f:Addr}{cd:Value}{A:Around}{outer:List Env}{s s1:Shared}{H:Hp}{E:XK}{us:List Value}{vs:List V}
  (S:cz N ps scope) (hd:A.handled=none) (e0:vn P w K mg base A outer s H) (hl:vs.length=ps.length) (r:Vals vs us)
  (x:InCallC s s.heap.objs.size (bindL (envOfC qual scope s.heap.objs.size f cd).kindOf (ps.zip us) fun _=>none) (cellsFrom (s.heap.objs.size+1) scope.names []) (bindC (envOfC qual scope s.heap.objs.size f cd).kindOf (ps.zip us) fun _=>none) s1):
  Inv (pU CX P w K mg base N qual scope f cd A outer s H E) [] (start N vs) H s1:=by
 have hpl:ps.length<=N.length:=by have:=congrArg List.length S.pre;rw[iX] at this;omega
 obtain⟨h1,tk,rfl,hk⟩:=x.done
 have qV:∀b:Addr,b∉(pU CX P w K mg base N qual scope f cd A outer s H E).ex:=fun b z=>absurd (show b∈([]:List Addr) from z) (by simp)
 refine⟨⟨e0.mod,S.kind,rfl,rfl,aJ _,fun y z c h1 h2=>?_,fun y hy=>?_,fun y c _ h=>?_,fun _=>hd,Around.frames_deeper e0.frames, .inr ⟨rfl,rfl⟩,fun b z=>absurd z (qV b),e0.bs,e0.oJ,fun b _ _=>qV b,fun b z=>absurd z (qV b),e0.j4,e0.p7⟩,
  rfl,e0.bare,Un.kept hk,⟨_,x.toInCall.ns,fun i y v h1 h2 h3=>?_⟩,fun y c h=>⟨_,x.cell y c h⟩,e0.hok.fresh (aJ _),fun y c h=>?_,fun p hp=>absurd (show p∈([]:List (Addr×Obj)) from hp) (by simp),e0.hok.kept hk,?_⟩
 ·exact name_of_addr x.apart (oY h1) (oY h2)
 ·have hy:scope.names.lookup y=some .cell\/scope.names.lookup y=some .free:=hy
  rcases hy with hy|hy
  ·exact GL hy
  ·exact absurd rfl (S.U9 _ (oY hy))
 ·exact jr (x.above y c (oY h))
 ·have hi:i<vs.length:=by
   unfold start at h2
   by_cases hi:i<vs.length
   ·exact hi
   ·rw[g9 (by simpa using hi)] at h2
    rw[g5] at h2
    split at h2<;>cases h2
  have ha:vs[i]?=some v:=by
   unfold start at h2
   rw[gD (by simpa using hi),aL] at h2
   cases e:vs[i]? with
   |none=>rw[e] at h2;cases h2
   |some a=>rw[e] at h2;cases h2;rfl
  obtain⟨u,hu,rv⟩:=r.get ha
  have hp:ps[i]?=some y:=by
   rw[<-S.pre,qd (by omega)];exact h1
  have Hq:ps.Nodup:=by rw[<-S.pre];exact S.nd.sublist (List.take_sublist _ _)
  refine⟨u,rv,?_⟩
  rcases S.par y (br hp) with k|k
  ·exact .inl ⟨k,GK Hq hp hu k⟩
  ·obtain⟨c,e⟩:=GL (n:=s.heap.objs.size+1) k
   refine .inr ⟨.inl k,c,e,?_⟩
   have q:=x.cell y c e
   rw[KU Hq hp hu (by show scope.names.lookup y≠_;rw[k];decide)] at q
   exact q
 ·exact e0.hok.fresh (jr (x.above y c (oY h)))
 ·unfold start
  show _=N.length
  rw[bz,aj,Hf]
  omega
theorem Rp{CX:lq}{P:Program}{w:World}{K:PySem.W.Frag}{mg:Str->Option Value}{base:Heap}{k:Nat}{f:Addr}{name qual:Str}{params:Arguments}{body:List Stmt}{scope:Scope}{dV kV doc pm cdv ct oc:Value}{an od:Option Addr}
    {osl:Array (Option Value)} {N ps:List Str} {sp:Sp} (lk:K.lookup f=some ⟨oc,od, .func (PySem.W.fnOf name qual params body scope dV kV doc pm an cdv ct),osl⟩) (hcd:PySem.W.codeIn K cdv qual=true) (S:cz N ps scope)
    (len:∀vs H Q E,sp vs H Q E->vs.length=ps.length)
    (hbody:∀(A:Around) (outer:List Env) (s:Shared) (H:Hp) (vs:List V) (Q:VK) (E:XK),gP k (A.deeper (envOfC qual scope s.heap.objs.size f cdv))->sp vs H Q E->
      ∃t,jo (pU CX P w K mg base N qual scope f cdv A outer s H E) body t/\t {nx:=fun _ H'=>Q .aT H',rt:=Q} (start N vs) H):
    bE P w K mg base CX (k+1) f (PySem.W.fnOf name qual params body scope dV kV doc pm an cdv ct) ps sp:=by
  refine⟨len,fun A outer s H args us vs Q E hr e0 hb r gk=>?_⟩
  have hl:=len _ _ _ _ gk
  have KX:K.In s.heap:=e0.mod.yh.keeps fun b o e=>(e0.bs b o e).1
  have lim:s.heap.NoLimit:=e0.mod.nolimit.keeps fun b o e=>(e0.bs b o e).1
  have hkind:∀y∈ps.zip us,scope.names.lookup y.1=some .local\/(scope.names.lookup y.1=some .cell/\((cellsFrom (s.heap.objs.size+1) scope.names []).lookup y.1).isSome=true):=fun⟨n,v⟩ hy=>by
    rcases S.par n (Ck hy).1 with q|q
    · exact .inl q
    · exact .inr ⟨q,HM _ _ _ (.inl q)⟩
  refine codeAny_call_function hr.depth (KX _ _ lk) rfl S.co S.gen rfl (PySem.W.codeRec_of KX hcd) (hb _ _ _ _ ?_)
  refine wpAny_newFunctionEnv_cells S.kind hkind fun env he s1 x=>?_
  subst he
  refine⟨lim.keeps x.toInCall.keep,codeAny_func ?_⟩
  obtain⟨t,ht,hq⟩:=hbody A outer s H vs Q E (hr.deeper _) gk
  have I:Inv (pU CX P w K mg base N qual scope f cdv A outer s H E) [] (start N vs) H s1:=Qa S hr.hd e0 hl r x
  refine wpAny_mono (ht [] s1 (start N vs) H _ I hq) (fun fl s' hs=>?_) fun e s' hs=>hs
  have fin:∀{σ':St} {H':Hp} {v:V} {u:Value},Inv (pU CX P w K mg base N qual scope f cdv A outer s H E) [] σ' H' s'->RelV v u->Q v H'->CE outer P w H s Q u s':=
    fun{σ' H' v u} J rv q=>⟨v,H',J.os,J.bare,J.base,J.hok,rv,q⟩
  cases fl with
  | ret u =>
    obtain⟨v,σ',H',J,rv,q⟩:=hs
    exact fin J rv q
  | next =>
    obtain⟨σ',H',J,q⟩:=hs
    exact fin (v:=V.aT) (u:=Value.none) J rfl q
  | brk =>
    obtain⟨_,_,_,q⟩:=hs
    exact False.elim q
  | cont =>
    obtain⟨_,_,_,q⟩:=hs
    exact False.elim q
section
variable{X:Cx}{x:Str}{p pos:Pos}{e:Expr}{es:List Expr}{t:TA}{id T:String}{r:List V->Hp->VK->Prop}
def fN(r:List V->Hp->VK->Prop)(t:TA):TE:=fun σ H Q=>t σ H fun vs H1=>r vs H1 Q
theorem cH(hc:fF X (.builtin id) r)(hg:Gl X x)(hm:X.mg x=none)(hv:bootBuiltins x=some (.builtin id))(ha:PA X (e::es) t)(hn:x≠"__name__":=by decide)(hdb:(x==("__debug__":Str))=false:=by decide)
  (he:starEach (e::es) X.env=(false,eval e X.env)::starEach es X.env:=by rfl) (hpl:(backTo pos (starEach es X.env)).any (·.1)=false:=by rfl):PE X (.Call (.Name x p) (e::es) [] pos) (fN r t):=by
 intro pins s σ H Q I h
 refine wpAny_Call_Name_kw (qf I hg hm hv ?_ hn hdb)
 exact PyProof.Rows.callWith_builtin1 (aW (ha pos pins s σ H _ I h) fun us s1 ⟨vs,H1,I1,r1,q1⟩=>hc pins s1 σ H1 vs us Q I1 r1 q1) he hpl
theorem gH(hc:fF X (.type T) r)(hg:Gl X x)(hm:X.mg x=none)(hv:bootBuiltins x=some (.type T))(ha:PA X (e::es) t)(hn:x≠"__name__":=by decide)(hdb:(x==("__debug__":Str))=false:=by decide)
  (he:starEach (e::es) X.env=(false,eval e X.env)::starEach es X.env:=by rfl) (hpl:(backTo pos (starEach es X.env)).any (·.1)=false:=by rfl):PE X (.Call (.Name x p) (e::es) [] pos) (fN r t):=by
 intro pins s σ H Q I h
 refine wpAny_Call_Name_kw (qf I hg hm hv ?_ hn hdb)
 exact uH (aW (ha pos pins s σ H _ I h) fun us s1 ⟨vs,H1,I1,r1,q1⟩=>hc pins s1 σ H1 vs us Q I1 r1 q1) he hpl
end
end L2
namespace HT
open PySem PyProof.Rows
section
open PySem.SeqAt
open PySem.AutoSeq1 (wpAny_loadPart')
open PySem.MeetsSeq PySem.MeetsSeq2 PySem.MeetsSeq3
end
section
variable{prog:Program}{w:World}{A:Around}{E:Value->Shared->Prop}{s:Shared}
def fu(n d:Nat):Option Int->Nat
 |none=>d
 |some v=>if v<0 then(v+(n:Int)).toNat else min v.toNat n
theorem VD(n d:Nat):fu n d none=d:=rfl
end
end HT
namespace L2
open PySem PySem.Spec PyProof.Rows
abbrev TO:=St->Hp->(Option Int->Hp->Prop)->Prop
def PO(X:Cx)(e:Option Expr)(t:TO):Prop:=
 ∀(pins:List (Addr×Obj)) (s:Shared) (σ:St) (H:Hp) (Q:Option Int->Hp->Prop),Inv X pins σ H s->t σ H Q->
  wpAny (model X.prog X.w) X.A (evalPart e X.env) (fun u s'=>∃o H',Inv X pins σ H' s'/\IsPart u o/\Q o H') X.xe s
def Ab:TO:=fun _ H Q=>Q none H
def yt(t:TE):TO:=fun σ H Q=>t σ H fun x H1=>∃i,x= .int i/\Q (some i) H1
section
variable{X:Cx}{e:Expr}{te:TE}{lo hi:Option Expr}{tl th:TO}{pos p2:Pos}
theorem lU:PO X none Ab:=by
 intro pins s σ H Q I h
 rw[evalPart_none]
 exact wpAny_pure ⟨none,H,I, .none,h⟩
theorem mq(h:PE X e te):PO X (some e) (yt te):=by
 intro pins s σ H Q I hw
 rw[evalPart_some]
 refine aW (h pins s σ H _ I hw) fun u s1 ⟨x,H1,I1,r1,q1⟩=>?_
 obtain⟨i,rfl,q⟩:=q1
 obtain⟨t,rfl⟩:=r1
 exact⟨some i,H1,I1, .int i t,q⟩
def Hi(X:Cx)(r:V->Option Int->Option Int->Hp->VK->Prop):Prop:=
 ∀(pins:List (Addr×Obj)) (s:Shared) (σ:St) (H:Hp) (x:V) (v vl vu:Value) (lo hi:Option Int) (sl:Addr) (Q:VK),Inv X pins σ H s->RelV x v->s.heap.IsSliceOf sl vl vu .none->IsPart vl lo->IsPart vu hi->r x lo hi H Q->
  ∃T id,typeLookup (.type T) "__getitem__"=pure (some (.builtin id))/\s.TypeIs v T/\wpAny (model X.prog X.w) X.A (getItem v (.ref sl)) (EP X pins σ Q) X.xe s
def rB(r:V->Option Int->Option Int->Hp->VK->Prop)(te:TE)(tl th:TO):TE:=fun σ H Q=>te σ H fun x H1=>tl σ H1 fun l H2=>th σ H2 fun u H3=>r x l u H3 Q
theorem lR{r:V->Option Int->Option Int->Hp->VK->Prop}(hr:Hi X r)(he:PE X e te)(hl:PO X lo tl)(hu:PO X hi th):PE X (.Subscript e (.Slice lo hi none p2) pos) (rB r te tl th):=by
 intro pins s σ H Q I h
 refine Subscript_ (aW (he pins s σ H _ I h) fun v s1 ⟨x,H1,I1,r1,q1⟩=>?_)
 refine wpAny_Slice (aW (hl pins s1 σ H1 _ I1 q1) fun vl s2 ⟨l,H2,I2,pl,q2⟩=>aW (hu pins s2 σ H2 _ I2 q2) fun vu s3 ⟨u,H3,I3,pu,q3⟩=>?_)
 rw[evalPart_none]
 refine wpAny_pure ?_
 have I4:Inv X pins σ H3 {s3 with heap:=s3.heap.push {cls:= .type "slice",data:= .fields #[vl,vu, .none]}}:=I3.kept (t':=s3.toks) fun b ob q=>bS _ q
 obtain⟨T,id,hT,ht,hg⟩:=hr pins {s3 with heap:=s3.heap.push {cls:= .type "slice",data:= .fields #[vl,vu, .none]}} σ H3 x v vl vu l u s3.heap.objs.size Q I4 r1 (Heap.IsSliceOf.new ..) pl pu q3
 show wpAny (model X.prog X.w) X.A (subscriptTail e (.Slice lo hi none p2) v (.ref s3.heap.objs.size)) (EP X pins σ Q) X.xe {s3 with heap:=s3.heap.push {cls:= .type "slice",data:= .fields #[vl,vu, .none]}}
 exact tail_any (ops:=[.ref s3.heap.objs.size,v]) ht hT hg (by with_unfolding_all rfl)
def mh(xs:List V)(lo hi:Option Int):List V:=(xs.drop (HT.fu xs.length 0 lo)).take (HT.fu xs.length xs.length hi-HT.fu xs.length 0 lo)
theorem Uk(xs:List V)(lo hi:Option Int):(mh xs lo hi).length<=xs.length:=by
 unfold mh
 rw[iX,yI]
 omega
def MB(K:PySem.W.Frag):V->Option Int->Option Int->Hp->VK->Prop:=fun x lo hi H Q=>∃a xs,x= .ref a/\gx K H a xs/\
 ¬(HT.fu xs.length 0 lo=0/\HT.fu xs.length xs.length hi=xs.length)/\∀p,H p=none->Q (.ref p) (upd H p (.tup (mh xs lo hi)))
def US(K:PySem.W.Frag):R2:=fun x y H Q=>∃a b xs ys,x= .ref a/\y= .ref b/\gx K H a xs/\gx K H b ys/\xs≠[]/\xs.length+ys.length<=sizeLine/\
 (ys=[]->Q (.ref a) H)/\(ys≠[]->∀p,H p=none->Q (.ref p) (upd H p (.tup (xs++ys))))
end
def fy(n:Nat)(i:Int):Option Nat:=if 0<=i then(if i<n then some i.toNat else none) else if-(n:Int)<=i then some (i+n).toNat else none
def bN{α:Type}(xs:List α)(i:Int):Option α:=(fy xs.length i).bind fun j=>xs[j]?
theorem wO{n:Nat}{i:Int}{j:Nat}(h:fy n i=some j):seqIndex? i n=some j/\j<n/\ -(n:Int)<=i/\i<n:=by
 unfold fy at h
 by_cases h0:0<=i
 ·rw[if_pos h0] at h
  by_cases h1:i<n
  ·rw[if_pos h1] at h
   have e:i.toNat=j:=fL h
   exact⟨by rw[seqIndex_of h0 h1,e],by omega,by omega,h1⟩
  ·rw[if_neg h1] at h;cases h
 ·rw[if_neg h0] at h
  by_cases h1: -(n:Int)<=i
  ·rw[if_pos h1] at h
   have e:(i+n).toNat=j:=fL h
   exact⟨by rw[seqIndex_neg (by omega) h1,e],by omega,h1,by omega⟩
  ·rw[if_neg h1] at h;cases h
theorem Cd{α:Type}{xs:List α}{i:Int}{v:α}(h:bN xs i=some v):∃j,seqIndex? i xs.length=some j/\xs[j]?=some v/\j<xs.length/\ -(xs.length:Int)<=i/\i<xs.length:=by
  unfold bN at h
  cases e:fy xs.length i with
  |none=>rw[e] at h;cases h
  | some j =>
    rw[e] at h
    obtain⟨h1,h2,h3,h4⟩:=wO e
    exact⟨j,h1,h,h2,h3,h4⟩
theorem MO{α:Type}{xs:List α}{j:Nat}{v:α}(h:xs[j]?=some v):bN xs (j:Int)=some v:=by
 have hj:j<xs.length:=(aP.mp h).1
 have e:fy xs.length (j:Int)=some j:=by
  unfold fy
  rw[if_pos (by omega),if_pos (by omega)];simp
 unfold bN;rw[e];exact h
def Yc(b:Expr):Prop:=∀o i,subscripted b false o i=operate [o,i] (getItem o i)
def kW(X:Cx)(r:R2):Prop:=
 ∀(value slice:Expr) (pins:List (Addr×Obj)) (s:Shared) (σ:St) (H:Hp) (x y:V) (v u:Value) (Q:VK),Inv X pins σ H s->RelV x v->RelV y u->r x y H Q->
  subscripted slice false v u=operate [v,u] (getItem v u)->wpAny (model X.prog X.w) X.A (subscriptTail value slice v u) (EP X pins σ Q) X.xe s
def qm(X:Cx)(id:String)(r:V->List V->Hp->VK->Prop):Prop:=
 ∀(pins:List (Addr×Obj)) (s:Shared) (σ:St) (H:Hp) (x:V) (xs:List V) (v:Value) (us:List Value) (Q:VK),Inv X pins σ H s->RelV x v->Vals xs us->r x xs H Q->
  wpAny (model X.prog X.w) X.A (call (.builtin id) (v::us)) (EP X pins σ Q) X.xe s
section
variable{X:Cx}{a b:Expr}{ta tb:TE}{pos:Pos}
theorem kW.or{r r':R2}(h:kW X r)(h':kW X r'):kW X (fun x y H Q=>r x y H Q\/r' x y H Q):=by
 intro value slice pins s σ H x y v u Q I rx ry q hs
 rcases q with q|q
 ·exact h value slice pins s σ H x y v u Q I rx ry q hs
 ·exact h' value slice pins s σ H x y v u Q I rx ry q hs
theorem aG{r:R2}(hr:kW X r)(ha:PE X a ta)(hb:PE X b tb)(hs:Yc b):PE X (.Subscript a b pos) (c6 r ta tb):=by
 intro pins s σ H Q I h
 exact Subscript_ (zA ha hb I h fun v u s2 x y H2 I2 rx ry q=>hr a b pins s2 σ H2 x y v u Q I2 rx ry q (hs _ _))
def cF(K:PySem.W.Frag):R2:=fun x y H Q=>∃p xs i v,x= .ref p/\y= .int i/\aV K H p xs/\bN xs i=some v/\Q v H
def c5(K:PySem.W.Frag):R2:=fun x y H Q=>∃p xs i v,x= .ref p/\y= .int i/\gx K H p xs/\bN xs i=some v/\Q v H
def Lo:R2:=fun x y H Q=>∃z i c,x= .str z/\y= .int i/\z.length<=sizeLine/\bN z.cps.toList i=some c/\Q (.str ⟨#[c]⟩) H
theorem bD:kW X (cF X.K):=by
 intro value slice pins s σ H x y v u Q I rx ry h hs
 obtain⟨p,xs,i,z,rfl,rfl,hq,he,q⟩:=h
 cases rx
 obtain⟨t,rfl⟩:=ry
 obtain⟨its,r,pl,hz⟩:=I.list hq
 obtain⟨j,h1,h2,h3,h4,h5⟩:=Cd he
 obtain⟨w,ew,rw'⟩:=r.get h2
 have hl:=r.length
 have hn:=qF
 have fin:EP X pins σ Q w s:=⟨z,H,I,rw',q⟩
 by_cases h0:0<=i
 ·have hj:i.toNat=j:=by
   rw[seqIndex_of h0 h5] at h1
   exact fL h1
  exact item_listR pl.isList h0 (by omega) (by rw[hj];simpa using ew) fin hs
 ·have hj:(i+(its.toArray.size:Int)).toNat=j:=by
   rw[seqIndex_neg (by omega) h4] at h1
   rw[eg,<-hl]
   exact fL h1
  exact subscriptTail_builtinR (x:=w) pl.isList.typeIs slot_list_getitem.lookup
   (wpAny_getItem_list_neg (Q:=fun r s'=>r=w/\EP X pins σ Q r s') pl.isList (by omega) (by rw[eg]<;>omega) (by omega) (by rw[hj];simpa using ew) ⟨rfl,fin⟩) hs
theorem dG:kW X (c5 X.K):=by
 intro value slice pins s σ H x y v u Q I rx ry h hs
 obtain⟨p,xs,i,z,rfl,rfl,hq,he,q⟩:=h
 cases rx
 obtain⟨t,rfl⟩:=ry
 obtain⟨its,r,pl,hz⟩:=I.tuple hq
 obtain⟨j,h1,h2,h3,h4,h5⟩:=Cd he
 obtain⟨w,ew,rw'⟩:=r.get h2
 have hl:=r.length
 have hn:=qF
 have fin:EP X pins σ Q w s:=⟨z,H,I,rw',q⟩
 exact subscriptTail_builtinR (x:=w) pl.typeIs slot_tuple_getitem.lookup
  (getItem_tuple (j:=j) (Q:=fun r s'=>r=w/\EP X pins σ Q r s') pl (by omega) (by omega) (by rw[eg,<-hl];exact h1) (by simpa using ew) ⟨rfl,fin⟩) hs
theorem OV:kW X Lo:=by
 intro value slice pins s σ H x y v u Q I rx ry h hs
 obtain⟨z,i,c,rfl,rfl,hz,he,q⟩:=h
 obtain⟨t,rfl⟩:=rx
 obtain⟨t',rfl⟩:=ry
 obtain⟨j,h1,h2,h3,h4,h5⟩:=Cd he
 have hl:z.cps.toList.length=z.length:=by simp[Str.length]
 rw[hl] at h1 h4 h5
 have hn:=qF
 exact tail_any (typeIs_str s z t) slot_str_getitem.lookup (getItem_str (c:=c) (by
  have e1:decide (i< -(2^63:Int))=false:=decide_eq_false (by omega)
  have e2:decide (i≥2^63)=false:=decide_eq_false (by omega)
  rw[e1,e2,oq]) (by rw[h1];simpa using h2) ⟨.str ⟨#[c]⟩,H,I.tok _,⟨_,rfl⟩,q⟩) hs
def um(K:PySem.W.Frag):R2:=fun x y H Q=>cF K x y H Q\/c5 K x y H Q\/Lo x y H Q
theorem E1:kW X (um X.K):=bD.or (dG.or OV)
theorem SA(its:List Value)(n j:Nat)(u:Value):Obj.mapSeq (·.setIfInBounds j u) {cls:= .type "list",data:= .seq its.toArray n}={cls:= .type "list",data:= .seq (its.set j u).toArray n}:=by
 simp[Obj.mapSeq]
theorem Inv.lst{pins:List (Addr×Obj)}{σ:St}{H:Hp}{s:Shared}{p:Addr}{xs:List V}(I:Inv X pins σ H s)(h:H p=some (.lst xs)):
  ∃(its:List Value) (n:Nat),Vals xs its/\s.heap.get? p=some {cls:= .type "list",data:= .seq its.toArray n}/\xs.length<=sizeLine:=by
 obtain⟨z,its,n,r,e⟩:=I.hok p _ h
 exact⟨its,n,r,e,z⟩
theorem Inv.LH{pins:List (Addr×Obj)}{σ:St}{H:Hp}{s:Shared}{p:Addr}{xs ys:List V}{its its':List Value}{n n':Nat}{f:Obj->Obj}(I:Inv X pins σ H s)(h:H p=some (.lst xs))
  (ho:s.heap.get? p=some {cls:= .type "list",data:= .seq its.toArray n}) (hf:f {cls:= .type "list",data:= .seq its.toArray n}={cls:= .type "list",data:= .seq its'.toArray n'}) (r:Vals ys its') (hz:ys.length<=sizeLine) (t:Nat):
  Inv X pins σ (upd H p (.lst ys)) {s with heap:=s.heap.update p f,toks:=t}:=by
 have e:(s.heap.update p f).get? p=some {cls:= .type "list",data:= .seq its'.toArray n'}:=by
  rw[uK f ho (by rw[hf]<;>rfl),hf]
 refine I.write (x:=p) (e:=p) (by rw[h];trivial) (.inl rfl) (fun b u hb q=>(kY _ _ (bx hb)).trans q) ⟨_,e⟩ ?_
 exact⟨hz,its',n',r,e⟩
def uO:V->V->V->Hp->(Hp->Prop)->Prop:=fun o i v H Q=>∃p xs k j,o= .ref p/\i= .int k/\H p=some (.lst xs)/\fy xs.length k=some j/\Q (upd H p (.lst (xs.set j v)))
theorem set_list:xo X uO:=by
 intro pins s σ H o i v ov iv u Q I ro ri rv h
 obtain⟨p,xs,k,j,rfl,rfl,hp,hj,q⟩:=h
 cases ro
 obtain⟨t,rfl⟩:=ri
 obtain⟨its,n,r,ho,hz⟩:=I.lst hp
 obtain⟨h1,h2,h3,h4⟩:=wO hj
 have hl:=r.length
 have hn:=qF
 have I':Inv X pins σ (upd H p (.lst (xs.set j v))) {s with heap:=s.heap.update p (Obj.mapSeq (·.setIfInBounds j u))}:=
  I.LH hp ho (SA its n j u) (r.set rv j) (by rw[gb];exact hz) s.toks
 by_cases h0:0<=k
 ·have hk:k.toNat=j:=by
   rw[seqIndex_of h0 h4] at h1
   exact fL h1
  exact PySem.W.ki_setAt ho h0 (by omega) (by rw[eg,<-hl];exact h4) (by rw[hk];exact⟨_,I',q⟩)
 ·have hk:(k+(its.toArray.size:Int)).toNat=j:=by
   rw[seqIndex_neg (by omega) h3] at h1
   rw[eg,<-hl]
   exact fL h1
  exact PySem.W.ki_setBack ho (by omega) (by rw[eg,<-hl];exact h3) (by omega) (by rw[hk];exact⟨_,I',q⟩)
theorem T9(lo hi:Option Int)(n:Nat):(sliceBounds lo hi none n).1=((HT.fu n 0 lo:Nat):Int)/\(sliceBounds lo hi none n).2.1=((HT.fu n n hi:Nat):Int)/\(sliceBounds lo hi none n).2.2=1:=by
  refine⟨?_,?_,rfl⟩
  · cases lo with
    |none=>simp[sliceBounds,HT.fu]
    | some i =>
      simp only[sliceBounds,HT.fu,Option.getD_none,show(1:Int)>0 by decide,if_true]
      by_cases h:i<0
      · simp only[h,if_true]<;>omega
      · simp only[h,if_false]<;>omega
  · cases hi with
    |none=>simp[sliceBounds,HT.fu]
    | some i =>
      simp only[sliceBounds,HT.fu,Option.getD_none,show(1:Int)>0 by decide,if_true]
      by_cases h:i<0
      · simp only[h,if_true]<;>omega
      · simp only[h,if_false]<;>omega
theorem Pg(its:List Value)(lo hi:Option Int):slicePick its.toArray lo hi none=((its.drop (HT.fu its.length 0 lo)).take (HT.fu its.length its.length hi-HT.fu its.length 0 lo)).toArray:=by
 obtain⟨h1,h2,h3⟩:=T9 lo hi its.toArray.size
 unfold slicePick
 rw[h1,h2,h3]
 simp only[sliceRange_one,pick_run,eg]<;>rfl
def j5(K:PySem.W.Frag):V->Option Int->Option Int->Hp->VK->Prop:=fun x lo hi H Q=>∃a xs,x= .ref a/\aV K H a xs/\∀p,H p=none->Q (.ref p) (upd H p (.lst (mh xs lo hi)))
theorem l7:Hi X (j5 X.K):=by
 intro pins s σ H x v vl vu lo hi sl Q I rx hs pl pu h
 obtain⟨a,xs,rfl,hx,q⟩:=h
 cases rx
 obtain⟨its,r,ht,hz⟩:=I.list hx
 have hlen:=r.length
 refine⟨"list",_,slot_list_getitem.lookup,ht.isList.typeIs,?_⟩
 refine wpAny_getItem_list_slice ht.isList hs pl pu .none (by simp) ?_ (by rw[eg]<;>omega)
 rw[Pg,<-hlen]
 refine⟨.ref s.heap.objs.size,_,I.laid (t':=s.toks) (o:= .lst (mh xs lo hi)) (fun b ob q=>bS _ q) (aJ _) ?_,rfl,q _ (I.hok.fresh (aJ _))⟩
 exact⟨eE (Uk xs lo hi) hz,_,0,(r.drop (HT.fu xs.length 0 lo)).take (HT.fu xs.length xs.length hi-HT.fu xs.length 0 lo),fk _ rfl⟩
def E4:V->Bool
 | .aT=>true
 | .bl _=>true
 | .int _=>true
 | .str _=>true
 |_=>false
def Mr:V->V->Bool
 | .aT, .aT=>true
 | .bl a, .bl b=>a==b
 | .bl a, .int b=>(if a then 1 else 0)==b
 | .int a, .bl b=>a==(if b then 1 else 0)
 | .int a, .int b=>a==b
 | .str a, .str b=>a==b
 |_,_=>false
def qp(x:V)(xs:List V):Bool:=xs.any fun y=>Mr y x
def Se(K:PySem.W.Frag)(neg:Bool):R2:=fun x y H Q=>∃p xs,y= .ref p/\(aV K H p xs\/gx K H p xs)/\E4 x=true/\xs.all E4=true/\Q (.bl (if neg then !qp x xs else qp x xs)) H
theorem EX:fF X (.builtin "len") (fun xs H Q=>∃p ys,xs=[.ref p]/\(aV X.K H p ys\/gx X.K H p ys)/\Q (.int ys.length) H):=by
 intro pins s σ H xs us Q I r h
 obtain⟨p,ys,rfl,hq,q⟩:=h
 obtain⟨u,rfl,rx⟩:=vals1 r
 cases rx
 have hn:=qF
 rcases hq with hq|hq
 ·obtain⟨its,r',pl,hz⟩:=I.list hq
  have hlen:=r'.length
  exact Calls.call_len_list pl.isList (by simp only[eg]<;>omega) ⟨.int ys.length,H,I.tok _,⟨s.toks+1,by rw[eg,hlen]⟩,q⟩
 ·obtain⟨its,r',pl,hz⟩:=I.tuple hq
  have hlen:=r'.length
  exact len_tuple pl (by simp only[eg]<;>omega) ⟨.int ys.length,H,I.tok _,⟨s.toks+1,by rw[eg,hlen]⟩,q⟩
theorem QA:fF X (.type "list") (fun xs H Q=>∃p ys,xs=[.ref p]/\(aV X.K H p ys\/gx X.K H p ys)/\∀l,H l=none->Q (.ref l) (upd H l (.lst ys))):=by
 intro pins s σ H xs us Q I r h
 obtain⟨p,ys,rfl,hq,q⟩:=h
 obtain⟨u,rfl,rx⟩:=vals1 r
 cases rx
 have fin:∀(its:List Value),Vals ys its->ys.length<=sizeLine->∀(h':Heap) (c':Nat),(∀b o',s.heap.get? b=some o'->h'.get? b=some o')->
   h'.get? s.heap.objs.size=some {cls:= .type "list",dict:=none,data:= .seq its.toArray c',slots:= #[]}->EP X pins σ Q (.ref s.heap.objs.size) {s with heap:=h'}:=fun its r' hz h' c' kp e=>
  ⟨.ref s.heap.objs.size,_,I.laid (t':=s.toks) kp (aJ _) (show bR X.prog X.w _ h' _ (.lst ys) from⟨hz,its,c',r',e⟩),rfl,q _ (I.hok.fresh (aJ _))⟩
 rcases hq with hq|hq
 ·obtain⟨its,r',pl,hz⟩:=I.list hq
  have hlen:=r'.length
  obtain⟨o,ho,hc,n,hd⟩:=pl.isList
  exact call_list_seq p (.inl rfl) ho hc hd (fun h' c' kp e=>fin its r' hz h' c' kp e) (by simp only[eg]<;>omega)
 ·obtain⟨its,r',pl,hz⟩:=I.tuple hq
  have hlen:=r'.length
  obtain⟨o,ho,hc,n,hd⟩:=pl
  exact call_list_seq p (.inr rfl) ho hc hd (fun h' c' kp e=>fin its r' hz h' c' kp e) (by simp only[eg]<;>omega)
def oU(K:PySem.W.Frag)(T:String)(x:V)(H:Hp):Prop:=match x with
 | .str _=>T="str"
 | .int _=>T="int"
 | .ref p => (T = "list" /\ ∃ xs, aV K H p xs) \/ (T = "tuple" /\ ∃ o, K.lookup p = some o /\ o.cls = .type "tuple" /\ o.dict = none) \/
   (T="dict" /\((∃kvs,H p=some (.dK kvs))\/(∃kvs,H p=some (.dT kvs))\/∃o kvs,H p=some (.cA o (.dK kvs))))\/(T="set" /\∃S n,H p=some (.set S n))
 |_=>False
theorem KH{pins:List (Addr×Obj)}{σ:St}{H:Hp}{s:Shared}{T:String}{x:V}{v:Value}(I:Inv X pins σ H s)(r:RelV x v)(ty:oU X.K T x H):
    s.TypeIs v T/\∀a,v= .ref a->∃ob,s.heap.get? a=some ob/\ob.dict=none:=by
  cases x with
  | str z =>
    obtain⟨t,rfl⟩:=r
    cases (show T="str" from ty)
    exact⟨typeIs_str s z t,fun _ e=>nomatch e⟩
  | int i =>
    obtain⟨t,rfl⟩:=r
    cases (show T="int" from ty)
    exact⟨typeIs_int s i t,fun _ e=>nomatch e⟩
  | ref p =>
    cases r
    rcases ty with ⟨rfl,xs,hq⟩|⟨rfl,o,hk,hc,hd⟩|⟨rfl,hk⟩|⟨rfl,S,n,hk⟩
    · obtain⟨its,_,pl,_⟩:=I.list hq
      refine⟨pl.isList.typeIs,fun a e=>?_⟩
      cases e
      obtain⟨o,n,e,c,hd,_⟩:=pl
      exact⟨o,e,hd⟩
    · refine⟨⟨o,I.fh p o hk,hc⟩,fun a e=>?_⟩
      cases e
      exact⟨o,I.fh _ o hk,hd⟩
    · have z:∃o,s.heap.get? p=some o/\o.ExactDict:=by
        rcases hk with ⟨kvs,hk⟩|⟨kvs,hk⟩|⟨ob,kvs,hk⟩
        · obtain⟨_,_,_,_,o,_,_,e,ex,_⟩:=I.hok p _ hk
          exact⟨o,e,ex⟩
        · obtain⟨_,_,_,_,o,_,_,e,ex,_⟩:=I.hok p _ hk
          exact⟨o,e,ex⟩
        · obtain⟨_,_,_,_,_,o,_,_,e,ex,_⟩:=I.hok p _ hk
          exact⟨o,e,ex⟩
      obtain⟨o,e,ex⟩:=z
      refine⟨⟨o,e,ex.1⟩,fun a e2=>?_⟩
      cases e2
      exact⟨o,e,ex.2.1⟩
    · obtain⟨o,_,_,_,e,ex,_⟩:=I.hok p _ hk
      refine⟨⟨o,e,ex.1⟩,fun a e2=>?_⟩
      cases e2
      exact⟨o,e,ex.2.1⟩
  |_=>exact False.elim ty
def AM(K:PySem.W.Frag)(T:String)(r:V->List V->Hp->VK->Prop)(to:TE):TE:=fun σ H Q=>to σ H fun x H1=>oU K T x H1/\r x [] H1 Q
def lA(K:PySem.W.Frag)(T:String)(r:V->List V->Hp->VK->Prop)(to:TE)(t:TA):TE:=fun σ H Q=>to σ H fun x H1=>oU K T x H1/\t σ H1 fun xs H2=>r x xs H2 Q
variable{o e:Expr}{es:List Expr}{to:TE}{t:TA}{name:Str}{apos cpos:Pos}{T id:String}{r:V->List V->Hp->VK->Prop}
theorem EB(pa:PlainAttrs T)(slot:Slot T name id)(hty:typeOf (.builtin id)=pure (.type "method_descriptor"))(hm:qm X id r)(ho:PE X o to)
  (hbase:attributeBase o name X.env (eval o X.env)=eval o X.env:=by rfl) (hline:(apos.endLine==cpos.line)=true:=by rfl):PE X (.Call (.Attribute o name apos) [] [] cpos) (AM X.K T r to):=by
 intro pins s σ H Q I h
 refine wpAny_Call_method0_late hbase hline (aW (ho pins s σ H _ I h) fun v s1 ⟨x,H1,I1,r1,ty,q1⟩=>?_)
 obtain⟨h1,h2⟩:=KH I1 r1 ty
 exact⟨T,id,pa,slot,hty,h1,h2,Calls.callWith_builtin rfl (PySem.evalArgs_none (hm pins s1 σ H1 x [] v [] Q I1 r1 .nil q1))⟩
theorem iU(pa:PlainAttrs T)(slot:Slot T name id)(hty:typeOf (.builtin id)=pure (.type "method_descriptor"))(hm:qm X id r)(ho:PE X o to)(ha:PA X (e::es) t)
  (hbase:attributeBase o name X.env (eval o X.env)=eval o X.env:=by rfl)
  (hfew : ((backTo cpos (starEach (e :: es) X.env)).all (fun x => !x.1) && (backToKw cpos (keywordEach [] X.env)).all (fun x => x.1.isSome)
   && decide ((e::es).length+([]:List Keyword).length+(if([]:List Keyword).isEmpty then 0 else 1)<30))=true:=by rfl)
  (hline:(apos.endLine==cpos.line)=true:=by rfl) (hs:starEach (e::es) X.env=(false,eval e X.env)::starEach es X.env:=by rfl) (hplain:(backTo cpos (starEach es X.env)).any (·.1)=false:=by rfl):
  PE X (.Call (.Attribute o name apos) (e::es) [] cpos) (lA X.K T r to t):=by
 intro pins s σ H Q I h
 refine wpAny_Call_method_late hbase hfew hline rfl (aW (ho pins s σ H _ I h) fun v s1 ⟨x,H1,I1,r1,ty,q1⟩=>?_)
 obtain⟨h1,h2⟩:=KH I1 r1 ty
 refine⟨T,id,pa,slot,hty,h1,h2,?_⟩
 have hA:=ha cpos pins s1 σ H1 _ I1 q1
 rw[hs] at hA⊢
 refine Calls.callWith_builtin (by show(false||(backTo cpos (starEach es X.env)).any (·.1))=false;rw[hplain]<;>rfl) (Calls.evalArgs_plain ?_)
 exact aW hA fun us s2 ⟨vs,H2,I2,r2,q2⟩=>hm pins s2 σ H2 x vs v us Q I2 r1 r2 q2
/-xs.append(e),list.index on a module's tuple .. are qm facts of 06m-/
end
def Cb(X:Cx)(id:String)(r:V->List V->Hp->VK->Prop):Prop:=
 ∀(pins:List (Addr×Obj)) (s:Shared) (σ:St) (H:Hp) (x:V) (xs:List V) (v:Value) (us:List Value) (Q:VK),Inv X pins σ H s->RelV x v->Vals xs us->r x xs H Q->
  wpAny (model X.prog X.w) X.A (call (.builtin id) (v::us)) (EP X pins σ Q) X.xe s
theorem Vals.one{x:V}{us:List Value}(h:Vals [x] us):∃u,us=[u]/\RelV x u:=by
 cases h with
 |cons r t=>cases t;exact⟨_,rfl,r⟩
theorem Vals.two{x y:V}{us:List Value}(h:Vals [x,y] us):∃u v,us=[u,v]/\RelV x u/\RelV y v:=by
  cases h with
  | cons r t =>
    obtain⟨v,e,q⟩:=Vals.one t
    exact⟨_,v,by rw[e],r,q⟩
theorem Vals.zero:∀{us:List Value},Vals [] us->us=[]
 |_, .nil=>rfl
theorem Vals.dropLast{xs:List V}{us:List Value}(h:Vals xs us):Vals xs.dropLast us.dropLast:=by
  induction h with
  |nil=>exact .nil
  | cons r t ih =>
    cases t with
    |nil=>exact .nil
    |cons q t'=>exact .cons r ih
theorem Vals.eraseIdx:∀{xs:List V} {us:List Value} (i:Nat),Vals xs us->Vals (xs.eraseIdx i) (us.eraseIdx i)
 |_,_,_, .nil=> .nil
 |_,_,0, .cons _ t=>t
 |_,_,i+1, .cons r t=> .cons r (Vals.eraseIdx i t)
theorem GY{α:Type}:∀(l:List α) (i:Nat),(l.eraseIdx i).length<=l.length
 |[],_=>aJ _
 |_::_,0=>mS _
 |_::r,i+1=>Nat.succ_le_succ (GY r i)
section
variable{X:Cx}{pins:List (Addr×Obj)}{σ:St}{H:Hp}{s:Shared}{l b:Addr}{xs ys zs:List V}
theorem Inv.Cf{its its':List Value}{n:Nat}{f:Array Value->Array Value}{t':Nat}(I:Inv X pins σ H s)(hH:H l=some (.lst xs))
  (e:s.heap.get? l=some {cls:= .type "list",data:= .seq its.toArray n}) (hf:f its.toArray=its'.toArray) (hv:Vals ys its') (hz:ys.length<=sizeLine):
  Inv X pins σ (upd H l (.lst ys)) {s with heap:=s.heap.update l (Obj.mapSeq f),toks:=t'}:=by
 have q:=PySem.IsL.update e f
 rw[hf] at q
 refine I.write (x:=l) (e:=l) (by rw[hH];exact trivial) (.inl rfl) (fun b' u hb hu=>(kY s.heap (Obj.mapSeq f) (bx hb)).trans hu) ⟨_,q⟩ ?_
 exact⟨hz,its',_,hv,q⟩
theorem Inv.IJ{its:List Value}{t':Nat}(I:Inv X pins σ H s)(hv:Vals ys its)(hz:ys.length<=sizeLine):
  Inv X pins σ (upd H s.heap.objs.size (.lst ys)) {s with heap:=s.heap.push {cls:= .type "list",data:= .seq its.toArray},toks:=t'}:=
 I.laid (fun _ _ q=>bS _ q) (aJ _) ⟨hz,its,0,hv,fk _ rfl⟩
theorem Inv.fresh(I:Inv X pins σ H s):H s.heap.objs.size=none:=I.hok.fresh (aJ _)
theorem Inv.qH(I:Inv X pins σ H s)(hH:H l=some (.lst xs)):xs.length<=sizeLine/\∃(its:List Value) (n:Nat),Vals xs its/\xs.length=its.length/\s.heap.get? l=some {cls:= .type "list",data:= .seq its.toArray n}:=by
 obtain⟨z,its,n,r,e⟩:=I.hok l _ hH
 exact⟨z,its,n,r,r.length,e⟩
theorem Ra{n:Nat}(h:n<=sizeLine):Builtin.List.listTooLong n=false:=by
 unfold Builtin.List.listTooLong
 exact decide_eq_false (by omega)
end
section
variable{X:Cx}
def xy:V->List V->Hp->VK->Prop:=fun x vs H Q=>∃l xs y,x= .ref l/\vs=[y]/\H l=some (.lst xs)/\xs.length<sizeLine/\Q .aT (upd H l (.lst (xs++[y])))
theorem kG:Cb X "list.append" xy:=by
 intro pins s σ H x vs v us Q I rx rv h
 obtain⟨l,xs,y,rfl,rfl,hH,hz,q⟩:=h
 cases rx
 obtain⟨u,rfl,ru⟩:=rv.one
 obtain⟨z,its,n,r,hl,e⟩:=I.qH hH
 refine call_meets F.slot_list_append ⟨_,e,rfl⟩ F.entry_list_append (F.args_list_append_2 _ _) (PySem.list_append l its.toArray n u (by rw[eg];omega)) ⟨e,?_⟩
 refine⟨.aT,_,I.Cf (its':=its++[u]) hH e (by simp) (r.append (.cons ru .nil)) ?_,rfl,q⟩
 rw[bz,fW]
 omega
def ON:V->List V->Hp->VK->Prop:=fun x vs H Q=>∃l b xs zs,x= .ref l/\vs=[.ref b]/\H l=some (.lst xs)/\H b=some (.lst zs)/\xs.length+zs.length<=sizeLine/\Q .aT (upd H l (.lst (xs++zs)))
theorem Zt:Cb X "list.extend" ON:=by
 intro pins s σ H x vs v us Q I rx rv h
 obtain⟨l,b,xs,zs,rfl,rfl,hH,hB,hz,q⟩:=h
 cases rx
 obtain⟨u,rfl,ru⟩:=rv.one
 cases ru
 obtain⟨z,its,n,r,hl,e⟩:=I.qH hH
 obtain⟨z2,its2,n2,r2,hl2,e2⟩:=I.qH hB
 have hsz:its.toArray.size+its2.toArray.size<=sizeLine:=by rw[eg,eg];omega
 have Qp:¬(!its.toArray.isEmpty && Builtin.List.listTooLong (its.toArray.size+its2.toArray.size))=true:=by
  rw[Ra hsz,Bool.and_false]
  exact dZ
 refine call_meets F.slot_list_extend ⟨_,e,rfl⟩ F.entry_list_extend (F.args_list_extend_2 _ _)
  (AutoSeq1.list_extend_list_list_0 l its.toArray n b its2.toArray n2 Qp (by rw[eg];omega) (by omega)) ⟨e,e2,?_⟩
 refine⟨.aT,_,I.Cf (its':=its++its2) hH e (by simp) (r.append r2) ?_,rfl,q⟩
 rw[bz]
 omega
def DW:V->List V->Hp->VK->Prop:=fun x vs H Q=>∃l xs i k y,x= .ref l/\vs=[.int i]/\H l=some (.lst xs)/\ -(2^63)<=i/\i<2^63/\seqIndex? i xs.length=some k/\xs[k]?=some y/\Q y (upd H l (.lst (xs.eraseIdx k)))
theorem Hs:Cb X "list.pop" DW:=by
 intro pins s σ H x vs v us Q I rx rv h
 obtain⟨l,xs,i,k,y,rfl,rfl,hH,h1,h2,hk,hy,q⟩:=h
 cases rx
 obtain⟨u,rfl,ru⟩:=rv.one
 obtain⟨t,rfl⟩:=ru
 obtain⟨z,its,n,r,hl,e⟩:=I.qH hH
 obtain⟨w,hw,rw'⟩:=r.get hy
 refine call_meets F.slot_list_pop ⟨_,e,rfl⟩ F.entry_list_pop (F.args_list_pop_2 _ _)
  (MeetsSeq.list_pop_at l its.toArray n i t k w (fitsIndex_both h1 h2) (by rw[eg,<-hl];exact hk) (by rw[<-mP];exact hw) (by rw[eg];omega)) ⟨e,?_⟩
 refine⟨y,_,I.Cf (its':=its.eraseIdx k) hH e ?_ (r.eraseIdx k) ?_,rw',q⟩
 ·show its.toArray.eraseIdxIfInBounds k=(its.eraseIdx k).toArray
  rw[List.eraseIdxIfInBounds_toArray]
 ·have:=GY xs k
  omega
def xT:R2:=fun x y H Q=>∃l b xs zs,x= .ref l/\y= .ref b/\H l=some (.lst xs)/\H b=some (.lst zs)/\xs.length+zs.length<=sizeLine/\∀p,H p=none->Q (.ref p) (upd H p (.lst (xs++zs)))
theorem n5:eW X (binaryOp .Add) xT:=by
 intro pins s σ H x y v u Q I rx ry h
 obtain⟨l,b,xs,zs,rfl,rfl,hH,hB,hz,q⟩:=h
 cases rx
 cases ry
 obtain⟨z,its,n,r,hl,e⟩:=I.qH hH
 obtain⟨z2,its2,n2,r2,hl2,e2⟩:=I.qH hB
 refine PySem.P.add_list e e2 ?_ (by rw[eg,eg];omega)
 have ea:its.toArray++its2.toArray=(its++its2).toArray:=by simp
 rw[ea]
 exact⟨.ref _,_,I.IJ (t':=s.toks) (r.append r2) (by rw[bz];omega),rfl,q _ I.fresh⟩
end
end L2
namespace Att
open PySem PySem.W PySem.Calls PyProof.Rows
theorem WO{P:Params}{h:Heap}:∀(ns:List Int) (vs:List Value),WellAll P h vs (ns.map WData.int)->IntsAre vs ns:=by
  intro ns
  induction ns with
  | nil =>
    intro vs w
    rw[iT] at w
    cases w
    exact .nil
  | cons n ns ih =>
    intro vs w
    rw[aY] at w
    cases w with
    | cons a b =>
      cases a
      exact .cons _ _ (ih _ b)
theorem Q7{l:OpenLaw}{n:Nat}(hn:l.most=some n){P:Params}{h:Heap}{args:List WData}{vals:List Value}
    (hpre:l.row.toRowW.claim.pre args=true) (hwl:WellAll P h vals args):
    ∃a vs ns,vals=[Value.ref a]/\args=[WData.list (ns.map WData.int)]/\h.get? a=some {cls:= .type "list",data:= .seq vs.toArray}/\IntsAre vs ns/\ns.length<=n:=by
  have hsh:WShape.hasAll [] args [.list .int]=true:=(pre_splitW hpre).1
  have hc:l.pre.holds [] {args:=args}=true:=(pre_splitW hpre).2
  obtain⟨d,r,rfl,h1,h2⟩:=hasAllW_cons hsh
  obtain rfl:=hasAllW_nil h2
  obtain⟨xs,rfl,h3⟩:=hasW_list h1
  obtain⟨ns,rfl⟩:=items_int h3
  have hlen:ns.length<=n:=by
    unfold OpenLaw.pre at hc
    have h4:(WTm.not (.lt (.lit (.int (n:Int))) (.len (.arg 0)))).holds [] {args:=[.list (ns.map .int)]}=true:=by
      have h4:=(holds_andW hc).1
      rw[hn] at h4
      exact h4
    have h5:=condW_of h4 (w_not (w_lt w_lit (w_len_list (w_arg rfl))))
    rw[aj] at h5
    refine xN fun q=>?_
    have q':(n:Int)<((ns.length:Nat):Int):=by omega
    first
      |(rw[decide_eq_true q'] at h5;exact absurd h5 (by decide))
      |(simp at h5;omega)
  cases hwl with
  | cons w1 w2 =>
    cases w2
    cases w1 with
    |list ho hall=>exact⟨_,_,ns,rfl,rfl,ho,WO ns _ hall,hlen⟩
theorem XA(l:OpenLaw)(args:List WData):l.row.toRowW.claim.post args (.bool true) args=true:=
 postW_of (r:=l.row.toRowW) (X:=(true==true))
  (show WShape.has [] (.bool true) .bool=true by first|rfl|decide|simp[WShape.has,WShape.arms,WShape.armsAll])
  (show(WTm.eq .res (.lit (.bool true))).value [] {args:=args,res:=some (.bool true),after:=args}=some (.bool (true==true)) from w_eq_bool (w_res rfl) w_lit) rfl
theorem Ny{l:OpenLaw}{n:Nat}{q:Program}{loose:List Str}{XP:(Str->Option Value)->Heap->Prop}{YP:World->Heap->Prop}{d:DefRec}
  (hn:l.most=some n) (hdf:d.params.defaults=[])
  (call : ∀ (w : World) (s₀ s₁ : Shared) (mg mb : Str -> Option Value) (fa : Addr) (o : Obj) (pm cd doc : Value) (a : Addr) (vs : List Value) (ns : List Int),
   Ground q loose [] XP w s₀ mg mb s₁.heap->YP w s₁.heap->
   s₁.heap.get? fa=some o->o.data= .func (docDef d.name d.params d.body d.scope pm cd doc)->s₁.heap.CodeRec cd d.name->mg d.name=some (.ref fa)->
   s₁.heap.get? a=some {cls:= .type "list",data:= .seq vs.toArray}->IntsAre vs ns->ns.length<=n->s₁.gens= #[]->
   codeAny (model l.prog w) callerA (.call (.ref fa) ⟨[.ref a],[]⟩) (fun r s'=>r= .ok (.ret (.bool true))/\OldK s₁.heap s'.heap/\s'.os=s₁.os/\AllBare s'.gens) s₁):
  WalkO q loose XP YP l.row.toRowW d [] (fun f vs=>PySem.call f vs):=by
 intro w s₀ s₁ mg mb G Y fa o pm cd doc dV kV ho hd hcd hD hmg hg args vals as hpre hlay hrd hwl hlo
 obtain rfl:dV= .none:=Dflts.none hD hdf
 obtain rfl:kV= .none:=Dflts.noKw hD
 obtain⟨a,vs,ns,rfl,rfl,hobj,hints,hlen⟩:=Q7 hn hpre hwl
 refine enter_call (codeAny_mono (call w s₀ s₁ mg mb fa o pm cd doc a vs ns G Y ho (fd_plain hd) hcd hmg hobj hints hlen hg) fun r s' hq=>?_)
 obtain⟨rfl,h2,h3,h4⟩:=hq
 exact⟨.inl ⟨.bool true, .bool true,[],rfl,fun _=>rfl, .bool true,XA l _,fun _=>⟨List.Pairwise.nil,fun _ hm=>(nomatch hm)⟩⟩,h2,h3,h4⟩
section
variable{prog:Program}{w:World}{A:Around}{E:Value->Shared->Prop}{s:Shared}{K:Frag}
def ledger(h:Heap)(L d:Addr):List (Addr×Obj):=(List.range h.objs.size).filterMap fun a=>if a=L\/a=d then none else(h.get? a).map fun o=>(a,o)
end
end Att
namespace L2
open PySem PySem.Spec PyProof.Rows
theorem IE:∀{vs:List Value} {ns:List Int},IntsAre vs ns->Vals (ns.map V.int) vs
 |_,_, .nil=> .nil
 |_,_, .cons n t h=> .cons ⟨t,rfl⟩ (IE h)
def zS(H:Hp):Prop:=∀b,H b=none\/∃o xs,H b=some (.cA o (.lst xs))
theorem M0{P:Program}{w:World}{K:PySem.W.Frag}{mg mb:Str->Option Value}{CX:lq}{k:Nat}{fa a:Addr}{fd:FuncData}{x:Str}{sp:Sp}{s₁:Shared}{vs:List Value}{ns:List Int}
    (KX:K.In s₁.heap) (hns:s₁.heap.Ns mainGlobals mg) (hb:s₁.heap.Ns builtinsNs mb) (Qt:∀x:Str,x≠"__name__" ->mb x=bootBuiltins x) (hlim:s₁.heap.NoLimit) (hg:s₁.gens= #[])
    (ha:s₁.heap.get? a=some {cls:= .type "list",data:= .seq vs.toArray}) (hi:IntsAre vs ns) (hl:ns.length<=sizeLine) (hr:gP k callerA)
    (F:∀base:Heap,K.In base->base.Ns mainGlobals mg->bE P w K mg base CX k fa fd [x] sp) (hbind:∀(s:Shared) (u:Value),BindsTo s fd ⟨[u],[]⟩ [(x,u)])
    (gk:∀H:Hp,zS H->aV K H a (ns.map V.int)->sp [.ref a] H (fun v _=>v= .bl true) fun _ _ _=>False)
    (CY:∀H e s',CX [] H s₁ (fun _ _ _=>False) e s'->False):
    codeAny (model P w) callerA (.call (.ref fa) ⟨[.ref a],[]⟩) (fun r s'=>r= .ok (.ret (.bool true))/\OldK s₁.heap s'.heap/\s'.os=s₁.os/\AllBare s'.gens) s₁:=by
  have rv:=IE hi
  have Mb:=hi.length
  have core:∀H:Hp,zS H->aV K H a (ns.map V.int)->dD P w H s₁.heap->(∀b,H b≠none->b=a)->(H a≠none->K.lookup a=none)->
      codeAny (model P w) callerA (.call (.ref fa) ⟨[.ref a],[]⟩) (fun r s'=>r= .ok (.ret (.bool true))/\OldK s₁.heap s'.heap/\s'.os=s₁.os/\AllBare s'.gens) s₁:=by
    intro H hO hS hok hA hK
    have G2:∀{b:Addr} {o:Obj},s₁.heap.get? b=some o->H b=none->(lQ s₁.heap H).get? b=some o:=fun e n=>Rv e n
    have qV:∀{b:Addr} {o:Obj} {es:Array DictEntry} {ep:Nat},s₁.heap.get? b=some o->o.data= .dict es ep->H b=none:=fun{b o es ep} e d=>by
      cases q:H b with
      |none=>rfl
      | some u =>
        have e':b=a:=hA b (by rw[q];simp)
        subst e'
        rw[ha] at e;cases e
        have d':Data.seq vs.toArray _=Data.dict es ep:=d
        cases d'
    have vX:∀{b:Addr} {m:Str->Option Value},s₁.heap.Ns b m->(lQ s₁.heap H).Ns b m:=fun{b m} ⟨o,es,ep,e,d,r⟩=>⟨o,es,ep,G2 e (qV e d),d,r⟩
    have Lm:K.In (lQ s₁.heap H):=fun b o e=>G2 (KX b o e) (by
      cases q:H b with
      |none=>rfl
      | some u =>
        have e':b=a:=hA b (by rw[q];simp)
        subst e'
        rw[hK (by rw[q];simp)] at e;cases e)
    have hM:Mod K mg (lQ s₁.heap H):=⟨Lm,vX hns,⟨mb,vX hb,Qt⟩,let ⟨mc,h1,h2⟩:=hlim;⟨mc,vX h1,h2⟩⟩
    have e0:vn P w K mg (lQ s₁.heap H) callerA [] s₁ H:=⟨rfl,hM,fun b o e=>RV e,vK (Vz _ _),trivial,fun b hb=>absurd (show b∈([]:List Addr) from hb) (by simp),hok, .of_eq hg⟩
    refine codeAny_mono ((F _ Lm (vX hns)).run callerA [] s₁ H ⟨[.ref a],[]⟩ [.ref a] [.ref a] _ _ hr e0 (hbind s₁ (.ref a)) (.cons rfl .nil) (gk H hO hS)) fun r s' h=>?_
    cases r with
    |error e=>exact(CY H e s' h).elim
    | ok fl =>
      cases fl with
      |next=>exact False.elim h
      |brk=>exact False.elim h
      |cont=>exact False.elim h
      | ret u =>
        obtain⟨v,H',os,bare,un,Xu,r',q⟩:=h
        have q':v= .bl true:=q
        subst q'
        obtain rfl:u=Value.bool true:=r'
        refine⟨rfl,OldK.of_keep fun b o e=>?_,os,bare⟩
        cases q:H b with
        |none=>exact un.keep b o e q (by intro z;exact absurd (show b∈([]:List Addr) from z) (by simp)) (by simp)
        | some u =>
          rcases hO b with z|⟨ob,xs,z⟩
          · rw[q] at z;cases z
          · have z2:=un.j6 b ob _ z
            obtain⟨e1,_⟩:=hok b _ z
            obtain⟨e2,_⟩:=Xu b _ z2
            rw[e] at e1;cases e1
            exact e2
  cases hk:K.lookup a with
  | some o =>
    have e:=KX a o hk
    rw[ha] at e
    cases e
    refine core (fun _=>none) (fun _=> .inl rfl) (.inr ⟨_,vs.toArray,_,hk,rfl,rfl,rfl,by rw[eg,Mb];exact hl,by simpa using rv⟩) (fun b u z=>by have z':(none:Option HO)=some u:=z;cases z') (fun b z=>absurd rfl z) fun z=>absurd rfl z
  | none =>
    refine core (fun b=>if b=a then some (.cA {cls:= .type "list",data:= .seq vs.toArray} (.lst (ns.map V.int))) else none) (fun b=>?_) (.inl (.inr ⟨{cls:= .type "list",data:= .seq vs.toArray},if_pos rfl⟩)) (fun b u z=>?_) (fun b z=>?_) fun _=>hk
    · by_cases hb:b=a
      · exact .inr ⟨_,_,if_pos hb⟩
      · exact .inl (if_neg hb)
    · by_cases hb:b=a
      · have z':=(if_pos hb).symm.trans z
        cases z'
        subst hb
        exact⟨ha,by rw[aj];exact hl,vs,_,rv,ha⟩
      · have z':=(if_neg hb).symm.trans z
        cases z'
    · by_cases hb:b=a
      · exact hb
      · exact absurd (if_neg hb) z
theorem WK{l:PySem.W.OpenLaw}{n k:Nat}{q:Program}{loose:List Str}{XP:(Str->Option Value)->Heap->Prop}{YP:World->Heap->Prop}{d:DefRec}{K:Params->PySem.W.Frag}{CX:World->lq}{sp:World->Sp}{x:Str}
  (hn:l.most=some n) (hn2:n<=sizeLine) (hdf:d.params.defaults=[]) (hr:gP k callerA)
  (hY:∀(w:World) (h:Heap),YP w h->(K w.params).In h)
  (F : ∀ (w : World) (mg : Str -> Option Value) (fa : Addr) (h : Heap), (K w.params).In h -> h.Ns mainGlobals mg -> mg d.name = some (.ref fa) ->
   ∃fd:FuncData,(∀(s:Shared) (u:Value),BindsTo s fd ⟨[u],[]⟩ [(x,u)])/\
    ∀base:Heap,(K w.params).In base->base.Ns mainGlobals mg->bE l.prog w (K w.params) mg base (CX w) k fa fd [x] (sp w))
  (gk:∀(w:World) (H:Hp) (a:Addr) (ns:List Int),ns.length<=n->zS H->aV (K w.params) H a (ns.map V.int)->sp w [.ref a] H (fun v _=>v= .bl true) fun _ _ _=>False)
  (CY:∀(w:World) (H:Hp) (s:Shared) (e:Value) (s':Shared),CX w [] H s (fun _ _ _=>False) e s'->False):
  PySem.W.WalkO q loose XP YP l.row.toRowW d [] (fun f vs=>PySem.call f vs):=by
 refine Att.Ny hn hdf fun w s₀ s₁ mg mb fa o pm cd doc a vs ns G Y ho hd hcd hmg hobj hints hlen hg=>?_
 have KX:=hY w _ Y
 obtain⟨fd,hb,hF⟩:=F w mg fa _ KX G.T.g hmg
 exact M0 KX G.T.g G.T.b G.T.builtins G.T.nolimit hg hobj hints (eE hlen hn2) hr hF hb (fun H hO hS=>gk w H a ns hlen hO hS) fun H e s'=>CY w H s₁ e s'
end L2
/-THE LAST THEOREM (shape;LID,My.*are yours):
   My.Adr:a structure of the addresses that your layer names (classes,functions);My.Txt K t:a structure (Prop) of the equations over K;
   My.txt_mk:{K} {implicit addresses ..} (e1:nsIn K mainGlobals "law"=some (some (.ref f))) (e2:K.lookup f=some ⟨oc,od, .func (fnOf "law" "law" params body scope dV kV doc pm an cdv ct),sl⟩) (e3:codeIn K cdv "law"=true) .. :∃t,My.Txt K t
set_option maxRecDepth 100000 in
set_option maxHeartbeats 0 in
(the tactic k_is has no namespace:write k_is)-/
namespace L2
open PySem PySem.Spec PyProof.Rows
def nY(s:Stmt):Arguments:=match s with
 | .FunctionDef _ a _ _ _ _ _ _ _ _=>a
 |_=>{posonlyargs:=[],args:=[],vararg:=none,kwonlyargs:=[],kw_defaults:=[],kwarg:=none,defaults:=[]}
def mW(s:Stmt):List Stmt:=match s with
 | .FunctionDef _ _ b _ _ _ _ _ _ _=>b
 |_=>[]
def aR(s:Stmt):Scope:=match s with
 | .FunctionDef _ _ _ _ _ _ sc _ _ _=>sc
 |_=>{kind:= .function,names:=[],isGenerator:=false,isCoroutine:=false}
abbrev bO:lq:=fun _ _ _ _ _ _=>False
abbrev E0:XK:=fun _ _ _=>False
theorem V9{X:Cx}:Passes bO X E0:=fun _ _ _ _ _ _ _ h=>h.elim
structure bQ(K:PySem.W.Frag)(x qual:Str)(st:Stmt)(f:Addr)(fd:FuncData):Prop where
 ex:∃(oc:Value) (od:Option Addr) (kV doc pm:Value) (an:Option Addr) (cdv ct:Value) (osl:Array (Option Value)),
  fd=PySem.W.fnOf x qual (nY st) (mW st) (aR st) .none kV doc pm an cdv ct/\K.lookup f=some ⟨oc,od, .func fd,osl⟩/\PySem.W.codeIn K cdv qual=true
 kp:PySem.W.keepIn K (.ref f)=true
section
variable{P:Program}{w:World}{K:PySem.W.Frag}{mg:Str->Option Value}{base:Heap}
theorem bQ.ok{x qual:Str}{st:Stmt}{f:Addr}{fd:FuncData}{N ps:List Str}{k:Nat}{sp:Sp}(F:bQ K x qual st f fd)(S:cz N ps (aR st))(len:∀vs H Q E,sp vs H Q E->vs.length=ps.length)
  (hbody : ∀ (cdv : Value) (A : Around) (outer : List Env) (s : Shared) (H : Hp) (vs : List V) (Q : VK) (E : XK), gP k (A.deeper (envOfC qual (aR st) s.heap.objs.size f cdv)) -> sp vs H Q E ->
   ∃t,jo (pU bO P w K mg base N qual (aR st) f cdv A outer s H E).uL (mW st) t/\t {nx:=fun _ H'=>Q .aT H',rt:=Q} (start N vs) H):bE P w K mg base bO (k+1) f fd ps sp:=by
 obtain⟨oc,od,kV,doc,pm,an,cdv,ct,osl,rfl,lk,hcd⟩:=F.ex
 refine Rp lk hcd S len fun A outer s H vs Q E hr gk=>?_
 obtain⟨t,h,q⟩:=hbody cdv A outer s H vs Q E hr gk
 exact⟨t,h.uL,q⟩
theorem bQ.binds{x qual:Str}{st:Stmt}{f:Addr}{fd:FuncData}{ps:List Str}(F:bQ K x qual st f fd)
  (h:∀(kV doc pm:Value) (an:Option Addr) (cdv ct:Value) (us:List Value),us.length=ps.length->bindArgs (PySem.W.fnOf x qual (nY st) (mW st) (aR st) .none kV doc pm an cdv ct) ⟨us,[]⟩=pure (ps.zip us)):Binds K fd ps []:=by
 obtain⟨oc,od,kV,doc,pm,an,cdv,ct,osl,rfl,lk,hcd⟩:=F.ex
 exact .all (h kV doc pm an cdv ct)
theorem E3{x qual:Str}{st:Stmt}{f:Addr}{oc:Value}{od an:Option Addr}{osl:Array (Option Value)}{kV doc pm cdv ct:Value}(l:K.lookup f=some ⟨oc,od, .func (PySem.W.fnOf x qual (nY st) (mW st) (aR st) .none kV doc pm an cdv ct),osl⟩)
  (c:PySem.W.codeIn K cdv qual=true) (k:PySem.W.keepIn K (.ref f)=true):bQ K x qual st f (PySem.W.fnOf x qual (nY st) (mW st) (aR st) .none kV doc pm an cdv ct):=⟨⟨oc,od,kV,doc,pm,an,cdv,ct,osl,rfl,l,c⟩,k⟩
end
theorem EW{n:Nat}(h:n<=1000):n<sizeLine:=v7 h (by decide)
section
variable{X:Cx}
theorem pv(i:Nat){x:Str}{pos:Pos}(hN:X.N[i]?=some x:=by rfl)(hv:zP X.env.scope x:=by first|exact Or.inl rfl|exact Or.inr (Or.inl rfl)|exact Or.inr (Or.inr rfl))(hd:(x==("__debug__":Str))=false:=by decide)
  (hcd:(x==("__classdict__":Str))=false:=by decide):PE X (.Name x pos) (cQ i):=P4 hN hv hd hcd
end
theorem Jx{A B:Prop}(h:B):if false=true then A else B:=by
 rw[if_neg dZ]
 exact h
theorem tV{A B:Prop}(h:A):if true=true then A else B:=by
 rw[if_pos rfl]
 exact h
theorem qi{c A B:Prop}[Decidable c](h1:c->A)(h2:¬c->B):if c then A else B:=by
 by_cases h:c
 ·rw[if_pos h]
  exact h1 h
 ·rw[if_neg h]
  exact h2 h
def dW(H H':Hp):Prop:=∀b o,H b=some o->H' b=some o
theorem dW.refl(H:Hp):dW H H:=fun _ _ h=>h
theorem dW.trans{H H1 H2:Hp}(a:dW H H1)(b:dW H1 H2):dW H H2:=fun c o h=>b c o (a c o h)
theorem dW.free{H H':Hp}(e:dW H H'){l:Addr}(h:H' l=Option.none):H l=Option.none:=by
  cases q:H l with
  |none=>rfl
  | some o =>
    rw[e l o q] at h
    cases h
theorem dW.seq{K:PySem.W.Frag}{H H':Hp}{a:Addr}{xs:List V}(e:dW H H')(h:aV K H a xs):aV K H' a xs:=by
 rcases h with (h|⟨o,h⟩)|h
 ·exact .inl (.inl (e _ _ h))
 ·exact .inl (.inr ⟨o,e _ _ h⟩)
 ·exact .inr h
end L2
set_option maxHeartbeats 1000000
namespace L2
open PySem PySem.Spec PyProof.Rows
def jl(cells:List (Str×Addr)):List (Str×NameKind)->List (Str×Addr)->List (Str×Addr)
 |[],acc=>acc
 |(n,k)::r,acc=>jl cells r (if k==NameKind.free then(match cells.lookup n with|some a=>(n,a)::acc|none=>acc) else acc)
theorem AV{env:Env}{f:Str×NameKind->List (Str×Addr)->Sem (ForInStep (List (Str×Addr)))}
    (hf:∀x acc,f x acc=if(x.2==NameKind.free)=true then(do let a<-cellOf env x.1;pure (ForInStep.yield ((x.1,a)::acc))) else pure (ForInStep.yield acc)):
    ∀(l:List (Str×NameKind)) (acc:List (Str×Addr)),(∀x∈l,x.2= .free->∃a,env.cells.lookup x.1=some a)->(forIn l acc f:Sem (List (Str×Addr)))=pure (jl env.cells l acc)
  |[],acc,_=>by rw[List.forIn_nil];rfl
  | (n, k) :: r, acc, h => by
    have hr:=fun x hx=>h x (cG _ hx)
    rw[List.forIn_cons,hf]
    by_cases hk:(k==NameKind.free)=true
    · have hk':k=NameKind.free:=by simpa using hk
      obtain⟨a,ha⟩:=h (n,k) bA hk'
      have hc:cellOf env n=pure a:=by unfold cellOf;rw[ha]
      rw[if_pos hk,hc]
      show(forIn r ((n,a)::acc) f:Sem (List (Str×Addr)))=pure (jl env.cells r _)
      rw[AV hf r _ hr,if_pos hk,ha]
    · rw[if_neg hk]
      show(forIn r acc f:Sem (List (Str×Addr)))=pure (jl env.cells r _)
      rw[AV hf r _ hr,if_neg hk]
theorem SE{scope:Scope}{env:Env}(h:∀x∈scope.names,x.2= .free->∃a,env.cells.lookup x.1=some a):closureFor scope env=pure (jl env.cells scope.names []):=by
 simp only[closureFor]
 rw[AV (env:=env) (fun⟨n,k⟩ acc=>by dsimp only) scope.names [] h]
 rfl
theorem Ce{cells:List (Str×Addr)}:∀{l:List (Str×NameKind)} {acc:List (Str×Addr)} {x:Str} {c:Addr},(∀y d,acc.lookup y=some d->cells.lookup y=some d)->(jl cells l acc).lookup x=some c->cells.lookup x=some c
  |[],_,_,_,ha,h=>ha _ _ h
  | (n, k) :: r, acc, x, c, ha, h => by
    refine Ce (l:=r) ?_ h
    intro y d hd
    by_cases hk:(k==NameKind.free)=true
    · rw[if_pos hk] at hd
      cases q:cells.lookup n with
      |none=>rw[q] at hd;exact ha _ _ hd
      | some a =>
        rw[q] at hd
        by_cases hy:(y==n)=true
        · have hy':y=n:=by simpa using hy
          subst hy'
          simp[gy] at hd
          rw[q,hd]
        · have hy':(y==n)=false:=by simpa using hy
          simp only[gy,hy'] at hd
          exact ha _ _ hd
    · rw[if_neg hk] at hd;exact ha _ _ hd
theorem Jw{cells:List (Str×Addr)}:∀{l:List (Str×NameKind)} {acc:List (Str×Addr)} {x:Str},(acc.lookup x).isSome=true->((jl cells l acc).lookup x).isSome=true
  |[],_,_,h=>h
  | (n, k) :: r, acc, x, h => by
    refine Jw (l:=r) ?_
    by_cases hk:(k==NameKind.free)=true
    · rw[if_pos hk]
      cases q:cells.lookup n with
      |none=>exact h
      | some a =>
        by_cases hy:(x==n)=true
        · simp[gy,hy]
        · have hy':(x==n)=false:=by simpa using hy
          simp only[gy,hy']
          exact h
    · rw[if_neg hk];exact h
theorem KN{cells:List (Str×Addr)}:∀{l:List (Str×NameKind)} {acc:List (Str×Addr)} {x:Str} {a:Addr},(x,NameKind.free)∈l->cells.lookup x=some a->((jl cells l acc).lookup x).isSome=true
  |[],_,_,_,h,_=>nomatch h
  | (n, k) :: r, acc, x, a, h, hc => by
    rcases aM.mp h with e|h
    · obtain⟨rfl,rfl⟩:=Prod.mk.inj e
      refine Jw (l:=r) ?_
      rw[if_pos (by decide),hc]
      simp[gy]
    · exact KN (l:=r) h hc
theorem K7{cells:List (Str×Addr)}{l:List (Str×NameKind)}{x:Str}{a:Addr}(h:(x,NameKind.free)∈l)(hc:cells.lookup x=some a):(jl cells l []).lookup x=some a:=by
 obtain⟨c,e⟩:=yj.mp (KN (acc:=[]) h hc)
 have:=Ce (fun y d (q:([]:List (Str×Addr)).lookup y=some d)=>by simp at q) e
 rw[hc] at this;cases this
 exact e
theorem zD{env:Env}:∀{l:List (Str×NameKind)} {x:Str} {k:NameKind},(∀y∈l,y.2≠ .cell)->
    (l.map fun(n,k)=>if(k==NameKind.free && env.scope.kind== .function && env.kindOf n==some .cell) then(n,NameKind.cell) else(n,k)).lookup x=some k->k= .cell\/k= .free->l.lookup x=some .free
  |[],_,_,_,h,_=>by simp at h
  | (n, q) :: r, x, k, hc, h, hk => by
    have hr:=fun y hy=>hc y (cG _ hy)
    have ih:=zD (env:=env) (l:=r) (x:=x) (k:=k) hr
    rw[aY] at h
    dsimp only at h
    by_cases hx:(x==n)=true
    · simp only[gy,hx]
      by_cases hq:(q==NameKind.free && env.scope.kind== .function && env.kindOf n==some .cell)=true
      · have:q= .free:=by
          simp only[cD] at hq
          simpa using hq.1.1
        rw[this]
      · rw[if_neg hq] at h
        simp only[gy,hx] at h
        have GD:q=k:=fL h
        rcases hk with e|e
        · exact absurd (GD.trans e) (hc (n,q) bA)
        · rw[GD,e]
    · have hx':(x==n)=false:=by simpa using hx
      simp only[gy,hx']
      refine ih ?_ hk
      by_cases hq:(q==NameKind.free && env.scope.kind== .function && env.kindOf n==some .cell)=true
      · rw[if_pos hq] at h
        simp only[gy,hx'] at h
        exact h
      · rw[if_neg hq] at h
        simp only[gy,hx'] at h
        exact h
theorem FH{env:Env}:∀{l:List (Str×NameKind)} {x:Str},l.lookup x=some .free->
    (l.map fun(n,k)=>if(k==NameKind.free && env.scope.kind== .function && env.kindOf n==some .cell) then(n,NameKind.cell) else(n,k)).lookup x=some .cell\/
    (l.map fun(n,k)=>if(k==NameKind.free && env.scope.kind== .function && env.kindOf n==some .cell) then(n,NameKind.cell) else(n,k)).lookup x=some .free
  |[],_,h=>by simp at h
  | (n, q) :: r, x, h => by
    have ih:=FH (env:=env) (l:=r) (x:=x)
    rw[aY]
    dsimp only
    by_cases hx:(x==n)=true
    · simp only[gy,hx] at h
      by_cases hq:(q==NameKind.free && env.scope.kind== .function && env.kindOf n==some .cell)=true
      · rw[if_pos hq]
        left
        simp only[gy,hx]
      · rw[if_neg hq]
        right
        simp only[gy,hx]
        exact h
    · have hx':(x==n)=false:=by simpa using hx
      simp only[gy,hx'] at h
      have:=ih h
      by_cases hq:(q==NameKind.free && env.scope.kind== .function && env.kindOf n==some .cell)=true
      · rw[if_pos hq]
        simp only[gy,hx']
        exact this
      · rw[if_neg hq]
        simp only[gy,hx']
        exact this
def eU(sx:Scope)(NX:List Str)(scope:Scope)(N:List Str)(mp:List (Option Nat)):Bool:=
 (scope.kind== .function) && scope.names.all (fun y=>y.2 != .cell) && scope.names.all (fun y=>y.2 != .local||scope.names.lookup y.1==some .local) &&
 scope.names.all (fun y=>y.2 != .free||sx.names.lookup y.1==some .cell||sx.names.lookup y.1==some .free) &&(mp.length==N.length) &&
 ((N.zip mp).all fun p=>match p.2 with|none=>true|some j=>NX[j]?==some p.1 && scope.names.lookup p.1==some .free)
structure cP(sx:Scope)(NX:List Str)(scope:Scope)(N:List Str)(mp:List (Option Nat)):Prop where
 kind:scope.kind= .function
 cell:∀y∈scope.names,y.2≠ .cell
 names:∀y∈scope.names,y.2= .local->scope.names.lookup y.1=some .local
 free:∀y∈scope.names,y.2= .free->sx.names.lookup y.1=some .cell\/sx.names.lookup y.1=some .free
 len:mp.length=N.length
 look:∀(i j:Nat) (x:Str),mp[i]?=some (some j)->N[i]?=some x->NX[j]?=some x/\scope.names.lookup x=some .free
theorem cP.of{sx:Scope}{NX:List Str}{scope:Scope}{N:List Str}{mp:List (Option Nat)}(h:eU sx NX scope N mp=true):cP sx NX scope N mp:=by
 unfold eU at h
 simp only[cD,vL] at h
 obtain⟨⟨⟨⟨⟨h1,h2⟩,h3⟩,h4⟩,h5⟩,h6⟩:=h
 refine⟨by simpa using h1,fun y hy=>by simpa using h2 y hy,fun y hy e=>?_,fun y hy e=>?_,by simpa using h5,fun i j x e1 e2=>?_⟩
 ·have:=h3 y hy
  simpa[e] using this
 ·have:=h4 y hy
  simpa[e] using this
 ·have hm:(x,some j)∈N.zip mp:=by
   have:(N.zip mp)[i]?=some (x,some j):=by
    rw[List.getElem?_zip_eq_some];exact⟨e2,e1⟩
   exact br this
  have:=h6 _ hm
  simpa using this
def iM(mp:List (Option Nat))(σ:St):St:=mp.map fun o=>match o with|none=>none|some j=>match σ[j]? with|some v=>v|none=>none
def fK(X:Cx)(scope:Scope)(C:Addr)(N:List Str)(s₀:Shared)(H₀:Hp)(fp:List Addr):Cx:=
 {X with N:=N,s₀:=s₀,H₀:=H₀,env:=compEnvC scope (jl X.env.cells scope.names []) C X.env,outer:=X.stack,ex:=fp,fn:=fun _=>false,pn:=[],xe:=fun _ _=>False}
def qk(X:Cx)(ifs:List Expr)(t:TT):Prop:=
 ∀(pins:List (Addr×Obj)) (s:Shared) (σ:St) (H:Hp) (Q:Bool->Hp->Prop),Inv X pins σ H s->t σ H Q->
  wpAny (model X.prog X.w) X.A (forIn ifs true fun c r=>if r=true then do let ok<-isTrue c X.env (eval c X.env);pure (ForInStep.yield ok) else pure (ForInStep.yield r)) (TP X pins σ Q) X.xe s
def pA:TT:=fun _ H Q=>Q true H
theorem iy{X:Cx}:qk X [] pA:=fun pins s σ H Q I h=>wpAny_tests_nil ⟨H,I,h⟩
theorem mL{X:Cx}{c:Expr}{t:TT}(h:PT X c t):qk X [c] t:=fun pins s σ H Q I q=>wpAny_tests_one (h pins s σ H Q I q)
def tw(J:It)(g:TG)(tc:TT)(te:TE)(acc:Addr)(Qe:Hp->Prop)(σ:St)(H:Hp):Prop:=∃W:Nat->Nat->St->Hp->Prop,(∃m,W 0 m σ H)/\∀i m σ H,W i m σ H->
 (J.stop i H /\ Qe H) \/ (J.go i H /\ ∃ Nx : St -> Hp -> Prop, (∀ σ' H', Nx σ' H' -> ∃ m', m' < m /\ W (i + 1) m' σ' H') /\ ∀ x H', J.mU i H x H' -> g x σ H' fun σ2 H2 => tc σ2 H2 fun b H3 =>
  if b=true then te σ2 H3 fun v H4=>∃ys,H4 acc=some (.lst ys)/\ys.length<sizeLine/\Nx σ2 (upd H4 acc (.lst (ys++[v]))) else Nx σ2 H3)
def lP(wi:TI)(g:TG)(tc:TT)(te:TE)(mp:List (Option Nat)):TE:=fun σ H Q=>wi σ H fun J H1=>∀acc,H1 acc=none->tw J g tc te acc (fun H'=>Q (.ref acc) H') (iM mp σ) (upd H1 acc (.lst []))
section
variable{prog:Program}{w:World}{A:Around}{R:Result->Shared->Prop}{s:Shared}
theorem MG{elt target iter:Expr}{ifs:List Expr}{scope:Scope}{pos:Pos}{it acc:Value}{env:Env}(I:Nat->Shared->Prop)
    (turn:∀n s,I n s->wpAny (model prog w) A (pyNext it) (fun r s₁=>match r with
      |none=>R (.ok .next) s₁
      |some v=>wpAny (model prog w) A (letOwnedTupleGo target it v) (fun _ s₀=>wpAny (model prog w) A (assign target env v) (fun _ s₂=>
          wpAny (model prog w) A (forIn ifs true fun c r=>if r=true then do let ok<-isTrue c env (eval c env);pure (ForInStep.yield ok) else pure (ForInStep.yield r)) (fun ok s₃=>
            if ok=true then wpAny (model prog w) A (eval elt env) (fun x s₄=>
              wpAny (model prog w) A (call (.builtin "list.append") [acc,x]) (fun _ s₅=>∃m,m<n/\I m s₅) (fun _ _=>False) s₄) (fun _ _=>False) s₃
            else∃m,m<n/\I m s₃) (fun _ _=>False) s₂) (fun _ _=>False) s₀) (fun _ _=>False) s₁) (fun _ _=>False) s)
    (n:Nat) (h:I n s):
    codeAny (model prog w) A (.compLoop (.ListComp elt [⟨target,iter,ifs,0⟩] scope pos) 0 it acc env) R s:=by
  refine codeAny_loop rfl I (fun n s hI=>?_) n h
  show wpAny _ A ((compTurn (.ListComp elt [⟨target,iter,ifs,0⟩] scope pos) 0 it acc env).onRaise (fun x=>do noteFrame x env;theTreesLotGoes x)) _ _ s
  refine wpAny_noted ?_
  rw[compTurn_list]
  refine wpAny_bind (wpAny_standAt (wpAny_bind (wpAny_mono (turn n s hI) (fun r s₁ h₁=>?_) fun _ _ h'=>h'.elim)))
  cases r with
  |none=>exact wpAny_pure h₁
  | some v =>
    refine wpAny_bind (wpAny_mono h₁ (fun _ s₀ h₀=>?_) fun _ _ h'=>h'.elim)
    refine wpAny_bind (wpAny_mono h₀ (fun _ s₂ h₂=>wpAny_bind (wpAny_mono h₂ (fun ok s₃ h₃=>?_) fun _ _ h'=>h'.elim)) fun _ _ h'=>h'.elim)
    cases ok with
    |false=>exact wpAny_pure ⟨rfl,h₃⟩
    | true =>
      exact wpAny_bind (wpAny_bind (wpAny_mono h₃ (fun x s₄ h₄=>wpAny_bind (wpAny_mono h₄ (fun _ s₅ h₅=>wpAny_pure (wpAny_pure ⟨rfl,h₅⟩)) fun _ _ h'=>h'.elim)) fun _ _ h'=>h'.elim))
end
section
variable{X:Cx}
theorem J7{elt iter tg:Expr}{ifs:List Expr}{scope:Scope}{pos pos':Pos}{N:List Str}{mp:List (Option Nat)}{wi:TI}{g:TG}{tc:TT}{te:TE}{use:Option (Value->Sem Unit)}
    {pins:List (Addr×Obj)} {s:Shared} {σ:St} {H:Hp} {Q:VK} {QQ:Value->Shared->Prop}
    (ok:cP X.env.scope X.N scope N mp) (hc:X.calm=true) (hi:PI X tg iter wi)
    (hb:∀C s₀ H₀ fp,PG (fK X scope C N s₀ H₀ fp) tg g/\qk (fK X scope C N s₀ H₀ fp) ifs tc/\PE (fK X scope C N s₀ H₀ fp) elt te)
    (hs:∀x,foldedSetIterable iter X.env x=pure x) (I:Inv X pins σ H s) (h:lP wi g tc te mp σ H Q)
    (fin:∀acc C H' s' m,Inv X pins σ H' s'->jd X pins H' C->s'.heap.Ns C m->Q (.ref acc) H'->compPost (model X.prog X.w) X.A X.xe use QQ (.ref acc) C (.ok .next) s'):
    wpAny (model X.prog X.w) X.A (comprehension (.ListComp elt [⟨tg,iter,ifs,0⟩] scope pos) scope X.env pos' (newList []) false (eval iter X.env) use) QQ X.xe s:=by
  have hfree:∀x∈scope.names,x.2= .free->∃a,X.env.cells.lookup x.1=some a:=fun x hx e=>I.ok.has x.1 (ok.free x hx e)
  refine wpAny_comprehension_free (use:=use) rfl hs (SE hfree) ok.kind ok.names (aW (hi pins s σ H _ I h) fun v s1 h1=>aW h1 fun itv s2 h2=>?_)
  obtain⟨it,fp,tn,J,H2,e,I2,T,st2,f2,hW⟩:=h2
  subst e
  refine wpAny_newObj_type (wpAny_newFunctionEnv ok.cell (by intro y hy;simp at hy) (fun h₁ yY yM=>?_) ok.kind)
  dsimp only at yY yM⊢
  have I3:=I2.IJ (its:=[]) (ys:=[]) (t':=s2.toks) .nil (eY _)
  have hW:=hW s2.heap.objs.size I2.fresh
  obtain⟨W,⟨m0,w0⟩,turn⟩:=hW
  generalize yV:s2.heap.push {cls:= .type "list",dict:=none,data:= .seq ([]:List Value).toArray}=HP at yY yM⊢
  have I3:Inv X pins σ (upd H2 s2.heap.objs.size (.lst [])) {s2 with heap:=HP}:=by rw[<-yV];exact I3
  generalize Pq:upd H2 s2.heap.objs.size (.lst [])=H3 at I3 w0
  have hC:HP.objs.size=s2.heap.objs.size+1:=by rw[<-yV,l6]
  have old:∀b o,HP.get? b=some o->h₁.get? b=some o:=fun b o e=>yM.extBut b o (cW (bC e)) (bS _ e)
  have lD:∀b∈fp,b<s2.heap.objs.size:=fun b hb=>by
    obtain⟨o,e,_⟩:=T.obj 0 _ st2 b hb
    exact bC e
  have XI:∀b∈fp,H3 b=none:=fun b hb=>by
    rw[<-Pq,au (cW (lD b hb))]
    exact(f2 b hb).1
  have tF:∀{x:Str} {c:Addr},(jl X.env.cells scope.names []).lookup x=some c->X.env.cells.lookup x=some c:=fun{x c} e=>Ce (fun y d q=>by simp at q) e
  have wK:(fK X scope HP.objs.size N {s2 with heap:=HP} H3 fp).Ok:=by
    refine⟨I2.ok.mod,ok.kind,I2.ok.glob,I2.ok.blt,aJ _,fun x y c e1 e2=>I2.ok.inj x y c (tF e1) (tF e2),fun x hx=>?_,(fun x c e=>absurd (show false=true from e) (by decide)),I2.ok.hd,I2.ok.frames, .inl rfl,fun b hb=>?_,I3.bs,eE I3.ok.oJ I3.sz,fun b o e hb=>?_,fun b hb hz=>?_,I3.stack,I3.Jb⟩
    · have hx':scope.names.lookup x=some .free:=by
        rcases hx with hx|hx
        · exact zD ok.cell hx (.inl rfl)
        · exact zD ok.cell hx (.inr rfl)
      have hm:=oY hx'
      obtain⟨a,ha⟩:=hfree _ hm rfl
      exact⟨a,K7 hm ha⟩
    · refine⟨fun z=>?_,fun x c e=>(f2 b hb).2.2.2.2.1 x c (tF e)⟩
      have z':b=HP.objs.size:=z
      have q:=lD b hb
      rw[z',hC] at q
      exact absurd q (Nat.not_lt.mpr (mS _))
    · rcases(f2 b hb).2.2.2.1 with z|z
      · exact I2.ok.sY b o e z
      · exact absurd (eK (bC (I2.ok.bs b o e).1) z) (jK _)
    · rcases aM.mp (I2.BF b hz) with z|z
      · exact(f2 b hb).2.1 z
      · exact(f2 b hb).2.2.1 z
  have IY:Inv (fK X scope HP.objs.size N {s2 with heap:=HP} H3 fp) [] (iM mp σ) H3 {s2 with heap:=h₁,toks:=s2.toks+([]:List (Str×Value)).length}:=by
    refine⟨wK,rfl,I2.bare,Un.kept old,⟨_,yY,fun i x v e1 e2 e3=>?_⟩,fun x c e=>?_,I3.hok.fresh (aJ _),fun x c e=>I3.jw x c (tF e),fun p hp=>absurd (show p∈([]:List (Addr×Obj)) from hp) (by simp),I3.hok.kept old,?_⟩
    · have hj:∃j,mp[i]?=some (some j)/\σ[j]?=some (some v):=by
        unfold iM at e2
        rw[aL] at e2
        cases q:mp[i]? with
        |none=>rw[q] at e2;cases e2
        | some o =>
          rw[q] at e2
          cases o with
          |none=>cases e2
          | some j =>
            refine⟨j,rfl,?_⟩
            have e2:(match σ[j]? with|some v=>v|none=>none)=some v:=fL e2
            cases r:σ[j]? with
            |none=>rw[r] at e2;cases e2
            | some u =>
              rw[r] at e2
              have e2:u=some v:=e2
              rw[e2]
      obtain⟨j,hj1,hj2⟩:=hj
      obtain⟨l1,l2⟩:=ok.look i j x hj1 e1
      have hm:=oY l2
      have kx:=ok.free _ hm rfl
      obtain⟨mm,_,hl⟩:=I3.loc
      obtain⟨u,ru,lk⟩:=hl j x v l1 hj2 (kx.elim (fun z=> .inr (.inl z)) fun z=> .inr (.inr z))
      refine⟨u,ru, .inr ⟨FH l2,?_⟩⟩
      rcases lk with ⟨k,_⟩|⟨_,c,e,z⟩
      · exfalso
        have k':X.env.scope.names.lookup x=some .local:=k
        rcases kx with kx|kx
        · rw[k'] at kx;cases kx
        · rw[k'] at kx;cases kx
      · refine⟨c,K7 hm e,?_⟩
        obtain⟨o,ho,hd⟩:=z
        exact⟨o,old c o ho,hd⟩
    · obtain⟨v,o,ho,hd⟩:=I3.cell x c (tF e)
      exact⟨v,o,old c o ho,hd⟩
    · show(iM mp σ).length=N.length
      unfold iM
      rw[aj,ok.len]
  have nU:∀{H':Hp},(∀b∈fp,H' b=none)->∀b∈fp,jd (fK X scope HP.objs.size N {s2 with heap:=HP} H3 fp) [] H' b:=fun{H'} hn b hb=>
    ⟨hn b hb,(wK.uh b hb).1,wK.rA b hb, .inl hb,(wK.uh b hb).2,fun p hp=>absurd (show p∈([]:List (Addr×Obj)) from hp) (by simp)⟩
  have JW:tn 0 h₁:=T.keep 0 _ _ st2 fun b hb o e=>old b o (by rw[<-yV];exact bS _ e)
  have loop:codeAny (model X.prog X.w) X.A (.compLoop (.ListComp elt [⟨tg,iter,ifs,0⟩] scope pos) 0 (.ref it) (.ref s2.heap.objs.size) (compEnvC scope (jl X.env.cells scope.names []) HP.objs.size X.env))
      (compPost (model X.prog X.w) X.A X.xe use QQ (.ref s2.heap.objs.size) HP.objs.size) {s2 with heap:=h₁,toks:=s2.toks+([]:List (Str×Value)).length}:=by
    obtain⟨hg,ht,he⟩:=hb HP.objs.size {s2 with heap:=HP} H3 fp
    generalize hY:fK X scope HP.objs.size N {s2 with heap:=HP} H3 fp=Y at hg ht he IY nU
    have yp:Y.prog=X.prog:=by rw[<-hY];rfl
    have yw:Y.w=X.w:=by rw[<-hY];rfl
    have yK:Y.K=X.K:=by rw[<-hY];rfl
    have yA:Y.A=X.A:=by rw[<-hY];rfl
    have yc:Y.calm=true:=by rw[<-hY];exact hc
    have yx:Y.xe=fun _ _=>False:=by rw[<-hY];rfl
    have Lu:Y.env=compEnvC scope (jl X.env.cells scope.names []) HP.objs.size X.env:=by rw[<-hY];rfl
    rw[<-Lu]
    refine MG (fun n s'=>∃i σ' H',Inv Y [] σ' H' s'/\tn i s'.heap/\(∀b∈fp,H' b=none)/\W i n σ' H') ?_ m0 ⟨0,_,H3,IY,JW,XI,w0⟩
    rintro n s3 ⟨i,σ3,H4,I4,st3,fr3,w3⟩
    rcases turn i n σ3 H4 w3 with ⟨stop,qn⟩|⟨go,Nx,hN,step⟩
    · have q0:=T.done Y yp yw yK yc i [] s3 σ3 H4 (fun _ _=>False) I4 (nU fr3) st3 stop
      rw[yA] at q0
      refine aW q0 fun r s4 ⟨hr,I5⟩=>?_
      subst hr
      show compPost (model X.prog X.w) X.A X.xe use QQ (.ref s2.heap.objs.size) HP.objs.size (.ok .next) s4
      obtain⟨m,hm,_⟩:=id I5.loc
      have yl:Y.env.locals=HP.objs.size:=by rw[Lu];rfl
      rw[yl] at hm
      have fC:H4 HP.objs.size=none:=by have:=I5.free;rw[yl] at this;exact this
      have ub:=I5.base
      have ub':Un (frs X.stack) fp H3 H4 HP s4.heap:=by rw[<-hY] at ub;exact ub
      have hos:s4.os=s2.os:=by have:=I5.os;rw[<-hY] at this;exact this
      have WW:dD X.prog X.w H4 s4.heap:=by have:=I5.hok;rw[yp,yw] at this;exact this
      have IX:Inv X pins σ H4 s4:=I3.PU (ch:=fp) hos ub' WW I5.bare fun b hb=>⟨(f2 b hb).2.2.2.1,(f2 b hb).2.1,(f2 b hb).2.2.2.2.1,(f2 b hb).2.2.2.2.2⟩
      exact fin _ _ H4 s4 m IX (I3.pQ (aJ _) fC) hm qn
    · have q0:=T.item Y yp yw yK yc i [] s3 σ3 H4 (fun _ _=>False) I4 (nU fr3) st3 go
      rw[yA] at q0
      refine aW q0 fun r s4 ⟨u,hr,h4⟩=>?_
      subst hr
      refine aW h4 fun _ s5 ⟨x,H5,I5,r5,y5,nX,D5⟩=>?_
      have DP:=I5.pinned (nU D5) (T.obj _ _ nX)
      rw[<-yx,<-yp,<-yw,<-yA]
      refine aW (hg _ s5 σ3 H5 x u _ DP r5 (step x H5 y5)) fun _ s6 ⟨r6,H6,I6,q6⟩=>?_
      refine aW (ht _ s6 r6 H6 _ I6 q6) fun b s7 ⟨H7,I7,q7⟩=>?_
      have again:∀{qN:St} {H8:Hp} {s8:Shared},Inv Y ([]++rV fp s5.heap) qN H8 s8->Nx qN H8->∃m,m<n/\∃i σ' H',Inv Y [] σ' H' s8/\tn i s8.heap/\(∀b∈fp,H' b=none)/\W i m σ' H':=fun{qN H8 s8} I8 n8=>by
        obtain⟨m',hm,w8⟩:=hN qN H8 n8
        refine⟨m',hm,i+1,qN,H8,I8.tP,T.keep _ _ _ nX fun b hb o e=>(I8.pin (b,o) (ia _ (ia _ (u6 hb e)))).1,fun b hb=>?_,w8⟩
        obtain⟨o,e,d⟩:=T.obj _ _ nX b hb
        exact(I8.pin (b,o) (ia _ (ia _ (u6 hb e)))).2.1
      cases b with
      | false =>
        rw[if_neg dZ]
        rw[if_neg dZ] at q7
        exact again I7 q7
      | true =>
        rw[if_pos rfl]
        rw[if_pos rfl] at q7
        refine aW (he _ s7 r6 H7 _ I7 q7) fun v s8 ⟨y,H8,I8,r8,ys,e8,z8,n8⟩=>?_
        refine aW (kG _ s8 r6 H8 (.ref s2.heap.objs.size) [y] (.ref s2.heap.objs.size) [v] (fun _ H9=>H9=upd H8 s2.heap.objs.size (.lst (ys++[y]))) I8 rfl (.cons r8 .nil) ⟨_,ys,y,rfl,rfl,e8,z8,rfl⟩) fun v9 s9 ⟨y9,H9,I9,r9,e9⟩=>?_
        subst e9
        exact again I9 n8
  refine codeAny_compStart_list loop (T.self _ _ _ _ _ JW loop)
theorem jd.turned{pins:List (Addr×Obj)}{s:Shared}{σ:St}{H:Hp}{C:Addr}{h':Heap}(I:Inv X pins σ H s)(f:jd X pins H C)(hs:Heap.SameBut C s.heap h'):Inv X pins σ H {s with heap:=h'}:=
 I.turned (t':=s.toks) (fun b o hb e=>(hs.2 b hb).trans e) f.1 f.2.1 f.2.2.2.1 f.2.2.2.2.1 f.2.2.2.2.2
theorem iD{elt iter tg:Expr}{ifs:List Expr}{scope:Scope}{pos:Pos}{N:List Str}{mp:List (Option Nat)}{wi:TI}{g:TG}{tc:TT}{te:TE}
  (ok:cP X.env.scope X.N scope N mp) (hi:PI X tg iter wi)
  (hb:∀C s₀ H₀ fp,PG (fK X scope C N s₀ H₀ fp) tg g/\qk (fK X scope C N s₀ H₀ fp) ifs tc/\PE (fK X scope C N s₀ H₀ fp) elt te) (hc:X.calm=true:=by rfl)
  (hs:∀x,foldedSetIterable iter X.env x=pure x:=by intro _;rfl):PE X (.ListComp elt [⟨tg,iter,ifs,0⟩] scope pos) (lP wi g tc te mp):=by
 intro pins s σ H Q I h
 rw[eval_ListComp]
 refine J7 (use:=none) ok hc hi hb hs I h fun acc C H' s' m I' f hn q=>?_
 exact⟨m,hn,fun h' hs'=>⟨.ref acc,H',f.turned I' hs',rfl,q⟩⟩
def sU(i:Nat)(t:TE):TS:=fun D σ H=>t σ H fun v H'=>D.nx (σ.set i (some v)) H'
theorem lZ{elt iter tg:Expr}{ifs:List Expr}{scope:Scope}{pos spos py:Pos}{N:List Str}{mp:List (Option Nat)}{wi:TI}{g:TG}{tc:TT}{te:TE}{i:Nat}{y:Str}
  (hN:X.N.Nodup) (hy:X.N[i]?=some y) (hk:X.env.kindOf y=some .local)
  (ok:cP X.env.scope X.N scope N mp) (hi:PI X tg iter wi)
  (hb:∀C s₀ H₀ fp,PG (fK X scope C N s₀ H₀ fp) tg g/\qk (fK X scope C N s₀ H₀ fp) ifs tc/\PE (fK X scope C N s₀ H₀ fp) elt te) (hc:X.calm=true:=by rfl)
  (hsw:swapsWith (.ListComp elt [⟨tg,iter,ifs,0⟩] scope pos) (some (.Name y py)) spos.line X.env=pure true:=by rfl)
  (hs:∀x,foldedSetIterable iter X.env x=pure x:=by intro _;rfl):PS X (.Assign [.Name y py] (.ListComp elt [⟨tg,iter,ifs,0⟩] scope pos) spos) (sU i (lP wi g tc te mp)):=by
 intro pins s σ H D I h
 rw[exec_Assign_Name_used _ _ _ _ hsw]
 refine wpAny_bind (wpAny_standAt (wpAny_bind ?_))
 show wpAny _ X.A (do let _<-comprehension (.ListComp elt [⟨tg,iter,ifs,0⟩] scope pos) scope X.env _ (newList []) false (eval iter X.env) (some (assign (.Name y py) X.env))) _ _ s
 refine wpAny_bind (wpAny_mono (J7 (use:=some (assign (.Name y py) X.env)) (QQ:=fun _ s'=>SP X pins D .next s') ok hc hi hb hs I h fun acc C H' s' m I' f hn q=>?_) (fun _ s' hq=>wpAny_pure (wpAny_pure hq)) fun _ _ e=>e)
 refine wpAny_assign_Name (Lq (v:= .ref acc) I' hN hy (.inl hk) rfl (fun s2 I2 ⟨a,sb,ha⟩=>?_) (.inr hk))
 have hne:C≠a:=by
  rcases ha with z|z
  ·rw[z];exact f.2.1
  ·exact fun e=>f.2.2.2.2.1 y a z e.symm
 exact⟨m,hn.sameBut sb hne,fun h' hs'=>⟨_,H',f.turned I2 hs',q⟩⟩
end
def Sm(i:Int):Prop:= -(2^300)<i/\i<2^300
theorem Ad{i:Int}(h:Sm i):Builtin.Int.intBits i<=2^20:=by
 obtain⟨h1,h2⟩:=h
 unfold Builtin.Int.intBits
 split
 ·exact eY _
 ·rename_i h0
  have hn:i.natAbs≠0:=by
   intro e
   apply h0
   simp
   omega
  have h3:i.natAbs<2^300:=by omega
  have h4:i.natAbs.log2<300:=(Nat.log2_lt hn).mpr h3
  have:(2:Nat)^20=1048576:=by decide
  omega
theorem LB{x y:Int}(h:Sm y):Builtin.divisionGoesByPylong x y=false:=by
 refine PyProof.noPylong_of_log2 ?_
 obtain⟨h1,h2⟩:=h
 by_cases h0:y.natAbs=0
 ·rw[h0];decide+kernel
 ·have h3:y.natAbs<2^300:=by omega
  have h4:y.natAbs.log2<300:=(Nat.log2_lt h0).mpr h3
  omega
section
variable{X:Cx}
theorem qg:eW X (binaryOp .FloorDiv) (rI (fun _ j=>0<j/\Sm j) fun i j=> .int (i/j)):=u9 fun i j _ _ _ _ _ hc q=>
 floordiv_int (by omega) (by rw[Int.fdiv_eq_ediv_of_nonneg _ (by omega)];exact q) (.inl (LB hc.2))
theorem VT:qm X "int.bit_length" (fun x xs H Q=>∃i,x= .int i/\xs=[]/\Q (.int (Builtin.Int.intBits i)) H):=by
 intro pins s σ H x xs v us Q I rx rv h
 obtain⟨i,rfl,rfl,q⟩:=h
 obtain⟨t,rfl⟩:=rx
 cases rv
 exact call_int_bit_length ⟨.int _,H,I.tok _,⟨_,rfl⟩,q⟩
def kX(K:PySem.W.Frag):List V->Hp->VK->Prop:=fun xs H Q=>∃x T t b,xs=[x, .ty T]/\iY K H x t/\PySem.W.kitOne K t (.type T)=some b/\Q (.bl b) H
theorem nF:fF X (.builtin "isinstance") (kX X.K):=by
 intro pins s σ H xs us Q I rv h
 obtain⟨x,T,t,b,rfl,ty,e,q⟩:=h
 obtain⟨u,v,rfl,ru,rv⟩:=rv.two
 cases (show v=Value.type T from rv)
 exact Vb I ru ty e fun tk=>⟨.bl b,H,I.tok tk,rfl,q⟩
def TY:PyData->Key->Prop
 | .int i,k=>k= .inl i
 | .str x,k=>k= .inr x
 |_,_=>False
mutual
def ai(nb:Addr->Prop)(H:Hp):PyData->V->Prop
 | .none,v=>v= .aT
 | .bool b,v=>v= .bl b
 | .int i,v=>v= .int i
 | .str x,v=>v= .str x
 | .list ds,v=>∃a xs,v= .ref a/\¬nb a/\H a=some (.lst xs)/\ah nb H ds xs
 | .tuple ds,v=>∃a xs,v= .ref a/\¬nb a/\H a=some (.tup xs)/\ah nb H ds xs
 | .dict kvs,v=>∃a ps,v= .ref a/\¬nb a/\Rd H a (.dK ps)/\aA nb H kvs ps
termination_by structural d=>d
def ah(nb:Addr->Prop)(H:Hp):List PyData->List V->Prop
 |[],xs=>xs=[]
 |d::ds,xs=>∃y ys,xs=y::ys/\ai nb H d y/\ah nb H ds ys
termination_by structural d=>d
def aA(nb:Addr->Prop)(H:Hp):List (PyData×PyData)->List (Key×V)->Prop
 |[],xs=>xs=[]
 |d::ds,xs=>∃p ys,xs=p::ys/\cV nb H d p/\aA nb H ds ys
termination_by structural d=>d
def cV(nb:Addr->Prop)(H:Hp):PyData×PyData->Key×V->Prop
 |(k,d),p=>TY k p.1/\ai nb H d p.2
termination_by structural d=>d
end
def bh(nb:Addr->Prop)(H H':Hp):Prop:=∀a o,¬nb a->H a=some o->H' a=some o
def Nb(b:Addr):Addr->Prop:=fun a=>a=b
section
variable{nb cM:Addr->Prop}{H H1 H2 H':Hp}{a b c p:Addr}{o:HO}{xs:List V}
theorem bh.refl(nb:Addr->Prop)(H:Hp):bh nb H H:=fun _ _ _ h=>h
theorem bh.trans(x:bh nb H H1)(y:bh nb H1 H2):bh nb H H2:=fun a o n h=>y a o n (x a o n h)
theorem bh.of(x:dW H H'):bh nb H H':=fun a o _ h=>x a o h
theorem bh.set(h:nb p):bh nb H (upd H p o):=fun a u n q=>by rw[au (fun e=>n (by rw[e];exact h))];exact q
theorem bh.rd{u:HO}(x:bh nb H H')(n:¬nb a)(h:Rd H a u):Rd H' a u:=by
 rcases h with h|⟨o,h⟩
 ·exact .inl (x _ _ n h)
 ·exact .inr ⟨o,x _ _ n h⟩
end
mutual
theorem ai.keep{nb:Addr->Prop}{H H':Hp}(x:bh nb H H'):∀{d:PyData} {v:V},ai nb H d v->ai nb H' d v
 | .none,_,h=>by unfold ai at h⊢;exact h
 | .bool _,_,h=>by unfold ai at h⊢;exact h
 | .int _,_,h=>by unfold ai at h⊢;exact h
 | .str _,_,h=>by unfold ai at h⊢;exact h
 | .list ds,_,h=>by unfold ai at h⊢;obtain⟨a,xs,e,n,s,r⟩:=h;exact⟨a,xs,e,n,x _ _ n s,ah.keep x r⟩
 | .tuple ds,_,h=>by unfold ai at h⊢;obtain⟨a,xs,e,n,s,r⟩:=h;exact⟨a,xs,e,n,x _ _ n s,ah.keep x r⟩
 | .dict kvs,_,h=>by unfold ai at h⊢;obtain⟨a,xs,e,n,s,r⟩:=h;exact⟨a,xs,e,n,x.rd n s,aA.keep x r⟩
theorem ah.keep{nb:Addr->Prop}{H H':Hp}(x:bh nb H H'):∀{ds:List PyData} {vs:List V},ah nb H ds vs->ah nb H' ds vs
 |[],_,h=>by unfold ah at h⊢;exact h
 |d::ds,_,h=>by unfold ah at h⊢;obtain⟨y,ys,e,h1,h2⟩:=h;exact⟨y,ys,e,ai.keep x h1,ah.keep x h2⟩
theorem aA.keep{nb:Addr->Prop}{H H':Hp}(x:bh nb H H'):∀{ds:List (PyData×PyData)} {vs:List (Key×V)},aA nb H ds vs->aA nb H' ds vs
 |[],_,h=>by unfold aA at h⊢;exact h
 |d::ds,_,h=>by unfold aA at h⊢;obtain⟨y,ys,e,h1,h2⟩:=h;exact⟨y,ys,e,cV.keep x h1,aA.keep x h2⟩
theorem cV.keep{nb:Addr->Prop}{H H':Hp}(x:bh nb H H'):∀{d:PyData×PyData} {v:Key×V},cV nb H d v->cV nb H' d v
 |(k,d),_,h=>by unfold cV at h⊢;exact⟨h.1,ai.keep x h.2⟩
end
mutual
theorem ai.av{nb cM:Addr->Prop}{H:Hp}(x:∀a,cM a->nb a):∀{d:PyData} {v:V},ai nb H d v->ai cM H d v
 | .none,_,h=>by unfold ai at h⊢;exact h
 | .bool _,_,h=>by unfold ai at h⊢;exact h
 | .int _,_,h=>by unfold ai at h⊢;exact h
 | .str _,_,h=>by unfold ai at h⊢;exact h
 | .list ds,_,h=>by unfold ai at h⊢;obtain⟨a,xs,e,n,s,r⟩:=h;exact⟨a,xs,e,fun z=>n (x a z),s,ah.av x r⟩
 | .tuple ds,_,h=>by unfold ai at h⊢;obtain⟨a,xs,e,n,s,r⟩:=h;exact⟨a,xs,e,fun z=>n (x a z),s,ah.av x r⟩
 | .dict kvs,_,h=>by unfold ai at h⊢;obtain⟨a,xs,e,n,s,r⟩:=h;exact⟨a,xs,e,fun z=>n (x a z),s,aA.av x r⟩
theorem ah.av{nb cM:Addr->Prop}{H:Hp}(x:∀a,cM a->nb a):∀{ds:List PyData} {vs:List V},ah nb H ds vs->ah cM H ds vs
 |[],_,h=>by unfold ah at h⊢;exact h
 |d::ds,_,h=>by unfold ah at h⊢;obtain⟨y,ys,e,h1,h2⟩:=h;exact⟨y,ys,e,ai.av x h1,ah.av x h2⟩
theorem aA.av{nb cM:Addr->Prop}{H:Hp}(x:∀a,cM a->nb a):∀{ds:List (PyData×PyData)} {vs:List (Key×V)},aA nb H ds vs->aA cM H ds vs
 |[],_,h=>by unfold aA at h⊢;exact h
 |d::ds,_,h=>by unfold aA at h⊢;obtain⟨y,ys,e,h1,h2⟩:=h;exact⟨y,ys,e,cV.av x h1,aA.av x h2⟩
theorem cV.av{nb cM:Addr->Prop}{H:Hp}(x:∀a,cM a->nb a):∀{d:PyData×PyData} {v:Key×V},cV nb H d v->cV cM H d v
 |(k,d),_,h=>by unfold cV at h⊢;exact⟨h.1,ai.av x h.2⟩
end
mutual
theorem ai.fresh{nb:Addr->Prop}{H:Hp}{p:Addr}(hp:H p=none):∀{d:PyData} {v:V},ai nb H d v->ai (fun a=>nb a\/a=p) H d v
 | .none,_,h=>by unfold ai at h⊢;exact h
 | .bool _,_,h=>by unfold ai at h⊢;exact h
 | .int _,_,h=>by unfold ai at h⊢;exact h
 | .str _,_,h=>by unfold ai at h⊢;exact h
 | .list ds,_,h=>by unfold ai at h⊢;obtain⟨a,xs,e,n,s,r⟩:=h;exact⟨a,xs,e,fun z=>z.elim n (jc s hp),s,ah.fresh hp r⟩
 | .tuple ds,_,h=>by unfold ai at h⊢;obtain⟨a,xs,e,n,s,r⟩:=h;exact⟨a,xs,e,fun z=>z.elim n (jc s hp),s,ah.fresh hp r⟩
 | .dict kvs,_,h=>by unfold ai at h⊢;obtain⟨a,xs,e,n,s,r⟩:=h;exact⟨a,xs,e,fun z=>z.elim n (s.elim (fun s=>jc s hp) fun⟨_,s⟩=>jc s hp),s,aA.fresh hp r⟩
theorem ah.fresh{nb:Addr->Prop}{H:Hp}{p:Addr}(hp:H p=none):∀{ds:List PyData} {vs:List V},ah nb H ds vs->ah (fun a=>nb a\/a=p) H ds vs
 |[],_,h=>by unfold ah at h⊢;exact h
 |d::ds,_,h=>by unfold ah at h⊢;obtain⟨y,ys,e,h1,h2⟩:=h;exact⟨y,ys,e,ai.fresh hp h1,ah.fresh hp h2⟩
theorem aA.fresh{nb:Addr->Prop}{H:Hp}{p:Addr}(hp:H p=none):∀{ds:List (PyData×PyData)} {vs:List (Key×V)},aA nb H ds vs->aA (fun a=>nb a\/a=p) H ds vs
 |[],_,h=>by unfold aA at h⊢;exact h
 |d::ds,_,h=>by unfold aA at h⊢;obtain⟨y,ys,e,h1,h2⟩:=h;exact⟨y,ys,e,cV.fresh hp h1,aA.fresh hp h2⟩
theorem cV.fresh{nb:Addr->Prop}{H:Hp}{p:Addr}(hp:H p=none):∀{d:PyData×PyData} {v:Key×V},cV nb H d v->cV (fun a=>nb a\/a=p) H d v
 |(k,d),_,h=>by unfold cV at h⊢;exact⟨h.1,ai.fresh hp h.2⟩
end
mutual
theorem ai.reads{pins:List (Addr×Obj)}{σ:St}{H:Hp}{s:Shared}{nb:Addr->Prop}(I:Inv X pins σ H s):∀{d:PyData} {v:V} {u:Value},ai nb H d v->RelV v u->d.canLay0=true->∃as,Reads s.heap u d as
  | .none,_,_,h,r,_=>by unfold ai at h;subst h;cases r;exact⟨_, .none⟩
  | .bool _,_,_,h,r,_=>by unfold ai at h;subst h;cases r;exact⟨_, .bool _⟩
  | .int _,_,_,h,r,_=>by unfold ai at h;subst h;obtain⟨t,rfl⟩:=r;exact⟨_, .int _ _⟩
  | .str _,_,_,h,r,_=>by unfold ai at h;subst h;obtain⟨t,rfl⟩:=r;exact⟨_, .str _ _⟩
  | .list ds, _, _, h, r, hc0 => by
    unfold ai at h
    obtain⟨a,xs,rfl,n,s,q⟩:=h
    cases r
    obtain⟨its,rv,p,hz⟩:=I.list (aV.of s)
    obtain⟨as,ra⟩:=ah.reads I q rv (by simpa only[PyData.canLay0] using hc0)
    obtain⟨o,ho,hc,m,hd⟩:=p.isList
    exact⟨_, .list ho hc hd (by simpa using ra)⟩
  | .tuple ds, _, _, h, r, hc0 => by
    unfold ai at h
    obtain⟨a,xs,rfl,n,s,q⟩:=h
    cases r
    obtain⟨its,rv,p,hz⟩:=I.tuple (gx.of s)
    obtain⟨as,ra⟩:=ah.reads I q rv (by simpa only[PyData.canLay0] using hc0)
    obtain⟨o,ho,hc,m,hd⟩:=p
    exact⟨_, .tuple ho hc hd (by simpa using ra)⟩
  | .dict _,_,_,h,r,hc0=>by simp[PyData.canLay0] at hc0
theorem ah.reads{pins:List (Addr×Obj)}{σ:St}{H:Hp}{s:Shared}{nb:Addr->Prop}(I:Inv X pins σ H s):∀{ds:List PyData} {vs:List V} {us:List Value},ah nb H ds vs->Vals vs us->PyData.canLayAll0 ds=true->∃as,ReadsAll s.heap us ds as
  |[],_,_,h,r,_=>by unfold ah at h;subst h;cases r;exact⟨_, .nil⟩
  | d :: ds, _, _, h, r, hc0 => by
    rw[PyData.canLayAll0,cD] at hc0
    unfold ah at h
    obtain⟨y,ys,rfl,h1,h2⟩:=h
    cases r with
    | cons r1 r2 =>
      obtain⟨as,q1⟩:=ai.reads I h1 r1 hc0.1
      obtain⟨bs,q2⟩:=ah.reads I h2 r2 hc0.2
      exact⟨_, .cons q1 q2⟩
end
def uI(neg:Bool):R2:=fun x y H Q=>∃nb d e,ai nb H d x/\ai nb H e y/\SeqAt.shaped d=true/\SeqAt.shaped e=true/\Q (.bl (PyData.eqv d e !=neg)) H
theorem mY(hu:X.A.units+64<cLine):eW X (compareOp .Eq) (uI false):=by
 intro pins s σ H x y v u Q I rx ry h
 obtain⟨nb,d,e,h1,h2,h3,h4,q⟩:=h
 obtain⟨as,r1⟩:=h1.reads I rx (oA h3)
 obtain⟨bs,r2⟩:=h2.reads I ry (oA h4)
 exact eq_dataH r1 r2 h3 h4 hu ⟨.bl _,H,I,rfl,by simpa using q⟩
theorem R8(hu:X.A.units+64<cLine):eW X (compareOp .NotEq) (uI true):=by
 intro pins s σ H x y v u Q I rx ry h
 obtain⟨nb,d,e,h1,h2,h3,h4,q⟩:=h
 obtain⟨as,r1⟩:=h1.reads I rx (oA h3)
 obtain⟨bs,r2⟩:=h2.reads I ry (oA h4)
 exact ne_dataH r1 r2 h3 h4 hu ⟨.bl _,H,I,rfl,by simpa using q⟩
end
mutual
theorem eqv_refl:∀d:PyData,SeqAt.shaped d=true\/d.canLay0=true->PyData.eqv d d=true
  | .none,_=>by simp[PyData.eqv]
  | .bool _,_=>by simp[PyData.eqv]
  | .int _,_=>by simp[PyData.eqv]
  | .str _,_=>by simp[PyData.eqv]
  | .list ds, h => by
    have h':PyData.canLayAll0 ds=true:=by
      rcases h with h|h
      · have:=oA h;simpa[PyData.canLay0] using this
      · simpa[PyData.canLay0] using h
    simp only[PyData.eqv]
    exact eqvAll_refl ds h'
  | .tuple ds, h => by
    have h':PyData.canLayAll0 ds=true:=by
      rcases h with h|h
      · have:=oA h;simpa[PyData.canLay0] using this
      · simpa[PyData.canLay0] using h
    simp only[PyData.eqv]
    exact eqvAll_refl ds h'
  | .dict _, h => by
    rcases h with h|h
    · have:=oA h;simp[PyData.canLay0] at this
    · simp[PyData.canLay0] at h
theorem eqvAll_refl:∀ds:List PyData,PyData.canLayAll0 ds=true->PyData.eqvAll ds ds=true
  |[],_=>by simp[PyData.eqvAll]
  | d :: ds, h => by
    simp only[PyData.canLayAll0,cD] at h
    simp only[PyData.eqvAll,cD]
    exact⟨eqv_refl d (.inr h.1),eqvAll_refl ds h.2⟩
end
structure Callee(P:Program)(w:World)(K:PySem.W.Frag)(mg:Str->Option Value)(base:Heap)(x:Str)(k:Nat)(ps:List Str)(sp:Sp):Prop where
 ex:∃f fd,bE P w K mg base bO k f fd ps sp/\Binds K fd ps []/\PySem.W.keepIn K (.ref f)=true/\mg x=some (.ref f)
theorem aK{X:Cx}{x:Str}{k:Nat}{ps:List Str}{sp:Sp}{p pos:Pos}{e:Expr}{es:List Expr}{t:TA}(c:Callee X.prog X.w X.K X.mg X.base x k ps sp)(hr:gP k X.A)(ha:PA X (e::es) t)(hg:Gl X x:=by rfl)
  (hdb:(x==("__debug__":Str))=false:=by decide) (he:starEach (e::es) X.env=(false,eval e X.env)::starEach es X.env:=by rfl) (hpl:(backTo pos (starEach es X.env)).any (·.1)=false:=by rfl):
  PE X (.Call (.Name x p) (e::es) [] pos) (ju sp [] E0 t):=by
 obtain⟨f,fd,F,b,kp,m⟩:=c.ex
 exact WS F hr hg m kp b .nil V9 ha hdb he hpl
theorem Callee.mk'{P:Program}{w:World}{K:PySem.W.Frag}{mg:Str->Option Value}{base:Heap}{x:Str}{st:Stmt}{k:Nat}{ps:List Str}{sp:Sp}{f:Addr}{fd:FuncData}(F:bQ K x x st f fd)(ok:bE P w K mg base bO k f fd ps sp)(b:Binds K fd ps [])
  (m:mg x=some (.ref f)):Callee P w K mg base x k ps sp:=⟨f,fd,ok,b,F.kp,m⟩
def aO(K:PySem.W.Frag)(x q:Str)(st:Stmt)(f:Addr):Prop:=PySem.W.nsIn K mainGlobals x=some (some (.ref f))/\∃fd,bQ K x q st f fd
theorem aO.mk{K:PySem.W.Frag}{x q:Str}{st:Stmt}{f:Addr}{oc:Value}{od an:Option Addr}{osl:Array (Option Value)}{kV doc pm cdv ct:Value}(a:PySem.W.nsIn K mainGlobals x=some (some (.ref f)))(l:K.lookup f=some ⟨oc,od, .func (PySem.W.fnOf x q (nY st) (mW st) (aR st) .none kV doc pm an cdv ct),osl⟩)
  (c:PySem.W.codeIn K cdv q=true) (k:PySem.W.keepIn K (.ref f)=true):aO K x q st f:=⟨a,_,E3 l c k⟩
end L2
set_option maxRecDepth 100000
set_option maxHeartbeats 1000000
namespace L2
open PySem PySem.Spec PyProof.Rows
section
variable{X:Cx}
theorem gf:eW X (binaryOp .Mult) (rI (fun i j=>uz i j\/(Sm i/\Sm j)) fun i j=> .int (i*j)):=u9 fun _ _ _ _ _ _ _ hc q=>mul_int q (by
 rcases hc with hc|hc
 ·exact hc.ok
 ·exact IntMulOk.of_bits (Ad hc.1) (Ad hc.2))
end
def dM(H:Hp)(b l:Addr):Prop:=∃(ns:List Int) (i c st n:Int),H b=some (.lst [.ref l, .int i, .int c, .int st, .int n])/\H l=some (.lst (ns.map V.int))/\
 (∀x∈ns,0<=x/\x<10^60)/\ns.length<=63/\0<=i/\0<=c/\c<10^60/\0<=st/\st<2147483647
theorem EV{H:Hp}{b l:Addr}{ns:List Int}{i c st n:V}(h:H b=some (.lst [.ref l,i,c,st,n]))(h':H l=some (.lst (ns.map V.int))):l≠b:=by
 intro e
 subst e
 rw[h] at h'
 have e:=HO.lst.inj (fL h')
 cases ns with
 |nil=>cases e
 |cons x r=>rw[aY] at e;cases (List.cons.inj e).1
theorem dM.put{H:Hp}{b l:Addr}{ns:List Int}{i c st n:Int}(hl:l≠b)(h':H l=some (.lst (ns.map V.int)))(h1:∀x∈ns,0<=x/\x<10^60)(h2:ns.length<=63)
  (h3:0<=i) (h4:0<=c) (h5:c<10^60) (h6:0<=st) (h7:st<2147483647):dM (upd H b (.lst [.ref l, .int i, .int c, .int st, .int n])) b l:=
 ⟨ns,i,c,st,n,aX,by rw[au hl];exact h',h1,h2,h3,h4,h5,h6,h7⟩
theorem dM.put2{H:Hp}{b l p:Addr}{o:HO}(h:dM H b l)(hp:p≠b/\p≠l):dM (upd H p o) b l:=by
 obtain⟨ns,i,c,st,n,h1,h2,r⟩:=h
 exact⟨ns,i,c,st,n,by rw[au (bx hp.1)];exact h1,by rw[au (bx hp.2)];exact h2,r⟩
theorem dM.same{H H':Hp}{b l:Addr}(h:dM H b l)(s:dW H H'):dM H' b l:=by
 obtain⟨ns,i,c,st,n,h1,h2,r⟩:=h
 exact⟨ns,i,c,st,n,s _ _ h1,s _ _ h2,r⟩
def jn:Sp:=fun vs H Q _=>∃(b l:Addr) (many:Int),vs=[.ref b, .int many]/\dM H b l/\0<many/\Sm many/\∀(r:Int) (H':Hp),0<=r->r<many->bh (Nb b) H H'->dM H' b l->Q (.int r) H'
def JT(K:PySem.W.Frag):Sp:=fun vs H Q _=>∃(a:Addr) (ns:List Int),vs=[.ref a]/\aV K H a (ns.map V.int)/\ns.length<=63/\∀(b l:Addr) (H':Hp),dW H H'->H b=none->dM H' b l->Q (.ref b) H'
theorem fT{α:Type}{xs:List α}{i:Int}{v:α}(h0:0<=i)(h:xs[i.toNat]?=some v):bN xs i=some v:=by
 have e:i=((i.toNat:Nat):Int):=by omega
 rw[e]
 exact MO h
theorem dR{H:Hp}{p:Addr}{o:HO}(h:H p=none):dW H (upd H p o):=fun b u q=>by rw[au (jc q h)];exact q
section
variable{nb:Addr->Prop}{H H':Hp}
theorem ah.length:∀{ds:List PyData} {xs:List V},ah nb H ds xs->xs.length=ds.length
 |[],_,h=>by unfold ah at h;subst h;rfl
 |d::ds,_,h=>by unfold ah at h;obtain⟨y,ys,rfl,_,h2⟩:=h;simp[ah.length h2]
theorem ah.get:∀{ds:List PyData} {xs:List V} {i:Nat} {d:PyData},ah nb H ds xs->ds[i]?=some d->∃x,xs[i]?=some x/\ai nb H d x
 |[],_,_,_,_,e=>by simp at e
 |d::ds,_,0,_,h,e=>by unfold ah at h;obtain⟨y,ys,rfl,h1,h2⟩:=h;simp at e;subst e;exact⟨y,rfl,h1⟩
 |d::ds,_,i+1,_,h,e=>by unfold ah at h;obtain⟨y,ys,rfl,h1,h2⟩:=h;simpa using ah.get (i:=i) h2 (by simpa using e)
theorem ah.snoc{d:PyData}{x:V}(hd:ai nb H d x):∀{ds:List PyData} {xs:List V},ah nb H ds xs->ah nb H (ds++[d]) (xs++[x])
 |[],_,h=>by unfold ah at h;subst h;unfold ah;exact⟨x,[],rfl,hd,by unfold ah;rfl⟩
 |e::ds,_,h=>by unfold ah at h;obtain⟨y,ys,rfl,h1,h2⟩:=h;show ah nb H (e::(ds++[d])) _;unfold ah;exact⟨y,ys++[x],rfl,h1,ah.snoc hd h2⟩
theorem ah.append:∀{ds es:List PyData} {xs ys:List V},ah nb H ds xs->ah nb H es ys->ah nb H (ds++es) (xs++ys)
 |[],_,_,_,h,h'=>by unfold ah at h;subst h;exact h'
 |e::ds,es,_,zs,h,h'=>by unfold ah at h;obtain⟨y,ys,rfl,h1,h2⟩:=h;show ah nb H (e::(ds++es)) _;unfold ah;exact⟨y,ys++zs,rfl,h1,ah.append h2 h'⟩
theorem ah.take:∀{ds:List PyData} {xs:List V} (n:Nat),ah nb H ds xs->ah nb H (ds.take n) (xs.take n)
 |_,_,0,_=>by simp only[sS];unfold ah;rfl
 |[],_,n+1,h=>by unfold ah at h;subst h;simp only[List.take_nil];unfold ah;rfl
 |d::ds,_,n+1,h=>by unfold ah at h;obtain⟨y,ys,rfl,h1,h2⟩:=h;simp only[List.take_succ_cons];unfold ah;exact⟨y,_,rfl,h1,ah.take n h2⟩
theorem ah.drop:∀{ds:List PyData} {xs:List V} (n:Nat),ah nb H ds xs->ah nb H (ds.drop n) (xs.drop n)
 |_,_,0,h=>h
 |[],_,n+1,h=>by unfold ah at h;subst h;simp only[List.drop_nil];unfold ah;rfl
 |d::ds,_,n+1,h=>by unfold ah at h;obtain⟨y,ys,rfl,h1,h2⟩:=h;simp only[List.drop_succ_cons];exact ah.drop n h2
theorem ah.nil:ah nb H [] []:=by unfold ah;rfl
theorem ah.cons{d:PyData}{x:V}{ds:List PyData}{xs:List V}(h1:ai nb H d x)(h2:ah nb H ds xs):ah nb H (d::ds) (x::xs):=by unfold ah;exact⟨x,xs,rfl,h1,h2⟩
theorem ai.int(i:Int):ai nb H (.int i) (.int i):=by unfold ai;rfl
theorem ai.aT:ai nb H .none .aT:=by unfold ai;rfl
theorem ai.bl(b:Bool):ai nb H (.bool b) (.bl b):=by unfold ai;rfl
theorem ai.lst{a:Addr}{ds:List PyData}{xs:List V}(n:¬nb a)(h:H a=some (.lst xs))(hd:ah nb H ds xs):ai nb H (.list ds) (.ref a):=by unfold ai;exact⟨a,xs,rfl,n,h,hd⟩
theorem ai.tup{a:Addr}{ds:List PyData}{xs:List V}(n:¬nb a)(h:H a=some (.tup xs))(hd:ah nb H ds xs):ai nb H (.tuple ds) (.ref a):=by unfold ai;exact⟨a,xs,rfl,n,h,hd⟩
theorem ai.fB{v:V}{ds:List PyData}(h:ai nb H (.list ds) v):∃a xs,v= .ref a/\¬nb a/\H a=some (.lst xs)/\ah nb H ds xs:=by unfold ai at h;exact h
theorem ai.ofT{v:V}{ds:List PyData}(h:ai nb H (.tuple ds) v):∃a xs,v= .ref a/\¬nb a/\H a=some (.tup xs)/\ah nb H ds xs:=by unfold ai at h;exact h
theorem ai.bX{v:V}{i:Int}(h:ai nb H (.int i) v):v= .int i:=by unfold ai at h;exact h
theorem ai.C3{v:V}(h:ai nb H .none v):v= .aT:=by unfold ai at h;exact h
end
def Ql:Sp:=fun vs H Q _=>∃i:Int,vs=[.int i]/\Q (.bl true) H
def tR(K:PySem.W.Frag):Sp:=fun vs H Q _=>∃(a:Addr) (ns:List Int),vs=[.ref a]/\aV K H a (ns.map V.int)/\ns.length<=63/\∀H',Q (.bl true) H'
end L2
set_option maxRecDepth 100000
set_option maxHeartbeats 1000000
namespace L2
open PySem PySem.Spec PyProof.Rows
def Ca(Q:VK):List V->Hp->Prop:=fun xs H1=>xs.length<=sizeLine/\∀p,H1 p=none->Q (.ref p) (upd H1 p (.lst xs))
def jN(K:PySem.W.Frag):List V->Hp->VK->Prop:=fun xs H Q=>∃p ys,xs=[.ref p]/\(aV K H p ys\/gx K H p ys)/\∀l,H l=none->Q (.ref l) (upd H l (.lst ys))
theorem l9{X:Cx}:fF X (.type "list") (jN X.K):=QA
def HB:R2:=fun x y H Q=>y= .aT/\Q (.bl (decide (x= .aT))) H
def wg:R2:=fun x y H Q=>y= .aT/\Q (.bl (!decide (x= .aT))) H
theorem Nm{X:Cx}:eW X (compareOp .Is) HB:=Mu
theorem Dy{X:Cx}:eW X (compareOp .IsNot) wg:=QN
def intOf:Expr->Option Int
 | .Constant (.int i) _ _=>some i
 |_=>none
theorem YK{e:Expr}{i:Int}(h:intOf e=some i):∃k p,e= .Constant (.int i) k p:=by
 unfold intOf at h
 split at h
 ·cases h;exact⟨_,_,rfl⟩
 ·cases h
def qh:List Expr->Option (List Int)
 |[]=>some []
 |e::r=>(intOf e).bind fun i=>(qh r).map (i:: ·)
def xw(is:List Int):TA:=fun _ H Q=>Q (is.map V.int) H
theorem DM{X:Cx}:∀{es:List Expr} {is:List Int},qh es=some is->PA X es (xw is):=by
  intro es
  induction es with
  | nil =>
    intro is h
    have e:is=[]:=by simpa[qh] using h.symm
    subst e
    exact af
  | cons e r ih =>
    intro is h
    unfold qh at h
    cases hi:intOf e with
    |none=>rw[hi] at h;cases h
    | some i =>
      rw[hi] at h
      obtain⟨k,p,rfl⟩:=YK hi
      obtain⟨js,hj,rfl⟩:=jt.mp (show(qh r).map (i:: ·)=some is from h)
      exact aa (te:=tC (.int i)) (t:=xw js) ao (ih hj)
theorem YD{X:Cx}{i:Nat}{x:Str}{es:List Expr}{is:List Int}{p1 p2 p3:Pos}(hN:X.N.Nodup)(hi:X.N[i]?=some x)(hx:Loc X.env.scope x)(h:qh es=some is)(hf:X.fn x=true\/X.env.scope.names.lookup x=some .local):
  PS X (.Assign [.Name x p1] (.List es p2) p3) (gZ (oX (xw is)) (fR i)):=aE hN hi hx (eG (DM h)) rfl hf
namespace R
section
variable{σ:St}{H:Hp}{Q:VK}{D:Ends}{ta tb te:TE}{K:PySem.W.Frag}
theorem seq{t u:TS}(h:t {D with nx:=u D} σ H):pH t u D σ H:=h
theorem asg{g:TG}(h:te σ H fun x H1=>g x σ H1 D.nx):gZ te g D σ H:=h
theorem pZ{c:TT}{t u:TS}(h:c σ H fun b H1=>if b=true then t D σ H1 else u D σ H1):tN c t u D σ H:=h
theorem ret(h:te σ H D.rt):rR te D σ H:=h
theorem next(h:D.nx σ H):uN D σ H:=h
theorem var{i:Nat}{v:V}(e:σ[i]?=some (some v))(h:Q v H):cQ i σ H Q:=⟨v,e,h⟩
theorem c{v:V}(h:Q v H):tC v σ H Q:=h
theorem op{r:R2}(h:ta σ H fun x H1=>tb σ H1 fun y H2=>r x y H2 Q):c6 r ta tb σ H Q:=h
theorem un{r:V->Hp->VK->Prop}(h:ta σ H fun x H1=>r x H1 Q):KY r ta σ H Q:=h
theorem test{q:Bool->Hp->Prop}(h:te σ H fun x H'=>∃k,x= .bl k/\q k H'):vh te σ H q:=h
theorem bl{P:Bool->Prop}{b:Bool}(h:P b):∃k,V.bl b= .bl k/\P k:=⟨b,rfl,h⟩
theorem and{t u:TT}{q:Bool->Hp->Prop}(h:t σ H fun c H1=>if c=true then u σ H1 q else q false H1):Df t u σ H q:=h
theorem cb{r:List V->Hp->VK->Prop}{t:TA}(h:t σ H fun vs H1=>r vs H1 Q):fN r t σ H Q:=h
theorem call{sp:Sp}{t:TA}(h:t σ H fun vs H1=>sp (vs++[]) H1 Q E0):ju sp [] E0 t σ H Q:=h
theorem nil{q:List V->Hp->Prop}(h:q [] H):bT σ H q:=h
theorem cons{t:TA}{q:List V->Hp->Prop}(h:ta σ H fun x H1=>t σ H1 fun xs H2=>q (x::xs) H2):bq ta t σ H q:=h
theorem lst{t:TA}(h:t σ H (Ca Q)):oX t σ H Q:=h
theorem sl{r:V->Option Int->Option Int->Hp->VK->Prop}{tl th:TO}(h:te σ H fun x H1=>tl σ H1 fun l H2=>th σ H2 fun u H3=>r x l u H3 Q):rB r te tl th σ H Q:=h
theorem O6{q:Option Int->Hp->Prop}(h:q none H):Ab σ H q:=h
theorem part{q:Option Int->Hp->Prop}(h:te σ H fun x H1=>∃i,x= .int i/\q (some i) H1):yt te σ H q:=h
theorem TX{P:Int->Prop}{i:Int}(h:P i):∃j,V.int i= .int j/\P j:=⟨i,rfl,h⟩
theorem S8{T:String}{r:V->List V->Hp->VK->Prop}(h:te σ H fun x H1=>oU K T x H1/\r x [] H1 Q):AM K T r te σ H Q:=h
theorem LD{i:Int}{A:Prop}(h:A):oU K "int" (.int i) H/\A:=⟨rfl,h⟩
theorem HQ{i:Nat}{v:V}{q:St->Hp->Prop}(h:q (σ.set i (some v)) H):fR i v σ H q:=h
theorem X7{to ti:TE}{t:qU}{v:V}{q:St->Hp->Prop}(h:to σ H fun o H1=>ti σ H1 fun i H2=>t o i v H2 fun H3=>q σ H3):oH to ti t v σ H q:=h
theorem Tn{t:TG}{u:iW}{v:V}{r:List V}{q:St->Hp->Prop}(h:t v σ H fun σ' H'=>u r σ' H' q):z7 t u (v::r) σ H q:=⟨v,r,rfl,h⟩
theorem LR{q:St->Hp->Prop}(h:q σ H):z9 [] σ H q:=⟨rfl,h⟩
theorem Sy{n:Nat}{t:iW}{a:Addr}{xs:List V}{q:St->Hp->Prop}(hq:gx K H a xs)(hl:xs.length=n)(h:t xs σ H q):vN K n t (.ref a) σ H q:=⟨a,xs,rfl,hq,hl,h⟩
theorem sH{q:Bool->Hp->Prop}(h:q true H):pA σ H q:=h
theorem iG{g:Int->Int->V}{i j:Int}(h:Q (g i j) H):L2.iG g (.int i) (.int j) H Q:=⟨i,j,rfl,rfl,h⟩
theorem rI{C:Int->Int->Prop}{g:Int->Int->V}{i j:Int}(hc:C i j)(h:Q (g i j) H):L2.rI C g (.int i) (.int j) H Q:=⟨i,j,rfl,rfl,hc,h⟩
theorem yz{i j:Int}:decide (V.int i=V.int j)=decide (i=j):=by rw[nJ];simp
theorem Pz{i j:Int}(h:Q (.bl (decide (i=j))) H):xR (.int i) (.int j) H Q:=⟨rfl,by rw[yz];exact h⟩
theorem Ss{i j:Int}(h:Q (.bl (decide (i≠j))) H):CS (.int i) (.int j) H Q:=⟨rfl,by rw[yz,<-decide_not];exact h⟩
theorem Hv{i:Int}(h:Q (.bl true) H):wg (.int i) .aT H Q:=⟨rfl,by rw[decide_eq_false (fun e=>V.noConfusion e)];exact h⟩
theorem Ik(h:Q (.bl false) H):wg .aT .aT H Q:=⟨rfl,by rw[decide_eq_true rfl];exact h⟩
theorem w9{p:Addr}{xs:List V}{i:Int}{v:V}(hp:H p=some (.lst xs))(e:bN xs i=some v)(h:Q v H):cF K (.ref p) (.int i) H Q:=⟨p,xs,i,v,rfl,rfl,aV.of hp,e,h⟩
theorem xP{p:Addr}{o:HO}{xs:List V}{i:Int}{v:V}(e:bN xs i=some v)(h:Q v (upd H p (.lst xs))):cF K (.ref p) (.int i) (upd H p (.lst xs)) Q:=⟨p,xs,i,v,rfl,rfl,aV.of aX,e,h⟩
theorem setM{p:Addr}{xs:List V}{k:Int}{j:Nat}{v:V}{q:Hp->Prop}(hp:H p=some (.lst xs))(e:fy xs.length k=some j)(h:q (upd H p (.lst (xs.set j v)))):uO (.ref p) (.int k) v H q:=⟨p,xs,k,j,rfl,rfl,hp,e,h⟩
theorem Px{p:Addr}{xs:List V}{k:Int}{j:Nat}{v:V}{q:Hp->Prop}(e:fy xs.length k=some j)(h:q (upd H p (.lst (xs.set j v)))):uO (.ref p) (.int k) v (upd H p (.lst xs)) q:=
 ⟨p,xs,k,j,rfl,rfl,aX,e,by rw[AR];exact h⟩
theorem OX{p:Addr}{xs:List V}{P:List V->Prop}(hp:H p=some (.lst xs))(h:P xs):∃a ys,[V.ref p]=[.ref a]/\(aV K H a ys\/gx K H a ys)/\P ys:=⟨p,xs,rfl, .inl (aV.of hp),h⟩
theorem E9{p:Addr}{xs:List V}{lo hi:Option Int}(hp:aV K H p xs)(h:∀a,H a=none->Q (.ref a) (upd H a (.lst (mh xs lo hi)))):j5 K (.ref p) lo hi H Q:=⟨p,xs,rfl,hp,h⟩
theorem Xz{a:Int}{P:Int->Prop}(h:P a):∃i,[V.int a]=[.int i]/\P i:=⟨a,rfl,h⟩
theorem bits{i:Int}{P:Int->Prop}(h:P i):∃j,V.int i= .int j/\([]:List V)=[]/\P j:=⟨i,rfl,rfl,h⟩
theorem SI{xs:List V}(h:xs.length<=10000)(q:∀p H',dW H H'->H p=none->H' p=some (.lst xs)->Q (.ref p) H'):Ca Q xs H:=
 ⟨eE h (by decide),fun p hp=>q p _ (dR hp) hp aX⟩
theorem Lc{c A B:Prop}[Decidable c](h:c)(q:A):if c then A else B:=by rw[if_pos h];exact q
theorem EJ{c A B:Prop}[Decidable c](h:¬c)(q:B):if c then A else B:=by rw[if_neg h];exact q
theorem dT{c:Prop}[Decidable c](h:c):decide c=true:=decide_eq_true h
theorem dF{c:Prop}[Decidable c](h:¬c):¬decide c=true:=by rw[decide_eq_false h];exact dZ
theorem Ey{c:Prop}[Decidable c](h:¬c):(!decide c)=true:=by rw[decide_eq_false h];rfl
theorem Fx{c:Prop}[Decidable c](h:c):¬(!decide c)=true:=by rw[decide_eq_true h];decide
theorem LS{t:TA}{R:It->Hp->Prop}(h:t σ H fun vs H1=>∃j:Int,vs=[.int j]/\ -(2^62)<=j/\j<2^62/\R (jh 0 j.toNat) H1):qJ t σ H R:=h
theorem L3{P:Int->Prop}{i:Int}(h1: -(2^62)<=i)(h2:i<2^62)(h:P i):∃j:Int,[V.int i]=[.int j]/\ -(2^62)<=j/\j<2^62/\P j:=⟨i,rfl,h1,h2,h⟩
theorem YQ{t:TA}{R:It->Hp->Prop}(h:t σ H fun vs H1=>∃i j:Int,vs=[.int i, .int j]/\(-(2^62)<=i/\i<2^62/\ -(2^62)<=j/\j<2^62)/\R (jh i (j-i).toNat) H1):Hw t σ H R:=h
theorem Uq{P:Int->Int->Prop}{a b:Int}(h1: -(2^62)<=a/\a<2^62/\ -(2^62)<=b/\b<2^62)(h:P a b):∃i j:Int,[V.int a,V.int b]=[.int i, .int j]/\(-(2^62)<=i/\i<2^62/\ -(2^62)<=j/\j<2^62)/\P i j:=⟨a,b,rfl,h1,h⟩
theorem iL{tl:TE}{R:It->Hp->Prop}(h:tl σ H fun x H1=>∃a,x= .ref a/\(∃xs,aV K H1 a xs)/\R (nV K a) H1):pL K tl σ H R:=h
theorem vD{P:Addr->Prop}{p:Addr}{xs:List V}(hp:aV K H p xs)(h:P p):∃a,V.ref p= .ref a/\(∃xs,aV K H a xs)/\P a:=⟨p,rfl,⟨xs,hp⟩,h⟩
theorem LP{wi:TI}{g:TG}{tb:TS}(h:wi σ H fun J H1=>∃W:Nat->Nat->St->Hp->Prop,(∃m,W 0 m σ H1)/\∀i m σ H,W i m σ H->
 (J.stop i H/\D.nx σ H)\/(J.go i H/\∃N:St->Hp->Prop,(∀σ' H',N σ' H'->∃m',m'<m/\W (i+1) m' σ' H')/\∀x H',J.mU i H x H'->g x σ H' fun σ2 H2=>tb {D with nx:=N,ct:=N,bk:=D.nx} σ2 H2)):pP wi g tb D σ H:=h
theorem comp{wi:TI}{g:TG}{tc:TT}{mp:List (Option Nat)}(h:wi σ H fun J H1=>∀acc,H1 acc=none->tw J g tc te acc (fun H'=>Q (.ref acc) H') (iM mp σ) (upd H1 acc (.lst []))):lP wi g tc te mp σ H Q:=h
end
theorem Bc{lo:Int}{n:Nat}{g:TG}{tc:TT}{te:TE}{acc:Addr}{Qe:Hp->Prop}{σ:St}{H:Hp}(Pv:Nat->St->Hp->Prop)(h0:Pv 0 σ H)
  (hs:∀i σ H,i<n->Pv i σ H->g (.int (lo+i)) σ H fun σ2 H2=>tc σ2 H2 fun b H3=>if b=true then te σ2 H3 fun v H4=>∃ys,H4 acc=some (.lst ys)/\ys.length<sizeLine/\Pv (i+1) σ2 (upd H4 acc (.lst (ys++[v]))) else Pv (i+1) σ2 H3)
  (hd:∀σ H,Pv n σ H->Qe H):tw (jh lo n) g tc te acc Qe σ H:=by
 refine⟨fun i m σ H=>m=n-i/\i<=n/\Pv i σ H,⟨n,by simp,eY _,h0⟩,?_⟩
 rintro i m σ H ⟨rfl,hi,p⟩
 by_cases hlt:i<n
 ·refine .inr ⟨hlt,Pv (i+1),fun σ' H' p'=>⟨n-(i+1),by omega,rfl,hlt,p'⟩,fun x H' y=>?_⟩
  obtain⟨e,y⟩:=y
  subst e y
  exact hs i σ _ hlt p
 ·have e:i=n:=by omega
  subst e
  exact .inl ⟨aJ _,hd σ H p⟩
theorem B6{K:PySem.W.Frag}{a:Addr}{xs:List V}{g:TG}{tc:TT}{te:TE}{acc:Addr}{Qe:Hp->Prop}{σ:St}{H:Hp}(Pv:Nat->St->Hp->Prop)(h0:Pv 0 σ H)(hl:∀i σ H,i<=xs.length->Pv i σ H->aV K H a xs)
  (hs:∀i x σ H,xs[i]?=some x->Pv i σ H->g x σ H fun σ2 H2=>tc σ2 H2 fun b H3=>if b=true then te σ2 H3 fun v H4=>∃ys,H4 acc=some (.lst ys)/\ys.length<sizeLine/\Pv (i+1) σ2 (upd H4 acc (.lst (ys++[v]))) else Pv (i+1) σ2 H3)
  (hd:∀σ H,Pv xs.length σ H->Qe H):tw (nV K a) g tc te acc Qe σ H:=by
 refine⟨fun i m σ H=>m=xs.length-i/\i<=xs.length/\Pv i σ H,⟨xs.length,by simp,eY _,h0⟩,?_⟩
 rintro i m σ H ⟨rfl,hi,p⟩
 have q:=hl i σ H hi p
 by_cases hlt:i<xs.length
 ·refine .inr ⟨⟨xs,xs[i],q,by simp[hlt]⟩,Pv (i+1),fun σ' H' p'=>⟨xs.length-(i+1),by omega,rfl,hlt,p'⟩,fun x H' y=>?_⟩
  obtain⟨e,y⟩:=y
  subst e
  exact hs i x σ _ (y xs q) p
 ·have e:i=xs.length:=by omega
  subst e
  exact .inl ⟨⟨xs,q,aJ _⟩,hd σ H p⟩
end R
end L2
set_option maxRecDepth 100000
set_option maxHeartbeats 1000000
namespace L2
open PySem PySem.Spec PyProof.Rows
@[reducible] def pairD(pr:Int×Int):PyData:= .tuple [.int pr.1, .int pr.2]
def g7:Option Int->PyData
 |none=> .none
 |some i=> .int i
def uq:Option Int->V
 |none=> .aT
 |some i=> .int i
def gE(wd:List (Option Int))(pr:Int×Int):Int:=match wd[pr.1.toNat]? with
 |some (some x)=>pr.2*x
 |_=>0
def aU(prs:List (Int×Int))(wd:List (Option Int)):Int:=(prs.map (gE wd)).sum
theorem JY{prs:List (Int×Int)}{wd:List (Option Int)}{i:Nat}(h:i<prs.length):aU (prs.take (i+1)) wd=aU (prs.take i) wd+gE wd prs[i]:=by
 unfold aU
 rw[zR,aB h,cZ,vg]
 simp
theorem VA{nb:Addr->Prop}{H:Hp}{o:Option Int}{v:V}(h:ai nb H (g7 o) v):v=uq o:=by
 cases o with
 |none=>exact h.C3
 |some i=>exact h.bX
theorem KJ{nb:Addr->Prop}{H:Hp}:∀{wd:List (Option Int)} {xs:List V},ah nb H (wd.map g7) xs->xs=wd.map uq
  |[],_,h=>by unfold List.map ah at h;exact h
  | o :: wd, _, h => by
    rw[aY] at h
    unfold ah at h
    obtain⟨y,ys,rfl,h1,h2⟩:=h
    rw[aY,VA h1,KJ h2]
theorem LK{nb:Addr->Prop}{H:Hp}{pr:Int×Int}{v:V}(h:ai nb H (pairD pr) v):∃t,v= .ref t/\¬nb t/\H t=some (.tup [.int pr.1, .int pr.2]):=by
 obtain⟨t,xs,rfl,n,ht,hd⟩:=h.ofT
 unfold ah at hd
 obtain⟨y,ys,rfl,h1,h2⟩:=hd
 unfold ah at h2
 obtain⟨z,zs,rfl,h3,h4⟩:=h2
 unfold ah at h4
 subst h4
 rw[h1.bX,h3.bX] at ht
 exact⟨t,rfl,n,ht⟩
def Ct:Sp:=fun vs H Q _=>∃(nb:Addr->Prop) (p:Int) (va vc:V) (prs:List (Int×Int)) (wd:List (Option Int)),vs=[.int p,va,vc]/\ai nb H (.list (prs.map pairD)) va/\ai nb H (.list (wd.map g7)) vc/\0<p/\
 (∀pr∈prs,0<=pr.1/\pr.1<wd.length/\Sm pr.2)/\(∀x,some x∈wd->Sm x)/\Q (.int (aU prs wd%p)) H
theorem G0(prs:List (Int×Int)):SeqAt.shaped (.list (prs.map pairD))=true/\PyData.depthAll (prs.map pairD)<=1/\PyData.canLayAll0 (prs.map pairD)=true:=by
 have h:PyData.depthAll (prs.map pairD)<=1/\PyData.canLayAll0 (prs.map pairD)=true:=by
  induction prs with
  |nil=>simp[PyData.depthAll,PyData.canLayAll0]
  |cons a r ih=>simp[pairD,PyData.depthAll,PyData.depth,PyData.canLayAll0,PyData.canLay0,ih.2];have:=ih.1;omega
 refine⟨?_,h⟩
 unfold SeqAt.shaped
 simp[PyData.canLay0,PyData.depth,h.2]
 omega
theorem L1(wd:List (Option Int)):PyData.depthAll (wd.map g7)=0/\PyData.canLayAll0 (wd.map g7)=true:=by
 induction wd with
 |nil=>simp[PyData.depthAll,PyData.canLayAll0]
 |cons a r ih=>cases a<;>simp[g7,PyData.depthAll,PyData.depth,PyData.canLayAll0,PyData.canLay0,ih.2,ih.1]
def vV(r:Int):Prop:=∀d:Int,2<=d->d*d<=r->r%d≠0
def uY:List Int:=[2,3,5,7,2,11,101,10007,65537,1000003,998244353,1000000007,2147483647,1000000000039,1000000000000000003,18446744073709551557,2305843009213693951,618970019642690137449562111,162259276829213363391578010288127,170141183460469231731687303715884105727,1000000000000000000000000000000000000003,9999999999999999999999999999999999999983]
def J6(p:Int):Prop:=2<=p/\p<10^40/\(p∈uY\/vV p)
def By:Sp:=fun vs H Q _=>∃n:Int,vs=[.int n]/\2<=n/\n<=10002/\∀(r:Int) (H':Hp),dW H H'->2<=r->r<=10100->vV r->Q (.int r) H'
def LJ:Sp:=fun vs H Q _=>∃(b l:Addr),vs=[.ref b]/\dM H b l/\∀(p:Int) (H':Hp),J6 p->bh (Nb b) H H'->dM H' b l->Q (.int p) H'
theorem qT{nb:Addr->Prop}{H:Hp}:∀is:List Int,ah nb H (is.map PyData.int) (is.map V.int)
 |[]=>ah.nil
 |i::is=>ah.cons (.int i) (qT is)
theorem nE{nb:Addr->Prop}{H:Hp}:∀{is:List Int} {xs:List V},ah nb H (is.map PyData.int) xs->xs=is.map V.int
  |[],_,h=>by unfold List.map ah at h;exact h
  | i :: is, _, h => by
    rw[aY] at h
    unfold ah at h
    obtain⟨y,ys,rfl,h1,h2⟩:=h
    rw[aY,h1.bX,nE h2]
end L2
set_option maxRecDepth 100000
set_option maxHeartbeats 1000000
namespace L2
open PySem PySem.Spec PyProof.Rows
abbrev Bg:=Option (Addr×Addr)
def NB(B:Bg)(a:Addr):Prop:=∀b l,B=some (b,l)->a≠b
def kD(B:Bg)(H:Hp):Prop:=∀b l,B=some (b,l)->dM H b l
def mF(nb:Addr->Prop)(H:Hp):Prop:=∀a,nb a->H a≠none
structure Kp(S:Addr->Prop)(F:List Addr)(H H':Hp):Prop where
 own:∀a∈F,∀o,H a=some o->H' a=some o
 lst:∀a xs,¬S a->H a=some (.lst xs)->H' a=some (.lst xs)
 tup:∀a xs,¬S a->H a=some (.tup xs)->H' a=some (.tup xs)
 bZ:∀a ps,¬S a->Rd H a (.dK ps)->Rd H' a (.dK ps)
theorem Kp.of{S:Addr->Prop}{F:List Addr}{H H':Hp}(h:∀a o,(¬S a\/a∈F)->H a=some o->H' a=some o):Kp S F H H':=
 ⟨fun a ha o e=>h a o (.inr ha) e,fun a xs n e=>h a _ (.inl n) e,fun a xs n e=>h a _ (.inl n) e,fun a ps n e=>e.elim (fun e=> .inl (h a _ (.inl n) e)) fun⟨o,e⟩=> .inr ⟨o,h a _ (.inl n) e⟩⟩
mutual
theorem ai.kp{S:Addr->Prop}{F:List Addr}{H H':Hp}(m:Kp S F H H'):∀{d:PyData} {v:V},ai S H d v->ai S H' d v
 | .none,_,h=>by unfold ai at h⊢;exact h
 | .bool _,_,h=>by unfold ai at h⊢;exact h
 | .int _,_,h=>by unfold ai at h⊢;exact h
 | .str _,_,h=>by unfold ai at h⊢;exact h
 | .list ds,_,h=>by unfold ai at h⊢;obtain⟨a,xs,e,n,s,r⟩:=h;exact⟨a,xs,e,n,m.lst _ _ n s,ah.kp m r⟩
 | .tuple ds,_,h=>by unfold ai at h⊢;obtain⟨a,xs,e,n,s,r⟩:=h;exact⟨a,xs,e,n,m.tup _ _ n s,ah.kp m r⟩
 | .dict kvs,_,h=>by unfold ai at h⊢;obtain⟨a,xs,e,n,s,r⟩:=h;exact⟨a,xs,e,n,m.bZ _ _ n s,aA.kp m r⟩
theorem ah.kp{S:Addr->Prop}{F:List Addr}{H H':Hp}(m:Kp S F H H'):∀{ds:List PyData} {vs:List V},ah S H ds vs->ah S H' ds vs
 |[],_,h=>by unfold ah at h⊢;exact h
 |d::ds,_,h=>by unfold ah at h⊢;obtain⟨y,ys,e,h1,h2⟩:=h;exact⟨y,ys,e,ai.kp m h1,ah.kp m h2⟩
theorem aA.kp{S:Addr->Prop}{F:List Addr}{H H':Hp}(m:Kp S F H H'):∀{ds:List (PyData×PyData)} {vs:List (Key×V)},aA S H ds vs->aA S H' ds vs
 |[],_,h=>by unfold aA at h⊢;exact h
 |d::ds,_,h=>by unfold aA at h⊢;obtain⟨y,ys,e,h1,h2⟩:=h;exact⟨y,ys,e,cV.kp m h1,aA.kp m h2⟩
theorem cV.kp{S:Addr->Prop}{F:List Addr}{H H':Hp}(m:Kp S F H H'):∀{d:PyData×PyData} {v:Key×V},cV S H d v->cV S H' d v
 |(k,d),_,h=>by unfold cV at h⊢;exact⟨h.1,ai.kp m h.2⟩
end
structure Cu where
 v:V
 F:List Addr
 f:Bool
 P:(Addr->Prop)->Hp->Prop
 keep:∀{S:Addr->Prop} {H H':Hp},Kp S F H H'->P S H->P S H'
 av:∀{S S':Addr->Prop} {H:Hp},(∀a,S' a->S a)->P S H->P S' H
 fresh:∀{S:Addr->Prop} {H:Hp} {p:Addr},H p=none->P S H->P (fun a=>S a\/a=p) H
inductive HD where
 |d (x:PyData)|fz (o:Obj) (ps:List (Key×V))|th (c:Cu)
def gQ(S:Addr->Prop)(H:Hp):HD->V->Prop
 | .d x,v=>ai S H x v
 | .fz o ps,v=>∃a,v= .ref a/\¬S a/\H a=some (.cA o (.dK ps))
 | .th c,v=>v=c.v/\(∀a∈c.F,¬S a/\H a≠none)/\c.P S H
theorem gQ.keep{S:Addr->Prop}{H H':Hp}{x:HD}{v:V}(h:gQ S H x v)(b:bh S H H'):gQ S H' x v:=by
  cases x with
  |d x=>exact ai.keep b h
  |fz o ps=>obtain⟨a,e,n,q⟩:=h;exact⟨a,e,n,b _ _ n q⟩
  | th c =>
    obtain⟨e,n,q⟩:=h
    refine⟨e,fun a m=>⟨(n a m).1,?_⟩,c.keep (.of fun a o m q=>b a o (m.elim id fun m=>(n a m).1) q) q⟩
    cases z:H a with
    |none=>exact absurd z (n a m).2
    |some o=>rw[b a o (n a m).1 z];exact je _
theorem gQ.av{S S':Addr->Prop}{H:Hp}{x:HD}{v:V}(h:gQ S H x v)(b:∀a,S' a->S a):gQ S' H x v:=by
 cases x with
 |d x=>exact ai.av b h
 |fz o ps=>obtain⟨a,e,n,q⟩:=h;exact⟨a,e,fun z=>n (b a z),q⟩
 |th c=>obtain⟨e,n,q⟩:=h;exact⟨e,fun a m=>⟨fun z=>(n a m).1 (b a z),(n a m).2⟩,c.av b q⟩
theorem gQ.fresh{S:Addr->Prop}{H:Hp}{x:HD}{v:V}{p:Addr}(h:gQ S H x v)(hp:H p=none):gQ (fun a=>S a\/a=p) H x v:=by
 cases x with
 |d x=>exact ai.fresh hp h
 |fz o ps=>obtain⟨a,e,n,q⟩:=h;exact⟨a,e,fun z=>z.elim n (jc q hp),q⟩
 |th c=>obtain⟨e,n,q⟩:=h;exact⟨e,fun a m=>⟨fun z=>z.elim (n a m).1 fun y=>(n a m).2 (by rw[y];exact hp),(n a m).2⟩,c.fresh hp q⟩
structure Gx where
 B:Bg
 H0:Hp
 A:Addr->Prop
 hold:List (Bool×HD×V):=[]
inductive Sl where
 |no|d (f:Bool) (d:PyData)|own (a:Addr) (f:Bool) (ds:List PyData)|ay|raw (v:V)|bZ (a:Addr) (f:Bool) (ks:List (Int×PyData))|cu (c:Cu)
def Sl.adr:Sl->List Addr
 | .own a _ _=>[a]
 | .bZ a _ _=>[a]
 | .cu c=>c.F
 |_=>[]
@[reducible] def bI(p:Int×PyData):PyData×PyData:=(.int p.1,p.2)
abbrev Rh:=List Sl
def Gx.S(G:Gx)(nb:Addr->Prop)(f:Bool):Addr->Prop:=fun a=>nb a\/G.A a\/¬NB G.B a\/(f=true/\G.H0 a≠none)
def nZ(G:Gx)(nb:Addr->Prop)(H:Hp)(x:Option V):Sl->Prop
 | .no=>True
 | .d f d=>∃v,x=some v/\ai (G.S nb f) H d v
 | .own a f ds=>x=some (.ref a)/\nb a/\NB G.B a/\∃xs,H a=some (.lst xs)/\ah (G.S nb f) H ds xs
 | .ay=>∃b l,G.B=some (b,l)/\x=some (.ref b)
 | .raw v=>x=some v
 | .bZ a f ks=>x=some (.ref a)/\nb a/\NB G.B a/\∃ps,H a=some (.dK ps)/\aA (G.S nb f) H (ks.map bI) ps
 | .cu c=>x=some c.v/\(∀a∈c.F,nb a/\NB G.B a)/\c.P (G.S nb c.f) H
structure Wd(G:Gx)(nb:Addr->Prop)(ρ:Rh)(σ:St)(H:Hp):Prop where
 ay:kD G.B H
 live:mF nb H
 old:∀a o,NB G.B a->G.H0 a=some o->H a=some o
 dH:∀a,nb a->NB G.B a->G.H0 a=none
 gA:mF G.A G.H0
 len:σ.length=ρ.length
 gB:kD G.B G.H0
 fj:∀h∈G.hold,gQ (G.S nb h.1) H h.2.1 h.2.2
 ok:∀(i:Nat) (s:Sl),ρ[i]?=some s->∃x,σ[i]?=some x/\nZ G nb H x s
 apart:∀(i j:Nat) a f as c g cs,i≠j->ρ[i]?=some (.own a f as)->ρ[j]?=some (.own c g cs)->a≠c
 fG:∀(i j:Nat) a f as c g cs,i≠j->ρ[i]?=some (.bZ a f as)->ρ[j]?=some (.bZ c g cs)->a≠c
 dJ:∀(i j:Nat) c s,i≠j->ρ[i]?=some (.cu c)->ρ[j]?=some s->∀a∈c.F,a∉s.adr
def Step(B:Bg)(H H':Hp):Prop:=(∀a o,NB B a->H a=some o->H' a=some o)/\kD B H'
section
variable{G:Gx}{B:Bg}{nb:Addr->Prop}{ρ:Rh}{σ:St}{H H1 H2 H':Hp}{f g:Bool}{d:PyData}{ds:List PyData}{v:V}{xs:List V}{a p:Addr}
theorem Step.refl(h:kD B H):Step B H H:=⟨fun _ _ _ e=>e,h⟩
theorem Step.trans(x:Step B H H1)(y:Step B H1 H2):Step B H H2:=⟨fun a o n e=>y.1 a o n (x.1 a o n e),y.2⟩
theorem kD.same(h:kD B H)(s:dW H H'):kD B H':=fun b l e=>(h b l e).same s
theorem Step.same(h:kD B H)(s:dW H H'):Step B H H':=⟨fun a o _ e=>s a o e,h.same s⟩
theorem Step.but{cM:Addr->Prop}(s:Step B H H')(h:∀a,¬NB B a->cM a):bh cM H H':=fun a o n e=>s.1 a o (fS fun z=>n (h a z)) e
theorem Step.dX(s:Step G.B H H'):bh (G.S nb f) H H':=s.but fun a h=> .inr (.inr (.inl h))
theorem bK(h:g=true->f=true){cM:Addr->Prop}(hn:∀a,nb a->cM a):∀a,G.S nb g a->G.S cM f a:=by
 intro a z
 rcases z with z|z|z|⟨z,q⟩
 ·exact .inl (hn a z)
 ·exact .inr (.inl z)
 ·exact .inr (.inr (.inl z))
 ·exact .inr (.inr (.inr ⟨h z,q⟩))
theorem NB.oQ(h:kD B H)(n:¬NB B a):H a≠none:=by
 intro e
 apply n
 intro b l hb z
 subst z
 obtain⟨_,_,_,_,_,h1,_⟩:=h _ _ hb
 rw[h1] at e;cases e
theorem Wd.nL(W:Wd G nb ρ σ H):mF (G.S nb f) H:=by
 intro a z
 rcases z with z|z|z|⟨_,z⟩
 ·exact W.live a z
 ·by_cases n:NB G.B a
  ·cases e:G.H0 a with
   |none=>exact absurd e (W.gA a z)
   |some o=>rw[W.old a o n e];exact je _
  ·exact NB.oQ W.ay n
 ·exact NB.oQ W.ay z
 ·by_cases n:NB G.B a
  ·cases e:G.H0 a with
   |none=>exact absurd e z
   |some o=>rw[W.old a o n e];exact je _
  ·exact NB.oQ W.ay n
theorem Wd.fresh(W:Wd G nb ρ σ H)(hp:H p=none):¬G.S nb f p:=fun z=>W.nL p z hp
theorem nZ.step{x:Option V}{s:Sl}(st:Step G.B H H')(h:nZ G nb H x s):nZ G nb H' x s:=by
  cases s with
  |no=>trivial
  |d f d=>obtain⟨v,e,h⟩:=h;exact⟨v,e,h.keep st.dX⟩
  |own a f ds=>obtain⟨e,n,q,xs,hx,hd⟩:=h;exact⟨e,n,q,xs,st.1 _ _ q hx,hd.keep st.dX⟩
  |ay=>exact h
  |raw v=>exact h
  |bZ a f ks=>obtain⟨e,n,q,xs,hx,hd⟩:=h;exact⟨e,n,q,xs,st.1 _ _ q hx,hd.keep st.dX⟩
  | cu c =>
    obtain⟨e,n,p⟩:=h
    refine⟨e,n,c.keep (.of fun a o ha e=>st.1 a o ?_ e) p⟩
    rcases ha with ha|ha
    · exact fS fun z=>ha (.inr (.inr (.inl z)))
    · exact(n a ha).2
theorem L5(n:NB B a)(st:Step B H H')(h:H a≠none):H' a≠none:=by
 cases e:H a with
 |none=>exact absurd e h
 |some o=>rw[st.1 a o n e];exact je _
theorem Wd.step(W:Wd G nb ρ σ H)(st:Step G.B H H'):Wd G nb ρ σ H' where
 ay:=st.2
 live:=fun a n=>by
  by_cases q:NB G.B a
  ·exact L5 q st (W.live a n)
  ·exact NB.oQ st.2 q
 old:=fun a o n e=>st.1 a o n (W.old a o n e)
 dH:=W.dH
 gA:=W.gA
 len:=W.len
 gB:=W.gB
 fj:=fun h m=>(W.fj h m).keep st.dX
 ok:=fun i s e=>by
  obtain⟨x,e1,h⟩:=W.ok i s e
  exact⟨x,e1,h.step st⟩
 apart:=W.apart
 fG:=W.fG
 dJ:=W.dJ
theorem Wd.set{i:Nat}{s:Sl}{x:Option V}(W:Wd G nb ρ σ H)(h:nZ G nb H x s)(hs:∀a f ds,s= .own a f ds->∀j c g cs,j≠i->ρ[j]?=some (.own c g cs)->a≠c)(hd:∀a f ds,s= .bZ a f ds->∀j c g cs,j≠i->ρ[j]?=some (.bZ c g cs)->a≠c:=by intro _ _ _ z;cases z)(hcu:∀a∈s.adr,∀j t,j≠i->ρ[j]?=some t->(∃c,s= .cu c)\/(∃c,t= .cu c)->a∉t.adr:=by intro _ z;cases z):Wd G nb (ρ.set i s) (σ.set i x) H where
 ay:=W.ay
 live:=W.live
 old:=W.old
 dH:=W.dH
 gA:=W.gA
 len:=by rw[gb,gb];exact W.len
 gB:=W.gB
 fj:=W.fj
 ok:=fun j t e=>by
  by_cases hij:i=j
  ·subst hij
   have hl:i<ρ.length:=by have:=(aP.mp e).1;rwa[gb] at this
   rw[cX hl] at e
   cases e
   exact⟨x,cX (by rw[W.len];exact hl),h⟩
  ·rw[bP hij] at e⊢
   exact W.ok j t e
 apart:=fun j k a f as c g cs hjk e1 e2=>by
  by_cases hj:i=j
  ·subst hj
   have hl:i<ρ.length:=by have:=(aP.mp e1).1;rwa[gb] at this
   rw[cX hl] at e1
   cases e1
   rw[bP hjk] at e2
   exact hs a f as rfl k c g cs (bx hjk) e2
  ·by_cases hk:i=k
   ·subst hk
    have hl:i<ρ.length:=by have:=(aP.mp e2).1;rwa[gb] at this
    rw[cX hl] at e2
    cases e2
    rw[bP hj] at e1
    exact(hs c g cs rfl j a f as hjk e1).symm
   ·rw[bP hj] at e1
    rw[bP hk] at e2
    exact W.apart j k a f as c g cs hjk e1 e2
 fG:=fun j k a f as c g cs hjk e1 e2=>by
  by_cases hj:i=j
  ·subst hj
   have hl:i<ρ.length:=by have:=(aP.mp e1).1;rwa[gb] at this
   rw[cX hl] at e1
   cases e1
   rw[bP hjk] at e2
   exact hd a f as rfl k c g cs (bx hjk) e2
  ·by_cases hk:i=k
   ·subst hk
    have hl:i<ρ.length:=by have:=(aP.mp e2).1;rwa[gb] at this
    rw[cX hl] at e2
    cases e2
    rw[bP hj] at e1
    exact(hd c g cs rfl j a f as hjk e1).symm
   ·rw[bP hj] at e1
    rw[bP hk] at e2
    exact W.fG j k a f as c g cs hjk e1 e2
 dJ:=fun j k c t hjk e1 e2 a ha=>by
  by_cases hj:i=j
  ·subst hj
   have hl:i<ρ.length:=by have:=(aP.mp e1).1;rwa[gb] at this
   rw[cX hl] at e1
   cases e1
   rw[bP hjk] at e2
   exact hcu a ha k t (bx hjk) e2 (.inl ⟨c,rfl⟩)
  ·by_cases hk:i=k
   ·subst hk
    have hl:i<ρ.length:=by have:=(aP.mp e2).1;rwa[gb] at this
    rw[cX hl] at e2
    cases e2
    rw[bP hj] at e1
    exact fun z=>hcu a z j (.cu c) hjk e1 (.inr ⟨c,rfl⟩) ha
   ·rw[bP hj] at e1
    rw[bP hk] at e2
    exact W.dJ j k c t hjk e1 e2 a ha
theorem Wd.nk{i:Nat}(W:Wd G nb ρ σ H)(h:ai (G.S nb f) H d v):Wd G nb (ρ.set i (.d f d)) (σ.set i (some v)) H:=W.set ⟨v,rfl,h⟩ fun _ _ _ e=>by cases e
inductive Wk:Rh->Rh->Prop
 |nil:Wk [] []
 |no {s:Sl} {r r':Rh} (h:Wk r r'):Wk (.no::r) (s::r')
 |eq {s:Sl} {r r':Rh} (h:Wk r r'):Wk (s::r) (s::r')
theorem Wk.at:∀{r r':Rh} {i:Nat} {s:Sl},Wk r r'->r[i]?=some s->s= .no/\(∃t,r'[i]?=some t)\/r'[i]?=some s
 |_,_,_,_, .nil,e=>by simp at e
 |_,_,0,_, .no h,e=>by simp at e;subst e;exact .inl ⟨rfl,_,rfl⟩
 |_,_,0,_, .eq h,e=>by simp at e;subst e;exact .inr rfl
 |_,_,i+1,_, .no h,e=>by simpa using Wk.at (i:=i) h (by simpa using e)
 |_,_,i+1,_, .eq h,e=>by simpa using Wk.at (i:=i) h (by simpa using e)
theorem Wk.len{r r':Rh}(h:Wk r r'):r.length=r'.length:=by
 induction h with
 |nil=>rfl
 |no _ ih=>simp[ih]
 |eq _ ih=>simp[ih]
theorem Wd.wk{ρ':Rh}(W:Wd G nb ρ' σ H)(h:Wk ρ ρ'):Wd G nb ρ σ H where
 ay:=W.ay
 live:=W.live
 old:=W.old
 dH:=W.dH
 gA:=W.gA
 len:=by rw[h.len];exact W.len
 gB:=W.gB
 fj:=W.fj
 ok:=fun i s e=>by
  rcases h.at e with ⟨rfl,t,e'⟩|e'
  ·obtain⟨x,e1,_⟩:=W.ok i t e';exact⟨x,e1,trivial⟩
  ·exact W.ok i s e'
 apart:=fun i j a f as c g cs hij e1 e2=>by
  rcases h.at e1 with ⟨z,_⟩|jm
  ·cases z
  rcases h.at e2 with ⟨z,_⟩|e2'
  ·cases z
  exact W.apart i j a f as c g cs hij jm e2'
 fG:=fun i j a f as c g cs hij e1 e2=>by
  rcases h.at e1 with ⟨z,_⟩|jm
  ·cases z
  rcases h.at e2 with ⟨z,_⟩|e2'
  ·cases z
  exact W.fG i j a f as c g cs hij jm e2'
 dJ:=fun i j c s hij e1 e2 a ha=>by
  rcases h.at e1 with ⟨z,_⟩|jm
  ·cases z
  rcases h.at e2 with ⟨z,_⟩|e2'
  ·subst z;exact fun z=>by cases z
  exact W.dJ i j c s hij jm e2' a ha
theorem Wd.more(W:Wd G nb ρ σ H)(hp:H p=none){o:HO}:Wd G (fun a=>nb a\/a=p) ρ σ (upd H p o):=by
 have hS:dW H (upd H p o):=dR hp
 have hN:NB G.B p:=fun b l e z=>by
  subst z
  obtain⟨_,_,_,_,_,h1,_⟩:=W.ay _ _ e
  rw[h1] at hp;cases hp
 have W':=W.step (Step.same W.ay hS)
 have hA:∀f a,G.S (fun a=>nb a\/a=p) f a->(G.S nb f a\/a=p):=fun f a z=>by
  rcases z with (z|z)|z|z|z
  ·exact .inl (.inl z)
  ·exact .inr z
  ·exact .inl (.inr (.inl z))
  ·exact .inl (.inr (.inr (.inl z)))
  ·exact .inl (.inr (.inr (.inr z)))
 refine⟨W'.ay,fun a n=>?_,W'.old,fun a n q=>?_,W.gA,W.len,W.gB,fun h m=>(((W.fj h m).fresh hp).av (hA h.1)).keep (bh.of hS),fun i s e=>?_,W.apart,W.fG,W.dJ⟩
 ·rcases n with n|n
  ·exact W'.live a n
  ·subst n;rw[aX];exact je _
 ·rcases n with n|n
  ·exact W.dH a n q
  ·subst n
   cases e:G.H0 a with
   |none=>rfl
   |some o=>rw[W.old a o q e] at hp;cases hp
 ·obtain⟨x,e1,h⟩:=W.ok i s e
  refine⟨x,e1,?_⟩
  cases s with
  |no=>trivial
  |d f d=>obtain⟨v,e,h⟩:=h;exact⟨v,e,((h.fresh hp).av (hA f)).keep (bh.of hS)⟩
  |own a f ds=>obtain⟨e,n,q,xs,hx,hd⟩:=h;exact⟨e, .inl n,q,xs,hS _ _ hx,((hd.fresh hp).av (hA f)).keep (bh.of hS)⟩
  |ay=>exact h
  |raw v=>exact h
  |bZ a f ds=>obtain⟨e,n,q,xs,hx,hd⟩:=h;exact⟨e, .inl n,q,xs,hS _ _ hx,((hd.fresh hp).av (hA f)).keep (bh.of hS)⟩
  |cu c=>obtain⟨e,n,q⟩:=h;exact⟨e,fun a ha=>⟨.inl (n a ha).1,(n a ha).2⟩,c.keep (.of fun a o _ e=>hS a o e) (c.av (hA c.f) (c.fresh hp q))⟩
theorem Wd.write(W:Wd G nb ρ σ H){o:HO}(hp:nb p)(hN:NB G.B p)(ho:∀(i:Nat) a f ds,ρ[i]?=some (.own a f ds)->a≠p)(hod:∀(i:Nat) a f ds,ρ[i]?=some (.bZ a f ds)->a≠p)(hoc:∀(i:Nat) c,ρ[i]?=some (.cu c)->p∉c.F):Wd G nb ρ σ (upd H p o):=by
  have hl:∀b l,G.B=some (b,l)->p≠l:=fun b l e z=>by
    obtain⟨_,_,_,_,_,_,h2,_⟩:=W.gB b l e
    rw[<-z,W.dH p hp hN] at h2;cases h2
  have hB:kD G.B (upd H p o):=fun b l e=>(W.ay b l e).put2 ⟨hN b l e,hl b l e⟩
  have bt:∀f,bh (G.S nb f) H (upd H p o):=fun f=>bh.set (.inl hp)
  refine⟨hB,fun a n=>?_,fun a o' n e=>?_,W.dH,W.gA,W.len,W.gB,fun h m=>(W.fj h m).keep (bt h.1),fun i s e=>?_,W.apart,W.fG,W.dJ⟩
  · by_cases z:a=p
    · subst z;rw[aX];exact je _
    · rw[au z];exact W.live a n
  · have z:a≠p:=fun z=>by subst z;rw[W.dH a hp n] at e;cases e
    rw[au z];exact W.old a o' n e
  · obtain⟨x,e1,h⟩:=W.ok i s e
    refine⟨x,e1,?_⟩
    cases s with
    |no=>trivial
    |d f d=>obtain⟨v,e,h⟩:=h;exact⟨v,e,h.keep (bt f)⟩
    |own a f ds=>obtain⟨e',n,q,xs,hx,hd⟩:=h;exact⟨e',n,q,xs,by rw[au (ho i a f ds e)];exact hx,hd.keep (bt f)⟩
    |ay=>exact h
    |raw v=>exact h
    |bZ a f ds=>obtain⟨e',n,q,xs,hx,hd⟩:=h;exact⟨e',n,q,xs,by rw[au (hod i a f ds e)];exact hx,hd.keep (bt f)⟩
    | cu c =>
      obtain⟨e',n,q⟩:=h
      refine⟨e',n,c.keep (.of fun a o' ha e''=>?_) q⟩
      rw[au]
      · exact e''
      · rintro rfl
        rcases ha with ha|ha
        · exact ha (.inl hp)
        · exact hoc i c e ha
end
end L2
set_option maxRecDepth 100000
set_option maxHeartbeats 1000000
namespace L2
open PySem PySem.Spec PyProof.Rows
abbrev Pd:=Bool->PyData->Prop
def Ev(G:Gx)(ρ:Rh)(te:TE)(Φ:Pd):Prop:=∀nb σ H (Q:VK),Wd G nb ρ σ H->(∀f v H' d,Φ f d->Step G.B H H'->ai (G.S nb f) H' d v->Q v H')->te σ H Q
def aC(G:Gx)(ρ:Rh)(te:TE)(Φ:Bool->List PyData->Prop):Prop:=∀nb σ H (Q:VK),Wd G nb ρ σ H->
 (∀f a xs H' ds,Φ f ds->Step G.B H H'->H a=none->H' a=some (.lst xs)->ah (fun x=>G.S nb f x\/x=a) H' ds xs->Q (.ref a) H')->te σ H Q
def Tv(G:Gx)(ρ:Rh)(tt:TT)(Φ:Bool->Prop):Prop:=∀nb σ H (Q:Bool->Hp->Prop),Wd G nb ρ σ H->(∀b H',Φ b->Step G.B H H'->Q b H')->tt σ H Q
def Ov(G:Gx)(ρ:Rh)(to:TO)(Φ:Option Int->Prop):Prop:=∀nb σ H (Q:Option Int->Hp->Prop),Wd G nb ρ σ H->(∀o H',Φ o->Step G.B H H'->Q o H')->to σ H Q
abbrev Fd:=Bool×PyData
def kH(G:Gx)(nb:Addr->Prop)(H:Hp):List Fd->List V->Prop
 |[],vs=>vs=[]
 |e::es,vs=>∃v ws,vs=v::ws/\ai (G.S nb e.1) H e.2 v/\kH G nb H es ws
def Av(G:Gx)(ρ:Rh)(ta:TA)(Φ:List Fd->Prop):Prop:=∀nb σ H (Q:List V->Hp->Prop),Wd G nb ρ σ H->(∀es vs H',Φ es->Step G.B H H'->kH G nb H' es vs->Q vs H')->ta σ H Q
def Gv(G:Gx)(ρ:Rh)(g:TG)(f:Bool)(d:PyData)(Φ:Rh->Prop):Prop:=∀nb σ H v (Q:St->Hp->Prop),Wd G nb ρ σ H->ai (G.S nb f) H d v->(∀σ' ρ',Φ ρ'->Wd G nb ρ' σ' H->Q σ' H)->g v σ H Q
def mO(G:Gx)(ρ:Rh)(g:iW)(f:Bool)(ds:List PyData)(Φ:Rh->Prop):Prop:=∀nb σ H vs (Q:St->Hp->Prop),Wd G nb ρ σ H->ah (G.S nb f) H ds vs->(∀σ' ρ',Φ ρ'->Wd G nb ρ' σ' H->Q σ' H)->g vs σ H Q
structure DE where
 nx:Rh->Prop
 rt:Pd
 bk:Rh->Prop:=fun _=>False
 ct:Rh->Prop:=fun _=>False
 rw:(Addr->Prop)->Rh->V->Hp->Prop:=fun _ _ _ _=>False
structure xA(G:Gx)(E:DE)(D:Ends):Prop where
 nx:∀nb ρ σ H,E.nx ρ->Wd G nb ρ σ H->D.nx σ H
 bk:∀nb ρ σ H,E.bk ρ->Wd G nb ρ σ H->D.bk σ H
 ct:∀nb ρ σ H,E.ct ρ->Wd G nb ρ σ H->D.ct σ H
 rt:∀nb ρ σ f v H d,E.rt f d->Wd G nb ρ σ H->ai (G.S (fun _=>False) f) H d v->D.rt v H
 rw:∀nb ρ σ v H,E.rw nb ρ v H->Wd G nb ρ σ H->D.rt v H
def Sv(G:Gx)(ρ:Rh)(ts:TS)(E:DE):Prop:=∀nb σ H D,Wd G nb ρ σ H->xA G E D->ts D σ H
def j9:PyData->Bool
 | .none=>true| .bool _=>true| .int _=>true| .str _=>true|_=>false
def toV:PyData->V
 | .bool b=> .bl b| .int i=> .int i| .str x=> .str x|_=> .aT
section
variable{nb cM:Addr->Prop}{H H':Hp}{d e:PyData}{v:V}
theorem ai.sc(h:j9 d=true):ai nb H d (toV d):=by
 cases d<;>first|(cases h;done)|(unfold ai;rfl)
theorem ai.Yv(h:j9 d=true)(q:ai nb H d v):v=toV d:=by
 cases d<;>first|(cases h;done)|(unfold ai at q;exact q)
theorem ai.m7(h:j9 d=true)(q:ai nb H d v):ai cM H' d v:=by
 rw[q.Yv h];exact .sc h
theorem ah.m7:∀{ds:List PyData} {xs:List V},ds.all j9=true->ah nb H ds xs->ah cM H' ds xs
  |[],_,_,q=>by unfold ah at q⊢;exact q
  | d :: ds, _, h, q => by
    rw[qa,cD] at h
    unfold ah at q⊢
    obtain⟨y,ys,e,h1,h2⟩:=q
    exact⟨y,ys,e,h1.m7 h.1,ah.m7 h.2 h2⟩
end
section
variable{G:Gx}{ρ:Rh}{Φ Ψ:Pd}{ta tb te:TE}{t:TA}{i:Nat}{f g:Bool}{d e:PyData}{ds es:List PyData}{K:PySem.W.Frag}
theorem Ev.mono(h:Ev G ρ te Ψ)(q:∀f d,Ψ f d->Φ f d):Ev G ρ te Φ:=fun nb σ H Q W z=>h nb σ H Q W fun f v H' d p=>z f v H' d (q f d p)
theorem aC.ev(h:aC G ρ te fun f ds=>Φ f (.list ds)):Ev G ρ te Φ:=fun nb σ H Q W z=>h nb σ H Q W fun f a xs H' ds p st n e hd=>
 z f _ H' _ p st (.lst (W.fresh n) e (hd.av fun _ x=> .inl x))
namespace Ev
theorem var(e:ρ[i]?=some (.d f d))(h:Φ f d):Ev G ρ (cQ i) Φ:=fun nb σ H Q W z=>by
 obtain⟨x,e1,v,rfl,hd⟩:=W.ok i _ e
 exact⟨v,e1,z f v H d h (.refl W.ay) hd⟩
theorem int{n:Int}(h:Φ true (.int n)):Ev G ρ (tC (.int n)) Φ:=fun nb σ H Q W z=>z true _ H _ h (.refl W.ay) (.int n)
theorem bl{b:Bool}(h:Φ true (.bool b)):Ev G ρ (tC (.bl b)) Φ:=fun nb σ H Q W z=>z true _ H _ h (.refl W.ay) (.bl b)
theorem aT(h:Φ true .none):Ev G ρ (tC .aT) Φ:=fun nb σ H Q W z=>z true _ H _ h (.refl W.ay) .aT
theorem jD{r:R2}(h:Ev G ρ ta fun f x=>Ev G ρ tb fun g y=>∀nb σ H u v (Q:VK),Wd G nb ρ σ H->ai (G.S nb f) H x u->ai (G.S nb g) H y v->(∀f w H' d,Φ f d->Step G.B H H'->ai (G.S nb f) H' d w->Q w H')->r u v H Q):Ev G ρ (c6 r ta tb) Φ:=fun nb σ H Q W z=>
 h nb σ H _ W fun f v1 H1 d1 p1 s1 q1=>p1 nb σ H1 _ (W.step s1) fun g v2 H2 d2 p2 s2 q2=>p2 nb σ H2 _ _ _ ((W.step s1).step s2) (q1.keep s2.dX) q2 fun f w H' d p st q=>z f w H' d p (s1.trans (s2.trans st)) q
theorem rI{C:Int->Int->Prop}{k:Int->Int->Int}(h:Ev G ρ ta fun _ x=>∃i,x= .int i/\Ev G ρ tb fun _ y=>∃j,y= .int j/\C i j/\Φ true (.int (k i j))):Ev G ρ (c6 (L2.rI C fun i j=> .int (k i j)) ta tb) Φ:=
 jD (h.mono fun f x ⟨i,ex,q⟩=>q.mono fun g y ⟨j,ey,hc,p⟩ nb σ H u v Q W hu hv z=>by
  subst ex ey;exact⟨i,j,hu.bX,hv.bX,hc,z true _ H _ p (.refl W.ay) (.int _)⟩)
theorem iG{k:Int->Int->Int}(h:Ev G ρ ta fun _ x=>∃i,x= .int i/\Ev G ρ tb fun _ y=>∃j,y= .int j/\Φ true (.int (k i j))):Ev G ρ (c6 (L2.iG fun i j=> .int (k i j)) ta tb) Φ:=
 jD (h.mono fun f x ⟨i,ex,q⟩=>q.mono fun g y ⟨j,ey,p⟩ nb σ H u v Q W hu hv z=>by
  subst ex ey;exact⟨i,j,hu.bX,hv.bX,z true _ H _ p (.refl W.ay) (.int _)⟩)
theorem M7{k:Int->Int->Bool}(h:Ev G ρ ta fun _ x=>∃i,x= .int i/\Ev G ρ tb fun _ y=>∃j,y= .int j/\Φ true (.bool (k i j))):Ev G ρ (c6 (L2.iG fun i j=> .bl (k i j)) ta tb) Φ:=
 jD (h.mono fun f x ⟨i,ex,q⟩=>q.mono fun g y ⟨j,ey,p⟩ nb σ H u v Q W hu hv z=>by
  subst ex ey;exact⟨i,j,hu.bX,hv.bX,z true _ H _ p (.refl W.ay) (.bl _)⟩)
theorem un{r:V->Hp->VK->Prop}(h:Ev G ρ ta fun f x=>∀nb σ H u (Q:VK),Wd G nb ρ σ H->ai (G.S nb f) H x u->(∀f w H' d,Φ f d->Step G.B H H'->ai (G.S nb f) H' d w->Q w H')->r u H Q):Ev G ρ (KY r ta) Φ:=fun nb σ H Q W z=>
 h nb σ H _ W fun f v1 H1 d1 p1 s1 q1=>p1 nb σ H1 _ _ (W.step s1) q1 fun f w H' d p st q=>z f w H' d p (s1.trans st) q
end Ev
inductive g8:PyData->PyData->Bool->Prop
 |ii (i j:Int):g8 (.int i) (.int j) (decide (i=j))
 |ni (i:Int):g8 .none (.int i) false
 |Y8 (i:Int):g8 (.int i) .none false
 |nn:g8 .none .none true
 |bb (a b:Bool):g8 (.bool a) (.bool b) (a==b)
 |ss (x:Str):g8 (.str x) (.str x) true
 |sd (x y:Str):g8 (.str x) (.str y) (decide (x=y))
theorem g8.v{nb cM:Addr->Prop}{H:Hp}{x y:PyData}{b:Bool}{u v:V}(h:g8 x y b)(hu:ai nb H x u)(hv:ai cM H y v):Bd u v=true/\decide (u=v)=b:=by
 cases h<;>(unfold ai at hu hv;subst hu hv;refine⟨rfl,?_⟩)
 ·exact R.yz
 ·rfl
 ·rfl
 ·rfl
 ·rename_i a b;cases a<;>cases b<;>rfl
 ·exact decide_eq_true rfl
 ·rename_i x y
  by_cases c:x=y
  ·subst c;rw[decide_eq_true rfl,decide_eq_true rfl]
  ·rw[decide_eq_false c,decide_eq_false (fun z=>c (V.str.inj z))]
theorem g8.self{d:PyData}(h:j9 d=true):g8 d d true:=by
 cases d<;>first|(cases h;done)|skip
 ·exact .nn
 ·rename_i b;have:=g8.bb b b;rwa[beq_self_eq_true] at this
 ·rename_i i;have:=g8.ii i i;rwa[decide_eq_true rfl] at this
 ·exact .ss _
namespace Ev
theorem eq(h:Ev G ρ ta fun _ x=>Ev G ρ tb fun _ y=>∃b,g8 x y b/\Φ true (.bool b)):Ev G ρ (c6 xR ta tb) Φ:=
 jD (h.mono fun f x q=>q.mono fun g y ⟨b,e,p⟩ nb σ H u v Q W hu hv z=>by
  obtain⟨h1,h2⟩:=e.v hu hv
  exact⟨h1,by rw[h2];exact z true _ H _ p (.refl W.ay) (.bl _)⟩)
theorem ne(h:Ev G ρ ta fun _ x=>Ev G ρ tb fun _ y=>∃b,g8 x y b/\Φ true (.bool !b)):Ev G ρ (c6 CS ta tb) Φ:=
 jD (h.mono fun f x q=>q.mono fun g y ⟨b,e,p⟩ nb σ H u v Q W hu hv z=>by
  obtain⟨h1,h2⟩:=e.v hu hv
  exact⟨h1,by rw[h2];exact z true _ H _ p (.refl W.ay) (.bl _)⟩)
theorem Ga{ng:Bool}(h:Ev G ρ ta fun _ x=>Ev G ρ tb fun _ y=>SeqAt.shaped x=true/\SeqAt.shaped y=true/\Φ true (.bool (PyData.eqv x y !=ng))):Ev G ρ (c6 (uI ng) ta tb) Φ:=
 jD (h.mono fun f x q=>q.mono fun g y ⟨h1,h2,p⟩ nb σ H u v Q W hu hv z=>
  ⟨G.S nb false,x,y,hu.av (bK (fun z=>by cases z) fun _ z=>z),hv.av (bK (fun z=>by cases z) fun _ z=>z),h1,h2,z true _ H _ p (.refl W.ay) (.bl _)⟩)
end Ev
def rG:PyData->Bool
 | .none=>true
 |_=>false
theorem Gi{nb:Addr->Prop}{H:Hp}{d:PyData}{v:V}(h:ai nb H d v):decide (v= .aT)=rG d:=by
 cases d<;>unfold ai at h
 all_goals first
  |(subst h;rfl)
  |(obtain⟨a,xs,rfl,_⟩:=h;rfl)
  |exact h.elim
namespace Ev
theorem is(h:Ev G ρ ta fun _ x=>Φ true (.bool (rG x))):Ev G ρ (c6 HB ta (tC .aT)) Φ:=
 jD (h.mono fun f x p=>Ev.aT fun nb σ H u v Q W hu hv z=>⟨hv.C3,by rw[Gi hu];exact z true _ H _ p (.refl W.ay) (.bl _)⟩)
theorem O3(h:Ev G ρ ta fun _ x=>Φ true (.bool !rG x)):Ev G ρ (c6 wg ta (tC .aT)) Φ:=
 jD (h.mono fun f x p=>Ev.aT fun nb σ H u v Q W hu hv z=>⟨hv.C3,by rw[Gi hu];exact z true _ H _ p (.refl W.ay) (.bl _)⟩)
end Ev
theorem ah.bN{nb:Addr->Prop}{H:Hp}{ds:List PyData}{xs:List V}{k:Int}{e:PyData}(h:ah nb H ds xs)(q:L2.bN ds k=some e):∃v,L2.bN xs k=some v/\ai nb H e v:=by
 unfold L2.bN at q⊢
 rw[h.length]
 cases z:fy ds.length k with
 |none=>rw[z] at q;cases q
 |some j=>rw[z] at q;exact h.get q
namespace Ev
theorem Ym(h:Ev G ρ ta fun f x=>∃ds,x= .list ds/\Ev G ρ tb fun _ y=>∃k,y= .int k/\∃e,bN ds k=some e/\Φ f e):Ev G ρ (c6 (cF K) ta tb) Φ:=
 jD (h.mono fun f x ⟨ds,ex,q⟩=>q.mono fun g y ⟨k,ey,e,he,p⟩ nb σ H u v Q W hu hv z=>by
  subst ex ey
  obtain⟨a,xs,rfl,n,hx,hd⟩:=hu.fB
  obtain⟨w,hw,hD⟩:=hd.bN he
  exact⟨a,xs,k,w,rfl,hv.bX, .of hx,hw,z f _ H _ p (.refl W.ay) hD⟩)
theorem SO(h:Ev G ρ ta fun f x=>∃ds,x= .tuple ds/\Ev G ρ tb fun _ y=>∃k,y= .int k/\∃e,bN ds k=some e/\Φ f e):Ev G ρ (c6 (c5 K) ta tb) Φ:=
 jD (h.mono fun f x ⟨ds,ex,q⟩=>q.mono fun g y ⟨k,ey,e,he,p⟩ nb σ H u v Q W hu hv z=>by
  subst ex ey
  obtain⟨a,xs,rfl,n,hx,hd⟩:=hu.ofT
  obtain⟨w,hw,hD⟩:=hd.bN he
  exact⟨a,xs,k,w,rfl,hv.bX, .of hx,hw,z f _ H _ p (.refl W.ay) hD⟩)
theorem Qu{a:Addr}(e:ρ[i]?=some (.own a f ds))(h:Ev G ρ tb fun _ y=>∃k,y= .int k/\∃e,bN ds k=some e/\Φ f e):Ev G ρ (c6 (cF K) (cQ i) tb) Φ:=fun nb σ H Q W z=>by
 obtain⟨x,e1,h1,h2,h3,xs,hx,hd⟩:=W.ok i _ e
 subst h1
 refine⟨.ref a,e1,h nb σ H _ W fun g w H1 y ⟨k,ey,e',he,p⟩ s1 hv=>?_⟩
 subst ey
 obtain⟨u,hu,hD⟩:=(hd.keep s1.dX).bN he
 exact⟨a,xs,k,u,rfl,hv.bX, .of (s1.1 _ _ h3 hx),hu,z f _ H1 _ p s1 hD⟩
theorem RN(h:Ev G ρ ta fun _ x=>∃b,x= .bool b/\if b=true then Ev G ρ tb Φ else Φ true (.bool false)):Ev G ρ (HW ta tb) Φ:=fun nb σ H Q W z=>
 h nb σ H _ W fun f v H1 d ⟨b,e,q⟩ s1 hv=>by
  subst e
  refine⟨b,by unfold ai at hv;exact hv,?_⟩
  cases b with
  |true=>rw[if_pos rfl] at q⊢;exact q nb σ H1 _ (W.step s1) fun f v H' d p st=>z f v H' d p (s1.trans st)
  |false=>rw[if_neg dZ] at q⊢;exact z true _ H1 _ q s1 (.bl false)
theorem Qh{c:TT}(h:Tv G ρ c fun b=>if b=true then Ev G ρ ta Φ else Ev G ρ tb Φ):Ev G ρ (Jg c ta tb) Φ:=fun nb σ H Q W z=>
 h nb σ H _ W fun b H1 q s1=>by
  cases b with
  |true=>rw[if_pos rfl] at q⊢;exact q nb σ H1 _ (W.step s1) fun f v H' d p st=>z f v H' d p (s1.trans st)
  |false=>rw[if_neg dZ] at q⊢;exact q nb σ H1 _ (W.step s1) fun f v H' d p st=>z f v H' d p (s1.trans st)
end Ev
namespace Tv
variable{Θ:Bool->Prop}{t u:TT}
theorem test(h:Ev G ρ te fun _ x=>∃b,x= .bool b/\Θ b):Tv G ρ (vh te) Θ:=fun nb σ H Q W z=>
 h nb σ H _ W fun f v H1 d ⟨b,e,q⟩ s1 hv=>by subst e;exact⟨b,by unfold ai at hv;exact hv,z b H1 q s1⟩
theorem and(h:Tv G ρ t fun b=>if b=true then Tv G ρ u Θ else Θ false):Tv G ρ (Df t u) Θ:=fun nb σ H Q W z=>
 h nb σ H _ W fun b H1 q s1=>by
  cases b with
  |true=>rw[if_pos rfl] at q⊢;exact q nb σ H1 _ (W.step s1) fun b H' p st=>z b H' p (s1.trans st)
  |false=>rw[if_neg dZ] at q⊢;exact z false H1 q s1
theorem or(h:Tv G ρ t fun b=>if b=true then Θ true else Tv G ρ u Θ):Tv G ρ (Fv t u) Θ:=fun nb σ H Q W z=>
 h nb σ H _ W fun b H1 q s1=>by
  cases b with
  |false=>rw[if_neg dZ] at q⊢;exact q nb σ H1 _ (W.step s1) fun b H' p st=>z b H' p (s1.trans st)
  |true=>rw[if_pos rfl] at q⊢;exact z true H1 q s1
theorem not(h:Tv G ρ t fun b=>Θ (!b)):Tv G ρ (J0 t) Θ:=fun nb σ H Q W z=>h nb σ H _ W fun b H1 q s1=>z _ H1 q s1
theorem sH(h:Θ true):Tv G ρ pA Θ:=fun nb σ H Q W z=>z true H h (.refl W.ay)
end Tv
def Kl(K:PySem.W.Frag)(ta:TE):TT:=fun σ H Q=>ta σ H fun x H1=>∃k,Dj K x H1 k/\Q k H1
theorem Tv.LF{Θ:Bool->Prop}(h:Ev G ρ te fun _ x=>∃b,x= .bool b/\Θ b):Tv G ρ (Kl K te) Θ:=fun nb σ H Q W z=>
 h nb σ H _ W fun f v H1 d ⟨b,e,q⟩ s1 hv=>by subst e;exact⟨b,by unfold ai at hv;subst hv;rfl,z b H1 q s1⟩
namespace Av
variable{Θ:List Fd->Prop}
theorem nil(h:Θ []):Av G ρ bT Θ:=fun nb σ H Q W z=>z [] [] H h (.refl W.ay) rfl
theorem cons(h:Ev G ρ te fun f d=>Av G ρ t fun es=>Θ ((f,d)::es)):Av G ρ (bq te t) Θ:=fun nb σ H Q W z=>
 h nb σ H _ W fun f v H1 d p1 s1 q1=>p1 nb σ H1 _ (W.step s1) fun es vs H2 p2 s2 q2=>z _ _ H2 p2 (s1.trans s2) ⟨v,vs,rfl,q1.keep s2.dX,q2⟩
theorem XC{is:List Int}(h:Θ (is.map fun i=>(true, .int i))):Av G ρ (xw is) Θ:=fun nb σ H Q W z=>z _ _ H h (.refl W.ay) (by
 clear h
 induction is with
 |nil=>rfl
 |cons i r ih=>exact⟨_,_,rfl, .int i,ih⟩)
end Av
def jf(es:List Fd):Bool:=es.all (·.1)
theorem kH.all{nb:Addr->Prop}{H:Hp}:∀{es:List Fd} {vs:List V} {f:Bool},kH G nb H es vs->(f=true->jf es=true)->ah (G.S nb f) H (es.map (·.2)) vs
  |[],_,_,h,_=>by unfold kH at h;subst h;exact .nil
  | e :: es, _, f, h, hf => by
    obtain⟨v,ws,rfl,h1,h2⟩:=h
    refine .cons (h1.av (bK (fun z=>?_) fun _ z=>z)) (h2.all fun z=>?_)
    · have:=hf z;simp only[jf,qa,cD] at this;exact this.1
    · have:=hf z;simp only[jf,qa,cD] at this;exact this.2
theorem kH.len{nb:Addr->Prop}{H:Hp}{es:List Fd}{vs:List V}(h:kH G nb H es vs):vs.length=es.length:=by
 have:=(h.all (f:=false) (fun z=>by cases z)).length
 simpa using this
theorem aC.lst{Φ:Bool->List PyData->Prop}(h:Av G ρ t fun es=>es.length<=10000/\Φ (jf es) (es.map (·.2))):aC G ρ (oX t) Φ:=fun nb σ H Q W z=>
  h nb σ H _ W fun es vs H1 ⟨hl,p⟩ s1 q1=>⟨eE (by rw[q1.len];exact hl) (by decide),fun a ha=>by
    have W1:=W.step s1
    refine z _ a vs _ _ p (s1.trans (.same W1.ay (dR ha))) ?_ aX (((q1.all fun z=>z).fresh ha).keep (bh.of (dR ha)))
    cases e:H a with
    |none=>rfl
    | some o =>
      by_cases n:NB G.B a
      · rw[s1.1 a o n e] at ha;cases ha
      · exact absurd ha (NB.oQ s1.2 n)⟩
theorem Ev.lst(h:Av G ρ t fun es=>es.length<=10000/\Φ (jf es) (.list (es.map (·.2)))):Ev G ρ (oX t) Φ:=(aC.lst (Φ:=fun f ds=>Φ f (.list ds)) h).ev
end
end L2
set_option maxRecDepth 100000
set_option maxHeartbeats 1000000
namespace L2
open PySem PySem.Spec PyProof.Rows
def gp(K:PySem.W.Frag):List V->Hp->VK->Prop:=fun xs H Q=>∃p ys,xs=[.ref p]/\(aV K H p ys\/gx K H p ys)/\Q (.int ys.length) H
theorem iP{X:Cx}:fF X (.builtin "len") (gp X.K):=EX
def Ij:List V->Hp->VK->Prop:=fun xs H Q=>∃i j,xs=[.int i, .int j]/\Q (.int (if j<i then j else i)) H
def Lg:List V->Hp->VK->Prop:=fun xs H Q=>(∃i,xs=[.int i]/\Q (.int i) H)\/∃k,xs=[.bl k]/\Q (.int (if k then 1 else 0)) H
theorem OM{X:Cx}(hc:X.calm=true):fF X (.builtin "min") Ij:=XY hc
theorem Pr{X:Cx}:fF X (.type "int") Lg:=W6
def i8{α:Type}(xs:List α)(lo hi:Option Int):List α:=(xs.drop (HT.fu xs.length 0 lo)).take (HT.fu xs.length xs.length hi-HT.fu xs.length 0 lo)
theorem ah.cut{nb:Addr->Prop}{H:Hp}{ds:List PyData}{xs:List V}{lo hi:Option Int}(h:ah nb H ds xs):ah nb H (i8 ds lo hi) (mh xs lo hi):=by
 unfold i8 mh
 rw[h.length]
 exact(h.drop _).take _
def gY(ds:List PyData):Bool:=ds.all j9
section
variable{G:Gx}{ρ:Rh}{Φ Ψ:Pd}{ta tb te:TE}{t:TA}{i:Nat}{f g:Bool}{d e:PyData}{ds es:List PyData}{K:PySem.W.Frag}
theorem Wd.none_of{nb:Addr->Prop}{σ:St}{H H1:Hp}{a:Addr}(W:Wd G nb ρ σ H)(s1:Step G.B H H1)(ha:H1 a=none):H a=none:=by
  cases e:H a with
  |none=>rfl
  | some o =>
    by_cases n:NB G.B a
    · rw[s1.1 a o n e] at ha;cases ha
    · exact absurd ha (NB.oQ s1.2 n)
theorem aC.fin{nb:Addr->Prop}{σ:St}{H H1:Hp}{Q:VK}{Φ:Bool->List PyData->Prop}{a:Addr}{xs:List V}(W:Wd G nb ρ σ H)(s1:Step G.B H H1)(ha:H1 a=none)(hd:ah (G.S nb f) H1 ds xs)(p:Φ (f||gY ds) ds)
  (z:∀f a xs H' ds,Φ f ds->Step G.B H H'->H a=none->H' a=some (.lst xs)->ah (fun x=>G.S nb f x\/x=a) H' ds xs->Q (.ref a) H'):Q (.ref a) (upd H1 a (.lst xs)):=by
 refine z _ a xs _ ds p (s1.trans (.same s1.2 (dR ha))) (W.none_of s1 ha) aX ?_
 cases hs:gY ds with
 |true=>exact ah.m7 hs hd
 |false=>rw[oq];exact(hd.fresh ha).keep (bh.of (dR ha))
namespace Ov
variable{Θ:Option Int->Prop}
theorem none(h:Θ none):Ov G ρ Ab Θ:=fun nb σ H Q W z=>z _ H h (.refl W.ay)
theorem some(h:Ev G ρ te fun _ x=>∃k,x= .int k/\Θ (some k)):Ov G ρ (yt te) Θ:=fun nb σ H Q W z=>
 h nb σ H _ W fun f v H1 d ⟨k,e,q⟩ s1 hv=>by subst e;exact⟨k,hv.bX,z _ H1 q s1⟩
end Ov
namespace aC
variable{Θ:Bool->List PyData->Prop}
theorem sl{tl th:TO}(h:Ev G ρ te fun f x=>∃ds,x= .list ds/\Ov G ρ tl fun lo=>Ov G ρ th fun hi=>Θ (f||gY (i8 ds lo hi)) (i8 ds lo hi)):aC G ρ (rB (j5 K) te tl th) Θ:=fun nb σ H Q W z=>
 h nb σ H _ W fun f v H1 d ⟨ds,e,q⟩ s1 hv=>q nb σ H1 _ (W.step s1) fun lo H2 q2 s2=>q2 nb σ H2 _ ((W.step s1).step s2) fun hi H3 q3 s3=>by
  subst e
  obtain⟨a,xs,rfl,n,hx,hd⟩:=((hv.keep s2.dX).keep s3.dX).fB
  exact⟨a,xs,rfl, .of hx,fun p hp=>aC.fin W (s1.trans (s2.trans s3)) hp hd.cut q3 z⟩
theorem listOf(h:Ev G ρ te fun f x=>∃ds,(x= .list ds\/x= .tuple ds)/\Θ (f||gY ds) ds):aC G ρ (fN (jN K) (bq te bT)) Θ:=fun nb σ H Q W z=>
 h nb σ H _ W fun f v H1 d ⟨ds,e,q⟩ s1 hv=>by
  rcases e with e|e
  ·subst e
   obtain⟨a,xs,rfl,n,hx,hd⟩:=hv.fB
   exact⟨a,xs,rfl, .inl (.of hx),fun p hp=>aC.fin W s1 hp hd q z⟩
  ·subst e
   obtain⟨a,xs,rfl,n,hx,hd⟩:=hv.ofT
   exact⟨a,xs,rfl, .inr (.of hx),fun p hp=>aC.fin W s1 hp hd q z⟩
theorem cat(h:Ev G ρ ta fun f x=>∃ds,x= .list ds/\Ev G ρ tb fun g y=>∃es,y= .list es/\ds.length+es.length<=10000/\Θ ((f && g)||gY (ds++es)) (ds++es)):aC G ρ (c6 xT ta tb) Θ:=fun nb σ H Q W z=>
 h nb σ H _ W fun f v H1 d ⟨ds,e,q⟩ s1 hv=>q nb σ H1 _ (W.step s1) fun g u H2 d2 ⟨es,e2,hl,p⟩ s2 hu=>by
  subst e e2
  obtain⟨a,xs,rfl,n,hx,hd⟩:=(hv.keep s2.dX).fB
  obtain⟨c,ys,rfl,m,hy,hc⟩:=hu.fB
  refine⟨a,c,xs,ys,rfl,rfl,hx,hy,eE (by rw[hd.length,hc.length];exact hl) (by decide),fun p' hp=>aC.fin (f:=f && g) W (s1.trans s2) hp ?_ p z⟩
  exact ah.append (hd.av (bK (fun z=>(cD _ _▸z).1) fun _ z=>z)) (hc.av (bK (fun z=>(cD _ _▸z).2) fun _ z=>z))
end aC
namespace Ev
theorem sl{tl th:TO}(h:Ev G ρ te fun f x=>∃ds,x= .list ds/\Ov G ρ tl fun lo=>Ov G ρ th fun hi=>Φ (f||gY (i8 ds lo hi)) (.list (i8 ds lo hi))):Ev G ρ (rB (j5 K) te tl th) Φ:=(aC.sl (Θ:=fun f ds=>Φ f (.list ds)) h).ev
theorem listOf(h:Ev G ρ te fun f x=>∃ds,(x= .list ds\/x= .tuple ds)/\Φ (f||gY ds) (.list ds)):Ev G ρ (fN (jN K) (bq te bT)) Φ:=(aC.listOf (Θ:=fun f ds=>Φ f (.list ds)) h).ev
theorem cat(h:Ev G ρ ta fun f x=>∃ds,x= .list ds/\Ev G ρ tb fun g y=>∃es,y= .list es/\ds.length+es.length<=10000/\Φ ((f && g)||gY (ds++es)) (.list (ds++es))):Ev G ρ (c6 xT ta tb) Φ:=(aC.cat (Θ:=fun f ds=>Φ f (.list ds)) h).ev
theorem WB{a:Addr}(e:ρ[i]?=some (.own a f ds))(h:Φ true (.int ds.length)):Ev G ρ (fN (gp K) (bq (cQ i) bT)) Φ:=fun nb σ H Q W z=>by
 obtain⟨x,e1,h1,h2,h3,xs,hx,hd⟩:=W.ok i _ e
 subst h1
 exact⟨.ref a,e1,a,xs,rfl, .inl (.of hx),by rw[hd.length];exact z true _ H _ h (.refl W.ay) (.int _)⟩
theorem min2(h:Ev G ρ ta fun _ x=>∃i,x= .int i/\Ev G ρ tb fun _ y=>∃j,y= .int j/\Φ true (.int (if j<i then j else i))):Ev G ρ (fN Ij (bq ta (bq tb bT))) Φ:=fun nb σ H Q W z=>
 h nb σ H _ W fun f v H1 d ⟨i,e,q⟩ s1 hv=>q nb σ H1 _ (W.step s1) fun g u H2 d2 ⟨j,e2,p⟩ s2 hu=>by
  subst e e2
  exact⟨i,j,by rw[hv.bX,hu.bX],z true _ H2 _ p (s1.trans s2) (.int _)⟩
theorem Wn(h:Ev G ρ ta fun _ x=>∃b,x= .bool b/\Φ true (.int (if b then 1 else 0))):Ev G ρ (fN Lg (bq ta bT)) Φ:=fun nb σ H Q W z=>
 h nb σ H _ W fun f v H1 d ⟨b,e,q⟩ s1 hv=>by subst e;unfold ai at hv;subst hv;exact .inr ⟨b,rfl,z true _ H1 _ q s1 (.int _)⟩
end Ev
abbrev DF:=List PyData->Pd->Prop
def aS(n:Nat)(F:DF):Sp:=fun vs H Q _=>vs.length=n/\∃(nb:Addr->Prop) (ds:List PyData),mF nb H/\ah nb H ds vs/\F ds fun f d=>∀v H',dW H H'->ai (fun a=>nb a\/(f=true/\H a≠none)) H' d v->Q v H'
def fY(n:Nat)(F:DF):Sp:=fun vs H Q _=>vs.length=n/\∃(b l:Addr) (ws:List V) (nb:Addr->Prop) (ds:List PyData),vs= .ref b::ws/\dM H b l/\mF nb H/\nb b/\ah nb H ds ws/\
 F ds fun f d=>∀v H',bh (Nb b) H H'->dM H' b l->ai (fun a=>nb a\/(f=true/\H a≠none)) H' d v->Q v H'
def cU(F:DF):Prop:=∀ds (Φ Ψ:Pd),F ds Φ->(∀f d,Φ f d->Ψ f d)->F ds Ψ
theorem Ev.bH{n:Nat}{F:DF}(hm:cU F)(h:Av G ρ t fun es=>es.length=n/\F (es.map (·.2)) fun f d=>Φ (f||jf es) d):Ev G ρ (ju (aS n F) [] E0 t) Φ:=fun nb σ H Q W z=>
 h nb σ H _ W fun es vs H1 ⟨hl,p⟩ s1 q1=>by
  have W1:=W.step s1
  rw[eN]
  refine⟨by rw[q1.len,hl],G.S nb (jf es),es.map (·.2),W1.nL,q1.all fun z=>z,hm _ _ _ p fun f d hp v H' sm hd=>z _ v H' d hp (s1.trans (.same W1.ay sm)) (hd.av fun a q=>?_)⟩
  cases f with
  |false=>rw[sD] at q;exact .inl q
  |true=>exact .inr ⟨rfl,W1.nL a q⟩
theorem Step.vW{b l:Addr}{H H':Hp}(hB:G.B=some (b,l))(bt:bh (Nb b) H H')(B':dM H' b l):Step G.B H H':=
 ⟨fun a o n e=>bt a o (n b l hB) e,fun b' l' e=>by rw[hB] at e;cases e;exact B'⟩
theorem Wd.wN{nb:Addr->Prop}{σ:St}{H:Hp}(W:Wd G nb ρ σ H)(e:ρ[i]?=some .ay):∃b l,G.B=some (b,l)/\σ[i]?=some (some (.ref b))/\dM H b l:=by
 obtain⟨x,e1,b,l,hB,rfl⟩:=W.ok i _ e
 exact⟨b,l,hB,e1,W.ay b l hB⟩
theorem Ev.k7{n:Nat}{F:DF}(hm:cU F)(e:ρ[i]?=some .ay)(h:Av G ρ t fun es=>es.length+1=n/\F (es.map (·.2)) fun f d=>Φ (f||jf es) d):Ev G ρ (ju (fY n F) [] E0 (bq (cQ i) t)) Φ:=fun nb σ H Q W z=>by
 obtain⟨b,l,hB,e1,B⟩:=W.wN e
 refine⟨.ref b,e1,h nb σ H _ W fun es vs H1 ⟨hl,p⟩ s1 q1=>?_⟩
 have W1:=W.step s1
 show fY n F ((V.ref b::vs)++[]) H1 Q E0
 rw[eN]
 have hb:∀f,G.S nb f b:=fun f=> .inr (.inr (.inl fun n=>n b l hB rfl))
 refine⟨by rw[j7,q1.len,hl],b,l,vs,G.S nb (jf es),es.map (·.2),rfl,W1.ay b l hB,W1.nL,hb _,q1.all fun z=>z,hm _ _ _ p fun f d hp v H' bt B' hd=>z _ v H' d hp (s1.trans (.vW hB bt B')) (hd.av fun a q=>?_)⟩
 cases f with
 |false=>rw[sD] at q;exact .inl q
 |true=>exact .inr ⟨rfl,W1.nL a q⟩
theorem Ev.draw(e:ρ[i]?=some .ay)(h:Ev G ρ te fun _ x=>∃m:Int,x= .int m/\0<m/\Sm m/\∀r:Int,0<=r->r<m->Φ true (.int r)):Ev G ρ (ju jn [] E0 (bq (cQ i) (bq te bT))) Φ:=fun nb σ H Q W z=>by
 obtain⟨b,l,hB,e1,B⟩:=W.wN e
 refine⟨.ref b,e1,h nb σ H _ W fun f v H1 d ⟨m,ed,h1,h2,p⟩ s1 hv=>?_⟩
 subst ed
 exact⟨b,l,m,by rw[hv.bX];rfl,s1.2 b l hB,h1,h2,fun r H' r1 r2 bt B'=>z true _ H' _ (p r r1 r2) (s1.trans (.vW hB bt B')) (.int r)⟩
theorem Ev.prime(e:ρ[i]?=some .ay)(h:∀p:Int,J6 p->Φ true (.int p)):Ev G ρ (ju LJ [] E0 (bq (cQ i) bT)) Φ:=fun nb σ H Q W z=>by
 obtain⟨b,l,hB,e1,B⟩:=W.wN e
 exact⟨.ref b,e1,b,l,rfl,B,fun p H' hp bt B'=>z true _ H' _ (h p hp) (.vW hB bt B') (.int p)⟩
theorem Ev.total(h:Av G ρ t fun es=>∃(p:Int) (prs:List (Int×Int)) (wd:List (Option Int)),es.map (·.2)=[.int p, .list (prs.map pairD), .list (wd.map g7)]/\0<p/\(∀pr∈prs,0<=pr.1/\pr.1<wd.length/\Sm pr.2)/\(∀x,some x∈wd->Sm x)/\Φ true (.int (aU prs wd%p))):
  Ev G ρ (ju Ct [] E0 t) Φ:=fun nb σ H Q W z=>
 h nb σ H _ W fun es vs H1 ⟨p,prs,wd,e,h1,h2,h3,q⟩ s1 q1=>by
  have hd:=q1.all (f:=false) (fun z=>by cases z)
  rw[e] at hd
  unfold ah at hd
  obtain⟨y,ys,rfl,d1,hd⟩:=hd
  unfold ah at hd
  obtain⟨y2,ys,rfl,d2,hd⟩:=hd
  unfold ah at hd
  obtain⟨y3,ys,rfl,d3,hd⟩:=hd
  unfold ah at hd
  subst hd
  exact⟨G.S nb false,p,y2,y3,prs,wd,by rw[d1.bX];rfl,d2,d3,h1,h2,h3,z true _ H1 _ q s1 (.int _)⟩
theorem Ev.whole(h:Ev G ρ te fun _ x=>∃n,x= .int n/\Φ true (.bool true)):Ev G ρ (ju Ql [] E0 (bq te bT)) Φ:=fun nb σ H Q W z=>
 h nb σ H _ W fun f v H1 d ⟨n,e,q⟩ s1 hv=>by subst e;exact⟨n,by rw[hv.bX];rfl,z true _ H1 _ q s1 (.bl _)⟩
namespace Gv
variable{Θ:Rh->Prop}
theorem name(h:Θ (ρ.set i (.d f d))):Gv G ρ (fR i) f d Θ:=fun nb σ H v Q W hv z=>z _ _ h (W.nk hv)
theorem mz(h:Θ (ρ.set i (.d false d))):Gv G ρ (fR i) f d Θ:=fun nb σ H v Q W hv z=>z _ _ h (W.nk (hv.av (bK (fun z=>by cases z) fun _ z=>z)))
theorem AL(hs:j9 d=true)(h:Θ (ρ.set i (.d true d))):Gv G ρ (fR i) f d Θ:=fun nb σ H v Q W hv z=>z _ _ h (W.nk (hv.m7 hs))
theorem iN{n:Int}(h:Θ (ρ.set i (.d true (.int n)))):Gv G ρ (fR i) f (.int n) Θ:=AL rfl h
theorem LZ{n:Bool}(h:Θ (ρ.set i (.d true (.bool n)))):Gv G ρ (fR i) f (.bool n) Θ:=AL rfl h
theorem RY(h:Θ (ρ.set i (.d true .none))):Gv G ρ (fR i) f .none Θ:=AL rfl h
theorem tup{n:Nat}{u:iW}(hl:ds.length=n)(h:mO G ρ u f ds Θ):Gv G ρ (vN K n u) f (.tuple ds) Θ:=fun nb σ H v Q W hv z=>by
 obtain⟨a,xs,rfl,m,hx,hd⟩:=hv.ofT
 exact⟨a,xs,rfl, .of hx,by rw[hd.length];exact hl,h nb σ H xs Q W hd z⟩
theorem NU(h:Θ ρ):mO G ρ z9 f [] Θ:=fun nb σ H vs Q W hv z=>by unfold ah at hv;exact⟨hv,z _ _ h W⟩
theorem Nq{u:TG}{us:iW}(h:Gv G ρ u f d fun gW=>mO G gW us f ds Θ):mO G ρ (z7 u us) f (d::ds) Θ:=fun nb σ H vs Q W hv z=>by
 unfold ah at hv
 obtain⟨y,ys,rfl,h1,h2⟩:=hv
 exact⟨y,ys,rfl,h nb σ H y _ W h1 fun σ' ρ' q W'=>q nb σ' H ys Q W' h2 z⟩
end Gv
namespace Sv
variable{E:DE}{s u:TS}
theorem seq(h:Sv G ρ s {E with nx:=fun gW=>Sv G gW u E}):Sv G ρ (pH s u) E:=fun nb σ H D W K=>h nb σ H _ W ⟨fun cM ρ' σ' H' q W'=>q cM σ' H' D W' K,K.bk,K.ct,K.rt,K.rw⟩
theorem next(h:E.nx ρ):Sv G ρ uN E:=fun nb σ H D W K=>K.nx nb ρ σ H h W
theorem cont(h:E.ct ρ):Sv G ρ QG E:=fun nb σ H D W K=>K.ct nb ρ σ H h W
theorem asg{g:TG}(h:Ev G ρ te fun f d=>Gv G ρ g f d E.nx):Sv G ρ (gZ te g) E:=fun nb σ H D W K=>h nb σ H _ W fun f v H1 d q s1 hv=>q nb σ H1 v _ (W.step s1) hv fun σ' ρ' p W'=>K.nx nb ρ' σ' H1 p W'
theorem Pf(h:Ev G ρ te fun _ d=>E.nx (ρ.set i (.d false d))):Sv G ρ (sU i te) E:=fun nb σ H D W K=>h nb σ H _ W fun f v H1 d q s1 hv=>K.nx nb _ _ H1 q ((W.step s1).nk (hv.av (bK (fun z=>by cases z) fun _ z=>z)))
theorem ret(h:Ev G ρ te E.rt):Sv G ρ (rR te) E:=fun nb σ H D W K=>h nb σ H _ W fun f v H1 d q s1 hv=>K.rt nb ρ σ f v H1 d q (W.step s1) (hv.av (bK (fun z=>z) fun _ z=>z.elim))
theorem GZ{a:Addr}(e:ρ[i]?=some (.own a f ds))(h:E.rt f (.list ds)):Sv G ρ (rR (cQ i)) E:=fun nb σ H D W K=>by
 obtain⟨x,e1,h1,h2,h3,xs,hx,hd⟩:=W.ok i _ e
 subst h1
 refine⟨.ref a,e1,K.rt nb ρ σ f _ H _ h W (.lst (fun z=>?_) hx (hd.av (bK (fun z=>z) fun _ z=>z.elim)))⟩
 rcases z with z|z|z|z
 ·exact z
 ·exact W.gA a z (W.dH a h2 h3)
 ·exact z h3
 ·exact z.2 (W.dH a h2 h3)
theorem pZ{c:TT}(h:Tv G ρ c fun b=>if b=true then Sv G ρ s E else Sv G ρ u E):Sv G ρ (tN c s u) E:=fun nb σ H D W K=>h nb σ H _ W fun b H1 q s1=>by
 cases b with
 |true=>rw[if_pos rfl] at q⊢;exact q nb σ H1 D (W.step s1) K
 |false=>rw[if_neg dZ] at q⊢;exact q nb σ H1 D (W.step s1) K
theorem JP{nb:Addr->Prop}{σ:St}{H H1:Hp}{a:Addr}{xs:List V}(W:Wd G nb ρ σ H)(s1:Step G.B H H1)(ha:H a=none)(e:H1 a=some (.lst xs))(hd:ah (fun x=>G.S nb f x\/x=a) H1 ds xs):
    Wd G (fun x=>nb x\/x=a) (ρ.set i (.own a f ds)) (σ.set i (some (.ref a))) H1:=by
  have hN:NB G.B a:=fun b l e z=>by
    subst z
    obtain⟨_,_,_,_,_,h1,_⟩:=W.ay _ _ e
    rw[h1] at ha;cases ha
  have hA:∀f x,G.S (fun x=>nb x\/x=a) f x->(G.S nb f x\/x=a):=fun f x z=>by
    rcases z with (z|z)|z|z|z
    · exact .inl (.inl z)
    · exact .inr z
    · exact .inl (.inr (.inl z))
    · exact .inl (.inr (.inr (.inl z)))
    · exact .inl (.inr (.inr (.inr z)))
  have W1:=W.step s1
  have W2:Wd G (fun x=>nb x\/x=a) ρ σ H1:=by
    refine⟨W1.ay,fun x n=>?_,W1.old,fun x n q=>?_,W.gA,W.len,W.gB,fun h m=>(((W.fj h m).fresh ha).keep (s1.but fun x z=> .inl (.inr (.inr (.inl z))))).av (hA h.1),fun j s e'=>?_,W.apart,W.fG,W.dJ⟩
    · rcases n with n|n
      · exact W1.live x n
      · subst n;rw[e];exact je _
    · rcases n with n|n
      · exact W.dH x n q
      · subst n
        cases z:G.H0 x with
        |none=>rfl
        |some o=>rw[W.old x o q z] at ha;cases ha
    · obtain⟨x,e1,h⟩:=W.ok j s e'
      refine⟨x,e1,?_⟩
      cases s with
      |no=>trivial
      |d f d=>obtain⟨v,e,h⟩:=h;exact⟨v,e,((h.fresh ha).keep (s1.but fun x z=> .inl (.inr (.inr (.inl z))))).av (hA f)⟩
      |own c f es=>obtain⟨e,n,q,xs,hx,hd⟩:=h;exact⟨e, .inl n,q,xs,s1.1 _ _ q hx,((hd.fresh ha).keep (s1.but fun x z=> .inl (.inr (.inr (.inl z))))).av (hA f)⟩
      |ay=>exact h
      |raw v=>exact h
      |bZ c f es=>obtain⟨e,n,q,xs,hx,hd⟩:=h;exact⟨e, .inl n,q,xs,s1.1 _ _ q hx,((hd.fresh ha).keep (s1.but fun x z=> .inl (.inr (.inr (.inl z))))).av (hA f)⟩
      | cu c =>
        obtain⟨e,n,q⟩:=h
        refine⟨e,fun a ha=>⟨.inl (n a ha).1,(n a ha).2⟩,c.av (hA c.f) (c.keep (.of fun x o hx e=>s1.1 x o ?_ e) (c.fresh ha q))⟩
        rcases hx with hx|hx
        · exact fS fun z=>hx (.inl (.inr (.inr (.inl z))))
        · exact(n x hx).2
  refine W2.set ⟨rfl, .inr rfl,hN,xs,e,hd.av (hA f)⟩ ?_ (fun _ _ _ z=>by cases z) (fun x hx j t hj ht hc=>?_)
  rotate_left
  · have hx:x=a:=aQ.mp hx
    subst hx
    rcases hc with ⟨c,z⟩|⟨c,rfl⟩
    · cases z
    · exact fun z=>W.live x ((W.ok j _ ht).choose_spec.2.2.1 x z).1 ha
  rintro a' f' ds' ⟨rfl,rfl,rfl⟩ j c g cs hj hc z
  subst z
  obtain⟨x,e1,h1,h2,h3,ys,hy,_⟩:=W.ok j _ hc
  rw[hy] at ha;cases ha
theorem o9(h:aC G ρ te fun f ds=>∀a,E.nx (ρ.set i (.own a f ds))):Sv G ρ (gZ te (fR i)) E:=fun nb σ H D W K=>h nb σ H _ W fun f a xs H1 ds q s1 ha e hd=>K.nx _ _ _ H1 (q a) (JP W s1 ha e hd)
theorem XX(h:aC G ρ te fun f ds=>∀a,E.nx (ρ.set i (.own a f ds))):Sv G ρ (sU i te) E:=fun nb σ H D W K=>h nb σ H _ W fun f a xs H1 ds q s1 ha e hd=>K.nx _ _ _ H1 (q a) (JP W s1 ha e hd)
theorem sJ{nb:Addr->Prop}{σ:St}{H:Hp}{a:Addr}{xs:List V}(W:Wd G nb ρ σ H)(e:ρ[i]?=some (.own a f ds))(hd:ah (G.S nb g) H es xs):Wd G nb (ρ.set i (.own a g es)) σ (upd H a (.lst xs)):=by
  obtain⟨x,e1,h1,h2,h3,ys,hy,_⟩:=W.ok i _ e
  subst h1
  have hil:i<ρ.length:=(aP.mp e).1
  have W0:Wd G nb (ρ.set i .no) (σ.set i (some (.ref a))) H:=W.set trivial fun _ _ _ z=>by cases z
  have W1:Wd G nb (ρ.set i .no) (σ.set i (some (.ref a))) (upd H a (.lst xs)):=W0.write h2 h3 (fun j c f' cs hc=>by
    by_cases hij:i=j
    · subst hij;rw[cX hil] at hc;cases hc
    · rw[bP hij] at hc
      exact(W.apart i j _ _ _ _ _ _ hij e hc).symm
   ) (fun j c f' cs hc z => by
      subst z
      have hij:i≠j:=fun z=>by subst z;rw[cX hil] at hc;cases hc
      rw[bP hij] at hc
      obtain⟨_,_,_,_,_,ps,hp,_⟩:=W.ok j _ hc
      rw[hy] at hp;cases hp) (fun j c hc z=>by
      have hij:i≠j:=fun z=>by subst z;rw[cX hil] at hc;cases hc
      rw[bP hij] at hc
      exact W.dJ j i c _ (bx hij) hc e a z (aQ.mpr rfl))
  have W2:=W1.set (i:=i) (s:= .own a g es) (x:=some (.ref a)) ⟨rfl,h2,h3,xs,aX,hd.keep (bh.set (.inl h2))⟩ (by
    rintro a' f' ds' ⟨rfl,rfl,rfl⟩ j c g' cs hj hc
    rw[bP (bx hj)] at hc
    exact W.apart i j _ _ _ _ _ _ (bx hj) e hc) (fun _ _ _ z=>by cases z) (fun x hx j t hj ht hc z=>by
    rw[bP (bx hj)] at ht
    have hx:x=a:=aQ.mp hx
    subst hx
    rcases hc with ⟨c,q⟩|⟨c,rfl⟩
    · cases q
    · exact W.dJ j i c _ hj ht e x z (aQ.mpr rfl))
  rw[jL,jL] at W2
  have:σ.set i (some (.ref a))=σ:=by
    apply gU
    intro j
    by_cases hij:i=j
    · subst hij;rw[cX (by rw[W.len];exact hil),e1]
    · rw[bP hij]
  rwa[this] at W2
theorem append{a:Addr}(e:ρ[i]?=some (.own a f ds))(h:Ev G ρ te fun g d=>ds.length<10000/\E.nx (ρ.set i (.own a (f && g) (ds++[d])))):Sv G ρ (sI (lA K "list" xy (cQ i) (bq te bT))) E:=fun nb σ H D W KK=>by
 obtain⟨x,e1,h1,h2,h3,xs,hx,hd⟩:=W.ok i _ e
 subst h1
 refine⟨.ref a,e1, .inl ⟨rfl,_,aV.of hx⟩,h nb σ H _ W fun g v H1 d ⟨hl,q⟩ s1 hv=>?_⟩
 have W1:=W.step s1
 have sQ:=s1.1 _ _ h3 hx
 refine⟨a,xs,v,rfl,rfl,sQ,eK (by rw[hd.length];exact hl) (by decide),KK.nx nb _ _ _ q (sJ W1 e ?_)⟩
 exact ah.snoc (hv.av (bK (fun z=>(cD _ _▸z).2) fun _ z=>z)) ((hd.keep s1.dX).av (bK (fun z=>(cD _ _▸z).1) fun _ z=>z))
theorem ah.set'{nb:Addr->Prop}{H:Hp}{x:V}(hd:ai nb H d x):∀{ds:List PyData} {xs:List V} (j:Nat),ah nb H ds xs->ah nb H (ds.set j d) (xs.set j x)
 |[],_,j,h=>by unfold ah at h;subst h;exact .nil
 |e::ds,_,0,h=>by unfold ah at h;obtain⟨y,ys,rfl,h1,h2⟩:=h;exact .cons hd h2
 |e::ds,_,j+1,h=>by unfold ah at h;obtain⟨y,ys,rfl,h1,h2⟩:=h;exact .cons h1 (ah.set' hd j h2)
theorem Ho{a:Addr}(e:ρ[i]?=some (.own a f ds))(h:Ev G ρ te fun g d=>Ev G ρ tb fun _ y=>∃k j,y= .int k/\fy ds.length k=some j/\E.nx (ρ.set i (.own a (f && g) (ds.set j d)))):Sv G ρ (gZ te (oH (cQ i) tb uO)) E:=fun nb σ H D W KK=>
 h nb σ H _ W fun g v H1 d q s1 hv=>by
  obtain⟨x,e1,h1,h2,h3,xs,hx,hd⟩:=(W.step s1).ok i _ e
  subst h1
  refine⟨.ref a,e1,q nb σ H1 _ (W.step s1) fun g' u H2 y ⟨k,j,ey,hj,p⟩ s2 hu=>?_⟩
  subst ey
  have W2:=(W.step s1).step s2
  refine⟨a,xs,k,j,rfl,hu.bX,s2.1 _ _ h3 hx,by rw[hd.length];exact hj,KK.nx nb _ _ _ p (sJ W2 e ?_)⟩
  exact ah.set' ((hv.keep s2.dX).av (bK (fun z=>(cD _ _▸z).2) fun _ z=>z)) j ((hd.keep s2.dX).av (bK (fun z=>(cD _ _▸z).1) fun _ z=>z))
theorem share{nb:Addr->Prop}{σ:St}{H:Hp}{a:Addr}(W:Wd G nb ρ σ H)(e:ρ[i]?=some (.own a f ds)):Wd G (fun x=>nb x/\x≠a) (ρ.set i (.d f (.list ds))) σ H:=by
  obtain⟨x,e1,h1,h2,h3,xs,hx,hd⟩:=W.ok i _ e
  subst h1
  have hil:i<ρ.length:=(aP.mp e).1
  have W0:Wd G nb (ρ.set i .no) (σ.set i (some (.ref a))) H:=W.set trivial fun _ _ _ z=>by cases z
  have W1:Wd G (fun x=>nb x/\x≠a) (ρ.set i .no) (σ.set i (some (.ref a))) H:=by
    refine⟨W0.ay,fun x n=>W0.live x n.1,W0.old,fun x n=>W0.dH x n.1,W0.gA,W0.len,W0.gB,fun h m=>(W0.fj h m).av (bK (fun z=>z) fun _ z=>z.1),fun j s e'=>?_,W0.apart,W0.fG,W0.dJ⟩
    obtain⟨x,jm,h⟩:=W0.ok j s e'
    refine⟨x,jm,?_⟩
    have hij:s≠ .no->i≠j:=fun n z=>by subst z;rw[cX hil] at e';cases e';exact n rfl
    cases s with
    |no=>trivial
    |d f d=>obtain⟨v,e,h⟩:=h;exact⟨v,e,h.av (bK (fun z=>z) fun _ z=>z.1)⟩
    | own c f es =>
      obtain⟨e2,n,q,xs,hx,hd⟩:=h
      have hij:=hij (by intro z;cases z)
      rw[bP hij] at e'
      exact⟨e2,⟨n,(W.apart i j _ _ _ _ _ _ hij e e').symm⟩,q,xs,hx,hd.av (bK (fun z=>z) fun _ z=>z.1)⟩
    |ay=>exact h
    |raw v=>exact h
    | bZ c f es =>
      obtain⟨e2,n,q,ps,hp,hd⟩:=h
      have hca:c≠a:=fun z=>by subst z;rw[hx] at hp;cases hp
      exact⟨e2,⟨n,hca⟩,q,ps,hp,hd.av (bK (fun z=>z) fun _ z=>z.1)⟩
    | cu c =>
      obtain⟨e2,n,q⟩:=h
      have hij:=hij (by intro z;cases z)
      rw[bP hij] at e'
      exact⟨e2,fun x hx=>⟨⟨(n x hx).1,fun z=>W.dJ j i c _ (bx hij) e' e x hx (by rw[z];exact aQ.mpr rfl)⟩,(n x hx).2⟩,c.av (bK (fun z=>z) fun _ z=>z.1) q⟩
  have W2:=W1.nk (i:=i) (f:=f) (d:= .list ds) (v:= .ref a) (.lst (fun z=>by
    rcases z with z|z|z|z
    · exact z.2 rfl
    · exact W.gA a z (W.dH a h2 h3)
    · exact z h3
    · exact z.2 (W.dH a h2 h3)) hx (hd.av (bK (fun z=>z) fun _ z=>z.1)))
  rw[jL,jL] at W2
  have:σ.set i (some (.ref a))=σ:=by
    apply gU
    intro j
    by_cases hij:i=j
    · subst hij;rw[cX (by rw[W.len];exact hil),e1]
    · rw[bP hij]
  rwa[this] at W2
theorem iR{a:Addr}(i:Nat)(e:ρ[i]?=some (.own a f ds))(h:Sv G (ρ.set i (.d f (.list ds))) s E):Sv G ρ s E:=fun nb σ H D W K=>h _ σ H D (share W e) K
theorem wk{ρ':Rh}(w:Wk ρ' ρ)(h:Sv G ρ' s E):Sv G ρ s E:=fun nb σ H D W K=>h nb σ H D (W.wk w) K
end Sv
end
end L2
set_option maxRecDepth 100000
set_option maxHeartbeats 1000000
namespace L2
open PySem PySem.Spec PyProof.Rows
abbrev Gx.hd(G:Gx)(f:Bool)(d:PyData)(v:V):Gx:={G with hold:=(f, .d d,v)::G.hold}
section
variable{G:Gx}{ρ dN:Rh}{Φ Ψ:Pd}{ta tb te:TE}{t:TA}{i:Nat}{f g:Bool}{d e:PyData}{ds es:List PyData}{K:PySem.W.Frag}
theorem Wd.hd{nb:Addr->Prop}{σ:St}{H:Hp}{v:V}(W:Wd G nb ρ σ H)(h:ai (G.S nb f) H d v):Wd (G.hd f d v) nb ρ σ H:=
 ⟨W.ay,W.live,W.old,W.dH,W.gA,W.len,W.gB,fun x m=>by
  rcases aM.mp m with e|m
  ·subst e;exact h
  ·exact W.fj x m,fun i s e=>by
   obtain⟨x,e1,h⟩:=W.ok i s e
   refine⟨x,e1,?_⟩
   cases s<;>exact h,W.apart,W.fG,W.dJ⟩
theorem Wd.iJ{nb:Addr->Prop}{σ:St}{H:Hp}{v:V}(W:Wd (G.hd f d v) nb ρ σ H):Wd G nb ρ σ H/\ai (G.S nb f) H d v:=
 ⟨⟨W.ay,W.live,W.old,W.dH,W.gA,W.len,W.gB,fun x m=>W.fj x (cG _ m),fun i s e=>by
   obtain⟨x,e1,h⟩:=W.ok i s e
   refine⟨x,e1,?_⟩
   cases s<;>exact h,W.apart,W.fG,W.dJ⟩,W.fj _ (bA ..)⟩
namespace Sv
variable{E:DE}{s:TS}{gt:TG}
def qv(G:Gx)(ρ:Rh)(n:Nat)(it:Nat->PyData->Prop)(fi:Bool)(gt:TG)(s:TS)(E:DE):Prop:=
 ∃I:Nat->Rh->Prop,I 0 ρ/\(∀i d ρ',it i d->I i ρ'->Gv G ρ' gt fi d fun gV=>Sv G gV s {nx:=I (i+1),rt:=E.rt,bk:=E.nx,ct:=I (i+1),rw:=E.rw})/\∀ρ',I n ρ'->E.nx ρ'
theorem Tz{lo:Int}{n:Nat}{nb:Addr->Prop}{σ:St}{H:Hp}{D:Ends}(W:Wd G nb ρ σ H)(KK:xA G E D)(h:qv G ρ n (fun i d=>i<n/\d= .int (lo+i)) true gt s E):
  ∃W:Nat->Nat->St->Hp->Prop,(∃m,W 0 m σ H)/\∀i m σ H,W i m σ H->
   ((jh lo n).stop i H/\D.nx σ H)\/((jh lo n).go i H/\∃N:St->Hp->Prop,(∀σ' H',N σ' H'->∃m',m'<m/\W (i+1) m' σ' H')/\∀x H',(jh lo n).mU i H x H'->gt x σ H' fun σ2 H2=>s {D with nx:=N,ct:=N,bk:=D.nx} σ2 H2):=by
 obtain⟨I,h0,ht,he⟩:=h
 refine CD (fun i σ H=>∃nb ρ',I i ρ'/\Wd G nb ρ' σ H) ⟨nb,ρ,h0,W⟩ ?_ ?_
 ·rintro i σ H hi ⟨nb,ρ',hI,W⟩
  refine ht i _ ρ' ⟨hi,rfl⟩ hI nb σ H _ _ W (.int _) fun σ2 gV q W2=>q nb σ2 H _ W2 ?_
  exact⟨fun nb ρ σ H q W=>⟨nb,ρ,q,W⟩,KK.nx,fun nb ρ σ H q W=>⟨nb,ρ,q,W⟩,KK.rt,KK.rw⟩
 ·rintro σ H ⟨nb,ρ',hI,W⟩
  exact KK.nx nb ρ' σ H (he ρ' hI) W
theorem nh(h:Ev G ρ te fun _ x=>∃n:Int,x= .int n/\ -(2^62)<=n/\n<2^62/\qv G ρ n.toNat (fun i d=>i<n.toNat/\d= .int (0+i)) true gt s E):Sv G ρ (pP (qJ (bq te bT)) gt s) E:=fun nb σ H D W KK=>
 h nb σ H _ W fun f v H1 x ⟨n,ex,h1,h2,q⟩ s1 hv=>by
  subst ex
  rw[hv.bX]
  exact⟨n,rfl,h1,h2,Tz (W.step s1) KK q⟩
theorem forL(h:Ev G ρ te fun f x=>∃ds,x= .list ds/\∀v,qv (G.hd f (.list ds) v) ρ ds.length (fun i d=>ds[i]?=some d) f gt s E):Sv G ρ (pP (pL K te) gt s) E:=fun nb σ H D W KK=>
 h nb σ H _ W fun f v H1 x ⟨ds,ex,q⟩ s1 hv=>by
  subst ex
  obtain⟨I,h0,ht,he⟩:=q v
  have W1:=(W.step s1).hd hv
  obtain⟨a,xs,rfl,n,hx,hd⟩:=hv.fB
  have key:∀{nb ρ' σ H},Wd (G.hd f (.list ds) (.ref a)) nb ρ' σ H->∃xs,H a=some (.lst xs)/\ah (G.S nb f) H ds xs:=fun W=>by
   obtain⟨a',xs',e',_,h',d'⟩:=W.iJ.2.fB
   cases e'
   exact⟨xs',h',d'⟩
  refine⟨a,rfl,⟨xs, .of hx⟩,?_⟩
  refine⟨fun i m σ H=>m=ds.length-i/\i<=ds.length/\∃nb ρ',I i ρ'/\Wd (G.hd f (.list ds) (.ref a)) nb ρ' σ H,⟨ds.length,by simp,eY _,nb,ρ,h0,W1⟩,?_⟩
  rintro i m σ H ⟨rfl,hi,nb,ρ',hI,W⟩
  obtain⟨ys,hy,hD⟩:=key W
  have hl:=hD.length
  by_cases hlt:i<ds.length
  ·refine .inr ⟨⟨ys,ys[i]'(by omega), .of hy,aB _⟩,fun σ H=>∃nb ρ',I (i+1) ρ'/\Wd (G.hd f (.list ds) (.ref a)) nb ρ' σ H,fun σ' H' q=>⟨ds.length-(i+1),by omega,rfl,hlt,q⟩,fun x H' y=>?_⟩
   obtain⟨e,y⟩:=y
   subst e
   have hx:=y ys (.of hy)
   obtain⟨x',hx',dx⟩:=hD.get (aB hlt)
   rw[hx] at hx';cases hx'
   refine ht i _ ρ' (aB hlt) hI nb σ _ _ _ W dx fun σ2 gV q W2=>q nb σ2 _ _ W2 ?_
   exact⟨fun nb ρ σ H q W=>⟨nb,ρ,q,W⟩,fun nb ρ σ H q W=>KK.nx nb ρ σ H q W.iJ.1,fun nb ρ σ H q W=>⟨nb,ρ,q,W⟩,fun nb ρ σ f v H d q W hv=>KK.rt nb ρ σ f v H d q W.iJ.1 hv,fun nb ρ σ v H q W=>KK.rw nb ρ σ v H q W.iJ.1⟩
  ·have e:i=ds.length:=by omega
   subst e
   exact .inl ⟨⟨ys, .of hy,by omega⟩,KK.nx nb ρ' σ H (he ρ' hI) W.iJ.1⟩
theorem AA{c:TT}(I:Rh->Prop)(μ:Rh->Nat)(h0:I ρ)(h:∀ρ',I ρ'->Tv G ρ' c fun b=>if b=true then Sv G ρ' s {nx:=fun gV=>I gV/\μ gV<μ ρ',rt:=E.rt,bk:=E.nx,ct:=fun gV=>I gV/\μ gV<μ ρ',rw:=E.rw} else E.nx ρ'):Sv G ρ (z0 c s) E:=fun nb σ H D W KK=>by
  refine⟨fun m σ H=>∃nb ρ',I ρ'/\Wd G nb ρ' σ H/\m=μ ρ',⟨_,nb,ρ,h0,W,rfl⟩,?_⟩
  rintro m σ H ⟨nb,ρ',hI,W,rfl⟩
  refine h ρ' hI nb σ H _ W fun b H1 q s1=>?_
  cases b with
  | true =>
    rw[if_pos rfl] at q⊢
    refine⟨fun σ' H'=>∃nb gV,(I gV/\μ gV<μ ρ')/\Wd G nb gV σ' H',fun σ' H' ⟨nb,gV,⟨q1,q2⟩,W2⟩=>⟨μ gV,q2,nb,gV,q1,W2,rfl⟩,q nb σ H1 _ (W.step s1) ?_⟩
    exact⟨fun nb ρ σ H q W=>⟨nb,ρ,q,W⟩,KK.nx,fun nb ρ σ H q W=>⟨nb,ρ,q,W⟩,KK.rt,KK.rw⟩
  |false=>rw[if_neg dZ] at q⊢;exact KK.nx nb ρ' σ H1 q (W.step s1)
end Sv
def nj(mp:List (Option Nat))(ρ:Rh):Rh:=mp.map fun o=>match o with|none=> .no|some j=>match ρ[j]? with|some s=>s|none=> .no
theorem BY{mp:List (Option Nat)}(h:(mp.filterMap id).Nodup):∀{i j k:Nat},mp[i]?=some (some k)->mp[j]?=some (some k)->i=j:=by
  induction mp with
  |nil=>intro i j k e;simp at e
  | cons o r ih =>
    intro i j k e1 e2
    have hr:(r.filterMap id).Nodup:=by
      cases o with
      |none=>simpa using h
      |some x=>rw[Io (by rfl)] at h;exact(gz.mp h).2
    have hn:∀{m:Nat},r[m]?=some (some k)->o≠some k:=fun{m} hm e=>by
      subst e
      rw[Io (by rfl)] at h
      exact(gz.mp h).1 (CB.mpr ⟨some k,br hm,rfl⟩)
    cases i with
    | zero =>
      cases j with
      |zero=>rfl
      |succ j=>simp at e1 e2;exact absurd e1 (hn e2)
    | succ i =>
      cases j with
      |zero=>simp at e1 e2;exact absurd e2 (hn e1)
      |succ j=>simp at e1 e2;rw[ih hr e1 e2]
theorem Wd.iM{nb:Addr->Prop}{σ:St}{H:Hp}{mp:List (Option Nat)}(W:Wd G nb ρ σ H)(hm:(mp.filterMap id).Nodup):Wd G nb (nj mp ρ) (iM mp σ) H:=by
  have hat:∀{i:Nat} {s:Sl},(nj mp ρ)[i]?=some s->s= .no\/∃k,mp[i]?=some (some k)/\ρ[k]?=some s:=fun{i s} e=>by
    unfold nj at e
    rw[aL] at e
    obtain⟨o,ho,e⟩:=jt.mp e
    cases o with
    |none=>exact .inl e.symm
    | some k =>
      cases hk:ρ[k]? with
      |none=>simp only[hk] at e;exact .inl e.symm
      |some s'=>simp only[hk] at e;subst e;exact .inr ⟨k,ho,hk⟩
  refine⟨W.ay,W.live,W.old,W.dH,W.gA,by unfold L2.iM nj;rw[aj,aj],W.gB,W.fj,fun i s e=>?_,fun i j a f as c g cs hij e1 e2=>?_,fun i j a f as c g cs hij e1 e2=>?_,fun i j c t hij e1 e2 a ha=>?_⟩
  · have hi:i<mp.length:=by have:=(aP.mp e).1;unfold nj at this;rwa[aj] at this
    rcases hat e with rfl|⟨k,hk,hs⟩
    · exact⟨_,by unfold L2.iM;rw[aL,aB hi];rfl,trivial⟩
    · obtain⟨x,e1,h⟩:=W.ok k s hs
      refine⟨x,?_,h⟩
      unfold L2.iM
      rw[aL,hk]
      simp only[sP,e1]
  · rcases hat e1 with z|⟨k,hk,hs⟩
    · cases z
    rcases hat e2 with z|⟨k',hk',hs'⟩
    · cases z
    exact W.apart k k' a f as c g cs (fun z=>by subst z;exact hij (BY hm hk hk')) hs hs'
  · rcases hat e1 with z|⟨k,hk,hs⟩
    · cases z
    rcases hat e2 with z|⟨k',hk',hs'⟩
    · cases z
    exact W.fG k k' a f as c g cs (fun z=>by subst z;exact hij (BY hm hk hk')) hs hs'
  · rcases hat e1 with z|⟨k,hk,hs⟩
    · cases z
    rcases hat e2 with z|⟨k',hk',hs'⟩
    · subst z;exact fun z=>by cases z
    exact W.dJ k k' c t (fun z=>by subst z;exact hij (BY hm hk hk')) hs hs' a ha
def Lx(ρ:Rh)(acc:Addr):Prop:=(∀(j:Nat) a f ds,ρ[j]?=some (.own a f ds)->a≠acc)/\∀(j:Nat) c,ρ[j]?=some (.cu c)->acc∉c.F
def gX(G:Gx)(dN:Rh)(n:Nat)(it:Nat->PyData->Prop)(fi:Bool)(gt:TG)(tc:TT)(te:TE)(Θ:Bool->List PyData->Prop):Prop:=
 ∃(fl:Bool) (I:Nat->List PyData->Prop),I 0 []/\(∀i d ds,it i d->ds.length<=i->I i ds->Gv G dN gt fi d fun gW=>Wk dN gW/\Tv G gW tc fun b=>if b=true then Ev G gW te fun f e=>(fl=true->f=true)/\I (i+1) (ds++[e]) else I (i+1) ds)/\
  ∀ds,ds.length<=n->I n ds->Θ (fl||gY ds) ds
theorem Em{gt:TG}{tc:TT}{nb:Addr->Prop}{acc:Addr}{σ:St}{H H1:Hp}{x:V}{fi fl:Bool}{I:Nat->List PyData->Prop}{xs:List V}{N:St->Hp->Prop}{ds:List PyData}{n:Nat}(hn:n<=10000)(hi:i<n)
    (W:Wd G nb dN σ H) (ha:nb acc) (hN:NB G.B acc) (hno:Lx dN acc) (st:Step G.B H1 H) (hacc:H1 acc=none) (hx:H acc=some (.lst xs)) (hd:ah (G.S nb fl) H ds xs) (hl:ds.length<=i) (hxd:ai (G.S nb fi) H d x)
    (h:Gv G dN gt fi d fun gW=>Wk dN gW/\Tv G gW tc fun b=>if b=true then Ev G gW te fun f e=>(fl=true->f=true)/\I (i+1) (ds++[e]) else I (i+1) ds)
    (z:∀σ' H' ds' xs',Wd G nb dN σ' H'->Step G.B H1 H'->H' acc=some (.lst xs')->ah (G.S nb fl) H' ds' xs'->ds'.length<=i+1->I (i+1) ds'->N σ' H'):
    gt x σ H fun σ2 H2=>tc σ2 H2 fun b H3=>if b=true then te σ2 H3 fun v H4=>∃ys,H4 acc=some (.lst ys)/\ys.length<sizeLine/\N σ2 (upd H4 acc (.lst (ys++[v]))) else N σ2 H3:=by
  refine h nb σ H x _ W hxd fun σ2 gW ⟨wk,q⟩ W2=>q nb σ2 H _ W2 fun b H3 q3 s3=>?_
  have Jd:=s3.1 _ _ hN hx
  have FA:=hd.keep (s3.dX (nb:=nb) (f:=fl))
  cases b with
  | false =>
    rw[if_neg dZ] at q3⊢
    exact z σ2 H3 ds xs ((W2.step s3).wk wk) (st.trans s3) Jd FA (by omega) q3
  | true =>
    rw[if_pos rfl] at q3⊢
    refine q3 nb σ2 H3 _ (W2.step s3) fun f v H4 e ⟨hf,hI⟩ s4 hv=>?_
    have Kg:=s4.1 _ _ hN Jd
    have NJ:=FA.keep (s4.dX (nb:=nb) (f:=fl))
    have hlen:=hd.length
    refine⟨xs,Kg,eK (show xs.length<10001 by omega) (by decide),?_⟩
    have W4:Wd G nb dN σ2 H4:=((W2.step s3).step s4).wk wk
    have bt:bh (G.S nb fl) H4 (upd H4 acc (.lst (xs++[v]))):=bh.set (.inl ha)
    have W5:Wd G nb dN σ2 (upd H4 acc (.lst (xs++[v]))):=W4.write ha hN hno.1 (fun j a f ds e z=>by
      subst z
      obtain⟨_,_,_,_,_,ps,hp,_⟩:=W4.ok j _ e
      rw[Kg] at hp;cases hp) hno.2
    refine z σ2 _ (ds++[e]) (xs++[v]) W5 ⟨fun a o n q=>?_,W5.ay⟩ aX (ah.snoc ((hv.av (bK hf fun _ z=>z)).keep bt) (NJ.keep bt)) (by rw[bz,fW];omega) hI
    have hne:a≠acc:=fun z=>by subst z;rw[hacc] at q;cases q
    rw[au hne]
    exact(st.trans (s3.trans s4)).1 a o n q
theorem Ky{nb:Addr->Prop}{σ:St}{H:Hp}{a:Addr}(W:Wd G nb ρ σ H)(ha:H a=none):Lx ρ a:=by
 refine⟨fun j c f ds e z=>?_,fun j c e z=>?_⟩
 ·subst z
  obtain⟨x,e1,h1,h2,h3,ys,hy,_⟩:=W.ok j _ e
  rw[hy] at ha;cases ha
 ·obtain⟨x,e1,h1,h2,h3⟩:=W.ok j _ e
  exact W.live a (h2 a z).1 ha
theorem Rx{nb:Addr->Prop}{a:Addr}{f:Bool}:∀x,(G.S nb f x\/x=a)->G.S (fun x=>nb x\/x=a) f x:=fun x z=>by
 rcases z with (z|z|z|z)|z
 ·exact .inl (.inl z)
 ·exact .inr (.inl z)
 ·exact .inr (.inr (.inl z))
 ·exact .inr (.inr (.inr z))
 ·exact .inl (.inr z)
theorem K9{nb:Addr->Prop}{acc:Addr}{H H1 H':Hp}{σ:St}{Q:VK}{Θ:Bool->List PyData->Prop}{xs:List V}{ds:List PyData}{fl:Bool}(W:Wd G nb ρ σ H)(s1:Step G.B H H1)(hacc:H1 acc=none)(s2:Step G.B H1 H')(hx:H' acc=some (.lst xs))(hd:ah (G.S (fun x=>nb x\/x=acc) fl) H' ds xs)(p:Θ (fl||gY ds) ds)
  (z:∀f a xs H' ds,Θ f ds->Step G.B H H'->H a=none->H' a=some (.lst xs)->ah (fun x=>G.S nb f x\/x=a) H' ds xs->Q (.ref a) H'):Q (.ref acc) H':=by
 refine z _ acc xs H' ds p (s1.trans s2) (W.none_of s1 hacc) hx ?_
 cases hs:gY ds with
 |true=>exact ah.m7 hs hd
 |false=>rw[oq];exact hd.av Rx
theorem NB.new{B:Bg}{H:Hp}{a:Addr}(h:kD B H)(ha:H a=none):NB B a:=fS fun z=>NB.oQ h z ha
namespace aC
variable{Θ:Bool->List PyData->Prop}{gt:TG}{tc:TT}{mp:List (Option Nat)}
theorem UN{lo:Int}{n:Nat}{nb:Addr->Prop}{σ:St}{H H1:Hp}{Q:VK}(W:Wd G nb ρ σ H)(s1:Step G.B H H1)(hm:(mp.filterMap id).Nodup)(iz:nj mp ρ=dN)(hn:n<=10000)(h:gX G dN n (fun i d=>i<n/\d= .int (lo+i)) true gt tc te Θ)
  (z:∀f a xs H' ds,Θ f ds->Step G.B H H'->H a=none->H' a=some (.lst xs)->ah (fun x=>G.S nb f x\/x=a) H' ds xs->Q (.ref a) H') (acc:Addr) (hacc:H1 acc=none):tw (jh lo n) gt tc te acc (fun H'=>Q (.ref acc) H') (iM mp σ) (upd H1 acc (.lst [])):=by
 obtain⟨fl,I,h0,ht,he⟩:=h
 have W0:Wd G nb dN (L2.iM mp σ) H1:=by rw[<-iz];exact(W.step s1).iM hm
 have W1:=W0.more hacc (o:= .lst [])
 have hN:=NB.new s1.2 hacc
 have hno:=Ky W0 hacc
 have DS:Step G.B H1 (upd H1 acc (.lst [])):= .same s1.2 (dR hacc)
 refine R.Bc (fun i σ H=>∃ds xs,Wd G (fun x=>nb x\/x=acc) dN σ H/\Step G.B H1 H/\H acc=some (.lst xs)/\ah (G.S (fun x=>nb x\/x=acc) fl) H ds xs/\ds.length<=i/\I i ds) ⟨[],[],W1,DS,aX, .nil,aJ _,h0⟩ ?_ ?_
 ·rintro i σ H hi ⟨ds,xs,W,st,hx,hd,hl,hI⟩
  exact Em hn hi W (.inr rfl) hN hno st hacc hx hd hl (.int _) (ht i _ ds ⟨hi,rfl⟩ hl hI) fun σ' H' ds' xs' W' st' hx' hd' hl' hI'=>⟨ds',xs',W',st',hx',hd',hl',hI'⟩
 ·rintro σ H' ⟨ds,xs,W',st,hx,hd,hl,hI⟩
  exact K9 W s1 hacc st hx hd (he ds hl hI) z
theorem kR{t0:TE}(hm:(mp.filterMap id).Nodup)(iz:nj mp ρ=dN)(h:Ev G ρ t0 fun _ x=>∃n:Int,x= .int n/\ -10000<=n/\n<=10000/\gX G dN n.toNat (fun i d=>i<n.toNat/\d= .int (0+i)) true gt tc te Θ):aC G ρ (lP (qJ (bq t0 bT)) gt tc te mp) Θ:=fun nb σ H Q W z=>
 h nb σ H _ W fun f v H1 x ⟨n,ex,h1,h2,q⟩ s1 hv=>by
  subst ex
  rw[hv.bX]
  exact⟨n,rfl,by omega,by omega,UN W s1 hm iz (by omega) q z⟩
theorem jM{t0:TE}(hm:(mp.filterMap id).Nodup)(iz:nj mp ρ=dN)(h:Ev G ρ t0 fun fi x=>∃es,x= .list es/\es.length<=10000/\∀v,gX (G.hd fi (.list es) v) dN es.length (fun i d=>es[i]?=some d) fi gt tc te Θ):aC G ρ (lP (pL K t0) gt tc te mp) Θ:=fun nb σ H Q W z=>
 h nb σ H _ W fun fi v H1 x ⟨es,ex,hn,q⟩ s1 hv=>by
  subst ex
  obtain⟨fl,I,h0,ht,he⟩:=q v
  have W0:=(W.step s1).hd hv
  obtain⟨a,xs,rfl,n,hx,hd⟩:=hv.fB
  refine⟨a,rfl,⟨xs, .of hx⟩,fun acc hacc=>?_⟩
  have FQ:Wd (G.hd fi (.list es) (.ref a)) nb dN (L2.iM mp σ) H1:=by rw[<-iz];exact W0.iM hm
  have W1:=FQ.more hacc (o:= .lst [])
  have hN:=NB.new s1.2 hacc
  have hno:=Ky FQ hacc
  have DS:Step G.B H1 (upd H1 acc (.lst [])):= .same s1.2 (dR hacc)
  have EU:NB G.B a:=fS fun z=>n (.inr (.inr (.inl z)))
  refine R.B6 (xs:=xs) (fun i σ H=>∃ds ys,Wd (G.hd fi (.list es) (.ref a)) (fun x=>nb x\/x=acc) dN σ H/\Step G.B H1 H/\H acc=some (.lst ys)/\ah (G.S (fun x=>nb x\/x=acc) fl) H ds ys/\ds.length<=i/\I i ds) ⟨[],[],W1,DS,aX, .nil,aJ _,h0⟩ ?_ ?_ ?_
  ·rintro i σ H hi ⟨ds,ys,W,st,_⟩
   exact .of (st.1 _ _ EU hx)
  ·rintro i x σ H hi ⟨ds,ys,W,st,hy,hd',hl,hI⟩
   obtain⟨a',xs',e',_,h',d'⟩:=W.iJ.2.fB
   cases e'
   rw[st.1 _ _ EU hx] at h';cases h'
   have hil:i<es.length:=by have:=(aP.mp hi).1;have:=d'.length;omega
   obtain⟨x',hx',dx⟩:=d'.get (aB hil)
   rw[hi] at hx';cases hx'
   exact Em (G:=G.hd fi (.list es) (.ref a)) hn hil W (.inr rfl) hN hno st hacc hy hd' hl dx (ht i _ ds (aB hil) hl hI) fun σ' H' ds' xs' W' st' hx' hd' hl' hI'=>⟨ds',xs',W',st',hx',hd',hl',hI'⟩
  ·rintro σ H' ⟨ds,ys,W',st,hy,hd',hl,hI⟩
   rw[hd.length] at hl hI
   exact K9 W s1 hacc st hy hd' (he ds hl hI) z
end aC
end
end L2
set_option maxRecDepth 100000
set_option maxHeartbeats 1000000
namespace L2
open PySem PySem.Spec PyProof.Rows
section
variable{ρ:Rh}{t:TS}{N:List Str}{vs:List V}{ds:List PyData}{nb:Addr->Prop}{H:Hp}{Q:VK}{Φ:Pd}{b l:Addr}
theorem m6{xs:List V}(h:ah nb H ds xs){i:Nat}{s:Sl}(e:(ds.map (Sl.d false))[i]?=some s):∃v d,xs[i]?=some v/\s= .d false d/\ai nb H d v:=by
 rw[aL] at e
 obtain⟨d,hd,e⟩:=jt.mp e
 obtain⟨v,hv,q⟩:=h.get hd
 exact⟨v,d,hv,e.symm,q⟩
theorem Sv.fP(hl:mF nb H)(hd:ah nb H ds vs)(aD:∀f d v H',Φ f d->dW H H'->ai (fun a=>nb a\/(f=true/\H a≠none)) H' d v->Q v H')
  (iz:ρ=ds.map (Sl.d false)++List.replicate (N.length-ds.length) .no) (h:Sv ⟨none,H,nb,[]⟩ ρ t {nx:=fun _=>Φ true .none,rt:=Φ}):t {nx:=fun _ H'=>Q .aT H',rt:=Q} (start N vs) H:=by
 have hlen:=hd.length
 have sm:∀{cM ρ' σ' H'},Wd ⟨none,H,nb,[]⟩ cM ρ' σ' H'->dW H H':=fun W a o e=>W.old a o (fun _ _ z=>(by cases z)) e
 refine h (fun _=>False) _ H _ ⟨fun _ _ z=>(by cases z),fun _ z=>z.elim,fun _ _ _ e=>e,fun _ z=>z.elim,hl,?_,fun _ _ z=>(by cases z),fun _ m=>(by cases m),fun i s e=>?_,?_,?_,?_⟩ ⟨fun cM ρ' σ' H' q W=>aD _ _ _ _ q (sm W) .aT,fun _ _ _ _ q _=>q.elim,fun _ _ _ _ q _=>q.elim,fun cM ρ' σ' f v H' d q W hv=>aD f d v H' q (sm W) (hv.av fun a z=>?_),fun _ _ _ _ _ q _=>q.elim⟩
 ·rw[iz];unfold start;simp[hlen]
 ·rw[iz] at e
  unfold start
  by_cases hi:i<ds.length
  ·rw[gD (by rw[aj];exact hi)] at e
   obtain⟨v,d,hv,rfl,q⟩:=m6 hd e
   refine⟨some v,?_,v,rfl,q.av fun a z=>?_⟩
   ·rw[gD (by rw[aj,hlen];exact hi),aL,hv];rfl
   ·rcases z with z|z|z|z
    ·exact z.elim
    ·exact z
    ·exact absurd (fun _ _ z=>(by cases z)) z
    ·cases z.1
  ·rw[g9 (by rw[aj];omega),g5] at e
   split at e
   ·rename_i h'
    cases e
    refine⟨none,?_,trivial⟩
    rw[aj] at h'
    rw[g9 (by rw[aj];omega),g5,if_pos (by rw[aj,hlen];exact h')]
   ·cases e
 ·intro i j a f as c g cs hij e1
  rw[iz] at e1
  by_cases hi:i<ds.length
  ·rw[gD (by rw[aj];exact hi)] at e1
   obtain⟨_,_,_,z,_⟩:=m6 hd e1
   cases z
  ·rw[g9 (by rw[aj];omega),g5] at e1
   split at e1<;>cases e1
 ·intro i j a f as c g cs hij e1
  rw[iz] at e1
  by_cases hi:i<ds.length
  ·rw[gD (by rw[aj];exact hi)] at e1
   obtain⟨_,_,_,z,_⟩:=m6 hd e1
   cases z
  ·rw[g9 (by rw[aj];omega),g5] at e1
   split at e1<;>cases e1
 ·intro i j c t hij e1
  rw[iz] at e1
  by_cases hi:i<ds.length
  ·rw[gD (by rw[aj];exact hi)] at e1
   obtain⟨_,_,_,z,_⟩:=m6 hd e1
   cases z
  ·rw[g9 (by rw[aj];omega),g5] at e1
   split at e1<;>cases e1
 ·rcases z with z|z
  ·exact .inr (.inl z)
  ·exact .inr (.inr (.inr z))
theorem Sv.nQ(hB:dM H b l)(hl:mF nb H)(hb:nb b)(hd:ah nb H ds vs)(aD:∀f d v H',Φ f d->bh (Nb b) H H'->dM H' b l->ai (fun a=>nb a\/(f=true/\H a≠none)) H' d v->Q v H')
    (iz:ρ= .ay::ds.map (Sl.d false)++List.replicate (N.length-(ds.length+1)) .no) (h:Sv ⟨some (b,l),H,nb,[]⟩ ρ t {nx:=fun _=>Φ true .none,rt:=Φ}):t {nx:=fun _ H'=>Q .aT H',rt:=Q} (start N (.ref b::vs)) H:=by
  have hlen:=hd.length
  have FE:∀a,a≠b->NB (some (b,l)) a:=fun a n b' l' e=>by cases e;exact n
  have YT:∀a,¬NB (some (b,l)) a->a=b:=fun a n=>fS fun z=>n (FE a z)
  have bt:∀{cM ρ' σ' H'},Wd ⟨some (b,l),H,nb,[]⟩ cM ρ' σ' H'->bh (Nb b) H H':=fun W a o n e=>W.old a o (FE a n) e
  have bg:∀{cM ρ' σ' H'},Wd ⟨some (b,l),H,nb,[]⟩ cM ρ' σ' H'->dM H' b l:=fun W=>W.ay b l rfl
  refine h (fun _=>False) _ H _ ⟨fun b' l' e=>(by cases e;exact hB),fun _ z=>z.elim,fun _ _ _ e=>e,fun _ z=>z.elim,hl,?_,fun b' l' e=>(by cases e;exact hB),fun _ m=>(by cases m),fun i s e=>?_,?_,?_,?_⟩ ⟨fun cM ρ' σ' H' q W=>aD _ _ _ _ q (bt W) (bg W) .aT,fun _ _ _ _ q _=>q.elim,fun _ _ _ _ q _=>q.elim,fun cM ρ' σ' f v H' d q W hv=>aD f d v H' q (bt W) (bg W) (hv.av fun a z=>?_),fun _ _ _ _ _ q _=>q.elim⟩
  · rw[iz];unfold start;simp[hlen]
  · rw[iz] at e
    unfold start
    cases i with
    |zero=>simp at e;subst e;exact⟨some (.ref b),by simp,b,l,rfl,rfl⟩
    | succ i =>
      simp only[nK,nv,aY,j7] at e⊢
      by_cases hi:i<ds.length
      · rw[gD (by rw[aj];exact hi)] at e
        obtain⟨v,d,hv,rfl,q⟩:=m6 hd e
        refine⟨some v,?_,v,rfl,q.av fun a z=>?_⟩
        · rw[gD (by rw[aj,hlen];exact hi),aL,hv];rfl
        · rcases z with z|z|z|z
          · exact z.elim
          · exact z
          · rw[YT a z];exact hb
          · cases z.1
      · rw[g9 (by rw[aj];omega),g5] at e
        split at e
        · rename_i h'
          cases e
          refine⟨none,?_,trivial⟩
          rw[aj] at h'
          rw[g9 (by rw[aj];omega),g5,if_pos (by rw[aj,hlen];exact h')]
        · cases e
  · intro i j a f as c g cs hij e1
    rw[iz] at e1
    cases i with
    |zero=>simp at e1
    | succ i =>
      simp only[nK,nv] at e1
      by_cases hi:i<ds.length
      · rw[gD (by rw[aj];exact hi)] at e1
        obtain⟨_,_,_,z,_⟩:=m6 hd e1
        cases z
      · rw[g9 (by rw[aj];omega),g5] at e1
        split at e1<;>cases e1
  · intro i j a f as c g cs hij e1
    rw[iz] at e1
    cases i with
    |zero=>simp at e1
    | succ i =>
      simp only[nK,nv] at e1
      by_cases hi:i<ds.length
      · rw[gD (by rw[aj];exact hi)] at e1
        obtain⟨_,_,_,z,_⟩:=m6 hd e1
        cases z
      · rw[g9 (by rw[aj];omega),g5] at e1
        split at e1<;>cases e1
  · intro i j c t hij e1
    rw[iz] at e1
    cases i with
    |zero=>simp at e1
    | succ i =>
      simp only[nK,nv] at e1
      by_cases hi:i<ds.length
      · rw[gD (by rw[aj];exact hi)] at e1
        obtain⟨_,_,_,z,_⟩:=m6 hd e1
        cases z
      · rw[g9 (by rw[aj];omega),g5] at e1
        split at e1<;>cases e1
  · rcases z with z|z
    · exact .inr (.inl z)
    · exact .inr (.inr (.inr z))
def B0(b l:Addr)(H:Hp):Gx:=⟨some (b,l),H,fun _=>False,[]⟩
theorem YL{a:Addr}{m:Nat}(hB:dM H b l):Wd (B0 b l H) (fun _=>False) (.raw (.ref a):: .ay::List.replicate m .no) (some (.ref a)::some (.ref b)::List.replicate m none) H:=by
  refine⟨fun b' l' e=>(by cases e;exact hB),fun _ z=>z.elim,fun _ _ _ e=>e,fun _ z=>z.elim,fun _ z=>z.elim,by simp,fun b' l' e=>(by cases e;exact hB),fun _ m=>(by cases m),fun i s e=>?_,?_,?_,?_⟩
  · match i with
    |0=>simp at e;subst e;exact⟨_,rfl,rfl⟩
    |1=>simp at e;subst e;exact⟨some (.ref b),rfl,b,l,rfl,rfl⟩
    | i + 2 =>
      simp only[nv,g5] at e⊢
      split at e
      · rename_i h;cases e;exact⟨none,if_pos h,trivial⟩
      · cases e
  · intro i j a f as c g cs hij e1
    match i with
    |0=>simp at e1
    |1=>simp at e1
    | i + 2 =>
      simp only[nv,g5] at e1
      split at e1<;>cases e1
  · intro i j a f as c g cs hij e1
    match i with
    |0=>simp at e1
    |1=>simp at e1
    | i + 2 =>
      simp only[nv,g5] at e1
      split at e1<;>cases e1
  · intro i j c t hij e1
    match i with
    |0=>simp at e1
    |1=>simp at e1
    | i + 2 =>
      simp only[nv,g5] at e1
      split at e1<;>cases e1
theorem Ev.Zi{G:Gx}{i:Nat}{a:Addr}{ns:List Int}{K:PySem.W.Frag}(e:ρ[i]?=some (.raw (.ref a)))(hS:aV K G.H0 a (ns.map V.int))(h:Φ true (.int ns.length)):Ev G ρ (fN (gp K) (bq (cQ i) bT)) Φ:=fun nb σ H Q W z=>by
 obtain⟨x,e1,h1⟩:=W.ok i _ e
 have h1:x=some (.ref a):=h1
 subst h1
 have hS':aV K H a (ns.map V.int):=by
  rcases hS with hr|hk
  ·have hn:NB G.B a:=fun b l hb z=>by
    subst z
    obtain⟨_,_,_,_,_,g1,_⟩:=W.gB _ _ hb
    rcases hr with hr|⟨o,hr⟩
    ·rw[g1] at hr
     have:=HO.lst.inj (fL hr)
     cases ns with
     |nil=>cases this
     |cons n r=>rw[aY] at this;cases (List.cons.inj this).1
    ·rw[g1] at hr;cases hr
   rcases hr with hr|⟨o,hr⟩
   ·exact .inl (.inl (W.old _ _ hn hr))
   ·exact .inl (.inr ⟨o,W.old _ _ hn hr⟩)
  ·exact .inr hk
 refine⟨.ref a,e1,a,_,rfl, .inl hS',?_⟩
 rw[aj]
 exact z true _ H _ h (.refl W.ay) (.int _)
theorem TL{D:Ends}(h2:∀H,D.rt (.bl true) H):xA (B0 b l H) {nx:=fun _=>False,rt:=fun _ d=>d= .bool true} D:=
 ⟨fun _ _ _ _ q _=>q.elim,fun _ _ _ _ q _=>q.elim,fun _ _ _ _ q _=>q.elim,fun _ _ _ f v H d q _ hv=>by subst q;unfold ai at hv;subst hv;exact h2 H,fun _ _ _ _ _ q _=>q.elim⟩
end
namespace R
theorem di{P:Int->Prop}{i:Int}(h:P i):∃j,PyData.int i= .int j/\P j:=⟨i,rfl,h⟩
theorem db{P:Bool->Prop}{i:Bool}(h:P i):∃j,PyData.bool i= .bool j/\P j:=⟨i,rfl,h⟩
theorem dl{P:List PyData->Prop}{i:List PyData}(h:P i):∃j,PyData.list i= .list j/\P j:=⟨i,rfl,h⟩
theorem dt{P:List PyData->Prop}{i:List PyData}(h:P i):∃j,PyData.tuple i= .tuple j/\P j:=⟨i,rfl,h⟩
theorem Sb{P:List PyData->Prop}{i:List PyData}(h:P i):∃j,(PyData.list i= .list j\/PyData.list i= .tuple j)/\P j:=⟨i, .inl rfl,h⟩
theorem RQ{P:List PyData->Prop}{i:List PyData}(h:P i):∃j,(PyData.tuple i= .list j\/PyData.tuple i= .tuple j)/\P j:=⟨i, .inr rfl,h⟩
theorem Qg{P:Bool->Prop}{i j:Int}(h:P (decide (i=j))):∃b,g8 (.int i) (.int j) b/\P b:=⟨_, .ii i j,h⟩
theorem Rb{P:Bool->Prop}{x y:Bool}(h:P (x==y)):∃b,g8 (.bool x) (.bool y) b/\P b:=⟨_, .bb x y,h⟩
theorem at_{ds:List PyData}{k:Int}{e:PyData}{P:PyData->Prop}(h:bN ds k=some e)(q:P e):∃e,bN ds k=some e/\P e:=⟨e,h,q⟩
theorem Ua{A:Prop}(q:A):([]:List Fd).length<=10000/\A:=⟨by decide,q⟩
theorem OJ{C A:Prop}(c:C)(q:A):C/\A:=⟨c,q⟩
end R
theorem fM{n:Nat}{F:DF}{vs:List V}{H:Hp}{Q:VK}{E:XK}(h:aS n F vs H Q E):∃(nb:Addr->Prop) (ds:List PyData) (Φ:Pd),mF nb H/\ah nb H ds vs/\(∀f d v H',Φ f d->dW H H'->ai (fun a=>nb a\/(f=true/\H a≠none)) H' d v->Q v H')/\F ds Φ:=by
 obtain⟨_,nb,ds,h1,h2,h3⟩:=h
 exact⟨nb,ds,_,h1,h2,fun f d v H' q=>q v H',h3⟩
theorem ny{n:Nat}{F:DF}{vs:List V}{H:Hp}{Q:VK}{E:XK}(h:fY n F vs H Q E):∃(b l:Addr) (ws:List V) (nb:Addr->Prop) (ds:List PyData) (Φ:Pd),vs= .ref b::ws/\dM H b l/\mF nb H/\nb b/\ah nb H ds ws/\(∀f d v H',Φ f d->bh (Nb b) H H'->dM H' b l->ai (fun a=>nb a\/(f=true/\H a≠none)) H' d v->Q v H')/\F ds Φ:=by
 obtain⟨_,b,l,ws,nb,ds,e,hB,h1,hb,h2,h3⟩:=h
 exact⟨b,l,ws,nb,ds,_,e,hB,h1,hb,h2,fun f d v H' q=>q v H',h3⟩
end L2
set_option maxRecDepth 100000
set_option maxHeartbeats 1000000
namespace L2
open PySem PySem.Spec PyProof.Rows
abbrev aq:=List (Int×Int)
abbrev Wo:=List (Option Int)
abbrev fJ(prs:aq):PyData:= .list (prs.map pairD)
abbrev kc(wd:Wo):PyData:= .list (wd.map g7)
abbrev cL(p n:Int)(cs:List aq):PyData:= .tuple [.int p, .int n, .list (cs.map fJ)]
def wc(prs:aq)(wd:Wo):Prop:=∃pr∈prs,wd[pr.1.toNat]?=some none
instance{prs:aq}{wd:Wo}:Decidable (wc prs wd):=by unfold wc;infer_instance
def oK(p:Int)(prs:aq)(wd:Wo):Option Int:=if wc prs wd then none else some (aU prs wd%p)
def ou(prs:aq)(m:Nat):Prop:=∀pr∈prs,0<=pr.1/\pr.1<m/\Sm pr.2
def lz(wd:Wo):Prop:=∀x,some x∈wd->Sm x
theorem GI{α β:Type}{xs:List α}(φ:α->β){k:Int}{m:Nat}(h0:0<=k)(h1:k<m)(hm:m=xs.length):∃x,xs[k.toNat]?=some x/\bN (xs.map φ) k=some (φ x):=by
 have hk:k.toNat<xs.length:=by omega
 exact⟨xs[k.toNat],aB hk,fT h0 (by rw[aL,aB hk];rfl)⟩
theorem eO{α β:Type}{xs:List α}{φ:α->β}{i:Nat}{d:β}(h:(xs.map φ)[i]?=some d):∃x,xs[i]?=some x/\d=φ x:=by
 rw[aL] at h
 obtain⟨x,hx,e⟩:=jt.mp h
 exact⟨x,hx,e.symm⟩
theorem take_snoc{α:Type}{xs:List α}{i:Nat}{x:α}(h:xs[i]?=some x):xs.take (i+1)=xs.take i++[x]:=by
 rw[zR,h];rfl
theorem JJ(o:Option Int):rG (g7 o)=o.isNone:=by cases o<;>rfl
end L2
set_option maxRecDepth 100000
set_option maxHeartbeats 4000000
namespace L2
open PySem PySem.Spec PyProof.Rows
structure Eu(p b L lt r t:Int):Prop where
 l0:0<L
 r0:0<=r
 lp:L<=p
 rp:r<=p
 lc:∃k,L=lt*b+p*k
 rc:∃k,r=t*b+p*k
 dv:∀d,d∣L->d∣r->d∣p/\d∣b%p
 sz:(t.natAbs:Int)*L+(lt.natAbs:Int)*r<=p
theorem Eu.start{p b:Int}(hp:2<=p):Eu p b p 0 (b%p) 1:=by
 have m1:=eS b (show p≠0 by omega)
 have m2:=eF b (show 0<p by omega)
 refine⟨by omega,m1,pS _,by omega,⟨1,by rw[oE,kP,Int.mul_one]⟩,⟨-(b/p),?_⟩,fun d h1 h2=>⟨h1,h2⟩,?_⟩
 ·have:=nN b p
  rw[Int.one_mul,Int.mul_neg]
  omega
 ·show(1:Int)*p+0*(b%p)<=p
  rw[Int.one_mul,oE]
  omega
theorem Eu.tb{p b L lt r t:Int}(h:Eu p b L lt r t): -p<=t/\t<=p:=by
 have h1:(t.natAbs:Int)*1<=(t.natAbs:Int)*L:=o7 (by have:=h.l0;omega) (by omega)
 have h2:0<=(lt.natAbs:Int)*r:=BL (by omega) h.r0
 have:=h.sz
 omega
theorem Eu.next{p b L lt r t:Int}(h:Eu p b L lt r t)(hr:0<r):Eu p b r t (L-L/r*r) (lt-L/r*t)/\L-L/r*r<r:=by
 have e:=nN L r
 have m1:=eS L (show r≠0 by omega)
 have m2:=eF L hr
 have e':L-L/r*r=L%r:=by rw[tu (L/r) r];omega
 have q0:0<=L/r:=vZ (by have:=h.l0;omega) (by omega)
 obtain⟨k1,c1⟩:=h.lc
 obtain⟨k2,c2⟩:=h.rc
 refine⟨⟨hr,by omega,h.rp,by have:=h.rp;omega,h.rc,⟨k1-L/r*k2,?_⟩,fun d d1 d2=>?_,?_⟩,by omega⟩
 ·rw[Int.sub_mul,pT]
  generalize L/r=q at*
  have z:q*r=q*(t*b)+q*(p*k2):=by rw[<-ze,<-c2]
  have z1:q*(t*b)=q*t*b:=(rX q t b).symm
  have z2:q*(p*k2)=p*(q*k2):=by rw[<-rX,tu q p,rX]
  omega
 ·have dL:d∣L:=by
   have z:d∣(L-L/r*r)+L/r*r:=Int.dvd_add d2 (Int.dvd_mul_of_dvd_right d1)
   have z2:(L-L/r*r)+L/r*r=L:=by omega
   rwa[z2] at z
  exact h.dv d dL d1
 ·generalize L/r=q at*
  have a1:((lt-q*t).natAbs:Int)<=(lt.natAbs:Int)+q*(t.natAbs:Int):=by
   have b1:(lt-q*t).natAbs<=lt.natAbs+(q*t).natAbs:=by omega
   have b2:((q*t).natAbs:Int)=q*(t.natAbs:Int):=by
    rw[Int.natAbs_mul]
    have:(q.natAbs:Int)=q:=by omega
    rw[Int.natCast_mul,this]
   omega
  have a2:((lt-q*t).natAbs:Int)*r<=((lt.natAbs:Int)+q*(t.natAbs:Int))*r:=tY a1 (by omega)
  have a3:((lt.natAbs:Int)+q*(t.natAbs:Int))*r=(lt.natAbs:Int)*r+q*(t.natAbs:Int)*r:=sZ _ _ _
  have a4:(t.natAbs:Int)*(L-q*r)=(t.natAbs:Int)*L-q*(t.natAbs:Int)*r:=by
   rw[pT,<-rX,tu (t.natAbs:Int) q]
  have:=h.sz
  omega
theorem Hz{α:Type}{us:List α}(h:us.length=1):∃a,us=[a]:=by
  cases us with
  |nil=>cases h
  | cons a us =>
    cases us with
    |nil=>exact⟨a,rfl⟩
    |cons _ _=>cases h
theorem ln2{α:Type}{us:List α}(h:us.length=2):∃a b,us=[a,b]:=by
  cases us with
  |nil=>cases h
  | cons a us =>
    obtain⟨b,rfl⟩:=Hz (us:=us) (u5 h)
    exact⟨a,b,rfl⟩
theorem KZ{α:Type}{us:List α}(h:us.length=3):∃a b c,us=[a,b,c]:=by
  cases us with
  |nil=>cases h
  | cons a us =>
    obtain⟨b,c,rfl⟩:=ln2 (us:=us) (u5 h)
    exact⟨a,b,c,rfl⟩
theorem K4{α:Type}{us:List α}(h:us.length=4):∃a b c d,us=[a,b,c,d]:=by
  cases us with
  |nil=>cases h
  | cons a us =>
    obtain⟨b,c,d,rfl⟩:=KZ (us:=us) (u5 h)
    exact⟨a,b,c,d,rfl⟩
theorem Ub{α:Type}{us:List α}(h:us.length=5):∃a b c d e,us=[a,b,c,d,e]:=by
  cases us with
  |nil=>cases h
  | cons a us =>
    obtain⟨b,c,d,e,rfl⟩:=K4 (us:=us) (u5 h)
    exact⟨a,b,c,d,e,rfl⟩
end L2
set_option maxRecDepth 100000
set_option maxHeartbeats 1000000
namespace L2
open PySem PySem.Spec PyProof.Rows
def kE(xs:Array Nat):Prop:=∀(i j x y:Nat),i<j->xs[i]?=some x->xs[j]?=some y->x<y
theorem UW{xs:Array Nat}{q:Nat}(hr:kE xs):∀(f lo hi:Nat),hi<=xs.size->lo<=hi->hi-lo<=f->(∀i x,i<lo->xs[i]?=some x->x<q)->(∀i x,hi<=i->xs[i]?=some x->q<=x)->
    lo<=SetTable.below.go xs q f lo hi/\SetTable.below.go xs q f lo hi<=hi/\(∀i x,i<SetTable.below.go xs q f lo hi->xs[i]?=some x->x<q)/\(∀i x,SetTable.below.go xs q f lo hi<=i->xs[i]?=some x->q<=x):=by
  intro f
  induction f with
  | zero =>
    intro lo hi h1 h2 h3 h4 h5
    have e:lo=hi:=by omega
    subst e
    exact⟨aJ _,aJ _,h4,h5⟩
  | succ f ih =>
    intro lo hi h1 h2 h3 h4 h5
    unfold SetTable.below.go
    by_cases hlt:lo<hi
    · rw[if_pos hlt]
      have hm:(lo+hi)/2<xs.size:=by omega
      have hg:xs[(lo+hi)/2]?=some xs[(lo+hi)/2]:=kU hm
      have hgd:xs.getD ((lo+hi)/2) q=xs[(lo+hi)/2]:=by rw[AH,hg];rfl
      dsimp only
      rw[hgd]
      by_cases hc:xs[(lo+hi)/2]<q
      · rw[if_pos hc]
        obtain⟨a1,a2,a3,a4⟩:=ih ((lo+hi)/2+1) hi h1 (by omega) (by omega) (fun i x hi' e=>by
          rcases Nat.lt_or_ge i ((lo+hi)/2) with z|z
          · exact mV (hr i _ x _ z e hg) hc
          · have:i=(lo+hi)/2:=by omega
            subst this;rw[hg] at e;cases e;exact hc) h5
        exact⟨by omega,a2,a3,a4⟩
      · rw[if_neg hc]
        obtain⟨a1,a2,a3,a4⟩:=ih lo ((lo+hi)/2) (by omega) (by omega) (by omega) h4 (fun i x hi' e=>by
          rcases Nat.lt_or_ge ((lo+hi)/2) i with z|z
          · exact jr (v7 (xN hc) (hr _ i _ x z hg e))
          · have:i=(lo+hi)/2:=by omega
            subst this;rw[hg] at e;cases e;exact xN hc)
        exact⟨a1,by omega,a3,a4⟩
    · rw[if_neg hlt]
      have e:lo=hi:=by omega
      subst e
      exact⟨aJ _,aJ _,h4,h5⟩
theorem below_at{xs:Array Nat}{q:Nat}(hr:kE xs):SetTable.below xs q<=xs.size/\(∀i x,i<SetTable.below xs q->xs[i]?=some x->x<q)/\(∀i x,SetTable.below xs q<=i->xs[i]?=some x->q<=x):=by
 obtain⟨_,h2,h3,h4⟩:=UW (q:=q) hr xs.size 0 xs.size (aJ _) (eY _) (by omega) (fun i x h=>absurd h (Nat.not_lt_zero _)) (fun i x h e=>by
  have:=(sV.mp e).1;omega)
 exact⟨h2,h3,h4⟩
theorem Tr{α:Type}{xs:Array α}{p:Nat}{x:α}(hp:p<=xs.size)(i:Nat):(SetTable.insertAt xs p x)[i]?=if i<p then xs[i]? else if i=p then some x else xs[i-1]?:=by
 unfold SetTable.insertAt
 rw[Array.getElem?_append]
 have e1:((xs.extract 0 p).push x).size=p+1:=by rw[Array.size_push,wG];omega
 rw[e1]
 by_cases h1:i<p
 ·rw[if_pos (show i<p+1 by omega),if_pos h1,Gu,if_neg (by rw[wG];omega),Ep (by omega)]
  simp
 ·rw[if_neg h1]
  by_cases h2:i=p
  ·rw[if_pos (show i<p+1 by omega),if_pos h2,Gu,if_pos (by rw[wG];omega)]
  ·rw[if_neg (show¬i<p+1 by omega),if_neg h2]
   by_cases h3:i-(p+1)<xs.size-p
   ·rw[Ep (by omega),<-kU,show p+(i-(p+1))=i-1 by omega]
   ·rw[Bu (by rw[wG];omega),Bu (by omega)]
theorem kE.insert{xs:Array Nat}{q:Nat}(hr:kE xs)(hq:xs[SetTable.below xs q]?≠some q):kE (SetTable.insertAt xs (SetTable.below xs q) q):=by
 obtain⟨h1,h2,h3⟩:=below_at (q:=q) hr
 have h3':∀i x,SetTable.below xs q<=i->xs[i]?=some x->q<x:=fun i x hi e=>by
  rcases zO (h3 i x hi e) with z|z
  ·exact z
  ·subst z
   rcases zO hi with z|z
   ·have hb:SetTable.below xs q<xs.size:=eK z (jr (sV.mp e).1)
    have hg:xs[SetTable.below xs q]?=some xs[SetTable.below xs q]:=kU hb
    have:=hr _ i _ q z hg e
    have:=h3 _ _ (aJ _) hg
    omega
   ·rw[<-z] at e;exact absurd e hq
 intro i j x y hij ex ey
 rw[Tr h1] at ex ey
 by_cases a:i<SetTable.below xs q
 ·rw[if_pos a] at ex
  by_cases b:j<SetTable.below xs q
  ·rw[if_pos b] at ey;exact hr i j x y hij ex ey
  ·rw[if_neg b] at ey
   by_cases c:j=SetTable.below xs q
   ·rw[if_pos c] at ey;cases ey;exact h2 i x a ex
   ·rw[if_neg c] at ey;exact hr i (j-1) x y (by omega) ex ey
 ·rw[if_neg a] at ex
  by_cases c:i=SetTable.below xs q
  ·rw[if_pos c] at ex;cases ex
   rw[if_neg (by omega),if_neg (by omega)] at ey
   exact h3' (j-1) y (by omega) ey
  ·rw[if_neg c] at ex
   rw[if_neg (by omega),if_neg (by omega)] at ey
   exact hr (i-1) (j-1) x y (by omega) ex ey
theorem PF{t:SetTable}{ha:Nat->Int}{h:Int}:∀(f:Nat) (p:SetTable.Probe) (j:Nat) (dm:Option Nat),(∀d,p.dummy=some d->t.slot d= .dummy)->SetTable.probe.go t ha h f p=some (.empty j dm)->t.slot j= .empty/\∀d,dm=some d->t.slot d= .dummy:=by
  intro f
  induction f with
  |zero=>intro p j dm _ e;unfold SetTable.probe.go at e;cases e
  | succ f ih =>
    intro p j dm hd e
    have IV:∀p:SetTable.Probe,(t.advance p).dummy=p.dummy:=fun p=>by unfold SetTable.advance;split<;>rfl
    unfold SetTable.probe.go at e
    cases hs:t.slot p.j with
    |empty=>rw[hs] at e;cases e;exact⟨hs,hd⟩
    |dummy=>rw[hs] at e;exact ih _ j dm (fun d h'=>by rw[IV] at h';cases h';exact hs) e
    | live i =>
      rw[hs] at e
      dsimp only at e
      split at e
      · cases e
      · exact ih _ j dm (fun d h'=>by rw[IV] at h';exact hd d h') e
theorem Lv{t:SetTable}{h:Int}{j:Nat}{wd:Bool}(e:t.freeSlot h=some (j,wd)):∀i,t.slot j≠ .live i:=by
 unfold SetTable.freeSlot SetTable.probe at e
 intro i z
 split at e
 ·rename_i j0 dm he
  obtain⟨h1,h2⟩:=PF (10*SetTable.turns t.mask) (t.probeStart h) j0 dm (fun d h'=>by unfold SetTable.probeStart at h';cases h') he
  cases dm with
  |none=>cases e;simp at z;rw[h1] at z;cases z
  |some d=>cases e;simp at z;rw[h2 d rfl] at z;cases z
 ·cases e
structure e7(bt:Bool)(t:SetTable):Prop where
 led:bt=false->t.led=true
 yv:t.plain=true->kE t.place
theorem e7.standIn{bt:Bool}{t:SetTable}(h:e7 bt t)(n:Nat):e7 bt (t.standIn n):=⟨h.led,fun z=>by cases z⟩
theorem e7.off{bt:Bool}{t:SetTable}(h:e7 bt t):e7 bt {t with plain:=false}:=⟨h.led,fun z=>by cases z⟩
theorem e7.put{bt:Bool}{t:SetTable}{j:Nat}(h:e7 bt t)(hj:∀i,t.slot j≠ .live i):e7 bt (t.put j).1:=by
 refine⟨h.led,fun z=>?_⟩
 refine kE.insert (h.yv z) fun e=>hj (SetTable.below t.place j) ?_
 unfold SetTable.slot
 dsimp only
 rw[if_pos (by rw[e];exact beq_self_eq_true _)]
theorem e7.layNew{bt:Bool}{t:SetTable}{es:Array (Int×Value)}{h:Int}{x:Value}(ok:e7 bt t):e7 bt (layNew t es h x).2.1:=by
 unfold PySem.layNew
 split
 ·rename_i slot wd e
  dsimp only
  unfold SetTable.orStandIn
  split
  ·exact ok.put (Lv e)
  ·exact(ok.put (Lv e)).standIn _
 ·exact ok.standIn _
theorem Vn(n:Nat)(φ:Nat->Option Nat):kE (((List.range n).filterMap fun j=>(φ j).map (j,·)).map (·.1)).toArray:=by
  have hp:(((List.range n).filterMap fun j=>(φ j).map (j,·)).map (·.1)).Pairwise (· < ·):=by
    have hs:List.Sublist (((List.range n).filterMap fun j=>(φ j).map (j,·)).map (·.1)) (List.range n):=by
      induction List.range n with
      |nil=>simp
      | cons a r ih =>
        rw[p5]
        cases φ a with
        |none=>exact ih.cons a
        |some y=>exact ih.cons₂ a
    exact List.pairwise_lt_range.sublist hs
  intro i j x y hij ex ey
  rw[HX] at ex ey
  obtain⟨hi,rfl⟩:=aP.mp ex
  obtain⟨hj,rfl⟩:=aP.mp ey
  exact kr.mp hp i j hi hj hij
theorem e7.Uw{bt:Bool}{t:SetTable}{es:Array (Int×Value)}{n:Nat}(ok:e7 bt t):e7 bt (relayAll t es n).2.1:=by
  unfold relayAll
  split
  · rename_i t' order e
    dsimp only
    split
    · unfold SetTable.relaid SetTable.laid at e
      cases hl:SetTable.layClean (SetTable.sizeAbove n-1) (es.map (·.1)) with
      |none=>rw[hl] at e;cases e
      | some owner =>
        rw[hl] at e
        cases e
        exact⟨ok.led,fun _=>Vn _ _⟩
    · exact ok.standIn _
  · exact ok.standIn _
theorem e7.fresh{bt:Bool}:e7 bt (.fresh 0 0 (!bt)):=⟨fun h=>by rw[h];rfl,fun _ i j x y _ e=>by simp[SetTable.fresh] at e⟩
end L2
set_option maxRecDepth 100000
set_option maxHeartbeats 4000000
namespace L2
open PySem PySem.Spec PyProof.Rows
def gJ(bt:Bool)(h:Heap)(a:Addr):Prop:=∀o es ep t,h.get? a=some o->o.data= .set es ep t->e7 bt t
theorem gJ.of{bt:Bool}{h:Heap}{a:Addr}{o:Obj}{es:Array (Int×Value)}{ep:Nat}{t:SetTable}(e:h.get? a=some o)(d:o.data= .set es ep t)(k:e7 bt t):gJ bt h a:=fun o' es' vS t' e' d'=>by
 rw[e] at e';cases e';rw[d] at d';cases d';exact k
theorem gJ.keep{bt:Bool}{h h':Heap}{a:Addr}{o:Obj}(k:gJ bt h a)(e:h.get? a=some o)(e':h'.get? a=some o):gJ bt h' a:=fun o1 es ep t x d=>by
 rw[e'] at x;cases x;exact k o es ep t e d
section
variable{prog:Program}{w:World}{A:Around}{E:Value->Shared->Prop}{s:Shared}{a:Addr}{bt:Bool}
abbrev IK(prog:Program)(w:World):=intKind prog w
theorem HY{o:Obj}{es es':Array (Int×Value)}{ep:Nat}{t t':SetTable}{T:Int->Bool}{h:Heap}(g1:h.get? a=some o)(g2:o.ExactSet)(g3:o.data= .set es ep t)(l1:ElemsOf (IK prog w) es'.toList)
  (l2:∀k,T k=true↔∃e∈es'.toList,(IK prog w).is k e.2=true) (l3:es'.size<scanBound) (l4:t'.fits es'.size=true) (tk:e7 bt t'):
  (∃o',(h.update a (Obj.putSet es' t')).get? a=some o'/\o'.ExactSet/\o'.data= .set es' (ep+1) t')/\(h.update a (Obj.putSet es' t')).SetOf (IK prog w) a T es'.size/\gJ bt (h.update a (Obj.putSet es' t')) a:=by
 obtain⟨q1,q2⟩:=SetOf_store (knd:=IK prog w) (es':=es') (t':=t') (S':=T) g1 g2 g3 l1 l2 l3 l4
 exact⟨⟨_,q1,g2,rfl⟩,q2, .of q1 rfl tk⟩
theorem EG{gg:Bool->Sem Unit}(OB:∀(b:Bool) (s₁:Shared) (Q₁:Unit->Shared->Prop),Q₁ () s₁->wpAny (model prog w) A (gg b) Q₁ E s₁){o:Obj}{es:Array (Int×Value)}{ep:Nat}{t:SetTable}
    (g1:s.heap.get? a=some o) (g2:o.ExactSet) (g3:o.data= .set es ep t) {es1:Array (Int×Value)} {t2:SetTable} {T:Int->Bool} (l1:ElemsOf (IK prog w) es1.toList) (l2:∀k,T k=true↔∃e∈es1.toList,(IK prog w).is k e.2=true)
    (l3:es1.size<scanBound) (l4:t2.fits es1.size=true) (tk:e7 bt t2) {wd:Bool} {R:Option Bool->Shared->Prop}
    (fin:∀h',Heap.SameBut a s.heap h'->h'.SetOf (IK prog w) a T es1.size->gJ bt h' a->R (some true) {s with heap:=h'}):
    wpAny (model prog w) A (do storeSet a es1 t2
                               if(!wd && t2.tooFull)=true then do
                                 gg (relayAll t2 es1 (SetTable.grown es1.size)).2.2
                                 storeSet a (relayAll t2 es1 (SetTable.grown es1.size)).1 (relayAll t2 es1 (SetTable.grown es1.size)).2.1
                                 pure (some true)
                               else pure (some true)) R E s:=by
  obtain⟨⟨o1,k1,k2,k3⟩,q1,q2⟩:=HY (T:=T) g1 g2 g3 l1 l2 l3 l4 tk
  have sb:=Heap.SameBut.update s.heap a (Obj.putSet es1 t2)
  refine wpAny_bind (wpAny_storeSet_of g1 g3 ?_ (fits_of_scanBound l3))
  by_cases c:(!wd && t2.tooFull)=true
  · rw[if_pos c]
    have pp:=relayAll_perm t2 es1 (SetTable.grown es1.size)
    have pf:=relayAll_fits t2 es1 (SetTable.grown es1.size)
    have pt:=tk.Uw (es:=es1) (n:=SetTable.grown es1.size)
    generalize relayAll t2 es1 (SetTable.grown es1.size)=Z at pp pf pt⊢
    obtain⟨FG,t3,UY⟩:=Z
    dsimp only at pp pf pt⊢
    have sz:FG.size=es1.size:=by have:=pp.length_eq;rwa[jx,jx] at this
    have Wu:∀k,T k=true↔∃e∈FG.toList,(IK prog w).is k e.2=true:=fun k=>(l2 k).trans ⟨fun⟨e,m,z⟩=>⟨e,pp.mem_iff.mpr m,z⟩,fun⟨e,m,z⟩=>⟨e,pp.mem_iff.mp m,z⟩⟩
    obtain⟨_,r1,r2⟩:=HY (T:=T) k1 k2 k3 (l1.perm pp) Wu (by rw[sz];exact l3) pf pt
    refine wpAny_bind (OB _ _ _ (wpAny_bind (wpAny_storeSet_of k1 k3 ?_ (fits_of_scanBound (by rw[sz];exact l3)))))
    rw[sz] at r1
    exact wpAny_pure (fin _ (sb.trans (Heap.SameBut.update _ a _)) r1 r2)
  · rw[if_neg c]
    exact wpAny_pure (fin _ sb q1 q2)
theorem Mm{S:Int->Bool}{n:Nat}{k:Int}{x:Value}{Q:Bool->Shared->Prop}(hx:(IK prog w).is k x=true)(sc:x.scannable=true)(hS:s.heap.SetOf (IK prog w) a S n)(hT:gJ bt s.heap a)(room:n+1<scanBound)
    (fin:∀h',Heap.SameBut a s.heap h'->h'.SetOf (IK prog w) a (fun j=>S j||decide (j=k)) (if S k then n else n+1)->gJ bt h' a->Q (!S k) {s with heap:=h'}):
    wpAny (model prog w) A (setAddHashed a x ((IK prog w).hash k)) Q E s:=by
  obtain⟨o,es,ep,t,g1,g2,g3,l1,l2,l3,l4,sz⟩:=hS
  have tk:=hT o es ep t g1 g3
  unfold setAddHashed setAddHashedIn
  refine wpAny_holding (wpAny_bind (wpAny_setState_of g1 g3 l4 ?_))
  dsimp only
  rw[if_pos (byScan_of sc l3 l1)]
  unfold setAddByScan
  refine wpAny_bind (wpAny_bind (wpAny_rule (wpAny_bind (wpAny_setScan_of hx g1 g3 l4 l1 ?_))))
  cases fr:List.findIdx? (fun e=>(IK prog w).is k e.2) es.toList with
  | some j =>
    obtain⟨hj,pj,_⟩:=List.findIdx?_eq_some_iff_getElem.mp fr
    have yes:S k=true:=(l2 k).mpr ⟨_,ig hj,pj⟩
    have z:=fin s.heap (.refl a s.heap) ⟨o,es,ep,t,g1,g2,g3,l1,fun j=>by
      rw[Bool.or_eq_true,decide_eq_true_eq,<-l2 j]
      exact⟨fun q=>q.elim id fun e=>e▸yes, .inl⟩,l3,l4,by rw[if_pos yes];exact sz⟩ hT
    rw[yes] at z
    exact wpAny_pure (wpAny_pure z)
  | none =>
    have no:S k=false:=by
      cases q:S k with
      |false=>rfl
      | true =>
        obtain⟨e,m,p⟩:=(l2 k).mp q
        rw[List.findIdx?_eq_none_iff.mp fr e m] at p;cases p
    have pp:=layNew_perm t es ((IK prog w).hash k) x
    have pf:=layNew_fits t es ((IK prog w).hash k) x
    have pt:=tk.layNew (es:=es) (h:=(IK prog w).hash k) (x:=x)
    dsimp only
    generalize layNew t es ((IK prog w).hash k) x=Z at pp pf pt⊢
    obtain⟨es1,t1,wd,UY⟩:=Z
    dsimp only at pp pf pt⊢
    rw[Array.toList_push] at pp
    have lF:es1.size=n+1:=by have:=pp.length_eq;rw[bz,jx,jx,sz] at this;exact this
    have fin':∀h',Heap.SameBut a s.heap h'->h'.SetOf (IK prog w) a (fun j=>S j||decide (j=k)) es1.size->gJ bt h' a->Q true {s with heap:=h'}:=fun h' x1 x2 x3=>by
      have:=fin h' x1;rw[no,if_neg dZ] at this;rw[lF] at x2;exact this x2 x3
    have gw:∀(b:Bool) (s₁:Shared) (Q₁:Unit->Shared->Prop),Q₁ () s₁->wpAny (model prog w) A (match b with|true=>rule "set.scan.the-table-gave-way" |false=>pure ()) Q₁ E s₁:=fun b s₁ Q₁ q=>by
      cases b
      · exact wpAny_pure q
      · exact wpAny_rule q
    refine wpAny_bind (gw _ _ _ ?_)
    have e1:=(l1.push hx sc).perm pp
    have e2:=mem_push_iff hx l2 pp
    have e3:es1.size<scanBound:=by rw[lF];exact room
    by_cases pl:t1.plain=true
    · rw[if_pos pl,hashByValue_scannable 8 sc]
      refine wpAny_bind (wpAny_pure ?_)
      refine EG gw g1 g2 g3 e1 e2 e3 ?_ ?_ fun h' x1 x2 x3=>wpAny_pure (fin' h' x1 x2 x3)
      · split
        · exact pf
        · exact SetTable.fits_plain_off pf
      · split
        · exact pt
        · exact pt.off
    · rw[if_neg pl]
      refine wpAny_bind (wpAny_pure ?_)
      rw[if_pos rfl]
      exact EG gw g1 g2 g3 e1 e2 e3 pf pt fun h' x1 x2 x3=>wpAny_pure (fin' h' x1 x2 x3)
end
end L2
set_option maxRecDepth 100000
set_option maxHeartbeats 4000000
namespace L2
open PySem PySem.Spec PyProof.Rows
section
variable{prog:Program}{w:World}{A:Around}{R:Result->Shared->Prop}{I:Addr}{fp wr:List Addr}{G:Array GenState->Array GenState->Prop}{n:Nat}{P:Nat->Value->Prop}{St:Nat->Shared->Prop}{bt:Bool}
abbrev met(val:Nat->Int)(i:Nat):Int->Bool:=fun k=>(firstMet val i).any (· ==k)
theorem UE(W:WalksS prog w A.in1 I fp wr G n P St)(C:Addr)(nC:C∉fp)(val:Nat->Int)(hv:∀i v,P i v->∃t,v= .int (val i) t)(room:n+1<scanBound)(fuel:Nat):
    ∀(i:Nat) (s:Shared),n-i=fuel->i<=n->St i s->s.heap.SetOf (IK prog w) C (met val i) (firstMet val i).length->gJ bt s.heap C->
      (∀s',Moved (C::wr) G s s'->s'.heap.SetOf (IK prog w) C (met val n) (firstMet val n).length->gJ bt s'.heap C->R (.ok (.ret .none)) s')->
      codeAny (model prog w) A (.builtin "set.update.loop" ⟨[.ref C, .ref I],[]⟩) R s:=by
  have nw:C∉wr:=fun z=>nC (W.sub _ z)
  have up:∀b∈wr,b∈C::wr:=fun b z=>cG _ z
  have mv:∀{s s':Shared} {T:Int->Bool} {m:Nat},Moved wr G s s'->s.heap.SetOf (IK prog w) C T m->gJ bt s.heap C->s'.heap.SetOf (IK prog w) C T m/\gJ bt s'.heap C:=fun mo q tt=>by
    obtain⟨o,es,ep,t,ho,r⟩:=q
    exact⟨⟨o,es,ep,t,mo.heap C _ nw ho,r⟩,tt.keep ho (mo.heap C _ nw ho)⟩
  induction fuel with
  | zero =>
    intro i s e1 e2 st q tt fin
    obtain rfl:i=n:=by omega
    refine codeAny_builtin F.entry_set_update_loop ?_
    rw[lI Dp _]
    refine wpAny_bind (W.done s _ _ st fun s' mo=>?_)
    exact wpAny_pure (fin s' (mo.mono up) (mv mo q tt).1 (mv mo q tt).2)
  | succ fuel ih =>
    intro i s e1 e2 st q tt fin
    have lt:i<n:=by omega
    refine codeAny_builtin F.entry_set_update_loop ?_
    rw[lI Dp _]
    refine wpAny_bind (W.item i s _ _ lt st fun v s' hP st' mo=>?_)
    obtain⟨tok,rfl⟩:=hv i v hP
    obtain⟨q',TZ⟩:=mv mo q tt
    show wpAny _ A.in1 (holding [Value.int (val i) tok] (setAdd C (.int (val i) tok))>>=_) _ _ s'
    unfold setAdd
    refine wpAny_bind (wpAny_holding (wpAny_holding (wpAny_bind ((IK prog w).pyHash (k:=val i) (intKind_is _ _ _ _) ?_))))
    refine Mm (bt:=bt) (s:={s' with toks:=s'.toks+1}) (intKind_is _ _ _ _) rfl q' TZ (by have:=firstMet_length_le val i;omega) fun h' sb q2 Xr=>?_
    have q3:h'.SetOf (IK prog w) C (met val (i+1)) (firstMet val (i+1)).length:=SetOf_congr q2 (fun j=>by unfold met;rw[firstMet_succ,step_any]) (by rw[firstMet_succ,step_length])
    refine wpAny_pure ⟨plainId_quiet Dp _,ih (i+1) _ (by omega) lt (W.frame _ s' _ _ st' (mS _) fun b hb o e=>?_) q3 Xr fun s2 O8 q4 TN=>?_⟩
    · rw[sb.2 b fun z:b=C=>nC (z▸hb)];exact e
    · refine fin s2 (Moved.trans W.gtrans ((mo.mono up).then_heap (mS _) fun b o hb e=>?_) O8) q4 TN
      rw[sb.2 b fun z:b=C=>hb (z▸bA)];exact e
end
section
variable{prog:Program}{w:World}{A:Around}{E:Value->Shared->Prop}{s:Shared}
abbrev gc(w:World):Bool:=w.params.followText "set-order"
abbrev kL(w:World):Obj:={cls:= .type "set",dict:=none,data:= .set #[] 0 (.fresh 0 0 (!gc w))}
theorem Wa(a:Value){Q₁:Value->Shared->Prop}(fin:Q₁ (.ref s.heap.objs.size) {s with heap:=s.heap.push (kL w)}):codeAny (model prog w) A (.call (.builtin "set.__new__") ⟨[.type "set",a],[]⟩) (wants Q₁ E) s:=by
 refine codeAny_of_tree ?_
 show wpAny _ A.in1 (do checkBuiltinCall "set.__new__" ⟨[.type "set",a],[]⟩;again (.builtin "set.__new__" ⟨[.type "set",a],[]⟩)) _ _ s
 refine wpAny_bind (wpAny_of_eq (F.newCall_set_1 a) (wpAny_pure ⟨plainId_quiet F.plain_set_new _,codeAny_builtin F.entry_set_new ?_⟩))
 rw[lI F.plain_set_new _]
 unfold Builtin.«set.__new__» Builtin.Frozenset.newClass
 have hsub:=sub_set_self
 obtain⟨hp,g,d,tk,os⟩:=s
 dsimp only at fin⊢
 wp_walk
 refine wpAny_askSetting (wpAny_pure ?_)
 dsimp only
 simp only[newObj]
 exact wpAny_bind (wpAny_alloc (wpAny_pure (wpAny_pure fin)))
theorem OI{l:Addr}{items:Array Value}{ns:List Int}{Q:Value->Shared->Prop}(hh:A.handled=none)(hl:s.heap.IsList l items)(hi:IntsAre items.toList ns)(room:items.size+1<scanBound)
    (fin:∀(h':Heap) (tk:Nat),h'.SetOf (IK prog w) s.heap.objs.size (met (fun i=>ns.getD i 0) items.size) (firstMet (fun i=>ns.getD i 0) items.size).length->gJ (gc w) h' s.heap.objs.size->
      (∀b o,b<s.heap.objs.size->s.heap.get? b=some o->h'.get? b=some o)->Q (.ref s.heap.objs.size) {s with heap:=h',toks:=tk}):wpAny (model prog w) A (call (.type "set") [.ref l]) Q E s:=by
  obtain⟨c,tl,Zd⟩:=nu.mro
  have hmade:=nu.made
  have hsub:=nu.sub
  have h1:=nu.notType
  have h2:=nu.canCreate
  have hct:=F.typeCall_set_1 (.ref l)
  refine wpAny_call (codeAny_of_tree ?_)
  show wpAny _ _ (callAny (.type "set") _) _ _ _
  refine wpAny_pure ⟨Code.quiet_builtin _ (by decide+kernel),codeAny_builtin F.entry_type_call ?_⟩
  rw[Around.under_plain (weight_type_call_type "set" [.ref l] []) rfl]
  repeat (any_goals (first|assumption|wp_step))
  refine codeAny_mono (Wa (.ref l) (E:=E) (Q₁:=fun obj s₁=>obj= .ref s.heap.objs.size/\s₁={s with heap:=s.heap.push (kL w)}) ⟨rfl,rfl⟩) fun r s₁ hr=>?_
  cases r with
  |error e=>exact hr
  | ok fl =>
    cases fl with
    | ret obj =>
      obtain⟨rfl,rfl⟩:=hr
      have hS:(s.heap.push (kL w)).get? s.heap.objs.size=some (kL w):=fk _ rfl
      have hT:Shared.TypeIs {s with heap:=s.heap.push (kL w)} (.ref s.heap.objs.size) "set":=⟨_,hS,rfl⟩
      have hli:=nu.init.lookup
      have hbi:=nu.init.bind (.ref s.heap.objs.size)
      repeat (any_goals (first|assumption|wp_step))
      refine codeAny_mono (codeAny_call_builtin (R:=wants (fun r s₂=>r= .none/\∃h' tk,s₂={s with heap:=h',toks:=tk}/\h'.SetOf (IK prog w) s.heap.objs.size (met (fun i=>ns.getD i 0) items.size) (firstMet (fun i=>ns.getD i 0) items.size).length/\gJ (gc w) h' s.heap.objs.size/\
          (∀b o,b<s.heap.objs.size->s.heap.get? b=some o->h'.get? b=some o)) E) nu.init.plain F.entry_set_init (check_set_init_1 hT ?_)) fun r₂ s₂ xQ=>?_
      · obtain⟨ol,iw,hcl,nl,hdl⟩:=hl
        obtain⟨ZO,ZF,Ze,ZQ⟩:=ol
        simp only at hcl hdl
        subst hcl;subst hdl
        have Wf:=bS (kL w) iw
        have YX:=F.sub_list_set
        have Zy:=F.sub_list_frozenset
        have hne:(Value.type "list"==Value.type "dict")=false:=by decide
        have hl1:(s.heap.push (kL w)).IsList l items:=⟨_,Wf,rfl,nl,rfl⟩
        unfold Builtin.«set.__init__» noKeywords Builtin.Frozenset.updateFrom
        generalize LO:pyIter=PI
        wp_walk
        subst LO
        refine wpAny_pyIter_list hl1 (wpAny_bind (wpAny_runValue ?_))
        have hlS:l<s.heap.objs.size:=bC iw
        have lF:(s.heap.push (kL w)).objs.size=s.heap.objs.size+1:=l6 ..
        have n1:l≠(s.heap.push (kL w)).objs.size:=by rw[lF];exact cW (nH hlS)
        have n2:s.heap.objs.size∉[(s.heap.push (kL w)).objs.size,l]:=by
          rw[lF];intro z;rcases aM.mp z with z|z
          · exact absurd z (cW (pN _))
          · exact absurd (aQ.mp z) (oG hlS)
        have h3:A.in1.in1.in1.handled=none:=by simp[hh]
        have hS':=bS ({cls:= .type "list_iterator",data:= .fields #[.ref l, .int 0 0]}:Obj) hS
        refine UE (bt:=gc w) ((Walks.list h3 _ l n1 items).toS) s.heap.objs.size n2 (fun i=>ns.getD i 0) (fun i v e=>IntsAre.int_at hi i v (by rw[mP];exact e)) room (items.size-0) 0 _ (by omega) (eY _)
          ⟨⟨_,fk _ rfl,rfl,rfl⟩,(hl1.push _)⟩ (SetOf_congr ((setObjOf_fresh (knd:=IK prog w) (!gc w)).setOf hS' (by unfold scanBound;omega)) (fun _=>rfl) rfl) (.of hS' rfl .fresh) ?_
        intro s' mo q tt
        obtain⟨h',g',d',tk',os'⟩:=s'
        obtain rfl:g'=s.gens:=mo.gens
        obtain rfl:d'=s.drawn:=mo.drawn
        obtain rfl:os'=s.os:=mo.os
        refine wpAny_pure (wpAny_pure ⟨rfl,h',tk',rfl,q,tt,fun b o hb e=>?_⟩)
        refine mo.heap b o (fun z=>?_) (bS _ (bS _ e))
        rcases aM.mp z with z|z
        · exact absurd z (cW hb)
        · rw[lF] at z;exact absurd (aQ.mp z) (cW (nH hb))
      · cases r₂ with
        |error e=>exact xQ
        | ok fl₂ =>
          cases fl₂ with
          | ret r =>
            obtain⟨rfl,h',tk,rfl,q1,q2,q3⟩:=xQ
            repeat (any_goals (first|assumption|wp_step))
            exact fin _ _ q1 q2 q3
          |_=>exact xQ.elim
    |_=>exact hr.elim
end
end L2
set_option maxRecDepth 100000
set_option maxHeartbeats 4000000
namespace L2
open PySem PySem.Spec PyProof.Rows
theorem jj:Slot "set_iterator" "__next__" "set_iterator.__next__":= .of (owner:="set_iterator") (n:="__next__") (by rw[typeLookup_type,builtinLookup_eq_fast];kernel_rfl) (by decide+kernel) (by decide+kernel) (by decide+kernel) (by first|exact .inl (by decide+kernel)|exact .inr (by decide+kernel)) (by rw[isSubtype_type];kernel_rfl)
theorem vA:entryFor table "set_iterator.__next__"=some Builtin.«set_iterator.__next__» :=entryFor_of_tree (by kernel_rfl)
theorem wZ(a:Value):argsOk "set_iterator.__next__" ⟨[a],[]⟩:=by unfold argsOk;kernel_rfl
theorem Ln:Slot "set" "__iter__" "set.__iter__":= .of (owner:="set") (n:="__iter__") (by rw[typeLookup_type,builtinLookup_eq_fast];kernel_rfl) (by decide+kernel) (by decide+kernel) (by decide+kernel) (by first|exact .inl (by decide+kernel)|exact .inr (by decide+kernel)) (by rw[isSubtype_type];kernel_rfl)
theorem RG:entryFor table "set.__iter__"=some Builtin.«frozenset.__iter__» :=entryFor_alias (id':="frozenset.__iter__") (by kernel_rfl) rfl (by decide+kernel) (by kernel_rfl)
theorem RK(a:Value):argsOk "set.__iter__" ⟨[a],[]⟩:=by unfold argsOk;kernel_rfl
theorem pM:Slot "set_iterator" "__iter__" "set_iterator.__iter__":= .of (owner:="set_iterator") (n:="__iter__") (by rw[typeLookup_type,builtinLookup_eq_fast];kernel_rfl) (by decide+kernel) (by decide+kernel) (by decide+kernel) (by first|exact .inl (by decide+kernel)|exact .inr (by decide+kernel)) (by rw[isSubtype_type];kernel_rfl)
theorem AD:entryFor table "set_iterator.__iter__"=some Builtin.«dict_keyiterator.__iter__» :=entryFor_alias (id':="dict_keyiterator.__iter__") (by kernel_rfl) rfl (by decide+kernel) (by kernel_rfl)
theorem CQ(a:Value):argsOk "set_iterator.__iter__" ⟨[a],[]⟩:=by unfold argsOk;kernel_rfl
end L2
set_option maxRecDepth 100000
set_option maxHeartbeats 4000000
namespace L2
open PySem PySem.Spec PyProof.Rows
section
variable{prog:Program}{w:World}{A:Around}{E:Value->Shared->Prop}{s:Shared}{a it tp:Addr}{o:Obj}{es:Array (Int×Value)}{ep:Nat}{t:SetTable}
theorem Ed{α:Type}:∀{l:List α} {i:Nat} (h:i<l.length),(l[i]::l.eraseIdx i).Perm l
  |b::r,0,_=>by simp
  | b :: r, i + 1, h => by
    have:=Ed (l:=r) (i:=i) (by simpa using h)
    simp only[List.getElem_cons_succ,List.eraseIdx_cons_succ]
    exact(List.Perm.swap b _ _).trans (this.cons b)
theorem AE{α:Type}(nx:Nat->Nat):∀(f k:Nat) (l:List α) (out:Array α),l.length<=f->(pickOrder.go nx f k l out).toList.Perm (out.toList++l):=by
  intro f
  induction f with
  | zero =>
    intro k l out h
    have:l=[]:=nA.mp (by omega)
    subst this
    unfold pickOrder.go
    simp
  | succ f ih =>
    intro k l out h
    unfold pickOrder.go
    cases l with
    |nil=>simp
    | cons b r =>
      have hlt:nx k%(b::r).length<(b::r).length:=xJ _ (by simp)
      rw[aB hlt]
      dsimp only
      refine(ih (k+1) _ _ (by rw[JV hlt];omega)).trans ?_
      rw[Array.toList_push,mR]
      refine Cv _ ?_
      exact Ed hlt
theorem Jk(bt:gc w=true)(g1:s.heap.get? a=some o)(g3:o.data= .set es ep t)(g4:t.fits es.size=true){i sl:Nat}{Q:Option (Value×Nat)->Shared->Prop}
  (h:Q (((pickOrder (w.params.setOrder a ep) es)[i]?).map fun e=>(e.2,sl)) s):wpAny (model prog w) A (setNext a sl i ep) Q E s:=by
 unfold setNext
 refine wpAny_bind (wpAny_setState_of g1 g3 g4 ?_)
 dsimp only
 unfold setsByText
 refine wpAny_bind (wpAny_bind (wpAny_askSetting (wpAny_pure ?_)))
 show wpAny _ _ (if gc w=true then _ else _) _ _ _
 rw[if_pos bt]
 rw[if_neg (by simp)]
 refine wpAny_bind ?_
 unfold setWalk
 refine wpAny_bind (wpAny_setState_of g1 g3 g4 ?_)
 dsimp only
 unfold setsByText
 refine wpAny_bind (wpAny_bind (wpAny_askSetting (wpAny_pure ?_)))
 show wpAny _ _ (if gc w=true then _ else _) _ _ _
 rw[if_pos bt]
 refine wpAny_bind (wpAny_askSetting (wpAny_pure ?_))
 exact wpAny_pure h
theorem KW(bt:gc w=false)(g1:s.heap.get? a=some o)(g3:o.data= .set es ep t)(g4:t.fits es.size=true)(tk:e7 (gc w) t)(pl:t.plain=true\/es.size<=1){i sl:Nat}{Q:Option (Value×Nat)->Shared->Prop}
  (h:Q (match es[SetTable.below t.place sl]?,t.place[SetTable.below t.place sl]? with|some (_,x),some j=>some (x,j+1)|_,_=>none) s):wpAny (model prog w) A (setNext a sl i ep) Q E s:=by
 unfold setNext
 refine wpAny_bind (wpAny_setState_of g1 g3 g4 ?_)
 dsimp only
 unfold setsByText
 refine wpAny_bind (wpAny_bind (wpAny_askSetting (wpAny_pure ?_)))
 show wpAny _ _ (if gc w=true then _ else _) _ _ _
 rw[bt,if_neg dZ]
 show wpAny _ _ (if(!t.plain && decide (es.size>1))=true then _ else _) _ _ _
 rw[if_neg (by
  intro z
  rw[cD,Bool.not_eq_true',decide_eq_true_eq] at z
  rcases pl with p|p
  ·rw[p] at z;cases z.1
  ·omega)]
 refine wpAny_bind ?_
 show wpAny _ _ (if(!t.led && !es.isEmpty)=true then _ else _) _ _ _
 rw[if_neg (by rw[tk.led bt];simp)]
 refine wpAny_pure ?_
 exact wpAny_pure h
theorem VS(g1:s.heap.get? a=some o)(g3:o.data= .set es ep t)(g4:t.fits es.size=true){pl:Nat}{hx:Int}{x:Value}{Q:Value->Shared->Prop}(e:es[pl]?=some (hx,x))(h:Q x s):wpAny (model prog w) A (setNextDrawn a pl ep) Q E s:=by
 unfold setNextDrawn
 refine wpAny_bind (wpAny_setState_of g1 g3 g4 ?_)
 dsimp only
 rw[if_neg (by simp)]
 rw[e]
 exact wpAny_pure h
def jW(h:Heap)(it a:Addr)(first:Value)(i n ep:Nat):Prop:=∃o,h.get? it=some o/\o.cls= .type "set_iterator" /\o.data= .fields #[first, .int i 0, .ref a, .int n 0, .int ep 0]
theorem jW.ty{first:Value}{i n:Nat}(h:jW s.heap it a first i n ep):s.TypeIs (.ref it) "set_iterator":=let ⟨o,e,c,_⟩:=h;⟨o,e,c⟩
theorem uM{first:Value}{i n:Nat}{QQ:Fin->Shared->Prop}{EE:Value->Shared->Prop}(hit:jW s.heap it a first i n ep)(g1:s.heap.get? a=some o)(g3:o.data= .set es ep t)(g4:t.fits es.size=true)(hn:es.size=n)
    (h:wpAny (model prog w) A (match first with
      | .int slot _ => (do
        match<-setNext a slot.toNat i ep with
        | some (x, next) => do
          setField (.ref it) 0 (rawInt next)
          setField (.ref it) 1 (rawInt ((i:Int)+1))
          ret x
        | none => do
          setField (.ref it) 2 .none
          raiseNew (<-newExc (.type "StopIteration") []))
      | _ => (do
        let some places<-seqItems? first|unsupported "internal:set_iterator"
        match places[i]? with
        | some (.int place _) => do
          let x<-setNextDrawn a place.toNat ep
          setField (.ref it) 1 (rawInt ((i:Int)+1))
          ret x
        |some _=>unsupported "internal:set_iterator"
        | none => do
          setField (.ref it) 0 (rawInt 0)
          setField (.ref it) 2 .none
          raiseNew (<-newExc (.type "StopIteration") []))) QQ EE s):wpAny (model prog w) A (Builtin.«set_iterator.__next__» ⟨[.ref it],[]⟩) QQ EE s:=by
  obtain⟨oi,ho,hc,hd⟩:=hit
  unfold Builtin.«set_iterator.__next__»
  refine wpAny_bind (wpAny_pure ?_)
  refine wpAny_bind (wpAny_fieldsOf ho hd ?_)
  dsimp only
  refine wpAny_bind (wpAny_setEntries_of g1 g3 g4 ?_)
  rw[if_neg (by rw[hn];simp)]
  cases first<;>exact h
theorem vz{h:Heap}{first:Value}{i n k:Nat}{x:Value}{oi:Obj}{vs:Array Value}(ho:h.get? it=some oi)(hc:oi.cls= .type "set_iterator")(hd:oi.data= .fields vs):
  (h.update it (Obj.mapFields (·.setIfInBounds k x))).get? it=some (Obj.mapFields (·.setIfInBounds k x) oi)/\(Obj.mapFields (·.setIfInBounds k x) oi).cls= .type "set_iterator" /\(Obj.mapFields (·.setIfInBounds k x) oi).data= .fields (vs.setIfInBounds k x):=by
 refine⟨uK _ ho (Obj.isFreed_of_fields (Obj.data_mapFields hd _)),(Obj.cls_mapFields ..).trans hc,Obj.data_mapFields hd _⟩
theorem HK{sl i n nx:Nat}{x:Value}{Q:Option Value->Shared->Prop}(hit:jW s.heap it a (.int sl 0) i n ep)(g1:s.heap.get? a=some o)(g3:o.data= .set es ep t)(g4:t.fits es.size=true)(hn:es.size=n)
  (hN:∀(Q:Option (Value×Nat)->Shared->Prop) (E:Value->Shared->Prop),Q (some (x,nx)) s->wpAny (model prog w) A.in1 (setNext a sl i ep) Q E s)
  (hQ:∀h',jW h' it a (.int nx 0) (i+1) n ep->(∀b,b≠it->h'.get? b=s.heap.get? b)->Q (some x) {s with heap:=h'}):wpAny (model prog w) A (pyNext (.ref it)) Q E s:=by
 obtain⟨oi,ho,hc,hd⟩:=id hit
 unfold pyNext
 refine wpAny_bind (wpAny_attempt (wpAny_callSpecial?_slot (name:=Str.ofString "__next__") hit.ty jj (wpAny_call_entry jj hit.ty vA ?_ (wZ _))))
 refine uM hit g1 g3 g4 hn ?_
 dsimp only
 refine wpAny_bind (hN _ _ ?_)
 dsimp only
 obtain⟨u1,u2,u3⟩:=vz (first:= .none) (i:=0) (n:=0) (k:=0) (x:=rawInt nx) ho hc hd
 obtain⟨w1,w2,w3⟩:=vz (first:= .none) (i:=0) (n:=0) (k:=1) (x:=rawInt ((i:Int)+1)) u1 u2 u3
 refine wpAny_bind (wpAny_setField ho hd (by simp) ?_)
 refine wpAny_bind (wpAny_setField u1 u3 (by simp) ?_)
 refine wpAny_pure ⟨x,rfl,wpAny_pure (hQ _ ⟨_,w1,w2,?_⟩ fun b hb=>?_)⟩
 ·rw[w3];simp[rawInt]
 ·exact((kY _ _ (bx hb))).trans (kY _ _ (bx hb))
theorem IW{QQ:Fin->Shared->Prop}{B:Around}{Q:Option Value->Shared->Prop}(hh:B.handled=none)(hQ:∀o1 o2,Q none {s with heap:=(s.heap.push o1).push o2}):wpAny (model prog w) B (do raiseNew (<-newExc (.type "StopIteration") [])) QQ
  (fun e s'=>wpAny (model prog w) A (do if<-isInstance e (.type "StopIteration") then pure none else throw e) Q E s') s:=by
 refine wpAny_bind ?_
 simp only[newExc,newTuple]
 refine wpAny_bind (wpAny_newObj_type ?_ (by size_fits))
 refine wpAny_bind (m:=firstArgMember _ _) (wpAny_of_eq (a:=Value.none) (by first|rfl|(simp only[firstArgMember];rfl)) (wpAny_newObj_type ?_ (by size_fits)))
 simp only[raiseNew]
 refine wpAny_bind (wpAny_handled ?_)
 rw[hh]
 refine wpAny_bind (wpAny_pure (wpAny_throw ?_))
 refine wpAny_bind (wpAny_isInstance (b:=true) (T:="StopIteration") ⟨_,fk _ rfl,rfl⟩ isSubtype_stop ?_)
 exact wpAny_pure (hQ _ _)
theorem KR{sl i n:Nat}{Q:Option Value->Shared->Prop}(hh:A.handled=none)(hit:jW s.heap it a (.int sl 0) i n ep)(g1:s.heap.get? a=some o)(g3:o.data= .set es ep t)(g4:t.fits es.size=true)(hn:es.size=n)
  (hN:∀(Q:Option (Value×Nat)->Shared->Prop) (E:Value->Shared->Prop),Q none s->wpAny (model prog w) A.in1 (setNext a sl i ep) Q E s)
  (hQ:∀h',(∀b o,b≠it->s.heap.get? b=some o->h'.get? b=some o)->Q none {s with heap:=h'}):wpAny (model prog w) A (pyNext (.ref it)) Q E s:=by
 obtain⟨oi,ho,hc,hd⟩:=id hit
 unfold pyNext
 refine wpAny_bind (wpAny_attempt (wpAny_callSpecial?_slot (name:=Str.ofString "__next__") hit.ty jj (wpAny_call_entry jj hit.ty vA ?_ (wZ _))))
 refine uM hit g1 g3 g4 hn ?_
 dsimp only
 refine wpAny_bind (hN _ _ ?_)
 dsimp only
 refine wpAny_bind (wpAny_setField ho hd (by simp) ?_)
 exact IW (B:=A.in1) hh fun o1 o2=>hQ _ fun b o hb e=>bS _ (bS _ ((kY _ _ (bx hb)).trans e))
theorem L8{i n pl:Nat}{hx:Int}{x:Value}{dO:Array Value}{Q:Option Value->Shared->Prop}(hit:jW s.heap it a (.ref tp) i n ep)(g1:s.heap.get? a=some o)(g3:o.data= .set es ep t)(g4:t.fits es.size=true)(hn:es.size=n)
  (htp:∃ot m,s.heap.get? tp=some ot/\ot.data= .seq dO m) (hp:dO[i]?=some (.int pl 0)) (he:es[pl]?=some (hx,x))
  (hQ:∀h',jW h' it a (.ref tp) (i+1) n ep->(∀b,b≠it->h'.get? b=s.heap.get? b)->Q (some x) {s with heap:=h'}):wpAny (model prog w) A (pyNext (.ref it)) Q E s:=by
 obtain⟨oi,ho,hc,hd⟩:=id hit
 obtain⟨ot,m,t1,t2⟩:=htp
 unfold pyNext
 refine wpAny_bind (wpAny_attempt (wpAny_callSpecial?_slot (name:=Str.ofString "__next__") hit.ty jj (wpAny_call_entry jj hit.ty vA ?_ (wZ _))))
 refine uM hit g1 g3 g4 hn ?_
 dsimp only
 refine wpAny_bind (wpAny_seqItems t1 t2 ?_)
 dsimp only
 rw[hp]
 dsimp only
 refine wpAny_bind (VS g1 g3 g4 (by simpa using he) ?_)
 obtain⟨w1,w2,w3⟩:=vz (first:= .none) (i:=0) (n:=0) (k:=1) (x:=rawInt ((i:Int)+1)) ho hc hd
 refine wpAny_bind (wpAny_setField ho hd (by simp) (wpAny_pure ⟨x,rfl,wpAny_pure (hQ _ ⟨_,w1,w2,?_⟩ fun b hb=>kY _ _ (bx hb))⟩))
 rw[w3];simp[rawInt]
theorem P0{i n:Nat}{dO:Array Value}{Q:Option Value->Shared->Prop}(hh:A.handled=none)(hit:jW s.heap it a (.ref tp) i n ep)(g1:s.heap.get? a=some o)(g3:o.data= .set es ep t)(g4:t.fits es.size=true)(hn:es.size=n)
  (htp:∃ot m,s.heap.get? tp=some ot/\ot.data= .seq dO m) (hp:dO[i]?=none)
  (hQ:∀h',(∀b o,b≠it->s.heap.get? b=some o->h'.get? b=some o)->Q none {s with heap:=h'}):wpAny (model prog w) A (pyNext (.ref it)) Q E s:=by
 obtain⟨oi,ho,hc,hd⟩:=id hit
 obtain⟨ot,m,t1,t2⟩:=htp
 unfold pyNext
 refine wpAny_bind (wpAny_attempt (wpAny_callSpecial?_slot (name:=Str.ofString "__next__") hit.ty jj (wpAny_call_entry jj hit.ty vA ?_ (wZ _))))
 refine uM hit g1 g3 g4 hn ?_
 dsimp only
 refine wpAny_bind (wpAny_seqItems t1 t2 ?_)
 dsimp only
 rw[hp]
 dsimp only
 obtain⟨u1,u2,u3⟩:=vz (first:= .none) (i:=0) (n:=0) (k:=0) (x:=rawInt 0) ho hc hd
 refine wpAny_bind (wpAny_setField ho hd (by simp) (wpAny_bind (wpAny_setField u1 u3 (by simp) ?_)))
 exact IW (B:=A.in1) hh fun o1 o2=>hQ _ fun b o hb e=>bS _ (bS _ ((kY _ _ (bx hb)).trans ((kY _ _ (bx hb)).trans e)))
end
end L2
set_option maxRecDepth 100000
set_option maxHeartbeats 4000000
namespace L2
open PySem PySem.Spec PyProof.Rows
def slotAt(xs:Array Nat):Nat->Nat
 |0=>0
 |i+1=>xs.getD i 0+1
theorem Nc(xs:Array Nat):slotAt xs 0=0:=rfl
theorem HU(xs:Array Nat)(i:Nat):slotAt xs (i+1)=xs.getD i 0+1:=rfl
theorem Fj{xs:Array Nat}(hr:kE xs){i:Nat}(hi:i<=xs.size):SetTable.below xs (slotAt xs i)=i:=by
  obtain⟨h1,h2,h3⟩:=below_at (q:=slotAt xs i) hr
  have g:∀{j:Nat},j<xs.size->∃y,xs[j]?=some y/\xs.getD j 0=y:=fun{j} hj=>⟨xs[j],kU hj,by rw[AH,kU hj];rfl⟩
  rcases Ay (SetTable.below xs (slotAt xs i)) i with z|z|z
  · obtain⟨y,e,_⟩:=g (eK z hi)
    have:=h3 _ y (aJ _) e
    cases i with
    |zero=>omega
    | succ i =>
      obtain⟨y',e',d'⟩:=g (j:=i) (by omega)
      have es:=HU xs i
      rw[d'] at es
      rcases zO (Nat.le_of_lt_succ z) with z|z
      · have:=hr _ _ _ _ z e e';omega
      · rw[z,e'] at e;cases e;omega
  · exact z
  · obtain⟨y,e,d⟩:=g (j:=i) (by omega)
    have:=h2 i y z e
    cases i with
    |zero=>rw[Nc] at this;omega
    | succ i =>
      obtain⟨y',e',d'⟩:=g (j:=i) (by omega)
      rw[HU,d'] at this
      have:=hr i (i+1) _ _ (by omega) e' e
      omega
section
variable{prog:Program}{w:World}{a I tp:Addr}{o:Obj}{es:Array (Int×Value)}{ep:Nat}{t:SetTable}
theorem GW(h:t.fits es.size=true):t.place.size=es.size:=by
 unfold SetTable.fits at h
 rw[cD] at h
 exact eq_of_beq h.1
theorem RA{A:Around}(hh:A.handled=none)(bt:gc w=true)(g3:o.data= .set es ep t)(g4:t.fits es.size=true)(hne:a≠I):
  Walks prog w A I [I,a] [I] es.size (fun i v=>((pickOrder (w.params.setOrder a ep) es).toList.map (·.2))[i]?=some v) (fun i h=>jW h I a (.int (0:Nat) 0) i es.size ep/\h.get? a=some o) where
 sub:=fun b hb=>by simp at hb;simp[hb]
 frame:=fun i h h' st hk=>by
  obtain⟨⟨oi,h1,h2,h3⟩,h4⟩:=st
  exact⟨⟨oi,hk I (by simp) _ h1,h2,h3⟩,hk a (by simp) _ h4⟩
 item:=fun i s Q E hi st hQ=>by
  have hsz:(pickOrder (w.params.setOrder a ep) es).toList.length=es.size:=by
   have:=(AE (w.params.setOrder a ep) es.size 0 es.toList #[] (by simp)).length_eq
   simpa[pickOrder] using this
  have hlt:i<(pickOrder (w.params.setOrder a ep) es).toList.length:=by omega
  have e1:(pickOrder (w.params.setOrder a ep) es)[i]?=some (pickOrder (w.params.setOrder a ep) es).toList[i]:=by rw[<-mP];exact aB hlt
  refine HK st.1 st.2 g3 g4 rfl (x:=(pickOrder (w.params.setOrder a ep) es).toList[i].2) (nx:=0) (fun Q E q=>Jk bt st.2 g3 g4 (by rw[e1];exact q)) fun h' x1 x2=>?_
  refine hQ _ h' s.toks (by rw[aL,aB hlt];rfl) ⟨x1,(x2 a hne).trans st.2⟩ fun b o' hb e=>(x2 b (fun z=>hb (by simp[z]))).trans e
 done:=fun s Q E st hQ=>by
  have hsz:(pickOrder (w.params.setOrder a ep) es).toList.length=es.size:=by
   have:=(AE (w.params.setOrder a ep) es.size 0 es.toList #[] (by simp)).length_eq
   simpa[pickOrder] using this
  refine KR hh st.1 st.2 g3 g4 rfl (fun Q E q=>Jk bt st.2 g3 g4 (by rw[<-mP,fV (by omega)];exact q)) fun h' x1=>hQ h' s.toks fun b o' hb e=>x1 b o' (fun z=>hb (by simp[z])) e
 self:=fun i s Q E st hQ=>by
  refine wpAny_pyIter_slot st.1.ty pM (wpAny_call_entry pM st.1.ty AD ?_ (CQ _))
  exact wpAny_pure ⟨_,rfl,"set_iterator",_,st.1.ty,jj.lookup,hQ⟩
theorem Sw{A:Around}(hh:A.handled=none)(bt:gc w=false)(g3:o.data= .set es ep t)(g4:t.fits es.size=true)(tk:e7 (gc w) t)(pl:t.plain=true\/es.size<=1)(hne:a≠I):
  Walks prog w A I [I,a] [I] es.size (fun i v=>(es.toList.map (·.2))[i]?=some v) (fun i h=>jW h I a (.int (slotAt t.place i) 0) i es.size ep/\h.get? a=some o) where
 sub:=fun b hb=>by simp at hb;simp[hb]
 frame:=fun i h h' st hk=>by
  obtain⟨⟨oi,h1,h2,h3⟩,h4⟩:=st
  exact⟨⟨oi,hk I (by simp) _ h1,h2,h3⟩,hk a (by simp) _ h4⟩
 item:=fun i s Q E hi st hQ=>by
  have hps:=GW g4
  have hr:kE t.place:=by
   rcases pl with p|p
   ·exact tk.yv p
   ·intro i j x y hij ex ey
    have:=(sV.mp ey).1;omega
  have hlt:i<es.toList.length:=by simpa using hi
  have e1:es[i]?=some es.toList[i]:=by rw[<-mP];exact aB hlt
  have e2:t.place[i]?=some (t.place.getD i 0):=by rw[AH,kU (by omega)];rfl
  refine HK st.1 st.2 g3 g4 rfl (x:=es.toList[i].2) (nx:=slotAt t.place (i+1)) (fun Q E q=>KW bt st.2 g3 g4 tk pl (by rw[Fj hr (by omega),e1,e2];exact q)) fun h' x1 x2=>?_
  refine hQ _ h' s.toks (by rw[aL,aB hlt];rfl) ⟨x1,(x2 a hne).trans st.2⟩ fun b o' hb e=>(x2 b (fun z=>hb (by simp[z]))).trans e
 done:=fun s Q E st hQ=>by
  have hps:=GW g4
  have hr:kE t.place:=by
   rcases pl with p|p
   ·exact tk.yv p
   ·intro i j x y hij ex ey
    have:=(sV.mp ey).1;omega
  refine KR hh st.1 st.2 g3 g4 rfl (fun Q E q=>KW bt st.2 g3 g4 tk pl (by rw[Fj hr (by omega),Bu (aJ _)];exact q)) fun h' x1=>hQ h' s.toks fun b o' hb e=>x1 b o' (fun z=>hb (by simp[z])) e
 self:=fun i s Q E st hQ=>by
  refine wpAny_pyIter_slot st.1.ty pM (wpAny_call_entry pM st.1.ty AD ?_ (CQ _))
  exact wpAny_pure ⟨_,rfl,"set_iterator",_,st.1.ty,jj.lookup,hQ⟩
theorem W7{A:Around}{ks:List Nat}(hh:A.handled=none)(g3:o.data= .set es ep t)(g4:t.fits es.size=true)(hk:ks.Perm (List.range es.size))(hne:a≠I)(hnt:tp≠I):
    Walks prog w A I [I,a,tp] [I] es.size (fun i v=>((ks.filterMap (es[·]?)).map (·.2))[i]?=some v) (fun i h=>jW h I a (.ref tp) i es.size ep/\h.get? a=some o/\∃ot m,h.get? tp=some ot/\ot.data= .seq (ks.map fun(k:Nat)=>rawInt k).toArray m) where
  sub:=fun b hb=>by simp at hb;simp[hb]
  frame:=fun i h h' st hk=>by
    obtain⟨⟨oi,h1,h2,h3⟩,h4,ot,m,h5,h6⟩:=st
    exact⟨⟨oi,hk I (by simp) _ h1,h2,h3⟩,hk a (by simp) _ h4,ot,m,hk tp (by simp) _ h5,h6⟩
  item:=fun i s Q E hi st hQ=>by
    have hlen:ks.length=es.size:=by rw[hk.length_eq];simp
    have hin:∀k∈ks,k<es.size:=fun k m=>by simpa using hk.mem_iff.mp m
    have hi':i<ks.length:=by omega
    have hki:=hin ks[i] (ig hi')
    have e1:es[ks[i]]?=some es[ks[i]]:=kU hki
    have fm:∀(l:List Nat),(∀k∈l,k<es.size)->∀j (hj:j<l.length),(l.filterMap (es[·]?))[j]?=es[l[j]]?:=by
      intro l
      induction l with
      |nil=>intro _ j hj;simp at hj
      | cons b r ih =>
        intro hl j hj
        have hb:=hl b (bA ..)
        rw[p5,kU hb]
        cases j with
        |zero=>simp[kU hb]
        |succ j=>simpa using ih (fun k m=>hl k (cG _ m)) j (by simpa using hj)
    refine L8 st.1 st.2.1 g3 g4 rfl st.2.2 (pl:=ks[i]) (hx:=es[ks[i]].1) (x:=es[ks[i]].2) (by simp[aB hi',rawInt]) e1 fun h' x1 x2=>?_
    obtain⟨ot,m,t1,t2⟩:=st.2.2
    refine hQ _ h' s.toks ?_ ⟨x1,(x2 a hne).trans st.2.1,ot,m,(x2 tp hnt).trans t1,t2⟩ fun b o' hb e=>(x2 b (fun z=>hb (by simp[z]))).trans e
    rw[aL,fm ks hin i hi',e1];rfl
  done:=fun s Q E st hQ=>by
    have hlen:ks.length=es.size:=by rw[hk.length_eq];simp
    exact P0 hh st.1 st.2.1 g3 g4 rfl st.2.2 (by simp;omega) fun h' x1=>hQ h' s.toks fun b o' hb e=>x1 b o' (fun z=>hb (by simp[z])) e
  self:=fun i s Q E st hQ=>by
    refine wpAny_pyIter_slot st.1.ty pM (wpAny_call_entry pM st.1.ty AD ?_ (CQ _))
    exact wpAny_pure ⟨_,rfl,"set_iterator",_,st.1.ty,jj.lookup,hQ⟩
end
section
variable{prog:Program}{w:World}{A:Around}{E:Value->Shared->Prop}{s:Shared}{a:Addr}{o:Obj}{es:Array (Int×Value)}{ep:Nat}{t:SetTable}
theorem Jy{α:Type}:∀l:List α,(List.range l.length).filterMap (fun i=>l[i]?)=l
  |[]=>rfl
  | x :: l => by
    have:=Jy l
    rw[j7,Ei,p5,List.filterMap_map]
    simpa[Function.comp_def] using this
theorem U0{src:Source}{n:Nat}{Q:Nat->Shared->Prop}(hn:n≠0)(h:∀i d',i<n->Q i {s with drawn:=d'}):wpAny (model prog w) A (choose src n) Q E s:=fun Γ p _=>⟨hn,h _ _ (xJ _ (Nat.pos_of_ne_zero hn))⟩
theorem Hy{α:Type}:∀(n:Nat) (xs:List α) (s:Shared) (Q:List α->Shared->Prop),xs.length<=n->(∀ks d',ks.Perm xs->Q ks {s with drawn:=d'})->wpAny (model prog w) A (drawOrder n xs) Q E s
  | 0, xs, s, Q, hl, h => by
    have:xs=[]:=nA.mp (by omega)
    subst this
    unfold drawOrder
    exact wpAny_pure (h [] s.drawn .nil)
  | n + 1, [], s, Q, hl, h => by
    unfold drawOrder
    exact wpAny_pure (h [] s.drawn .nil)
  | n + 1, x :: xs, s, Q, hl, h => by
    unfold drawOrder
    refine wpAny_bind (U0 (by simp) fun i d' hi=>?_)
    rw[aB hi]
    dsimp only
    refine wpAny_bind (Hy n _ _ _ (by rw[JV hi];simp at hl⊢;omega) fun ks d2 hk=>?_)
    exact wpAny_pure (h _ d2 ((hk.cons _).trans (Ed hi)))
theorem O4(g1:s.heap.get? a=some o)(g3:o.data= .set es ep t)(g4:t.fits es.size=true){Q:Bool->Shared->Prop}(h:Q (!gc w &&(!t.plain && decide (es.size>1))) s):wpAny (model prog w) A (setDrawn a) Q E s:=by
 unfold setDrawn
 refine wpAny_bind (wpAny_setState_of g1 g3 g4 ?_)
 dsimp only
 unfold setsByText
 refine wpAny_bind (wpAny_bind (wpAny_askSetting (wpAny_pure ?_)))
 exact wpAny_pure h
theorem Jr(g1:s.heap.get? a=some o)(g3:o.data= .set es ep t)(g4:t.fits es.size=true){Q:Nat->Shared->Prop}(h:Q ep s):wpAny (model prog w) A (setEpoch a) Q E s:=by
 unfold setEpoch
 exact wpAny_bind (wpAny_setState_of g1 g3 g4 (wpAny_pure h))
theorem Sh{Q:Value->Shared->Prop}(hb:es.size<scanBound)(g1:s.heap.get? a=some o)(g2:o.ExactSet)(g3:o.data= .set es ep t)(g4:t.fits es.size=true)(tk:e7 (gc w) t)
    (hQ:∀(I:Addr) (h':Heap) d' (items:List Value) (fp:List Addr) (St:Nat->Heap->Prop),(∀b o,s.heap.get? b=some o->h'.get? b=some o)->s.heap.objs.size<=I->(∀b∈fp,b=a\/s.heap.objs.size<=b)->I∈fp->(∀b∈fp,b<h'.objs.size)->items.Perm (es.toList.map (·.2))->
      (∀B:Around,B.handled=none->Walks prog w B I fp [I] items.length (fun i v=>items[i]?=some v) St)->St 0 h'->Q (.ref I) {s with heap:=h',drawn:=d'}):wpAny (model prog w) A (pyIter (.ref a)) Q E s:=by
  have hT:s.TypeIs (.ref a) "set":=⟨o,g1,g2.1⟩
  have hlt:=bC g1
  refine wpAny_pyIter_slot hT Ln (wpAny_call_entry Ln hT RG ?_ (RK _))
  unfold Builtin.«frozenset.__iter__»
  unfold Builtin.Frozenset.slot0 slotArgs
  simp only[List.isEmpty_nil,Bool.not_true,BP,↓reduceIte,bind_assoc,List.length_nil,bne_self_eq_false]
  unfold Builtin.Frozenset.addrOf Builtin.Frozenset.sizeOf
  refine wpAny_bind (wpAny_pure ?_)
  try dsimp only
  refine wpAny_bind (wpAny_pure ?_)
  refine wpAny_bind (wpAny_bind (wpAny_setEntries_of g1 g3 g4 (wpAny_pure ?_)))
  refine wpAny_bind (O4 g1 g3 g4 ?_)
  by_cases c:(!gc w &&(!t.plain && decide (es.size>1)))=true
  · rw[if_pos c]
    refine wpAny_bind (Hy es.size (List.range es.size) s _ (by simp) fun ks d' hk=>?_)
    unfold newTuple
    refine wpAny_bind (wpAny_newObj_type ?_ ?_)
    rotate_left
    · have hk0:ks.length=es.size:=by rw[hk.length_eq];simp
      show(List.map (fun(i:Nat)=>rawInt i) ks).toArray.size<=sizeLine
      rw[eg,aj,hk0]
      exact fits_of_scanBound hb
    have pR:=bS ({cls:= .type "tuple",data:= .seq (ks.map fun(i:Nat)=>rawInt i).toArray}:Obj) g1
    refine wpAny_bind (Jr (s:={s with heap:=_,drawn:=d'}) pR g3 g4 ?_)
    unfold newFields
    refine wpAny_bind (wpAny_newObj_type ?_)
    have hk0:ks.length=es.size:=by rw[hk.length_eq];simp
    have fin:=hQ
    clear hQ
    have lF:(s.heap.push ({cls:= .type "tuple",data:= .seq (ks.map fun(i:Nat)=>rawInt i).toArray}:Obj)).objs.size=s.heap.objs.size+1:=l6 ..
    have gT:(s.heap.push ({cls:= .type "tuple",data:= .seq (ks.map fun(i:Nat)=>rawInt i).toArray}:Obj)).get? s.heap.objs.size=some {cls:= .type "tuple",data:= .seq (ks.map fun(i:Nat)=>rawInt i).toArray}:=fk _ rfl
    have gO:∀b o,s.heap.get? b=some o->(s.heap.push ({cls:= .type "tuple",data:= .seq (ks.map fun(i:Nat)=>rawInt i).toArray}:Obj)).get? b=some o:=fun b o e=>bS _ e
    generalize Mc:s.heap.push ({cls:= .type "tuple",data:= .seq (ks.map fun(i:Nat)=>rawInt i).toArray}:Obj)=h1 at pR lF gT gO⊢
    have gI:(h1.push ({cls:= .type "set_iterator",data:= .fields #[.ref s.heap.objs.size,rawInt 0, .ref a,rawInt es.size,rawInt ep]}:Obj)).get? h1.objs.size=some {cls:= .type "set_iterator",data:= .fields #[.ref s.heap.objs.size,rawInt 0, .ref a,rawInt es.size,rawInt ep]}:=fk _ rfl
    have gS:=bS ({cls:= .type "set_iterator",data:= .fields #[.ref s.heap.objs.size,rawInt 0, .ref a,rawInt es.size,rawInt ep]}:Obj) pR
    have Vi:=bS ({cls:= .type "set_iterator",data:= .fields #[.ref s.heap.objs.size,rawInt 0, .ref a,rawInt es.size,rawInt ep]}:Obj) gT
    have UB:(h1.push ({cls:= .type "set_iterator",data:= .fields #[.ref s.heap.objs.size,rawInt 0, .ref a,rawInt es.size,rawInt ep]}:Obj)).objs.size=h1.objs.size+1:=l6 ..
    subst Mc
    refine wpAny_pure ⟨_,rfl,"set_iterator",_,⟨_,gI,rfl⟩,jj.lookup,?_⟩
    have pp:(ks.filterMap (es[·]?)).Perm es.toList:=by
      have:=hk.filterMap (es[·]?)
      have e:(List.range es.size).filterMap (es[·]?)=es.toList:=by
        have:=Jy es.toList
        simpa using this
      rwa[e] at this
    have hn:((ks.filterMap (es[·]?)).map (·.2)).length=es.size:=by rw[aj,pp.length_eq];simp
    have qu:=Ef (pN s.heap.objs.size) lF.symm
    refine fin _ _ d' ((ks.filterMap (es[·]?)).map (·.2)) [_,a,s.heap.objs.size] _ (fun b o e=>bS _ (gO b o e)) (jr qu) (fun b m=>?_) (bA ..) (fun b m=>?_) (pp.map _) (fun B hB=>by rw[hn];exact W7 hB g3 g4 hk (cW (mV hlt qu)) (cW qu)) ?_
    · rcases aM.mp m with e|m
      · exact .inr (by rw[e];exact jr qu)
      · rcases aM.mp m with e|m
        · exact .inl e
        · exact .inr (vK (aQ.mp m).symm)
    · refine Ef ?_ UB.symm
      rcases aM.mp m with e|m
      · rw[e];exact pN _
      · rcases aM.mp m with e|m
        · rw[e];exact nH (mV hlt qu)
        · rw[aQ.mp m];exact nH qu
    · exact⟨⟨_,gI,rfl,rfl⟩,gS,_,_,Vi,rfl⟩
  · rw[if_neg c]
    refine wpAny_bind (wpAny_pure ?_)
    refine wpAny_bind (Jr g1 g3 g4 ?_)
    unfold newFields
    refine wpAny_bind (wpAny_newObj_type ?_)
    have gI:(s.heap.push ({cls:= .type "set_iterator",data:= .fields #[rawInt 0,rawInt 0, .ref a,rawInt es.size,rawInt ep]}:Obj)).get? s.heap.objs.size=some {cls:= .type "set_iterator",data:= .fields #[rawInt 0,rawInt 0, .ref a,rawInt es.size,rawInt ep]}:=fk _ rfl
    have gS:=bS ({cls:= .type "set_iterator",data:= .fields #[rawInt 0,rawInt 0, .ref a,rawInt es.size,rawInt ep]}:Obj) g1
    have hfp:∀b∈[s.heap.objs.size,a],b=a\/s.heap.objs.size<=b:=fun b m=>by
      rcases aM.mp m with e|m
      · exact .inr (vK e.symm)
      · exact .inl (aQ.mp m)
    have hsz:(s.heap.push ({cls:= .type "set_iterator",data:= .fields #[rawInt 0,rawInt 0, .ref a,rawInt es.size,rawInt ep]}:Obj)).objs.size=s.heap.objs.size+1:=l6 ..
    have Jo:∀b∈[s.heap.objs.size,a],b<(s.heap.push ({cls:= .type "set_iterator",data:= .fields #[rawInt 0,rawInt 0, .ref a,rawInt es.size,rawInt ep]}:Obj)).objs.size:=fun b m=>by
      rw[hsz]
      rcases aM.mp m with e|m
      · rw[e];exact pN _
      · rw[aQ.mp m];exact nH hlt
    refine wpAny_pure ⟨_,rfl,"set_iterator",_,⟨_,gI,rfl⟩,jj.lookup,?_⟩
    cases bt:gc w with
    | true =>
      have pp:(pickOrder (w.params.setOrder a ep) es).toList.Perm es.toList:=by simpa[pickOrder] using AE (w.params.setOrder a ep) es.size 0 es.toList #[] (by simp)
      have hn:((pickOrder (w.params.setOrder a ep) es).toList.map (·.2)).length=es.size:=by rw[aj,pp.length_eq];simp
      refine hQ _ _ s.drawn ((pickOrder (w.params.setOrder a ep) es).toList.map (·.2)) [s.heap.objs.size,a] _ (fun b o e=>bS _ e) (aJ _) hfp (by simp) Jo (pp.map _) (fun B hB=>by rw[hn];exact RA hB bt g3 g4 (cW hlt)) ?_
      exact⟨⟨_,gI,rfl,rfl⟩,gS⟩
    | false =>
      have pl:t.plain=true\/es.size<=1:=by
        rw[bt,Bool.not_false,su] at c
        cases hp:t.plain with
        |true=>exact .inl rfl
        | false =>
          rw[hp,Bool.not_false,su,decide_eq_true_eq] at c
          exact .inr (by omega)
      have hn:(es.toList.map (·.2)).length=es.size:=by simp
      refine hQ _ _ s.drawn (es.toList.map (·.2)) [s.heap.objs.size,a] _ (fun b o e=>bS _ e) (aJ _) hfp (by simp) Jo (.refl _) (fun B hB=>by rw[hn];exact Sw hB bt g3 g4 tk pl (cW hlt)) ?_
      exact⟨⟨_,gI,rfl,rfl⟩,gS⟩
end
end L2
set_option maxRecDepth 100000
set_option maxHeartbeats 4000000
namespace L2
open PySem PySem.Spec PyProof.Rows
section
variable{prog:Program}{w:World}{A:Around}{E:Value->Shared->Prop}{s:Shared}{a:Addr}{o:Obj}{es:Array (Int×Value)}{ep:Nat}{t:SetTable}
theorem Oa{Q:Bool->Shared->Prop}(hT:s.TypeIs (.ref a) "set")(h:Q false s):wpAny (model prog w) A (Builtin.List.listLengthHint (.ref a)) Q E s:=by
 unfold Builtin.List.listLengthHint
 refine wpAny_bind (wpAny_specialOf hT PySem.F.slot_set_len.lookup ?_)
 generalize hid:("set.__len__":String)=id0
 wp_delta
 rw[show splitId id0=some ("set","__len__") from by subst hid;decide+kernel]
 subst hid
 refine wpAny_bind (wpAny_isInstance (b:=true) (T:="set") hT (by rw[isSubtype_type];kernel_rfl) ?_)
 refine wpAny_ite_split (fun z=>absurd z (by decide)) fun _=>wpAny_ite_split (fun _=>?_) fun z=>absurd (by decide+kernel) z
 exact wpAny_bind (wpAny_typeOf hT (wpAny_pure h))
theorem Us{items:List Value}{acc:Array Value}(h:ItemsOf (fun i v=>items[i]?=some v) acc items.length):acc.toList=items:=by
 apply gU
 intro i
 by_cases hi:i<acc.size
 ·have e:acc[i]?=some acc[i]:=kU hi
  rw[mP,e,h.2 i _ e]
 ·have:=h.1
  rw[fV (by simp;omega),fV (by omega)]
theorem MQ{Q:List Value->Shared->Prop}(hh:A.handled=none)(hb:es.size<scanBound)(g1:s.heap.get? a=some o)(g2:o.ExactSet)(g3:o.data= .set es ep t)(g4:t.fits es.size=true)(tk:e7 (gc w) t)
  (hQ:∀h' d' tk' items,(∀b o,s.heap.get? b=some o->h'.get? b=some o)->s.heap.objs.size<=h'.objs.size->items.Perm (es.toList.map (·.2))->Q items {s with heap:=h',drawn:=d',toks:=tk'}):wpAny (model prog w) A (collect (.ref a)) Q E s:=by
 have hlt:=bC g1
 unfold collect
 refine wpAny_bind (wpAny_runValue (codeAny_builtin EN ?_))
 rw[lI G8 _]
 show wpAny _ A.in1 (newList []>>=fun l=>again (.builtin "list.__iadd__" ⟨[l, .ref a],[]⟩)) _ _ s
 refine wpAny_bind (wpAny_newObj_type ?_)
 refine wpAny_pure ⟨plainId_quiet v8 _,codeAny_builtin Fi ?_⟩
 rw[lI v8 _]
 have gL:(s.heap.push ({cls:= .type "list",data:= .seq ([]:List Value).toArray}:Obj)).get? s.heap.objs.size=some {cls:= .type "list",data:= .seq ([]:List Value).toArray}:=fk _ rfl
 have gA:=bS ({cls:= .type "list",data:= .seq ([]:List Value).toArray}:Obj) g1
 have Je:(s.heap.push ({cls:= .type "list",data:= .seq ([]:List Value).toArray}:Obj)).objs.size=s.heap.objs.size+1:=l6 ..
 show wpAny _ A.in1 (Builtin.List.listExtendWith (.ref s.heap.objs.size) (.ref a) (.ref s.heap.objs.size)) _ _ {s with heap:=s.heap.push ({cls:= .type "list",data:= .seq ([]:List Value).toArray}:Obj)}
 have hkeep:∀b o,s.heap.get? b=some o->(s.heap.push ({cls:= .type "list",data:= .seq ([]:List Value).toArray}:Obj)).get? b=some o:=fun b o e=>bS _ e
 generalize s.heap.push ({cls:= .type "list",data:= .seq ([]:List Value).toArray}:Obj)=h1 at gL gA Je hkeep⊢
 unfold Builtin.List.listExtendWith
 refine wpAny_bind (wpAny_typeOf (T:="set") ⟨o,gA,g2.1⟩ ?_)
 have n1:Builtin.List.listSameRef (.ref s.heap.objs.size) (.ref a)=false:=by
  show(s.heap.objs.size==a)=false
  exact beq_eq_false_iff_ne.mpr (oG hlt)
 have n2:(Value.type "set"==Value.type "list")=false:=by decide
 have n3:(Value.type "set"==Value.type "tuple")=false:=by decide
 simp only[n1,n2,n3,oq,BP,if_false]
 refine wpAny_bind (Sh (s:={s with heap:=h1}) hb gA g2 g3 g4 tk fun I h2 d' items fp St k1 k2 k3 k4 k5 pp W st=>?_)
 have X5:=k1 _ _ gA
 have Az:=k1 _ _ gL
 refine wpAny_bind (wpAny_holding (Oa (s:={s with heap:=h2,drawn:=d'}) ⟨o,X5,g2.1⟩ ?_))
 have lS:s.heap.objs.size<h1.objs.size:=Ef (pN _) Je.symm
 have nS:s.heap.objs.size∉fp:=fun m=>by
  rcases k3 _ m with e|e
  ·exact absurd e (oG hlt)
  ·exact absurd (eK lS e) (jK _)
 have hil:items.length<=sizeLine:=by
  rw[pp.length_eq,aj,jx];exact fits_of_scanBound hb
 have key:∀(h3:Heap) (c:Nat),St 0 h3->(∀b o,b≠s.heap.objs.size->h2.get? b=some o->h3.get? b=some o)->h3.get? s.heap.objs.size=some {cls:= .type "list",data:= .seq #[] c}->
   codeAny (model prog w) A (.builtin "list.extend.loop" ⟨[.ref s.heap.objs.size, .ref I, .ref s.heap.objs.size],[]⟩) (fun r s'=>match r with
    | .ok (.ret v)=>wpAny (model prog w) A (match v with| .ref x=>(do match(<-load x).data with| .seq xs _=>pure xs.toList|_=>unsupported "internal:collect")|_=>unsupported "internal:collect") Q E s'
    | .ok _=>False
    | .error e=>E e s') {s with heap:=h3,drawn:=d'}:=by
  intro h3 c st3 q1 q2
  refine codeAny_extend_loopS ((W A.in1 hh).toS) hil _ nS _ items.length 0 _ #[] c rfl (eY _) st3 q2 (ItemsOf.nil _) fun s' acc c' mo q3 q4=>?_
  refine wpAny_bind (wpAny_load q3 (wpAny_pure ?_))
  rw[Us q4,Moved.eq_with mo]
  refine hQ s'.heap d' s'.toks items (fun b o e=>?_) ?_ pp
  ·have nb:b≠s.heap.objs.size:=cW (bC e)
   refine mo.heap b o (fun m=>?_) (q1 b o nb (k1 b o (hkeep b o e)))
   rcases aM.mp m with z|z
   ·exact nb z
   ·have z:=aQ.mp z
    rw[z] at e
    exact absurd (eK (mV (bC e) lS) k2) (jK _)
  ·exact jr (bC q3)
 refine wpAny_ite_split (fun _=>?_) fun _=>wpAny_pure ⟨plainId_quiet EH _,key h2 _ st (fun _ _ _ e=>e) Az⟩
 refine wpAny_bind (wpAny_rule (wpAny_bind ?_))
 show wpAny _ A.in1 (updateSeq s.heap.objs.size (·.push .none)>>=fun _=>updateSeq s.heap.objs.size (·.pop)) _ _ _
 have u1:=uK (Obj.mapSeq (·.push Value.none)) Az rfl
 have u2:=uK (Obj.mapSeq (·.pop)) u1 rfl
 refine wpAny_bind (wpAny_updateSeq Az rfl (wpAny_updateSeq (hz:=by seq_fits) u1 rfl ?_))
 have Kz:∀b o,b≠s.heap.objs.size->h2.get? b=some o->((h2.update s.heap.objs.size (Obj.mapSeq (·.push Value.none))).update s.heap.objs.size (Obj.mapSeq (·.pop))).get? b=some o:=fun b o nb e=>(kY _ _ (bx nb)).trans ((kY _ _ (bx nb)).trans e)
 exact wpAny_pure ⟨plainId_quiet EH _,key _ _ ((W A.in1 hh).frame 0 _ _ st fun b m o e=>Kz b o (fun z=>nS (z▸m)) e) Kz u2⟩
theorem JD{ks:List Int->Prop}:∀{vs:List Value},(∀v∈vs,∃k t,v= .int k t)->∃ns,IntsAre vs ns
  |[],_=>⟨[], .nil⟩
  | v :: vs, h => by
    obtain⟨k,t,rfl⟩:=h v (bA ..)
    obtain⟨ns,hn⟩:=JD (ks:=ks) fun v m=>h v (cG _ m)
    exact⟨k::ns, .cons k t hn⟩
theorem IL:∀{vs:List Value} {ns:List Int},IntsAre vs ns->∀k,k∈ns↔∃t, .int k t∈vs
  |_,_, .nil,k=>by simp
  | _, _, .cons j t h, k => by
    rw[aM,IL h k]
    constructor
    · rintro(rfl|⟨t',m⟩)
      · exact⟨_,bA ..⟩
      · exact⟨t',cG _ m⟩
    · rintro⟨t',m⟩
      rcases aM.mp m with e|m
      · cases e;exact .inl rfl
      · exact .inr ⟨t',m⟩
theorem XG{S:Int->Bool}{n:Nat}{Q:Value->Shared->Prop}(hh:A.handled=none)(hS:s.heap.SetOf (IK prog w) a S n)(hT:gJ (gc w) s.heap a)(h64:n<64)
  (h : ∀ h' d' tk' (l : Addr) (out : List Value) (ns : List Int) (e : Nat), (∀ b o, s.heap.get? b = some o -> h'.get? b = some o) -> s.heap.objs.size <= l -> h'.get? l = some (seqObj "list" out.toArray e) -> IntsAre out ns -> ns.Pairwise (· <= ·) -> (∀ k, S k = true ↔ k ∈ ns) -> ns.length = n ->
   Q (.ref l) {s with heap:=h',drawn:=d',toks:=tk'}):wpAny (model prog w) A (call (.builtin "sorted") [.ref a]) Q E s:=by
 obtain⟨o,es,ep,t,g1,g2,g3,l1,l2,l3,l4,sz⟩:=hS
 refine C4 kind_sorted plain_sorted entry_sorted (args_sorted1 _) ?_
 unfold Builtin.«sorted»
 refine wpAny_bind (m:=checkCount "sorted" 1 1 _) (wpAny_pure (wpAny_bind ?_))
 refine MQ (A:=A.in1) hh l3 g1 g2 g3 l4 (hT o es ep t g1 g3) fun h1 d1 BN items k1 k2 pp=>?_
 have hint:∀v∈items,∃k t,v= .int k t:=fun v m=>by
  obtain⟨e,m',rfl⟩:=cI.mp (pp.mem_iff.mp m)
  obtain⟨⟨k,hk,_⟩,_⟩:=l1 e m'
  obtain⟨t,ht⟩:=rL hk
  exact⟨k,t,ht⟩
 obtain⟨ns,hI⟩:=JD (ks:=fun _=>True) hint
 have hlen:items.length=n:=by rw[pp.length_eq,aj,jx,sz]
 refine wpAny_bind (wpAny_newList ?_)
 have gL:(h1.push (seqObj "list" items.toArray 0)).get? h1.objs.size=some (seqObj "list" items.toArray 0):=fk _ rfl
 refine wpAny_bind (wpAny_holding (wpAny_call_entry slot_list_sort ⟨_,gL,rfl⟩ entry_list_sort (list_sort_tree gL hI (by omega) fun out ns' a1 a2 a3=>⟨_,rfl,?_⟩) (args_list_sort _)))
 obtain⟨e,he⟩:=sortedHeap_at (out:=out) gL
 refine wpAny_pure ⟨_,rfl,h _ d1 BN h1.objs.size out.toList ns' e (fun b o q=>?_) k2 (by simpa using he) a1 a3 (fun k=>?_) ?_⟩
 ·have lb:=bC (k1 b o q)
  rw[sortedHeap_old (cW lb) (by rw[l6];exact nH lb)]
  exact bS _ (k1 b o q)
 ·rw[a2.mem_iff,IL hI,l2 k]
  constructor
  ·rintro⟨e,m,q⟩
   obtain⟨t,ht⟩:=rL q
   exact⟨t,pp.mem_iff.mpr (ht▸cI.mpr ⟨e,m,rfl⟩)⟩
  ·rintro⟨t,m⟩
   obtain⟨e,m',q⟩:=cI.mp (pp.mem_iff.mp m)
   exact⟨e,m',by rw[q];exact intKind_is _ _ _ _⟩
 ·rw[a2.length_eq,<-hI.length,hlen]
end
end L2
set_option maxRecDepth 100000
set_option maxHeartbeats 4000000
namespace L2
open PySem PySem.Spec PyProof.Rows
def q9(P:Program)(w:World)(a:Addr)(S:Int->Bool)(n:Nat):HO:= .ext fun h=>h.SetOf (IK P w) a S n/\gJ (gc w) h a
theorem Inv.dr{X:Cx}{pins:List (Addr×Obj)}{σ:St}{H:Hp}{s:Shared}(I:Inv X pins σ H s)(d:Drawn):Inv X pins σ H {s with drawn:=d}:=
 ⟨I.ok,I.os,I.bare,I.base,I.loc,I.cell,I.free,I.jw,I.pin,I.hok,I.len⟩
theorem rN:∀{ns:List Int} {us:List Value},Vals (ns.map V.int) us->IntsAre us ns
  |[],_, .nil=> .nil
  | n :: ns, _, .cons r t => by
    obtain⟨k,rfl⟩:=r
    exact .cons n k (rN t)
theorem tW:∀{us:List Value} {ns:List Int},IntsAre us ns->Vals (ns.map V.int) us
 |_,_, .nil=> .nil
 |_,_, .cons k t h=> .cons ⟨t,rfl⟩ (tW h)
theorem Nj{σ:List Int}{k:Int}(h:σ.Nodup):(step_dedup σ k).Nodup:=by
 unfold step_dedup
 split
 ·exact h
 ·rename_i q
  rw[pe]
  refine⟨h,by simp,fun x hx y hy=>?_⟩
  rw[aQ.mp hy]
  intro e
  subst e
  exact q (by simp[hx])
theorem Ht(val:Nat->Int):∀i,(firstMet val i).Nodup
 |0=>mJ
 |i+1=>by rw[firstMet_succ];exact Nj (Ht val i)
theorem Ji:∀{ds ns:List Int},ds.Nodup->(∀k∈ds,k∈ns)->ns.length<=ds.length->ds.Perm ns
  | [], ns, _, _, hl => by
    have:ns=[]:=nA.mp (by simpa using hl)
    rw[this]
  | d :: ds, ns, hd, hs, hl => by
    have hm:=hs d (bA ..)
    obtain⟨h1,h2⟩:=gz.mp hd
    have hp:=List.perm_cons_erase hm
    refine(List.Perm.cons d (Ji h2 (fun k hk=>?_) ?_)).trans hp.symm
    · rcases aM.mp (hp.mem_iff.mp (hs k (cG _ hk))) with e|e
      · subst e;exact absurd hk h1
      · exact e
    · have:=hp.length_eq;simp at this hl⊢;omega
def Dt(P:Program)(w:World)(K:PySem.W.Frag):List V->Hp->VK->Prop:=fun xs H Q=>∃p,∃ns:List Int,xs=[.ref p]/\aV K H p (ns.map V.int)/\ns.length<=4000/\∀a (ms:List Int),H a=none->ms.Nodup->(∀k,k∈ms↔k∈ns)->Q (.ref a) (upd H a (q9 P w a (fun k=>ms.any (· ==k)) ms.length))
def ym(P:Program)(w:World):List V->Hp->VK->Prop:=fun xs H Q=>∃a,∃ms:List Int,xs=[.ref a]/\H a=some (q9 P w a (fun k=>ms.any (· ==k)) ms.length)/\ms.Nodup/\ms.length<64/\
 ∀l (rs:List Int),H l=none->rs.Pairwise (· < ·)->(∀k,k∈rs↔k∈ms)->Q (.ref l) (upd H l (.lst (rs.map V.int)))
section
variable{X:Cx}
theorem VX(hc:X.calm=true):fF X (.type "set") (Dt X.prog X.w X.K):=by
 intro pins s σ H xs us Q I rv h
 obtain⟨p,ns,rfl,hp,hn,q⟩:=h
 obtain⟨u,rfl,ru⟩:=vals1 rv
 cases ru
 obtain⟨its,rs,il,hz⟩:=I.list hp
 have hI:=rN rs
 have hlen:=hI.length
 refine OI (I.ok.hd hc) il.isList (by simpa using hI) (by rw[eg];unfold scanBound;omega) fun h' tk q1 q2 q3=>?_
 have hmem:∀k,k∈firstMet (fun i=>ns.getD i 0) its.toArray.size↔k∈ns:=fun k=>by
  have e:=firstMet_any (fun i=>ns.getD i 0) its.toArray.size k
  have e2:(List.range its.toArray.size).map (fun i=>ns.getD i 0)=ns:=by
   rw[eg,hlen]
   apply List.ext_getElem
   ·simp
   ·intro i h1 h2
    simp[bG,aB h2]
  rw[e2] at e
  have a1:∀(l:List Int),(l.any (· ==k))=true↔k∈l:=fun l=>by
   rw[oO]
   exact⟨fun⟨x,m,z⟩=>(beq_iff_eq.mp z)▸m,fun m=>⟨k,m,beq_self_eq_true _⟩⟩
  rw[<-a1,<-a1,e]
 have kp:∀b u,s.heap.get? b=some u->h'.get? b=some u:=fun b u e=>q3 b u (bC e) e
 have new:bR X.prog X.w (upd H s.heap.objs.size (q9 X.prog X.w s.heap.objs.size (fun k=>(firstMet (fun i=>ns.getD i 0) its.toArray.size).any (· ==k)) (firstMet (fun i=>ns.getD i 0) its.toArray.size).length)) h' s.heap.objs.size (q9 X.prog X.w s.heap.objs.size (fun k=>(firstMet (fun i=>ns.getD i 0) its.toArray.size).any (· ==k)) (firstMet (fun i=>ns.getD i 0) its.toArray.size).length):=by
  refine⟨⟨q1,q2⟩,?_,fun h1 h2 z k=>?_⟩
  ·obtain⟨o,_,_,_,ho,_⟩:=q1;exact⟨o,ho⟩
  ·obtain⟨⟨o,es,ep,t,ho,r⟩,tt⟩:=z
   exact⟨⟨o,es,ep,t,k o ho,r⟩,tt.keep ho (k o ho)⟩
 exact⟨.ref s.heap.objs.size,_,I.laid (t':=tk) kp (aJ _) new,rfl,q _ _ (I.hok.fresh (aJ _)) (Ht _ _) hmem⟩
theorem Rl(hc:X.calm=true):fF X (.builtin "sorted") (ym X.prog X.w):=by
 intro pins s σ H xs us Q I rv h
 obtain⟨a,ms,rfl,hH,nd,h64,q⟩:=h
 obtain⟨u,rfl,ru⟩:=vals1 rv
 cases ru
 obtain⟨⟨q1,q2⟩,_,_⟩:=I.hok a _ hH
 refine XG (I.ok.hd hc) q1 q2 h64 fun h' d' tk' l out ns e kp hl gl hI pw hm hn=>?_
 have a1:∀k,(ms.any (· ==k))=true↔k∈ms:=fun k=>by
  rw[oO]
  exact⟨fun⟨x,m,z⟩=>(beq_iff_eq.mp z)▸m,fun m=>⟨k,m,beq_self_eq_true _⟩⟩
 have hm':∀k,k∈ns↔k∈ms:=fun k=>by rw[<-hm k,a1]
 have pp:=Ji nd (fun k m=>(hm' k).mpr m) (vK hn)
 have SD:ns.Nodup:=pp.nodup_iff.mp nd
 have lt:ns.Pairwise (· < ·):=by
  have:=pw.and SD
  exact this.imp fun⟨x,y⟩=>by omega
 have new:bR X.prog X.w (upd H l (.lst (ns.map V.int))) h' l (.lst (ns.map V.int)):=by
  refine⟨?_,out,e,tW hI,gl⟩
  rw[aj,hn];exact eE (jr h64) (by decide)
 exact⟨.ref l,_,(I.laid (t':=tk') kp hl new).dr d',rfl,q _ _ (I.hok.fresh hl) lt hm'⟩
end
theorem aC.V3{G:Gx}{ρ:Rh}{te:TE}{P:Program}{w:World}{K:PySem.W.Frag}{Θ:Bool->List PyData->Prop}(h:Ev G ρ te fun _ x=>∃ns:List Int,x= .list (ns.map .int)/\ns.length<64/\∀rs:List Int,rs.Pairwise (· < ·)->(∀k,k∈rs↔k∈ns)->Θ true (rs.map .int)):
  aC G ρ (fN (ym P w) (bq (fN (Dt P w K) (bq te bT)) bT)) Θ:=fun nb σ H Q W z=>
 h nb σ H _ W fun f v H1 x ⟨ns,ex,hn,q⟩ s1 hv=>by
  subst ex
  obtain⟨a,xs,rfl,na,hx,hd⟩:=hv.fB
  have e:=nE hd
  subst e
  refine⟨a,ns,rfl, .of hx,by omega,fun b ms hb nd hm=>?_⟩
  have hms:ms.length<=ns.length:=qW nd fun k m=>(hm k).mp m
  refine⟨b,ms,rfl,aX,nd,by omega,fun l rs hl lt hm'=>?_⟩
  have s2:Step G.B H1 (upd H1 b (q9 P w b (fun k=>ms.any (· ==k)) ms.length)):= .same s1.2 (dR hb)
  exact aC.fin (f:=true) W (s1.trans s2) hl (qT rs) (q rs lt fun k=>(hm' k).trans (hm k)) z
end L2
set_option maxRecDepth 100000
set_option maxHeartbeats 4000000
set_option maxRecDepth 100000
set_option maxHeartbeats 4000000
set_option maxRecDepth 100000
set_option maxHeartbeats 4000000
set_option maxRecDepth 100000
set_option maxHeartbeats 4000000
set_option maxRecDepth 100000
set_option maxHeartbeats 4000000
set_option maxRecDepth 100000
set_option maxHeartbeats 4000000
namespace L2
open PySem PySem.Spec PyProof.Rows
def kd(x:Keyed):Int:=match x.1 with| .int n _=>n|_=>0
end L2
set_option maxRecDepth 100000
set_option maxHeartbeats 4000000
set_option maxRecDepth 100000
set_option maxHeartbeats 4000000
set_option maxRecDepth 100000
set_option maxHeartbeats 4000000
set_option maxRecDepth 100000
set_option maxHeartbeats 4000000
set_option maxRecDepth 100000
set_option maxHeartbeats 4000000
set_option maxRecDepth 100000
set_option maxHeartbeats 4000000
namespace L2
open PySem PySem.Spec PyProof.Rows
def Jh:List V->Hp->VK->Prop:=fun xs H Q=>∃j:Int,xs=[.int j]/\∀a,H a=none->Q (.ref a) (upd H a (.nR 0 j))
def Ft:List V->Hp->VK->Prop:=fun xs H Q=>∃(a:Addr) (lo hi:Int),xs=[.ref a]/\H a=some (.nR lo hi)/\(-10000<=lo/\lo<=10000/\ -10000<=hi/\hi<=10000)/\∀l,H l=none->Q (.ref l) (upd H l (.lst (((List.range (hi-lo).toNat).map fun(i:Nat)=>lo+(i:Int)).map V.int)))
def zI(K:PySem.W.Frag):List V->Hp->VK->Prop:=fun xs H Q=>∃p,∃ns:List Int,xs=[.ref p]/\aV K H p (ns.map V.int)/\Q (.int ns.sum) H
def zB(K:PySem.W.Frag):List V->Hp->VK->Prop:=fun xs H Q=>∃p,∃bs:List Bool,xs=[.ref p]/\aV K H p (bs.map V.bl)/\Q (.bl (bs.all id)) H
section
variable{X:Cx}
theorem B7:fF X (.type "range") Jh:=by
 intro pins s σ H xs us Q I rv h
 obtain⟨j,rfl,q⟩:=h
 obtain⟨u,rfl,ru⟩:=vals1 rv
 obtain⟨t,rfl⟩:=ru
 refine call_range_1 ?_
 exact⟨.ref s.heap.objs.size,_,I.laid (t':=s.toks+1+1) (o:= .nR 0 j) (fun b o e=>bS _ e) (aJ _) ⟨_,_,_,fk _ rfl⟩,rfl,q _ (I.hok.fresh (aJ _))⟩
theorem BW(hc:X.calm=true):fF X (.type "list") Ft:=by
  intro pins s σ H xs us Q I rv h
  obtain⟨a,lo,hi,rfl,hH,hb,q⟩:=h
  obtain⟨u,rfl,ru⟩:=vals1 rv
  cases ru
  obtain⟨t,u,v,e⟩:=(show bR X.prog X.w H s.heap a (.nR lo hi) from I.hok a _ hH)
  refine call_list_range (n:=(hi-lo).toNat) (I.ok.hd hc) (show IsRange s.heap a lo hi 1 t u v from e) (small_one (by omega) (by omega) (by omega) (by omega)) (rangeSize_nat lo hi) (by omega) fun h' tk acc c' kp hl hi'=>?_
  have vv:Vals (((List.range (hi-lo).toNat).map fun(i:Nat)=>lo+(i:Int)).map V.int) acc.toList:=by
    have key:∀(n:Nat) (l:List Value),l.length=n->∀b:Int,(∀(j:Nat) (v:Value),l[j]?=some v->∃t,v=Value.int (b+(j:Int)) t)->Vals (((List.range n).map fun(i:Nat)=>b+(i:Int)).map V.int) l:=by
      intro n
      induction n with
      |zero=>intro l hl b _;rw[nA.mp hl];exact .nil
      | succ n ih =>
        intro l hl b hv
        cases l with
        |nil=>cases hl
        | cons x r =>
          obtain⟨t,e⟩:=hv 0 x rfl
          rw[Ei,aY,aY]
          refine .cons ⟨t,by simpa using e⟩ ?_
          have:=ih r (by simpa using hl) (b+1) (fun j v e=>by
            obtain⟨t,z⟩:=hv (j+1) v (by simpa using e)
            exact⟨t,by rw[z];congr 1;omega⟩)
          rw[dw] at this⊢
          rw[dw]
          have e:∀i:Nat,((V.int∘fun(i:Nat)=>b+(i:Int))∘Nat.succ) i=(V.int∘fun(i:Nat)=>b+1+(i:Int)) i:=fun i=>by
            show V.int (b+((i+1:Nat):Int))=V.int (b+1+(i:Int));congr 1;omega
          rw[fX fun i _=>e i]
          exact this
    refine key _ _ (by rw[jx];exact hi'.1) lo fun j v e=>?_
    obtain⟨t,z⟩:=hi'.2 j v (by rw[<-mP];exact e)
    exact⟨t,by rw[z];congr 1;omega⟩
  refine⟨.ref s.heap.objs.size,_,I.laid (t':=tk) (o:= .lst (((List.range (hi-lo).toNat).map fun(i:Nat)=>lo+(i:Int)).map V.int)) kp (aJ _) ⟨?_,acc.toList,c',vv,by simpa using hl⟩,rfl,q _ (I.hok.fresh (aJ _))⟩
  rw[aj,aj,iH]
  exact eE (show(hi-lo).toNat<=20000 by omega) (by decide)
theorem WX(hc:X.calm=true):fF X (.builtin "sum") (zI X.K):=by
 intro pins s σ H xs us Q I rv h
 obtain⟨p,ns,rfl,hp,q⟩:=h
 obtain⟨u,rfl,ru⟩:=vals1 rv
 cases ru
 obtain⟨its,rs,il,hz⟩:=I.list hp
 have hI:=rN rs
 obtain⟨ys,e⟩:=hI.allInts.items
 have hn:=hI.numsOf
 refine sum_intListG (xs:=ys) (I.ok.hd hc) (by rw[<-e];exact il.isList) fun h' tk t' kp=>?_
 have e2:preSum (numAt ys) ys.size=ns.sum:=by
  rw[preSum_eq,Dn (by simp),<-nums_intItems,<-e,<-hn]
 rw[e2]
 exact⟨.int ns.sum,H,I.kept kp,⟨_,rfl⟩,q⟩
theorem Xx(hc:X.calm=true):fF X (.builtin "all") (zB X.K):=by
  intro pins s σ H xs us Q I rv h
  obtain⟨p,bs,rfl,hp,q⟩:=h
  obtain⟨u,rfl,ru⟩:=vals1 rv
  cases ru
  obtain⟨its,rs,il,hz⟩:=I.list hp
  have hl:=rs.length
  have hv:∀(i:Nat) (v:Value),its.toArray[i]?=some v->v= .bool (bs.getD i false):=fun i v e=>by
    have hi:i<bs.length:=by
      have:=(sV.mp e).1
      rw[aj] at hl
      simp at this;omega
    obtain⟨u,hu,ru⟩:=rs.get (i:=i) (x:= .bl bs[i]) (by rw[aL,aB hi];rfl)
    rw[HX,hu] at e
    cases e
    rw[bG,aB hi]
    exact ru
  have ll:=il.isList
  have hlt:p<s.heap.objs.size:=by obtain⟨o,e,_⟩:=ll;exact bC e
  refine call_all_walk (wpAny_pyIter_list ll ⟨s.heap.objs.size,_,_,_,_,_,fun i=>bs.getD i false,rfl,Walks.list (A:=X.A.in1) (I.ok.hd hc) _ p (cW hlt) its.toArray,⟨⟨_,fk _ rfl,rfl,rfl⟩,ll.push _⟩,fun i v s Q E hP hQ=>?_,fun h' tk kp=>?_⟩)
  · rw[hv i v hP];exact wpAny_truthy_bool hQ
  · have e:(List.range its.toArray.size).all (fun i=>bs.getD i false)=bs.all id:=by
      have hs:its.toArray.size=bs.length:=by rw[aj] at hl;simp;omega
      rw[hs]
      clear hv hl rs q hp hs hz
      induction bs with
      |nil=>rfl
      | cons b r ih =>
        rw[j7,Ei,qa,qa,List.all_map]
        simpa[Function.comp_def] using congrArg (b && ·) ih
    rw[e]
    refine⟨.bl (bs.all id),H,I.kept fun b o q=>kp b o (fun m=>?_) (bS _ q),rfl,q⟩
    have:=aQ.mp m
    rw[this] at q
    exact absurd (bC q) (jK _)
end
section
variable{G:Gx}{ρ:Rh}{te:TE}{K:PySem.W.Frag}{Φ:Pd}
theorem aC.AW{Θ:Bool->List PyData->Prop}(h:Ev G ρ te fun _ x=>∃n:Int,x= .int n/\ -10000<=n/\n<=10000/\Θ true (((List.range n.toNat).map fun(i:Nat)=>(0:Int)+(i:Int)).map .int)):aC G ρ (fN Ft (bq (fN Jh (bq te bT)) bT)) Θ:=fun nb σ H Q W z=>
 h nb σ H _ W fun f v H1 x ⟨n,ex,h1,h2,q⟩ s1 hv=>by
  subst ex
  rw[hv.bX]
  refine⟨n,rfl,fun a ha=>⟨a,0,n,rfl,aX,by omega,fun l hl=>?_⟩⟩
  rw[vo]
  exact aC.fin (f:=true) W (s1.trans (.same s1.2 (dR ha))) hl (qT _) q z
theorem Ev.sum(h:Ev G ρ te fun _ x=>∃ns:List Int,x= .list (ns.map .int)/\Φ true (.int ns.sum)):Ev G ρ (fN (zI K) (bq te bT)) Φ:=fun nb σ H Q W z=>
 h nb σ H _ W fun f v H1 x ⟨ns,ex,q⟩ s1 hv=>by
  subst ex
  obtain⟨a,xs,rfl,na,hx,hd⟩:=hv.fB
  have e:=nE hd
  subst e
  exact⟨a,ns,rfl, .of hx,z true _ H1 _ q s1 (.int _)⟩
theorem GR{nb:Addr->Prop}{H:Hp}:∀{is:List Bool} {xs:List V},ah nb H (is.map PyData.bool) xs->xs=is.map V.bl
  |[],_,h=>by unfold List.map ah at h;exact h
  | i :: is, _, h => by
    rw[aY] at h
    unfold ah at h
    obtain⟨y,ys,rfl,h1,h2⟩:=h
    unfold ai at h1
    rw[aY,h1,GR h2]
theorem Ev.all(h:Ev G ρ te fun _ x=>∃bs:List Bool,x= .list (bs.map .bool)/\Φ true (.bool (bs.all id))):Ev G ρ (fN (zB K) (bq te bT)) Φ:=fun nb σ H Q W z=>
 h nb σ H _ W fun f v H1 x ⟨bs,ex,q⟩ s1 hv=>by
  subst ex
  obtain⟨a,xs,rfl,na,hx,hd⟩:=hv.fB
  have e:=GR hd
  subst e
  exact⟨a,bs,rfl, .of hx,z true _ H1 _ q s1 (.bl _)⟩
end
end L2
set_option maxRecDepth 100000
set_option maxHeartbeats 4000000
namespace L2
open PySem PySem.Spec PyProof.Rows
def i9:PyData->String->Bool
 | .bool _,T=>T=="bool" ||T=="int"
 | .int _,T=>T=="int"
 | .str _,T=>T=="str"
 | .list _,T=>T=="list"
 | .tuple _,T=>T=="tuple"
 |_,_=>false
def zY:PyData->String
 | .none=> "NoneType" | .bool _=> "bool" | .int _=> "int" | .str _=> "str" | .list _=> "list" | .tuple _=> "tuple" | .dict _=> "dict"
theorem Gs(ds:List PyData):i9 (.list ds) "list"=true/\i9 (.list ds) "tuple"=false:=⟨rfl,rfl⟩
theorem Ge(ds:List PyData):i9 (.tuple ds) "list"=false/\i9 (.tuple ds) "tuple"=true:=⟨rfl,rfl⟩
theorem Sg{K:PySem.W.Frag}{nb:Addr->Prop}{H:Hp}{d:PyData}{v:V}(h:ai nb H d v):iY K H v (.type (zY d)):=by
 cases d<;>unfold ai at h
 ·subst h;exact .aT
 ·subst h;exact .bl _
 ·subst h;exact .int _
 ·subst h;exact .str _
 ·obtain⟨a,xs,rfl,_,e,_⟩:=h;exact .lst e
 ·obtain⟨a,xs,rfl,_,e,_⟩:=h;exact .tup e
 ·obtain⟨a,xs,rfl,_,e,_⟩:=h;exact e.elim .dK fun⟨_,e⟩=> .Ir e
def pJ(T:String):Prop:=T="int" \/T="bool" \/T="list" \/T="tuple" \/T="str"
theorem Iw{K:PySem.W.Frag}{d:PyData}{T:String}(hT:pJ T):PySem.W.kitOne K (.type (zY d)) (.type T)=some (i9 d T):=by
 rcases hT with rfl|rfl|rfl|rfl|rfl<;>cases d<;>(with_unfolding_all rfl)
theorem FP{K:PySem.W.Frag}{d:PyData}:∀{Ts:List String},(∀T∈Ts,pJ T)->PySem.W.kitAny K (.type (zY d)) (Ts.map Value.type)=some (Ts.any (i9 d))
  |[],_=>rfl
  | T :: r, h => by
    rw[aY]
    unfold PySem.W.kitAny
    rw[Iw (h T (bA ..)),nO]
    cases i9 d T with
    |true=>rfl
    |false=>exact FP fun T m=>h T (cG _ m)
def t8:List V->Hp->VK->Prop:=fun xs H Q=>∃(x:V) (tp:Addr) (Ts:List String) (nb:Addr->Prop) (d:PyData),xs=[x, .ref tp]/\H tp=some (.tup (Ts.map V.ty))/\ai nb H d x/\(∀T∈Ts,pJ T)/\Q (.bl (Ts.any (i9 d))) H
theorem E7:∀{Ts:List String} {us:List Value},Vals (Ts.map V.ty) us->us=Ts.map Value.type
 |[],_, .nil=>rfl
 |T::r,_, .cons h t=>by rw[aY,E7 t,show _=Value.type T from h]
section
variable{X:Cx}
theorem Gp:fF X (.builtin "isinstance") t8:=by
 intro pins s σ H xs us Q I rv h
 obtain⟨x,tp,Ts,nb,d,rfl,ht,hd,h5,q⟩:=h
 obtain⟨u,v,rfl,ru,rv⟩:=rv.two
 cases (show v=Value.ref tp from rv)
 obtain⟨_,its,vt,o,ho,hc,n,hdat⟩:=(show bR X.prog X.w H s.heap tp (.tup (Ts.map V.ty)) from I.hok tp _ ht)
 have e:=E7 vt
 subst e
 obtain⟨c0,d0,dt,sl⟩:=o
 dsimp only at hc hdat
 subst hc hdat
 have fin:∀tk,EP X pins σ Q (.bool (Ts.any (i9 d))) {s with toks:=tk}:=fun tk=>⟨.bl _,H,I.tok tk,rfl,q⟩
 have ka:=FP (K:=X.K) (d:=d) h5
 cases d<;>unfold ai at hd
 ·subst hd;cases (show u=Value.none from ru);exact oM PySem.W.kitx_none I.fh True.intro ho ka (fun z=>nomatch z) fin
 ·subst hd;cases (show u=Value.bool _ from ru);exact oM PySem.W.kitx_bool I.fh True.intro ho ka (fun z=>nomatch z) fin
 ·subst hd;obtain⟨t,rfl⟩:=(show∃t,u=Value.int _ t from ru);exact oM PySem.W.kitx_int I.fh True.intro ho ka (fun z=>nomatch z) fin
 ·subst hd;obtain⟨t,rfl⟩:=(show∃t,u=Value.str _ t from ru);exact oM PySem.W.kitx_str I.fh True.intro ho ka (fun z=>nomatch z) fin
 ·obtain⟨a,ys,rfl,_,ea,_⟩:=hd
  cases (show u=Value.ref a from ru)
  obtain⟨_,_,n,_,h1⟩:=(show bR X.prog X.w H s.heap a (.lst ys) from I.hok a _ ea)
  exact oM zE I.fh ⟨_,h1,rfl⟩ ho ka (fun z=>nomatch z) fin
 ·obtain⟨a,ys,rfl,_,ea,_⟩:=hd
  cases (show u=Value.ref a from ru)
  obtain⟨_,_,_,o',h1,h2,_⟩:=(show bR X.prog X.w H s.heap a (.tup ys) from I.hok a _ ea)
  exact oM PySem.W.kitx_tuple I.fh ⟨o',h1,h2⟩ ho ka (fun z=>nomatch z) fin
 ·obtain⟨a,ys,rfl,_,ea,_⟩:=hd
  cases (show u=Value.ref a from ru)
  obtain⟨_,_,vs,_,dd⟩:=(show bR X.prog X.w H s.heap a (.dK ys) from ea.ok I.hok)
  exact oM uF I.fh dd.typeIs ho ka (fun z=>nomatch z) fin
end
section
variable{G:Gx}{ρ:Rh}{ta tb te:TE}{K:PySem.W.Frag}{Φ:Pd}{T U:String}
theorem Ev.NS(hT:pJ T)(h:Ev G ρ te fun _ x=>Φ true (.bool (i9 x T))):Ev G ρ (fN (kX K) (bq te (bq (tC (.ty T)) bT))) Φ:=fun nb σ H Q W z=>
 h nb σ H _ W fun f v H1 d q s1 hv=>⟨v,T,_,_,rfl,Sg hv,Iw hT,z true _ H1 _ q s1 (.bl _)⟩
theorem Ev.PN(hT:pJ T)(hU:pJ U)(h:Ev G ρ te fun _ x=>Φ true (.bool (i9 x T||i9 x U))):Ev G ρ (fN t8 (bq te (bq (m9 (bq (tC (.ty T)) (bq (tC (.ty U)) bT))) bT))) Φ:=fun nb σ H Q W z=>
 h nb σ H _ W fun f v H1 d q s1 hv=>by
  refine⟨by show 2<=sizeLine;decide,fun p hp=>⟨v,p,[T,U],G.S nb f,d,rfl,aX,hv.keep (bh.of (dR hp)),fun S m=>?_,?_⟩⟩
  ·rcases aM.mp m with e|m
   ·rw[e];exact hT
   ·rw[aQ.mp m];exact hU
  ·rw[nO,nO,List.any_nil,oq]
   exact z true _ _ _ q (s1.trans (.same s1.2 (dR hp))) (.bl _)
theorem Ev.P7(h:Ev G ρ te fun _ x=>∃ds,(x= .list ds\/x= .tuple ds)/\Φ true (.int ds.length)):Ev G ρ (fN (gp K) (bq te bT)) Φ:=fun nb σ H Q W z=>
 h nb σ H _ W fun f v H1 d ⟨ds,e,q⟩ s1 hv=>by
  rcases e with e|e
  ·subst e
   obtain⟨a,xs,rfl,n,hx,hd⟩:=hv.fB
   exact⟨a,xs,rfl, .inl (.of hx),by rw[hd.length];exact z true _ H1 _ q s1 (.int _)⟩
  ·subst e
   obtain⟨a,xs,rfl,n,hx,hd⟩:=hv.ofT
   exact⟨a,xs,rfl, .inr (.of hx),by rw[hd.length];exact z true _ H1 _ q s1 (.int _)⟩
theorem Ev.xP(h:Ev G ρ ta fun f x=>∃ds,(x= .list ds\/x= .tuple ds)/\Ev G ρ tb fun _ y=>∃k,y= .int k/\∃e,bN ds k=some e/\Φ f e):Ev G ρ (c6 (um K) ta tb) Φ:=
 Ev.jD (h.mono fun f x ⟨ds,ex,q⟩=>q.mono fun g y ⟨k,ey,e,he,p⟩ nb σ H u v Q W hu hv z=>by
  subst ey
  rcases ex with ex|ex
  ·subst ex
   obtain⟨a,xs,rfl,n,hx,hd⟩:=hu.fB
   obtain⟨w,hw,hD⟩:=hd.bN he
   exact .inl ⟨a,xs,k,w,rfl,hv.bX, .of hx,hw,z f _ H _ p (.refl W.ay) hD⟩
  ·subst ex
   obtain⟨a,xs,rfl,n,hx,hd⟩:=hu.ofT
   obtain⟨w,hw,hD⟩:=hd.bN he
   exact .inr (.inl ⟨a,xs,k,w,rfl,hv.bX, .of hx,hw,z f _ H _ p (.refl W.ay) hD⟩))
end
theorem Callee.void{P:Program}{w:World}{K:PySem.W.Frag}{mg:Str->Option Value}{base:Heap}{x:Str}{st:Stmt}{k:Nat}{ps:List Str}{sp:Sp}{f:Addr}{fd:FuncData}(F:bQ K x x st f fd)(b:Binds K fd ps [])(m:mg x=some (.ref f))(hv:∀vs H Q E,¬sp vs H Q E):Callee P w K mg base x k ps sp:=
 ⟨f,fd,⟨fun vs H Q E h=>(hv vs H Q E h).elim,fun A outer s H args us vs Q E _ _ _ _ h=>(hv vs H Q E h).elim⟩,b,F.kp,m⟩
end L2
set_option maxRecDepth 100000
set_option maxHeartbeats 4000000
namespace L2
open PySem PySem.Spec PyProof.Rows
section
variable{G:Gx}{ρ dN:Rh}{te:TE}{gt:TG}{n i:Nat}{it:Nat->PyData->Prop}{fi:Bool}{Θ:Bool->List PyData->Prop}{E:DE}
theorem uA(os:List Int):gY (os.map PyData.int)=true:=by
 unfold gY
 rw[vL]
 intro x hx
 obtain⟨y,_,rfl⟩:=cI.mp hx
 rfl
theorem gX.ints(P:Int->Prop)(ht:∀i d,it i d->Gv G dN gt fi d fun gW=>Wk dN gW/\Ev G gW te fun _ e=>∃r:Int,e= .int r/\P r)(h:∀os:List Int,os.length=n->(∀x∈os,P x)->Θ true (os.map .int)):gX G dN n it fi gt pA te Θ:=by
 refine⟨false,fun i ds=>ds.length=i/\∃os:List Int,ds=os.map .int/\∀x∈os,P x,⟨rfl,[],rfl,fun _ h=>nomatch h⟩,?_,?_⟩
 ·rintro i d ds hd hl ⟨hl2,os,rfl,ho⟩
  refine fun nb σ H v Q W hv z=>ht i d hd nb σ H v Q W hv fun σ' ρ' ⟨w,q⟩ W'=>z σ' ρ' ⟨w,Tv.sH (tV (q.mono fun f e ⟨r,ee,hr⟩=>⟨fun z=>(by cases z),?_,os++[r],?_,fun x hx=>?_⟩))⟩ W'
  ·rw[bz,fW,hl2]
  ·rw[ee];simp
  ·rcases dg.mp hx with h|h
   ·exact ho x h
   ·rw[aQ.mp h];exact hr
 ·rintro ds hl ⟨hl2,os,rfl,ho⟩
  rw[uA,tB]
  exact h os (by rw[aj] at hl2;exact hl2) ho
theorem gX.rel{α:Type}(φ:α->PyData)(fl:Bool)(P:Nat->α->Prop)(ht:∀i d,it i d->Gv G dN gt fi d fun gW=>Wk dN gW/\Ev G gW te fun f e=>(fl=true->f=true)/\∃r:α,e=φ r/\P i r)
  (h:∀os:List α,os.length=n->(∀(i:Nat) x,os[i]?=some x->P i x)->Θ (fl||gY (os.map φ)) (os.map φ)):gX G dN n it fi gt pA te Θ:=by
 refine⟨fl,fun i ds=>ds.length=i/\∃os:List α,ds=os.map φ/\∀(i:Nat) x,os[i]?=some x->P i x,⟨rfl,[],rfl,fun j x e=>by simp at e⟩,?_,?_⟩
 ·rintro i d ds hd hl ⟨hl2,os,rfl,ho⟩
  refine fun nb σ H v Q W hv z=>ht i d hd nb σ H v Q W hv fun σ' ρ' ⟨w,q⟩ W'=>z σ' ρ' ⟨w,Tv.sH (tV (q.mono fun f e ⟨hf,r,ee,hr⟩=>⟨hf,?_,os++[r],?_,fun j x hj=>?_⟩))⟩ W'
  ·rw[bz,fW,hl2]
  ·rw[ee];simp
  ·rw[aj] at hl2
   rcases Ay j os.length with h|h|h
   ·exact ho j x (by rwa[gD h] at hj)
   ·subst h
    simp at hj
    subst hj
    rw[hl2];exact hr
   ·rw[fV (by rw[bz,fW];omega)] at hj
    cases hj
 ·rintro ds hl ⟨hl2,os,rfl,ho⟩
  exact h os (by rw[aj] at hl2;exact hl2) ho
theorem Sv.Vd(h:∀a,E.nx (ρ.set i (.own a true []))):Sv G ρ (gZ (oX bT) (fR i)) E:=Sv.o9 (aC.lst (Av.nil ⟨by decide,fun a=>h a⟩))
end
def Lz:R2:=fun x y H Q=>∃a b:Bool,x= .bl a/\y= .bl b/\Q (.bl (a==b)) H
theorem Ev.ZG{G:Gx}{ρ:Rh}{ta:TE}{b:Bool}{Φ:Pd}(h:Ev G ρ ta fun _ x=>∃a,x= .bool a/\Φ true (.bool (a==b))):Ev G ρ (c6 Lz ta (tC (.bl b))) Φ:=fun nb σ H Q W z=>
 h nb σ H _ W fun f v H1 d ⟨a,e,q⟩ s1 hv=>by
  subst e
  unfold ai at hv
  subst hv
  exact⟨a,b,rfl,rfl,z true _ H1 _ q s1 (.bl _)⟩
theorem nB{X:Cx}{K:PySem.W.Frag}{a:Expr}{ta:TE}(hK:X.K=K)(ha:PE X a ta)(he:∀whole,isTrue a X.env whole=(do let v<-whole;standAt a.pos;holding [v] (truthy v))):PT X a (Kl K ta):=by
 subst hK
 exact Rq ha he
theorem iu{X:Cx}{K:PySem.W.Frag}{es:List Expr}{k:Nat}{t:iW}{n:Nat}{pos:Pos}(hK:X.K=K)(hc:X.calm=true)(h:sF X es t)(hn:(assignEach es X.env).length=n:=by rfl)(hst:(assignEach es X.env).findIdx? (·.1)=none:=by rfl):PG X (.Tuple es k pos) (vN K n t):=by
 subst hK
 exact JL hc h hn hst
theorem WC(ds:List PyData):PyData.eqv (.list ds) (.list [])=ds.isEmpty:=by cases ds<;>simp[PyData.eqv,PyData.eqvAll]
theorem NO(cs:List aq):PyData.depthAll (cs.map fJ)<=2/\PyData.canLayAll0 (cs.map fJ)=true:=by
  induction cs with
  |nil=>simp[PyData.depthAll,PyData.canLayAll0]
  | cons a r ih =>
    have h:=G0 a
    simp[PyData.depthAll,PyData.depth,PyData.canLayAll0,PyData.canLay0,ih.2,h.2.2]
    have:=ih.1
    have:=h.2.1
    omega
theorem Sv.vQ{G:Gx}{ρ:Rh}{s:TS}{E:DE}(I:Rh->Prop)(h:Sv G ρ s {E with nx:=I})(hI:∀ρ',I ρ'->E.nx ρ'):Sv G ρ s E:=fun nb σ H D W K=>h nb σ H D W ⟨fun nb ρ σ H q W=>K.nx nb ρ σ H (hI ρ q) W,K.bk,K.ct,K.rt,K.rw⟩
def Vl(p:Int):Prop:=2<=p/\p<=10^60
theorem pick{L:List Int}{k:Int}(h0:0<=k)(h1:k<L.length)(P:Int->Prop)(hP:∀x∈L,P x):∃x,bN (L.map PyData.int) k=some (.int x)/\P x:=by
 have hL:k.toNat<L.length:=by omega
 exact⟨L[k.toNat],fT h0 (by rw[aL,aB hL];rfl),hP _ (ig hL)⟩
end L2
set_option maxRecDepth 100000
set_option maxHeartbeats 4000000
namespace L2
open PySem PySem.Spec PyProof.Rows
theorem EI{α:Type}{xs:List α}{k:Int}(h0:0<=k)(h1:k<=xs.length):i8 xs none (some k)=xs.take k.toNat:=by
 unfold i8 HT.fu
 simp only[List.drop_zero,wQ]
 congr 1
 first|omega|(split<;>omega)
theorem NQ{α:Type}{xs:List α}{k:Int}(h0:0<=k)(h1:k<=xs.length):i8 xs (some k) none=xs.drop k.toNat:=by
 have e:HT.fu xs.length 0 (some k)=k.toNat:=by
  show(if k<0 then _ else _)=_
  rw[if_neg (by omega)];omega
 unfold i8
 rw[e,HT.VD]
 exact Dn (by rw[yI];omega)
end L2
set_option maxRecDepth 100000
set_option maxHeartbeats 4000000
namespace L2
open PySem PySem.Spec PyProof.Rows
theorem shaped_ints(xs:List Int):SeqAt.shaped (.list (xs.map .int))=true:=by
 have h:=L1 (xs.map some)
 have e:(xs.map some).map g7=xs.map PyData.int:=by rw[dw];rfl
 rw[e] at h
 unfold SeqAt.shaped
 simp[PyData.canLay0,PyData.depth,h.1,h.2]
end L2
set_option maxRecDepth 100000
set_option maxHeartbeats 4000000
namespace L2
open PySem PySem.Spec PyProof.Rows
def Ja(K:PySem.W.Frag)(te:TE)(ts:TO):TE:=fun σ H Q=>te σ H fun x H1=>ts σ H1 fun k H2=>k=some (-1)/\∃a xs,x= .ref a/\aV K H2 a xs/\∀p,H2 p=none->Q (.ref p) (upd H2 p (.lst xs.reverse))
theorem ah.rev{nb:Addr->Prop}{H:Hp}:∀{ds:List PyData} {xs:List V},ah nb H ds xs->ah nb H ds.reverse xs.reverse
  |[],xs,h=>by unfold ah at h;subst h;exact .nil
  | d :: ds, xs, h => by
    unfold ah at h
    obtain⟨y,ys,e,h1,h2⟩:=h
    subst e
    rw[List.reverse_cons,List.reverse_cons]
    exact ah.append (ah.rev h2) (.cons h1 .nil)
section
variable{G:Gx}{ρ:Rh}{Φ:Pd}{ta tb te:TE}{K:PySem.W.Frag}
theorem aC.rev{ts:TO}{Θ:Bool->List PyData->Prop}(h:Ev G ρ te fun f x=>∃ds,x= .list ds/\Ov G ρ ts fun o=>o=some (-1)/\Θ (f||gY ds.reverse) ds.reverse):aC G ρ (Ja K te ts) Θ:=fun nb σ H Q W z=>
 h nb σ H _ W fun f v H1 d ⟨ds,e,q⟩ s1 hv=>q nb σ H1 _ (W.step s1) fun o H2 ⟨eo,q2⟩ s2=>by
  subst e
  obtain⟨a,xs,rfl,n,hx,hd⟩:=(hv.keep s2.dX).fB
  exact⟨eo,a,xs,rfl, .of hx,fun p hp=>aC.fin W (s1.trans s2) hp hd.rev q2 z⟩
theorem Ev.rev{ts:TO}(h:Ev G ρ te fun f x=>∃ds,x= .list ds/\Ov G ρ ts fun o=>o=some (-1)/\Φ (f||gY ds.reverse) (.list ds.reverse)):Ev G ρ (Ja K te ts) Φ:=(aC.rev (Θ:=fun f ds=>Φ f (.list ds)) h).ev
theorem Ev.Zk{ng:Bool}(h:Ev G ρ ta fun _ x=>∃k:Int,x= .int k/\Ev G ρ tb fun _ y=>∃ns:List Int,y= .list (ns.map .int)/\Φ true (.bool (decide (k∈ns) !=ng))):Ev G ρ (c6 (Se K ng) ta tb) Φ:=fun nb σ H Q W z=>
 h nb σ H _ W fun f v H1 d ⟨k,e,q⟩ s1 hv=>q nb σ H1 _ (W.step s1) fun g u H2 d2 ⟨ns,e2,p⟩ s2 hu=>by
  subst e e2
  have hk:=hv.bX
  subst hk
  obtain⟨a,xs,rfl,na,hx,hd⟩:=hu.fB
  have ex:=nE hd
  subst ex
  refine⟨a,ns.map V.int,rfl, .inl (.of hx),rfl,?_,?_⟩
  ·rw[vL]
   intro x hx
   obtain⟨o,_,rfl⟩:=cI.mp hx
   rfl
  ·have e:qp (V.int k) (ns.map V.int)=decide (k∈ns):=by
    unfold qp
    rw[List.any_map,nJ,oO,decide_eq_true_eq]
    constructor
    ·rintro⟨o,m,h⟩
     have:o=k:=eq_of_beq h
     exact this▸m
    ·intro m
     exact⟨k,m,beq_self_eq_true k⟩
   have e2:(if ng=true then !qp (V.int k) (ns.map V.int) else qp (V.int k) (ns.map V.int))=(decide (k∈ns) !=ng):=by
    rw[e]
    cases ng<;>simp
   rw[e2]
   exact z true _ H2 _ p (s1.trans s2) (.bl _)
end
end L2
set_option maxRecDepth 100000
set_option maxHeartbeats 1000000
namespace PC
def aN(n:Nat):Prop:=2<=n/\∀d,d∣n->d=1\/d=n
def tr(q:Nat):Nat->Nat->Bool
 |0,_=>false
 |f+1,d=>if q<d*d then true else if q%d=0 then false else tr q f (d+1)
theorem K5{q:Nat}:∀{f d:Nat},tr q f d=true->∀e,d<=e->e*e<=q->q%e≠0
  |0,_,h=>by simp[tr] at h
  | f + 1, d, h => by
    intro e hde hee
    unfold tr at h
    by_cases h1:q<d*d
    · have:=Nat.mul_le_mul hde hde
      omega
    · rw[if_neg h1] at h
      by_cases h2:q%d=0
      · rw[if_pos h2] at h;cases h
      · rw[if_neg h2] at h
        by_cases h3:d=e
        · rw[<-h3];exact h2
        · exact K5 h e (by omega) hee
theorem K6{q:Nat}(h2:2<=q)(h:∀e,2<=e->e*e<=q->q%e≠0):aN q:=by
 refine⟨h2,fun d hd=>?_⟩
 obtain⟨e,he⟩:=hd
 by_cases d1:d=1
 ·exact .inl d1
 by_cases e1:e=1
 ·right;rw[he,e1,Dd]
 exfalso
 have d0:d≠0:=fun z=>by rw[z,CL] at he;omega
 have e0:e≠0:=fun z=>by rw[z,Nat.mul_zero] at he;omega
 by_cases hle:d<=e
 ·refine h d (by omega) (by rw[he];exact Nat.mul_le_mul_left d hle) ?_
  rw[he];exact Nat.mul_mod_right d e
 ·refine h e (by omega) (by rw[he];exact Nat.mul_le_mul_right e (by omega)) ?_
  rw[he];exact Nat.mul_mod_left d e
theorem cE(f:Nat){q:Nat}(h2:2<=q)(h:tr q f 2=true):aN q:=K6 h2 (K5 h)
def pw(N:Nat):Nat->Nat->Nat->Nat->Nat
 |0,_,_,acc=>acc
 |f+1,e,g,acc=>pw N f (e/2) (g*g%N) (if e%2=1 then acc*g%N else acc)
theorem Kw{N:Nat}:∀(f e g acc:Nat),e<2^f->pw N f e g acc%N=acc*g^e%N
  | 0, e, g, acc, h => by
    have:e=0:=by simp at h;exact h
    subst this
    simp[pw]
  | f + 1, e, g, acc, h => by
    have h2:e/2<2^f:=by rw[Nat.pow_succ] at h;omega
    unfold pw
    rw[Kw f _ _ _ h2]
    have e2:g^e=(g*g)^(e/2)*g^(e%2):=by
      conv=>lhs;rw[<-AN e 2]
      rw[ur,Nat.pow_mul,Nat.pow_two]
    have m1:(g*g%N)^(e/2)%N=(g*g)^(e/2)%N:=(Nat.pow_mod _ _ _).symm
    rw[e2]
    by_cases ho:e%2=1
    · rw[if_pos ho,ho,Nat.pow_one,lB,m1,Ej,<-lB]
      congr 1
      rw[rM,sW g]
    · have ho':e%2=0:=by omega
      rw[if_neg ho,ho',Nat.pow_zero,Dd,lB,m1,<-lB]
theorem Oc{P:Nat->Prop}:∀n,P n->∃m,P m/\∀k,k<m->¬P k:=by
  intro n
  induction n using Nat.strongRecOn with
  | _ n ih =>
    intro h
    by_cases hk:∃k,k<n/\P k
    · obtain⟨k,hk1,hk2⟩:=hk
      exact ih k hk1 hk2
    · exact⟨n,h,fun k hk1 hk2=>hk ⟨k,hk1,hk2⟩⟩
theorem Gm:∀(n:Nat) (f:Nat->Nat),(∀i,i<n+1->f i<n)->∃i j,i<j/\j<n+1/\f i=f j
  |0,f,h=>absurd (h 0 (by omega)) (by omega)
  | n + 1, f, h => by
    by_cases he:∃i,i<n+1/\f i=f (n+1)
    · obtain⟨i,h1,h2⟩:=he
      exact⟨i,n+1,h1,by omega,h2⟩
    · have hne:∀i,i<n+1->f i≠f (n+1):=fun i hi e=>he ⟨i,hi,e⟩
      have Zs:=h (n+1) (by omega)
      obtain⟨i,j,h1,h2,h3⟩:=Gm n (fun i=>if f i=n then f (n+1) else f i) (fun i hi=>by
        have g1:=h i (by omega)
        have g2:=hne i hi
        by_cases c:f i=n
        · simp only[c,if_true]
          have:f (n+1)≠n:=fun z=>g2 (c.trans z.symm)
          omega
        · simp only[c,if_false]
          omega)
      refine⟨i,j,h1,by omega,?_⟩
      have gi:=hne i (by omega)
      have gj:=hne j (by omega)
      by_cases ci:f i=n
      · by_cases cj:f j=n
        · rw[ci,cj]
        · simp only[ci,cj,if_true,if_false] at h3
          exact absurd h3.symm gj
      · by_cases cj:f j=n
        · simp only[ci,cj,if_true,if_false] at h3
          exact absurd h3 gi
        · simpa only[ci,cj,if_false] using h3
def j8:List (Nat×Nat)->Nat
 |[]=>1
 |qe::r=>Nat.lcm (qe.1^qe.2) (j8 r)
theorem Lh{o:Nat}:∀{fs:List (Nat×Nat)},(∀qe∈fs,qe.1^qe.2∣o)->j8 fs∣o
 |[],_=>⟨o,by simp[j8]⟩
 |qe::r,h=>Nat.lcm_dvd (h qe bA) (Lh fun x hx=>h x (cG _ hx))
theorem TM{q m:Nat}(hq:aN q)(h:¬q∣m):Nat.Coprime q m:=by
 rcases hq.2 _ (Nat.gcd_dvd_left q m) with e|e
 ·exact e
 ·exact absurd (e▸Nat.gcd_dvd_right q m) h
theorem S4{q m:Nat}(h:Nat.Coprime q m)(e:Nat):Nat.Coprime (q^e) m:=Nat.Coprime.pow_left e h
theorem Sa(a b c d:Nat):(a%d)*(b%d)%d*(c%d)%d=a*b*c%d:=by
 rw[<-lB a b,<-lB (a*b) c]
theorem Jc{N g d:Nat}{fs:List (Nat×Nat)}(hN:2<=N)(hd:d∣N)(d1:1<d)(h1:g^(N-1)%N=1%N)
  (hq:∀qe∈fs,aN qe.1/\qe.1^qe.2∣N-1/\Nat.gcd (g^((N-1)/qe.1)%N+(N-1)) N=1):j8 fs<d:=by
 have down:∀{a b:Nat},a%N=b%N->a%d=b%d:=fun{a b} e=>by
  rw[<-DN a hd,e,DN b hd]
 have one:1%d=1:=Nat.mod_eq_of_lt d1
 have f1:g^(N-1)%d=1:=by rw[down h1,one]
 obtain⟨o,⟨o0,o1⟩,KP⟩:=Oc (P:=fun k=>0<k/\g^k%d=1) (N-1) ⟨by omega,f1⟩
 have per:∀q r:Nat,g^(o*q+r)%d=g^r%d:=fun q r=>by
  rw[ur,Nat.pow_mul,lB,Nat.pow_mod,o1,Nat.one_pow,one,BU,Ej]
 have Wb:∀k,g^k%d=1->o∣k:=fun k hk=>by
  have e:=AN k o
  rw[<-e,per] at hk
  by_cases h0:k%o=0
  ·exact K0 h0
  ·exact absurd ⟨by omega,hk⟩ (KP (k%o) (xJ _ o0))
 have od:=Wb _ f1
 have parts:j8 fs∣o:=Lh fun qe xG=>by
  obtain⟨pq,⟨c,hc⟩,gq⟩:=hq qe xG
  obtain⟨m,hm⟩:=od
  by_cases IG:qe.1∣m
  ·exfalso
   obtain⟨m',hm'⟩:=IG
   have q0:0<qe.1:=by have:=pq.1;omega
   have ek:(N-1)/qe.1=o*m':=by
    rw[hm,hm',show o*(qe.1*m')=qe.1*(o*m') by rw[<-rM,sW o,rM],Nat.mul_div_cancel_left _ q0]
   have e1:g^((N-1)/qe.1)%d=1:=by
    have:=per m' 0
    rw[Nat.add_zero,Nat.pow_zero,one] at this
    rw[ek];exact this
   have e2:d∣g^((N-1)/qe.1)%N+(N-1):=by
    have e3:(g^((N-1)/qe.1)%N)%d=1:=by rw[DN _ hd];exact e1
    obtain⟨k,hk⟩:=hd
    have e4:=AN (g^((N-1)/qe.1)%N) d
    rw[e3] at e4
    refine⟨(g^((N-1)/qe.1)%N)/d+k,?_⟩
    rw[Nat.mul_add,<-hk]
    omega
   have e5:=Nat.dvd_gcd e2 hd
   rw[gq] at e5
   have:=Dr (by omega) e5
   omega
  ·have cp:=S4 (TM pq IG) qe.2
   have Xn:qe.1^qe.2∣o*m:=⟨c,by rw[<-hm];exact hc⟩
   exact cp.dvd_of_dvd_mul_right Xn
 have WH:o<d:=by
  refine Nat.lt_of_not_le fun hle=>?_
  have unit:∀i,i<=N-1->(g^i%d)*(g^(N-1-i)%d)%d=1:=fun i hi=>by
   rw[<-lB,<-ur,show i+(N-1-i)=N-1 by omega];exact f1
  have Y5:o<=N-1:=Dr (by omega) od
  have pos:∀i,i<o->0<g^i%d:=fun i hi=>by
   refine Nat.pos_of_ne_zero fun z=>?_
   have:=unit i (by omega)
   rw[z,CL,Nat.zero_mod] at this
   cases this
  obtain⟨i,j,h1,h2,h3⟩:=Gm (d-1) (fun i=>g^i%d-1) (fun i hi=>by
   have a1:=pos i (by omega)
   have a2:=xJ (g^i) (show d>0 by omega)
   omega)
  have pi:=pos i (by omega)
  have pj:=pos j (by omega)
  have e:g^i%d=g^j%d:=by omega
  have ej:g^j=g^i*g^(j-i):=by rw[<-ur,show i+(j-i)=j by omega]
  have u:=unit i (by omega)
  have k1:g^(j-i)%d=1:=by
   have w:(g^i%d)*(g^(N-1-i)%d)%d*(g^(j-i)%d)%d=(g^j%d)*(g^(N-1-i)%d)%d:=by
    rw[Sa,<-lB (g^j),ej]
    congr 1
    rw[rM,rM,sW (g^(N-1-i))]
   rw[u,BU,Ej,<-e,u] at w
   exact w
  exact KP (j-i) (by omega) ⟨by omega,k1⟩
 exact v7 (Dr o0 parts) WH
theorem QU{N g:Nat}(fs:List (Nat×Nat))(hN:2<=N)(h1:g^(N-1)%N=1%N)
  (hq:∀qe∈fs,aN qe.1/\qe.1^qe.2∣N-1/\Nat.gcd (g^((N-1)/qe.1)%N+(N-1)) N=1) (hF:N<(j8 fs+1)*(j8 fs+1)):aN N:=by
 refine⟨hN,fun d hd=>?_⟩
 obtain⟨e,he⟩:=id hd
 by_cases d1:d=1
 ·exact .inl d1
 by_cases e1:e=1
 ·right;rw[he,e1,Dd]
 exfalso
 have d0:d≠0:=fun z=>by rw[z,CL] at he;omega
 have e0:e≠0:=fun z=>by rw[z,Nat.mul_zero] at he;omega
 have b1:=Jc hN hd (by omega) h1 hq
 have b2:=Jc hN ⟨d,by rw[he,sW]⟩ (show 1<e by omega) h1 hq
 have:=Nat.mul_le_mul (show j8 fs+1<=d from b1) (show j8 fs+1<=e from b2)
 omega
def HJ(N g:Nat)(fs:List (Nat×Nat)):Bool:=
 decide (2<=N) && decide (N<2^140) &&(pw N 140 (N-1) g 1%N==1) && fs.all (fun qe=>((N-1)%qe.1^qe.2==0) &&(Nat.gcd (pw N 140 ((N-1)/qe.1) g 1%N+(N-1)) N==1)) && decide (N<(j8 fs+1)*(j8 fs+1))
theorem dI{N:Nat}(g:Nat)(fs:List (Nat×Nat))(hp:∀qe∈fs,aN qe.1)(h:HJ N g fs=true):aN N:=by
 unfold HJ at h
 simp only[cD,decide_eq_true_eq,beq_iff_eq,vL] at h
 obtain⟨⟨⟨⟨h1,h2⟩,h3⟩,h4⟩,h5⟩:=h
 have P:∀e,e<=N-1->pw N 140 e g 1%N=g^e%N:=fun e he=>by
  rw[Kw 140 e g 1 (by omega),BU]
 refine QU (g:=g) fs h1 (by rw[<-P _ (aJ _),h3,Nat.mod_eq_of_lt (by omega)]) (fun qe xG=>?_) h5
 obtain⟨g1,g2⟩:=h4 qe xG
 refine⟨hp qe xG,K0 g1,?_⟩
 rw[<-P _ (Nat.div_le_self _ _)]
 exact g2
end PC
set_option maxRecDepth 100000
set_option maxHeartbeats 1000000
namespace PC
theorem zx:aN 2:=cE 4 (by decide) (by decide+kernel)
theorem SY:aN 3:=cE 4 (by decide) (by decide+kernel)
theorem YB:aN 5:=cE 5 (by decide) (by decide+kernel)
theorem zJ:aN 7:=cE 5 (by decide) (by decide+kernel)
theorem MX:aN 11:=cE 6 (by decide) (by decide+kernel)
theorem U1:aN 101:=cE 13 (by decide) (by decide+kernel)
theorem Vq:aN 10007:=cE 103 (by decide) (by decide+kernel)
theorem YJ:aN 65537:=cE 259 (by decide) (by decide+kernel)
theorem Rr:aN 1000003:=cE 1003 (by decide) (by decide+kernel)
theorem R9:aN 17:=cE 7 (by decide) (by decide+kernel)
theorem Ol:aN 998244353:=dI 3 [(17,1),(7,1),(2,23)] (fun qe h=>by
 simp only[aM,cC,or_false] at h
 rcases h with rfl|rfl|rfl
 ·exact R9
 ·exact zJ
 ·exact zx) (by decide+kernel)
theorem Po:aN 148721:=cE 388 (by decide) (by decide+kernel)
theorem Qi:aN 500000003:=dI 2 [(148721,1)] (fun qe h=>by
 simp only[aM,cC,or_false] at h
 subst h;exact Po) (by decide+kernel)
theorem SQ:aN 1000000007:=dI 2 [(500000003,1)] (fun qe h=>by
 simp only[aM,cC,or_false] at h
 subst h;exact Qi) (by decide+kernel)
theorem Gy:aN 331:=cE 21 (by decide) (by decide+kernel)
theorem Fq:aN 151:=cE 15 (by decide) (by decide+kernel)
theorem Nu:aN 2147483647:=dI 3 [(331,1),(151,1)] (fun qe h=>by
 simp only[aM,cC,or_false] at h
 rcases h with rfl|rfl
 ·exact Gy
 ·exact Fq) (by decide+kernel)
theorem Uy:aN 250049:=cE 503 (by decide) (by decide+kernel)
theorem S3:aN 26005097:=dI 2 [(250049,1)] (fun qe h=>by
 simp only[aM,cC,or_false] at h
 subst h;exact Uy) (by decide+kernel)
theorem XU:aN 1000000000039:=dI 2 [(26005097,1)] (fun qe h=>by
 simp only[aM,cC,or_false] at h
 subst h;exact S3) (by decide+kernel)
theorem Pn:aN 234931:=cE 487 (by decide) (by decide+kernel)
theorem Si:aN 8740842787:=dI 2 [(234931,1)] (fun qe h=>by
 simp only[aM,cC,or_false] at h
 subst h;exact Pn) (by decide+kernel)
theorem Ng:aN 52445056723:=dI 2 [(8740842787,1)] (fun qe h=>by
 simp only[aM,cC,or_false] at h
 subst h;exact Si) (by decide+kernel)
theorem Wi:aN 1000000000000000003:=dI 2 [(52445056723,1)] (fun qe h=>by
 simp only[aM,cC,or_false] at h
 subst h;exact Ng) (by decide+kernel)
theorem N3:aN 15331:=cE 126 (by decide) (by decide+kernel)
theorem YF:aN 2131:=cE 49 (by decide) (by decide+kernel)
theorem Yz:aN 5594472617641:=dI 2 [(15331,1),(2131,1)] (fun qe h=>by
 simp only[aM,cC,or_false] at h
 rcases h with rfl|rfl
 ·exact N3
 ·exact YF) (by decide+kernel)
theorem Ox:aN 18446744073709551557:=dI 2 [(5594472617641,1)] (fun qe h=>by
 simp only[aM,cC,or_false] at h
 subst h;exact Yz) (by decide+kernel)
theorem Pb:aN 1321:=cE 39 (by decide) (by decide+kernel)
theorem Pp:aN 61:=cE 10 (by decide) (by decide+kernel)
theorem NW:aN 2305843009213693951:=dI 3 [(1321,1),(331,1),(151,1),(61,1)] (fun qe h=>by
 simp only[aM,cC,or_false] at h
 rcases h with rfl|rfl|rfl|rfl
 ·exact Pb
 ·exact Gy
 ·exact Fq
 ·exact Pp) (by decide+kernel)
theorem Nz:aN 8707:=cE 96 (by decide) (by decide+kernel)
theorem Rw:aN 1913:=cE 46 (by decide) (by decide+kernel)
theorem Uh:aN 2931542417:=dI 3 [(8707,1),(1913,1)] (fun qe h=>by
 simp only[aM,cC,or_false] at h
 rcases h with rfl|rfl
 ·exact Nz
 ·exact Rw) (by decide+kernel)
theorem R5:aN 2113:=cE 48 (by decide) (by decide+kernel)
theorem Nf:aN 683:=cE 29 (by decide) (by decide+kernel)
theorem Np:aN 618970019642690137449562111:=dI 3 [(2931542417,1),(2113,1),(683,1)] (fun qe h=>by
 simp only[aM,cC,or_false] at h
 rcases h with rfl|rfl|rfl
 ·exact Uh
 ·exact R5
 ·exact Nf) (by decide+kernel)
theorem LM:aN 1097:=cE 36 (by decide) (by decide+kernel)
theorem LN:aN 131:=cE 14 (by decide) (by decide+kernel)
theorem N4:aN 67254877:=dI 2 [(1097,1),(131,1)] (fun qe h=>by
 simp only[aM,cC,or_false] at h
 rcases h with rfl|rfl
 ·exact LM
 ·exact LN) (by decide+kernel)
theorem Vy:aN 28059810762433:=dI 3 [(67254877,1)] (fun qe h=>by
 simp only[aM,cC,or_false] at h
 subst h;exact N4) (by decide+kernel)
theorem Uu:aN 53:=cE 10 (by decide) (by decide+kernel)
theorem Pk:aN 37:=cE 9 (by decide) (by decide+kernel)
theorem L6:aN 13:=cE 6 (by decide) (by decide+kernel)
theorem Rn:aN 20394401:=dI 3 [(53,1),(37,1),(13,1)] (fun qe h=>by
 simp only[aM,cC,or_false] at h
 rcases h with rfl|rfl|rfl
 ·exact Uu
 ·exact Pk
 ·exact L6) (by decide+kernel)
theorem Pc:aN 162259276829213363391578010288127:=dI 3 [(28059810762433,1),(20394401,1)] (fun qe h=>by
 simp only[aM,cC,or_false] at h
 rcases h with rfl|rfl
 ·exact Vy
 ·exact Rn) (by decide+kernel)
theorem Sd:aN 699053:=cE 839 (by decide) (by decide+kernel)
theorem N7:aN 77158673929:=dI 3 [(699053,1)] (fun qe h=>by
 simp only[aM,cC,or_false] at h
 subst h;exact Sd) (by decide+kernel)
theorem Yp:aN 649657:=cE 809 (by decide) (by decide+kernel)
theorem Q5:aN 92737:=cE 307 (by decide) (by decide+kernel)
theorem LV:aN 170141183460469231731687303715884105727:=dI 3 [(77158673929,1),(649657,1),(92737,1)] (fun qe h=>by
 simp only[aM,cC,or_false] at h
 rcases h with rfl|rfl|rfl
 ·exact N7
 ·exact Yp
 ·exact Q5) (by decide+kernel)
theorem X0:aN 7963:=cE 92 (by decide) (by decide+kernel)
theorem Wq:aN 3011:=cE 57 (by decide) (by decide+kernel)
theorem OP:aN 575438233:=dI 2 [(7963,1),(3011,1)] (fun qe h=>by
 simp only[aM,cC,or_false] at h
 rcases h with rfl|rfl
 ·exact X0
 ·exact Wq) (by decide+kernel)
theorem Mz:aN 52316542391429:=dI 2 [(575438233,1)] (fun qe h=>by
 simp only[aM,cC,or_false] at h
 subst h;exact OP) (by decide+kernel)
theorem NH:aN 104633084782859:=dI 2 [(52316542391429,1)] (fun qe h=>by
 simp only[aM,cC,or_false] at h
 subst h;exact Mz) (by decide+kernel)
theorem Xq:aN 179:=cE 16 (by decide) (by decide+kernel)
theorem L7:aN 31:=cE 8 (by decide) (by decide+kernel)
theorem S1:aN 7935071:=dI 2 [(179,1),(31,1)] (fun qe h=>by
 simp only[aM,cC,or_false] at h
 rcases h with rfl|rfl
 ·exact Xq
 ·exact L7) (by decide+kernel)
theorem XE:aN 15870143:=dI 2 [(7935071,1)] (fun qe h=>by
 simp only[aM,cC,or_false] at h
 subst h;exact S1) (by decide+kernel)
theorem To:aN 401321030361983486780957614729:=dI 2 [(104633084782859,1),(15870143,1)] (fun qe h=>by
 simp only[aM,cC,or_false] at h
 rcases h with rfl|rfl
 ·exact NH
 ·exact XE) (by decide+kernel)
theorem Mq:aN 1000000000000000000000000000000000000003:=dI 2 [(401321030361983486780957614729,1)] (fun qe h=>by
 simp only[aM,cC,or_false] at h
 subst h;exact To) (by decide+kernel)
theorem RZ:aN 25733:=cE 163 (by decide) (by decide+kernel)
theorem UM:aN 1151:=cE 36 (by decide) (by decide+kernel)
theorem Yk:aN 4916701379:=dI 2 [(25733,1),(1151,1)] (fun qe h=>by
 simp only[aM,cC,or_false] at h
 rcases h with rfl|rfl
 ·exact RZ
 ·exact UM) (by decide+kernel)
theorem VB:aN 83:=cE 12 (by decide) (by decide+kernel)
theorem Vm:aN 23:=cE 7 (by decide) (by decide+kernel)
theorem Td:aN 1676254721:=dI 5 [(83,1),(23,1),(7,3)] (fun qe h=>by
 simp only[aM,cC,or_false] at h
 rcases h with rfl|rfl|rfl
 ·exact VB
 ·exact Vm
 ·exact zJ) (by decide+kernel)
theorem PY:aN 149927568276670622397029177:=dI 2 [(4916701379,1),(1676254721,1)] (fun qe h=>by
 simp only[aM,cC,or_false] at h
 rcases h with rfl|rfl
 ·exact Yk
 ·exact Td) (by decide+kernel)
theorem Nk:aN 9999999999999999999999999999999999999983:=dI 2 [(149927568276670622397029177,1)] (fun qe h=>by
 simp only[aM,cC,or_false] at h
 subst h;exact PY) (by decide+kernel)
end PC
namespace L2
open PC
def gv(p:Int):Prop:=2<=p/\∀d:Int,0<d->d∣p->d=1\/d=p
theorem fO{n:Nat}(h:aN n):gv (n:Int):=by
 refine⟨by have:=h.1;omega,fun d d0 hd=>?_⟩
 obtain⟨k,rfl⟩:=o5 (xC d0)
 rcases h.2 k (Int.natCast_dvd_natCast.mp hd) with e|e
 ·left;rw[e];rfl
 ·right;rw[e]
theorem YM{p:Int}(h2:2<=p)(h:vV p):gv p:=by
 obtain⟨n,rfl⟩:=o5 (show 0<=p by omega)
 refine fO (K6 (by omega) fun e e1 e2 e3=>?_)
 refine h (e:Int) (by omega) (by rw[<-Int.natCast_mul];exact Int.ofNat_le.mpr e2) ?_
 have:=congrArg (Nat.cast:Nat->Int) e3
 simpa using this
theorem O9:∀p∈uY,gv p:=by
 intro p hp
 simp only[uY,aM,cC,or_false] at hp
 rcases hp with rfl|rfl|rfl|rfl|rfl|rfl|rfl|rfl|rfl|rfl|rfl|rfl|rfl|rfl|rfl|rfl|rfl|rfl|rfl|rfl|rfl|rfl
 ·exact fO zx
 ·exact fO SY
 ·exact fO YB
 ·exact fO zJ
 ·exact fO zx
 ·exact fO MX
 ·exact fO U1
 ·exact fO Vq
 ·exact fO YJ
 ·exact fO Rr
 ·exact fO Ol
 ·exact fO SQ
 ·exact fO Nu
 ·exact fO XU
 ·exact fO Wi
 ·exact fO Ox
 ·exact fO NW
 ·exact fO Np
 ·exact fO Pc
 ·exact fO LV
 ·exact fO Mq
 ·exact fO Nk
def zV:Sp:=fun vs H Q _=>∃p b:Int,vs=[.int p, .int b]/\gv p/\p<10^40/\b%p≠0/\∀u:Int,0<=u->u<p->(∃k,u*b=1+p*k)->Q (.int u) H
end L2
set_option maxRecDepth 100000
set_option maxHeartbeats 4000000
namespace L2
open PySem PySem.Spec PyProof.Rows
theorem Mw{p a b:Int}(hp:gv p)(h:p∣a*b)(ha:¬p∣a):p∣b:=by
 have p2:=hp.1
 have g1:((Int.gcd a p:Nat):Int)∣p:=Int.gcd_dvd_right ..
 have g2:((Int.gcd a p:Nat):Int)∣a:=Int.gcd_dvd_left ..
 have g0:0<((Int.gcd a p:Nat):Int):=by
  have:Int.gcd a p≠0:=fun z=>by have:=(GJ.mp z).2;omega
  omega
 rcases hp.2 _ g0 g1 with e|e
 ·have c:Nat.Coprime p.natAbs a.natAbs:=by
   show Nat.gcd p.natAbs a.natAbs=1
   have:Int.gcd a p=1:=by omega
   rw[Nat.gcd_comm];exact this
  have h':p.natAbs∣b.natAbs*a.natAbs:=by rw[sW,<-Int.natAbs_mul];exact Fe.mpr h
  exact Fe.mp (c.dvd_of_dvd_mul_right h')
 ·rw[e] at g2;exact absurd g2 ha
theorem Ti{p a b:Int}(ha:0<=a)(ha':a<p)(hb:0<=b)(hb':b<p)(h:p∣a-b):a=b:=by
 obtain⟨k,e⟩:=h
 rcases xh k 0 with z|z|z
 ·have:p*k<=p*(-1):=o7 (by omega) (by omega)
  omega
 ·subst z;omega
 ·have:p*1<=p*k:=o7 (by omega) (by omega)
  omega
end L2
set_option maxRecDepth 100000
set_option maxHeartbeats 4000000
namespace L2
open PySem PySem.Spec PyProof.Rows
section
variable{X:Cx}{pins:List (Addr×Obj)}{σ:List (Option V)}{H:Hp}{s:Shared}{h':Heap}
theorem Inv.OZ{t':Nat}{e it T:Addr}{o:HO}(I:Inv X pins σ H s)(k:∀b u,b≠e->b≠it->s.heap.get? b=some u->h'.get? b=some u)(fe:jd X pins H e)(fi:jd X pins H it)(hT:s.heap.objs.size<=T)(yR:T≠e)(DG:T≠it)
  (le:∃u,s.heap.get? e=some u) (li:∃u,s.heap.get? it=some u) (new:bR X.prog X.w (upd H T o) h' T o):Inv X pins σ (upd H T o) {s with heap:=h',toks:=t'}:=by
 have hn:=I.hok.fresh hT
 obtain⟨e0,e1,e2,e3,e4,e5⟩:=fe
 obtain⟨i0,i1,i2,i3,i4,i5⟩:=fi
 have ne:∀b u,H b=some u->b≠e:=fun b u q z=>by rw[z,e0] at q;cases q
 have ni:∀b u,H b=some u->b≠it:=fun b u q z=>by rw[z,i0] at q;cases q
 have nT:∀b u,H b=some u->b≠T:=fun b u q z=>by rw[z,hn] at q;cases q
 refine I.step (g':=s.gens) (d':=s.drawn) (ch:=[e,it]) (fun b hb=>?_) (fun b o _ _ hc q _=>k b o (fun z=>hc (by simp[z])) (fun z=>hc (by simp[z])) q) (fun b o _ _ hc q _=>⟨o.slots,k b o (fun z=>hc (by simp[z])) (fun z=>hc (by simp[z])) q⟩)
  (fun b o hc q n=>?_) (fun b o hc q=>⟨o,k b o (fun z=>hc (by simp[z])) (fun z=>hc (by simp[z])) q⟩) (fun b xs q=>by rw[au (nT b _ q)];exact q) (fun b o u q=>by rw[au (nT b _ q)];exact q) (fun b ps q=>⟨#[],by rw[au (nT b _ q),q];simp⟩) (fun m hm=>?_) (fun b u q=>?_) I.bare
 ·rcases(show b=e\/b=it by simpa using hb) with z|z
  ·subst z;exact⟨e3,e1,e4,e5⟩
  ·subst z;exact⟨i3,i1,i4,i5⟩
 ·rw[au (fun z=>absurd (eK (bC q) (by rw[z];exact hT)) (jK _))];exact n
 ·obtain⟨o,es,ep,ho,r⟩:=hm
  exact⟨o,es,ep,k _ o (bx e1) (bx i1) ho,r⟩
 ·by_cases hb:b=T
  ·subst hb;rw[aX] at q;cases q;exact new
  ·rw[au hb] at q
   refine(I.hok b u q).stay (fun c v hc z=>?_) (fun c z=>by rw[au (nT c _ z)];exact z) fun c xs z=>by rw[au (nT c _ z)];exact z
   rcases hc with y|y
   ·subst y;exact k _ v (ne _ u q) (ni _ u q) z
   ·exact k c v (ne c _ y) (ni c _ y) z
theorem Inv.Yg{t':Nat}{e it:Addr}(I:Inv X pins σ H s)(k:∀b u,b≠e->b≠it->s.heap.get? b=some u->h'.get? b=some u)(fe:jd X pins H e)(fi:jd X pins H it):Inv X pins σ H {s with heap:=h',toks:=t'}:=by
 obtain⟨e0,e1,e2,e3,e4,e5⟩:=fe
 obtain⟨i0,i1,i2,i3,i4,i5⟩:=fi
 have ne:∀b u,H b=some u->b≠e:=fun b u q z=>by rw[z,e0] at q;cases q
 have ni:∀b u,H b=some u->b≠it:=fun b u q z=>by rw[z,i0] at q;cases q
 refine I.step (g':=s.gens) (d':=s.drawn) (ch:=[e,it]) (fun b hb=>?_) (fun b o _ _ hc q _=>k b o (fun z=>hc (by simp[z])) (fun z=>hc (by simp[z])) q) (fun b o _ _ hc q _=>⟨o.slots,k b o (fun z=>hc (by simp[z])) (fun z=>hc (by simp[z])) q⟩)
  (fun _ _ _ _ n=>n) (fun b o hc q=>⟨o,k b o (fun z=>hc (by simp[z])) (fun z=>hc (by simp[z])) q⟩) (fun _ _ q=>q) (fun _ _ _ q=>q) (fun b ps q=>⟨#[],by rw[q];simp⟩) (fun m hm=>?_) (fun b u q=>?_) I.bare
 ·rcases(show b=e\/b=it by simpa using hb) with z|z
  ·subst z;exact⟨e3,e1,e4,e5⟩
  ·subst z;exact⟨i3,i1,i4,i5⟩
 ·obtain⟨o,es,ep,ho,r⟩:=hm
  exact⟨o,es,ep,k _ o (bx e1) (bx i1) ho,r⟩
 ·refine(I.hok b u q).stay (fun c v hc z=>?_) (fun c z=>z) fun c xs z=>z
  rcases hc with y|y
  ·subst y;exact k _ v (ne _ u q) (ni _ u q) z
  ·exact k c v (ne c _ y) (ni c _ y) z
end
def xS(K:PySem.W.Frag)(a:Addr):It:=
 ⟨fun i H=>∃xs x,aV K H a xs/\xs[i]?=some x,fun i H x H'=>∃p y,x= .ref p/\H p=none/\(∀xs,aV K H a xs->xs[i]?=some y)/\H'=upd H p (.tup [.int i,y]),fun i H=>∃xs,aV K H a xs/\xs.length=i⟩
theorem P5{P:Program}{w:World}{K:PySem.W.Frag}{elts:List Expr}{k:Nat}{pos:Pos}(a e it:Addr)(hei:e≠it):
  Turn P w K (.Tuple elts k pos) (xS K a) [e,it] e (fun i h=>(∃old,IsEnum h e it i old)/\h.IsListIter it a i) where
 mem:=by simp
 obj:=fun i h st b hb=>by
  obtain⟨⟨old,s1⟩,⟨o,e1,c,d⟩⟩:=st
  rcases(show b=e\/b=it by simpa using hb) with z|z
  ·subst z
   exact⟨_,s1,fun v z=>by
    have z':Data.fields _=Data.cell v:=z
    cases z'⟩
  ·subst z
   exact⟨o,e1,fun v z=>by rw[d] at z;cases z⟩
 keep:=fun i h h' st k=>⟨let ⟨old,s1⟩:=st.1;⟨old,k e (by simp) _ s1⟩,st.2.at fun o q=>k it (by simp) o q⟩
 item:=by
  intro X hP hw hK hc i pins s σ H E I hf st hg
  subst hP hw hK
  obtain⟨xs,x,hq,hx⟩:=hg
  obtain⟨its,rv,p,hz⟩:=I.list hq
  obtain⟨u,hu,ru⟩:=rv.get hx
  have fe:=hf e (by simp)
  have fi:=hf it (by simp)
  obtain⟨⟨old,s1⟩,s2⟩:=st
  obtain⟨ol,l1,l2,l3⟩:=id p.isList
  obtain⟨oi,i1,i2,i3⟩:=id s2
  have DX:a≠e:=fun z=>by
   subst z
   rw[s1] at l1;cases l1
   exact absurd l2 (by simp)
  have hai:a≠it:=fun z=>by
   subst z
   rw[i1] at l1;cases l1
   rw[i2] at l2
   exact absurd l2 (by simp)
  have W:=WalksT.enumerate (prog:=X.prog) (w:=X.w) (I.ok.hd hc) e it a hei DX hai its.toArray
  have hi:i<its.toArray.size:=by
   have:=(aP.mp hu).1
   simpa using this
  refine W.item i s _ _ hi ⟨⟨old,s1⟩,s2,p.isList⟩ fun T vals h' tk hv hT LC ye kp=>⟨.ref T,rfl,?_⟩
  refine W.go elts k pos i T _ _ _ ye fun h'' st' ES=>?_
  obtain⟨t,x',hx',MY⟩:=hv
  have Tc:x'=u:=by
   have:its.toArray[i]?=some u:=by simpa using hu
   rw[hx'] at this;exact fL this
  subst Tc MY
  have Qm:=W.apart i T h' ye
  obtain⟨_,_,_,yR,DG⟩:=ye
  obtain⟨oT,t1,t2,nT,t3⟩:=LC
  have t1':=ES T oT Qm t1
  refine⟨.ref T,upd H T (.tup [.int i,x]),I.OZ (fun b v h1 h2 q=>ES b v (by simp[h1,h2]) (kp b v (by simp[h1,h2]) q)) fe fi hT yR DG ⟨_,s1⟩ ⟨_,i1⟩ ?_,rfl,⟨T,x,rfl,I.hok.fresh hT,fun ys hy=>by rw[I.Jv hy hq];exact hx,rfl⟩,⟨st'.1,st'.2.1⟩,fun b hb=>?_⟩
  ·exact⟨by show 2<=sizeLine;decide,[.int i t,x'], .cons ⟨t,rfl⟩ (.cons ru .nil),oT,t1',t2,nT,t3⟩
  ·rw[au,(hf b hb).1]
   rcases(show b=e\/b=it by simpa using hb) with z|z
   ·rw[z];exact bx yR
   ·rw[z];exact bx DG
 done:=by
  intro X hP hw hK hc i pins s σ H E I hf st hg
  subst hP hw hK
  obtain⟨xs,hq,hx⟩:=hg
  obtain⟨its,rv,p,hz⟩:=I.list hq
  have fe:=hf e (by simp)
  have fi:=hf it (by simp)
  obtain⟨⟨old,s1⟩,s2⟩:=st
  obtain⟨ol,l1,l2,l3⟩:=id p.isList
  obtain⟨oi,i1,i2,i3⟩:=id s2
  have hl:=rv.length
  have DX:a≠e:=fun z=>by
   subst z
   rw[s1] at l1;cases l1
   exact absurd l2 (by simp)
  have hai:a≠it:=fun z=>by
   subst z
   rw[i1] at l1;cases l1
   rw[i2] at l2
   exact absurd l2 (by simp)
  have W:=WalksT.enumerate (prog:=X.prog) (w:=X.w) (I.ok.hd hc) e it a hei DX hai its.toArray
  have hn:its.toArray.size=i:=by rw[eg];omega
  refine W.done s _ _ (by rw[hn];exact⟨⟨old,s1⟩,s2,p.isList⟩) fun h' tk kp=>⟨rfl,?_⟩
  exact I.Yg (fun b v h1 h2 q=>kp b v (by simp[h1,h2]) q) fe fi
 self:=fun _ _ _ _ _ st h=>let ⟨old,s1⟩:=st.1;wpAny_pyIter_enum s1 h
def Hx(K:PySem.W.Frag)(tl:TE):TI:=fun σ H R=>tl σ H fun x H1=>∃a,x= .ref a/\(∃xs,aV K H1 a xs)/\R (xS K a) H1
theorem Bf{X:Cx}{K:PySem.W.Frag}{elts:List Expr}{k:Nat}{tpos:Pos}{l:Expr}{tl:TE}{p pos:Pos}(hK:X.K=K)(hg:Gl X "enumerate")(hm:X.mg "enumerate"=none)(hl:PE X l tl)(hs:starEach [l] X.env=[(false,eval l X.env)]:=by rfl):
    PI X (.Tuple elts k tpos) (.Call (.Name "enumerate" p) [l] [] pos) (Hx K tl):=by
  subst hK
  intro pins s σ H R I h
  have ha:PA X [l] (bq tl bT):=aa hl af (by rw[hs];rfl)
  refine Call_ (qf I hg hm boot_enumerate (uH (aW (ha pos pins s σ H (fun vs H1=>match vs with|[x]=>∃a,x= .ref a/\(∃xs,aV X.K H1 a xs)/\R (xS X.K a) H1|_=>False) I h) fun us s1 ⟨vs,H1,I1,r1,q1⟩=>?_) hs rfl))
  cases r1 with
  |nil=>exact q1.elim
  | cons r rr =>
    cases rr with
    |cons _ _=>exact q1.elim
    |nil=>
    obtain⟨a,e2,⟨xs,hq⟩,q⟩:=q1
    subst e2
    cases r
    obtain⟨its,rv,p,hz⟩:=I1.list hq
    obtain⟨m,hn,_⟩:=I1.loc
    refine enum_rows (h₀:={objs:= #[]}) (L:=X.env.locals) (m:=m) ⟨hn,fun b o z=>?_,eY _⟩ p.isList fun h' e1 e2 e3 e4 kp ne n1 n2 _ _=>?_
    · cases z
    refine wpAny_pyIter_enum e1 ?_
    have I2:Inv X pins σ H1 {s1 with heap:=h'}:=I1.kept (t':=s1.toks) kp
    refine⟨s1.heap.objs.size+1,[s1.heap.objs.size+1,s1.heap.objs.size],_,_,H1,rfl,I2,P5 a _ _ ne,⟨⟨_,e1⟩,e2⟩,fun b hb=>?_,q⟩
    rcases(show b=s1.heap.objs.size+1\/b=s1.heap.objs.size by simpa using hb) with z|z
    · subst z;exact I1.pQ (mS _) (I1.hok.fresh (mS _))
    · subst z;exact I1.pQ (aJ _) (I1.hok.fresh (aJ _))
end L2
set_option maxRecDepth 100000
set_option maxHeartbeats 4000000
namespace L2
open PySem PySem.Spec PyProof.Rows
section
variable{G:Gx}{ρ dN:Rh}{te:TE}{s:TS}{gt:TG}{E:DE}{K:PySem.W.Frag}{Θ:Bool->List PyData->Prop}{tc:TT}{mp:List (Option Nat)}
theorem Sv.BR(h:Ev G ρ te fun f x=>∃ds,x= .list ds/\∀v,qv (G.hd f (.list ds) v) ρ ds.length (fun i d=>∃e,ds[i]?=some e/\d= .tuple [.int i,e]) f gt s E):Sv G ρ (pP (Hx K te) gt s) E:=fun nb σ H D W KK=>
 h nb σ H _ W fun f v H1 x ⟨ds,ex,q⟩ s1 hv=>by
  subst ex
  obtain⟨I,h0,ht,he⟩:=q v
  have W1:=(W.step s1).hd hv
  obtain⟨a,xs,rfl,n,hx,hd⟩:=hv.fB
  have key:∀{nb ρ' σ H},Wd (G.hd f (.list ds) (.ref a)) nb ρ' σ H->∃xs,H a=some (.lst xs)/\ah (G.S nb f) H ds xs:=fun W=>by
   obtain⟨a',xs',e',_,h',d'⟩:=W.iJ.2.fB
   cases e'
   exact⟨xs',h',d'⟩
  refine⟨a,rfl,⟨xs, .of hx⟩,?_⟩
  refine⟨fun i m σ H=>m=ds.length-i/\i<=ds.length/\∃nb ρ',I i ρ'/\Wd (G.hd f (.list ds) (.ref a)) nb ρ' σ H,⟨ds.length,by simp,eY _,nb,ρ,h0,W1⟩,?_⟩
  rintro i m σ H ⟨rfl,hi,nb,ρ',hI,W⟩
  obtain⟨ys,hy,hD⟩:=key W
  have hl:=hD.length
  by_cases hlt:i<ds.length
  ·refine .inr ⟨⟨ys,ys[i]'(by omega), .of hy,aB _⟩,fun σ H=>∃nb ρ',I (i+1) ρ'/\Wd (G.hd f (.list ds) (.ref a)) nb ρ' σ H,fun σ' H' q=>⟨ds.length-(i+1),by omega,rfl,hlt,q⟩,fun x H' y=>?_⟩
   obtain⟨p,y,e,hn,hz,e2⟩:=y
   subst e e2
   have hx:=hz ys (.of hy)
   obtain⟨x',hx',dx⟩:=hD.get (aB hlt)
   rw[hx] at hx';cases hx'
   have st:Step (G.hd f (.list ds) (.ref a)).B H (upd H p (.tup [.int i,y])):= .same W.ay (dR hn)
   refine ht i _ ρ' ⟨_,aB hlt,rfl⟩ hI nb σ _ _ _ (W.step st) (.tup (W.fresh hn) aX (.cons (.int _) (.cons (dx.keep st.dX) .nil))) fun σ2 gV q W2=>q nb σ2 _ _ W2 ?_
   exact⟨fun nb ρ σ H q W=>⟨nb,ρ,q,W⟩,fun nb ρ σ H q W=>KK.nx nb ρ σ H q W.iJ.1,fun nb ρ σ H q W=>⟨nb,ρ,q,W⟩,fun nb ρ σ f v H d q W hv=>KK.rt nb ρ σ f v H d q W.iJ.1 hv,fun nb ρ σ v H q W=>KK.rw nb ρ σ v H q W.iJ.1⟩
  ·have e:i=ds.length:=by omega
   subst e
   exact .inl ⟨⟨ys, .of hy,by omega⟩,KK.nx nb ρ' σ H (he ρ' hI) W.iJ.1⟩
end
end L2
set_option maxRecDepth 100000
set_option maxHeartbeats 4000000
namespace L2
open PySem PySem.Spec PyProof.Rows
section
variable{G:Gx}{ρ:Rh}{Φ:Pd}{te:TE}{t:TA}{i n:Nat}{f:Bool}{ds:List PyData}{Θ:List PyData->Prop}
theorem Ev.tupS(h:Av G ρ t fun es=>es.length<=10000/\Φ (jf es||gY (es.map (·.2))) (.tuple (es.map (·.2)))):Ev G ρ (m9 t) Φ:=fun nb σ H Q W z=>
 h nb σ H _ W fun es vs H1 ⟨hl,p⟩ s1 q1=>⟨eE (by rw[q1.len];exact hl) (by decide),fun a ha=>z _ _ _ _ p (s1.trans (.same (W.step s1).ay (dR ha))) (by
  cases hs:gY (es.map (·.2)) with
  |true=>rw[tB];exact .tup ((W.step s1).fresh ha) aX ((q1.all (f:=false) fun z=>by cases z).m7 hs)
  |false=>rw[oq];exact .tup ((W.step s1).fresh ha) aX ((q1.all fun z=>z).keep (bh.of (dR ha))))⟩
theorem Ev.VF(h:Ev G ρ te fun _ x=>∃n:Int,x= .int n/\2<=n/\n<=10002/\∀r:Int,gv r->r<10^40->Φ true (.int r)):Ev G ρ (ju By [] E0 (bq te bT)) Φ:=fun nb σ H Q W z=>
 h nb σ H _ W fun f v H1 d ⟨n,e,h1,h2,p⟩ s1 hv=>by
  subst e
  exact⟨n,by rw[hv.bX];rfl,h1,h2,fun r H' sm r1 r2 r3=>z true _ H' _ (p r (YM r1 r3) (by omega)) (s1.trans (.same (W.step s1).ay sm)) (.int r)⟩
theorem Ev.str{x:Str}(h:Φ true (.str x)):Ev G ρ (tC (.str x)) Φ:=fun nb σ H Q W z=>z true _ H _ h (.refl W.ay) (by unfold ai;rfl)
end
theorem Eu.fin{p b L lt t:Int}(h:Eu p b L lt 0 t)(hp:gv p)(hb:b%p≠0):∃k,lt%p*b=1+p*k:=by
 obtain⟨g1,g2⟩:=h.dv L (Int.dvd_refl L) (Int.dvd_zero L)
 have m1:=eS b (show p≠0 by have:=hp.1;omega)
 have m2:=eF b (show 0<p by have:=hp.1;omega)
 have hL:L=1:=by
  rcases hp.2 L h.l0 g1 with e|e
  ·exact e
  ·exfalso
   rw[e] at g2
   have:=Int.le_of_dvd (by omega) g2
   omega
 obtain⟨k,hk⟩:=h.lc
 have e:=nN lt p
 refine⟨-k-lt/p*b,?_⟩
 have e2:lt%p=lt-p*(lt/p):=by omega
 rw[e2,Int.sub_mul,pT,Int.mul_neg,rX]
 omega
noncomputable def sol(p b a:Int):Int:=open Classical in if h:∃x,0<=x/\x<p/\∃k,b*x-a=p*k then Classical.choose h else 0
theorem Jm{p b a x:Int}(hp:gv p)(hb:b%p≠0)(h0:0<=x)(h1:x<p)(hx:∃k,b*x-a=p*k):x=sol p b a:=by
 have ex:∃x,0<=x/\x<p/\∃k,b*x-a=p*k:=⟨x,h0,h1,hx⟩
 unfold sol
 rw[dif_pos ex]
 obtain⟨g0,g1,k',hk'⟩:=tK ex
 generalize Classical.choose ex=y at*
 obtain⟨k,hk⟩:=hx
 refine Ti h0 h1 g0 g1 (Mw hp (a:=b) ⟨k-k',?_⟩ fun z=>hb (qD z))
 rw[pT,pT];omega
theorem vm{p b a:Int}(hp:0<p):0<=sol p b a/\sol p b a<p:=by
 unfold sol
 split
 ·rename_i h
  obtain⟨g0,g1,_⟩:=tK h
  exact⟨g0,g1⟩
 ·omega
theorem Pe{X:Cx}{K:PySem.W.Frag}{tg l:Expr}{tl:TE}(hK:X.K=K)(hl:PE X l tl):PI X tg l (pL K tl):=by subst hK;exact eB hl
theorem MR{env:Env}{n:Str}{l:List (Str×NameKind)}:(List.lookup n l=some .cell\/List.lookup n l=some .free)->
    (List.lookup n (l.map fun x => match x with | (n, k) => if (k == NameKind.free && env.scope.kind == ScopeKind.function && env.kindOf n == some NameKind.cell) = true then (n, NameKind.cell) else (n, k)) = some .cell \/
     List.lookup n (l.map fun x=>match x with|(n,k)=>if(k==NameKind.free && env.scope.kind==ScopeKind.function && env.kindOf n==some NameKind.cell)=true then(n,NameKind.cell) else(n,k))=some .free):=by
  induction l with
  |nil=>intro h;simpa using h
  | cons a r ih =>
    obtain⟨m,k⟩:=a
    intro h
    rw[aY]
    by_cases c:n=m
    · subst c
      rw[xV] at h
      dsimp only
      split
      · rw[xV];exact .inl rfl
      · rw[xV];exact h
    · have hb:(n==m)=false:=by simpa using c
      have e1:List.lookup n ((m,k)::r)=List.lookup n r:=by rw[gy,hb]
      rw[e1] at h
      dsimp only
      split
      · rw[gy,hb];exact ih h
      · rw[gy,hb];exact ih h
theorem cP.rel{sx:Scope}{env:Env}{NX:List Str}{scope:Scope}{N:List Str}{mp:List (Option Nat)}(h:cP sx NX scope N mp):cP (relabel sx env) NX scope N mp:=
 ⟨h.kind,h.cell,h.names,fun y hy e=>MR (h.free y hy e),h.len,h.look⟩
theorem P8{X:Cx}{scope:Scope}{C:Addr}{N:List Str}{s₀:Shared}{H₀:Hp}{fp:List Addr}{elt iter tg:Expr}{ifs:List Expr}{qX:Scope}{pos:Pos}{N2:List Str}{mp:List (Option Nat)}{wi:TI}{g:TG}{tc:TT}{te:TE}
  (ok:cP scope N qX N2 mp) (hi:PI (fK X scope C N s₀ H₀ fp) tg iter wi)
  (hb:∀C' s₀' H₀' fp',PG (fK (fK X scope C N s₀ H₀ fp) qX C' N2 s₀' H₀' fp') tg g/\qk (fK (fK X scope C N s₀ H₀ fp) qX C' N2 s₀' H₀' fp') ifs tc/\PE (fK (fK X scope C N s₀ H₀ fp) qX C' N2 s₀' H₀' fp') elt te) (hc:X.calm=true:=by rfl)
  (hs:∀x,foldedSetIterable iter (fK X scope C N s₀ H₀ fp).env x=pure x:=by intro _;rfl):PE (fK X scope C N s₀ H₀ fp) (.ListComp elt [⟨tg,iter,ifs,0⟩] qX pos) (lP wi g tc te mp):=
 iD (X:=fK X scope C N s₀ H₀ fp) (cP.rel ok) hi hb hc hs
end L2
set_option maxRecDepth 100000
set_option maxHeartbeats 4000000
namespace L2
open PySem PySem.Spec PyProof.Rows
section
variable{G:Gx}{ρ:Rh}{Φ:Pd}{ta tb te:TE}{E:DE}{K:PySem.W.Frag}
theorem Ev.Z1{tl th:TO}(h:Ev G ρ te fun f x=>∃ds,x= .tuple ds/\Ov G ρ tl fun lo=>Ov G ρ th fun hi=>¬(HT.fu ds.length 0 lo=0/\HT.fu ds.length ds.length hi=ds.length)/\Φ f (.tuple (i8 ds lo hi))):Ev G ρ (rB (MB K) te tl th) Φ:=fun nb σ H Q W z=>
 h nb σ H _ W fun f v H1 d ⟨ds,e,q⟩ s1 hv=>q nb σ H1 _ (W.step s1) fun lo H2 q2 s2=>q2 nb σ H2 _ ((W.step s1).step s2) fun hi H3 ⟨hn,q3⟩ s3=>by
  subst e
  obtain⟨a,xs,rfl,n,hx,hd⟩:=((hv.keep s2.dX).keep s3.dX).ofT
  have W3:=((W.step s1).step s2).step s3
  refine⟨a,xs,rfl, .of hx,by rw[hd.length];exact hn,fun p hp=>?_⟩
  exact z f _ _ _ q3 (s1.trans (s2.trans (s3.trans (.same W3.ay (dR hp))))) (.tup (W3.fresh hp) aX (hd.cut.keep (bh.of (dR hp))))
theorem Ev.Zz(h:Ev G ρ ta fun f x=>∃ds,x= .tuple ds/\ds≠[]/\Ev G ρ tb fun g y=>∃es,y= .tuple es/\es≠[]/\ds.length+es.length<=10000/\Φ (f && g) (.tuple (ds++es))):Ev G ρ (c6 (US K) ta tb) Φ:=fun nb σ H Q W z=>
 h nb σ H _ W fun f v H1 d ⟨ds,e,hne,q⟩ s1 hv=>q nb σ H1 _ (W.step s1) fun g u H2 d2 ⟨es,e2,Ni,hl,p⟩ s2 hu=>by
  subst e e2
  obtain⟨a,xs,rfl,n,hx,hd⟩:=(hv.keep s2.dX).ofT
  obtain⟨c,ys,rfl,m,hy,hc⟩:=hu.ofT
  have W2:=(W.step s1).step s2
  have iF:=hd.length
  have hyl:=hc.length
  refine⟨a,c,xs,ys,rfl,rfl, .of hx, .of hy,fun z=>hne (nA.mp (by rw[<-iF,z];rfl)),eE (by rw[iF,hyl];exact hl) (by decide),fun z=>absurd (nA.mp (by rw[<-hyl,z];rfl)) Ni,fun _ q hq=>?_⟩
  refine z (f && g) _ _ _ p (s1.trans (s2.trans (.same W2.ay (dR hq)))) (.tup (W2.fresh hq) aX ?_)
  exact(ah.append (hd.av (bK (fun z=>(cD _ _▸z).1) fun _ z=>z)) (hc.av (bK (fun z=>(cD _ _▸z).2) fun _ z=>z))).keep (bh.of (dR hq))
end
end L2
set_option maxRecDepth 100000
set_option maxHeartbeats 4000000
namespace L2
open PySem PySem.Spec PyProof.Rows
def xE(es:List Fd):Bool:=es.all fun e=>e.1||j9 e.2
section
variable{G:Gx}{ρ:Rh}{Φ:Pd}{t:TA}{te:TE}
theorem kH.HC{nb:Addr->Prop}{H:Hp}:∀{es:List Fd} {vs:List V} {f:Bool},kH G nb H es vs->(f=true->xE es=true)->ah (G.S nb f) H (es.map (·.2)) vs
  |[],_,_,h,_=>by unfold kH at h;subst h;exact .nil
  | e :: es, _, f, h, hf => by
    obtain⟨v,ws,rfl,h1,h2⟩:=h
    have hh:f=true->(e.1||j9 e.2)=true/\xE es=true:=fun z=>by
      have:=hf z
      unfold xE at this
      rw[qa,cD] at this
      exact this
    refine .cons ?_ (h2.HC fun z=>(hh z).2)
    cases hs:j9 e.2 with
    |true=>exact h1.m7 hs
    |false=>exact h1.av (bK (fun z=>by have:=(hh z).1;rw[hs,oq] at this;exact this) fun _ z=>z)
theorem Ev.Tg(h:Av G ρ t fun es=>es.length<=10000/\Φ (xE es) (.tuple (es.map (·.2)))):Ev G ρ (m9 t) Φ:=fun nb σ H Q W z=>
 h nb σ H _ W fun es vs H1 ⟨hl,p⟩ s1 q1=>⟨eE (by rw[q1.len];exact hl) (by decide),fun a ha=>z _ _ _ _ p (s1.trans (.same (W.step s1).ay (dR ha)))
  (.tup ((W.step s1).fresh ha) aX ((q1.HC fun z=>z).keep (bh.of (dR ha))))⟩
end
def X8:R2:=fun x y H Q=>∃a b:Bool,x= .bl a/\y= .bl b/\Q (.bl (!(a==b))) H
theorem Ev.ZP{G:Gx}{ρ:Rh}{ta:TE}{b:Bool}{Φ:Pd}(h:Ev G ρ ta fun _ x=>∃a,x= .bool a/\Φ true (.bool (!(a==b)))):Ev G ρ (c6 X8 ta (tC (.bl b))) Φ:=fun nb σ H Q W z=>
 h nb σ H _ W fun f v H1 d ⟨a,e,q⟩ s1 hv=>by
  subst e
  unfold ai at hv
  subst hv
  exact⟨a,b,rfl,rfl,z true _ H1 _ q s1 (.bl _)⟩
abbrev aI(r:List Int):PyData:= .list (r.map .int)
end L2
set_option maxRecDepth 100000
set_option maxHeartbeats 4000000
set_option maxRecDepth 100000
namespace L2
open PySem PySem.Spec PyProof.Rows
section
variable{κ:Type}[DecidableEq κ]
def cB(kvs:List (κ×V))(k:κ):Option V:=(kvs.find? fun kv=>decide (kv.1=k)).map (·.2)
def putK(kvs:List (κ×V))(k:κ)(v:V):List (κ×V):=
 if(kvs.any fun kv=>decide (kv.1=k))=true then kvs.map (fun kv=>if kv.1=k then(kv.1,v) else kv) else kvs++[(k,v)]
theorem Yd{k:κ}:cB ([]:List (κ×V)) k=none:=rfl
theorem iZ{p:κ×V}{r:List (κ×V)}{k:κ}(e:p.1=k):cB (p::r) k=some p.2:=by simp[cB,kK,e]
theorem iI{p:κ×V}{r:List (κ×V)}{k:κ}(e:¬p.1=k):cB (p::r) k=cB r k:=by simp[cB,kK,e]
theorem nI(k:κ):∀kvs:List (κ×V),(kvs.any fun kv=>decide (kv.1=k))=(cB kvs k).isSome
  |[]=>rfl
  | p :: r => by
    rw[nO]
    by_cases e:p.1=k
    · simp only[iZ e,decide_eq_true e,Bool.true_or,Option.isSome_some]
    · rw[iI e,decide_eq_false e,sD];exact nI k r
theorem GQ(k j:κ)(y:V):∀kvs:List (κ×V),cB (kvs.map fun kv=>if kv.1=k then(kv.1,y) else kv) j=(cB kvs j).map fun x=>if j=k then y else x
  |[]=>rfl
  | p :: r => by
    have ih:=GQ k j y r
    rw[aY]
    by_cases h:p.1=k
    · rw[if_pos h]
      by_cases e:p.1=j
      · rw[iZ (p:=(p.1,y)) e,iZ e,sP,if_pos (e.symm.trans h)]
      · rw[iI (p:=(p.1,y)) e,iI e,ih]
    · rw[if_neg h]
      by_cases e:p.1=j
      · rw[iZ (p:=p) e,iZ e,sP,if_neg (fun z=>h (e.trans z))]
      · rw[iI (p:=p) e,iI e,ih]
theorem HR(k j:κ)(y:V):∀kvs:List (κ×V),cB kvs k=none->cB (kvs++[(k,y)]) j=if j=k then some y else cB kvs j
  | [], _ => by
    by_cases e:k=j
    · rw[if_pos e.symm];exact iZ (p:=(k,y)) e
    · rw[if_neg (fun z=>e z.symm)];exact iI (p:=(k,y)) e
  | p :: r, hn => by
    rw[nK]
    have hk:¬p.1=k:=fun z=>by rw[iZ z] at hn;cases hn
    rw[iI hk] at hn
    have ih:=HR k j y r hn
    by_cases e:p.1=j
    · rw[iZ e,iZ e,if_neg (fun z=>hk (e.trans z))]
    · rw[iI e,iI e,ih]
theorem Rt(kvs:List (κ×V))(k j:κ)(y:V):cB (putK kvs k y) j=if j=k then some y else cB kvs j:=by
 unfold putK
 by_cases a:(kvs.any fun kv=>decide (kv.1=k))=true
 ·rw[if_pos a,GQ]
  rw[nI] at a
  by_cases e:j=k
  ·obtain⟨x,hx⟩:=yj.mp a
   rw[if_pos e,e,hx,sP,if_pos rfl]
  ·rw[if_neg e]
   cases cB kvs j with
   |none=>rfl
   |some x=>rw[sP,if_neg e]
 ·rw[if_neg a]
  refine HR k j y kvs ?_
  rw[nI] at a
  cases q:cB kvs k with
  |none=>rfl
  |some x=>rw[q] at a;exact(a rfl).elim
theorem wo(kvs:List (κ×V))(k:κ)(v:V):(putK kvs k v).length<=kvs.length+1:=by
 unfold putK
 split
 ·rw[aj];omega
 ·rw[bz,j7,List.length_nil];omega
theorem Dl{kvs:List (κ×V)}{k:κ}(v:V)(h:cB kvs k=none):putK kvs k v=kvs++[(k,v)]:=by
 unfold putK
 rw[nI,h]
 exact if_neg (by decide)
theorem jX.CC{o:Option V}{u:Option Value}(r:jX o u):o.isSome=u.isSome:=by
  cases o with
  | none => cases u with
    |none=>rfl
    |some _=>exact(show False from r).elim
  | some _ => cases u with
    |none=>exact(show False from r).elim
    |some _=>rfl
theorem jX.getD{o:Option V}{u:Option Value}{d:V}{d':Value}(r:jX o u)(rd:RelV d d'):RelV (o.getD d) (u.getD d'):=by
  cases o with
  | none => cases u with
    |none=>exact rd
    |some _=>exact(show False from r).elim
  | some _ => cases u with
    |none=>exact(show False from r).elim
    |some _=>exact r
theorem KV.val{kvs:List (κ×V)}{vs:List (κ×Value)}(r:KV kvs vs)(k:κ):jX (cB kvs k) (valueAt vs k):=by
  unfold KV at r
  induction r with
  |nil=>exact True.intro
  | @cons p q ps qs h t ih =>
    obtain⟨h1,h2⟩:=h
    by_cases e:p.1=k
    · have e':q.1=k:=h1.symm.trans e
      have b:valueAt (q::qs) k=some q.2:=by simp[valueAt,kK,e']
      rw[iZ e,b];exact h2
    · have e':¬q.1=k:=fun z=>e (h1.trans z)
      have b:valueAt (q::qs) k=valueAt qs k:=by simp[valueAt,kK,e']
      rw[iI e,b];exact ih
theorem KV.any{kvs:List (κ×V)}{vs:List (κ×Value)}(r:KV kvs vs)(k:κ):(kvs.any fun kv=>decide (kv.1=k))=vs.any fun kv=>decide (kv.1=k):=by
 unfold KV at r
 induction r with
 |nil=>rfl
 |cons h t ih=>rw[nO,nO,ih,h.1]
theorem KV.repl{kvs:List (κ×V)}{vs:List (κ×Value)}(r:KV kvs vs)(k:κ){y:V}{u:Value}(ry:RelV y u):
    KV (kvs.map fun kv=>if kv.1=k then(kv.1,y) else kv) (vs.map fun kv=>if kv.1=k then(kv.1,u) else kv):=by
  unfold KV at r⊢
  induction r with
  |nil=>exact .nil
  | @cons p q ps qs h t ih =>
    rw[aY,aY]
    refine .cons ?_ ih
    obtain⟨h1,h2⟩:=h
    by_cases e:p.1=k
    · rw[if_pos e,if_pos (h1.symm.trans e)];exact⟨h1,ry⟩
    · rw[if_neg e,if_neg (fun z=>e (h1.trans z))];exact⟨h1,h2⟩
theorem KV.put{kvs:List (κ×V)}{vs:List (κ×Value)}(r:KV kvs vs)(k:κ){y:V}{u:Value}(ry:RelV y u):KV (putK kvs k y) (stored vs k u):=by
 unfold putK stored
 rw[r.any k]
 by_cases e:(vs.any fun kv=>decide (kv.1=k))=true
 ·rw[if_pos e,if_pos e];exact r.repl k ry
 ·rw[if_neg e,if_neg e];exact Paired.snoc r ⟨rfl,ry⟩
theorem KV.keys{kvs:List (κ×V)}{vs:List (κ×Value)}(r:KV kvs vs):kvs.map (·.1)=vs.map (·.1):=by
 unfold KV at r
 induction r with
 |nil=>rfl
 |cons h t ih=>rw[aY,aY,ih,h.1]
theorem KV.length{kvs:List (κ×V)}{vs:List (κ×Value)}(r:KV kvs vs):kvs.length=vs.length:=uC r
end
theorem oh{P:Program}{w:World}{k:Key}{u:Value}(r:RelV (kV k) u):(dP P w).is k u=true:=by
 cases k with
 |inl i=>obtain⟨t,e⟩:=(show∃t,u=Value.int i t from r);subst e;exact X4 P w i t
 |inr x=>obtain⟨t,e⟩:=(show∃t,u=Value.str x t from r);subst e;exact Wy P w x t
theorem Ew{P:Program}{w:World}:∀{ks:List Key} {us:List Value},Vals (ks.map kV) us->ItemsAre (dP P w) ks us
  |[],_,r=>by rw[iT] at r;cases r;exact .nil
  | k :: ks, _, r => by
    rw[aY] at r
    cases r with
    |cons h t=>exact .cons (oh h) (Ew t)
abbrev KT(H:Hp):List (List Key×V)->List (List Key×Addr×Value)->Prop:=Paired fun p q=>p.1=q.1/\H q.2.1=some (.tup (p.1.map kV))/\RelV p.2 q.2.2
theorem KT.val{H:Hp}{kvs:List (List Key×V)}{xs:List (List Key×Addr×Value)}(r:KT H kvs xs)(k:List Key):jX (cB kvs k) ((atKey xs k).map (·.2)):=by
  induction r with
  |nil=>exact True.intro
  | @cons p q ps qs h t ih =>
    obtain⟨h1,_,h2⟩:=h
    by_cases e:p.1=k
    · have e':q.1=k:=h1.symm.trans e
      have b:atKey (q::qs) k=some q.2:=by simp[atKey,kK,e']
      rw[iZ e,b];exact h2
    · have e':¬q.1=k:=fun z=>e (h1.trans z)
      have b:atKey (q::qs) k=atKey qs k:=by simp[atKey,kK,e']
      rw[iI e,b];exact ih
theorem KT.repl{H:Hp}{kvs:List (List Key×V)}{xs:List (List Key×Addr×Value)}(r:KT H kvs xs)(k:List Key){y:V}{u:Value}(ry:RelV y u):
    KT H (kvs.map fun kv=>if kv.1=k then(kv.1,y) else kv) (xs.map (putAt k u)):=by
  induction r with
  |nil=>exact .nil
  | @cons p q ps qs h t ih =>
    rw[aY,aY]
    refine .cons ?_ ih
    obtain⟨h1,h2,h3⟩:=h
    unfold putAt
    by_cases e:p.1=k
    · rw[if_pos e,if_pos (h1.symm.trans e)];exact⟨h1,h2,ry⟩
    · rw[if_neg e,if_neg (fun z=>e (h1.trans z))];exact⟨h1,h2,h3⟩
theorem KT.put{H:Hp}{kvs:List (List Key×V)}{xs:List (List Key×Addr×Value)}(r:KT H kvs xs)(k:List Key){b:Addr}{y:V}{u:Value}(hb:H b=some (.tup (k.map kV)))(ry:RelV y u):
  KT H (putK kvs k y) (storedH xs k b u):=by
 have e:(kvs.any fun kv=>decide (kv.1=k))=(atKey xs k).isSome:=by
  rw[nI,(r.val k).CC,Ds]
 unfold putK storedH
 rw[e]
 by_cases q:(atKey xs k).isSome=true
 ·rw[if_pos q,if_pos q];exact r.repl k ry
 ·rw[if_neg q,if_neg q];exact Paired.snoc r ⟨rfl,hb,ry⟩
theorem KT.keeps{H H':Hp}{kvs:List (List Key×V)}{xs:List (List Key×Addr×Value)}(r:KT H kvs xs)(ht:∀b ys,H b=some (.tup ys)->H' b=some (.tup ys)):KT H' kvs xs:=
 Paired.Ah r fun _ _ z=>⟨z.1,ht _ _ z.2.1,z.2.2⟩
section
variable{P:Program}{w:World}{H:Hp}{h:Heap}{a:Addr}
theorem EF{u:HO}(ok:dD P w H h)(e:Rd H a u):bR P w H h a u:=e.ok ok
theorem mZ{kvs:List (Key×V)}(ok:dD P w H h)(e:Rd H a (.dK kvs)):kvs.length<=sizeLine/\(a==sysModules)=false/\∃vs,KV kvs vs/\h.DictOf (dP P w) a vs:=
 show bR P w H h a (.dK kvs) from EF ok e
theorem Cw{kvs:List (Key×V)}(ok:dD P w H h)(e:H a=some (.dK kvs)):kvs.length<=sizeLine/\(a==sysModules)=false/\∃vs,KV kvs vs/\h.DictOf (dP P w) a vs:=mZ ok (.inl e)
theorem zc{ks:List Key}(ok:dD P w H h)(e:H a=some (.tup (ks.map kV))):(tupleKind (dP P w)).is h ks a:=by
 obtain⟨_,its,r,o,h1,h2,n,h3⟩:=(show bR P w H h a (.tup (ks.map kV)) from ok a _ e)
 exact⟨o,its.toArray,n,h1,h2,h3,by simpa using Ew r⟩
theorem JN{kvs:List (List Key×V)}(ok:dD P w H h)(e:Rd H a (.dT kvs)):kvs.length<=sizeLine/\(a==sysModules)=false/\
    ∃xs,KT H kvs xs/\h.DictOfH (tupleKind (dP P w)) a xs:=by
  obtain⟨z,y,xs,r,o,es,ep,h1,h2,h3,h4,h5⟩:=(show bR P w H h a (.dT kvs) from EF ok e)
  refine⟨z,y,xs,r,o,es,ep,h1,h2,h3,h4,fun x hx=>?_,h5⟩
  have all:∀{l:List (List Key×V)} {m:List (List Key×Addr×Value)},KT H l m->∀x∈m,(tupleKind (dP P w)).is h x.1 x.2.1:=by
    intro l m q
    induction q with
    |nil=>intro x hx;exact nomatch hx
    | @cons p q ps qs hq t ih =>
      intro x hx
      rcases aM.mp hx with e|hx
      · subst e
        exact zc ok (by rw[<-hq.1];exact hq.2.1)
      · exact ih x hx
  exact all r x hx
theorem RX{kvs:List (List Key×V)}(ok:dD P w H h)(e:H a=some (.dT kvs)):kvs.length<=sizeLine/\(a==sysModules)=false/\
  ∃xs,KT H kvs xs/\h.DictOfH (tupleKind (dP P w)) a xs:=JN ok (.inl e)
end
def rP(H:Hp)(a:Addr)(y:V)(r:Option V):Prop:=
 (∃kvs k,Rd H a (.dK kvs)/\y=kV k/\r=cB kvs k)\/∃kvs k b,Rd H a (.dT kvs)/\y= .ref b/\H b=some (.tup (k.map kV))/\r=cB kvs k
def rm(H:Hp)(a:Addr)(y v:V)(H':Hp):Prop:=
 (∃kvs k,H a=some (.dK kvs)/\y=kV k/\kvs.length<sizeLine/\H'=upd H a (.dK (putK kvs k v)))\/
 ∃kvs k b,H a=some (.dT kvs)/\y= .ref b/\H b=some (.tup (k.map kV))/\kvs.length<sizeLine/\H'=upd H a (.dT (putK kvs k v))
theorem rP.t{H:Hp}{a b:Addr}{kvs:List (List Key×V)}{k:List Key}(e:H a=some (.dT kvs))(eb:H b=some (.tup (k.map kV))):rP H a (.ref b) (cB kvs k):= .inr ⟨kvs,k,b, .inl e,rfl,eb,rfl⟩
theorem rm.t{H:Hp}{a b:Addr}{kvs:List (List Key×V)}{k:List Key}{v:V}(e:H a=some (.dT kvs))(eb:H b=some (.tup (k.map kV)))(hl:kvs.length<sizeLine):
  rm H a (.ref b) v (upd H a (.dT (putK kvs k v))):= .inr ⟨kvs,k,b,e,rfl,eb,hl,rfl⟩
section
variable{X:Cx}{pins:List (Addr×Obj)}{σ:St}{H:Hp}{s:Shared}{a:Addr}{y v:V}{u r:Value}{o:Option V}{A:Around}{E:Value->Shared->Prop}
theorem Inv.big(I:Inv X pins σ H s):sysModules<s.heap.objs.size:=by
 have h:mainGlobals<s.heap.objs.size:=(I.mod.glob.keeps I.bk).lt
 exact mV (by decide) h
theorem WM{Q:Value->Shared->Prop}(hu:A.units+1<cLine)(I:Inv X pins σ H s)(g:rP H a y o)(ry:RelV y u)(h:∀s',Inv X pins σ H s'->Q (.bool o.isSome) s'):
  wpAny (model X.prog X.w) A (compareOp .In u (.ref a)) Q E s:=by
 rcases g with ⟨kvs,k,e,ey,l⟩|⟨kvs,k,b,e,ey,eb,l⟩
 ·subst ey
  obtain⟨z,hd,vs,rel,dd⟩:=mZ I.hok e
  refine wpAny_in_of (oh ry) hd dd.mapOf ?_
  rw[<-(rel.val k).CC,<-l]
  exact h _ (I.tok _)
 ·subst ey
  cases (show u=Value.ref b from ry)
  obtain⟨z,hd,xs,rel,dd⟩:=JN I.hok e
  refine wpAny_in_heap (tupleKind_room_in1 hu) (zc I.hok eb) hd dd ?_
  have q:=(rel.val k).CC
  rw[Ds] at q
  rw[<-q,<-l]
  exact h _ (I.tok _)
theorem Bl{h':Heap}{t':Nat}{ob:HO}(I:Inv X pins σ H s)(mu:sq (H a))(hs:Heap.SameBut a s.heap h')(he:∃q,h'.get? a=some q)(new:bR X.prog X.w (upd H a ob) h' a ob):
  Inv X pins σ (upd H a ob) {s with heap:=h',toks:=t'}:=
 I.write (x:=a) (e:=a) mu (.inl rfl) (fun b q hb z=>(hs.2 b hb).trans z) he new
theorem yu{P:Program}{w:World}{H':Hp}{h':Heap}{kvs:List (Key×V)}{vs:List (Key×Value)}(z:kvs.length<=sizeLine)(hd:(a==sysModules)=false)(rel:KV kvs vs)(dd:h'.DictOf (dP P w) a vs):
  bR P w H' h' a (.dK kvs):=⟨z,hd,vs,rel,dd⟩
theorem Vt{H':Hp}{Q:Unit->Shared->Prop}(hu:A.units+1<cLine)(I:Inv X pins σ H s)(g:rm H a y v H')(ry:RelV y u)(rv:RelV v r)(h:∀s',Inv X pins σ H' s'->Q () s'):
  wpAny (model X.prog X.w) A (setItem (.ref a) u r) Q E s:=by
 rcases g with ⟨kvs,k,e,ey,l,eH⟩|⟨kvs,k,b,e,ey,eb,l,eH⟩
 ·subst ey eH
  obtain⟨z,hd,vs,rel,dd⟩:=Cw I.hok e
  have hz:vs.length<=sizeLine:=by rw[<-rel.length];exact z
  have hl:(putK kvs k v).length<=sizeLine:=by have:=wo kvs k v;omega
  refine wpAny_setItem_pairs (hsz:=hz) (oh ry) dd fun h' oW hs=>h _ ?_
  have he:∃q,h'.get? a=some q:=let ⟨q,_,_,hq,_⟩:=oW;⟨q,hq⟩
  exact Bl I (by rw[e];exact True.intro) hs he (yu hl hd (rel.put k rv) oW)
 ·subst ey eH
  cases (show u=Value.ref b from ry)
  obtain⟨z,hd,xs,rel,dd⟩:=RX I.hok e
  have hz:xs.length<=sizeLine:=by rw[<-uC rel];exact z
  have hl:(putK kvs k v).length<=sizeLine:=by have:=wo kvs k v;omega
  refine wpAny_setItem_heap (hsz:=hz) (tupleKind_room_in1 hu) (zc I.hok eb) dd fun h' oW hs=>h _ ?_
  obtain⟨q,es,ep,hq,h2,h3,h4,_,h5⟩:=oW
  refine Bl I (by rw[e];exact True.intro) hs ⟨q,hq⟩ ⟨hl,hd,_,(rel.put k eb rv).keeps fun c ys ec=>?_,q,es,ep,hq,h2,h3,h4,h5⟩
  rw[au (MS ec e (fun z=>nomatch z))]
  exact ec
end
theorem UL{P:Program}{w:World}{H:Hp}(h:Heap)(hb:sysModules<h.objs.size):bR P w H (h.push {cls:= .type "dict",data:= .dict #[]}) h.objs.size (.dK []):=
 ⟨eY _,beq_eq_false_iff_ne.mpr (bx (cW hb)),[], .nil,Heap.DictOf.new h⟩
theorem OS{P:Program}{w:World}{H:Hp}(h:Heap)(hb:sysModules<h.objs.size):bR P w H (h.push {cls:= .type "dict",data:= .dict #[]}) h.objs.size (.dT []):=
 ⟨eY _,beq_eq_false_iff_ne.mpr (bx (cW hb)),[], .nil,_,#[],0,fk _ rfl,⟨rfl,rfl,rfl⟩,rfl,rfl,mJ⟩
def zN:TE:=fun _ H Q=>∀p,H p=none->Q (.ref p) (upd H p (.dK []))
def Kn:TE:=fun _ H Q=>∀p,H p=none->Q (.ref p) (upd H p (.dT []))
section
variable{X:Cx}{pos:Pos}
theorem Hr:PE X (.Dict [] [] pos) zN:=fun pins s σ H Q I h=>
 wpAny_Dict_empty ⟨.ref s.heap.objs.size,_,I.laid (a:=s.heap.objs.size) (o:= .dK []) (t':=s.toks) (fun _ _ q=>bS _ q) (aJ _) (UL s.heap I.big),rfl,h _ (I.hok.fresh (aJ _))⟩
theorem N6:PE X (.Dict [] [] pos) Kn:=fun pins s σ H Q I h=>
 wpAny_Dict_empty ⟨.ref s.heap.objs.size,_,I.laid (a:=s.heap.objs.size) (o:= .dT []) (t':=s.toks) (fun _ _ q=>bS _ q) (aJ _) (OS s.heap I.big),rfl,h _ (I.hok.fresh (aJ _))⟩
end
def lM(kvs more:List (Key×V)):List (Key×V):=more.foldl (fun acc kv=>putK acc kv.1 kv.2) kvs
theorem KV.merge:∀{more:List (Key×V)} {rs:List (Key×Value)} {kvs:List (Key×V)} {vs:List (Key×Value)},KV more rs->KV kvs vs->KV (lM kvs more) (merged vs rs):=by
  intro more rs kvs vs r
  unfold KV at r
  induction r generalizing kvs vs with
  |nil=>intro q;exact q
  | @cons p q ps qs h t ih =>
    intro r0
    have e:KV (putK kvs p.1 p.2) (stored vs q.1 q.2):=by
      have:=r0.put p.1 h.2
      rw[<-h.1];exact this
    exact ih e
theorem JF:∀(more kvs:List (Key×V)),(lM kvs more).length<=kvs.length+more.length
  |[],kvs=>by show kvs.length<=kvs.length+0;omega
  | p :: r, kvs => by
    have h1:=JF r (putK kvs p.1 p.2)
    have h2:=wo kvs p.1 p.2
    show(lM (putK kvs p.1 p.2) r).length<=_
    rw[j7];omega
end L2
/-THE LAST THEOREM (shape;LID,My.*are yours):
   My.Adr:a structure of the addresses that your layer names (classes,functions);My.Txt K t:a structure (Prop) of the equations over K;
   My.txt_mk:{K} {implicit addresses ..} (e1:nsIn K mainGlobals "law"=some (some (.ref f))) (e2:K.lookup f=some ⟨oc,od, .func (fnOf "law" "law" params body scope dV kV doc pm an cdv ct),sl⟩) (e3:codeIn K cdv "law"=true) .. :∃t,My.Txt K t
set_option maxRecDepth 100000 in
set_option maxHeartbeats 0 in
(the tactic k_is has no namespace:write k_is)-/
namespace L2
open PySem PySem.Spec PyProof.Rows
section
variable{κ:Type}[DecidableEq κ]
theorem Q0{kvs:List (κ×V)}{k:κ}{v:V}(h:cB kvs k=some v):k∈kvs.map (·.1):=by
 have q:(kvs.any fun kv=>decide (kv.1=k))=true:=by
  rw[nI,h]
  all_goals rfl
 obtain⟨p,hp,e⟩:=oO.mp q
 exact cI.mpr ⟨p,hp,of_decide_eq_true e⟩
end
end L2
set_option maxRecDepth 100000
set_option maxHeartbeats 4000000
namespace L2
open PySem PySem.Spec PyProof.Rows
section
variable{prog:Program}{w:World}{A:Around}{E:Value->Shared->Prop}{s:Shared}
theorem QX{T:String}{r d:Addr}{n:Nat}{P:Nat->Value->Prop}{OK:Heap->Prop}{Q:List Value->Shared->Prop}(K:PySem.W.KdlSrc prog w T r d n P OK)(hh:A.handled=none)(hok:OK s.heap)(hn:n<=sizeLine)
  (hQ:∀h' tk' items,(∀b o,s.heap.get? b=some o->h'.get? b=some o)->s.heap.objs.size<=h'.objs.size->items.length=n->(∀(i:Nat) v,items[i]?=some v->P i v)->Q items {s with heap:=h',toks:=tk'}):wpAny (model prog w) A (collect (.ref r)) Q E s:=by
 obtain⟨lr,ld⟩:=K.there _ hok
 unfold collect
 refine wpAny_bind (wpAny_runValue (codeAny_builtin EN ?_))
 rw[lI G8 _]
 show wpAny _ A.in1 (newList []>>=fun l=>again (.builtin "list.__iadd__" ⟨[l, .ref r],[]⟩)) _ _ s
 refine wpAny_bind (wpAny_newObj_type ?_)
 refine wpAny_pure ⟨plainId_quiet v8 _,codeAny_builtin Fi ?_⟩
 rw[lI v8 _]
 have gL:(s.heap.push ({cls:= .type "list",data:= .seq ([]:List Value).toArray}:Obj)).get? s.heap.objs.size=some {cls:= .type "list",data:= .seq ([]:List Value).toArray}:=fk _ rfl
 show wpAny _ A.in1 (Builtin.List.listExtendWith (.ref s.heap.objs.size) (.ref r) (.ref s.heap.objs.size)) _ _ {s with heap:=s.heap.push ({cls:= .type "list",data:= .seq ([]:List Value).toArray}:Obj)}
 refine PySem.W.kdl_extend (A:=A) (R:=fun r s'=>match r with
    | .ok (.ret v)=>wpAny (model prog w) A (match v with| .ref x=>(do match(<-load x).data with| .seq xs _=>pure xs.toList|_=>unsupported "internal:collect")|_=>unsupported "internal:collect") Q E s'
    | .ok _=>False
    | .error e=>E e s') (s:={s with heap:=s.heap.push ({cls:= .type "list",data:= .seq ([]:List Value).toArray}:Obj)}) K hh (K.keep _ _ hok fun b _ o e=>bS _ e) s.heap.objs.size (oG lr) (oG ld) _ _ gL (fun h' tk acc' c' hk hS hacc=>?_) hn
 refine wpAny_bind (wpAny_load hS (wpAny_pure ?_))
 refine hQ h' tk acc'.toList (fun b o e=>hk b o (cW (bC e)) (bS _ e)) (jr (bC hS)) (by rw[jx];exact hacc.1) fun i v e=>hacc.2 i v (by rw[<-mP];exact e)
theorem OD{a:Addr}{vs:List (Key×Value)}{ms:List Int}{Q:Value->Shared->Prop}(hh:A.handled=none)(lo:(a==sysModules)=false)(hd:s.heap.DictOf (dP prog w) a vs)(hk:vs.map (·.1)=ms.map Sum.inl)(h64:ms.length<64)
    (h:∀h' tk' (l:Addr) (out:List Value) (ns:List Int) (e:Nat),(∀b o,s.heap.get? b=some o->h'.get? b=some o)->s.heap.objs.size<=l->h'.get? l=some (seqObj "list" out.toArray e)->IntsAre out ns->ns.Pairwise (· <= ·)->ns.Perm ms->
      Q (.ref l) {s with heap:=h',toks:=tk'}):wpAny (model prog w) A (call (.builtin "sorted") [.ref a]) Q E s:=by
  obtain⟨ep,hat⟩:=hd.dictAt
  have hvl:vs.length=ms.length:=by have:=congrArg List.length hk;simpa using this
  refine C4 kind_sorted plain_sorted entry_sorted (args_sorted1 _) ?_
  unfold Builtin.«sorted»
  refine wpAny_bind (m:=checkCount "sorted" 1 1 _) (wpAny_pure (wpAny_bind ?_))
  refine QX (A:=A.in1) (PySem.W.kdl_dict lo) hh hat (by rw[hvl];exact eE (jr h64) (by decide)) fun h1 BN items k1 k2 hil hit=>?_
  have hI:IntsAre items ms:=by
    have key:∀(its:List Value) (us:List (Key×Value)) (ms:List Int),us.map (·.1)=ms.map Sum.inl->its.length=us.length->(∀(i:Nat) v,its[i]?=some v->∃k x,us[i]?=some (k,x)/\(dP prog w).is k v=true)->IntsAre its ms:=by
      intro its
      induction its with
      | nil =>
        intro us ms e l _
        cases us with
        | nil => cases ms with
          |nil=>exact .nil
          |cons _ _=>cases e
        |cons _ _=>cases l
      | cons v its ih =>
        intro us ms e l hp
        cases us with
        |nil=>cases l
        | cons u us => cases ms with
          |nil=>cases e
          | cons m ms =>
            have e1:u.1=Sum.inl m:=by injection e
            have e2:us.map (·.1)=ms.map Sum.inl:=by injection e
            obtain⟨k,x,q1,q2⟩:=hp 0 v rfl
            have q1:u=(k,x):=by simpa using q1
            subst q1
            have e1:k=Sum.inl m:=e1
            subst e1
            obtain⟨t,rfl⟩:=rL (k:=m) (v:=v) q2
            exact .cons m t (ih us ms e2 (by simpa using l) fun i v q=>by simpa using hp (i+1) v (by simpa using q))
    exact key items vs ms hk hil hit
  have hlen:items.length=ms.length:=by rw[hil,hvl]
  refine wpAny_bind (wpAny_newList ?_)
  have gL:(h1.push (seqObj "list" items.toArray 0)).get? h1.objs.size=some (seqObj "list" items.toArray 0):=fk _ rfl
  refine wpAny_bind (wpAny_holding (wpAny_call_entry slot_list_sort ⟨_,gL,rfl⟩ entry_list_sort (list_sort_tree gL hI (by omega) fun out ns' a1 a2 a3=>⟨_,rfl,?_⟩) (args_list_sort _)))
  obtain⟨e,he⟩:=sortedHeap_at (out:=out) gL
  refine wpAny_pure ⟨_,rfl,h _ BN h1.objs.size out.toList ns' e (fun b o q=>?_) k2 (by simpa using he) a1 a3 a2⟩
  have lb:=bC (k1 b o q)
  rw[sortedHeap_old (cW lb) (by rw[l6];exact nH lb)]
  exact bS _ (k1 b o q)
end
def tS:List V->Hp->VK->Prop:=fun xs H Q=>∃a,∃kvs:List (Key×V),∃ms:List Int,xs=[.ref a]/\Rd H a (.dK kvs)/\kvs.map (·.1)=ms.map Sum.inl/\ms.length<64/\
 ∀l (rs:List Int),H l=none->rs.Pairwise (· <= ·)->rs.Perm ms->Q (.ref l) (upd H l (.lst (rs.map V.int)))
theorem KL{X:Cx}(hc:X.calm=true):fF X (.builtin "sorted") tS:=by
 intro pins s σ H xs us Q I rv h
 obtain⟨a,kvs,ms,rfl,hH,hk,h64,q⟩:=h
 obtain⟨u,rfl,ru⟩:=vals1 rv
 cases ru
 obtain⟨z,hd,vs,rel,dd⟩:=mZ I.hok hH
 refine OD (I.ok.hd hc) hd dd (by rw[<-rel.keys];exact hk) h64 fun h' tk' l out ns e kp hl gl hI pw pp=>?_
 have new:bR X.prog X.w (upd H l (.lst (ns.map V.int))) h' l (.lst (ns.map V.int)):=by
  refine⟨?_,out,e,tW hI,gl⟩
  rw[aj,pp.length_eq];exact eE (jr h64) (by decide)
 exact⟨.ref l,_,I.laid (t':=tk') kp hl new,rfl,q _ _ (I.hok.fresh hl) pw pp⟩
section
variable{X:Cx}
def jQ:R2:=fun x y H Q=>∃a kvs k v,x= .ref a/\y=kV k/\Rd H a (.dK kvs)/\cB kvs k=some v/\Q v H
theorem m5:kW X jQ:=by
 intro value slice pins s σ H x y v u Q I rx ry h hs
 obtain⟨a,kvs,k,z,rfl,rfl,hH,hv,q⟩:=h
 cases rx
 obtain⟨hz,hd,vs,rel,dd⟩:=mZ I.hok hH
 have hT:=dd.typeIs (s:=s)
 obtain⟨w',hw,rw'⟩:=jX.some_of (v:=z) (o:=valueAt vs k) (by rw[<-hv];exact rel.val k)
 unfold subscriptTail
 refine wpAny_bind ?_
 rw[getitemInPython_of_ne hT.not_modules]
 refine wpAny_bind (wpAny_specialOf hT PySem.F.slot_dict_getitem.lookup ?_)
 have fin:wpAny (model X.prog X.w) X.A (subscripted slice false (.ref a) u) (fun r s₃=>wpAny (model X.prog X.w) X.A (letTemporaryGo value (.ref a) r>>=fun _=>pure r) (EP X pins σ Q) X.xe s₃) X.xe s:=by
  rw[hs]
  refine wpAny_operating (wpAny_getItem_of (oh ry) dd.mapOf hw ?_)
  exact wpAny_bind (wpAny_letTemporaryGo (wpAny_pure ⟨z,H,I.tok _,rw',q⟩))
 first
  |exact wpAny_pure (wpAny_bind fin)
  |exact wpAny_bind (wpAny_pure (wpAny_bind fin))
  |exact wpAny_bind fin
def uW:V->V->V->Hp->(Hp->Prop)->Prop:=fun o i v H Q=>∃a kvs k,o= .ref a/\i=kV k/\H a=some (.dK kvs)/\kvs.length<sizeLine/\Q (upd H a (.dK (putK kvs k v)))
theorem set_dict:xo X uW:=by
 intro pins s σ H o i v ov iv u Q I ro ri rv h
 obtain⟨a,kvs,k,rfl,rfl,hH,ZL,q⟩:=h
 cases ro
 obtain⟨z,hd,vs,rel,dd⟩:=Cw I.hok hH
 have hz:vs.length<=sizeLine:=by rw[<-rel.length];exact z
 have hl:(putK kvs k v).length<=sizeLine:=by have:=wo kvs k v;omega
 refine wpAny_setItem_pairs (hsz:=hz) (oh ri) dd fun h' oW hs=>?_
 have he:∃q,h'.get? a=some q:=let ⟨q,_,_,hq,_⟩:=oW;⟨q,hq⟩
 exact⟨_,Bl I (by rw[hH];exact True.intro) hs he (yu hl hd (rel.put k rv) oW),q⟩
def wD:V->List V->Hp->VK->Prop:=fun x vs H Q=>∃a kvs k d,x= .ref a/\vs=[kV k,d]/\Rd H a (.dK kvs)/\Q ((cB kvs k).getD d) H
theorem BH:qm X "dict.get" wD:=by
  intro pins s σ H x xs v us Q I rx rv h
  obtain⟨a,kvs,k,d,rfl,rfl,hH,q⟩:=h
  cases rx
  cases rv with
  | cons r1 r2 =>
    obtain⟨r,rfl,rd⟩:=vals1 r2
    obtain⟨z,hd,vs,rel,dd⟩:=mZ I.hok hH
    refine call_meetsIn t9 dd.typeIs PySem.F.entry_dict_get (PySem.F.args_dict_get_3 _ _ _) (meets_dict_get_default (dP X.prog X.w) a (oh r1) hd r) ⟨_,dd.mapOf,?_⟩
    exact⟨_,H,I.tok _,(rel.val k).getD rd,q⟩
end
end L2
set_option maxRecDepth 100000
set_option maxHeartbeats 4000000
namespace L2
open PySem PySem.Spec PyProof.Rows
def jv(l:List Int)(kvs:List (Key×V)):Prop:=∃ms:List Int,kvs.map (·.1)=ms.map Sum.inl/\ms.Nodup/\(∀k,k∈ms↔k∈l)/\∀k:Int,k∈l->cB kvs (Sum.inl k)=some (.int (l.count k))
theorem jv.nil:jv [] []:=⟨[],rfl,mJ,fun _=>Iff.rfl,fun _ h=>by cases h⟩
theorem jv.none{l:List Int}{kvs:List (Key×V)}{x:Int}(h:jv l kvs)(hx:x∉l):cB kvs (Sum.inl x)=none:=by
  obtain⟨ms,h1,_,h3,_⟩:=h
  cases e:cB kvs (Sum.inl x) with
  |none=>rfl
  | some v =>
    have:=Q0 e
    rw[h1] at this
    obtain⟨m,hm,e2⟩:=cI.mp this
    cases e2
    exact absurd ((h3 x).mp hm) hx
theorem jv.at{l:List Int}{kvs:List (Key×V)}(h:jv l kvs)(x:Int):(cB kvs (Sum.inl x)).getD (.int 0)= .int (l.count x):=by
 by_cases hx:x∈l
 ·obtain⟨_,_,_,_,h4⟩:=h
  rw[h4 x hx];rfl
 ·rw[h.none hx,List.count_eq_zero_of_not_mem hx];rfl
theorem keys_map{kvs:List (Key×V)}{k:Key}{v:V}(h:(cB kvs k).isSome=true):(putK kvs k v).map (·.1)=kvs.map (·.1):=by
 unfold putK
 rw[nI,if_pos h,dw]
 apply fX
 intro p _
 show(if p.1=k then(p.1,v) else p).1=p.1
 split<;>rfl
theorem jv.step{l:List Int}{kvs:List (Key×V)}{x:Int}(h:jv l kvs):jv (l++[x]) (putK kvs (Sum.inl x) (.int (l.count x+1))):=by
 have hn:=h.none (x:=x)
 obtain⟨ms,h1,h2,h3,h4⟩:=h
 have hval:∀k:Int,k∈l++[x]->cB (putK kvs (Sum.inl x) (.int (l.count x+1))) (Sum.inl k)=some (.int ((l++[x]).count k)):=fun k hk=>by
  rw[Rt]
  by_cases e:k=x
  ·subst e
   rw[if_pos rfl,wU,List.count_singleton_self];rfl
  ·rw[if_neg (fun z=>e (tQ z)),wU,z5,if_neg (by simpa using bx e)]
   rcases dg.mp hk with z|z
   ·exact h4 k z
   ·exact absurd (aQ.mp z) e
 by_cases hx:x∈l
 ·refine⟨ms,?_,h2,fun k=>?_,hval⟩
  ·rw[keys_map (by rw[h4 x hx];rfl)];exact h1
  ·rw[h3 k,dg,aQ]
   exact⟨.inl,fun z=>z.elim id fun e=>e▸hx⟩
 ·refine⟨ms++[x],?_,?_,fun k=>?_,hval⟩
  ·rw[Dl _ (hn hx),cZ,cZ,h1];rfl
  ·rw[pe]
   exact⟨h2,by simp,fun a ha b hb z=>by rw[aQ.mp hb] at z;exact hx ((h3 x).mp (z▸ha))⟩
  ·rw[dg,dg,h3 k]
end L2
set_option maxRecDepth 100000
set_option maxHeartbeats 4000000
namespace L2
abbrev Cn:=List (Int×Int)
structure HZ(cs:Cn):Prop where
 nR:∀c∈cs,0<=c.1/\c.1<=12/\0<=c.2/\c.2<=10^7
 nd:(cs.map (·.1)).Nodup
 len:cs.length<=14
 pos:∃c∈cs,0<c.1/\0<c.2
def El:Cn->Rat->Rat
 |[],_=>0
 |c::r,v=>(if 0<c.1 then((c.1*c.2:Int):Rat)*v^(c.1.toNat-1) else 0)+El r v
def Jp:Cn->Int
 |[]=>0
 |c::r=>c.1*c.2+Jp r
def Fb(cs:Cn)(v:Rat):Rat:=El cs v/(Jp cs:Int)
def Sj(l c:Cn)(s v:Rat):Rat:=s*Fb l (1-Fb c (1-v))
section
variable{l c:Cn}{s:Rat}(hl:HZ l)(hc:HZ c)(s0:0<=s)
include hl hc s0
end
def GV(x:Rat):Int:= -((-x).floor)
end L2
namespace L2
structure Gw where
 l:Cn
 c:Cn
 s:Rat
 u:Int
def Gw.gr(g:Gw)(x:Int):Rat:=Sj g.l g.c g.s ((x:Rat)/g.u)*g.u
def Gw.lo(g:Gw):Nat->Int
 |0=>(g.s*g.u).floor
 |k+1=>(g.gr (g.lo k)).floor
def Gw.hi(g:Gw):Nat->Int
 |0=>GV (g.s*g.u)
 |k+1=>GV (g.gr (g.hi k))
end L2
set_option maxRecDepth 100000
set_option maxHeartbeats 4000000
namespace L2
open PySem PySem.Spec PyProof.Rows
@[reducible] def Zm(g:Gw)(k:Nat):PyData:= .tuple [.int (g.lo k), .int (g.hi k)]
@[reducible] def Zg(n:Nat):PyData:= .tuple [.str "falls", .int n]
@[reducible] def Y0(x:Int):PyData:= .tuple [.str "stays", .int x]
@[reducible] def ZR:PyData:= .tuple [.str "open"]
def Yu(K:PySem.W.Frag)(n:Nat)(t:iW):TG:=fun v σ H Q=>∃a xs,v= .ref a/\aV K H a xs/\xs.length=n/\t xs σ H Q
theorem Gv.lst{G:Gx}{ρ:Rh}{f:Bool}{ds:List PyData}{K:PySem.W.Frag}{Θ:Rh->Prop}{n:Nat}{u:iW}(hl:ds.length=n)(h:mO G ρ u f ds Θ):Gv G ρ (Yu K n u) f (.list ds) Θ:=fun nb σ H v Q W hv z=>by
 obtain⟨a,xs,rfl,m,hx,hd⟩:=hv.fB
 exact⟨a,xs,rfl, .of hx,by rw[hd.length];exact hl,h nb σ H xs Q W hd z⟩
end L2
set_option maxRecDepth 100000
set_option maxHeartbeats 4000000
namespace L2
open PySem PySem.Spec PyProof.Rows PySem.W
section
variable{n:Nat}{cmp:Nat->Nat->(Bool->Shared->Prop)->Shared->Prop}{s:Shared}
variable(h0:0<n)(hc:∀i j C,i<n->j<n->(∀b,C b s)->cmp i j C s)
include h0 hc
end
end L2
set_option maxRecDepth 100000
set_option maxHeartbeats 4000000
namespace L2
open PySem PySem.Spec PyProof.Rows PySem.W
section
variable{n:Nat}{key:Nat->Int}{cmp:Nat->Nat->(Bool->Shared->Prop)->Shared->Prop}{s:Shared}
variable(h0:0<n)(hc:∀i j C,i<n->j<n->C (decide (key i<key j)) s->cmp i j C s)
include h0 hc
end
end L2
set_option maxRecDepth 100000
set_option maxHeartbeats 4000000
set_option maxRecDepth 100000
set_option maxHeartbeats 4000000
namespace L2
open PySem PySem.Spec PyProof.Rows
@[reducible] def Zo(l c:Cn)(u p:Int):Gw:=⟨l,c,(p:Rat)/u,u⟩
end L2
set_option maxRecDepth 100000
set_option maxHeartbeats 4000000
namespace L2
open PySem PySem.Spec PyProof.Rows
theorem Tv.lend{G:Gx}{ρ:Rh}{t:TT}{Θ:Bool->Prop}{a:Addr}{f:Bool}{ds:List PyData}(i:Nat)(e:ρ[i]?=some (.own a f ds))(h:Tv G (ρ.set i (.d f (.list ds))) t Θ):Tv G ρ t Θ:=fun nb σ H Q W z=>
 h _ σ H Q (Sv.share W e) z
end L2
set_option maxRecDepth 100000
set_option maxHeartbeats 4000000
namespace L2
open PySem PySem.Spec PyProof.Rows
theorem N5:typeLookup (.type "list") "keys"=pure none:=by rw[typeLookup_type,builtinLookup_eq_fast];kernel_rfl
theorem Yw:typeLookup (.type "list") "__getattr__"=pure none:=by rw[typeLookup_type,builtinLookup_eq_fast];kernel_rfl
section
variable{prog:Program}{w:World}{A:Around}{E:Value->Shared->Prop}{h:Heap}{g:Array GenState}{d:Drawn}{t:Nat}{os:OsState}{a:Addr}{o:Obj}
theorem TU{tk:Tok}{Q:Fin->Shared->Prop}{xs:Array Value}{n:Nat}(hh:A.handled=none)(hx:h.get? a=some (seqObj "list" xs n))
  (hq:∀h' tk e,Heap.NewAttrErr h h' e (.ref a) "keys" ->E (.ref e) ⟨h',g,d,tk,os⟩):
  wpAny (model prog w) A (Builtin.«object.__getattribute__» ⟨[.ref a, .str "keys" tk],[]⟩) Q E ⟨h,g,d,t,os⟩:=by
 have hT:(⟨h,g,d,t,os⟩:Shared).TypeIs (.ref a) "list":=⟨_,hx,rfl⟩
 have f4:=N5
 unfold Builtin.«object.__getattribute__»
 repeat (any_goals (first|assumption|wp_step))
 exact wpAny_raiseAttrError hh hq (attrMsg_fits (by decide+kernel) (by size_fits))
theorem Q3{tk:Tok}{R:Result->Shared->Prop}{xs:Array Value}{n:Nat}(hh:A.handled=none)(hx:h.get? a=some (seqObj "list" xs n))(hq:∀h' tk e,Heap.NewAttrErr h h' e (.ref a) "keys" ->R (.error (.ref e)) ⟨h',g,d,tk,os⟩):
  codeAny (model prog w) A (.call (.builtin "list.__getattribute__") ⟨[.ref a, .str "keys" tk],[]⟩) R ⟨h,g,d,t,os⟩:=
 codeAny_call_builtin tX.plain PySem.F.entry_list_ga (tX.check _ _ _ _ _ _ _ _ (show(⟨h,g,d,t,os⟩:Shared).TypeIs (.ref a) "list" from⟨_,hx,rfl⟩) (PySem.F.args_list_getattribute_2 _ _) (TU (by exact hh) hx hq))
theorem Uz{Q:Option Value->Shared->Prop}{xs:Array Value}{n:Nat}(hh:A.handled=none)(hx:h.get? a=some (seqObj "list" xs n))
  (hq:∀h' tk,(∀b ob,h.get? b=some ob->h'.get? b=some ob)->Q none ⟨h',g,d,tk,os⟩):wpAny (model prog w) A (getAttr? (.ref a) "keys") Q E ⟨h,g,d,t,os⟩:=by
 have hT:(⟨h,g,d,t,os⟩:Shared).TypeIs (.ref a) "list":=⟨_,hx,rfl⟩
 have f1:=sub_AttributeError
 have f2:=tX.lookup
 have f3:=tX.bind (.ref a)
 have f5:=Yw
 unfold getAttr? getAttrBy? getAttrBy
 repeat (any_goals (first|assumption|wp_step))
 refine Q3 hh hx fun h' tk e hx'=>?_
 obtain⟨t',u',he⟩:=hx'.there
 unfold getattributeRaised
 repeat (any_goals (first|assumption|wp_step))
 exact hq _ _ hx'.keeps
end
end L2
set_option maxRecDepth 100000
set_option maxHeartbeats 4000000
namespace L2
open PySem PySem.Spec PyProof.Rows
theorem IP:entryFor table "dict.update.loop"=some Builtin.«dict.update.loop» :=entryFor_of_tree (by kernel_rfl)
theorem uP:plainId "dict.update.loop"=true:=by decide+kernel
def tO(P:Program)(w:World)(h:Heap)(v:Value)(p:Key×Value):Prop:=∃a o m ku,v= .ref a/\h.get? a=some o/\o.cls= .type "tuple" /\o.data= .seq #[ku,p.2] m/\(dP P w).is p.1 ku=true
section
variable{prog:Program}{w:World}{A:Around}{E:Value->Shared->Prop}{s:Shared}
theorem QY{R:Result->Shared->Prop}{d it l:Addr}{its:List Value}{ps:List (Key×Value)}(hh:A.in1.handled=none)(hdl:d≠l)(hdi:d≠it)(hil:l≠it)(hlen:its.length=ps.length)(hsz:its.length<=10000):
    ∀(k i:Nat) (s:Shared) (t:Tok),its.length-i=k->i<=its.length->s.heap.IsListIter it l i->s.heap.IsList l its.toArray->(∀(j:Nat) (v:Value) (p:Key×Value),its[j]?=some v->ps[j]?=some p->tO prog w s.heap v p)->(∀(j:Nat) (v:Value),its[j]?=some v->v≠Value.ref d/\v≠Value.ref it)->
      s.heap.DictOf (dP prog w) d (merged [] (ps.take i))->(merged [] (ps.take i)).length<=i->
      (∀h' tk,(∀b o,b≠d->b≠it->s.heap.get? b=some o->h'.get? b=some o)->h'.DictOf (dP prog w) d (merged [] ps)->R (.ok (.ret .none)) {s with heap:=h',toks:=tk})->
      codeAny (model prog w) A (.builtin "dict.update.loop" ⟨[.ref d, .ref it, .int i t, .none],[]⟩) R s:=by
  intro k
  induction k with
  | zero =>
    intro i s t hk hi hit hl hp hne hD hDl hR
    have hin:i=its.length:=by omega
    subst hin
    refine codeAny_builtin IP ?_
    rw[lI uP _]
    show wpAny _ A.in1 (pyNext (.ref it)>>=_) _ _ s
    refine wpAny_bind (wpAny_pyNext_list_end hh hit hl (by simp) fun h' he=>?_)
    show wpAny _ A.in1 (ret Value.none) _ _ _
    rw[hlen,fE] at hD
    exact wpAny_pure (hR h' s.toks (fun b o _ n e=>he b o n e) (hD.extBut he hdi))
  | succ k ih =>
    intro i s t hk hi hit hl hp hne hD hDl hR
    have hlt:i<its.length:=by omega
    obtain⟨v,hv⟩:∃v,its[i]?=some v:=⟨_,aB hlt⟩
    obtain⟨p,hpp⟩:∃p,ps[i]?=some p:=⟨_,aB (by omega)⟩
    obtain⟨hn1,hn2⟩:=hne i v hv
    obtain⟨a,o,m,ku,rfl,g1,g2,g3,g4⟩:=hp i v p hv hpp
    have had:a≠d:=fun z=>hn1 (by rw[z])
    have hai:a≠it:=fun z=>hn2 (by rw[z])
    refine codeAny_builtin IP ?_
    rw[lI uP _]
    show wpAny _ A.in1 (pyNext (.ref it)>>=_) _ _ s
    refine wpAny_bind (wpAny_pyNext_list_item hit hl (x:= .ref a) (by simpa using hv) fun h1 UQ Bj=>?_)
    have pR:h1.get? a=some o:=(Bj.2 a hai).trans g1
    have hT:(⟨h1,s.gens,s.drawn,s.toks,s.os⟩:Shared).TypeIs (.ref a) "tuple":=⟨o,pR,g2⟩
    show wpAny _ A.in1 (holding [Value.ref a] _>>=_) _ _ _
    refine wpAny_bind (wpAny_holding (wpAny_bind (wpAny_tryCatch ?_)))
    show wpAny _ A.in1 (Builtin.Dict.pairItems (.ref a)) _ _ _
    unfold Builtin.Dict.pairItems
    refine wpAny_bind (wpAny_typeOf hT ?_)
    rw[if_pos (by decide)]
    refine wpAny_bind (wpAny_seqItems pR g3 (wpAny_pure ?_))
    show wpAny _ A.in1 (holding [ku,p.2] (dictSet d ku p.2)) _ _ _
    have xu:h1.DictOf (dP prog w) d (merged [] (ps.take i)):=hD.sameBut Bj hdi
    refine wpAny_holding (wpAny_dictSet_pairs (s:=⟨h1,s.gens,s.drawn,s.toks,s.os⟩) g4 xu (fun h2 wH Ex=>?_) (eE hDl (eE hi (eE hsz (by decide)))))
    have e:stored (merged [] (ps.take i)) p.1 p.2=merged [] (ps.take (i+1)):=by rw[take_snoc hpp];unfold merged;rw[wF];rfl
    rw[e] at wH
    have kk:∀b o,b≠d->b≠it->s.heap.get? b=some o->h2.get? b=some o:=fun b o n1 n2 z=>(Ex.2 b n1).trans ((Bj.2 b n2).trans z)
    refine wpAny_pure ⟨plainId_quiet uP _,ih (i+1) ⟨h2,s.gens,s.drawn,s.toks+1,s.os⟩ _ (by omega) hlt ?_ ?_ ?_ hne wH ?_ fun h' tk k' Cg=>?_⟩
    · exact UQ.at fun o z=>(Ex.2 it (bx hdi)).trans z
    · exact hl.at fun o z=>kk l o (bx hdl) hil z
    · intro j v' p' hv' hp'
      obtain⟨hn1,hn2⟩:=hne j v' hv'
      obtain⟨a,o,m,ku,rfl,q1,q2,q3,q4⟩:=hp j v' p' hv' hp'
      exact⟨a,o,m,ku,rfl,kk a o (fun z=>hn1 (by rw[z])) (fun z=>hn2 (by rw[z])) q1,q2,q3,q4⟩
    · rw[<-e]
      unfold stored
      split
      · rw[aj];omega
      · rw[bz,fW];omega
    · exact hR h' tk (fun b o n1 n2 z=>k' b o n1 n2 (kk b o n1 n2 z)) Cg
theorem MK{l:Addr}{its:List Value}{n:Nat}{ps:List (Key×Value)}{Q:Value->Shared->Prop}(hh:A.handled=none)(hlo:s.heap.get? l=some (seqObj "list" its.toArray n))(hlen:its.length=ps.length)(hsz:its.length<=10000)
  (hp:∀(j:Nat) (v:Value) (p:Key×Value),its[j]?=some v->ps[j]?=some p->tO prog w s.heap v p)
  (h:∀h' tk,h'.DictOf (dP prog w) s.heap.objs.size (merged [] ps)->(∀b o,s.heap.get? b=some o->h'.get? b=some o)->Q (.ref s.heap.objs.size) {s with heap:=h',toks:=tk}):
  wpAny (model prog w) A (call (.type "dict") [.ref l]) Q E s:=by
 refine callType_codes (Q₁:=fun obj s₁=>obj= .ref s.heap.objs.size/\s₁={s with heap:=s.heap.push {cls:= .type "dict",data:= .dict #[]}}) PySem.F.kt_called_dict (PySem.F.kt_typeCall_dict_1 _) PySem.F.entry_dict_init (kt_code_dict_new _ ⟨rfl,rfl⟩) ?_
 rintro obj s₁ ⟨rfl,rfl⟩
 have hnew:(s.heap.push {cls:= .type "dict",data:= .dict #[]}).DictOf (dP prog w) s.heap.objs.size []:=Heap.DictOf.new s.heap
 have hl1:(s.heap.push {cls:= .type "dict",data:= .dict #[]}).get? l=some (seqObj "list" its.toArray n):=bS _ hlo
 have uD:l<s.heap.objs.size:=bC hlo
 refine⟨hnew.typeIs,PySem.F.args_dict_init_2 _ _,?_⟩
 unfold Builtin.«dict.__init__»
 refine wpAny_bind ?_
 unfold Builtin.Dict.selfAndRest
 refine wpAny_bind (wpAny_notOrdered_dict hnew.typeIs ?_)
 show wpAny _ _ (pure (s.heap.objs.size,[Value.ref l])) _ _ _
 refine wpAny_pure ?_
 show wpAny _ _ (Builtin.Dict.updateFrom "dict.__init__" s.heap.objs.size (.ref l) [] .none) _ _ _
 unfold Builtin.Dict.updateFrom
 refine wpAny_bind (wpAny_typeOf (T:="list") ⟨_,hl1,rfl⟩ ?_)
 rw[if_pos (by decide)]
 refine wpAny_bind (Uz (A:=A.in1.in1) hh hl1 fun h1 tk k1=>?_)
 rw[if_pos (show(none:Option Value).isNone=true from rfl)]
 refine wpAny_bind (wpAny_rule (wpAny_bind ?_))
 have hl2:h1.get? l=some (seqObj "list" its.toArray n):=k1 _ _ hl1
 have xu:h1.DictOf (dP prog w) s.heap.objs.size []:=let ⟨o',es,ep,ho,r⟩:=hnew;⟨o',es,ep,k1 _ _ ho,r⟩
 have hs1:s.heap.objs.size<h1.objs.size:=by obtain⟨o',es,ep,ho,_⟩:=xu;exact bC ho
 have J8:h1.IsList l its.toArray:=⟨_,hl2,rfl,n,rfl⟩
 refine wpAny_pyIter_list J8 ?_
 refine wpAny_pure ⟨plainId_quiet uP _,?_⟩
 refine QY (A:=A.in1) (its:=its) (ps:=ps) hh (bx (cW uD)) (cW hs1) (cW (mV uD hs1)) hlen hsz its.length 0 _ _ (by omega) (eY _) ⟨_,fk _ rfl,rfl,rfl⟩ (J8.push _) ?_ ?_ (xu.push _) (aJ _) fun h' tk' k' Cg=>?_
 ·intro j v p hv hpp
  obtain⟨a,o,m,ku,rfl,q1,q2,q3,q4⟩:=hp j v p hv hpp
  exact⟨a,o,m,ku,rfl,bS _ (k1 _ _ (bS _ q1)),q2,q3,q4⟩
 ·intro j v hv
  obtain⟨p,hpp⟩:∃p,ps[j]?=some p:=⟨_,aB (by have:=(aP.mp hv).1;omega)⟩
  obtain⟨a,o,m,ku,rfl,q1,_⟩:=hp j v p hv hpp
  have la:=bC q1
  refine⟨fun z=>?_,fun z=>?_⟩
  ·cases z;exact absurd la (jK _)
  ·have z':a=h1.objs.size:=by cases z;rfl
   rw[z'] at la
   exact absurd (mV la hs1) (jK _)
 ·refine⟨rfl,h h' tk' Cg fun b o z=>?_⟩
  have lb:=bC z
  exact k' b o (cW lb) (cW (mV lb hs1)) (bS _ (k1 _ _ (bS _ z)))
end
def B9:List V->Hp->VK->Prop:=fun xs H Q=>∃(l:Addr) (ys:List V) (kvs:List (Key×V)),xs=[.ref l]/\H l=some (.lst ys)/\ys.length=kvs.length/\ys.length<=10000/\
 (∀(j:Nat) (y:V) (p:Key×V),ys[j]?=some y->kvs[j]?=some p->∃a,y= .ref a/\H a=some (.tup [kV p.1,p.2]))/\∀d,H d=none->Q (.ref d) (upd H d (.dK (lM [] kvs)))
theorem OY{X:Cx}(hc:X.calm=true):fF X (.type "dict") B9:=by
  intro pins s σ H xs us Q I rv h
  obtain⟨l,ys,kvs,rfl,hH,hlen,hsz,hy,q⟩:=h
  obtain⟨u,rfl,ru⟩:=vals1 rv
  cases ru
  obtain⟨_,its,n,rs,h1⟩:=(show bR X.prog X.w H s.heap l (.lst ys) from I.hok l _ hH)
  have hli:=rs.length
  have key:∃ps:List (Key×Value),KV kvs ps/\∀(j:Nat) (v:Value) (p:Key×Value),its[j]?=some v->ps[j]?=some p->tO X.prog X.w s.heap v p:=by
    have gen:∀(ys:List V) (its:List Value) (kvs:List (Key×V)),Vals ys its->ys.length=kvs.length->(∀(j:Nat) (y:V) (p:Key×V),ys[j]?=some y->kvs[j]?=some p->∃a,y= .ref a/\H a=some (.tup [kV p.1,p.2]))->∃ps:List (Key×Value),KV kvs ps/\∀(j:Nat) (v:Value) (p:Key×Value),its[j]?=some v->ps[j]?=some p->tO X.prog X.w s.heap v p:=by
      intro ys
      induction ys with
      | nil =>
        intro its kvs r e _
        cases r
        cases kvs with
        |nil=>exact⟨[], .nil,fun j v p z=>by simp at z⟩
        |cons _ _=>cases e
      | cons y ys ih =>
        intro its kvs r e hq
        cases r with
        | cons r1 r2 =>
          cases kvs with
          |nil=>cases e
          | cons kv kvs =>
            obtain⟨ps,g1,g2⟩:=ih _ kvs r2 (by simpa using e) fun j y p a b=>hq (j+1) y p (by simpa using a) (by simpa using b)
            obtain⟨a,rfl,ha⟩:=hq 0 y kv rfl rfl
            cases r1
            obtain⟨_,its2,LU,o,w1,w2,m,w3⟩:=(show bR X.prog X.w H s.heap a (.tup [kV kv.1,kv.2]) from I.hok a _ ha)
            cases LU with
            | cons x1 x2 =>
              cases x2 with
              | cons y1 y2 =>
                cases y2
                refine⟨(kv.1,_)::ps, .cons ⟨rfl,y1⟩ g1,fun j v p a b=>?_⟩
                cases j with
                | zero =>
                  simp at a b
                  subst a b
                  exact⟨_,o,m,_,rfl,w1,w2,w3,oh x1⟩
                |succ j=>exact g2 j v p (by simpa using a) (by simpa using b)
    exact gen ys its kvs rs hlen hy
  obtain⟨ps,rel,hps⟩:=key
  have hpl:=rel.length
  refine MK (I.ok.hd hc) h1 (by omega) (by omega) hps fun h' tk' hD k=>?_
  have hml:=JF kvs []
  have new:bR X.prog X.w (upd H s.heap.objs.size (.dK (lM [] kvs))) h' s.heap.objs.size (.dK (lM [] kvs)):=by
    refine yu (eE hml (eE (show _<=10000 by simp;omega) (by decide))) ?_ (rel.merge .nil) hD
    have hb:=I.big
    have:s.heap.objs.size≠sysModules:=oG hb
    simpa using this
  exact⟨.ref s.heap.objs.size,_,I.laid (t':=tk') k (aJ _) new,rfl,q _ (I.hok.fresh (aJ _))⟩
end L2
set_option maxRecDepth 100000
set_option maxHeartbeats 4000000
namespace L2
open PySem PySem.Spec PyProof.Rows
abbrev Ks:=List (Int×PyData)
def gh(ks:Ks)(k:Int):Option PyData:=(ks.find? fun p=>decide (p.1=k)).map (·.2)
def oz(ks:Ks)(k:Int):Bool:=ks.any fun p=>decide (p.1=k)
def oF(ks:Ks)(k:Int)(d:PyData):Ks:=if oz ks k then ks.map fun p=>if p.1=k then(p.1,d) else p else ks++[(k,d)]
theorem VJ(ks:Ks)(k:Int):(gh ks k).isSome=oz ks k:=by
  unfold gh oz
  rw[Ds]
  induction ks with
  |nil=>rfl
  | cons p r ih =>
    rw[kK,nO]
    by_cases h:p.1=k
    · simp[h]
    · simp only[h,decide_false,sD];exact ih
theorem OE{ks:Ks}{k:Int}:oz ks k=true↔k∈ks.map (·.1):=by
 unfold oz
 rw[oO,cI]
 constructor
 ·rintro⟨p,h1,h2⟩;exact⟨p,h1,by simpa using h2⟩
 ·rintro⟨p,h1,h2⟩;exact⟨p,h1,by simpa using h2⟩
theorem Nr{k:Int}:gh [] k=none:=rfl
theorem pX{p:Int×PyData}{r:Ks}{k:Int}:gh (p::r) k=if p.1=k then some p.2 else gh r k:=by
 unfold gh
 rw[kK]
 by_cases h:p.1=k<;>simp[h]
theorem YY{ks:Ks}{k j:Int}{d:PyData}:gh (ks++[(k,d)]) j=match gh ks j with|some x=>some x|none=>if j=k then some d else none:=by
  induction ks with
  | nil =>
    rw[List.nil_append,pX,Nr]
    by_cases h:k=j
    · subst h;simp
    · have h':¬j=k:=fun z=>h z.symm
      simp[h,h']
  | cons p r ih =>
    rw[nK,pX,pX,ih]
    by_cases h:p.1=j<;>simp[h]
section
variable{S:Addr->Prop}{H:Hp}
theorem aA.val:∀{ks:Ks} {ps:List (Key×V)} (k:Int),aA S H (ks.map bI) ps->match gh ks k with|some d=>∃v,cB ps (Sum.inl k)=some v/\ai S H d v|none=>cB ps (Sum.inl k)=none
  |[],ps,k,h=>by unfold aA at h;subst h;exact Yd
  | p :: r, ps, k, h => by
    rw[aY] at h
    unfold aA at h
    obtain⟨q,qs,rfl,h1,h2⟩:=h
    unfold cV at h1
    obtain⟨h3,h4⟩:=h1
    have h3:q.1=Sum.inl p.1:=h3
    rw[pX]
    have ih:=aA.val k h2
    by_cases e:p.1=k
    · rw[if_pos e]
      refine⟨q.2,?_,h4⟩
      rw[iZ (by rw[h3,e])]
    · rw[if_neg e,iI (fun z=>e (by rw[h3] at z;exact tQ z))]
      exact ih
theorem aA.snoc:∀{ks:Ks} {ps:List (Key×V)} {k:Int} {d:PyData} {v:V},aA S H (ks.map bI) ps->ai S H d v->aA S H ((ks++[(k,d)]).map bI) (ps++[(Sum.inl k,v)])
  | [], ps, k, d, v, h, hd => by
    unfold aA at h;subst h
    show aA S H [bI (k,d)] [(Sum.inl k,v)]
    unfold aA
    exact⟨_,_,rfl,by unfold cV;exact⟨rfl,hd⟩,by unfold aA;rfl⟩
  | p :: r, ps, k, d, v, h, hd => by
    rw[aY] at h
    unfold aA at h
    obtain⟨q,qs,rfl,h1,h2⟩:=h
    rw[nK,aY,nK]
    unfold aA
    exact⟨q,_,rfl,h1,aA.snoc h2 hd⟩
theorem aA.repl:∀{ks:Ks} {ps:List (Key×V)} {k:Int} {d:PyData} {v:V},aA S H (ks.map bI) ps->ai S H d v->aA S H ((ks.map fun p=>if p.1=k then(p.1,d) else p).map bI) (ps.map fun kv=>if kv.1=Sum.inl k then(kv.1,v) else kv)
  |[],ps,k,d,v,h,hd=>by unfold aA at h;subst h;simp only[iT];unfold aA;rfl
  | p :: r, ps, k, d, v, h, hd => by
    rw[aY] at h
    unfold aA at h
    obtain⟨q,qs,rfl,h1,h2⟩:=h
    rw[aY,aY,aY]
    unfold cV at h1
    obtain⟨h3,h4⟩:=h1
    have h3:q.1=Sum.inl p.1:=h3
    unfold aA
    refine⟨_,_,rfl,?_,aA.repl h2 hd⟩
    by_cases e:p.1=k
    · rw[if_pos e,if_pos (by rw[h3,e])]
      unfold cV
      exact⟨h3,hd⟩
    · rw[if_neg e,if_neg (fun z=>e (by rw[h3] at z;exact tQ z))]
      unfold cV
      exact⟨h3,h4⟩
theorem aA.any:∀{ks:Ks} {ps:List (Key×V)} (k:Int),aA S H (ks.map bI) ps->(ps.any fun kv=>decide (kv.1=Sum.inl k))=oz ks k:=fun{ks ps} k h=>by
 rw[nI,<-VJ]
 have:=aA.val k h
 cases hv:gh ks k with
 |none=>rw[hv] at this;rw[this];rfl
 |some d=>rw[hv] at this;obtain⟨v,e,_⟩:=this;rw[e];rfl
theorem aA.put{ks:Ks}{ps:List (Key×V)}{k:Int}{d:PyData}{v:V}(h:aA S H (ks.map bI) ps)(hd:ai S H d v):aA S H ((oF ks k d).map bI) (putK ps (Sum.inl k) v):=by
 unfold oF putK
 rw[aA.any k h]
 split
 ·exact aA.repl h hd
 ·exact aA.snoc h hd
theorem aA.len:∀{ks:Ks} {ps:List (Key×V)},aA S H (ks.map bI) ps->ps.length=ks.length
  |[],ps,h=>by unfold aA at h;subst h;rfl
  | p :: r, ps, h => by
    rw[aY] at h
    unfold aA at h
    obtain⟨q,qs,rfl,_,h2⟩:=h
    simp[aA.len h2]
theorem aA.keys:∀{ks:Ks} {ps:List (Key×V)},aA S H (ks.map bI) ps->ps.map (·.1)=(ks.map (·.1)).map Sum.inl
  |[],ps,h=>by unfold aA at h;subst h;rfl
  | p :: r, ps, h => by
    rw[aY] at h
    unfold aA at h
    obtain⟨q,qs,rfl,h1,h2⟩:=h
    unfold cV at h1
    have h3:q.1=Sum.inl p.1:=h1.1
    simp[aA.keys h2,h3]
end
def vf(G:Gx)(ρ:Rh)(te:TE)(Φ:Bool->Ks->Prop):Prop:=∀nb σ H (Q:VK),Wd G nb ρ σ H->
 (∀f a ps H' ks,Φ f ks->Step G.B H H'->H a=none->H' a=some (.dK ps)->aA (fun x=>G.S nb f x\/x=a) H' (ks.map bI) ps->Q (.ref a) H')->te σ H Q
section
variable{G:Gx}{ρ dN:Rh}{Φ Ψ:Pd}{ta tb te:TE}{t:TA}{i:Nat}{f g:Bool}{d e:PyData}{ks:Ks}{K:PySem.W.Frag}{E:DE}{Θ:Bool->Ks->Prop}
theorem Wd.grow{nb:Addr->Prop}{σ:St}{H H1:Hp}{a:Addr}{o:HO}(W:Wd G nb ρ σ H)(s1:Step G.B H H1)(ha:H a=none)(e:H1 a=some o):Wd G (fun x=>nb x\/x=a) ρ σ H1/\NB G.B a/\∀f x,G.S (fun x=>nb x\/x=a) f x->(G.S nb f x\/x=a):=by
  have hN:NB G.B a:=NB.new W.ay ha
  have hA:∀f x,G.S (fun x=>nb x\/x=a) f x->(G.S nb f x\/x=a):=fun f x z=>by
    rcases z with (z|z)|z|z|z
    · exact .inl (.inl z)
    · exact .inr z
    · exact .inl (.inr (.inl z))
    · exact .inl (.inr (.inr (.inl z)))
    · exact .inl (.inr (.inr (.inr z)))
  have W1:=W.step s1
  refine⟨?_,hN,hA⟩
  refine⟨W1.ay,fun x n=>?_,W1.old,fun x n q=>?_,W.gA,W.len,W.gB,fun h m=>(((W.fj h m).fresh ha).keep (s1.but fun x z=> .inl (.inr (.inr (.inl z))))).av (hA h.1),fun j s e'=>?_,W.apart,W.fG,W.dJ⟩
  · rcases n with n|n
    · exact W1.live x n
    · subst n;rw[e];exact je _
  · rcases n with n|n
    · exact W.dH x n q
    · subst n
      cases z:G.H0 x with
      |none=>rfl
      |some o=>rw[W.old x o q z] at ha;cases ha
  · obtain⟨x,e1,h⟩:=W.ok j s e'
    refine⟨x,e1,?_⟩
    cases s with
    |no=>trivial
    |d f d=>obtain⟨v,e,h⟩:=h;exact⟨v,e,((h.fresh ha).keep (s1.but fun x z=> .inl (.inr (.inr (.inl z))))).av (hA f)⟩
    |own c f es=>obtain⟨e,n,q,xs,hx,hd⟩:=h;exact⟨e, .inl n,q,xs,s1.1 _ _ q hx,((hd.fresh ha).keep (s1.but fun x z=> .inl (.inr (.inr (.inl z))))).av (hA f)⟩
    |ay=>exact h
    |raw v=>exact h
    |bZ c f es=>obtain⟨e,n,q,xs,hx,hd⟩:=h;exact⟨e, .inl n,q,xs,s1.1 _ _ q hx,((hd.fresh ha).keep (s1.but fun x z=> .inl (.inr (.inr (.inl z))))).av (hA f)⟩
    | cu c =>
      obtain⟨e,n,q⟩:=h
      refine⟨e,fun a ha=>⟨.inl (n a ha).1,(n a ha).2⟩,c.av (hA c.f) (c.keep (.of fun x o hx e=>s1.1 x o ?_ e) (c.fresh ha q))⟩
      rcases hx with hx|hx
      · exact fS fun z=>hx (.inl (.inr (.inr (.inl z))))
      · exact(n x hx).2
theorem Q9{nb:Addr->Prop}{σ:St}{H H1:Hp}{a:Addr}{ps:List (Key×V)}(W:Wd G nb ρ σ H)(s1:Step G.B H H1)(ha:H a=none)(e:H1 a=some (.dK ps))(hd:aA (fun x=>G.S nb f x\/x=a) H1 (ks.map bI) ps):
  Wd G (fun x=>nb x\/x=a) (ρ.set i (.bZ a f ks)) (σ.set i (some (.ref a))) H1:=by
 obtain⟨W2,hN,hA⟩:=W.grow s1 ha e
 refine W2.set ⟨rfl, .inr rfl,hN,ps,e,hd.av (hA f)⟩ (fun _ _ _ z=>by cases z) ?_ (fun x hx j t hj ht hc=>?_)
 rotate_left
 ·have hx:x=a:=aQ.mp hx
  subst hx
  rcases hc with ⟨c,z⟩|⟨c,rfl⟩
  ·cases z
  ·exact fun z=>W.live x ((W.ok j _ ht).choose_spec.2.2.1 x z).1 ha
 rintro a' f' ds' ⟨rfl,rfl,rfl⟩ j c g cs hj hc z
 subst z
 obtain⟨x,e1,h1,h2,h3,ys,hy,_⟩:=W.ok j _ hc
 rw[hy] at ha;cases ha
theorem Sv.VV(h:vf G ρ te fun f ks=>∀a,E.nx (ρ.set i (.bZ a f ks))):Sv G ρ (gZ te (fR i)) E:=fun nb σ H D W K=>h nb σ H _ W fun f a ps H1 ks q s1 ha e hd=>K.nx _ _ _ H1 (q a) (Q9 W s1 ha e hd)
theorem vf.new(h:Θ true []):vf G ρ zN Θ:=fun nb σ H Q W z p hp=>z true p [] _ [] h (.same W.ay (dR hp)) hp aX (by unfold aA;rfl)
@[reducible] def ZE(p:Int×PyData):PyData:= .tuple [.int p.1,p.2]
theorem WJ{nb:Addr->Prop}{σ:St}{H:Hp}{a:Addr}{ps:List (Key×V)}{ks':Ks}(W:Wd G nb ρ σ H)(e:ρ[i]?=some (.bZ a f ks))(hd:aA (G.S nb g) H (ks'.map bI) ps):Wd G nb (ρ.set i (.bZ a g ks')) σ (upd H a (.dK ps)):=by
 obtain⟨x,e1,h1,h2,h3,ys,hy,_⟩:=W.ok i _ e
 subst h1
 have hil:i<ρ.length:=(aP.mp e).1
 have W0:Wd G nb (ρ.set i .no) (σ.set i (some (.ref a))) H:=W.set trivial fun _ _ _ z=>by cases z
 have W1:Wd G nb (ρ.set i .no) (σ.set i (some (.ref a))) (upd H a (.dK ps)):=W0.write h2 h3 (fun j c f' cs hc z=>by
   subst z
   have hij:i≠j:=fun z=>by subst z;rw[cX hil] at hc;cases hc
   rw[bP hij] at hc
   obtain⟨_,_,_,_,_,ps,hp,_⟩:=W.ok j _ hc
   rw[hy] at hp;cases hp) (fun j c f' cs hc=>by
   by_cases hij:i=j
   ·subst hij;rw[cX hil] at hc;cases hc
   ·rw[bP hij] at hc
    exact(W.fG i j _ _ _ _ _ _ hij e hc).symm) (fun j c hc z=>by
   have hij:i≠j:=fun z=>by subst z;rw[cX hil] at hc;cases hc
   rw[bP hij] at hc
   exact W.dJ j i c _ (bx hij) hc e a z (aQ.mpr rfl))
 have W2:=W1.set (i:=i) (s:= .bZ a g ks') (x:=some (.ref a)) ⟨rfl,h2,h3,ps,aX,hd.keep (bh.set (.inl h2))⟩ (fun _ _ _ z=>by cases z) (by
  rintro a' f' ds' ⟨rfl,rfl,rfl⟩ j c g' cs hj hc
  rw[bP (bx hj)] at hc
  exact W.fG i j _ _ _ _ _ _ (bx hj) e hc) (fun x hx j t hj ht hc z=>by
  rw[bP (bx hj)] at ht
  have hx:x=a:=aQ.mp hx
  subst hx
  rcases hc with ⟨c,q⟩|⟨c,rfl⟩
  ·cases q
  ·exact W.dJ j i c _ hj ht e x z (aQ.mpr rfl))
 rw[jL,jL] at W2
 have:σ.set i (some (.ref a))=σ:=by
  apply gU
  intro j
  by_cases hij:i=j
  ·subst hij;rw[cX (by rw[W.len];exact hil),e1]
  ·rw[bP hij]
 rwa[this] at W2
theorem Sv.RL{a:Addr}(e:ρ[i]?=some (.bZ a f ks))(h:Ev G ρ te fun g d=>Ev G ρ tb fun _ y=>∃k,y= .int k/\ks.length<10000/\E.nx (ρ.set i (.bZ a (f && g) (oF ks k d)))):Sv G ρ (gZ te (oH (cQ i) tb uW)) E:=fun nb σ H D W KK=>
 h nb σ H _ W fun g v H1 d q s1 hv=>by
  obtain⟨x,e1,h1,h2,h3,ps,hp,hd⟩:=(W.step s1).ok i _ e
  subst h1
  refine⟨.ref a,e1,q nb σ H1 _ (W.step s1) fun g' u H2 y ⟨k,ey,hl,p⟩ s2 hu=>?_⟩
  subst ey
  have W2:=(W.step s1).step s2
  have hlen:=hd.len
  refine⟨a,ps, .inl k,rfl,hu.bX,s2.1 _ _ h3 hp,eK (by rw[hlen];exact hl) (by decide),KK.nx nb _ _ _ p (WJ W2 e ?_)⟩
  exact aA.put ((hd.keep s2.dX).av (bK (fun z=>(cD _ _▸z).1) fun _ z=>z)) ((hv.keep s2.dX).av (bK (fun z=>(cD _ _▸z).2) fun _ z=>z))
namespace Ev
theorem ZX{a:Addr}(e:ρ[i]?=some (.bZ a f ks))(h:Ev G ρ tb fun _ y=>∃k,y= .int k/\∃d,gh ks k=some d/\Φ f d):Ev G ρ (c6 jQ (cQ i) tb) Φ:=fun nb σ H Q W z=>by
 obtain⟨x,e1,h1,h2,h3,ps,hp,hd⟩:=W.ok i _ e
 subst h1
 refine⟨.ref a,e1,h nb σ H _ W fun g w H1 y ⟨k,ey,d,hv,p⟩ s1 hw=>?_⟩
 subst ey
 have:=aA.val k (hd.keep s1.dX)
 rw[hv] at this
 obtain⟨v,hv',hD⟩:=this
 exact⟨a,ps, .inl k,v,rfl,hw.bX, .inl (s1.1 _ _ h3 hp),hv',z f _ H1 _ p s1 hD⟩
theorem XT{a:Addr}(e:ρ[i]?=some (.bZ a f ks))(h:Ev G ρ ta fun _ y=>∃k,y= .int k/\Ev G ρ tb fun g x=>Φ (f && g) ((gh ks k).getD x)):Ev G ρ (lA K "dict" wD (cQ i) (bq ta (bq tb bT))) Φ:=fun nb σ H Q W z=>by
  obtain⟨x,e1,h1,h2,h3,ps,hp,hd⟩:=W.ok i _ e
  subst h1
  refine⟨.ref a,e1, .inr (.inr (.inl ⟨rfl, .inl ⟨_,hp⟩⟩)),?_⟩
  refine h nb σ H _ W fun g w H1 y ⟨k,ey,q⟩ s1 hw=>q nb σ H1 _ (W.step s1) fun g' u H2 x p s2 hu=>?_
  subst ey
  have hd2:=(hd.keep s1.dX).keep s2.dX
  have hv:=aA.val k hd2
  refine⟨a,ps, .inl k,u,rfl,by rw[hw.bX];rfl, .inl (s2.1 _ _ h3 (s1.1 _ _ h3 hp)),?_⟩
  cases hk:gh ks k with
  | none =>
    rw[hk] at hv p
    rw[hv]
    exact z _ _ H2 _ p (s1.trans s2) (hu.av (bK (fun z=>(cD _ _▸z).2) fun _ z=>z))
  | some d =>
    rw[hk] at hv p
    obtain⟨v,e',hD⟩:=hv
    rw[e']
    exact z _ _ H2 _ p (s1.trans s2) (hD.av (bK (fun z=>(cD _ _▸z).1) fun _ z=>z))
end Ev
end
def Be(ng:Bool):R2:=fun x y H Q=>∃a o,y= .ref a/\rP H a x o/\Q (.bl (o.isSome !=ng)) H
theorem GU{X:Cx}(hu:X.A.units+64<cLine):eW X (compareOp .In) (Be false):=by
 intro pins s σ H x y v u Q I rx ry h
 obtain⟨a,o,rfl,g,q⟩:=h
 cases ry
 exact WM (by omega) I g rx fun s' I'=>⟨.bl o.isSome,H,I',rfl,by simpa using q⟩
section
variable{G:Gx}{ρ:Rh}{Φ:Pd}{ta tb te:TE}{i:Nat}{f:Bool}{ks:Ks}{K:PySem.W.Frag}{E:DE}
theorem UU{nb:Addr->Prop}{σ:St}{H:Hp}{a:Addr}(W:Wd G nb ρ σ H)(e:ρ[i]?=some (.bZ a f ks)):Wd G (fun x=>nb x/\x≠a) (ρ.set i (.d f (.dict (ks.map bI)))) σ H:=by
  obtain⟨x,e1,h1,h2,h3,xs,hx,hd⟩:=W.ok i _ e
  subst h1
  have hil:i<ρ.length:=(aP.mp e).1
  have W0:Wd G nb (ρ.set i .no) (σ.set i (some (.ref a))) H:=W.set trivial fun _ _ _ z=>by cases z
  have W1:Wd G (fun x=>nb x/\x≠a) (ρ.set i .no) (σ.set i (some (.ref a))) H:=by
    refine⟨W0.ay,fun x n=>W0.live x n.1,W0.old,fun x n=>W0.dH x n.1,W0.gA,W0.len,W0.gB,fun h m=>(W0.fj h m).av (bK (fun z=>z) fun _ z=>z.1),fun j s e'=>?_,W0.apart,W0.fG,W0.dJ⟩
    obtain⟨x,jm,h⟩:=W0.ok j s e'
    refine⟨x,jm,?_⟩
    have hij:s≠ .no->i≠j:=fun n z=>by subst z;rw[cX hil] at e';cases e';exact n rfl
    cases s with
    |no=>trivial
    |d f d=>obtain⟨v,e,h⟩:=h;exact⟨v,e,h.av (bK (fun z=>z) fun _ z=>z.1)⟩
    | own c f es =>
      obtain⟨e2,n,q,ys,hy,hd'⟩:=h
      have hca:c≠a:=fun z=>by subst z;rw[hx] at hy;cases hy
      exact⟨e2,⟨n,hca⟩,q,ys,hy,hd'.av (bK (fun z=>z) fun _ z=>z.1)⟩
    |ay=>exact h
    |raw v=>exact h
    | bZ c f es =>
      obtain⟨e2,n,q,ps,hp,hd'⟩:=h
      have hij:=hij (by intro z;cases z)
      rw[bP hij] at e'
      exact⟨e2,⟨n,(W.fG i j _ _ _ _ _ _ hij e e').symm⟩,q,ps,hp,hd'.av (bK (fun z=>z) fun _ z=>z.1)⟩
    | cu c =>
      obtain⟨e2,n,q⟩:=h
      have hij:=hij (by intro z;cases z)
      rw[bP hij] at e'
      exact⟨e2,fun x hx=>⟨⟨(n x hx).1,fun z=>W.dJ j i c _ (bx hij) e' e x hx (by rw[z];exact aQ.mpr rfl)⟩,(n x hx).2⟩,c.av (bK (fun z=>z) fun _ z=>z.1) q⟩
  have W2:=W1.nk (i:=i) (f:=f) (d:= .dict (ks.map bI)) (v:= .ref a) (by
    unfold ai
    refine⟨a,xs,rfl,fun z=>?_, .inl hx,hd.av (bK (fun z=>z) fun _ z=>z.1)⟩
    rcases z with z|z|z|z
    · exact z.2 rfl
    · exact W.gA a z (W.dH a h2 h3)
    · exact z h3
    · exact z.2 (W.dH a h2 h3))
  rw[jL,jL] at W2
  have:σ.set i (some (.ref a))=σ:=by
    apply gU
    intro j
    by_cases hij:i=j
    · subst hij;rw[cX (by rw[W.len];exact hil),e1]
    · rw[bP hij]
  rwa[this] at W2
theorem Sv.Ma{s:TS}{a:Addr}(i:Nat)(e:ρ[i]?=some (.bZ a f ks))(h:Sv G (ρ.set i (.d f (.dict (ks.map bI)))) s E):Sv G ρ s E:=fun nb σ H D W K=>h _ σ H D (UU W e) K
theorem Ev.n6(h:Ev G ρ ta fun f x=>∃ks:Ks,x= .dict (ks.map bI)/\Ev G ρ tb fun _ y=>∃k,y= .int k/\∃d,gh ks k=some d/\Φ f d):Ev G ρ (c6 jQ ta tb) Φ:=
 Ev.jD (h.mono fun f x ⟨ks,ex,q⟩=>q.mono fun g y ⟨k,ey,d,hv',p⟩ nb σ H u v Q W hu hv z=>by
  subst ex ey
  unfold ai at hu
  obtain⟨a,ps,rfl,n,hp,hd⟩:=hu
  have:=aA.val k hd
  rw[hv'] at this
  obtain⟨w,hw,hD⟩:=this
  exact⟨a,ps, .inl k,w,rfl,hv.bX,hp,hw,z f _ H _ p (.refl W.ay) hD⟩)
end
end L2
set_option maxRecDepth 100000
set_option maxHeartbeats 4000000
namespace L2
open PySem PySem.Spec PyProof.Rows
section
variable{prog:Program}{w:World}{A:Around}{E:Value->Shared->Prop}{s:Shared}
theorem Pa{l:Addr}{vs:List Value}{ns:List Int}{Q:Value->Shared->Prop}(hl:s.heap.IsList l vs.toArray)(hI:IntsAre vs ns)(hz:vs.length<64)
  (h:∀(out:Array Value) (ns':List Int),IntsAre out.toList ns'->ns'.Perm ns->ns'.Pairwise (· <= ·)->Q (.ref (s.heap.objs.size+1)) {s with heap:=sortedAll s.heap vs out}):
  wpAny (model prog w) A (call (.builtin "sorted") [.ref l]) Q E s:=by
 have hZ:vs.length<=sizeLine:=by rw[sizeLine_eq];omega
 refine C4 kind_sorted plain_sorted entry_sorted (args_sorted1 _) ?_
 unfold Builtin.«sorted»
 refine wpAny_bind (m:=checkCount "sorted" 1 1 _) (wpAny_pure ?_)
 refine wpAny_bind (collect_list hl ?_ (hsz:=hZ))
 refine wpAny_bind (wpAny_newList ?_)
 have hsz:((s.heap.push (seqObj "list" #[] 0)).update s.heap.objs.size (Obj.mapSeq (· ++vs.toArray))).objs.size=s.heap.objs.size+1:=by
  rw[Heap.size_update,size_push']
 have uG:(((s.heap.push (seqObj "list" #[] 0)).update s.heap.objs.size (Obj.mapSeq (· ++vs.toArray))).push (seqObj "list" vs.toArray 0)).get? (s.heap.objs.size+1)=some (seqObj "list" vs.toArray 0):=by
  rw[<-hsz];exact fk _ rfl
 show wpAny _ _ _ _ _ {s with heap:=((s.heap.push (seqObj "list" #[] 0)).update s.heap.objs.size (Obj.mapSeq (· ++vs.toArray))).push (seqObj "list" vs.toArray 0)}
 rw[hsz]
 refine wpAny_bind (wpAny_holding (wpAny_call_entry slot_list_sort ⟨_,uG,rfl⟩ entry_list_sort (list_sort_tree uG hI hz fun out ns' a1 a2 a3=>⟨_,rfl,?_⟩) (args_list_sort _)))
 exact wpAny_pure ⟨_,rfl,h out ns' a1 a2 a3⟩
end
def Cy(K:PySem.W.Frag):List V->Hp->VK->Prop:=fun xs H Q=>∃p,∃ns:List Int,xs=[.ref p]/\aV K H p (ns.map V.int)/\ns.length<64/\∀rs:List Int,rs.Perm ns->rs.Pairwise (· <= ·)->∀l,H l=none->Q (.ref l) (upd H l (.lst (rs.map V.int)))
theorem Ow{X:Cx}:fF X (.builtin "sorted") (Cy X.K):=by
 intro pins s σ H xs us Q I rv h
 obtain⟨p,ns,rfl,hp,hn,q⟩:=h
 obtain⟨u,rfl,ru⟩:=vals1 rv
 cases ru
 obtain⟨its,rs,il,hz⟩:=I.list hp
 have hI:=rN rs
 have hlen:=hI.length
 refine Pa (vs:=its) il.isList hI (by omega) fun out ns' h1 h2 h3=>?_
 obtain⟨e,ge⟩:=sortedAll_at s.heap its out
 have new:bR X.prog X.w (upd H (s.heap.objs.size+1) (.lst (ns'.map V.int))) (sortedAll s.heap its out) (s.heap.objs.size+1) (.lst (ns'.map V.int)):=by
  refine⟨?_,out.toList,e,tW h1,by simpa using ge⟩
  rw[aj,h2.length_eq];exact eE (jr hn) (by decide)
 exact⟨.ref (s.heap.objs.size+1),_,I.laid (t':=s.toks) (fun b o z=>sortedAll_old z) (mS _) new,rfl,q _ h2 h3 _ (I.hok.fresh (mS _))⟩
theorem aC.M1{G:Gx}{ρ:Rh}{te:TE}{K:PySem.W.Frag}{Θ:Bool->List PyData->Prop}(h:Ev G ρ te fun _ x=>∃ns:List Int,x= .list (ns.map .int)/\ns.length<64/\∀rs:List Int,rs.Perm ns->rs.Pairwise (· <= ·)->Θ true (rs.map .int)):
  aC G ρ (fN (Cy K) (bq te bT)) Θ:=fun nb σ H Q W z=>
 h nb σ H _ W fun f v H1 x ⟨ns,ex,hn,q⟩ s1 hv=>by
  subst ex
  obtain⟨a,xs,rfl,na,hx,hd⟩:=hv.fB
  have e:=nE hd
  subst e
  refine⟨a,ns,rfl, .of hx,hn,fun rs hp hw l hl=>?_⟩
  exact aC.fin (f:=true) W s1 hl (qT rs) (q rs hp hw) z
end L2
set_option maxRecDepth 100000
set_option maxHeartbeats 4000000
namespace L2
open PySem PySem.Spec PyProof.Rows
structure Qk(n:Int)(cs:List aq):Prop where
 n0:1<=n
 n1:n<=10
 c0:cs≠[]
 c1:cs.length<=8
 ok:∀prs∈cs,prs≠[]/\prs.length<=4/\(prs.map (·.1)).Pairwise (· < ·)/\∀pr∈prs,0<=pr.1/\pr.1<n
section
variable{n:Int}{cs:List aq}(h:Qk n cs)
include h
end
end L2
set_option maxRecDepth 100000
set_option maxHeartbeats 4000000
namespace L2
open PySem PySem.Spec PyProof.Rows
theorem Wv:∀m n:Nat,∃u v:Int,u*m+v*n=(Nat.gcd m n:Int):=fun m n=>by
  induction m,n using Nat.gcd.induction with
  |H0 n=>exact⟨0,1,by simp⟩
  | H1 m n hm ih =>
    obtain⟨u,v,e⟩:=ih
    rw[Nat.gcd_rec]
    refine⟨v-u*(n/m:Nat),u,?_⟩
    rw[<-e]
    have h:(n:Int)=((n%m:Nat):Int)+(m:Int)*((n/m:Nat):Int):=by exact_mod_cast (Nat.mod_add_div n m).symm
    generalize ((n/m:Nat):Int)=z at h⊢
    generalize ((n%m:Nat):Int)=y at h⊢
    rw[h]
    grind
theorem yS{p b a:Int}(hp:gv p)(hb:b%p≠0):∃k,b*sol p b a-a=p*k:=by
 have p2:=hp.1
 have hex:∃x,0<=x/\x<p/\∃k,b*x-a=p*k:=by
  have hg:Nat.gcd p.natAbs b.natAbs=1:=by
   have d1:(Int.gcd p b:Int)∣p:=Int.gcd_dvd_left ..
   have d2:(Int.gcd p b:Int)∣b:=Int.gcd_dvd_right ..
   have h0:0<(Int.gcd p b:Int):=by
    have:Int.gcd p b≠0:=fun z=>by have:=(GJ.mp z).1;omega
    omega
   rcases hp.2 _ h0 d1 with e|e
   ·show Int.gcd p b=1
    omega
   ·rw[e] at d2;exact absurd (qD d2) hb
  obtain⟨u,v,e⟩:=Wv p.natAbs b.natAbs
  rw[hg] at e
  obtain⟨v',e'⟩:∃v',u*p+v'*b=1:=by
   have w6:(p.natAbs:Int)=p:=by omega
   rw[w6] at e
   rcases(show(b.natAbs:Int)=b\/(b.natAbs:Int)= -b by omega) with h|h<;>rw[h] at e
   ·exact⟨v,e⟩
   ·exact⟨-v,by have e2:u*p+v* -b=1:=e;rw[<-e2];grind⟩
  refine⟨(v'*a)%p,eS _ (by omega),eF _ (by omega),?_⟩
  have h1:=J4 (v'*a) p
  generalize v'*a/p=t at h1
  generalize hx:v'*a%p=x at h1
  refine⟨-u*a-b*t,?_⟩
  have:b*x=b*(v'*a)-b*(p*t):=by rw[<-h1];grind
  rw[this]
  have h2:b*(v'*a)=(1-u*p)*a:=by rw[<-e'];grind
  rw[h2]
  grind
 unfold sol
 rw[dif_pos hex]
 exact(tK hex).2.2
end L2
set_option maxRecDepth 100000
set_option maxHeartbeats 4000000
namespace L2
open PySem PySem.Spec PyProof.Rows
theorem ah.era{nb:Addr->Prop}{H:Hp}:∀{ds:List PyData} {xs:List V} (m:Nat),ah nb H ds xs->ah nb H (ds.eraseIdx m) (xs.eraseIdx m)
 |[],_,m,h=>by unfold ah at h;subst h;exact .nil
 |e::ds,_,0,h=>by unfold ah at h;obtain⟨y,ys,rfl,h1,h2⟩:=h;exact h2
 |e::ds,_,m+1,h=>by unfold ah at h;obtain⟨y,ys,rfl,h1,h2⟩:=h;exact .cons h1 (ah.era m h2)
section
variable{G:Gx}{ρ:Rh}{te:TE}{E:DE}{i j:Nat}{f:Bool}{ds:List PyData}{K:PySem.W.Frag}
theorem Sv.Uv{a:Addr}(e:ρ[i]?=some (.own a f ds))(h:Ev G ρ te fun _ y=>∃(m:Nat) (d:PyData),y= .int (m:Int)/\m<2^62/\ds[m]?=some d/\E.nx ((ρ.set i (.own a f (ds.eraseIdx m))).set j (.d f d))):
  Sv G ρ (gZ (lA K "list" DW (cQ i) (bq te bT)) (fR j)) E:=fun nb σ H D W KK=>by
 obtain⟨x,e1,h1,h2,h3,xs,hx,hd⟩:=W.ok i _ e
 subst h1
 refine⟨.ref a,e1, .inl ⟨rfl,_,aV.of hx⟩,h nb σ H _ W fun g v H1 y ⟨m,d,ey,hm,yE,q⟩ s1 hv=>?_⟩
 subst ey
 have hk:=hv.bX
 subst hk
 have W1:=W.step s1
 have sQ:=s1.1 _ _ h3 hx
 have hd1:=hd.keep s1.dX
 obtain⟨y',hy',hD⟩:=hd1.get yE
 have hml:m<xs.length:=(aP.mp hy').1
 have hix:seqIndex? (m:Int) xs.length=some m:=by
  have:fy xs.length (m:Int)=some m:=by
   unfold fy
   rw[if_pos (by omega),if_pos (by omega),eX]
  exact(wO this).1
 refine⟨a,xs,(m:Int),m,y',rfl,rfl,sQ,by omega,by omega,hix,hy',?_⟩
 have W2:=sJ W1 e (hd1.era m)
 exact KK.nx nb _ _ _ q (W2.nk (hD.keep (bh.set (.inl h2))))
theorem Sv.UK{K2:PySem.W.Frag}{a c:Addr}{g:Bool}{es:List PyData}(hij:i≠j)(e:ρ[i]?=some (.own a f ds))(ej:ρ[j]?=some (.own c g es))
  (h:Ev G ρ te fun _ y=>∃(m:Nat) (d:PyData),y= .int (m:Int)/\m<2^62/\es[m]?=some d/\ds.length<10000/\E.nx ((ρ.set j (.own c g (es.eraseIdx m))).set i (.own a (f && g) (ds++[d])))):
  Sv G ρ (sI (lA K "list" xy (cQ i) (bq (lA K2 "list" DW (cQ j) (bq te bT)) bT))) E:=fun nb σ H D W KK=>by
 obtain⟨x,e1,h1,h2,h3,xs,hx,hd⟩:=W.ok i _ e
 subst h1
 obtain⟨y,e2,k1,k2,k3,ys,hy,he⟩:=W.ok j _ ej
 subst k1
 have hac:a≠c:=W.apart i j _ _ _ _ _ _ hij e ej
 refine⟨.ref a,e1, .inl ⟨rfl,_,aV.of hx⟩, .ref c,e2, .inl ⟨rfl,_,aV.of hy⟩,h nb σ H _ W fun b v H1 z ⟨m,d,ez,hm,yE,hl,q⟩ s1 hv=>?_⟩
 subst ez
 have hk:=hv.bX
 subst hk
 have W1:=W.step s1
 have sQ:=s1.1 _ _ h3 hx
 have hy1:=s1.1 _ _ k3 hy
 have hd1:=hd.keep s1.dX
 have IC:=he.keep s1.dX
 obtain⟨y',hy',hD⟩:=IC.get yE
 have hml:m<ys.length:=(aP.mp hy').1
 have hix:seqIndex? (m:Int) ys.length=some m:=by
  have:fy ys.length (m:Int)=some m:=by
   unfold fy
   rw[if_pos (by omega),if_pos (by omega),eX]
  exact(wO this).1
 refine⟨c,ys,(m:Int),m,y',rfl,rfl,hy1,by omega,by omega,hix,hy',?_⟩
 have W2:=sJ W1 ej (IC.era m)
 have bt:=(bh.set (.inl k2):bh (G.S nb true) H1 (upd H1 c (.lst (ys.eraseIdx m))))
 have eI:(ρ.set j (.own c g (es.eraseIdx m)))[i]?=some (.own a f ds):=by rw[bP (bx hij)];exact e
 refine⟨a,xs,y',rfl,rfl,by rw[au hac];exact sQ,eK (by rw[hd.length];exact hl) (by decide),KK.nx nb _ _ _ q (sJ W2 eI ?_)⟩
 exact ah.snoc ((hD.keep (bh.set (.inl k2))).av (bK (fun z=>(cD _ _▸z).2) fun _ z=>z)) ((hd1.keep (bh.set (.inl k2))).av (bK (fun z=>(cD _ _▸z).1) fun _ z=>z))
end
end L2
set_option maxRecDepth 100000
set_option maxHeartbeats 4000000
namespace L2
open PySem PySem.Spec PyProof.Rows
def sN(p d:Addr):HO:= .ext fun h=>h.IsValuesView p d
theorem KV.vals:∀{kvs:List (Key×V)} {vs:List (Key×Value)},KV kvs vs->Vals (kvs.map (·.2)) (vs.map (·.2))
 |[],[],_=> .nil
 |a::r,b::t, .cons h1 h2=> .cons h1.2 (KV.vals h2)
theorem aA.vals{S:Addr->Prop}{H:Hp}:∀{ks:Ks} {ps:List (Key×V)},aA S H (ks.map bI) ps->ah S H (ks.map (·.2)) (ps.map (·.2))
  |[],ps,h=>by unfold aA at h;subst h;exact .nil
  | p :: r, ps, h => by
    rw[aY] at h
    unfold aA at h
    obtain⟨q,qs,rfl,h1,h2⟩:=h
    unfold cV at h1
    exact .cons h1.2 (aA.vals h2)
def jJ(G:Gx)(ρ:Rh)(te:TE)(Φ:PyData->Prop):Prop:=∀nb σ H (Q:VK),Wd G nb ρ σ H->(∀v H' d,Φ d->Step G.B H H'->ai (fun a=>H a≠none) H' d v->Q v H')->te σ H Q
section
variable{G:Gx}{ρ:Rh}{ta tb te:TE}{t:TA}{E:DE}{i j k m:Nat}{f:Bool}{K:PySem.W.Frag}{Φ:PyData->Prop}
theorem Wd.GF{nb:Addr->Prop}{σ:St}{H H1:Hp}{a:Addr}(W:Wd G nb ρ σ H)(s:Step G.B H H1)(h:H a≠none):H1 a≠none:=fun e=>h (W.none_of s e)
theorem jJ.k7{n:Nat}{F:DF}(hm:cU F)(e:ρ[i]?=some .ay)(h:Av G ρ t fun es=>es.length+1=n/\F (es.map (·.2)) fun f d=>f=true/\Φ d):jJ G ρ (ju (fY n F) [] E0 (bq (cQ i) t)) Φ:=fun nb σ H Q W z=>by
 obtain⟨b,l,hB,e1,B⟩:=W.wN e
 refine⟨.ref b,e1,h nb σ H _ W fun es vs H1 ⟨hl,p⟩ s1 q1=>?_⟩
 have W1:=W.step s1
 show fY n F ((V.ref b::vs)++[]) H1 Q E0
 rw[eN]
 have hb:∀f,G.S nb f b:=fun f=> .inr (.inr (.inl fun n=>n b l hB rfl))
 refine⟨by rw[j7,q1.len,hl],b,l,vs,G.S nb (jf es),es.map (·.2),rfl,W1.ay b l hB,W1.nL,hb _,q1.all fun z=>z,hm _ _ _ p fun f d ⟨hf,hp⟩ v H' bt B' hd=>z v H' d hp (s1.trans (.vW hB bt B')) (hd.av fun a q=>?_)⟩
 exact .inr ⟨hf,W.GF s1 q⟩
theorem jJ.bH{n:Nat}{F:DF}(hm:cU F)(h:Av G ρ t fun es=>es.length=n/\F (es.map (·.2)) fun f d=>f=true/\Φ d):jJ G ρ (ju (aS n F) [] E0 t) Φ:=fun nb σ H Q W z=>
 h nb σ H _ W fun es vs H1 ⟨hl,p⟩ s1 q1=>by
  have W1:=W.step s1
  rw[eN]
  refine⟨by rw[q1.len,hl],G.S nb (jf es),es.map (·.2),W1.nL,q1.all fun z=>z,hm _ _ _ p fun f d ⟨hf,hp⟩ v H' sm hd=>z v H' d hp (s1.trans (.same W1.ay sm)) (hd.av fun a q=>?_)⟩
  exact .inr ⟨hf,W.GF s1 q⟩
end
end L2
set_option maxRecDepth 100000
set_option maxHeartbeats 1000000
set_option maxRecDepth 100000
set_option maxHeartbeats 4000000
namespace L2
open PySem PySem.Spec PyProof.Rows
def Pj(kC:List Int)(prs:aq):Nat:=(prs.filter fun pr=>decide (pr.1∈kC)).length
def I0(cs:List aq)(kC:List Int):Bool:=cs.all fun prs=>decide (Pj kC prs≠1)
def Lr(rows:List (List Int))(kC:List Int):List Int:=kC.flatMap fun p=>rows.getD p.toNat []
def k9(L:List Int)(ks:Ks):Prop:=∃ms:List Int,ms.Nodup/\(∀c,c∈ms↔c∈L)/\ks=ms.map fun c=>(c,PyData.int (L.count c))
theorem sj{g:Int->PyData}{c:Int}:∀{ms:List Int},gh (ms.map fun c=>(c,g c)) c=if c∈ms then some (g c) else none
  |[]=>rfl
  | m :: ms => by
    rw[aY,pX,sj]
    by_cases h:m=c
    · subst h;simp
    · have h':¬c=m:=fun z=>h z.symm
      simp[h,h']
theorem k9.nil:k9 [] []:=⟨[],mJ,fun _=>Iff.rfl,rfl⟩
theorem k9.get{L:List Int}{ks:Ks}(h:k9 L ks)(c:Int):(gh ks c).getD (.int 0)= .int (L.count c):=by
 obtain⟨ms,nd,hm,rfl⟩:=h
 rw[sj]
 by_cases e:c∈ms
 ·rw[if_pos e];rfl
 ·rw[if_neg e]
  have:L.count c=0:=List.count_eq_zero.mpr fun z=>e ((hm c).mpr z)
  rw[this];rfl
theorem k9.put{L:List Int}{ks:Ks}(h:k9 L ks)(c:Int):k9 (L++[c]) (oF ks c (.int ((L.count c:Int)+1))):=by
 obtain⟨ms,nd,hm,rfl⟩:=h
 have hcc:∀x,(L++[c]).count x=L.count x+if c=x then 1 else 0:=fun x=>by
  rw[wU,z5]
  by_cases e:c=x
  ·subst e;simp
  ·simp[e]
 unfold oF
 have hk:oz (ms.map fun c=>(c,PyData.int (L.count c))) c=decide (c∈ms):=by
  rw[nJ,OE,dw,decide_eq_true_eq]
  have:(ms.map ((·.1)∘fun c=>(c,PyData.int (L.count c))))=ms:=List.map_id'' (fun _=>rfl) ms
  rw[this]
 rw[hk]
 by_cases e:c∈ms
 ·rw[if_pos (decide_eq_true e)]
  refine⟨ms,nd,fun x=>?_,?_⟩
  ·rw[dg,aQ,hm x]
   exact⟨.inl,fun z=>z.elim id fun z=>by rw[z];exact(hm c).mp e⟩
  ·rw[dw]
   apply fX
   intro x hx
   show(if x=c then(x,PyData.int ((L.count c:Int)+1)) else(x, .int (L.count x)))=_
   rw[hcc x]
   by_cases z:x=c
   ·subst z;simp
   ·rw[if_neg z,if_neg (fun w=>z w.symm)];rfl
 ·rw[if_neg (by simpa using e)]
  refine⟨ms++[c],?_,fun x=>?_,?_⟩
  ·rw[pe]
   exact⟨nd,by simp,fun a ha b hb z=>by rw[aQ.mp hb] at z;exact e (z▸ha)⟩
  ·rw[dg,dg,hm x]
  ·rw[cZ]
   congr 1
   ·apply fX
    intro x hx
    rw[hcc x,if_neg (fun w=>by subst w;exact e hx)];rfl
   ·show[(c,PyData.int ((L.count c:Int)+1))]=[(c,PyData.int (((L++[c]).count c:Nat):Int))]
    rw[hcc c,if_pos rfl];rfl
end L2
set_option maxRecDepth 100000
set_option maxHeartbeats 4000000
namespace L2
open PySem PySem.Spec PyProof.Rows
theorem yC{α:Type}{d:α}:∀{ds:List α} {r:Nat},ds[r]?=some d->(d::ds.eraseIdx r).Perm ds
 |x::ds,0,e=>by simp at e;subst e;exact .refl _
 |x::ds,r+1,e=>(List.Perm.swap x d _).trans ((yC (ds:=ds) (r:=r) (by simpa using e)).cons x)
 |[],r,e=>by simp at e
end L2
set_option maxRecDepth 100000
set_option maxHeartbeats 4000000
namespace L2
open PySem PySem.Spec PyProof.Rows
section
variable{G:Gx}{ρ:Rh}{ta tb te:TE}{t:TA}{E:DE}{i j m n:Nat}{f:Bool}{K K2 K3:PySem.W.Frag}{Φ:Pd}
theorem Ev.JC(h:jJ G ρ te fun d=>Φ true d):Ev G ρ te Φ:=fun nb σ H Q W z=>h nb σ H Q W fun v H' d p st hd=>z true v H' d p st (hd.av fun a q=>W.nL a q)
end
structure Fp(cs:List aq)(kC g:List Int):Prop where
 sub:∃q:Int->Bool,g=kC.filter q
 out:I0 cs g=true
 max:∀T:List Int,(∀x∈T,x∈kC)->I0 cs T=true->∀x∈T,x∈g
@[reducible] def ZJ(S:List Int):Ks:=S.map fun x=>(x,PyData.bool true)
end L2
set_option maxRecDepth 100000
set_option maxHeartbeats 4000000
namespace L2
open PySem PySem.Spec PyProof.Rows
theorem Fp.mem{cs:List aq}{kC g:List Int}(h:Fp cs kC g):∀x∈g,x∈kC:=fun x hx=>by
 obtain⟨q,e⟩:=h.sub
 rw[e] at hx
 exact(fQ.mp hx).1
end L2
set_option maxRecDepth 100000
set_option maxHeartbeats 4000000
namespace L2
open PySem PySem.Spec PyProof.Rows
def FY(row:List Int):Int:=match row.getLast? with|none=>0|some l=>l+1
def QS(n:Int)(row:List Int):List Int:=(List.range (n-FY row).toNat).map fun(i:Nat)=>FY row+(i:Int)
def ext(n:Int)(row:List Int):List (List Int):=(QS n row).map fun p=>row++[p]
@[reducible] def ZH:Option (List Int)->PyData
 |none=> .none
 |some r=>aI r
end L2
set_option maxRecDepth 100000
set_option maxHeartbeats 4000000
set_option maxRecDepth 100000
set_option maxHeartbeats 4000000
set_option maxRecDepth 100000
set_option maxHeartbeats 4000000
set_option maxRecDepth 100000
set_option maxHeartbeats 4000000
namespace L2
open PySem PySem.Spec PyProof.Rows
def gI(r:List Int)(i:Nat):Int:=r.getD i 0
theorem Ev.inv{G:Gx}{ρ:Rh}{t:TA}{Φ:Pd}(h:Av G ρ t fun es=>∃p b:Int,es.map (·.2)=[.int p, .int b]/\gv p/\p<10^40/\b%p≠0/\∀u:Int,0<=u->u<p->(∃k,u*b=1+p*k)->Φ true (.int u)):
  Ev G ρ (ju zV [] E0 t) Φ:=fun nb σ H Q W z=>
 h nb σ H _ W fun es vs H1 ⟨p,b,e,h1,h2,h3,q⟩ s1 q1=>by
  have hd:=q1.all (f:=false) (fun z=>by cases z)
  rw[e] at hd
  unfold ah at hd
  obtain⟨x,ys,rfl,d1,hd⟩:=hd
  unfold ah at hd
  obtain⟨y,zs,rfl,d2,hd⟩:=hd
  unfold ah at hd
  subst hd
  rw[d1.bX,d2.bX]
  exact⟨p,b,rfl,h1,h2,h3,fun u u0 u1 u2=>z true _ H1 _ (q u u0 u1 u2) s1 (.int u)⟩
def co(prs:aq)(j:Nat):Int:=(prs.map fun pr=>if pr.1.toNat=j then pr.2 else 0).sum
def lE(p:Int)(m:Nat)(prs:aq):Prop:=(prs.map (·.1)).Nodup/\prs.length<=1000/\∀pr∈prs,0<=pr.1/\pr.1<m/\1<=pr.2/\pr.2<p
theorem jJ.K8{G:Gx}{ρ:Rh}{te:TE}{f:Bool}{Ψ:PyData->Prop}{a:Addr}{ds:List PyData}(i:Nat)(e:ρ[i]?=some (.own a f ds))(h:jJ G (ρ.set i (.d f (.list ds))) te Ψ):jJ G ρ te Ψ:=fun nb σ H Q W z=>h _ σ H Q (Sv.share W e) z
end L2
set_option maxRecDepth 100000
set_option maxHeartbeats 4000000
namespace L2
open PySem PySem.Spec PyProof.Rows
def o6(a:Addr)(o:Obj)(ps:List (Key×V)):It:=
 ⟨fun i H=>H a=some (.cA o (.dK ps))/\i<ps.length,fun i H x H'=>H'=H/\∃p,ps[i]?=some p/\x=kV p.1,fun i H=>H a=some (.cA o (.dK ps))/\ps.length=i⟩
theorem MT{P:Program}{w:World}{k:Key}{v:Value}(h:(dP P w).is k v=true):RelV (kV k) v:=by
 cases k with
 |inl i=>obtain⟨t,rfl⟩:=rL (k:=i) (v:=v) h;exact⟨t,rfl⟩
 |inr x=>obtain⟨t,rfl⟩:=Value.isStrOf_shape (v:=v) h;exact⟨t,rfl⟩
theorem Vo{P:Program}{w:World}{K:PySem.W.Frag}{tg:Expr}(a it:Addr)(hne:a≠it){o:Obj}{ps:List (Key×V)}{vs:List (Key×Value)}{ep:Nat}(rel:KV ps vs)
  (hD:∀h:Heap,h.get? a=some o->h.DictAt (dP P w) a vs ep):Turn P w K tg (o6 a o ps) [it] it (fun i h=>h.IsKeyIter it a i vs.length ep) where
 mem:=by simp
 obj:=fun i h st b hb=>by
  have e:b=it:=by simpa using hb
  subst e
  obtain⟨o,e,c,d⟩:=st
  exact⟨o,e,fun v z=>by rw[d] at z;cases z⟩
 keep:=fun i h h' st k=>st.at fun o e=>k it (by simp) o e
 item:=by
  intro X hP hw hK hc i pins s σ H E I hf st hg
  subst hP hw hK
  obtain⟨hq,hi⟩:=hg
  obtain⟨ho,_⟩:=(show bR X.prog X.w H s.heap a (.cA o (.dK ps)) from I.hok a _ hq)
  have W:=Walks.dictKeys (knd:=dP X.prog X.w) (A:=X.A) (I.ok.hd hc) it a hne vs ep
  obtain⟨f0,f1,f2,f3,f4,f5⟩:=hf it (by simp)
  refine W.item i s _ _ (by rw[<-rel.length];exact hi) ⟨st,hD _ ho⟩ fun v h' tk hv st' kp=>?_
  obtain⟨k,x,hk,hkv⟩:=hv
  have I1:Inv X pins σ H {s with heap:=h',toks:=tk}:=I.turned (t':=tk) (fun b o hb e=>kp b o (by simpa using hb) e) f0 f1 f3 f4 f5
  obtain⟨oi,e,c,d⟩:=id st'.1
  have hpk:∃p,ps[i]?=some p/\kV k=kV p.1:=by
   have h1:(ps.map (·.1))[i]?=(vs.map (·.1))[i]?:=by rw[rel.keys]
   rw[aL,aL,hk,aB hi] at h1
   exact⟨_,aB hi,congrArg kV (fL h1).symm⟩
  exact⟨v,rfl,CP (s:={s with heap:=h',toks:=tk}) e c d (by decide) ⟨kV k,H,I1,MT hkv,⟨rfl,hpk⟩,st'.1,fun b hb=>(hf b hb).1⟩⟩
 done:=by
  intro X hP hw hK hc i pins s σ H E I hf st hg
  subst hP hw hK
  obtain⟨hq,hi⟩:=hg
  obtain⟨ho,_⟩:=(show bR X.prog X.w H s.heap a (.cA o (.dK ps)) from I.hok a _ hq)
  have W:=Walks.dictKeys (knd:=dP X.prog X.w) (A:=X.A) (I.ok.hd hc) it a hne vs ep
  obtain⟨f0,f1,f2,f3,f4,f5⟩:=hf it (by simp)
  have hl:=rel.length
  refine W.done s _ _ ⟨by rw[<-hl,hi];rw[<-hl,hi] at st;exact st,hD _ ho⟩ fun h' tk kp=>⟨rfl,?_⟩
  exact I.turned (t':=tk) (fun b o hb e=>kp b o (by simpa using hb) e) f0 f1 f3 f4 f5
 self:=fun _ _ _ _ _ st h=>wpAny_pyIter_keyiter st h
def ud(X:Cx)(a:Addr):Prop:=∀o u,X.H₀ a≠some (.cA o u)
section
variable{X:Cx}{pins:List (Addr×Obj)}{σ:List (Option V)}{H:Hp}{s:Shared}
theorem Inv.freeze{a:Addr}{ps:List (Key×V)}{o:Obj}(I:Inv X pins σ H s)(h:H a=some (.dK ps))(ho:s.heap.get? a=some o):Inv X pins σ (upd H a (.cA o (.dK ps))) s:=by
 have ne:∀b u,H b=some u->(∀z,u≠ .dK z)->b≠a:=fun b u q z e=>by subst e;rw[h] at q;cases q;exact z _ rfl
 have nn:∀b,H b=none->b≠a:=fun b q e=>by subst e;rw[h] at q;cases q
 refine I.step (h':=s.heap) (g':=s.gens) (d':=s.drawn) (t':=s.toks) (ch:=[]) (fun _ z=>nomatch z) (fun b o _ _ _ e _=>e) (fun b o _ _ _ e _=>⟨o.slots,e⟩) (fun b o _ e n=>by rw[au (nn b n)];exact n) (fun b o _ e=>⟨o,e⟩)
  (fun b xs q=>by rw[au (ne b _ q (fun z=>nofun))];exact q) (fun b o u q=>by rw[au (ne b _ q (fun z=>nofun))];exact q) (fun b p q=>⟨#[],by rw[au (ne b _ q (fun z=>nofun)),q];simp⟩) (fun m hm=>hm) (fun b u q=>?_) I.bare
 by_cases hb:b=a
 ·subst hb
  rw[aX] at q;cases q
  refine⟨ho,(I.hok b _ h).stay (fun c v hc z=>z) (fun c z=>?_) fun c xs z=>?_⟩
  ·rw[au (ne c _ z (fun z=>nofun))];exact z
  ·rw[au (ne c _ z (fun z=>nofun))];exact z
 ·rw[au hb] at q
  refine(I.hok b u q).stay (fun c v hc z=>z) (fun c z=>?_) fun c xs z=>?_
  ·rw[au (ne c _ z (fun z=>nofun))];exact z
  ·rw[au (ne c _ z (fun z=>nofun))];exact z
theorem Inv.nM{a:Addr}{ps:List (Key×V)}{o:Obj}(I:Inv X pins σ H s)(h:H a=some (.cA o (.dK ps)))(nf:ud X a):Inv X pins σ (upd H a (.dK ps)) s:=by
 have ne:∀b u,H b=some u->(∀z z',u≠ .cA z z')->b≠a:=fun b u q z e=>by subst e;rw[h] at q;cases q;exact z _ _ rfl
 have nn:∀b,H b=none->b≠a:=fun b q e=>by subst e;rw[h] at q;cases q
 refine⟨I.ok,I.os,I.bare,⟨I.base.keep,I.base.slot,fun b o q n hx=>?_,I.base.there,fun b xs q=>?_,fun b o u q=>?_,fun b p q=>?_⟩,I.loc,I.cell,?_,fun x c e=>?_,fun p hp=>?_,fun b u q=>?_,I.len⟩
 ·have z:=I.base.free b o q n hx
  rw[au (nn b z)];exact z
 ·have z:=I.base.tups b xs q
  rw[au (ne b _ z (fun _ z=>nofun))];exact z
 ·have z:=I.base.j6 b o u q
  have:b≠a:=fun e=>by subst e;exact nf _ _ q
  rw[au this];exact z
 ·obtain⟨m,z⟩:=I.base.lN b p q
  exact⟨m,by rw[au (ne b _ z (fun _ z=>nofun))];exact z⟩
 ·rw[au (nn _ I.free)];exact I.free
 ·rw[au (nn _ (I.jw x c e))];exact I.jw x c e
 ·obtain⟨z1,z2,z3⟩:=I.pin p hp
  exact⟨z1,by rw[au (nn _ z2)];exact z2,z3⟩
 ·by_cases hb:b=a
  ·subst hb
   rw[aX] at q;cases q
   have w:=(show bR X.prog X.w H s.heap b (.dK ps) from(Rd.ok (.inr ⟨o,h⟩) I.hok))
   refine w.stay (fun c v hc z=>z) (fun c z=>?_) fun c xs z=>?_
   ·rw[au (ne c _ z (fun _ z=>nofun))];exact z
   ·rw[au (ne c _ z (fun _ z=>nofun))];exact z
  ·rw[au hb] at q
   refine(I.hok b u q).stay (fun c v hc z=>z) (fun c z=>?_) fun c xs z=>?_
   ·rw[au (ne c _ z (fun _ z=>nofun))];exact z
   ·rw[au (ne c _ z (fun _ z=>nofun))];exact z
end
def kM(NF:Addr->Prop)(Q:Hp->Prop)(H:Hp):Prop:=Q H\/∃a o ps,H a=some (.cA o (.dK ps))/\NF a/\Q (upd H a (.dK ps))
def Mk(NF:Addr->Prop)(D:Ends):Ends:={nx:=fun σ=>kM NF (D.nx σ),rt:=fun v=>kM NF (D.rt v),bk:=fun σ=>kM NF (D.bk σ),ct:=fun σ=>kM NF (D.ct σ)}
def Im(NF:Addr->Prop)(ts:TS):TS:=fun D σ H=>ts (Mk NF D) σ H
section
variable{X:Cx}
theorem kM.inv{pins:List (Addr×Obj)}{σ:St}{H:Hp}{s:Shared}{Q:Hp->Prop}(I:Inv X pins σ H s)(h:kM (ud X) Q H):∃H',Inv X pins σ H' s/\Q H':=by
 rcases h with h|⟨a,o,ps,e,nf,q⟩
 ·exact⟨H,I,h⟩
 ·exact⟨_,I.nM e nf,q⟩
theorem RD{st:Stmt}{ts:TS}(h:PS X st ts):PS X st (Im (ud X) ts):=by
 intro pins s σ H D I q
 refine aW (h pins s σ H _ I q) fun f s7 q7=>?_
 cases f with
 |next=>obtain⟨gC,H7,I7,n7⟩:=q7;obtain⟨H8,I8,q8⟩:=kM.inv I7 n7;exact⟨gC,H8,I8,q8⟩
 |cont=>obtain⟨gC,H7,I7,n7⟩:=q7;obtain⟨H8,I8,q8⟩:=kM.inv I7 n7;exact⟨gC,H8,I8,q8⟩
 |brk=>obtain⟨gC,H7,I7,n7⟩:=q7;obtain⟨H8,I8,q8⟩:=kM.inv I7 n7;exact⟨gC,H8,I8,q8⟩
 |ret v=>obtain⟨x7,gC,H7,I7,r7,n7⟩:=q7;obtain⟨H8,I8,q8⟩:=kM.inv I7 n7;exact⟨x7,gC,H8,I8,r7,q8⟩
def Lj(NF:Addr->Prop)(tl:TE):TI:=fun σ H R=>tl σ H fun x H1=>∃a ps,x= .ref a/\((H1 a=some (.dK ps)/\∀o,NF a->R (o6 a o ps) (upd H1 a (.cA o (.dK ps))))\/∃o,H1 a=some (.cA o (.dK ps))/\R (o6 a o ps) H1)
theorem Uj{tg l:Expr}{tl:TE}(hl:PE X l tl):PI X tg l (Lj (ud X) tl):=by
 intro pins s σ H R I h
 refine aW (hl pins s σ H _ I h) fun v s1 ⟨x,H1,I1,r1,q1⟩=>?_
 obtain⟨a,ps,e,q⟩:=q1
 subst e
 cases r1
 have key:∃o H2,s1.heap.get? a=some o/\H2 a=some (.cA o (.dK ps))/\Inv X pins σ H2 s1/\R (o6 a o ps) H2:=by
  rcases q with ⟨h1,q⟩|⟨o,h1,q⟩
  ·obtain⟨z,hd,vs,rel,o,es,ep,ho,r⟩:=Cw I1.hok h1
   refine⟨o,_,ho,aX,I1.freeze h1 ho,q o fun o' u' z=>?_⟩
   rw[I1.base.j6 _ _ _ z] at h1;cases h1
  ·obtain⟨ho,_⟩:=(show bR X.prog X.w H1 s1.heap a (.cA o (.dK ps)) from I1.hok a _ h1)
   exact⟨o,H1,ho,h1,I1,q⟩
 obtain⟨o,H2,ho,h2,I2,q⟩:=key
 obtain⟨z,hd,vs,rel,dd⟩:=mZ I2.hok (.inr ⟨o,h2⟩)
 obtain⟨ep,hat⟩:=dd.dictAt
 refine wpAny_pyIter_dict hd hat ?_
 refine⟨s1.heap.objs.size,[s1.heap.objs.size],_,_,H2,rfl,I2.kept (t':=s1.toks) fun b o e=>bS _ e,Vo a _ (cW (bC ho)) rel (fun h hh=>hat.at' fun o' e=>by rw[ho] at e;cases e;exact hh),⟨_,fk _ rfl,rfl,rfl⟩,fun b hb=>?_,q⟩
 have e:b=s1.heap.objs.size:=by simpa using hb
 subst e
 exact I2.pQ (aJ _) (I2.hok.fresh (aJ _))
end
structure Mv(H H':Hp):Prop where
 lst:∀b xs,H b=some (.lst xs)->H' b=some (.lst xs)
 tup:∀b xs,H b=some (.tup xs)->H' b=some (.tup xs)
 bZ:∀b ps,Rd H b (.dK ps)->Rd H' b (.dK ps)
mutual
theorem ai.mv{S:Addr->Prop}{H H':Hp}(m:Mv H H'):∀{d:PyData} {v:V},ai S H d v->ai S H' d v
 | .none,_,h=>by unfold ai at h⊢;exact h
 | .bool _,_,h=>by unfold ai at h⊢;exact h
 | .int _,_,h=>by unfold ai at h⊢;exact h
 | .str _,_,h=>by unfold ai at h⊢;exact h
 | .list ds,_,h=>by unfold ai at h⊢;obtain⟨a,xs,e,n,s,r⟩:=h;exact⟨a,xs,e,n,m.lst _ _ s,ah.mv m r⟩
 | .tuple ds,_,h=>by unfold ai at h⊢;obtain⟨a,xs,e,n,s,r⟩:=h;exact⟨a,xs,e,n,m.tup _ _ s,ah.mv m r⟩
 | .dict kvs,_,h=>by unfold ai at h⊢;obtain⟨a,xs,e,n,s,r⟩:=h;exact⟨a,xs,e,n,m.bZ _ _ s,aA.mv m r⟩
theorem ah.mv{S:Addr->Prop}{H H':Hp}(m:Mv H H'):∀{ds:List PyData} {vs:List V},ah S H ds vs->ah S H' ds vs
 |[],_,h=>by unfold ah at h⊢;exact h
 |d::ds,_,h=>by unfold ah at h⊢;obtain⟨y,ys,e,h1,h2⟩:=h;exact⟨y,ys,e,ai.mv m h1,ah.mv m h2⟩
theorem aA.mv{S:Addr->Prop}{H H':Hp}(m:Mv H H'):∀{ds:List (PyData×PyData)} {vs:List (Key×V)},aA S H ds vs->aA S H' ds vs
 |[],_,h=>by unfold aA at h⊢;exact h
 |d::ds,_,h=>by unfold aA at h⊢;obtain⟨y,ys,e,h1,h2⟩:=h;exact⟨y,ys,e,cV.mv m h1,aA.mv m h2⟩
theorem cV.mv{S:Addr->Prop}{H H':Hp}(m:Mv H H'):∀{d:PyData×PyData} {v:Key×V},cV S H d v->cV S H' d v
 |(k,d),_,h=>by unfold cV at h⊢;exact⟨h.1,ai.mv m h.2⟩
end
theorem Mv.cA{H:Hp}{a:Addr}{o:Obj}{ps:List (Key×V)}(h:H a=some (.dK ps)):Mv H (upd H a (.cA o (.dK ps))) where
 lst:=fun b xs q=>by rw[au (fun e=>by subst e;rw[h] at q;cases q)];exact q
 tup:=fun b xs q=>by rw[au (fun e=>by subst e;rw[h] at q;cases q)];exact q
 bZ:=fun b qs q=>by
  by_cases e:b=a
  ·subst e
   rcases q with q|⟨u,q⟩
   ·rw[h] at q;cases q;exact .inr ⟨o,aX⟩
   ·rw[h] at q;cases q
  ·rcases q with q|⟨u,q⟩
   ·exact .inl (by rw[au e];exact q)
   ·exact .inr ⟨u,by rw[au e];exact q⟩
theorem Mv.nM{H:Hp}{a:Addr}{o:Obj}{ps:List (Key×V)}(h:H a=some (.cA o (.dK ps))):Mv H (upd H a (.dK ps)) where
 lst:=fun b xs q=>by rw[au (fun e=>by subst e;rw[h] at q;cases q)];exact q
 tup:=fun b xs q=>by rw[au (fun e=>by subst e;rw[h] at q;cases q)];exact q
 bZ:=fun b qs q=>by
  by_cases e:b=a
  ·subst e
   rcases q with q|⟨u,q⟩
   ·rw[h] at q;cases q
   ·rw[h] at q;cases q;exact .inl aX
  ·rcases q with q|⟨u,q⟩
   ·exact .inl (by rw[au e];exact q)
   ·exact .inr ⟨u,by rw[au e];exact q⟩
def jY(a:Addr)(u:HO)(H:Hp):Hp:=fun b=>if b=a/\H a≠none then some u else H b
theorem pK{a b:Addr}{u:HO}{H:Hp}:jY a u H b=none↔H b=none:=by
 unfold jY
 by_cases c:b=a/\H a≠none
 ·rw[if_pos c]
  constructor
  ·intro z;cases z
  ·intro z;rw[c.1] at z;exact absurd z c.2
 ·rw[if_neg c]
theorem vU{a b:Addr}{u:HO}{H:Hp}(h:b≠a):jY a u H b=H b:=by
 unfold jY;rw[if_neg (fun z=>h z.1)]
abbrev Gx.fz(G:Gx)(a:Addr)(o:Obj)(ps:List (Key×V)):Gx:={G with H0:=jY a (.cA o (.dK ps)) G.H0,hold:=(false, .fz o ps, .ref a)::G.hold}
section
variable{G:Gx}{ρ dN:Rh}{Φ Ψ:Pd}{ta tb te:TE}{t:TA}{i:Nat}{f g:Bool}{d e:PyData}{ds es:List PyData}{K:PySem.W.Frag}{nb:Addr->Prop}{σ:St}{H:Hp}{a:Addr}{o:Obj}{ps:List (Key×V)}
theorem Gx.uo{b:Addr}:(G.fz a o ps).S nb f b↔G.S nb f b:=by
 unfold Gx.S
 constructor
 ·rintro(z|z|z|⟨z,q⟩)
  ·exact .inl z
  ·exact .inr (.inl z)
  ·exact .inr (.inr (.inl z))
  ·exact .inr (.inr (.inr ⟨z,fun w=>q (pK.mpr w)⟩))
 ·rintro(z|z|z|⟨z,q⟩)
  ·exact .inl z
  ·exact .inr (.inl z)
  ·exact .inr (.inr (.inl z))
  ·exact .inr (.inr (.inr ⟨z,fun w=>q (pK.mp w)⟩))
theorem dM.mv{H H':Hp}{b l:Addr}(h:dM H b l)(k:∀c xs,H c=some (.lst xs)->H' c=some (.lst xs)):dM H' b l:=by
 obtain⟨ns,x1,x2,x3,x4,h1,h2,h3⟩:=h
 exact⟨ns,x1,x2,x3,x4,k _ _ h1,k _ _ h2,h3⟩
theorem Wd.freeze(W:Wd G nb ρ σ H)(h:H a=some (.dK ps))(hS:¬G.S nb false a)(hT:∀f c v,(f,HD.th c,v)∈G.hold->a∉c.F):Wd (G.fz a o ps) nb ρ σ (upd H a (.cA o (.dK ps))):=by
  have mv:=Mv.cA (o:=o) h
  have hN:NB G.B a:=fS fun z=>hS (.inr (.inr (.inl z)))
  have hnb:¬nb a:=fun z=>hS (.inl z)
  have hG:∀u,G.H0 a=some u->u= .dK ps:=fun u e=>by have:=W.old a u hN e;rw[h] at this;exact(fL this).symm
  have toS:∀f b,(G.fz a o ps).S nb f b->G.S nb f b:=fun f b z=>Gx.uo.mp z
  refine⟨fun b l e=>(W.ay b l e).mv mv.lst,fun b n=>?_,fun b u n e=>?_,fun b n q=>pK.mpr (W.dH b n q),fun b n e=>W.gA b n (pK.mp e),W.len,fun b l e=>(W.gB b l e).mv fun c xs q=>?_,fun x m=>?_,fun i s e=>?_,W.apart,W.fG,W.dJ⟩
  · by_cases hb:b=a
    · subst hb;exact absurd n hnb
    · rw[au hb];exact W.live b n
  · by_cases hb:b=a
    · subst hb
      rw[aX]
      change jY b _ G.H0 b=some u at e
      unfold jY at e
      by_cases c:b=b/\G.H0 b≠none
      · rw[if_pos c] at e;exact e
      · rw[if_neg c] at e;exact absurd ⟨rfl,by rw[e];exact je _⟩ c
    · rw[au hb]
      change jY a _ G.H0 b=some u at e
      rw[vU hb] at e
      exact W.old b u n e
  · have hc:c≠a:=fun z=>by subst z;have:=hG _ q;cases this
    show jY a _ G.H0 c=_
    rw[vU hc];exact q
  · rcases aM.mp m with e|m
    · subst e
      exact⟨a,rfl,fun z=>hS (toS _ _ z),aX⟩
    · have w:=W.fj x m
      obtain⟨f,x,v⟩:=x
      cases x with
      |d x=>exact(ai.mv mv w).av (toS f)
      | fz u qs =>
        obtain⟨c,e1,e2,e3⟩:=w
        by_cases hc:c=a
        · subst hc
          rw[h] at e3;cases e3
        · exact⟨c,e1,fun z=>e2 (toS _ _ z),by rw[au hc];exact e3⟩
      | th c =>
        have hc:=hT f c v m
        obtain⟨e,n,q⟩:=w
        exact⟨e,fun b hb=>⟨fun z=>(n b hb).1 (toS _ _ z),by rw[au (fun z=>by subst z;exact hc hb)];exact(n b hb).2⟩,c.av (toS f) (c.keep ⟨fun b hb o e=>by rw[au (fun z=>by subst z;exact hc hb)];exact e,fun b xs _=>mv.lst b xs,fun b xs _=>mv.tup b xs,fun b qs _=>mv.bZ b qs⟩ q)⟩
  · obtain⟨x,e1,w⟩:=W.ok i s e
    refine⟨x,e1,?_⟩
    cases s with
    |no=>trivial
    |d f d=>obtain⟨v,e,w⟩:=w;exact⟨v,e,(ai.mv mv w).av (toS f)⟩
    |own c f es=>obtain⟨e,n,q,xs,hx,hd⟩:=w;exact⟨e,n,q,xs,mv.lst _ _ hx,(ah.mv mv hd).av (toS f)⟩
    |ay=>exact w
    |raw v=>exact w
    | bZ c f es =>
      obtain⟨e,n,q,xs,hx,hd⟩:=w
      exact⟨e,n,q,xs,by rw[au (fun z=>by subst z;exact hnb n)];exact hx,(aA.mv mv hd).av (toS f)⟩
    | cu c =>
      obtain⟨e,n,q⟩:=w
      exact⟨e,n,c.av (toS c.f) (c.keep ⟨fun b hb o e=>by rw[au (fun z=>by subst z;exact hnb (n _ hb).1)];exact e,fun b xs _=>mv.lst b xs,fun b xs _=>mv.tup b xs,fun b qs _=>mv.bZ b qs⟩ q)⟩
theorem Wd.nM(W:Wd (G.fz a o ps) nb ρ σ H)(hG:∀u,G.H0 a=some u->u= .dK ps)(hF:∀f o' qs v,(f,HD.fz o' qs,v)∈G.hold->v≠ .ref a)(hT:∀f c v,(f,HD.th c,v)∈G.hold->a∉c.F):Wd G nb ρ σ (upd H a (.dK ps))/\H a=some (.cA o (.dK ps)):=by
  obtain⟨a',ea,hS',h⟩:=(show gQ ((G.fz a o ps).S nb false) H (.fz o ps) (.ref a) from W.fj _ (bA ..))
  cases ea
  have mv:=Mv.nM h
  have toS:∀f b,G.S nb f b->(G.fz a o ps).S nb f b:=fun f b z=>Gx.uo.mpr z
  have hS:¬G.S nb false a:=fun z=>hS' (toS _ _ z)
  have hN:NB G.B a:=fS fun z=>hS (.inr (.inr (.inl z)))
  have hnb:¬nb a:=fun z=>hS (.inl z)
  refine⟨⟨fun b l e=>(W.ay b l e).mv mv.lst,fun b n=>?_,fun b u n e=>?_,fun b n q=>pK.mp (W.dH b n q),fun b n e=>W.gA b n (pK.mpr e),W.len,fun b l e=>(W.gB b l e).mv fun c xs q=>?_,fun x m=>?_,fun i s e=>?_,W.apart,W.fG,W.dJ⟩,h⟩
  · by_cases hb:b=a
    · subst hb;exact absurd n hnb
    · rw[au hb];exact W.live b n
  · by_cases hb:b=a
    · subst hb
      rw[aX,hG u e]
    · rw[au hb]
      exact W.old b u n (by show jY a _ G.H0 b=_;rw[vU hb];exact e)
  · change jY a _ G.H0 c=_ at q
    by_cases hc:c=a
    · subst hc
      unfold jY at q
      by_cases z:c=c/\G.H0 c≠none
      · rw[if_pos z] at q;cases q
      · rw[if_neg z] at q;exact q
    · rw[vU hc] at q;exact q
  · have w:=W.fj x (cG _ m)
    obtain⟨f,x,v⟩:=x
    cases x with
    |d x=>exact(ai.mv mv w).av (toS f)
    | fz u qs =>
      obtain⟨c,e1,e2,e3⟩:=w
      subst e1
      have hc:c≠a:=fun z=>hF f u qs _ m (by rw[z])
      exact⟨c,rfl,fun z=>e2 (toS _ _ z),by rw[au hc];exact e3⟩
    | th c =>
      have hc:=hT f c v m
      obtain⟨e,n,q⟩:=w
      exact⟨e,fun b hb=>⟨fun z=>(n b hb).1 (toS _ _ z),by rw[au (fun z=>by subst z;exact hc hb)];exact(n b hb).2⟩,c.av (toS f) (c.keep ⟨fun b hb o e=>by rw[au (fun z=>by subst z;exact hc hb)];exact e,fun b xs _=>mv.lst b xs,fun b xs _=>mv.tup b xs,fun b qs _=>mv.bZ b qs⟩ q)⟩
  · obtain⟨x,e1,w⟩:=W.ok i s e
    refine⟨x,e1,?_⟩
    cases s with
    |no=>trivial
    |d f d=>obtain⟨v,e,w⟩:=w;exact⟨v,e,(ai.mv mv w).av (toS f)⟩
    |own c f es=>obtain⟨e,n,q,xs,hx,hd⟩:=w;exact⟨e,n,q,xs,mv.lst _ _ hx,(ah.mv mv hd).av (toS f)⟩
    |ay=>exact w
    |raw v=>exact w
    | bZ c f es =>
      obtain⟨e,n,q,xs,hx,hd⟩:=w
      exact⟨e,n,q,xs,by rw[au (fun z=>by subst z;exact hnb n)];exact hx,(aA.mv mv hd).av (toS f)⟩
    | cu c =>
      obtain⟨e,n,q⟩:=w
      exact⟨e,n,c.av (toS c.f) (c.keep ⟨fun b hb o e=>by rw[au (fun z=>by subst z;exact hnb (n _ hb).1)];exact e,fun b xs _=>mv.lst b xs,fun b xs _=>mv.tup b xs,fun b qs _=>mv.bZ b qs⟩ q)⟩
abbrev Gx.hz(G:Gx)(a:Addr)(o:Obj)(ps:List (Key×V)):Gx:={G with hold:=(false, .fz o ps, .ref a)::G.hold}
theorem Wd.hz(W:Wd G nb ρ σ H)(hS:¬G.S nb false a)(h:H a=some (.cA o (.dK ps))):Wd (G.hz a o ps) nb ρ σ H:=
 ⟨W.ay,W.live,W.old,W.dH,W.gA,W.len,W.gB,fun x m=>by
  rcases aM.mp m with e|m
  ·subst e;exact⟨a,rfl,hS,h⟩
  ·exact W.fj x m,fun i s e=>by
   obtain⟨x,e1,h⟩:=W.ok i s e
   refine⟨x,e1,?_⟩
   cases s<;>exact h,W.apart,W.fG,W.dJ⟩
theorem Wd.AK(W:Wd (G.hz a o ps) nb ρ σ H):Wd G nb ρ σ H/\H a=some (.cA o (.dK ps)):=by
 refine⟨⟨W.ay,W.live,W.old,W.dH,W.gA,W.len,W.gB,fun x m=>W.fj x (cG _ m),fun i s e=>by
   obtain⟨x,e1,h⟩:=W.ok i s e
   refine⟨x,e1,?_⟩
   cases s<;>exact h,W.apart,W.fG,W.dJ⟩,?_⟩
 obtain⟨a',ea,_,h⟩:=(show gQ ((G.hz a o ps).S nb false) H (.fz o ps) (.ref a) from W.fj _ (bA ..))
 cases ea
 exact h
theorem Kf{G':Gx}{ks:Ks}{D:Ends}{E:DE}{gt:TG}{s:TS}{dd:PyData}(W3:Wd (G'.hd f dd (.ref a)) nb ρ σ H)(hl:ps.map (·.1)=(ks.map (·.1)).map Sum.inl)
  (hz:∀{nb ρ σ H},Wd G' nb ρ σ H->H a=some (.cA o (.dK ps))) (KK:xA G' {E with bk:=fun _=>False,ct:=fun _=>False} D)
  (q:Sv.qv (G'.hd f dd (.ref a)) ρ ks.length (fun i d=>∃p,ks[i]?=some p/\d= .int p.1) true gt s E):
  ∃W:Nat->Nat->St->Hp->Prop,(∃m,W 0 m σ H)/\∀i m σ H,W i m σ H->
   ((o6 a o ps).stop i H/\D.nx σ H)\/((o6 a o ps).go i H/\∃N:St->Hp->Prop,(∀σ' H',N σ' H'->∃m',m'<m/\W (i+1) m' σ' H')/\∀x H',(o6 a o ps).mU i H x H'->gt x σ H' fun σ2 H2=>s {D with nx:=N,ct:=N,bk:=D.nx} σ2 H2):=by
 obtain⟨I,h0,ht,he⟩:=q
 have hlen:ps.length=ks.length:=by have:=congrArg List.length hl;simpa using this
 refine⟨fun i m σ H=>m=ks.length-i/\i<=ks.length/\∃nb ρ',I i ρ'/\Wd (G'.hd f dd (.ref a)) nb ρ' σ H,⟨ks.length,by simp,eY _,nb,ρ,h0,W3⟩,?_⟩
 rintro i m σ H ⟨rfl,hi,nb,ρ',hI,W⟩
 have Ld:=hz W.iJ.1
 by_cases hlt:i<ks.length
 ·refine .inr ⟨⟨Ld,by omega⟩,fun σ H=>∃nb ρ',I (i+1) ρ'/\Wd (G'.hd f dd (.ref a)) nb ρ' σ H,fun σ' H' q=>⟨ks.length-(i+1),by omega,rfl,hlt,q⟩,fun x H' y=>?_⟩
  obtain⟨e1,p,WZ,e2⟩:=y
  subst e1 e2
  have hk:p.1=Sum.inl ks[i].1:=by
   have h1:(ps.map (·.1))[i]?=((ks.map (·.1)).map Sum.inl)[i]?:=by rw[hl]
   rw[aL,aL,aL,WZ,aB hlt] at h1
   exact fL h1
  rw[hk]
  refine ht i _ ρ' ⟨_,aB hlt,rfl⟩ hI nb σ _ _ _ W (.int _) fun σ2 gV q W2=>q nb σ2 _ _ W2 ?_
  exact⟨fun nb ρ σ H q W=>⟨nb,ρ,q,W⟩,fun nb ρ σ H q W=>KK.nx nb ρ σ H q W.iJ.1,fun nb ρ σ H q W=>⟨nb,ρ,q,W⟩,fun nb ρ σ f v H d q W hv=>KK.rt nb ρ σ f v H d q W.iJ.1 hv,fun nb ρ σ v H q W=>KK.rw nb ρ σ v H q W.iJ.1⟩
 ·have e:i=ks.length:=by omega
  subst e
  exact .inl ⟨⟨Ld,hlen⟩,KK.nx nb ρ' σ H (he ρ' hI) W.iJ.1⟩
theorem Sv.Xo{NF:Addr->Prop}{E:DE}{gt:TG}{s:TS}(h:Ev G ρ te fun f x=>∃ks:Ks,x= .dict (ks.map bI)/\∀G' v,qv (Gx.hd G' f x v) ρ ks.length (fun i d=>∃p,ks[i]?=some p/\d= .int p.1) true gt s {E with rw:=fun _ _ _ _=>False})(hnt:∀f c v,(f,HD.th c,v)∉G.hold:=by intro _ _ _ z;first|exact nomatch z|(simp at z;done)):
  Sv G ρ (Im NF (pP (Lj NF te) gt s)) E:=fun nb σ H D W KK=>
 h nb σ H _ W fun f v H1 x ⟨ks,ex,q⟩ s1 hv=>by
  subst ex
  have W1:=W.step s1
  have hv0:=hv
  unfold ai at hv
  obtain⟨a,ps,rfl,n,hp,hd⟩:=hv
  have hkeys:=aA.keys hd
  have hS:¬G.S nb false a:=fun z=>n (bK (fun w=>by cases w) (fun _ w=>w) a z)
  have hN:NB G.B a:=fS fun z=>hS (.inr (.inr (.inl z)))
  refine⟨a,ps,rfl,?_⟩
  rcases hp with hp|⟨o,hp⟩
  ·refine .inl ⟨hp,fun o nf=>?_⟩
   have hG:∀u,G.H0 a=some u->u= .dK ps:=fun u e=>by have:=W1.old a u hN e;rw[hp] at this;exact(fL this).symm
   have hF:∀f o' qs v,(f,HD.fz o' qs,v)∈G.hold->v≠ .ref a:=fun f o' qs v m e=>by
    obtain⟨c,e1,_,e3⟩:=(show gQ (G.S nb f) H1 (.fz o' qs) v from W1.fj _ m)
    rw[e1] at e;cases e
    rw[hp] at e3;cases e3
   have W2:=W1.freeze (o:=o) hp hS fun f c v m=>absurd m (hnt f c v)
   have mv:=Mv.cA (o:=o) hp
   have W3:=W2.hd (f:=f) (d:= .dict (ks.map bI)) (v:= .ref a) ((ai.mv mv hv0).av fun b z=>Gx.uo.mp z)
   refine Kf (E:={E with rw:=fun _ _ _ _=>False}) W3 hkeys (fun W=>(W.nM hG hF fun f c v m=>absurd m (hnt f c v)).2) ⟨fun nb ρ σ H q W=>?_,fun _ _ _ _ q _=>q.elim,fun _ _ _ _ q _=>q.elim,fun nb ρ σ f v H d q W hv=>?_,fun _ _ _ _ _ q _=>q.elim⟩ (q _ _)
   ·obtain⟨W',hz⟩:=W.nM hG hF fun f c v m=>absurd m (hnt f c v)
    exact .inr ⟨a,o,ps,hz,nf,KK.nx nb ρ σ _ q W'⟩
   ·obtain⟨W',hz⟩:=W.nM hG hF fun f c v m=>absurd m (hnt f c v)
    exact .inr ⟨a,o,ps,hz,nf,KK.rt nb ρ σ f v _ d q W' ((ai.mv (Mv.nM hz) hv).av fun b z=>Gx.uo.mpr z)⟩
  ·refine .inr ⟨o,hp,?_⟩
   have W2:=W1.hz hS hp
   have W3:=W2.hd (f:=f) (d:= .dict (ks.map bI)) (v:= .ref a) hv0
   refine Kf (E:={E with rw:=fun _ _ _ _=>False}) W3 hkeys (fun W=>W.AK.2) ⟨fun nb ρ σ H q W=> .inl (KK.nx nb ρ σ H q W.AK.1),fun _ _ _ _ q _=>q.elim,fun _ _ _ _ q _=>q.elim,fun nb ρ σ f v H d q W hv=> .inl (KK.rt nb ρ σ f v H d q W.AK.1 hv),fun _ _ _ _ _ q _=>q.elim⟩ (q _ _)
end
end L2
set_option maxRecDepth 100000
set_option maxHeartbeats 4000000
set_option maxRecDepth 100000
set_option maxHeartbeats 4000000
set_option maxRecDepth 100000
set_option maxHeartbeats 4000000
namespace L2
open PySem PySem.Spec PyProof.Rows
theorem pD{P:(Addr->Prop)->Prop}{H:Hp}(hP:∀{S S':Addr->Prop},(∀a,S' a->S a)->P S->P S')(hf:∀{S:Addr->Prop} {p:Addr},H p=none->P S->P fun a=>S a\/a=p):∀{L:List Addr} {S:Addr->Prop},(∀a∈L,H a=none)->P S->P fun a=>S a\/a∈L
 |[],S,_,h=>hP (fun a z=>z.elim (fun z=>z) fun z=>by cases z) h
 | p :: L, S, hL, h => hP (fun a z => by
   rcases z with z|z
   ·exact .inl (.inl z)
   ·rcases aM.mp z with z|z
    ·exact .inr z
    ·exact .inl (.inr z)) (hf (hL p (bA ..)) (pD hP hf (L:=L) (fun a m=>hL a (cG _ m)) h))
section
variable{G:Gx}{ρ:Rh}{nb:Addr->Prop}{σ:St}{H H1:Hp}{i:Nat}{L:List Addr}{c c':Cu}{f:Bool}{d:PyData}{p:Addr}{o:HO}{E:DE}
theorem Wd.We(W:Wd G nb ρ σ H)(s1:Step G.B H H1)(ha:∀a∈L,H a=none)(e:∀a∈L,H1 a≠none):Wd G (fun x=>nb x\/x∈L) ρ σ H1/\(∀a∈L,NB G.B a)/\∀f x,G.S (fun x=>nb x\/x∈L) f x->(G.S nb f x\/x∈L):=by
  have hN:∀a∈L,NB G.B a:=fun a m=>NB.new W.ay (ha a m)
  have hA:∀f x,G.S (fun x=>nb x\/x∈L) f x->(G.S nb f x\/x∈L):=fun f x z=>by
    rcases z with (z|z)|z|z|z
    · exact .inl (.inl z)
    · exact .inr z
    · exact .inl (.inr (.inl z))
    · exact .inl (.inr (.inr (.inl z)))
    · exact .inl (.inr (.inr (.inr z)))
  have W1:=W.step s1
  have fD:∀{S:Addr->Prop} {d:PyData} {v:V},ai S H d v->ai (fun a=>S a\/a∈L) H d v:=fun{S d v} h=>pD (P:=fun S=>ai S H d v) (fun z h=>ai.av z h) (fun hp h=>ai.fresh hp h) ha h
  have SJ:∀{S:Addr->Prop} {d:List PyData} {v:List V},ah S H d v->ah (fun a=>S a\/a∈L) H d v:=fun{S d v} h=>pD (P:=fun S=>ah S H d v) (fun z h=>ah.av z h) (fun hp h=>ah.fresh hp h) ha h
  have U5:∀{S:Addr->Prop} {d:List (PyData×PyData)} {v:List (Key×V)},aA S H d v->aA (fun a=>S a\/a∈L) H d v:=fun{S d v} h=>pD (P:=fun S=>aA S H d v) (fun z h=>aA.av z h) (fun hp h=>aA.fresh hp h) ha h
  have fH:∀{S:Addr->Prop} {d:HD} {v:V},gQ S H d v->gQ (fun a=>S a\/a∈L) H d v:=fun{S d v} h=>pD (P:=fun S=>gQ S H d v) (fun z h=>gQ.av h z) (fun hp h=>gQ.fresh h hp) ha h
  refine⟨?_,hN,hA⟩
  refine⟨W1.ay,fun x n=>?_,W1.old,fun x n q=>?_,W.gA,W.len,W.gB,fun h m=>((fH (W.fj h m)).keep (s1.but fun x z=> .inl (.inr (.inr (.inl z))))).av (hA h.1),fun j s e'=>?_,W.apart,W.fG,W.dJ⟩
  · rcases n with n|n
    · exact W1.live x n
    · exact e x n
  · rcases n with n|n
    · exact W.dH x n q
    · cases z:G.H0 x with
      |none=>rfl
      |some o=>have:=ha x n;rw[W.old x o q z] at this;cases this
  · obtain⟨x,e1,h⟩:=W.ok j s e'
    refine⟨x,e1,?_⟩
    cases s with
    |no=>trivial
    |d f d=>obtain⟨v,e,h⟩:=h;exact⟨v,e,((fD h).keep (s1.but fun x z=> .inl (.inr (.inr (.inl z))))).av (hA f)⟩
    |own c f es=>obtain⟨e,n,q,xs,hx,hd⟩:=h;exact⟨e, .inl n,q,xs,s1.1 _ _ q hx,((SJ hd).keep (s1.but fun x z=> .inl (.inr (.inr (.inl z))))).av (hA f)⟩
    |ay=>exact h
    |raw v=>exact h
    |bZ c f es=>obtain⟨e,n,q,xs,hx,hd⟩:=h;exact⟨e, .inl n,q,xs,s1.1 _ _ q hx,((U5 hd).keep (s1.but fun x z=> .inl (.inr (.inr (.inl z))))).av (hA f)⟩
    | cu c =>
      obtain⟨e,n,q⟩:=h
      refine⟨e,fun a ha=>⟨.inl (n a ha).1,(n a ha).2⟩,c.av (hA c.f) (c.keep (.of fun x o hx e=>s1.1 x o ?_ e) (pD (P:=fun S=>c.P S H) (fun z h=>c.av z h) (fun hp h=>c.fresh hp h) ha q))⟩
      rcases hx with hx|hx
      · exact fS fun z=>hx (.inl (.inr (.inr (.inl z))))
      · exact(n x hx).2
theorem nZ.WV{x:Option V}{s:Sl}(h:nZ G nb H x s):∀a∈s.adr,nb a/\NB G.B a:=by
 cases s with
 |own a f ds=>intro x hx;rw[aQ.mp hx];exact⟨h.2.1,h.2.2.1⟩
 |bZ a f ds=>intro x hx;rw[aQ.mp hx];exact⟨h.2.1,h.2.2.1⟩
 |cu c=>exact h.2.1
 |no=>intro _ z;cases z
 |d _ _=>intro _ z;cases z
 |ay=>intro _ z;cases z
 |raw _=>intro _ z;cases z
theorem Wd.yb(W:Wd G nb ρ σ H)(s1:Step G.B H H1)(ha:∀a∈c.F,H a=none)(e:∀a∈c.F,H1 a≠none)(hP:c.P (fun x=>G.S nb c.f x\/x∈c.F) H1):Wd G (fun x=>nb x\/x∈c.F) (ρ.set i (.cu c)) (σ.set i (some c.v)) H1:=by
 obtain⟨W2,hN,hA⟩:=W.We s1 ha e
 refine W2.set ⟨rfl,fun a m=>⟨.inr m,hN a m⟩,c.av (hA c.f) hP⟩ (fun _ _ _ z=>by cases z) (fun _ _ _ z=>by cases z) (fun x hx j t hj ht hc z=>?_)
 obtain⟨y,e1,h⟩:=W.ok j _ ht
 exact W.live x (h.WV x z).1 (ha x hx)
theorem Wd.yX(W:Wd G nb ρ σ H)(e:ρ[i]?=some (.cu c))(hp:p∈c.F)(hv:c'.v=c.v)(hF:∀a∈c'.F,a∈c.F)(h:c'.P (G.S nb c'.f) (upd H p o)):Wd G nb (ρ.set i (.cu c')) σ (upd H p o):=by
 obtain⟨x,e1,h1,h2,h3⟩:=W.ok i _ e
 subst h1
 have hil:i<ρ.length:=(aP.mp e).1
 have W0:Wd G nb (ρ.set i .no) (σ.set i (some c.v)) H:=W.set trivial fun _ _ _ z=>by cases z
 have other:∀(j:Nat) s,(ρ.set i .no)[j]?=some s->s≠ .no->p∉s.adr:=fun j s hs hn=>by
  have hij:i≠j:=fun z=>by subst z;rw[cX hil] at hs;cases hs;exact hn rfl
  rw[bP hij] at hs
  exact W.dJ i j c s hij e hs p hp
 have W1:Wd G nb (ρ.set i .no) (σ.set i (some c.v)) (upd H p o):=W0.write (h2 p hp).1 (h2 p hp).2 (fun j a f ds hs z=>other j _ hs (by intro z;cases z) (aQ.mpr z.symm)) (fun j a f ds hs z=>other j _ hs (by intro z;cases z) (aQ.mpr z.symm)) (fun j c hs=>other j _ hs (by intro z;cases z))
 have W2:=W1.set (i:=i) (s:= .cu c') (x:=some c.v) ⟨by rw[hv],fun a m=>h2 a (hF a m),h⟩ (fun _ _ _ z=>by cases z) (fun _ _ _ z=>by cases z) (fun x hx j t hj ht hc=>by
  rw[bP (bx hj)] at ht
  exact W.dJ i j c t (bx hj) e ht x (hF x hx))
 rw[jL,jL] at W2
 have:σ.set i (some c.v)=σ:=by
  apply gU
  intro j
  by_cases hij:i=j
  ·subst hij;rw[cX (by rw[W.len];exact hil),e1]
  ·rw[bP hij]
 rwa[this] at W2
theorem Wd.KO(W:Wd G nb ρ σ H)(e:ρ[i]?=some (.cu c))(h:c.P (G.S nb c.f) H->(∀a∈c.F,G.H0 a=none/\¬G.A a/\NB G.B a)->ai (G.S (fun x=>nb x/\x∉c.F) f) H d c.v):Wd G (fun x=>nb x/\x∉c.F) (ρ.set i (.d f d)) σ H:=by
 obtain⟨x,e1,h1,h2,h3⟩:=W.ok i _ e
 subst h1
 have hil:i<ρ.length:=(aP.mp e).1
 have W0:Wd G nb (ρ.set i .no) (σ.set i (some c.v)) H:=W.set trivial fun _ _ _ z=>by cases z
 have W1:Wd G (fun x=>nb x/\x∉c.F) (ρ.set i .no) (σ.set i (some c.v)) H:=by
  refine⟨W0.ay,fun x n=>W0.live x n.1,W0.old,fun x n=>W0.dH x n.1,W0.gA,W0.len,W0.gB,fun h m=>(W0.fj h m).av (bK (fun z=>z) fun _ z=>z.1),fun j s e'=>?_,W0.apart,W0.fG,W0.dJ⟩
  obtain⟨x,jm,hh⟩:=W0.ok j s e'
  refine⟨x,jm,?_⟩
  have hij:s≠ .no->i≠j:=fun n z=>by subst z;rw[cX hil] at e';cases e';exact n rfl
  have ap:s≠ .no->∀a∈s.adr,a∉c.F:=fun n a m z=>by
   have hij:=hij n
   rw[bP hij] at e'
   exact W.dJ i j c s hij e e' a z m
  cases s with
  |no=>trivial
  |d f d=>obtain⟨v,e,hh⟩:=hh;exact⟨v,e,hh.av (bK (fun z=>z) fun _ z=>z.1)⟩
  |own a f es=>obtain⟨e2,n,q,xs,hx,hd⟩:=hh;exact⟨e2,⟨n,ap (by intro z;cases z) a (aQ.mpr rfl)⟩,q,xs,hx,hd.av (bK (fun z=>z) fun _ z=>z.1)⟩
  |ay=>exact hh
  |raw v=>exact hh
  |bZ a f es=>obtain⟨e2,n,q,xs,hx,hd⟩:=hh;exact⟨e2,⟨n,ap (by intro z;cases z) a (aQ.mpr rfl)⟩,q,xs,hx,hd.av (bK (fun z=>z) fun _ z=>z.1)⟩
  |cu c2=>obtain⟨e2,n,q⟩:=hh;exact⟨e2,fun a m=>⟨⟨(n a m).1,ap (by intro z;cases z) a m⟩,(n a m).2⟩,c2.av (bK (fun z=>z) fun _ z=>z.1) q⟩
 have W2:=W1.nk (i:=i) (f:=f) (d:=d) (v:=c.v) (h h3 fun a m=>⟨W.dH a (h2 a m).1 (h2 a m).2,fun z=>W.gA a z (W.dH a (h2 a m).1 (h2 a m).2),(h2 a m).2⟩)
 rw[jL,jL] at W2
 have:σ.set i (some c.v)=σ:=by
  apply gU
  intro j
  by_cases hij:i=j
  ·subst hij;rw[cX (by rw[W.len];exact hil),e1]
  ·rw[bP hij]
 rwa[this] at W2
end
end L2
set_option maxRecDepth 100000
set_option maxHeartbeats 4000000
namespace L2
open PySem PySem.Spec PyProof.Rows
abbrev fU:=Int×Addr×List PyData
structure IS(a:Addr)(rows:List fU)(S:Addr->Prop)(H:Hp):Prop where
 hd:H a=some (.dK (rows.map fun r=>(Sum.inl r.1,V.ref r.2.1)))
 nd:(a::rows.map (·.2.1)).Nodup
 kd:(rows.map (·.1)).Nodup
 row:∀r∈rows,∃xs,H r.2.1=some (.lst xs)/\ah S H r.2.2 xs
def i7(a:Addr)(f:Bool)(rows:List fU):Cu where
 v:= .ref a
 F:=a::rows.map (·.2.1)
 f:=f
 P:=IS a rows
 keep:=fun k p=>⟨k.own _ (bA ..) _ p.hd,p.nd,p.kd,fun r hr=>by
  obtain⟨xs,h1,h2⟩:=p.row r hr
  exact⟨xs,k.own _ (cG _ (jO hr)) _ h1,ah.kp k h2⟩⟩
 av:=fun z p=>⟨p.hd,p.nd,p.kd,fun r hr=>by
  obtain⟨xs,h1,h2⟩:=p.row r hr
  exact⟨xs,h1,h2.av z⟩⟩
 fresh:=fun hp p=>⟨p.hd,p.nd,p.kd,fun r hr=>by
  obtain⟨xs,h1,h2⟩:=p.row r hr
  exact⟨xs,h1,h2.fresh hp⟩⟩
def kF(rows:List fU)(k:Int)(d:PyData):List fU:=rows.map fun r=>if r.1=k then(r.1,r.2.1,r.2.2++[d]) else r
theorem Vp(rows:List fU)(k:Int)(d:PyData):(kF rows k d).map (·.1)=rows.map (·.1):=by
 unfold kF
 rw[dw]
 apply fX
 intro r _
 show(if r.1=k then _ else r).1=r.1
 split<;>rfl
theorem GB(rows:List fU)(k:Int)(d:PyData):(kF rows k d).map (·.2.1)=rows.map (·.2.1):=by
 unfold kF
 rw[dw]
 apply fX
 intro r _
 show(if r.1=k then _ else r).2.1=r.2.1
 split<;>rfl
theorem WT(rows:List fU)(k:Int)(d:PyData):((kF rows k d).map fun r=>((Sum.inl r.1:Key),V.ref r.2.1))=rows.map fun r=>(Sum.inl r.1,V.ref r.2.1):=by
 unfold kF
 rw[dw]
 apply fX
 intro r _
 show(Sum.inl (if r.1=k then _ else r).1,V.ref (if r.1=k then _ else r).2.1)=_
 split<;>rfl
theorem SR(rows:List fU)(k:Int)(d:PyData):((kF rows k d).map fun r=>(r.1,r.2.2))=(rows.map fun r=>(r.1,r.2.2)).map fun q=>if q.1=k then(q.1,q.2++[d]) else q:=by
 unfold kF
 rw[dw,dw]
 apply fX
 intro r _
 show((if r.1=k then _ else r).1,(if r.1=k then _ else r).2.2)=if r.1=k then _ else _
 split<;>rfl
theorem DB:∀{rows:List fU} {r:fU},(rows.map (·.1)).Nodup->r∈rows->cB (rows.map fun r=>((Sum.inl r.1:Key),V.ref r.2.1)) (Sum.inl r.1)=some (.ref r.2.1)
  |[],_,_,h=>by cases h
  | q :: rows, r, nd, h => by
    rw[aY,gz] at nd
    rw[aY]
    rcases aM.mp h with z|z
    · subst z;exact iZ rfl
    · rw[iI (fun e=>nd.1 (by injection e with e;rw[e];exact jO z))]
      exact DB nd.2 z
theorem J9:∀{rows:List fU} {k:Int},k∉rows.map (·.1)->cB (rows.map fun r=>((Sum.inl r.1:Key),V.ref r.2.1)) (Sum.inl k)=none
  |[],_,_=>rfl
  | q :: rows, k, h => by
    rw[aY,aM,not_or] at h
    rw[aY,iI (fun e=>h.1 (by injection e with e;exact e.symm))]
    exact J9 h.2
section
variable{G:Gx}{ρ:Rh}{ta tb te tk:TE}{E:DE}{i:Nat}{f:Bool}{K:PySem.W.Frag}{Φ:Pd}{a:Addr}{rows:List fU}
theorem Ev.Sz{ng:Bool}(e:ρ[i]?=some (.cu (i7 a f rows)))(h:Ev G ρ ta fun _ y=>∃k,y= .int k/\Φ true (.bool (decide (k∈rows.map (·.1)) !=ng))):Ev G ρ (c6 (Be ng) ta (cQ i)) Φ:=fun nb σ H Q W z=>
 h nb σ H _ W fun g v H1 y ⟨k,ey,q⟩ s1 hv=>by
  subst ey
  have W1:=W.step s1
  obtain⟨x,e1,h1,h2,h3⟩:=W1.ok i _ e
  have h1:x=some (.ref a):=h1
  subst h1
  refine⟨.ref a,e1,a,_,rfl,by rw[hv.bX];exact .inl ⟨_, .inl k, .inl h3.hd,rfl,rfl⟩,?_⟩
  have:(cB (rows.map fun r=>((Sum.inl r.1:Key),V.ref r.2.1)) (Sum.inl k)).isSome=decide (k∈rows.map (·.1)):=by
   by_cases c:k∈rows.map (·.1)
   ·obtain⟨r,hr,e⟩:=cI.mp c
    rw[<-e,DB h3.kd hr,decide_eq_true (by rw[e];exact c)];rfl
   ·rw[J9 c,decide_eq_false c];rfl
  rw[this]
  exact z true _ H1 _ q s1 (.bl _)
theorem Sv.VM(e:ρ[i]?=some (.cu (i7 a f rows)))(h:Ev G ρ tk fun _ y=>∃k,y= .int k/\k∈rows.map (·.1)/\(∀r∈rows,r.2.2.length<10000)/\Ev G ρ te fun g d=>E.nx (ρ.set i (.cu (i7 a (f && g) (kF rows k d))))):
  Sv G ρ (sI (lA K "list" xy (c6 jQ (cQ i) tk) (bq te bT))) E:=fun nb σ H D W KK=>by
 obtain⟨x,e1,h1,h2,h3⟩:=W.ok i _ e
 have h1:x=some (.ref a):=h1
 subst h1
 refine⟨.ref a,e1,h nb σ H _ W fun g v H1 y ⟨k,ey,hk,hlen,q⟩ s1 hv=>?_⟩
 subst ey
 have W1:=W.step s1
 obtain⟨x,jm,_,h2,h3⟩:=W1.ok i _ e
 obtain⟨r,hr,er⟩:=cI.mp hk
 have hval:=DB h3.kd hr
 obtain⟨xs,hx,hxd⟩:=h3.row r hr
 have Ip:r.2.1∈(i7 a f rows).F:=cG _ (jO hr)
 refine⟨a,_, .inl k, .ref r.2.1,rfl,hv.bX, .inl h3.hd,by rw[<-er];exact hval, .inl ⟨rfl,_,aV.of hx⟩,?_⟩
 refine q nb σ H1 _ W1 fun g2 u H2 d p s2 hu=>?_
 have W2:=W1.step s2
 obtain⟨x,jm,_,h2,h4⟩:=W2.ok i _ e
 obtain⟨xs,hx,hxd⟩:=h4.row r hr
 refine⟨r.2.1,xs,u,rfl,rfl,hx,eK (by rw[hxd.length];exact hlen r hr) (by decide),KK.nx nb _ _ _ p (W2.yX e Ip rfl (fun b hb=>?_) ?_)⟩
 ·have:(i7 a (f && g2) (kF rows k d)).F=(i7 a f rows).F:=by show a::_=a::_;rw[GB]
  rw[this] at hb;exact hb
 ·have bt:bh (G.S nb (f && g2)) H2 (upd H2 r.2.1 (.lst (xs++[u]))):=bh.set (.inl (h2 _ Ip).1)
  have hnd:=h4.nd
  rw[gz] at hnd
  have har:a≠r.2.1:=fun z=>hnd.1 (by rw[z];exact jO hr)
  refine⟨?_,?_,?_,fun r' hr'=>?_⟩
  ·rw[au har,WT];exact h4.hd
  ·rw[GB];exact h4.nd
  ·rw[Vp];exact h4.kd
  ·unfold kF at hr'
   obtain⟨r0,hr0,rfl⟩:=cI.mp hr'
   by_cases c:r0.1=k
   ·rw[if_pos c]
    have Vu:r0=r:=by
     have nd:=h4.kd
     obtain⟨j,hj⟩:=gm hr0
     obtain⟨j2,hj2⟩:=gm hr
     obtain⟨l1,g1⟩:=aP.mp hj
     obtain⟨l2,g2⟩:=aP.mp hj2
     have:=(tH (i:=j) (j:=j2) (h₀:=by rw[aj];exact l1) (h₁:=by rw[aj];exact l2) nd).mp (by rw[sX,sX,g1,g2,c,er])
     subst this
     rw[<-g1,<-g2]
    subst Vu
    exact⟨xs++[u],aX,ah.snoc ((hu.av (bK (fun z=>(cD _ _▸z).2) fun _ z=>z)).keep bt) ((hxd.av (bK (fun z=>(cD _ _▸z).1) fun _ z=>z)).keep bt)⟩
   ·rw[if_neg c]
    obtain⟨ys,hy,Vg⟩:=h4.row r0 hr0
    have hne:r0.2.1≠r.2.1:=fun z=>c (by
     obtain⟨j,hj⟩:=gm hr0
     obtain⟨j2,hj2⟩:=gm hr
     obtain⟨l1,g1⟩:=aP.mp hj
     obtain⟨l2,g2⟩:=aP.mp hj2
     have:=(tH (i:=j) (j:=j2) (h₀:=by rw[aj];exact l1) (h₁:=by rw[aj];exact l2) hnd.2).mp (by rw[sX,sX,g1,g2,z])
     subst this
     rw[<-g1,g2,er])
    exact⟨ys,by rw[au hne];exact hy,(Vg.av (bK (fun z=>(cD _ _▸z).1) fun _ z=>z)).keep bt⟩
theorem Sv.W9{s:TS}(i:Nat)(e:ρ[i]?=some (.cu (i7 a f rows)))(h:Sv G (ρ.set i (.d f (.dict ((rows.map fun r=>(r.1,PyData.list r.2.2)).map bI)))) s E):Sv G ρ s E:=fun nb σ H D W K=>by
  refine h _ σ H D (W.KO e fun p hn=>?_) K
  have p:IS a rows (G.S nb f) H:=p
  have out:∀b∈(i7 a f rows).F,¬G.S (fun x=>nb x/\x∉(i7 a f rows).F) f b:=fun b hb z=>by
    obtain⟨q1,q2,q3⟩:=hn b hb
    rcases z with z|z|z|z
    · exact z.2 hb
    · exact q2 z
    · exact z q3
    · exact z.2 q1
  show ai _ H _ (.ref a)
  unfold ai
  refine⟨a,_,rfl,out a (bA ..), .inl p.hd,?_⟩
  have key:∀rs:List fU,(∀r∈rs,r∈rows)->aA (G.S (fun x=>nb x/\x∉(i7 a f rows).F) f) H ((rs.map fun r=>(r.1,PyData.list r.2.2)).map bI) (rs.map fun r=>((Sum.inl r.1:Key),V.ref r.2.1)):=by
    intro rs
    induction rs with
    |nil=>intro _;simp only[iT];unfold aA;rfl
    | cons r rs ih =>
      intro hm
      rw[aY,aY,aY]
      unfold aA
      refine⟨_,_,rfl,?_,ih fun q hq=>hm q (cG _ hq)⟩
      unfold cV
      obtain⟨xs,hx,hxd⟩:=p.row r (hm r (bA ..))
      exact⟨rfl, .lst (out _ (cG _ (jO (hm r (bA ..))))) hx (hxd.av (bK (fun z=>z) fun _ z=>z.1))⟩
  exact key rows fun _ h=>h
theorem JU:∀{more acc:List (Key×V)},(more.map (·.1)).Nodup->(∀q∈more,cB acc q.1=none)->lM acc more=acc++more
  |[],acc,_,_=>by rw[eN];rfl
  | q :: more, acc, nd, h => by
    rw[aY,gz] at nd
    show lM (putK acc q.1 q.2) more=_
    rw[Dl _ (h q (bA ..)),JU nd.2 (fun r hr=>?_),mR]
    · rfl
    · have hne:q.1≠r.1:=fun z=>nd.1 (by rw[z];exact jO hr)
      have:=h r (cG _ hr)
      unfold cB at this⊢
      rw[List.find?_append]
      cases e:acc.find? (fun kv=>decide (kv.1=r.1)) with
      |some z=>rw[e] at this;cases this
      |none=>simp[hne]
theorem Sv.Ly(h:Ev G ρ te fun _ x=>∃ks:List Int,x= .list (ks.map .int)/\ks.Nodup/\ks.length<=9999/\∀a rows,(rows.map fun r=>(r.1,r.2.2))=ks.map (fun k=>(k,[]))->E.nx (ρ.set i (.cu (i7 a true rows)))):
    Sv G ρ (gZ (fN B9 (bq (lP (pL K te) (fR 0) pA (m9 (bq (cQ 0) (bq (oX bT) bT))) [none]) bT)) (fR i)) E:=fun nb σ H D W KK=>
  h nb σ H _ W fun f v H1 x ⟨ks,ex,nd,hl,q⟩ s1 hv=>by
    subst ex
    obtain⟨l,xs,rfl,nl,hx,hd⟩:=hv.fB
    have e:=nE hd
    subst e
    refine⟨l,rfl,⟨_, .of hx⟩,fun acc hacc=>?_⟩
    refine R.B6 (xs:=ks.map V.int) (fun j σ H2=>σ.length=1/\∃(ts bs:List Addr),ts.length=j/\bs.length=j/\H2 acc=some (.lst (ts.map V.ref))/\bs.Nodup/\(∀b∈bs,H1 b=none/\H2 b=some (.lst []))/\
      (∀(m:Nat) t b k,ts[m]?=some t->bs[m]?=some b->ks[m]?=some k->H2 t=some (.tup [.int k, .ref b]))/\(∀t∈ts,t≠acc)/\acc∉bs/\∀b o,H1 b=some o->H2 b=some o) ⟨rfl,[],[],rfl,rfl,aX,mJ,(fun _ z=>by cases z),(fun _ _ _ _ z=>by simp at z),(fun _ z=>by cases z),(fun z=>by cases z),fun b o e=>by rw[au (fun z=>by rw[z,hacc] at e;cases e)];exact e⟩ ?_ ?_ ?_
    · rintro j σ H2 hj ⟨_,ts,bs,_,_,_,_,_,_,_,_,hk⟩
      exact .of (hk _ _ hx)
    · rintro j x σ H2 hxj ⟨hσ,ts,bs,gu,hbl,hA,hbn,hb,ht,htA,hbA,hk⟩
      rw[aL] at hxj
      obtain⟨k,hkj,rfl⟩:=jt.mp hxj
      have hjl:=(aP.mp hkj).1
      have e0:(σ.set 0 (some (V.int k)))[0]?=some (some (.int k)):=cX (by omega)
      refine⟨.int k,e0,eY _,fun b mK=>⟨IQ rfl,fun t uf=>?_⟩⟩
      have Iq:b≠t:=fun z=>by rw[<-z,aX] at uf;cases uf
      have Ci:b≠acc:=fun z=>by rw[z,hA] at mK;cases mK
      have nW:H2 t=none:=by rw[au (bx Iq)] at uf;exact uf
      have zK:t≠acc:=fun z=>by rw[z,hA] at nW;cases nW
      have PZ:H1 b=none:=by
        cases e:H1 b with
        |none=>rfl
        |some o=>rw[hk b o e] at mK;cases mK
      refine⟨ts.map V.ref,by rw[au (bx zK),au (bx Ci)];exact hA,by rw[aj,gu];exact eK (show j<10000 by omega) (by decide),by rw[gb];exact hσ,ts++[t],bs++[b],by rw[bz,gu];rfl,by rw[bz,hbl];rfl,by rw[aX,cZ];rfl,?_,?_,?_,?_,?_,?_⟩
      · rw[pe]
        refine⟨hbn,by simp,fun x hx y hy z=>?_⟩
        rw[aQ.mp hy] at z
        have:=(hb x hx).2
        rw[z,mK] at this;cases this
      · intro x hx
        rcases dg.mp hx with z|z
        · have:=hb x z
          refine⟨this.1,?_⟩
          rw[au (fun y=>hbA (by rw[<-y];exact z)),au (fun y=>by have:=this.2;rw[y,nW] at this;cases this),au (fun y=>by have:=this.2;rw[y,mK] at this;cases this)]
          exact this.2
        · rw[aQ.mp z]
          exact⟨PZ,by rw[au Ci,au Iq,aX]⟩
      · intro m t' b' k' h1 h2 h3
        rcases Ay m j with c|c|c
        · rw[gD (by omega)] at h1 h2
          have:=ht m t' b' k' h1 h2 h3
          rw[au (htA t' (br h1)),au (fun y=>by rw[y,nW] at this;cases this),au (fun y=>by rw[y,mK] at this;cases this)]
          exact this
        · subst c
          rw[g9 (by omega),gu,ue] at h1
          rw[g9 (by omega),hbl,ue] at h2
          simp at h1 h2
          subst h1 h2
          rw[hkj] at h3;cases h3
          rw[au zK,aX]
        · rw[fV (by rw[bz,fW];omega)] at h1;cases h1
      · intro x hx
        rcases dg.mp hx with z|z
        · exact htA x z
        · rw[aQ.mp z];exact zK
      · intro z
        rcases dg.mp z with z|z
        · exact hbA z
        · exact Ci (aQ.mp z).symm
      · intro b' o e
        have:=hk b' o e
        rw[au (fun z=>by rw[z,hacc] at e;cases e),au (fun y=>by rw[y,nW] at this;cases this),au (fun y=>by rw[y,mK] at this;cases this)]
        exact this
    · rintro σ2 H2 ⟨_,ts,bs,gu,hbl,hA,hbn,hb,ht,htA,hbA,hk⟩
      rw[aj] at gu hbl
      obtain⟨rows,er⟩:∃rows:List fU,rows=List.zipWith (fun k b=>(k,b,[])) ks bs:=⟨_,rfl⟩
      have hrl:rows.length=ks.length:=by rw[er,List.length_zipWith];omega
      have rZ:∀{m:Nat} {r:fU},rows[m]?=some r->∃k b,ks[m]?=some k/\bs[m]?=some b/\r=(k,b,[]):=fun{m r} hm=>by
        rw[er,List.getElem?_zipWith] at hm
        cases e1:ks[m]? with
        |none=>rw[e1] at hm;cases hm
        | some k =>
          cases e2:bs[m]? with
          |none=>rw[e1,e2] at hm;cases hm
          |some b=>rw[e1,e2] at hm;cases hm;exact⟨k,b,rfl,rfl,rfl⟩
      have hk1:rows.map (·.1)=ks:=by
        apply gU
        intro m
        rw[aL]
        cases e:rows[m]? with
        |none=>rw[fV (by have:=v5.mp e;omega)];rfl
        |some r=>obtain⟨k,b,e1,e2,rfl⟩:=rZ e;rw[e1];rfl
      have hb1:rows.map (·.2.1)=bs:=by
        apply gU
        intro m
        rw[aL]
        cases e:rows[m]? with
        |none=>rw[fV (by have:=v5.mp e;omega)];rfl
        |some r=>obtain⟨k,b,e1,e2,rfl⟩:=rZ e;rw[e2];rfl
      have hq1:(rows.map fun r=>(r.1,r.2.2))=ks.map (fun k=>(k,[])):=by
        apply gU
        intro m
        rw[aL,aL]
        cases e:rows[m]? with
        |none=>rw[fV (by have:=v5.mp e;omega)];rfl
        |some r=>obtain⟨k,b,e1,e2,rfl⟩:=rZ e;rw[e1];rfl
      refine⟨acc,ts.map V.ref,rows.map fun r=>(Sum.inl r.1,V.ref r.2.1),rfl,hA,by rw[aj,aj];omega,by rw[aj];omega,fun m y p hy hp=>?_,fun d hd0=>?_⟩
      · rw[aL] at hy hp
        obtain⟨t,e1,rfl⟩:=jt.mp hy
        obtain⟨r,e2,rfl⟩:=jt.mp hp
        obtain⟨k,b,g1,g2,rfl⟩:=rZ e2
        exact⟨t,rfl,ht m t b k e1 g2 g1⟩
      · have hm:lM [] (rows.map fun r=>((Sum.inl r.1:Key),V.ref r.2.1))=rows.map fun r=>(Sum.inl r.1,V.ref r.2.1):=by
          rw[JU,List.nil_append]
          · rw[dw,show((fun(x:Key×V)=>x.1)∘fun(r:fU)=>((Sum.inl r.1:Key),V.ref r.2.1))=(Sum.inl:Int->Key)∘(fun(r:fU)=>r.1) from rfl,<-dw,hk1]
            exact nd.map _ (fun a b h1 h2=>h1 (by injection h2))
          · intro q _;rfl
        rw[hm]
        have hdb:∀b∈bs,b≠d:=fun b hb' z=>by have:=(hb b hb').2;rw[z,hd0] at this;cases this
        have sm:∀b o,H1 b=some o->(upd H2 d (.dK (rows.map fun r=>(Sum.inl r.1,V.ref r.2.1)))) b=some o:=fun b o e=>by
          have:=hk b o e
          rw[au (fun z=>by rw[z,hd0] at this;cases this)];exact this
        have s2:Step G.B H (upd H2 d (.dK (rows.map fun r=>(Sum.inl r.1,V.ref r.2.1)))):=s1.trans (.same s1.2 sm)
        have hd1:H1 d=none:=by
          cases e:H1 d with
          |none=>rfl
          |some o=>rw[hk d o e] at hd0;cases hd0
        have hF:∀b∈(i7 d true rows).F,b=d\/b∈bs:=fun b hb'=>by
          rcases aM.mp hb' with z|z
          · exact .inl z
          · rw[hb1] at z;exact .inr z
        refine KK.nx _ _ _ _ (q d rows hq1) (W.yb (c:=i7 d true rows) s2 (fun b hb'=>?_) (fun b hb'=>?_) ?_)
        · rcases hF b hb' with z|z
          · rw[z];exact W.none_of s1 hd1
          · exact W.none_of s1 (hb b z).1
        · rcases hF b hb' with z|z
          · rw[z,aX];exact je _
          · rw[au (hdb b z),(hb b z).2];exact je _
        · refine⟨aX,?_,by rw[hk1];exact nd,fun r hr=>?_⟩
          · rw[hb1,gz]
            exact⟨fun z=>hdb d z rfl,hbn⟩
          · obtain⟨m,hm⟩:=gm hr
            obtain⟨k,b,g1,g2,rfl⟩:=rZ hm
            have hbm:=br g2
            exact⟨[],by show upd H2 d _ b=_;rw[au (hdb b hbm)];exact(hb b hbm).2, .nil⟩
theorem aC.Lp{Θ:Bool->List PyData->Prop}(h:Ev G ρ te fun _ x=>∃ks:Ks,x= .dict (ks.map bI)/\ks.length<64/\∀rs:List Int,rs.Pairwise (· <= ·)->rs.Perm (ks.map (·.1))->Θ true (rs.map .int)):aC G ρ (fN tS (bq te bT)) Θ:=fun nb σ H Q W z=>
 h nb σ H _ W fun f v H1 x ⟨ks,ex,hl,q⟩ s1 hv=>by
  subst ex
  unfold ai at hv
  obtain⟨a,ps,rfl,n,hp,hd⟩:=hv
  refine⟨a,ps,ks.map (·.1),rfl,hp,aA.keys hd,by rw[aj];exact hl,fun l rs hl' hw iA=>?_⟩
  exact aC.fin (f:=true) W s1 hl' (qT rs) (q rs hw iA) z
end
end L2
set_option maxRecDepth 100000
set_option maxHeartbeats 4000000
namespace L2
open PySem PySem.Spec PyProof.Rows
def cK(prs:aq)(pl:Int):Option Int:=(prs.find? fun pr=>decide (pr.1=pl)).map (·.2)
theorem Gb(pl:Int):cK [] pl=none:=rfl
theorem Bt(prs:aq)(pr:Int×Int)(pl:Int):cK (prs++[pr]) pl=match cK prs pl with|some f=>some f|none=>if pr.1=pl then some pr.2 else none:=by
  unfold cK
  rw[List.find?_append]
  cases prs.find? (fun pr=>decide (pr.1=pl)) with
  |some q=>rfl
  | none =>
    by_cases c:pr.1=pl
    · simp[c]
    · simp[c]
theorem xD{prs:aq}{pl:Int}(h:pl∉prs.map (·.1)):cK prs pl=none:=by
 unfold cK
 rw[List.find?_eq_none.mpr]
 ·rfl
 ·intro pr bu z
  exact h (by rw[<-of_decide_eq_true z];exact jO bu)
theorem C7{prs:aq}{pl f:Int}(h:cK prs pl=some f):(pl,f)∈prs:=by
 unfold cK at h
 obtain⟨q,e,rfl⟩:=jt.mp h
 have h1:=List.mem_of_find?_eq_some e
 have h2:=List.find?_some e
 have h2:q.1=pl:=of_decide_eq_true h2
 rw[<-h2]
 exact h1
theorem GN{prs:aq}{pl f:Int}(nd:(prs.map (·.1)).Nodup)(h:(pl,f)∈prs):cK prs pl=some f:=by
  induction prs with
  |nil=>cases h
  | cons q prs ih =>
    rw[aY,gz] at nd
    unfold cK
    rw[kK]
    rcases aM.mp h with z|z
    · subst z;simp
    · have:¬q.1=pl:=fun e=>nd.1 (by rw[e];exact jO (f:=(·.1)) z)
      rw[decide_eq_false this]
      exact ih nd.2 z
noncomputable def ko(p:Int)(c:Nat):Option Int->List (Int×Int)
 |some f=>[((c:Int),sol p f 1)]
 |none=>[]
noncomputable def eV(p:Int)(cs:List aq)(pl:Int)(i:Nat):List (Int×Int):=(List.range i).flatMap fun c=>ko p c (cK (cs.getD c []) pl)
theorem tM{p:Int}{cs:List aq}{pl:Int}{i:Nat}{prs:aq}(h:cs[i]?=some prs):eV p cs pl (i+1)=eV p cs pl i++ko p i (cK prs pl):=by
 unfold eV
 rw[tL,xg,vY,bG,h]
 rfl
theorem ql{p:Int}{cs:List aq}{pl:Int}:∀i,(eV p cs pl i).length<=i
  |0=>aJ _
  | i + 1 => by
    unfold eV
    rw[tL,xg,bz,vY]
    have:=ql (p:=p) (cs:=cs) (pl:=pl) i
    have h2:∀o,(ko p i o).length<=1:=fun o=>by cases o<;>simp[ko]
    have:=h2 (cK (cs.getD i []) pl)
    unfold eV at*
    omega
theorem qI{p:Int}{cs:List aq}{pl:Int}{q:Int×Int}{i:Nat}(hi:i<=cs.length)(h:q∈eV p cs pl i):∃(c:Nat) (prs:aq) (f:Int),cs[c]?=some prs/\c<i/\cK prs pl=some f/\q=((c:Int),sol p f 1):=by
  unfold eV at h
  obtain⟨c,hc,hq⟩:=vF.mp h
  have hc:=jC.mp hc
  have e:cs[c]?=some cs[c]:=aB (by omega)
  rw[bG,e] at hq
  cases hf:cK cs[c] pl with
  |none=>simp[ko,hf] at hq
  | some f =>
    have hq:q∈ko p c (cK cs[c] pl):=hq
    rw[hf] at hq
    exact⟨c,cs[c],f,e,hc,hf,aQ.mp hq⟩
noncomputable def jb(p:Int)(cs:List aq)(c:Nat)(prs:aq)(pl:Int):Int×List PyData:=(pl,(eV p cs pl c++ko p c (cK prs pl)).map pairD)
theorem Sx{p:Int}{cs:List aq}{c:Nat}{dO:List Int}:(dO.map fun pl=>(pl,(eV p cs pl c).map pairD))=dO.map (jb p cs c []):=by
 apply fX
 intro pl _
 unfold jb
 rw[Gb]
 show _=(pl,(eV p cs pl c++[]).map pairD)
 rw[eN]
theorem UG{p:Int}{cs:List aq}{c:Nat}{prs:aq}{pr:Int×Int}{dO:List Int}(h:pr.1∉dO):dO.map (jb p cs c (prs++[pr]))=dO.map (jb p cs c prs):=by
 apply fX
 intro pl hpl
 unfold jb
 rw[Bt]
 have:¬pr.1=pl:=fun e=>h (by rw[e];exact hpl)
 cases cK prs pl<;>simp[this]
theorem Ot{p:Int}{cs:List aq}{c:Nat}{prs:aq}{pr:Int×Int}{dO:List Int}(h:pr.1∉prs.map (·.1)):dO.map (jb p cs c (prs++[pr]))=(dO.map (jb p cs c prs)).map fun q=>if q.1=pr.1 then(q.1,q.2++[pairD ((c:Int),sol p pr.2 1)]) else q:=by
 rw[dw]
 apply fX
 intro pl _
 show jb p cs c (prs++[pr]) pl=if pl=pr.1 then _ else _
 unfold jb
 rw[Bt]
 by_cases e:pl=pr.1
 ·subst e
  rw[if_pos rfl,xD h]
  simp[ko]
 ·rw[if_neg e]
  have:¬pr.1=pl:=fun z=>e z.symm
  cases cK prs pl<;>simp[this]
noncomputable def bM(p:Int)(cs:List aq)(ws:List Int)(pl:Int):List Int:=
 (eV p cs pl cs.length).map fun q=>(ws.getD pl.toNat 0-aU (cs.getD q.1.toNat []) (ws.map some)%p*q.2)%p
structure iB(p n:Int)(cs:List aq):Prop where
 hp:gv p
 gn:p<10^40
 n0:1<=n
 n1:n<=400
 cl:cs.length<=400
 ok:∀prs∈cs,lE p n.toNat prs
noncomputable def eT(p:Int)(cs:List aq)(ws:List Int):List Int:=cs.map fun prs=>aU prs (ws.map some)%p
theorem JG{p:Int}{cs:List aq}{ws:List Int}(c:Nat)(h:c<cs.length):(eT p cs ws).getD c 0=aU (cs.getD c []) (ws.map some)%p:=by
 unfold eT
 rw[bG,aL,bG,aB h]
 rfl
theorem Bo(p:Int)(cs:List aq)(ws:List Int):(cs.map fun prs=>g7 (oK p prs (ws.map some)))=(eT p cs ws).map PyData.int:=by
 unfold eT
 rw[dw]
 apply fX
 intro prs _
 have:¬wc prs (ws.map some):=by
  rintro⟨pr,_,z⟩
  rw[aL] at z
  cases h:ws[pr.1.toNat]? with
  |none=>rw[h] at z;cases z
  |some x=>rw[h] at z;cases z
 unfold oK
 rw[if_neg this]
 rfl
theorem Ju{prs:aq}{ws:List Int}{pl:Nat}{x:Int}(nd:(prs.map (·.1)).Nodup)(hr:∀pr∈prs,0<=pr.1)(hpl:pl<ws.length):
    aU prs ((ws.set pl x).map some)=aU prs (ws.map some)+((cK prs (pl:Int)).getD 0)*(x-ws.getD pl 0):=by
  induction prs with
  |nil=>show(0:Int)=0+0*_;rw[oE];rfl
  | cons pr prs ih =>
    rw[aY,gz] at nd
    have ih:=ih nd.2 fun q hq=>hr q (cG _ hq)
    have h0:=hr pr (bA ..)
    show gE _ pr+aU prs _=(gE _ pr+aU prs _)+_
    rw[ih]
    have hf:cK (pr::prs) (pl:Int)=if pr.1=(pl:Int) then some pr.2 else cK prs (pl:Int):=by
      unfold cK
      rw[kK]
      by_cases c:pr.1=(pl:Int)
      · simp[c]
      · simp[c]
    rw[hf]
    by_cases c:pr.1=(pl:Int)
    · rw[if_pos c]
      have hn:cK prs (pl:Int)=none:=xD (by rw[<-c];exact nd.1)
      rw[hn]
      have hn2:pr.1.toNat=pl:=by omega
      unfold gE
      rw[aL,aL,hn2,cX hpl,bG,aB hpl]
      show pr.2*x+(_+0*_)=pr.2*ws[pl]+_+pr.2*(x-ws[pl])
      grind
    · rw[if_neg c]
      have hn2:pl≠pr.1.toNat:=by omega
      have:gE ((ws.set pl x).map some) pr=gE (ws.map some) pr:=by
        unfold gE
        rw[aL,aL,bP hn2]
      rw[this]
      omega
theorem Cp{p:Int}{prs:aq}{ws:List Int}{pl:Nat}{x f:Int}(hp:gv p)(hq:lE p ws.length prs)(hpl:pl<ws.length)(hf:cK prs (pl:Int)=some f)(x0:0<=x)(x1:x<p):
  (ws.getD pl 0-aU prs (ws.map some)%p*sol p f 1)%p=x↔aU prs ((ws.set pl x).map some)%p=0:=by
 have hm:=C7 hf
 obtain⟨_,_,f0,f1⟩:=hq.2.2 _ hm
 have p2:=hp.1
 have hfp:f%p≠0:=by rw[lu (by omega) f1];dsimp only at f0;omega
 obtain⟨k,hk⟩:=yS (a:=1) hp hfp
 rw[Ju hq.1 (fun pr bu=>(hq.2.2 pr bu).1) hpl,hf]
 generalize aU prs (ws.map some)=D
 generalize sol p f 1=s at*
 generalize ws.getD pl 0=w
 have hD:D%p=D-p*(D/p):=Bq ..
 constructor
 ·intro e
  have e2:w-D%p*s=x+p*((w-D%p*s)/p):=by rw[<-e];exact(J4 _ _).symm
  generalize (w-D%p*s)/p=j at e2
  rw[hD] at e2
  apply qD
  refine⟨-(D*k)+D/p*(f*s)-f*j,?_⟩
  show D+f*(x-w)=_
  have e3:x-w= -(D-p*(D/p))*s-p*j:=by grind
  rw[e3]
  grind
 ·intro e
  obtain⟨j,hj⟩:=we e
  have hj:D+f*(x-w)=p*j:=hj
  have:w-D%p*s=x+p*(D/p*s-j*s+k*(x-w)):=by
   rw[hD]
   have h1:(D+f*(x-w))*s=p*j*s:=by rw[hj]
   grind
  rw[this,zd,lu x0 x1]
noncomputable def rz(p:Int)(cs:List aq)(ws:List Int)(pl:Nat)(x:Int):Nat:=cs.countP fun prs=>decide ((pl:Int)∈prs.map (·.1)) && decide (aU prs ((ws.set pl x).map some)%p=0)
theorem zu{p:Int}{cs:List aq}{ws:List Int}{pl:Nat}{x:Int}(hp:gv p)(hq:∀prs∈cs,lE p ws.length prs)(hpl:pl<ws.length)(x0:0<=x)(x1:x<p):(bM p cs ws (pl:Int)).count x=rz p cs ws pl x:=by
  have key:∀i,i<=cs.length->(((eV p cs (pl:Int) i).map fun q=>(ws.getD pl 0-aU (cs.getD q.1.toNat []) (ws.map some)%p*q.2)%p).count x)=rz p (cs.take i) ws pl x:=by
    intro i
    induction i with
    |zero=>intro _;rfl
    | succ i ih =>
      intro hi
      have e:cs[i]?=some cs[i]:=aB (by omega)
      have hg:cs.getD i []=cs[i]:=by rw[bG,e];rfl
      have Iv:=hq cs[i] (ig _)
      unfold rz at*
      rw[tM e,cZ,wU,ih (by omega),take_snoc e,qC]
      congr 1
      rw[p8]
      cases hf:cK cs[i] (pl:Int) with
      | none =>
        have:¬(pl:Int)∈cs[i].map (·.1):=fun z=>by
          obtain⟨pr,bu,e2⟩:=cI.mp z
          rw[GN Iv.1 (show((pl:Int),pr.2)∈cs[i] by rw[<-e2];exact bu)] at hf
          cases hf
        simp[ko,this]
      | some f =>
        have hm:(pl:Int)∈cs[i].map (·.1):=jO (f:=(·.1)) (C7 hf)
        have hv:=Cp hp Iv hpl hf x0 x1
        show List.count x [(ws.getD pl 0-aU (cs.getD ((i:Int)).toNat []) (ws.map some)%p*sol p f 1)%p]=_
        rw[eX,hg,z5]
        have hb:((ws.getD pl 0-aU cs[i] (ws.map some)%p*sol p f 1)%p==x)=decide (aU cs[i] ((ws.set pl x).map some)%p=0):=by
          rw[nJ,beq_iff_eq,decide_eq_true_eq]
          exact hv
        rw[hb,decide_eq_true hm,su]
  have:=key cs.length (aJ _)
  rw[fE] at this
  unfold bM
  rw[eX]
  exact this
theorem QC{rs:List Int}{x:Int}:(rs.map fun r=>if r=x then 1 else 0).sum=rs.count x:=by
  induction rs with
  |nil=>rfl
  | cons r rs ih =>
    rw[aY,nq,ih,xx]
    by_cases c:r=x
    · simp[c];omega
    · simp[c]
theorem sum_add{rs:List Int}{f g:Int->Nat}:(rs.map fun r=>f r+g r).sum=(rs.map f).sum+(rs.map g).sum:=by
 induction rs with
 |nil=>rfl
 |cons r rs ih=>rw[aY,nq,ih,aY,nq,aY,nq];omega
theorem Ff{rs:List Int}(nd:rs.Nodup):∀{L:List Int},(∀k∈L,k∈rs)->(rs.map fun r=>L.count r).sum=L.length
  | [], _ => by
    have:(rs.map fun r=>([]:List Int).count r)=rs.map fun _=>0:=rfl
    rw[this]
    clear nd this
    induction rs with
    |nil=>rfl
    |cons r rs ih=>rw[aY,nq,ih fun _ h=>nomatch h];rfl
  | x :: L, h => by
    have e:(rs.map fun r=>(x::L).count r)=rs.map fun r=>L.count r+if r=x then 1 else 0:=by
      apply fX
      intro r _
      rw[xx]
      by_cases c:r=x
      · simp[c]
      · have:¬x=r:=fun z=>c z.symm
        simp[c,this]
    rw[e,sum_add,Ff nd fun k hk=>h k (cG _ hk),QC,j7,List.Nodup.count nd,if_pos (h x (bA ..))]
theorem GG{p:Int}{cs:List aq}{pl:Int}:∀i,i<=cs.length->(eV p cs pl i).length=(cs.take i).countP fun prs=>decide (pl∈prs.map (·.1))
  |0,_=>rfl
  | i + 1, hi => by
    have e:cs[i]?=some cs[i]:=aB (by omega)
    rw[tM e,bz,GG i (by omega),take_snoc e,qC,p8]
    congr 1
    cases hf:cK cs[i] pl with
    | some f =>
      rw[if_pos (decide_eq_true (jO (f:=(·.1)) (C7 hf)))]
      rfl
    | none =>
      rw[if_neg]
      · rfl
      · intro z
        have z:=of_decide_eq_true z
        obtain⟨pr,bu,e2⟩:=cI.mp z
        unfold cK at hf
        rw[Option.map_eq_none_iff,List.find?_eq_none] at hf
        exact hf pr bu (decide_eq_true e2)
theorem Gn:∀{a b:List Int},a.Pairwise (· < ·)->b.Pairwise (· < ·)->(∀k,k∈a↔k∈b)->a=b
  |[],[],_,_,_=>rfl
  |[],y::b,_,_,h=>absurd ((h y).mpr (bA ..)) (by simp)
  |x::a,[],_,_,h=>absurd ((h x).mp (bA ..)) (by simp)
  | x :: a, y :: b, ha, hb, h => by
    rw[wu] at ha hb
    have Nd:x=y:=by
      rcases aM.mp ((h x).mp (bA ..)) with z|z
      · exact z
      · rcases aM.mp ((h y).mpr (bA ..)) with w|w
        · exact w.symm
        · have h1:=hb.1 x z
          have h2:=ha.1 y w
          omega
    subst Nd
    rw[Gn ha.2 hb.2 fun k=>?_]
    constructor
    · intro z
      rcases aM.mp ((h k).mp (cG _ z)) with w|w
      · have:=ha.1 k z;omega
      · exact w
    · intro z
      rcases aM.mp ((h k).mpr (cG _ z)) with w|w
      · have:=hb.1 k z;omega
      · exact w
theorem VQ(ks:Ks)(k:Int)(d:PyData):(oF ks k d).length<=ks.length+1:=by
 unfold oF
 split
 ·rw[aj];omega
 ·rw[bz,fW];omega
end L2
set_option maxRecDepth 100000
set_option maxHeartbeats 4000000
namespace L2
open PySem PySem.Spec PyProof.Rows
theorem CO{x y:Int}(h:x≠y):∀L:List Int,L.count x+L.count y<=L.length
  |[]=>aJ _
  | z :: L => by
    have ih:=CO h L
    rw[xx,xx,j7]
    by_cases c1:z=x
    · have:¬z=y:=fun e=>h (c1.symm.trans e)
      simp[c1,h]
      omega
    · simp[c1]
      split<;>omega
def cy(L:List Int)(w x:Int):Bool:=decide (x≠w) && decide (L.length<2*L.count x)
def ji(L:List Int)(w:Int):List Int:=(L.filter (cy L w)).take 1
theorem Ka{L:List Int}{w x y:Int}(hx:cy L w x=true)(hy:cy L w y=true):x=y:=by
 unfold cy at hx hy
 rw[cD,decide_eq_true_eq,decide_eq_true_eq] at hx hy
 refine fS fun h=>?_
 have:=CO h L
 omega
theorem GO{L ms:List Int}{w:Int}(nd:ms.Nodup)(hm:∀k,k∈ms↔k∈L):ms.filter (cy L w)=ji L w:=by
  unfold ji
  cases e:L.filter (cy L w) with
  | nil =>
    rw[xO] at e
    show _=[]
    rw[xO]
    exact fun x hx=>e x ((hm x).mp hx)
  | cons x r =>
    have hx:x∈L.filter (cy L w):=by rw[e];exact bA ..
    rw[fQ] at hx
    have kT:x∈ms.filter (cy L w):=fQ.mpr ⟨(hm x).mpr hx.1,hx.2⟩
    have hall:∀y∈ms.filter (cy L w),y=x:=fun y hy=>Ka (fQ.mp hy).2 hx.2
    have hnd:(ms.filter (cy L w)).Nodup:=nd.filter _
    show _=[x]
    cases e2:ms.filter (cy L w) with
    |nil=>rw[e2] at kT;cases kT
    | cons y r2 =>
      rw[e2] at hall hnd
      have ey:=hall y (bA ..)
      subst ey
      cases r2 with
      |nil=>rfl
      | cons z r3 =>
        have:=hall z (cG _ (bA ..))
        subst this
        rw[gz] at hnd
        exact absurd (bA ..) hnd.1
@[reducible] def cJ(t:Int×Int×Int):PyData:= .tuple [.int t.1, .int t.2.1, .int t.2.2]
noncomputable def lH(p:Int)(cs:List aq)(ws:List Int)(i:Nat):List (Int×Int×Int):=(ji (bM p cs ws (i:Int)) (ws.getD i 0)).map fun x=>((i:Int),ws.getD i 0,x)
noncomputable def bL(p:Int)(cs:List aq)(ws:List Int)(m:Nat):List (Int×Int×Int):=(List.range m).flatMap (lH p cs ws)
theorem t7{p:Int}{cs:List aq}{ws:List Int}{m:Nat}:bL p cs ws (m+1)=bL p cs ws m++lH p cs ws m:=by
 unfold bL
 rw[tL,xg,vY]
theorem JI{L:List Int}{w:Int}:(ji L w).length<=1:=by unfold ji;rw[iX];omega
theorem sL{p:Int}{cs:List aq}{ws:List Int}:∀m,(bL p cs ws m).length<=m
  |0=>aJ _
  | m + 1 => by
    rw[t7,bz]
    have:=sL (p:=p) (cs:=cs) (ws:=ws) m
    have:(lH p cs ws m).length<=1:=by unfold lH;rw[aj];exact JI
    omega
theorem Su{L:List Int}{w x:Int}(h:x∈ji L w):x∈L:=(fQ.mp (ED h)).1
theorem vO{p:Int}{cs:List aq}{ws:List Int}{m:Nat}{t:Int×Int×Int}(h:t∈bL p cs ws m):∃i<m,t.1=(i:Int)/\t.2.1=ws.getD i 0/\t.2.2∈bM p cs ws (i:Int):=by
 unfold bL at h
 obtain⟨i,hi,ht⟩:=vF.mp h
 unfold lH at ht
 obtain⟨x,hx,rfl⟩:=cI.mp ht
 exact⟨i,jC.mp hi,rfl,rfl,Su hx⟩
def dS(ws:List Int)(ts:List (Int×Int×Int)):List Int:=ts.foldl (fun w t=>w.set t.1.toNat t.2.2) ws
theorem Dc(ws:List Int)(ts:List (Int×Int×Int))(t:Int×Int×Int):dS ws (ts++[t])=(dS ws ts).set t.1.toNat t.2.2:=by unfold dS;rw[wF];rfl
theorem oj(ws:List Int):∀ts,(dS ws ts).length=ws.length:=by
 intro ts
 unfold dS
 induction ts generalizing ws with
 |nil=>rfl
 |cons t ts ih=>rw[List.foldl_cons,ih,gb]
theorem PR{ws:List Int}{P:Int->Prop}(h:∀x∈ws,P x):∀ts:List (Int×Int×Int),(∀t∈ts,P t.2.2)->∀x∈dS ws ts,P x:=by
  intro ts
  unfold dS
  induction ts generalizing ws with
  |nil=>exact fun _=>h
  | cons t ts ih =>
    intro ht
    rw[List.foldl_cons]
    refine ih (fun x hx=>?_) fun q hq=>ht q (cG _ hq)
    rcases uV hx with z|z
    · exact h x z
    · rw[z];exact ht t (bA ..)
theorem wj{p:Int}{cs:List aq}{ws:List Int}{pl:Int}(hp:0<p):∀x∈bM p cs ws pl,0<=x/\x<p:=fun x hx=>by
 unfold bM at hx
 obtain⟨y,_,rfl⟩:=cI.mp hx
 exact⟨eS _ (by omega),eF _ hp⟩
theorem SV{p:Int}{cs:List aq}{ws:List Int}{pl:Int}:(bM p cs ws pl).length<=cs.length:=by
 unfold bM
 rw[aj]
 exact ql cs.length
noncomputable def ki(p:Int)(cs:List aq)(n:Nat):Ks:=((List.range n).map fun(i:Nat)=>(i:Int)).map fun pl=>(pl,PyData.list ((eV p cs pl cs.length).map pairD))
theorem JR{p:Int}{cs:List aq}{n i:Nat}(h:i<n):gh (ki p cs n) (i:Int)=some (.list ((eV p cs (i:Int) cs.length).map pairD)):=by
 unfold ki
 rw[sj,if_pos (cI.mpr ⟨i,jC.mpr h,rfl⟩)]
end L2
set_option maxRecDepth 100000
set_option maxHeartbeats 4000000
namespace L2
open PySem PySem.Spec PyProof.Rows
def brk(p:Int)(cs:List aq)(ws:List Int):Nat:=cs.countP fun prs=>decide (aU prs (ws.map some)%p≠0)
theorem PD{p:Int}{cs:List aq}{ws:List Int}:brk p cs ws<=cs.length:=Dg
theorem Ut{p:Int}{cs:List aq}{ws:List Int}{pl:Nat}{x:Int}(hp:gv p)(hq:∀prs∈cs,lE p ws.length prs)(hpl:pl<ws.length)(hw:∀y∈ws,0<=y/\y<p)(x0:0<=x)(x1:x<p):
    (brk p cs (ws.set pl x):Int)=brk p cs ws+(bM p cs ws (pl:Int)).count (ws.getD pl 0)-(bM p cs ws (pl:Int)).count x:=by
  have hg:ws.getD pl 0=ws[pl]:=by rw[bG,aB hpl];rfl
  obtain⟨g0,g1⟩:=hw _ (ig hpl)
  rw[zu hp hq hpl x0 x1,zu hp hq hpl (by rw[hg];exact g0) (by rw[hg];exact g1)]
  have lg:ws.set pl (ws.getD pl 0)=ws:=by rw[hg];exact KI hpl
  unfold rz brk
  rw[lg]
  clear lg hg g0 g1
  induction cs with
  |nil=>rfl
  | cons prs cs ih =>
    have ih:=ih fun q h=>hq q (cG _ h)
    have IT:=hq prs (bA ..)
    rw[nP,nP,nP,nP]
    by_cases c:(pl:Int)∈prs.map (·.1)
    · by_cases c1:aU prs ((ws.set pl x).map some)%p=0
      · by_cases c2:aU prs (ws.map some)%p=0
        · rw[if_neg (by rw[decide_eq_false (fun z=>z c1)];decide),if_neg (by rw[decide_eq_false (fun z=>z c2)];decide),if_pos (by rw[decide_eq_true c,decide_eq_true c2];rfl),if_pos (by rw[decide_eq_true c,decide_eq_true c1];rfl)]
          omega
        · rw[if_neg (by rw[decide_eq_false (fun z=>z c1)];decide),if_pos (by rw[decide_eq_true c2]),if_neg (by rw[decide_eq_true c,decide_eq_false c2];decide),if_pos (by rw[decide_eq_true c,decide_eq_true c1];rfl)]
          omega
      · by_cases c2:aU prs (ws.map some)%p=0
        · rw[if_pos (by rw[decide_eq_true c1]),if_neg (by rw[decide_eq_false (fun z=>z c2)];decide),if_pos (by rw[decide_eq_true c,decide_eq_true c2];rfl),if_neg (by rw[decide_eq_true c,decide_eq_false c1];decide)]
          omega
        · rw[if_pos (by rw[decide_eq_true c1]),if_pos (by rw[decide_eq_true c2]),if_neg (by rw[decide_eq_true c,decide_eq_false c2];decide),if_neg (by rw[decide_eq_true c,decide_eq_false c1];decide)]
          omega
    · have hf:cK prs (pl:Int)=none:=xD c
      have e:aU prs ((ws.set pl x).map some)=aU prs (ws.map some):=by
        rw[Ju IT.1 (fun pr bu=>(IT.2.2 pr bu).1) hpl,hf]
        show _+0*_=_
        rw[oE,Int.add_zero]
      rw[e,decide_eq_false c,Bool.false_and]
      simp only[BP,if_false]
      split<;>omega
abbrev jG:=Int×Option (Int×Int×Int)
def jg(p:Int)(cs:List aq)(ws:List Int)(i:Nat)(s:jG)(x:Int):jG:=if(brk p cs (ws.set i x):Int)<s.1 then(brk p cs (ws.set i x),some ((i:Int),x,(brk p cs (ws.set i x):Int))) else s
def ic(p:Int)(cs:List aq)(ws:List Int)(i:Nat)(s:jG)(xs:List Int):jG:=xs.foldl (jg p cs ws i) s
theorem UA{p:Int}{cs:List aq}{ws:List Int}{i:Nat}{s:jG}{xs:List Int}{x:Int}:ic p cs ws i s (xs++[x])=jg p cs ws i (ic p cs ws i s xs) x:=by unfold ic;rw[wF];rfl
theorem KD{p:Int}{cs:List aq}{ws:List Int}{i:Nat}{s:jG}{x:Int}:(jg p cs ws i s x).1<=s.1:=by
 unfold jg
 split
 ·dsimp only;omega
 ·exact pS _
theorem Af{p:Int}{cs:List aq}{ws:List Int}{i:Nat}{xs:List Int}:∀{s:jG},(ic p cs ws i s xs).1<=s.1:=by
 induction xs with
 |nil=>exact pS _
 |cons x xs ih=>intro s;exact tG (ih (s:=jg p cs ws i s x)) KD
noncomputable def mj(p:Int)(cs:List aq)(ws:List Int)(i:Nat):List Int:=open Classical in
 if h:∃rs:List Int,rs.Pairwise (· < ·)/\∀k,k∈rs↔k∈bM p cs ws (i:Int) then Classical.choose h else[]
theorem EM{p:Int}{cs:List aq}{ws:List Int}{i:Nat}{rs:List Int}(h1:rs.Pairwise (· < ·))(h2:∀k,k∈rs↔k∈bM p cs ws (i:Int)):rs=mj p cs ws i:=by
 have h:∃rs:List Int,rs.Pairwise (· < ·)/\∀k,k∈rs↔k∈bM p cs ws (i:Int):=⟨rs,h1,h2⟩
 unfold mj
 rw[dif_pos h]
 obtain⟨g1,g2⟩:=tK h
 exact Gn h1 g1 fun k=>by rw[h2 k,g2 k]
noncomputable def eZ(p:Int)(cs:List aq)(ws:List Int)(m:Nat):jG:=(List.range m).foldl (fun s i=>ic p cs ws i s (mj p cs ws i)) ((brk p cs ws:Int),none)
theorem vR{p:Int}{cs:List aq}{ws:List Int}{m:Nat}:eZ p cs ws (m+1)=ic p cs ws m (eZ p cs ws m) (mj p cs ws m):=by
 unfold eZ
 rw[tL,wF]
 rfl
theorem JQ{p:Int}{cs:List aq}{ws:List Int}:∀m,(eZ p cs ws m).1<=brk p cs ws
 |0=>pS _
 |m+1=>by rw[vR];exact tG Af (JQ m)
theorem TR{p:Int}{cs:List aq}{ws:List Int}{i:Nat}{s:jG}{x:Int}{m:Nat}{B:Int}(hs:(s.2=none/\s.1=B)\/∃j y,j<m/\s=((brk p cs (ws.set j y):Int),some ((j:Int),y,(brk p cs (ws.set j y):Int)))/\(brk p cs (ws.set j y):Int)<B/\0<=y/\y<p)(hi:i<m)(x0:0<=x)(x1:x<p)(hB:s.1<=B):
  ((jg p cs ws i s x).2=none/\(jg p cs ws i s x).1=B)\/∃j y,j<m/\jg p cs ws i s x=((brk p cs (ws.set j y):Int),some ((j:Int),y,(brk p cs (ws.set j y):Int)))/\(brk p cs (ws.set j y):Int)<B/\0<=y/\y<p:=by
 unfold jg
 split
 ·exact .inr ⟨i,x,hi,rfl,by omega,x0,x1⟩
 ·exact hs
theorem G9{p:Int}{cs:List aq}{ws:List Int}{i:Nat}{m:Nat}{B:Int}(hi:i<m):∀{xs:List Int} {s:jG},(∀x∈xs,0<=x/\x<p)->s.1<=B->((s.2=none/\s.1=B)\/∃j y,j<m/\s=((brk p cs (ws.set j y):Int),some ((j:Int),y,(brk p cs (ws.set j y):Int)))/\(brk p cs (ws.set j y):Int)<B/\0<=y/\y<p)->
  ((ic p cs ws i s xs).2=none/\(ic p cs ws i s xs).1=B)\/∃j y,j<m/\ic p cs ws i s xs=((brk p cs (ws.set j y):Int),some ((j:Int),y,(brk p cs (ws.set j y):Int)))/\(brk p cs (ws.set j y):Int)<B/\0<=y/\y<p
 |[],_,_,_,h=>h
 |x::xs,s,hx,hB,h=>G9 hi (xs:=xs) (fun y hy=>hx y (cG _ hy)) (tG KD hB) (TR h hi (hx x (bA ..)).1 (hx x (bA ..)).2 hB)
theorem S7{p:Int}{cs:List aq}{ws:List Int}{i:Nat}(hp:0<p):∀x∈mj p cs ws i,0<=x/\x<p:=by
 intro x hx
 unfold mj at hx
 split at hx
 ·rename_i h
  exact wj hp x (((tK h).2 x).mp hx)
 ·cases hx
theorem uZ{p:Int}{cs:List aq}{ws:List Int}{m:Nat}(hp:0<p):∀k,k<=m->((eZ p cs ws k).2=none/\(eZ p cs ws k).1=(brk p cs ws:Int))\/∃j y,j<m/\eZ p cs ws k=((brk p cs (ws.set j y):Int),some ((j:Int),y,(brk p cs (ws.set j y):Int)))/\(brk p cs (ws.set j y):Int)<(brk p cs ws:Int)/\0<=y/\y<p
  |0,_=> .inl ⟨rfl,rfl⟩
  | k + 1, h => by
    rw[vR]
    exact G9 (by omega) (S7 hp) (JQ k) (uZ hp k (by omega))
noncomputable def runC(p:Int)(cs:List aq)(n:Nat):Nat->List Int->List Int×List (Int×Int×Int)
  |0,ws=>(ws,[])
  | k + 1, ws => match (eZ p cs ws n).2 with
    |none=>(ws,[])
    |some t=>((runC p cs n k (ws.set t.1.toNat t.2.1)).1,t::(runC p cs n k (ws.set t.1.toNat t.2.1)).2)
theorem Hg{p:Int}{cs:List aq}{n k:Nat}{ws:List Int}(h:(eZ p cs ws n).2=none):runC p cs n k ws=(ws,[]):=by
 cases k with
 |zero=>rfl
 |succ k=>unfold runC;rw[h]
theorem G4{p:Int}{cs:List aq}{n k:Nat}{ws:List Int}{t:Int×Int×Int}(h:(eZ p cs ws n).2=some t):runC p cs n (k+1) ws=((runC p cs n k (ws.set t.1.toNat t.2.1)).1,t::(runC p cs n k (ws.set t.1.toNat t.2.1)).2):=by
 rw[runC,h]
theorem Ev.WA{G:Gx}{ρ:Rh}{ta tb tc:TE}{K:PySem.W.Frag}{Φ:Pd}(h:Ev G ρ tc fun f x=>∃ks:Ks,x= .dict (ks.map bI)/\Ev G ρ ta fun _ y=>∃k,y= .int k/\Ev G ρ tb fun g z=>Φ (f && g) ((gh ks k).getD z)):Ev G ρ (lA K "dict" wD tc (bq ta (bq tb bT))) Φ:=fun nb σ H Q W z=>
  h nb σ H _ W fun f v H1 x ⟨ks,ex,q⟩ s1 hv=>by
    subst ex
    unfold ai at hv
    obtain⟨a,ps,rfl,n,hp,hd⟩:=hv
    have hN:NB G.B a:=fS fun z=>n (.inr (.inr (.inl z)))
    have hty:oU K "dict" (.ref a) H1:=by
      rcases hp with hp|⟨o,hp⟩
      · exact .inr (.inr (.inl ⟨rfl, .inl ⟨_,hp⟩⟩))
      · exact .inr (.inr (.inl ⟨rfl, .inr (.inr ⟨_,_,hp⟩)⟩))
    refine⟨hty,?_⟩
    refine q nb σ H1 _ (W.step s1) fun g w H2 y ⟨k,ey,q2⟩ s2 hw=>q2 nb σ H2 _ ((W.step s1).step s2) fun g' u H3 x p s3 hu=>?_
    subst ey
    have rj:=s2.trans s3
    have hd2:=hd.keep rj.dX
    have hp3:Rd H3 a (.dK ps):=by
      rcases hp with hp|⟨o,hp⟩
      · exact .inl (rj.1 _ _ hN hp)
      · exact .inr ⟨o,rj.1 _ _ hN hp⟩
    have hv:=aA.val k hd2
    refine⟨a,ps, .inl k,u,rfl,by rw[hw.bX];rfl,hp3,?_⟩
    cases hk:gh ks k with
    | none =>
      rw[hk] at hv p
      rw[hv]
      exact z _ _ H3 _ p (s1.trans rj) (hu.av (bK (fun z=>(cD _ _▸z).2) fun _ z=>z))
    | some d =>
      rw[hk] at hv p
      obtain⟨v,e',hD⟩:=hv
      rw[e']
      exact z _ _ H3 _ p (s1.trans rj) (hD.av (bK (fun z=>(cD _ _▸z).1) fun _ z=>z))
end L2
set_option maxRecDepth 100000
set_option maxHeartbeats 4000000
namespace L2
open PySem PySem.Spec PyProof.Rows
abbrev jP:=Int×Int×Int
noncomputable def c8(p:Int)(cs:List aq)(n:Nat):Nat->List Int->List Int×List (List jP)×Str
  |0,ws=>(ws,[],if brk p cs ws=0 then Str.ofString "held" else Str.ofString "far")
  | k + 1, ws => if brk p cs ws = 0 then (ws, [], Str.ofString "held") else if bL p cs ws n = [] then (ws, [], Str.ofString "stuck")
    else((c8 p cs n k (dS ws (bL p cs ws n))).1,bL p cs ws n::(c8 p cs n k (dS ws (bL p cs ws n))).2.1,(c8 p cs n k (dS ws (bL p cs ws n))).2.2)
theorem qR{p:Int}{cs:List aq}{n k:Nat}{ws:List Int}(h:brk p cs ws=0):c8 p cs n k ws=(ws,[],Str.ofString "held"):=by
 cases k with
 |zero=>rw[c8,if_pos h]
 |succ k=>rw[c8,if_pos h]
theorem DK{p:Int}{cs:List aq}{n:Nat}{ws:List Int}(h:brk p cs ws≠0):c8 p cs n 0 ws=(ws,[],Str.ofString "far"):=by
 rw[c8,if_neg h]
theorem CZ{p:Int}{cs:List aq}{n k:Nat}{ws:List Int}(h:brk p cs ws≠0)(h2:bL p cs ws n=[]):c8 p cs n (k+1) ws=(ws,[],Str.ofString "stuck"):=by
 rw[c8,if_neg h,if_pos h2]
theorem vC{p:Int}{cs:List aq}{n k:Nat}{ws:List Int}(h:brk p cs ws≠0)(h2:bL p cs ws n≠[]):c8 p cs n (k+1) ws=((c8 p cs n k (dS ws (bL p cs ws n))).1,bL p cs ws n::(c8 p cs n k (dS ws (bL p cs ws n))).2.1,(c8 p cs n k (dS ws (bL p cs ws n))).2.2):=by
 rw[c8,if_neg h,if_neg h2]
theorem OG{p:Int}{cs:List aq}{ws:List Int}:(eT p cs ws).countP (fun s=>decide (s≠0))=brk p cs ws:=by
 unfold eT brk
 rw[List.countP_map]
 rfl
def pO(ts:List jP):PyData:= .list (ts.map cJ)
def p9(r:List Int×List (List jP)×Str):PyData:= .tuple [aI r.1, .list (r.2.1.map pO), .tuple [.str r.2.2]]
theorem Ea{p:Int}{cs:List aq}{n:Nat}{ws:List Int}(hp:0<p)(hl:ws.length=n)(hw:∀x∈ws,0<=x/\x<p):(dS ws (bL p cs ws n)).length=n/\∀x∈dS ws (bL p cs ws n),0<=x/\x<p:=by
 refine⟨by rw[oj,hl],PR hw _ fun t ht=>?_⟩
 obtain⟨i,_,_,_,h⟩:=vO ht
 exact wj hp _ h
theorem Ec(ts:List jP):SeqAt.shaped (.list (ts.map cJ))=true:=by
 have h:PyData.depthAll (ts.map cJ)<=1/\PyData.canLayAll0 (ts.map cJ)=true:=by
  induction ts with
  |nil=>simp[PyData.depthAll,PyData.canLayAll0]
  |cons a r ih=>simp[cJ,PyData.depthAll,PyData.depth,PyData.canLayAll0,PyData.canLay0,ih.2];have:=ih.1;omega
 unfold SeqAt.shaped
 simp only[PyData.canLay0,PyData.depth,h.2,su]
 have:=h.1
 simp
 omega
theorem sy:SeqAt.shaped (.list [])=true:=by with_unfolding_all rfl
theorem DJ(ts:List jP):(PyData.eqv (.list (ts.map cJ)) (.list []) !=false)=decide (ts=[]):=by
 cases ts<;>simp[PyData.eqv,PyData.eqvAll]
end L2
set_option maxRecDepth 100000
set_option maxHeartbeats 4000000
set_option maxRecDepth 100000
set_option maxHeartbeats 4000000
namespace L2
open PySem PySem.Spec PyProof.Rows
abbrev CF:=Cu->List PyData->(Cu->Pd)->Prop
end L2
set_option maxRecDepth 100000
set_option maxHeartbeats 4000000
namespace L2
open PySem PySem.Spec PyProof.Rows
inductive Fl where
 |d (d:PyData)|cu (c:Cu)
abbrev Fs:=List (Str×Fl)
end L2
set_option maxRecDepth 100000
set_option maxHeartbeats 4000000
set_option maxRecDepth 100000
set_option maxHeartbeats 4000000
set_option maxRecDepth 100000
set_option maxHeartbeats 4000000
set_option maxRecDepth 100000
set_option maxHeartbeats 4000000
set_option maxRecDepth 100000
set_option maxHeartbeats 4000000
namespace L2
open PySem PySem.Spec PyProof.Rows
inductive Oi where
 |own (b:Addr)|dat (x:PyData)
inductive OO where
 |lst (xs:List Oi)|tup (xs:List Oi)|bZ (ks:List (Int×Oi))
abbrev PX:=List (Addr×OO)
section
variable{S S':Addr->Prop}{H H':Hp}{x:Oi}{v:V}{xs:List Oi}{vs:List V}{a b:Addr}{o:OO}{L:PX}{F:List Addr}{p:Addr}
theorem Of{ds:List PyData}:∀{vs:List V},vs.length=ds.length->(∀(i:Nat) d v,ds[i]?=some d->vs[i]?=some v->ai S H d v)->ah S H ds vs:=by
  induction ds with
  |nil=>intro vs h _;rw[nA.mp h];exact .nil
  | cons d ds ih =>
    intro vs h q
    cases vs with
    |nil=>cases h
    |cons v vs=>exact .cons (q 0 d v rfl rfl) (ih (by simpa using h) fun i d' v' e1 e2=>q (i+1) d' v' (by simpa using e1) (by simpa using e2))
end
end L2
set_option maxRecDepth 100000
set_option maxHeartbeats 4000000
set_option maxRecDepth 100000
set_option maxHeartbeats 4000000
namespace L2
open PySem PySem.Spec PyProof.Rows
def Er:qU:=fun o i v H Q=>∃a H',o= .ref a/\rm H a i v H'/\Q H'
theorem YO{X:Cx}(hu:X.A.units+64<cLine):xo X Er:=by
 intro pins s σ H o i v ov iv u Q I ro ri rv h
 obtain⟨a,H',rfl,g,q⟩:=h
 cases ro
 exact Vt (by omega) I g ri rv fun s' I'=>⟨H',I',q⟩
def kj(k:Int×Int):List Key:=[.inl k.1, .inl k.2]
def jE(k:Int×Int):List Key×V:=(kj k, .bl true)
theorem SX{k l:Int×Int}(h:kj k=kj l):k=l:=by
 unfold kj at h
 simp only[List.cons.injEq,Sum.inl.injEq,and_true] at h
 exact Prod.ext h.1 h.2
def jF(a:Addr)(ks:List (Int×Int)):Cu where
 v:= .ref a
 F:=[a]
 f:=true
 P:=fun _ H=>H a=some (.dT (ks.map jE))
 keep:=fun k p=>k.own _ (aQ.mpr rfl) _ p
 av:=fun _ p=>p
 fresh:=fun _ p=>p
theorem Ek(ks:List (Int×Int))(k:Int×Int):(cB (ks.map jE) (kj k)).isSome=decide (k∈ks):=by
  induction ks with
  |nil=>rfl
  | cons l ks ih =>
    rw[aY]
    by_cases c:l=k
    · subst c
      rw[iZ (show(jE l).1=kj l from rfl),decide_eq_true (bA ..)];rfl
    · rw[iI (fun z:(jE l).1=kj k=>c (SX z)),ih]
      have:(k∈l::ks)↔k∈ks:=by rw[aM];exact⟨fun z=>z.resolve_left fun y=>c y.symm, .inr⟩
      rw[decide_eq_decide.mpr this]
def m8(ks:List (Int×Int))(k:Int×Int):List (Int×Int):=if k∈ks then ks else ks++[k]
theorem Mt(ks:List (Int×Int))(k:Int×Int):putK (ks.map jE) (kj k) (.bl true)=(m8 ks k).map jE:=by
 unfold m8
 by_cases c:k∈ks
 ·rw[if_pos c]
  have h:=Ek ks k
  rw[decide_eq_true c] at h
  unfold putK
  have ha:(ks.map jE).any (fun kv=>decide (kv.1=kj k))=true:=by
   rw[oO]
   exact⟨jE k,jO c,decide_eq_true rfl⟩
  rw[if_pos ha,dw]
  apply fX
  intro l _
  show(if(jE l).1=kj k then((jE l).1,V.bl true) else jE l)=jE l
  split
  ·rfl
  ·rfl
 ·rw[if_neg c,Dl _ (by have:=Ek ks k;rw[decide_eq_false c] at this;exact Option.not_isSome_iff_eq_none.mp (by rw[this];decide)),cZ]
  rfl
section
variable{G:Gx}{ρ:Rh}{ta tb te:TE}{E:DE}{i:Nat}{Φ:Pd}{a:Addr}{ks:List (Int×Int)}
theorem Sv.U7(h:∀a,E.nx (ρ.set i (.cu (jF a [])))):Sv G ρ (gZ Kn (fR i)) E:=fun nb σ H D W KK p hp=>by
 have hS:dW H (upd H p (.dT [])):=dR hp
 refine KK.nx _ _ _ _ (h p) (W.yb (i:=i) (c:=jF p []) (Step.same W.ay hS) (fun b hb=>?_) (fun b hb=>?_) aX)
 ·rw[aQ.mp hb];exact hp
 ·rw[aQ.mp hb,aX];exact je _
theorem Gj{S:Addr->Prop}{H:Hp}{k:Int×Int}{v:V}(h:ai S H (pairD k) v):∃b,v= .ref b/\H b=some (.tup ((kj k).map kV)):=by
 obtain⟨b,xs,rfl,_,hx,hd⟩:=h.ofT
 refine⟨b,rfl,?_⟩
 rw[hx]
 unfold ah at hd
 obtain⟨y,ys,rfl,h1,h2⟩:=hd
 unfold ah at h2
 obtain⟨z,zs,rfl,h3,h4⟩:=h2
 unfold ah at h4
 subst h4
 rw[h1.bX,h3.bX]
 rfl
theorem Ev.W8{ng:Bool}(e:ρ[i]?=some (.cu (jF a ks)))(h:Ev G ρ ta fun _ y=>∃k,y=pairD k/\Φ true (.bool (decide (k∈ks) !=ng))):Ev G ρ (c6 (Be ng) ta (cQ i)) Φ:=fun nb σ H Q W z=>
 h nb σ H _ W fun g w H1 y ⟨k,ey,p⟩ s1 hw=>by
  obtain⟨x,e1,h1,h2,h3⟩:=(W.step s1).ok i _ e
  have h1:x=some (.ref a):=h1
  subst h1 ey
  obtain⟨b,rfl,hb⟩:=Gj hw
  refine⟨.ref a,e1,a,_,rfl,rP.t h3 hb,?_⟩
  rw[Ek]
  exact z true _ H1 _ p s1 (.bl _)
theorem Sv.Tt(e:ρ[i]?=some (.cu (jF a ks)))(h:Ev G ρ te fun _ d=>d= .bool true/\Ev G ρ tb fun _ y=>∃k,y=pairD k/\ks.length<1000000/\E.nx (ρ.set i (.cu (jF a (m8 ks k))))):Sv G ρ (gZ te (oH (cQ i) tb Er)) E:=fun nb σ H D W KK=>
 h nb σ H _ W fun g v H1 d ⟨ed,q⟩ s1 hv=>by
  subst ed
  obtain⟨x,e1,h1,h2,h3⟩:=(W.step s1).ok i _ e
  have h1:x=some (.ref a):=h1
  subst h1
  refine⟨.ref a,e1,q nb σ H1 _ (W.step s1) fun g' u H2 y ⟨k,ey,hl,p⟩ s2 hu=>?_⟩
  subst ey
  have W2:=(W.step s1).step s2
  obtain⟨_,_,_,h2,h3⟩:=W2.ok i _ e
  obtain⟨b,rfl,hb⟩:=Gj hu
  have hv':v= .bl true:=by unfold ai at hv;exact hv
  subst hv'
  refine⟨a,_,rfl,rm.t h3 hb (by rw[aj,sizeLine_eq];omega),?_⟩
  rw[Mt]
  exact KK.nx nb _ _ _ p (W2.yX (c':=jF a (m8 ks k)) e (aQ.mpr rfl) rfl (fun _ z=>z) aX)
end
end L2
set_option maxRecDepth 100000
set_option maxHeartbeats 4000000
namespace L2
open PySem PySem.Spec PyProof.Rows
def shr(a b:List Int):List Int:=b.filter fun x=>decide (x∈a)
def OA(R:List (List Int))(P:Nat->Nat->Prop):Prop:=∀(c d:Nat) a b,c<d->R[c]?=some a->R[d]?=some b->P c d->(shr a b).length<2
end L2
set_option maxRecDepth 100000
set_option maxHeartbeats 4000000
set_option maxRecDepth 100000
set_option maxHeartbeats 4000000
set_option maxRecDepth 100000
set_option maxHeartbeats 4000000
set_option maxRecDepth 100000
set_option maxHeartbeats 4000000
namespace L2
open PySem PySem.Spec PyProof.Rows
abbrev RF:=Cu->List PyData->Pd->Prop
end L2
set_option maxRecDepth 100000
set_option maxHeartbeats 4000000
set_option maxRecDepth 100000
set_option maxHeartbeats 4000000
set_option maxRecDepth 100000
set_option maxHeartbeats 4000000
set_option maxRecDepth 100000
set_option maxHeartbeats 4000000
set_option maxRecDepth 100000
set_option maxHeartbeats 4000000
namespace L2
open PySem PySem.Spec PyProof.Rows
def bJ:Nat->(Nat->Int)->Int
 |0,_=>0
 |n+1,f=>bJ n f+f n
theorem Bm{n:Nat}{f:Nat->Int}:bJ (n+1) f=bJ n f+f n:=rfl
theorem wC{f g:Nat->Int}:∀{n:Nat},(∀k,k<n->f k=g k)->bJ n f=bJ n g
 |0,_=>rfl
 |n+1,h=>by unfold bJ;rw[wC fun k hk=>h k (by omega),h n (by omega)]
theorem Dm{f g:Nat->Int}:∀{n:Nat},bJ n (fun k=>f k+g k)=bJ n f+bJ n g
 |0=>rfl
 |n+1=>by rw[Bm,Bm,Bm,Dm];omega
theorem Cq{a:Int}{f:Nat->Int}:∀{n:Nat},bJ n (fun k=>a*f k)=a*bJ n f
 |0=>by unfold bJ;simp
 |n+1=>by unfold bJ;rw[Cq,ze]
theorem vj:∀{n:Nat},bJ n (fun _=>0)=0
 |0=>rfl
 |n+1=>by unfold bJ;rw[vj];rfl
theorem Iz{f:Nat->Nat->Int}{n:Nat}:∀{m:Nat},bJ n (fun k=>bJ m fun c=>f c k)=bJ m fun c=>bJ n (f c)
  |0=>vj
  | m + 1 => by
    show bJ n (fun k=>bJ m (fun c=>f c k)+f m k)=bJ m (fun c=>bJ n (f c))+bJ n (f m)
    rw[Dm,Iz]
theorem Eo{f:Nat->Int}{b:Int}:∀{n:Nat},(∀k,k<n->f k<=b)->bJ n f<=n*b
  |0,_=>by unfold bJ;simp
  | n + 1, h => by
    unfold bJ
    have h1:=Eo (n:=n) fun k hk=>h k (by omega)
    have h2:=h n (by omega)
    rw[show((n+1:Nat):Int)*b=n*b+b by rw[zG,sZ];simp]
    omega
theorem JE{f:Nat->Int}(hf:∀k,f k=0\/f k=1):∀{n:Nat},(∀k k',k<k'->k'<n->¬(f k=1/\f k'=1))->bJ n f<=1
  |0,_=>by unfold bJ;omega
  | n + 1, h => by
    unfold bJ
    rcases hf n with e|e
    · have:=JE hf (n:=n) fun k k' a b=>h k k' a (by omega)
      omega
    · have:bJ n f=0:=by
        rw[wC (g:=fun _=>0) fun k hk=>(hf k).resolve_right fun z=>h k n hk (by omega) ⟨z,e⟩]
        exact vj
      omega
theorem meet{I:Nat->Nat->Int}(hI:∀c k,I c k=0\/I c k=1){n:Nat}:∀{m:Nat},(∀c d k k',c<d->d<m->k<k'->k'<n->¬(I c k=1/\I d k=1/\I c k'=1/\I d k'=1))->
    bJ n (fun k=>bJ m (fun c=>I c k)*(bJ m (fun c=>I c k)-1))<=m*(m-1)
  | 0, _ => by
    rw[wC (g:=fun _=>0) fun k _=>by unfold bJ;simp,vj];simp
  | m + 1, h => by
    have ih:=meet hI (n:=n) (m:=m) fun c d k k' a b=>h c d k k' a (by omega)
    have e:bJ n (fun k=>bJ (m+1) (fun c=>I c k)*(bJ (m+1) (fun c=>I c k)-1))=bJ n (fun k=>bJ m (fun c=>I c k)*(bJ m (fun c=>I c k)-1)+2*bJ m (fun c=>I m k*I c k)):=by
      refine wC fun k _=>?_
      rw[Cq]
      show(bJ m (fun c=>I c k)+I m k)*(bJ m (fun c=>I c k)+I m k-1)=_
      generalize bJ m (fun c=>I c k)=D
      rcases hI m k with z|z<;>rw[z]<;>grind
    rw[e,Dm,Cq,Iz (f:=fun c k=>I m k*I c k)]
    have h2:bJ m (fun c=>bJ n fun k=>I m k*I c k)<=m*1:=Eo fun c hc=>JE (fun k=>by rcases hI m k with z|z<;>rcases hI c k with y|y<;>rw[z,y]<;>simp) fun k k' hk hk' ⟨z1,z2⟩=>by
      refine h c m k k' hc (by omega) hk hk' ?_
      rcases hI m k with a|a<;>rcases hI c k with b|b<;>rcases hI m k' with a'|a'<;>rcases hI c k' with b'|b'<;>simp_all
    have e3:((m+1:Nat):Int)*((m+1:Nat)-1)=(m:Int)*(m-1)+2*m:=by rw[zG];grind
    omega
def Ap(R:List (List Int)):Prop:=OA R fun _ _=>True
theorem NP{r:List Int}{x y:Int}(hx:x∈r)(hy:y∈r)(h:x≠y):2<=r.length:=by
 match r,hx,hy with
 |[z],hx,hy=>simp at hx hy;omega
 |_::_::_,_,_=>simp
def jA(a:List Int)(x y:Int):Prop:=∃l' l:Nat,l'<l/\a[l']?=some x/\a[l]?=some y
theorem jA.mem{a:List Int}{x y:Int}(h:jA a x y):x∈a/\y∈a:=let ⟨_,_,_,h1,h2⟩:=h;⟨br h1,br h2⟩
theorem jA.lt{a:List Int}{x y:Int}(ha:a.Pairwise (· < ·))(h:jA a x y):x<y:=by
 obtain⟨l',l,hl,h1,h2⟩:=h
 obtain⟨i1,e1⟩:=aP.mp h1
 obtain⟨i2,e2⟩:=aP.mp h2
 rw[<-e1,<-e2]
 exact kr.mp ha l' l i1 i2 hl
theorem vM{a:List Int}{x y:Int}(ha:a.Pairwise (· < ·))(hx:x∈a)(hy:y∈a)(h:x<y):jA a x y:=by
 obtain⟨i,hi⟩:=gm hx
 obtain⟨j,hj⟩:=gm hy
 obtain⟨i1,e1⟩:=aP.mp hi
 obtain⟨j1,e2⟩:=aP.mp hj
 refine⟨i,j,?_,hi,hj⟩
 by_cases c:i<j
 ·exact c
 ·exfalso
  by_cases e:i=j
  ·subst e;omega
  ·have:=kr.mp ha j i j1 i1 (by omega);omega
theorem z4{R:List (List Int)}(hR:∀r∈R,r.Pairwise (· < ·)):Ap R↔∀(c d:Nat) a b x y,c<d->R[c]?=some a->R[d]?=some b->jA a x y->jA b x y->False:=by
  constructor
  · intro h c d a b x y hcd ea eb ha hb
    have:=h c d a b hcd ea eb trivial
    have hlt:=ha.lt (hR a (br ea))
    have:=NP (r:=shr a b) (x:=x) (y:=y) (fQ.mpr ⟨hb.mem.1,by simpa using ha.mem.1⟩) (fQ.mpr ⟨hb.mem.2,by simpa using ha.mem.2⟩) (by omega)
    omega
  · intro h c d a b hcd ea eb _
    have ra:=hR a (br ea)
    have rb:=hR b (br eb)
    cases hs:shr a b with
    |nil=>simp
    | cons x r =>
      cases r with
      |nil=>simp
      | cons y r =>
        exfalso
        have rs:(shr a b).Pairwise (· < ·):=rb.filter _
        rw[hs] at rs
        have hxy:x<y:=(wu.mp rs).1 y bA
        have hx:x∈shr a b:=by rw[hs];exact bA
        have hy:y∈shr a b:=by rw[hs];exact cG _ bA
        have hx:=fQ.mp hx
        have hy:=fQ.mp hy
        exact h c d a b x y hcd ea eb (vM ra (by simpa using hx.2) (by simpa using hy.2) hxy) (vM rb hx.1 hy.1 hxy)
end L2
set_option maxRecDepth 100000
set_option maxHeartbeats 4000000
set_option maxRecDepth 100000
set_option maxHeartbeats 4000000
set_option maxRecDepth 100000
set_option maxHeartbeats 4000000
namespace L2
open PySem PySem.Spec PyProof.Rows
theorem CI{α:Type}{l:List α}(h:l.Nodup){i j:Nat}{a:α}(hi:l[i]?=some a)(hj:l[j]?=some a):i=j:=by
 obtain⟨i1,e1⟩:=aP.mp hi
 obtain⟨j1,e2⟩:=aP.mp hj
 by_cases c:i=j
 ·exact c
 ·exfalso
  rcases zw c with c|c
  ·exact kr.mp h i j i1 j1 c (e1.trans e2.symm)
  ·exact kr.mp h j i j1 i1 c (e2.trans e1.symm)
theorem ID{p:Int}{cs:List aq}{ws:List Int}{m:Nat}:∀t∈bL p cs ws m,0<=t.1/\t.1<m:=fun t ht=>by
 obtain⟨i,hi,e,_⟩:=vO ht
 omega
end L2
set_option maxRecDepth 100000
set_option maxHeartbeats 4000000
namespace L2
open PySem PySem.Spec PyProof.Rows
section
variable{p n:Int}{O Q T:List Int}{cs cs':List aq}
theorem map_range{α:Type}{l:List α}{n:Nat}(hl:l.length=n){f:Nat->α}(h:∀k x,l[k]?=some x->x=f k):l=(List.range n).map f:=by
 apply gU
 intro k
 rw[aL]
 by_cases hk:k<n
 ·rw[jz hk,aB (by omega),h k l[k] (aB (by omega))];rfl
 ·rw[fV (by omega),fV (by rw[iH];omega)];rfl
def Nh(R:List (List Int)):Prop:=∀(c d:Nat) a b x y,c≠d->R[c]?=some a->R[d]?=some b->x≠y->x∈a->y∈a->x∈b->y∈b->False
theorem uw{R:List (List Int)}(hR:∀r∈R,r.Pairwise (· < ·)):Ap R↔Nh R:=by
 rw[z4 hR]
 constructor
 ·intro h
  have key:∀(c d:Nat) a b x y,c<d->R[c]?=some a->R[d]?=some b->x<y->x∈a->y∈a->x∈b->y∈b->False:=fun c d a b x y hcd ea eb hxy h1 h2 h3 h4=>
   h c d a b x y hcd ea eb (vM (hR a (br ea)) h1 h2 hxy) (vM (hR b (br eb)) h3 h4 hxy)
  intro c d a b x y hcd ea eb hxy h1 h2 h3 h4
  rcases zw hcd with c1|c1<;>rcases Int.lt_or_gt_of_ne hxy with c2|c2
  ·exact key c d a b x y c1 ea eb c2 h1 h2 h3 h4
  ·exact key c d a b y x c1 ea eb c2 h2 h1 h4 h3
  ·exact key d c b a x y c1 eb ea c2 h3 h4 h1 h2
  ·exact key d c b a y x c1 eb ea c2 h4 h3 h2 h1
 ·intro h c d a b x y hcd ea eb ha hb
  have h1:=ha.mem
  have h2:=hb.mem
  have:=ha.lt (hR a (br ea))
  exact h c d a b x y (by omega) ea eb (by omega) h1.1 h1.2 h2.1 h2.2
end
end L2
set_option maxRecDepth 100000
set_option maxHeartbeats 4000000
namespace L2
open PySem PySem.Spec PyProof.Rows
section
variable{p n m:Int}{c1 c2 cs:List aq}{u w:List Int}
theorem T3{ws:List Int}(hV:iB p n cs)(hl:ws.length=n.toNat)(hw:∀x∈ws,0<=x/\x<p)(h:brk p cs ws=0):bL p cs ws n.toNat=[]:=by
  have hb:=xB.mp h
  refine List.flatMap_eq_nil_iff.mpr fun i hi=>?_
  have hi:=jC.mp hi
  unfold lH
  have xj:ji (bM p cs ws (i:Int)) (ws.getD i 0)=[]:=by
    cases e:ji (bM p cs ws (i:Int)) (ws.getD i 0) with
    |nil=>rfl
    | cons x r =>
      exfalso
      have hx:x∈ji (bM p cs ws (i:Int)) (ws.getD i 0):=by rw[e];exact bA
      have FO:=fQ.mp (ED hx)
      have hg:=FO.2
      unfold cy at hg
      rw[cD,decide_eq_true_eq] at hg
      refine hg.1 ?_
      have hm:=FO.1
      unfold bM at hm
      obtain⟨q,hq,rfl⟩:=cI.mp hm
      obtain⟨c,prs,f,hc,_,_,rfl⟩:=qI (aJ _) hq
      have hz:=hb prs (br hc)
      have hz:aU prs (ws.map some)%p=0:=by simpa using hz
      show(ws.getD (i:Int).toNat 0-aU (cs.getD (c:Int).toNat []) (ws.map some)%p*sol p f 1)%p=_
      rw[eX,eX,show cs.getD c []=prs by rw[bG,hc];rfl,hz,oE,vo]
      have:=hw (ws.getD i 0) (by rw[bG,aB (by omega)];exact ig _)
      exact lu this.1 this.2
  rw[xj];rfl
inductive Way(p:Int)(cs:List aq)(n k:Nat)(ws:List Int):Prop
 |held (hb:brk p cs ws=0) (ht:bL p cs ws n=[])
 |rest (hb:brk p cs ws≠0) (ht:bL p cs ws n=[])
 |on (hb:brk p cs ws≠0) (ht:bL p cs ws n≠[])
theorem way(hV:iB p n cs){ws:List Int}(hl:ws.length=n.toNat)(hw:∀x∈ws,0<=x/\x<p)(k:Nat):Way p cs n.toNat k ws:=by
 by_cases h1:brk p cs ws=0
 ·exact .held h1 (T3 hV hl hw h1)
 by_cases h2:bL p cs ws n.toNat=[]
 ·exact .rest h1 h2
 ·exact .on h1 h2
end
end L2
set_option maxRecDepth 100000
set_option maxHeartbeats 4000000
namespace L2
open PySem PySem.Spec PyProof.Rows
structure D3(a:Addr)(as:List Addr)(Vs:List (List Int))(H:Hp):Prop where
 hl:H a=some (.lst (as.map V.ref))
 nd:(a::as).Nodup
 ln:Vs.length=as.length
 row:∀(j:Nat) b l,as[j]?=some b->Vs[j]?=some l->∃kvs,H b=some (.dK kvs)/\jv l kvs
def ldC(a:Addr)(as:List Addr)(Vs:List (List Int)):Cu where
 v:= .ref a
 F:=a::as
 f:=true
 P:=fun _ H=>D3 a as Vs H
 keep:=fun k p=>⟨k.own _ bA _ p.hl,p.nd,p.ln,fun j b l e1 e2=>by
  obtain⟨kvs,h1,h2⟩:=p.row j b l e1 e2
  exact⟨kvs,k.own _ (cG _ (br e1)) _ h1,h2⟩⟩
 av:=fun _ p=>p
 fresh:=fun _ p=>p
theorem jv.shape{l:List Int}{kvs:List (Key×V)}(h:jv l kvs):∃ms:List Int,ms.Nodup/\(∀k,k∈ms↔k∈l)/\kvs=ms.map fun k=>((Sum.inl k:Key),V.int (l.count k)):=by
  obtain⟨ms,h1,h2,h3,h4⟩:=h
  refine⟨ms,h2,h3,?_⟩
  have hv:∀k∈ms,cB kvs (Sum.inl k)=some (.int (l.count k)):=fun k hk=>h4 k ((h3 k).mp hk)
  clear h3 h4
  induction kvs generalizing ms with
  | nil => cases ms with
    |nil=>rfl
    |cons m ms=>cases h1
  | cons q kvs ih =>
    cases ms with
    |nil=>cases h1
    | cons m ms =>
      rw[aY,aY] at h1
      injection h1 with e1 e2
      rw[gz] at h2
      have hm:=hv m bA
      have hq:q.2= .int (l.count m):=by
        rw[iZ (show q.1=Sum.inl m from e1)] at hm
        exact fL hm
      rw[aY,<-ih ms e2 h2.2 fun k hk=>?_]
      · congr 1
        exact Prod.ext e1 hq
      · have:=hv k (cG _ hk)
        rwa[iI (fun z=>h2.1 (by rw[e1] at z;injection z with z;rw[z];exact hk))] at this
section
variable{G:Gx}{ρ:Rh}{ta tb te tk:TE}{E:DE}{i ip iq:Nat}{K:PySem.W.Frag}{Φ:Pd}{a:Addr}{as:List Addr}{Vs:List (List Int)}
theorem Sv.UO(h:Ev G ρ te fun _ x=>∃n:Int,x= .int n/\0<=n/\n<=9999/\∀a as,E.nx (ρ.set i (.cu (ldC a as (List.replicate n.toNat []))))):
  Sv G ρ (sU i (lP (qJ (bq te bT)) (fR 0) pA zN [none])) E:=fun nb σ H D W KK=>
 h nb σ H _ W fun f v H1 x ⟨n,ex,n0,n1,q⟩ s1 hv=>by
  subst ex
  rw[hv.bX]
  refine⟨n,rfl,by omega,by omega,fun acc hacc=>?_⟩
  refine R.Bc (fun j σ H2=>∃bs:List Addr,bs.length=j/\H2 acc=some (.lst (bs.map V.ref))/\bs.Nodup/\(∀b∈bs,H1 b=none/\H2 b=some (.dK []))/\acc∉bs/\∀b o,H1 b=some o->H2 b=some o) ?_ ?_ ?_
  ·exact⟨[],rfl,aX,mJ,(fun _ z=>by cases z),(fun z=>by cases z),fun b o e=>by rw[au (fun z=>by rw[z,hacc] at e;cases e)];exact e⟩
  ·rintro j σ H2 hj ⟨bs,hbl,hA,hnd,hb,hab,hk⟩ b hb0
   have hba:b≠acc:=fun z=>by rw[z,hA] at hb0;cases hb0
   have E8:b∉bs:=fun z=>by have:=(hb b z).2;rw[hb0] at this;cases this
   have Yx:H1 b=none:=by
    cases e:H1 b with
    |none=>rfl
    |some o=>rw[hk b o e] at hb0;cases hb0
   refine⟨bs.map V.ref,by rw[au (bx hba)];exact hA,by rw[aj,hbl];exact eK (show j<10000 by omega) (by decide),bs++[b],by rw[bz,hbl];rfl,by rw[aX,cZ];rfl,?_,?_,?_,?_⟩
   ·rw[pe]
    exact⟨hnd,by simp,fun x hx y hy z=>by rw[aQ.mp hy] at z;exact E8 (z▸hx)⟩
   ·intro x hx
    rcases dg.mp hx with z|z
    ·obtain⟨g1,g2⟩:=hb x z
     refine⟨g1,?_⟩
     rw[au (fun y=>hab (by rw[<-y];exact z)),au (fun y=>E8 (by rw[<-y];exact z))];exact g2
    ·rw[aQ.mp z]
     exact⟨Yx,by rw[au hba,aX]⟩
   ·intro z
    rcases dg.mp z with z|z
    ·exact hab z
    ·exact hba (aQ.mp z).symm
   ·intro x o e
    have:=hk x o e
    rw[au (fun z=>by rw[z,hacc] at e;cases e),au (fun y=>by rw[y,hb0] at this;cases this)]
    exact this
  ·rintro σ2 H2 ⟨bs,hbl,hA,hnd,hb,hab,hk⟩
   have s2:Step G.B H H2:=s1.trans (.same s1.2 hk)
   refine KK.nx _ _ _ _ (q acc bs) (W.yb (c:=ldC acc bs (List.replicate n.toNat [])) s2 (fun b hb'=>?_) (fun b hb'=>?_) ?_)
   ·rcases aM.mp hb' with z|z
    ·rw[z];exact W.none_of s1 hacc
    ·exact W.none_of s1 (hb b z).1
   ·rcases aM.mp hb' with z|z
    ·rw[z,hA];exact je _
    ·rw[(hb b z).2];exact je _
   ·refine⟨hA,gz.mpr ⟨hab,hnd⟩,by rw[Hf,hbl],fun j b l e1 e2=>?_⟩
    have el:l=[]:=by
     rw[g5] at e2
     split at e2
     ·cases e2;rfl
     ·cases e2
    subst el
    exact⟨[],(hb b (br e1)).2,jv.nil⟩
theorem Sv.R4{K1 K2 K3:PySem.W.Frag}{fp fq:Bool}{pl x:Int}(e:ρ[i]?=some (.cu (ldC a as Vs)))(ep:ρ[ip]?=some (.d fp (.int pl)))(eq:ρ[iq]?=some (.d fq (.int x)))(h0:0<=pl)(h1:pl<Vs.length)(hs:(Vs.getD pl.toNat []).length<9999)
  (h:E.nx (ρ.set i (.cu (ldC a as (Vs.set pl.toNat (Vs.getD pl.toNat []++[x])))))):
  Sv G ρ (gZ (c6 (iG fun i j=>V.int (i+j)) (lA K1 "dict" wD (c6 (cF K2) (cQ i) (cQ ip)) (bq (cQ iq) (bq (tC (.int 0)) bT))) (tC (.int 1))) (oH (c6 (cF K3) (cQ i) (cQ ip)) (cQ iq) uW)) E:=fun nb σ H D W KK=>by
 obtain⟨xa,ea,ha1,ha2,hP⟩:=W.ok i _ e
 subst ha1
 have hP:D3 a as Vs H:=hP
 obtain⟨xp,exp,vp,Rm,AU⟩:=W.ok ip _ ep
 subst Rm
 have AU:=AU.bX
 subst AU
 obtain⟨xq,Fc,vq,Vr,zM⟩:=W.ok iq _ eq
 subst Vr
 have zM:=zM.bX
 subst zM
 have lK:=hP.ln
 have hj:pl.toNat<as.length:=by omega
 obtain⟨b,eb⟩:∃b,as[pl.toNat]?=some b:=⟨_,aB hj⟩
 obtain⟨l,el⟩:∃l,Vs[pl.toNat]?=some l:=⟨_,aB (by omega)⟩
 obtain⟨kvs,hb,hc⟩:=hP.row _ b l eb el
 have hat:bN (as.map V.ref) pl=some (.ref b):=fT h0 (by rw[aL,eb];rfl)
 have Py:Vs.getD pl.toNat []=l:=by rw[bG,el];rfl
 rw[Py] at hs h
 have gR:kvs.length<=l.length:=by
  obtain⟨ms,g1,g2,g3,_⟩:=hc
  have:=congrArg List.length g1
  rw[aj,aj] at this
  rw[this]
  exact qW g2 fun k hk=>(g3 k).mp hk
 refine⟨.ref a,ea, .int pl,exp,a,_,pl, .ref b,rfl,rfl,aV.of hP.hl,hat, .inr (.inr (.inl ⟨rfl, .inl ⟨_,hb⟩⟩)), .int x,Fc,b,kvs, .inl x, .int 0,rfl,rfl, .inl hb,?_⟩
 rw[hc.at x]
 refine⟨_,1,rfl,rfl, .ref a,ea, .int pl,exp,a,_,pl, .ref b,rfl,rfl,aV.of hP.hl,hat, .int x,Fc,b,kvs, .inl x,rfl,rfl,hb,v7 gR (eK hs (by decide)),?_⟩
 have Te:b∈(ldC a as Vs).F:=cG _ (br eb)
 refine KK.nx nb _ _ _ h (W.yX e Te rfl (fun _ z=>z) ?_)
 have hnd:=hP.nd
 rw[gz] at hnd
 have hab:a≠b:=fun z=>hnd.1 (by rw[z];exact br eb)
 refine⟨by rw[au hab];exact hP.hl,hP.nd,by rw[gb];exact lK,fun j c l' e1 e2=>?_⟩
 by_cases cj:j=pl.toNat
 ·subst cj
  rw[eb] at e1;cases e1
  rw[cX (by omega)] at e2;cases e2
  exact⟨_,aX,hc.step⟩
 ·rw[bP (bx cj)] at e2
  obtain⟨kvs',g1,g2⟩:=hP.row j c l' e1 e2
  refine⟨kvs',?_,g2⟩
  rw[au (fun z=>cj ?_)]
  ·exact g1
  ·subst z
   obtain⟨i1,q1⟩:=aP.mp e1
   obtain⟨i2,q2⟩:=aP.mp eb
   exact(tH hnd.2).mp (q1.trans q2.symm)
def cntK(ms l:List Int):Ks:=ms.map fun k=>(k, .int (l.count k))
theorem Sv.VG{s:TS}(i:Nat)(e:ρ[i]?=some (.cu (ldC a as Vs)))(h:∀M:List (List Int),M.length=Vs.length->(∀(j:Nat) ms l,M[j]?=some ms->Vs[j]?=some l->ms.Nodup/\∀k,k∈ms↔k∈l)->Sv G (ρ.set i (.d true (.list ((List.range Vs.length).map fun j=> .dict ((cntK (M.getD j []) (Vs.getD j [])).map bI))))) s E):Sv G ρ s E:=fun nb σ H D W K=>by
  obtain⟨xa,ea,ha1,ha2,hP⟩:=W.ok i _ e
  have hP:D3 a as Vs H:=hP
  have lK:=hP.ln
  have hM:∀j:Nat,∃ms:List Int,∀b l,as[j]?=some b->Vs[j]?=some l->ms.Nodup/\(∀k,k∈ms↔k∈l)/\H b=some (.dK (ms.map fun k=>((Sum.inl k:Key),V.int (l.count k)))):=fun j=>by
    by_cases hj:j<as.length
    · obtain⟨kvs,g1,g2⟩:=hP.row j as[j] (Vs[j]'(by omega)) (aB hj) (aB (by omega))
      obtain⟨ms,q1,q2,q3⟩:=g2.shape
      refine⟨ms,fun b l e1 e2=>?_⟩
      rw[aB hj] at e1;cases e1
      rw[aB (by omega)] at e2;cases e2
      exact⟨q1,q2,by rw[<-q3];exact g1⟩
    · exact⟨[],fun b l e1=>by rw[fV (by omega)] at e1;cases e1⟩
  obtain⟨m,hm⟩:=Classical.axiomOfChoice hM
  refine h ((List.range Vs.length).map m) (by rw[aj,iH]) (fun j ms l e1 e2=>?_) _ σ H D (W.KO e fun p hn=>?_) K
  · have hj:=(aP.mp e2).1
    rw[aL,jz hj] at e1
    cases e1
    obtain⟨q1,q2,_⟩:=hm j (as[j]'(by omega)) l (aB (by omega)) e2
    exact⟨q1,q2⟩
  · have out:∀b∈(ldC a as Vs).F,¬G.S (fun x=>nb x/\x∉(ldC a as Vs).F) true b:=fun b hb z=>by
      obtain⟨q1,q2,q3⟩:=hn b hb
      rcases z with z|z|z|z
      · exact z.2 hb
      · exact q2 z
      · exact z q3
      · exact z.2 q1
    show ai _ H _ (.ref a)
    refine .lst (out a bA) hP.hl (Of (by rw[aj,aj,iH,lK]) fun j d v e1 e2=>?_)
    rw[aL] at e1 e2
    obtain⟨j',ej,rfl⟩:=jt.mp e1
    obtain⟨b,eb,rfl⟩:=jt.mp e2
    obtain⟨hjl,Fo⟩:=aP.mp ej
    rw[List.getElem_range] at Fo
    subst Fo
    rw[iH] at hjl
    have el:Vs[j]?=some (Vs.getD j []):=by rw[bG,aB hjl];rfl
    obtain⟨_,_,hb⟩:=hm j b _ eb el
    have em:((List.range Vs.length).map m).getD j []=m j:=by rw[bG,aL,jz hjl];rfl
    rw[em]
    unfold ai
    refine⟨b,_,rfl,out b (cG _ (br eb)), .inl hb,?_⟩
    unfold cntK
    generalize Vs.getD j []=l
    generalize m j=ms
    induction ms with
    |nil=>simp only[iT];unfold aA;rfl
    | cons k ms ih =>
      rw[aY,aY,aY]
      unfold aA
      refine⟨_,_,rfl,?_,ih⟩
      unfold cV
      exact⟨rfl, .int _⟩
end
def JB:V->List V->Hp->VK->Prop:=fun x vs H Q=>∃a kvs,x= .ref a/\vs=[]/\Rd H a (.dK kvs)/\∀p,H p=none->Q (.ref p) (upd H p (sN p a))
def DT:List V->Hp->VK->Prop:=fun xs H Q=>∃p a kvs,∃ns:List Int,xs=[.ref p]/\H p=some (sN p a)/\Rd H a (.dK kvs)/\kvs.map (·.2)=ns.map V.int/\Q (.int ns.sum) H
section
variable{X:Cx}
theorem TF:qm X "dict.values" JB:=by
 intro pins s σ H x vs v us Q I rx rv h
 obtain⟨a,kvs,rfl,rfl,hH,q⟩:=h
 cases rx
 have YA:=rv.zero
 subst YA
 obtain⟨z,hd,ps,rel,dd⟩:=mZ I.hok hH
 refine call_meetsIn Gg dd.typeIs PySem.F.entry_dict_values (PySem.F.args_dict_values_1 _) (meets_dict_values (dP X.prog X.w) a hd) ⟨⟨ps,dd⟩,?_⟩
 have new:bR X.prog X.w (upd H s.heap.objs.size (sN s.heap.objs.size a)) (s.heap.push {cls:= .type "dict_values",data:= .fields #[.ref a]}) s.heap.objs.size (sN s.heap.objs.size a):=by
  refine⟨⟨_,fk _ rfl,rfl,rfl⟩,⟨_,fk _ rfl⟩,fun h1 h2 z k=>?_⟩
  obtain⟨o,ho,r⟩:=z
  exact⟨o,k o ho,r⟩
 exact⟨.ref s.heap.objs.size,_,I.laid (t':=s.toks) (fun b o e=>bS _ e) (aJ _) new,rfl,q _ (I.hok.fresh (aJ _))⟩
theorem IZ{val:Nat->Int}:∀{ns:List Int},(∀(i:Nat) x,ns[i]?=some x->val i=x)->∀k,k<=ns.length->preSum val k=(ns.take k).sum
  |ns,h,0,_=>by simp[preSum]
  | ns, h, k + 1, hk => by
    have e:ns[k]?=some ns[k]:=aB (by omega)
    rw[take_snoc e,vg,<-IZ h k (by omega)]
    show preSum val k+val k=_
    rw[h k _ e];simp
theorem VW(hc:X.calm=true):fF X (.builtin "sum") DT:=by
 intro pins s σ H xs us Q I rv h
 obtain⟨p,a,kvs,ns,rfl,hp,hH,hns,q⟩:=h
 obtain⟨u,rfl,ru⟩:=vals1 rv
 cases ru
 obtain⟨z,hd,ps,rel,dd⟩:=mZ I.hok hH
 obtain⟨hv,_,_⟩:=I.hok p _ hp
 obtain⟨ep,hat⟩:=dd.dictAt
 have Qs:Vals (ns.map V.int) (ps.map (·.2)):=by rw[<-hns];exact KV.vals rel
 have hpl:ps.length=ns.length:=by rw[<-rel.length];have:=congrArg List.length hns;simpa using this
 refine call_sum_walkG ?_
 refine wpAny_pyIter_values hv hat ?_
 have ha:a<s.heap.objs.size:=by obtain⟨o,es,ho,_⟩:=id hat;exact bC ho
 have hne:a≠s.heap.objs.size:=cW ha
 refine⟨s.heap.objs.size,[s.heap.objs.size,a],[s.heap.objs.size],ps.length,_,_,fun i=>ns.getD i 0,rfl,Walks.dictValues (knd:=dP X.prog X.w) (A:=X.A.in1) (I.ok.hd hc) s.heap.objs.size a hne ps ep,⟨⟨_,fk _ rfl,rfl,rfl⟩,hat.at' fun o e=>bS _ e⟩,fun b hb=>?_,fun i v ⟨k,hk⟩=>?_,fun h' tk t' hk=>?_⟩
 ·rw[l6]
  simp only[aM,cC,or_false] at hb
  rcases hb with z|z
  ·rw[z];exact pN _
  ·rw[z];exact nH ha
 ·have hi:i<ns.length:=by rw[<-hpl];exact(aP.mp hk).1
  obtain⟨u,hu,ru⟩:=Qs.get (i:=i) (x:= .int ns[i]) (by rw[aL,aB hi];rfl)
  rw[aL,hk] at hu
  cases hu
  obtain⟨t,e⟩:=ru
  exact⟨t,by show v=Value.int (ns.getD i 0) t;rw[bG,aB hi];exact e⟩
 ·have e2:preSum (fun i=>ns.getD i 0) ps.length=ns.sum:=by
   rw[hpl,IZ (ns:=ns) (fun i x e=>by rw[bG,e];rfl) ns.length (aJ _),fE]
  rw[e2]
  exact⟨.int ns.sum,H,I.kept fun b o e=>hk b o (by simp;exact cW (bC e)) (bS _ e),⟨_,rfl⟩,q⟩
end
section
variable{G:Gx}{ρ:Rh}{te:TE}{K:PySem.W.Frag}{Φ:Pd}
theorem Ev.Qj(h:Ev G ρ te fun _ x=>∃ms:List (Int×Int),x= .dict ((ms.map fun q=>(q.1,PyData.int q.2)).map bI)/\Φ true (.int (ms.map (·.2)).sum)):Ev G ρ (fN DT (bq (AM K "dict" JB te) bT)) Φ:=fun nb σ H Q W z=>
 h nb σ H _ W fun f v H1 x ⟨ms,ex,q⟩ s1 hv=>by
  subst ex
  unfold ai at hv
  obtain⟨a,ps,rfl,n,hp,hd⟩:=hv
  have hty:oU K "dict" (.ref a) H1:=by
   rcases hp with hp|⟨o,hp⟩
   ·exact .inr (.inr (.inl ⟨rfl, .inl ⟨_,hp⟩⟩))
   ·exact .inr (.inr (.inl ⟨rfl, .inr (.inr ⟨_,_,hp⟩)⟩))
  refine⟨hty,a,ps,rfl,rfl,hp,fun p w6=>?_⟩
  have hvs:=hd.vals
  have hval:ps.map (·.2)=(ms.map (·.2)).map V.int:=by
   rw[dw] at hvs
   have:=nE (is:=ms.map (·.2)) (by rw[dw];exact hvs)
   exact this
  have hne:a≠p:=fun z=>by
   rw[z] at hp
   rcases hp with hp|⟨o,hp⟩<;>rw[w6] at hp<;>cases hp
  have hp2:Rd (upd H1 p (sN p a)) a (.dK ps):=by
   rcases hp with hp|⟨o,hp⟩
   ·exact .inl (by rw[au hne];exact hp)
   ·exact .inr ⟨o,by rw[au hne];exact hp⟩
  refine⟨p,a,ps,_,rfl,aX,hp2,hval,?_⟩
  exact z true _ _ _ q (s1.trans (.same s1.2 (dR w6))) (.int _)
end
end L2
set_option maxRecDepth 100000
set_option maxHeartbeats 4000000
namespace L2
open PySem PySem.Spec PyProof.Rows
theorem Tf{p f w R:Int}(hp:gv p)(hf:f%p≠0):sol p f (f*w-R)=(w-R*sol p f 1)%p:=by
 have p2:=hp.1
 obtain⟨k,hk⟩:=yS (a:=1) hp hf
 obtain⟨j,hj⟩:=yS (a:=f*w-R) hp hf
 have hr:=vm (p:=p) (b:=f) (a:=f*w-R) (by omega)
 generalize sol p f (f*w-R)=x at*
 generalize sol p f 1=s at*
 have h1:f*s=1+p*k:=by omega
 have h2:f*x=f*w-R+p*j:=by omega
 have e:w-R*s=x+p*(k*(x-w+R*s)-s*(j+R*k)):=by
  have h3:s*(f*x)=s*(f*w-R+p*j):=by rw[h2]
  have h4:(f*s)*(x-w+R*s)=(1+p*k)*(x-w+R*s):=by rw[h1]
  grind
 rw[e,zd,lu hr.1 hr.2]
noncomputable def BC(p:Int)(prs:aq)(ws:List Int)(j:Nat):Option Int->List Int
 |some f=>[(ws.getD j 0-aU prs (ws.map some)%p*sol p f 1)%p]
 |none=>[]
noncomputable def i6(p:Int)(cs:List aq)(ws:List Int)(c j:Nat):List Int:=(eV p cs (j:Int) c).map fun q=>(ws.getD j 0-aU (cs.getD q.1.toNat []) (ws.map some)%p*q.2)%p
noncomputable def gG(p:Int)(cs:List aq)(ws:List Int)(c:Nat)(prs dn:aq)(j:Nat):List Int:=i6 p cs ws c j++BC p prs ws j (cK dn (j:Int))
section
variable{p:Int}{cs:List aq}{ws:List Int}{c j:Nat}{prs:aq}
theorem Vk:i6 p cs ws cs.length j=bM p cs ws (j:Int):=by unfold i6 bM;rw[eX]
theorem NN:gG p cs ws c prs [] j=i6 p cs ws c j:=by unfold gG;rw[Gb];exact eN _
theorem Ud(h:cs[c]?=some prs):gG p cs ws c prs prs j=i6 p cs ws (c+1) j:=by
  unfold gG i6
  rw[tM h,cZ]
  congr 1
  cases cK prs (j:Int) with
  |none=>rfl
  | some f =>
    show[_]=[_]
    dsimp only
    rw[eX,show cs.getD c []=prs by rw[bG,h];rfl]
theorem R7:(i6 p cs ws c j).length<=c:=by unfold i6;rw[aj];exact ql c
theorem Mh{dn:aq}:(gG p cs ws c prs dn j).length<=c+1:=by
 unfold gG
 rw[bz]
 have:=R7 (p:=p) (cs:=cs) (ws:=ws) (c:=c) (j:=j)
 have:(BC p prs ws j (cK dn (j:Int))).length<=1:=by cases cK dn (j:Int)<;>simp[BC]
 omega
theorem Kr{dn:aq}{pr:Int×Int}(hn:pr.1∉dn.map (·.1)):gG p cs ws c prs (dn++[pr]) j=if pr.1=(j:Int) then gG p cs ws c prs dn j++[(ws.getD j 0-aU prs (ws.map some)%p*sol p pr.2 1)%p] else gG p cs ws c prs dn j:=by
 unfold gG
 rw[Bt]
 by_cases e:pr.1=(j:Int)
 ·rw[if_pos e,if_pos e,xD (by rw[<-e];exact hn)]
  show _++[_]=(_++[])++[_]
  rw[eN]
 ·rw[if_neg e,if_neg e]
  cases cK dn (j:Int)<;>rfl
theorem Ve{n:Nat}{dn:aq}{pr:Int×Int}(h0:0<=pr.1)(h1:pr.1<n)(hn:pr.1∉dn.map (·.1)):((List.range n).map (gG p cs ws c prs dn)).set pr.1.toNat (((List.range n).map (gG p cs ws c prs dn)).getD pr.1.toNat []++[(ws.getD pr.1.toNat 0-aU prs (ws.map some)%p*sol p pr.2 1)%p])=(List.range n).map (gG p cs ws c prs (dn++[pr])):=by
 have hk:pr.1.toNat<n:=by omega
 apply gU
 intro j
 have hg:((List.range n).map (gG p cs ws c prs dn)).getD pr.1.toNat []=gG p cs ws c prs dn pr.1.toNat:=by
  rw[bG,aL,jz hk];rfl
 rw[hg]
 by_cases e:pr.1.toNat=j
 ·subst e
  rw[cX (by rw[aj,iH];exact hk),aL,jz hk]
  show some _=some _
  rw[Kr hn,if_pos (by omega)]
 ·rw[bP e,aL,aL]
  by_cases hj:j<n
  ·rw[jz hj]
   show some _=some _
   rw[Kr hn,if_neg (by omega)]
  ·rw[fV (by rw[iH];omega)];rfl
end
noncomputable def rE(p:Int)(cs:List aq)(ws:List Int)(n:Nat)(M:List (List Int)):PyData:= .list ((List.range n).map fun j=> .dict ((cntK (M.getD j []) (bM p cs ws (j:Int))).map bI))
structure Ms(p:Int)(cs:List aq)(ws:List Int)(n:Nat)(M:List (List Int)):Prop where
 l:M.length=n
 nd:∀j,j<n->(M.getD j []).Nodup
 m:∀j,j<n->∀k,k∈M.getD j []↔k∈bM p cs ws (j:Int)
section
variable{p:Int}{cs:List aq}{ws:List Int}{n:Nat}{M:List (List Int)}
theorem Tp{j:Nat}(hj:j<n):bN ((List.range n).map fun j=>PyData.dict ((cntK (M.getD j []) (bM p cs ws (j:Int))).map bI)) (j:Int)=some (.dict ((cntK (M.getD j []) (bM p cs ws (j:Int))).map bI)):=
 fT (by omega) (by rw[eX,aL,jz hj];rfl)
theorem Mf{ms l:List Int}{k:Int}(h:k∈ms):gh (cntK ms l) k=some (.int (l.count k)):=by
  unfold cntK
  induction ms with
  |nil=>cases h
  | cons m ms ih =>
    rw[aY,pX]
    by_cases e:m=k
    · rw[if_pos e,e]
    · rw[if_neg e]
      exact ih ((aM.mp h).resolve_left fun z=>e z.symm)
theorem WU{ms l:List Int}(nd:ms.Nodup)(hm:∀k,k∈ms↔k∈l):(ms.map fun k=>(l.count k:Int)).sum=l.length:=by
 have h:=Ff nd (L:=l) fun k hk=>(hm k).mpr hk
 have:∀xs:List Int,(xs.map fun k=>(l.count k:Int)).sum=((xs.map fun k=>l.count k).sum:Nat):=fun xs=>by
  induction xs with
  |nil=>rfl
  |cons x xs ih=>rw[aY,aY,nq,nq,ih];omega
 rw[this,h]
end
section
variable{p:Int}{cs:List aq}{ws:List Int}{i:Nat}{b:Int}{s:jG}{x:Int}
theorem E6:∀{xs:List Int} {s:jG},x∈xs->(ic p cs ws i s xs).1<=brk p cs (ws.set i x)
  | y :: xs, s, h => by
    show(ic p cs ws i (jg p cs ws i s y) xs).1<=_
    rcases aM.mp h with z|z
    · subst z
      refine tG Af ?_
      unfold jg
      split
      · exact pS _
      · omega
    · exact E6 z
theorem HN:∀{m:Nat},i<m->x∈mj p cs ws i->(eZ p cs ws m).1<=brk p cs (ws.set i x)
  | m + 1, hi, hx => by
    rw[vR]
    by_cases c:i=m
    · subst c;exact E6 hx
    · exact tG Af (HN (by omega) hx)
theorem Ml(hx:x∈bM p cs ws (i:Int)):x∈mj p cs ws i:=by
  have hex:∃rs:List Int,rs.Pairwise (· < ·)/\∀k,k∈rs↔k∈bM p cs ws (i:Int):=by
    generalize bM p cs ws (i:Int)=L
    have key:∀L:List Int,∃rs:List Int,rs.Pairwise (· < ·)/\∀k,k∈rs↔k∈L:=fun L=>by
      induction L with
      |nil=>exact⟨[],List.Pairwise.nil,fun k=>Iff.rfl⟩
      | cons a L ih =>
        obtain⟨rs,h1,h2⟩:=ih
        by_cases c:a∈rs
        · exact⟨rs,h1,fun k=>by rw[h2 k,aM];exact⟨.inr,fun z=>z.elim (fun z=>by rw[z];exact(h2 a).mp c) id⟩⟩
        · refine⟨rs.filter (fun y=>decide (y<a))++[a]++rs.filter (fun y=>decide (a<y)),?_,fun k=>?_⟩
          · rw[mR,Ii]
            refine⟨h1.filter _,?_,fun y hy z hz=>?_⟩
            · rw[List.singleton_append,wu]
              exact⟨fun y hy=>of_decide_eq_true (fQ.mp hy).2,h1.filter _⟩
            · have HG:y<a:=of_decide_eq_true (fQ.mp hy).2
              rcases dg.mp hz with q|q
              · rw[aQ.mp q];exact HG
              · have:a<z:=of_decide_eq_true (fQ.mp q).2
                exact Int.lt_trans HG this
          · rw[dg,dg,aQ,fQ,fQ,aM,<-h2 k]
            constructor
            · rintro((z|z)|z)
              · exact .inr z.1
              · exact .inl z
              · exact .inr z.1
            · rintro(z|z)
              · exact .inl (.inr z)
              · rcases xh k a with q|q|q
                · exact .inl (.inl ⟨z,decide_eq_true q⟩)
                · exact .inl (.inr q)
                · exact .inr ⟨z,decide_eq_true q⟩
    exact key L
  obtain⟨rs,h1,h2⟩:=hex
  rw[<-EM h1 h2]
  exact(h2 x).mpr hx
end
end L2
set_option maxRecDepth 100000
set_option maxHeartbeats 4000000
namespace L2
open PySem PySem.Spec PyProof.Rows
def oS(q:Int):Prop:=q=2\/q=3\/q=5\/q=7
theorem Vh{q d e:Int}(hq:oS q)(h:(d*e)%q=0):d%q=0\/e%q=0:=by
 rw[Int.mul_emod] at h
 rcases hq with rfl|rfl|rfl|rfl
 ·have u0:=eS d (by decide:(2:Int)≠0)
  have v0:=eS e (by decide:(2:Int)≠0)
  have u1:=eF d (by decide:(0:Int)<2)
  have v1:=eF e (by decide:(0:Int)<2)
  generalize d%2=u at*;generalize e%2=v at*
  rcases(by omega:u=0\/u=1) with rfl|rfl<;>omega
 ·have u0:=eS d (by decide:(3:Int)≠0)
  have v0:=eS e (by decide:(3:Int)≠0)
  have u1:=eF d (by decide:(0:Int)<3)
  have v1:=eF e (by decide:(0:Int)<3)
  generalize d%3=u at*;generalize e%3=v at*
  rcases(by omega:u=0\/u=1\/u=2) with rfl|rfl|rfl<;>omega
 ·have u0:=eS d (by decide:(5:Int)≠0)
  have v0:=eS e (by decide:(5:Int)≠0)
  have u1:=eF d (by decide:(0:Int)<5)
  have v1:=eF e (by decide:(0:Int)<5)
  generalize d%5=u at*;generalize e%5=v at*
  rcases(by omega:u=0\/u=1\/u=2\/u=3\/u=4) with rfl|rfl|rfl|rfl|rfl<;>omega
 ·have u0:=eS d (by decide:(7:Int)≠0)
  have v0:=eS e (by decide:(7:Int)≠0)
  have u1:=eF d (by decide:(0:Int)<7)
  have v1:=eF e (by decide:(0:Int)<7)
  generalize d%7=u at*;generalize e%7=v at*
  rcases(by omega:u=0\/u=1\/u=2\/u=3\/u=4\/u=5\/u=6) with rfl|rfl|rfl|rfl|rfl|rfl|rfl<;>omega
structure ja(q s c:Int)(r:List Int):Prop where
 s0:0<=s
 s1:s<=q
 c0:0<=c
 c1:c<q
 l:r.length=q.toNat
 e:∀(i:Nat) x,r[i]?=some x->if s=q then x=c*q+i else x=(i:Int)*q+(s*i+c)%q
section
variable{q s c s' c':Int}{r r':List Int}
theorem ja.rise(hq:0<q)(h:ja q s c r):r.Pairwise (· < ·):=kr.mpr fun i j hi hj hij=>by
 have e1:=h.e i _ (aB hi)
 have e2:=h.e j _ (aB hj)
 by_cases k:s=q
 ·rw[if_pos k] at e1 e2;omega
 ·rw[if_neg k] at e1 e2
  have a1:=eF (s*i+c) hq
  have a2:=eS (s*j+c) (show q≠0 by omega)
  have:=tY (show((i:Int)+1)<=j by omega) (xC hq)
  rw[sZ] at this
  omega
theorem ja.mem(hq:0<q)(h:ja q s c r){x:Int}(hx:x∈r):0<=x/\x<q*q/\0<=x/q/\x/q<q/\(if s=q then x/q=c else x%q=(s*(x/q)+c)%q):=by
 obtain⟨i,hi⟩:=gm hx
 have hil:=(aP.mp hi).1
 have hl:=h.l
 have e1:=h.e i x hi
 have hc0:=h.c0;have hc1:=h.c1
 have hmul:∀a:Int,0<=a->a<q->0<=a*q/\a*q+q<=q*q:=fun a h0 h1=>by
  have:=BL h0 (xC hq)
  have:=tY (show a+1<=q by omega) (xC hq)
  rw[sZ] at this
  omega
 have hdiv:∀a b:Int,0<=b->b<q->(a*q+b)/q=a/\(a*q+b)%q=b:=fun a b h0 h1=>by
  refine⟨?_,?_⟩
  ·rw[Int.add_comm,Int.add_mul_ediv_right _ _ (by omega),Fg h0 h1];omega
  ·rw[Int.add_comm,Int.add_mul_emod_self_right,lu h0 h1]
 by_cases k:s=q
 ·rw[if_pos k] at e1⊢
  obtain⟨d1,d2⟩:=hdiv c i (by omega) (by omega)
  have:=hmul c hc0 hc1
  rw[e1,d1]
  exact⟨by omega,by omega,by omega,by omega,rfl⟩
 ·rw[if_neg k] at e1⊢
  have a1:=eF (s*i+c) hq
  have a2:=eS (s*i+c) (show q≠0 by omega)
  obtain⟨d1,d2⟩:=hdiv i ((s*i+c)%q) a2 a1
  have:=hmul i (by omega) (by omega)
  rw[e1,d1,d2]
  exact⟨by omega,by omega,by omega,by omega,rfl⟩
theorem KQ{q a b:Int}(hq:0<q)(h:a%q=b%q):(a-b)%q=0:=qD (by
 have h1:=Bq a q
 have h2:=Bq b q
 refine⟨a/q-b/q,?_⟩
 rw[pT]
 omega)
theorem ja.meet(hq:oS q)(h:ja q s c r)(h':ja q s' c' r')(hne:¬(s=s'/\c=c')){x y:Int}(hxy:x≠y)(x1:x∈r)(y1:y∈r)(x2:x∈r')(y2:y∈r'):False:=by
 have q0:0<q:=by rcases hq with rfl|rfl|rfl|rfl<;>decide
 obtain⟨_,_,Zw,ZK,e1⟩:=h.mem q0 x1
 obtain⟨_,_,Zj,ZA,e2⟩:=h.mem q0 y1
 obtain⟨_,_,_,_,e3⟩:=h'.mem q0 x2
 obtain⟨_,_,_,_,e4⟩:=h'.mem q0 y2
 have hx:=nN x q
 have hy:=nN y q
 have hc0:=h.c0;have hc1:=h.c1;have Zr:=h'.c0;have Zv:=h'.c1
 have hs0:=h.s0;have hs1:=h.s1;have ZV:=h'.s0;have ZD:=h'.s1
 have small:∀{d:Int},-q<d->d<q->d%q=0->d=0:=fun{d} d0 d1 dz=>by
  obtain⟨k,hk⟩:=we dz
  rcases xh k 0 with z|z|z
  ·have:q*k<=q*(-1):=o7 (by omega) (by omega)
   omega
  ·rw[z] at hk;omega
  ·have:q*1<=q*k:=o7 (by omega) (by omega)
   omega
 by_cases k:s=q
 ·rw[if_pos k] at e1 e2
  by_cases k':s'=q
  ·rw[if_pos k'] at e3
   exact hne ⟨by omega,by omega⟩
  ·rw[if_neg k'] at e3 e4
   have ea:x/q=y/q:=by omega
   rw[ea,<-e4] at e3
   exact hxy (by rw[<-hx,<-hy,ea,e3])
 ·rw[if_neg k] at e1 e2
  by_cases k':s'=q
  ·rw[if_pos k'] at e3 e4
   have ea:x/q=y/q:=by omega
   rw[ea,<-e2] at e1
   exact hxy (by rw[<-hx,<-hy,ea,e1])
  ·rw[if_neg k'] at e3 e4
   have f1:=KQ q0 (e1.symm.trans e3)
   have f2:=KQ q0 (e2.symm.trans e4)
   have f3:((s-s')*(x/q-y/q))%q=0:=by
    obtain⟨u,hu⟩:=we f1
    obtain⟨v,hv⟩:=we f2
    exact qD ⟨u-v,by grind⟩
   rcases Vh hq f3 with z|z
   ·have hs:=small (by omega) (by omega) z
    have es:s=s':=by omega
    rw[es,show s'*(x/q)+c-(s'*(x/q)+c')=c-c' by omega] at f1
    have hc:=small (by omega) (by omega) f1
    exact hne ⟨es,by omega⟩
   ·have ha:=small (by omega) (by omega) z
    have ea:x/q=y/q:=by omega
    rw[ea,<-e2] at e1
    exact hxy (by rw[<-hx,<-hy,ea,e1])
structure mX(q:Int)(R:List (List Int))(T:List (Int×Int)):Prop where
 l:R.length=T.length
 nd:T.Nodup
 e:∀(i:Nat) r t,R[i]?=some r->T[i]?=some t->ja q t.1 t.2 r
theorem mX.ap{R:List (List Int)}{T:List (Int×Int)}(hq:oS q)(h:mX q R T):Ap R:=by
 have q0:0<q:=by rcases hq with rfl|rfl|rfl|rfl<;>decide
 have hat:∀(i:Nat) r,R[i]?=some r->∃t,T[i]?=some t/\ja q t.1 t.2 r:=fun i r e=>by
  have hi:i<T.length:=by have:=(aP.mp e).1;have:=h.l;omega
  exact⟨_,aB hi,h.e i r _ e (aB hi)⟩
 refine(uw fun r hr=>?_).mpr fun c d a b x y hcd ea eb hxy h1 h2 h3 h4=>?_
 ·obtain⟨i,hi⟩:=gm hr
  obtain⟨t,_,hl⟩:=hat i r hi
  exact hl.rise q0
 ·obtain⟨t,et,hl⟩:=hat c a ea
  obtain⟨t',et',hl'⟩:=hat d b eb
  refine hl.meet hq hl' (fun⟨z1,z2⟩=>hcd ?_) hxy h1 h2 h3 h4
  have:t=t':=Prod.ext z1 z2
  subst this
  exact CI h.nd et et'
theorem mX.snoc{R:List (List Int)}{T:List (Int×Int)}(h:mX q R T)(hr:ja q s c r)(hn:(s,c)∉T):mX q (R++[r]) (T++[(s,c)]):=by
 refine⟨by rw[bz,bz,h.l];rfl,pe.mpr ⟨h.nd,by simp,fun a ha b hb z=>hn (by rw[aQ.mp hb] at z;rw[<-z];exact ha)⟩,fun i a t e1 e2=>?_⟩
 have hl:=h.l
 by_cases k:i<R.length
 ·rw[gD k] at e1
  rw[gD (by omega)] at e2
  exact h.e i a t e1 e2
 ·rw[g9 (by omega)] at e1
  rw[g9 (by omega)] at e2
  have:i-R.length=0:=by
   have:=(aP.mp e1).1
   simp at this;omega
  rw[this] at e1
  rw[show i-T.length=0 by omega] at e2
  cases e1;cases e2
  exact hr
end
end L2
set_option maxRecDepth 100000
set_option maxHeartbeats 4000000
namespace L2
open PySem PySem.Spec PyProof.Rows
section
variable{X:Cx}
def CJ(K:PySem.W.Frag):List V->Hp->VK->Prop:=fun xs H Q=>∃p,∃ns:List Int,xs=[.ref p]/\aV K H p (ns.map V.int)/\ns≠[]/\∀M,M∈ns->(∀a∈ns,M<=a)->Q (.int M) H
theorem MA(hc:X.calm=true):fF X (.builtin "min") (CJ X.K):=by
 intro pins s σ H xs us Q I rv h
 obtain⟨p,ns,rfl,hp,hne,q⟩:=h
 obtain⟨u,rfl,ru⟩:=vals1 rv
 cases ru
 obtain⟨its,rs,il,hz⟩:=I.list hp
 have hI:=rN rs
 obtain⟨ys,e⟩:=hI.allInts.items
 have hns:ns=ys.toList.map (·.1):=by
  rw[<-hI.numsOf,<-nums_intItems,<-e]
 have hsz:0<ys.size:=by
  have h3:0<ns.length:=CW.mpr hne
  rw[hns,aj,jx] at h3;exact h3
 refine min_intList (I.ok.hd hc) (by rw[<-e];exact il.isList) hsz fun v h' tk hv kp=>?_
 obtain⟨t,rfl⟩:=intItems_at hv
 obtain⟨h1,h2⟩:=argBest_lt (numAt ys) (ys.size-1)
 refine⟨.int _,H,I.kept kp,⟨_,rfl⟩,q _ ?_ fun a ha=>?_⟩
 ·rw[hns,numAt_eq];exact getD_mem (by rw[aj,jx];omega)
 ·rw[hns] at ha
  obtain⟨j,hj,rfl⟩:=mem_getD ha
  rw[aj,jx] at hj
  rw[<-numAt_eq];exact h2 j (by omega)
end
theorem Ev.PM{G:Gx}{ρ:Rh}{te:TE}{K:PySem.W.Frag}{Φ:Pd}(h:Ev G ρ te fun _ x=>∃ns:List Int,x= .list (ns.map .int)/\ns≠[]/\∀M,M∈ns->(∀a∈ns,M<=a)->Φ true (.int M)):Ev G ρ (fN (CJ K) (bq te bT)) Φ:=fun nb σ H Q W z=>
 h nb σ H _ W fun f v H1 d ⟨ns,e,hne,q⟩ s1 hv=>by
  subst e
  obtain⟨a,xs,rfl,n,hx,hd⟩:=hv.fB
  have:xs=ns.map V.int:=nE hd
  subst this
  exact⟨a,ns,rfl, .of hx,hne,fun M m1 m2=>z true _ H1 _ (q M m1 m2) s1 (.int _)⟩
def fZ(cs:List aq)(i:Nat):Nat:=cs.countP fun prs=>decide ((i:Int)∈prs.map (·.1))
def B5(cs:List aq):Prop:=cs.Pairwise fun a b=>∀x y:Int,x≠y->x∈a.map (·.1)->y∈a.map (·.1)->x∈b.map (·.1)->y∈b.map (·.1)->False
structure jR(p n:Int)(cs:List aq)(ws:List Int):Prop where
 v:iB p n cs
 a:B5 cs
 t:∀prs∈cs,aU prs (ws.map some)%p=0
 l:ws.length=n.toNat
 r:∀x∈ws,0<=x/\x<p
structure jy(p:Int)(ws xs O:List Int):Prop where
 l:xs.length=ws.length
 r:∀x∈xs,0<=x/\x<p
 nd:O.Nodup
 o:∀k∈O,0<=k/\k<ws.length
 e:∀i,i<ws.length->(xs.getD i 0≠ws.getD i 0↔(i:Int)∈O)
section
variable{p n:Int}{cs:List aq}{ws xs O:List Int}{i:Nat}
theorem YV(hi:i<n.toNat):(bM p cs xs (i:Int)).length=fZ cs i:=by
 unfold bM fZ
 rw[aj,GG cs.length (aJ _),fE]
theorem ER{α:Type}{Q:α->Bool}:∀{l:List α},l.Pairwise (fun a b=>¬(Q a=true/\Q b=true))->l.countP Q<=1
  |[],_=>eY _
  | a :: l, h => by
    rw[wu] at h
    rw[nP]
    by_cases c:Q a=true
    · rw[if_pos c,xB.mpr fun b hb z=>h.1 b hb ⟨c,z⟩];exact aJ _
    · rw[if_neg c];exact ER h.2
theorem xM{α:Type}{Q R S:α->Bool}:∀{l:List α},(∀a∈l,Q a=true->R a=true\/S a=true)->l.countP Q<=l.countP R+l.countP S
  |[],_=>eY _
  | a :: l, h => by
    have ih:=xM (l:=l) fun b hb=>h b (cG _ hb)
    have ha:=h a bA
    rw[nP,nP,nP]
    by_cases c:Q a=true
    · rcases ha c with z|z
      · rw[if_pos c,if_pos z];split<;>omega
      · rw[if_pos c,if_pos z];split<;>omega
    · rw[if_neg c];split<;>split<;>omega
def iV(i:Nat)(O:List Int)(prs:aq):Bool:=decide ((i:Int)∈prs.map (·.1)) && O.any fun j=>decide (j≠(i:Int)) && decide (j∈prs.map (·.1))
theorem CM(ha:B5 cs):∀O:List Int,cs.countP (iV i O)<=(O.filter fun j=>decide (j≠(i:Int))).length
  | [] => by
    rw[xB.mpr fun a _ z=>by unfold iV at z;simp at z];exact eY _
  | j :: O => by
    have ih:=CM ha O
    by_cases c:j=(i:Int)
    · rw[rF (by simp[c])]
      have:cs.countP (iV i (j::O))=cs.countP (iV i O):=List.countP_congr fun a _=>by unfold iV;simp[c]
      omega
    · rw[uQ (by simp[c]),j7]
      have h1:cs.countP (iV i (j::O))<=cs.countP (fun a=>decide ((i:Int)∈a.map (·.1)) && decide (j∈a.map (·.1)))+cs.countP (iV i O):=xM fun a _ z=>by
        unfold iV at z⊢
        rw[cD,nO,Bool.or_eq_true,cD] at z
        rcases z with ⟨z1,z2|z2⟩
        · exact .inl (by rw[z1,z2.2];rfl)
        · exact .inr (by rw[z1,z2];rfl)
      have h2:cs.countP (fun a=>decide ((i:Int)∈a.map (·.1)) && decide (j∈a.map (·.1)))<=1:=ER (ha.imp fun h ⟨z1,z2⟩=>by
        rw[cD,decide_eq_true_eq,decide_eq_true_eq] at z1 z2
        exact h i j (bx c) z1.1 z1.2 z2.1 z2.2)
      omega
theorem SN{prs:aq}{u w:List Int}(hl:u.length=w.length)(h:∀pr∈prs,u.getD pr.1.toNat 0=w.getD pr.1.toNat 0):aU prs (u.map some)=aU prs (w.map some):=by
 unfold aU
 congr 1
 refine fX fun pr bu=>?_
 have:=h pr bu
 unfold gE
 rw[aL,aL]
 by_cases c:pr.1.toNat<u.length
 ·rw[bG,bG,aB c,aB (by omega)] at this
  rw[aB c,aB (by omega)]
  have this:u[pr.1.toNat]=w[pr.1.toNat]:=this
  rw[this]
 ·rw[fV (by omega),fV (by omega)]
theorem uc{u:List Int}{i j:Nat}{x:Int}(h:i<u.length):(u.set i x).getD j 0=if i=j then x else u.getD j 0:=by
 rw[bG]
 by_cases c:i=j
 ·subst c;rw[cX h,if_pos rfl];rfl
 ·rw[bP c,if_neg c,<-bG]
theorem JX(h:jR p n cs ws)(ho:jy p ws xs O)(hi:i<n.toNat){prs:aq}(hp:prs∈cs)(hm:(i:Int)∈prs.map (·.1))(hn:iV i O prs=false):aU prs ((xs.set i (ws.getD i 0)).map some)%p=0:=by
 have hl:=ho.l
 have hwl:=h.l
 rw[SN (w:=ws) (by rw[gb];exact hl) fun pr bu=>?_]
 ·exact h.t prs hp
 ·obtain⟨a0,a1,_⟩:=(h.v.ok prs hp).2.2 pr bu
  rw[uc (by omega)]
  by_cases c:i=pr.1.toNat
  ·rw[if_pos c,<-c]
  ·rw[if_neg c]
   refine fS fun z=>?_
   have hO:=(ho.e pr.1.toNat (by omega)).mp z
   rw[show((pr.1.toNat:Nat):Int)=pr.1 by omega] at hO
   have:iV i O prs=true:=by
    unfold iV
    rw[cD,decide_eq_true_eq,oO]
    exact⟨hm,pr.1,hO,by rw[cD,decide_eq_true_eq,decide_eq_true_eq];exact⟨by omega,cI.mpr ⟨pr,bu,rfl⟩⟩⟩
   rw[hn] at this;cases this
theorem wr(h:jR p n cs ws)(hi:i<n.toNat):0<=ws.getD i 0/\ws.getD i 0<p:=by
 have:=h.l
 exact h.r _ (by rw[bG,aB (by omega)];exact ig _)
theorem xr(h:jR p n cs ws)(ho:jy p ws xs O)(hi:i<n.toNat):0<=xs.getD i 0/\xs.getD i 0<p:=by
 have:=h.l;have:=ho.l
 exact ho.r _ (by rw[bG,aB (by omega)];exact ig _)
theorem DI(h:jR p n cs ws)(ho:jy p ws xs O):∀prs∈cs,lE p xs.length prs:=fun prs hp=>by
 rw[ho.l,h.l];exact h.v.ok prs hp
theorem Es(h:jR p n cs ws)(ho:jy p ws xs O)(hi:i<n.toNat):fZ cs i<=(bM p cs xs (i:Int)).count (ws.getD i 0)+(O.filter fun j=>decide (j≠(i:Int))).length:=by
 have hl:=ho.l
 have hwl:=h.l
 have:=CM (i:=i) h.a O
 rw[zu h.v.hp (DI h ho) (by omega) (wr h hi).1 (wr h hi).2]
 unfold fZ rz
 refine eE (xM (R:=fun prs=>decide ((i:Int)∈prs.map (·.1)) && decide (aU prs ((xs.set i (ws.getD i 0)).map some)%p=0)) (S:=iV i O) fun prs hp z=>?_) (by omega)
 by_cases c:iV i O prs=true
 ·exact .inr c
 ·have:=JX h ho hi hp (of_decide_eq_true z) (by simpa using c)
  exact .inl (by rw[z,decide_eq_true this];rfl)
theorem uJ(h:jR p n cs ws)(ho:jy p ws xs O)(hi:i<n.toNat)(hO:(i:Int)∈O):fZ cs i<=brk p cs xs+(O.filter fun j=>decide (j≠(i:Int))).length:=by
 have hl:=ho.l
 have hwl:=h.l
 have:=CM (i:=i) h.a O
 unfold fZ brk
 refine eE (xM (R:=fun prs=>decide (aU prs (xs.map some)%p≠0)) (S:=iV i O) fun prs hp z=>?_) (by omega)
 by_cases c:iV i O prs=true
 ·exact .inr c
 ·have hm:=of_decide_eq_true z
  have h1:=JX h ho hi hp hm (by simpa using c)
  refine .inl (decide_eq_true fun h2=>?_)
  obtain⟨pr,bu,e⟩:=cI.mp hm
  have hf:cK prs (i:Int)=some pr.2:=GN (h.v.ok prs hp).1 (by rw[<-e];exact bu)
  have lg:xs.set i (xs.getD i 0)=xs:=by
   rw[bG,aB (by omega)];exact KI _
  have v1:=(Cp (pl:=i) h.v.hp (DI h ho prs hp) (by omega) hf (wr h hi).1 (wr h hi).2).mpr h1
  have v2:=(Cp (pl:=i) h.v.hp (DI h ho prs hp) (by omega) hf (xr h ho hi).1 (xr h ho hi).2).mpr (by rw[lg];exact h2)
  exact(ho.e i (by omega)).mpr hO (v2.symm.trans v1)
theorem vB(hn:O.Nodup)(hO:(i:Int)∈O):(O.filter fun j=>decide (j≠(i:Int))).length+1<=O.length:=by
 have hs:((i:Int)::O.filter fun j=>decide (j≠(i:Int))).Nodup:=gz.mpr ⟨fun z=>by simpa using(fQ.mp z).2,hn.filter _⟩
 have:=qW hs (l₂:=O) fun x hx=>(aM.mp hx).elim (fun z=>z▸hO) fun z=>(fQ.mp z).1
 rwa[j7] at this
noncomputable def fc(xs ws:List Int)(m:Nat):List jP:=(List.range m).flatMap fun i=>if xs.getD i 0≠ws.getD i 0 then[((i:Int),xs.getD i 0,ws.getD i 0)] else[]
theorem rq{m:Nat}:fc xs ws (m+1)=fc xs ws m++if xs.getD m 0≠ws.getD m 0 then[((m:Int),xs.getD m 0,ws.getD m 0)] else[]:=by
 unfold fc
 rw[tL,xg,vY]
theorem XW{L:List Int}{w x:Int}(hg:cy L w x=true)(hx:x∈L):ji L w=[x]:=by
  unfold ji
  have hm:x∈L.filter (cy L w):=fQ.mpr ⟨hx,hg⟩
  cases e:L.filter (cy L w) with
  |nil=>rw[e] at hm;cases hm
  | cons a l =>
    have ha:cy L w a=true:=(fQ.mp (e▸bA:a∈L.filter (cy L w))).2
    rw[Ka ha hg];rfl
theorem Qd{L:List Int}{w:Int}(h:∀x∈L,¬cy L w x=true):ji L w=[]:=by
 unfold ji
 rw[xO.mpr h];rfl
theorem FI(h:jR p n cs ws)(ho:jy p ws xs O)(hd:∀i,i<n.toNat->2*O.length<=fZ cs i):bL p cs xs n.toNat=fc xs ws n.toNat:=by
  have hl:=ho.l
  have hwl:=h.l
  have key:∀m,m<=n.toNat->bL p cs xs m=fc xs ws m:=by
    intro m
    induction m with
    |zero=>intro _;rfl
    | succ i ih =>
      intro hi
      have hi:i<n.toNat:=by omega
      rw[t7,rq,ih (by omega)]
      congr 1
      unfold lH
      have hv:=Es h ho hi
      have hdi:=hd i hi
      have hlen:=YV (p:=p) (cs:=cs) (xs:=xs) hi
      by_cases c:(i:Int)∈O
      · have hne:=(ho.e i (by omega)).mpr c
        have hf:=vB ho.nd c
        rw[if_pos hne,XW (x:=ws.getD i 0) ?_ ?_]
        · rfl
        · unfold cy
          rw[decide_eq_true (bx hne),decide_eq_true (by omega)];rfl
        · exact List.count_pos_iff.mp (by omega)
      · have hne:¬(xs.getD i 0≠ws.getD i 0):=fun z=>c ((ho.e i (by omega)).mp z)
        have hfl:(O.filter fun j=>decide (j≠(i:Int))).length<=O.length:=zz _ _
        rw[if_neg hne,Qd fun x hx hg=>?_]
        · rfl
        · unfold cy at hg
          rw[cD,decide_eq_true_eq,decide_eq_true_eq] at hg
          have he:xs.getD i 0=ws.getD i 0:=fS hne
          rw[he] at hg
          have:=CO hg.1 (bM p cs xs (i:Int))
          omega
  exact key n.toNat (aJ _)
theorem M8{m:Nat}{t:jP}(ht:t∈fc xs ws m):∃i:Nat,i<m/\xs.getD i 0≠ws.getD i 0/\t=((i:Int),xs.getD i 0,ws.getD i 0):=by
 unfold fc at ht
 obtain⟨i,hi,hm⟩:=vF.mp ht
 by_cases c:xs.getD i 0≠ws.getD i 0
 ·rw[if_pos c] at hm;exact⟨i,jC.mp hi,c,aQ.mp hm⟩
 ·rw[if_neg c] at hm;cases hm
theorem XJ(hl:xs.length=ws.length):∀m,m<=ws.length->∀j,(dS xs (fc xs ws m)).getD j 0=if j<m then ws.getD j 0 else xs.getD j 0:=by
  intro m
  induction m with
  |zero=>intro _ j;rw[if_neg (by omega)];rfl
  | succ m ih =>
    intro hm j
    have ih:=ih (by omega)
    rw[rq]
    by_cases c:xs.getD m 0≠ws.getD m 0
    · rw[if_pos c,Dc]
      show((dS xs (fc xs ws m)).set ((m:Int)).toNat _).getD j 0=_
      rw[eX,uc (by rw[oj];omega),ih j]
      by_cases e:m=j
      · subst e;rw[if_pos rfl,if_pos (by omega)]
      · rw[if_neg e]
        by_cases e2:j<m
        · rw[if_pos e2,if_pos (by omega)]
        · rw[if_neg e2,if_neg (by omega)]
    · rw[if_neg c,eN,ih j]
      by_cases e:m=j
      · subst e;rw[if_neg (by omega),if_pos (by omega)];exact fS c
      · by_cases e2:j<m
        · rw[if_pos e2,if_pos (by omega)]
        · rw[if_neg e2,if_neg (by omega)]
theorem zj{u w:List Int}(hl:u.length=w.length)(h:∀j,j<u.length->u.getD j 0=w.getD j 0):u=w:=by
 apply gU
 intro j
 by_cases c:j<u.length
 ·have:=h j c
  rw[bG,bG,aB c,aB (by omega)] at this
  rw[aB c,aB (by omega)]
  exact congrArg some this
 ·rw[fV (by omega),fV (by omega)]
theorem Hh(hl:xs.length=ws.length):dS xs (fc xs ws ws.length)=ws:=
 zj (by rw[oj];exact hl) fun j hj=>by rw[oj] at hj;rw[XJ hl _ (aJ _),if_pos (by omega)]
theorem t6(h:jR p n cs ws):brk p cs ws=0:=xB.mpr fun prs hp z=>by
 have:=h.t prs hp
 simp[this] at z
theorem Qw(ho:jy p ws xs O)(h:O=[]){m:Nat}(hm:m<=ws.length):fc xs ws m=[]:=by
  cases e:fc xs ws m with
  |nil=>rfl
  | cons t l =>
    have ht:t∈fc xs ws m:=by rw[e];exact bA
    obtain⟨i,hi,hne,_⟩:=M8 ht
    have:=(ho.e i (by omega)).mp hne
    rw[h] at this;cases this
theorem Ib(h:jR p n cs ws)(ho:jy p ws xs O)(hO:O≠[]):fc xs ws n.toNat≠[]/\∃i:Nat,i<n.toNat/\(i:Int)∈O:=by
 have hl:=ho.l
 have hwl:=h.l
 obtain⟨k,hk⟩:=List.exists_mem_of_ne_nil _ hO
 obtain⟨k0,k1⟩:=ho.o k hk
 have hki:((k.toNat:Nat):Int)∈O:=by rw[show((k.toNat:Nat):Int)=k by omega];exact hk
 refine⟨fun z=>?_,k.toNat,by omega,hki⟩
 have hne:=(ho.e k.toNat (by omega)).mpr hki
 have hm:((k.toNat:Int),xs.getD k.toNat 0,ws.getD k.toNat 0)∈fc xs ws n.toNat:=by
  unfold fc
  exact vF.mpr ⟨k.toNat,jC.mpr (by omega),by rw[if_pos hne];exact aQ.mpr rfl⟩
 rw[z] at hm;cases hm
theorem QD(h:jR p n cs ws)(ho:jy p ws xs O)(hd:∀i,i<n.toNat->2*O.length<=fZ cs i)(k:Nat):c8 p cs n.toNat k xs=if O=[] then(ws,[],Str.ofString "held") else if k=0 then(xs,[],Str.ofString "far") else(ws,[fc xs ws n.toNat],Str.ofString "held"):=by
  have hl:=ho.l
  have hwl:=h.l
  have hT:=FI h ho hd
  by_cases c:O=[]
  · rw[if_pos c]
    have e:xs=ws:=zj hl fun j hj=>fS fun z=>by
      have:=(ho.e j (by omega)).mp z
      rw[c] at this;cases this
    rw[e]
    exact qR (t6 h)
  · rw[if_neg c]
    obtain⟨hne,i,hi,Lb⟩:=Ib h ho c
    have hb:=uJ h ho hi Lb
    have hf:=vB ho.nd Lb
    have hdi:=hd i hi
    have hb0:brk p cs xs≠0:=by omega
    cases k with
    |zero=>rw[if_pos rfl];exact DK hb0
    | succ k =>
      rw[if_neg (by omega),vC hb0 (by rw[hT];exact hne),hT]
      have hp:=Hh hl
      rw[hwl] at hp
      rw[hp,qR (t6 h)]
theorem SW(h:jR p n cs ws)(ho:jy p ws xs O)(h1:O.length=1)(hd:∀i,i<n.toNat->2<=fZ cs i):runC p cs n.toNat cs.length xs=(ws,(fc xs ws n.toNat).map fun t=>(t.1,t.2.2,0)):=by
  have hl:=ho.l
  have hwl:=h.l
  have p2:=h.v.hp.1
  obtain⟨o,qK⟩:∃o,O=[o]:=List.length_eq_one_iff.mp h1
  obtain⟨o0,o1⟩:=ho.o o (by rw[qK];exact aQ.mpr rfl)
  obtain⟨i,rfl⟩:=o5 o0
  have hi:i<n.toNat:=by omega
  have hne:=(ho.e i (by omega)).mpr (by rw[qK];exact aQ.mpr rfl)
  have wA:∀j,j<ws.length->j≠i->xs.getD j 0=ws.getD j 0:=fun j hj hji=>fS fun z=>by
    have:=(ho.e j hj).mp z
    rw[qK,aQ] at this
    omega
  have lg:xs.set i (ws.getD i 0)=ws:=zj (by rw[gb];exact hl) fun j hj=>by
    rw[gb] at hj
    rw[uc (by omega)]
    by_cases c:i=j
    · rw[if_pos c,c]
    · rw[if_neg c];exact wA j (by omega) (bx c)
  have Zh:(O.filter fun j=>decide (j≠(i:Int))).length=0:=by have:=vB (i:=i) ho.nd (by rw[qK];exact aQ.mpr rfl);omega
  have hdi:=hd i hi
  have Dz:=Es h ho hi
  have hin:ws.getD i 0∈bM p cs xs (i:Int):=List.count_pos_iff.mp (by omega)
  have hmin:=HN (p:=p) (cs:=cs) (ws:=xs) (x:=ws.getD i 0) hi (Ml hin)
  rw[lg,t6 h] at hmin
  have hb:=uJ h ho hi (by rw[qK];exact aQ.mpr rfl)
  have only:∀j y,j<n.toNat->0<=y->y<p->brk p cs (xs.set j y)=0->j=i/\y=ws.getD i 0:=fun j y hj y0 y1 hz=>by
    refine fS fun hnot=>?_
    have hr':∀x∈xs.set j y,0<=x/\x<p:=fun x hx=>(uV hx).elim (ho.r x) fun z=>z▸⟨y0,y1⟩
    have hget:∀k,(xs.set j y).getD k 0=if j=k then y else xs.getD k 0:=fun k=>uc (by omega)
    have JS:(xs.set j y).getD i 0≠ws.getD i 0:=by
      rw[hget i]
      by_cases e:j=i
      · rw[if_pos e];exact fun z=>hnot ⟨e,z⟩
      · rw[if_neg e];exact hne
    by_cases c:j=i\/y=ws.getD j 0
    · have ho':jy p ws (xs.set j y) [(i:Int)]:=⟨by rw[gb];exact hl,hr',by simp,fun k hk=>by rw[aQ.mp hk];omega,fun k hk=>by
        rw[aQ]
        constructor
        · intro z
          refine fS fun e=>z ?_
          have e:k≠i:=fun w=>e (by rw[w])
          rw[hget k]
          by_cases e2:j=k
          · rw[if_pos e2]
            rcases c with c|c
            · omega
            · rw[c,e2]
          · rw[if_neg e2];exact wA k hk e
        · intro z
          have:k=i:=by omega
          subst this;exact JS⟩
      have hb':=uJ h ho' hi (aQ.mpr rfl)
      have:([(i:Int)].filter fun j=>decide (j≠(i:Int))).length=0:=by simp
      omega
    · rw[not_or] at c
      have ho':jy p ws (xs.set j y) [(i:Int),(j:Int)]:=⟨by rw[gb];exact hl,hr',by
        rw[gz];exact⟨by rw[aQ];omega,by simp⟩,fun k hk=>by
          simp only[aM,cC,or_false] at hk
          rcases hk with rfl|rfl<;>omega,fun k hk=>by
        simp only[aM,cC,or_false]
        constructor
        · intro z
          refine fS fun e=>z ?_
          rw[not_or] at e
          rw[hget k,if_neg (by omega)]
          exact wA k hk (by omega)
        · rintro(z|z)
          · have:k=i:=by omega
            subst this;exact JS
          · have:k=j:=by omega
            subst this
            rw[hget k,if_pos rfl];exact c.2⟩
      have hb':=uJ h ho' hi bA
      have hf':=vB (O:=[(i:Int),(j:Int)]) (i:=i) ho'.nd bA
      have:[(i:Int),(j:Int)].length=2:=rfl
      omega
  have O2:(eZ p cs xs n.toNat).2=some ((i:Int),ws.getD i 0,0):=by
    rcases uZ (p:=p) (cs:=cs) (ws:=xs) (m:=n.toNat) (by omega) n.toNat (aJ _) with ⟨_,e2⟩|⟨j,y,hj,e,hlt,y0,y1⟩
    · rw[e2] at hmin;omega
    · rw[e] at hmin
      have hz:brk p cs (xs.set j y)=0:=by have:(brk p cs (xs.set j y):Int)<=0:=hmin;omega
      obtain⟨e1,e2⟩:=only j y hj y0 y1 hz
      rw[e]
      show some ((j:Int),y,((brk p cs (xs.set j y):Nat):Int))=_
      rw[hz,e1,e2];rfl
  have hnone:(eZ p cs ws n.toNat).2=none:=by
    rcases uZ (p:=p) (cs:=cs) (ws:=ws) (m:=n.toNat) (by omega) n.toNat (aJ _) with ⟨e1,_⟩|⟨j,y,hj,e,hlt,y0,y1⟩
    · exact e1
    · rw[t6 h] at hlt;omega
  have hcl:0<cs.length:=by have:fZ cs i<=cs.length:=Dg;omega
  obtain⟨k,hk⟩:∃k,cs.length=k+1:=⟨cs.length-1,by omega⟩
  rw[hk,G4 O2]
  dsimp only
  rw[eX,lg,Hg hnone]
  have nW:fc xs ws n.toNat=[((i:Int),xs.getD i 0,ws.getD i 0)]:=by
    have key:∀m,m<=n.toNat->fc xs ws m=if i<m then[((i:Int),xs.getD i 0,ws.getD i 0)] else[]:=by
      intro m
      induction m with
      |zero=>intro _;rw[if_neg (by omega)];rfl
      | succ m ih =>
        intro hm
        rw[rq,ih (by omega)]
        by_cases c:m=i
        · subst c;rw[if_neg (by omega),if_pos hne,if_pos (by omega)];rfl
        · rw[if_neg (show¬(xs.getD m 0≠ws.getD m 0) from fun z=>z (wA m (by omega) c)),eN]
          by_cases e:i<m
          · rw[if_pos e,if_pos (by omega)]
          · rw[if_neg e,if_neg (by omega)]
    rw[key _ (aJ _),if_pos hi]
  rw[nW];rfl
end
end L2
set_option maxRecDepth 100000
set_option maxHeartbeats 8000000
namespace K55
open PySem L2
def top(i:Nat):Stmt:=PySem.Challenge.pw_fewchecks_k55_whole_half_of_them_wrong.main.body.getD i (.Pass ⟨0,0,0,0⟩)
abbrev Ac:Stmt:=top 1
abbrev zT:Stmt:=top 2
abbrev ux:Stmt:=top 4
abbrev yP:Stmt:=top 5
abbrev wm:Stmt:=top 7
abbrev DV:Stmt:=top 8
abbrev Bv:Stmt:=top 9
abbrev DC:Stmt:=top 10
abbrev C0:Stmt:=top 11
abbrev Dk:Stmt:=top 12
abbrev yd:Stmt:=top 13
abbrev wV:Stmt:=top 14
abbrev yr:Stmt:=top 15
abbrev Cz:Stmt:=top 16
abbrev uu:Stmt:=top 18
abbrev C2:Stmt:=top 19
abbrev Ak:Stmt:=top 20
abbrev wI:Stmt:=top 21
abbrev B8:Stmt:=top 22
abbrev qP:Stmt:=top 23
abbrev Al:Stmt:=top 24
abbrev uT:Stmt:=top 25
abbrev rY:Stmt:=top 26
abbrev xK:Stmt:=top 27
abbrev rW:Stmt:=top 28
abbrev qY:Stmt:=top 29
abbrev D4:Stmt:=top 30
abbrev wR:Stmt:=top 31
abbrev wX:Stmt:=top 32
abbrev qL:Stmt:=top 33
abbrev wL:Stmt:=top 34
abbrev ua:Stmt:=top 35
abbrev BK:Stmt:=top 36
abbrev yy:Stmt:=top 37
abbrev xm:Stmt:=top 38
abbrev yL:Stmt:=top 39
abbrev Du:Stmt:=top 40
abbrev kq:Stmt:=top 41
local macro_rules| `(tactic|walk_at "d0")=> `(tactic|first|omega|assumption|decide|(unfold Sm at*;omega)|(unfold uz;omega)|(unfold DL;decide)|(unfold DL;omega))
local macro_rules| `(tactic|walk_at "ds")=> `(tactic|((try dsimp only);first|walk_at "d0" |(refine And.intro ?_ ?_<;>walk_at "d0")|(refine Or.inl ?_;walk_at "d0")|(refine Or.inr (And.intro ?_ ?_)<;>walk_at "d0")))
local macro_rules| `(tactic|walk_at "s1")=> `(tactic|with_reducible first
 |refine R.seq ?_|refine R.asg ?_|refine R.setC ?_|refine R.pZ ?_|refine R.ret ?_|refine R.next ?_|refine R.c ?_|refine R.op ?_|refine R.test ?_|refine R.bl ?_|refine R.tru ?_
 |refine R.and ?_|refine R.notV ?_|refine R.cb ?_|refine R.call ?_|refine R.nil ?_|refine R.cons ?_
 |refine R.lst ?_|refine R.sl ?_|refine R.O6 ?_|refine R.part ?_|refine R.S8 ?_|refine R.bm ?_|refine R.LD ?_|refine R.HQ ?_|refine R.X7 ?_|refine R.Tn ?_|refine R.LR ?_|refine R.sH ?_
 |refine R.iG ?_|refine R.rU ?_|refine R.Pz ?_|refine R.Ss ?_|refine R.eqNI ?_|refine R.eqIN ?_|refine R.isI ?_|refine R.Hv ?_|refine R.Ik ?_|refine R.bits ?_
 |refine tV ?_|refine Jx ?_|refine R.nilE ?_|refine R.isiII ?_|refine R.isiIB ?_|refine R.LS ?_|refine R.YQ ?_|refine R.iL ?_|refine R.LP ?_|refine R.comp ?_)
local macro_rules| `(tactic|walk_at "st")=> `(tactic|repeat (first
 |walk_at "s1"
 |((with_reducible refine' R.var ?h0 ?_);(case h0=>rfl))
 |((with_reducible refine' R.rI ?h1 ?_);(case h1=>walk_at "ds"))
 |((with_reducible refine' R.xP (o:= .lst []) ?h1 ?_);(case h1=>rfl))
 |((with_reducible refine' R.w9 ?h0 ?h1 ?_);(case h0=>assumption);(case h1=>rfl))
 |((with_reducible refine' R.ixTM ?h0 ?h1 ?_);(case h0=>assumption);(case h1=>rfl))
 |((with_reducible refine' R.Px ?h1 ?_);(case h1=>rfl))
 |((with_reducible refine' R.setM ?h0 ?h1 ?_);(case h0=>assumption);(case h1=>rfl))
 |((with_reducible refine' R.OX ?h0 ?_);(case h0=>assumption))
 |((with_reducible refine' R.lenL ?h0 ?_);(case h0=>assumption))
 |((with_reducible refine' R.L3 ?h0 ?h1 ?_);(case h0=>walk_at "ds");(case h1=>walk_at "ds"))
 |((with_reducible refine' R.Uq ?h0 ?_);(case h0=>walk_at "ds"))
 |((with_reducible refine' R.vD ?h0 ?_);(case h0=>assumption))
 |((with_reducible refine' R.Lc ?h0 ?_);(case h0=>first|exact R.dT (by omega)|exact R.Ey (by omega)|decide))
 |((with_reducible refine' R.EJ ?h0 ?_);(case h0=>first|exact R.dF (by omega)|exact R.Fx (by omega)|decide))
 |(with_reducible refine R.Xz ?_)|(with_reducible refine R.TX ?_)))
local macro_rules| `(tactic|walk_at "fv")=> `(tactic|first|exact Or.inl rfl|exact Or.inr (Or.inl rfl)|exact Or.inr (Or.inr (Or.inl rfl))|exact Or.inr (Or.inr (Or.inr (Or.inl rfl)))|exact Or.inr (Or.inr (Or.inr (Or.inr rfl))))
local macro_rules| `(tactic|walk_at "d1")=> `(tactic|with_reducible first
 |refine Sv.seq ?_|refine Sv.Vd ?_|refine Sv.asg ?_|refine Sv.Pf ?_|refine Sv.pZ ?_|refine Sv.ret ?_|refine Sv.next ?_|refine Sv.retN ?_
 |refine Ev.int ?_|refine Ev.bl ?_|refine Ev.aT ?_|refine Ev.iG ?_|refine Ev.M7 ?_|refine Ev.rI ?_|refine Ev.rU ?_|refine Ev.eq ?_|refine Ev.ne ?_|refine Ev.is ?_|refine Ev.O3 ?_|refine Ev.Ga ?_|refine Ev.str ?_|refine Ev.VF ?_
 |refine Ev.RN ?_|refine Ev.orV ?_|refine Ev.notV ?_|refine Ev.Qh ?_|refine Tv.test ?_|refine Tv.and ?_|refine Tv.or ?_|refine Tv.not ?_|refine Tv.sH ?_|refine Tv.LF ?_
 |refine Ev.Tg ?_|refine Ev.lst ?_|refine Av.nil ?_|refine Av.cons ?_|refine Av.XC ?_|refine Ov.none ?_|refine Ov.some ?_|refine Ev.min2 ?_|refine Ev.max2 ?_|refine Ev.Wn ?_
 |refine R.di ?_|refine R.db ?_|refine R.dl ?_|refine R.dt ?_|refine R.Sb ?_|refine R.RQ ?_|refine R.Qg ?_|refine R.eqni ?_|refine R.eqin ?_|refine R.eqnn ?_|refine R.Rb ?_
 |refine Gv.iN ?_|refine Gv.LZ ?_|refine Gv.RY ?_|refine Gv.nameT ?_|refine Gv.mz ?_|refine Gv.NU ?_|refine Gv.Nq ?_|refine tV ?_|refine Jx ?_)
local macro_rules| `(tactic|walk_at "dt")=> `(tactic|repeat (first
 |((with_reducible refine' Sv.GZ ?h0 ?_);(case h0=>rfl))
 |((with_reducible refine' Sv.Ho ?h0 ?_);(case h0=>rfl))
 |walk_at "d1"
 |((with_reducible refine' Ev.var ?h0 ?_);(case h0=>rfl))
 |((with_reducible refine' Ev.draw ?h0 ?_);(case h0=>rfl))
 |((with_reducible refine' Ev.Qu ?h0 ?_);(case h0=>rfl))
 |((with_reducible refine' Ev.WB ?h0 ?_);(case h0=>rfl))
 |((with_reducible refine' Ev.listOwn ?h0 ?_);(case h0=>rfl))
 |((with_reducible refine' Ev.slOwn ?h0 ?_);(case h0=>rfl))
 |((with_reducible refine' Sv.append ?h0 ?_);(case h0=>rfl))
 |((with_reducible refine' Sv.Ho ?h0 ?_);(case h0=>rfl))
 |((with_reducible refine' Sv.GZ ?h0 ?_);(case h0=>rfl))
 |((with_reducible refine' Gv.tup ?h0 ?_);(case h0=>rfl))
 |((with_reducible refine' R.at_ ?h0 ?_);(case h0=>first|rfl|assumption))
 |(with_reducible refine Ev.Ym ?_)|(with_reducible refine Ev.SO ?_)|(with_reducible refine Ev.listOf ?_)|(with_reducible refine Ev.sl ?_)|(with_reducible refine Ev.cat ?_)|(with_reducible refine Ev.P7 ?_)
 |((with_reducible refine' Ev.NS ?h0 ?_);(case h0=>walk_at "fv"))
 |((with_reducible refine' Ev.PN ?h0 ?h1 ?_);(case h0=>walk_at "fv");(case h1=>walk_at "fv"))
 |(with_reducible refine Ev.all ?_)|(with_reducible refine Ev.sum ?_)|(with_reducible refine Ev.xP ?_)
 |((with_reducible refine' R.Ua ?_))
 |((with_reducible refine' R.Lc ?h0 ?_);(case h0=>first|exact R.dT (by omega)|exact R.Ey (by omega)|rfl))
 |((with_reducible refine' R.EJ ?h0 ?_);(case h0=>first|exact R.dF (by omega)|exact R.Fx (by omega)|exact dZ))
 |((with_reducible refine' R.OJ ?h0 ?_);(case h0=>first|walk_at "ds" |exact IQ rfl))))
local macro_rules| `(tactic|walk_at "wk")=> `(tactic|repeat (first|exact Wk.nil|apply Wk.no|apply Wk.eq))
section
variable{P:Program}{w:World}{K:PySem.W.Frag}{mg:Str->Option Value}{base:Heap}{f:Addr}{fd:FuncData}
theorem jS:cz ["p","b","last_rest","last_times","rest","times","quotient","next_rest","next_times"] ["p","b"] (aR Ac):=⟨rfl,rfl,rfl,by decide+kernel,rfl,by decide+kernel,by decide+kernel⟩
theorem Xf(F:bQ K "inverse" "inverse" Ac f fd):
  bE P w K mg base bO 1 f fd ["p","b"] zV:=by
 refine F.ok jS (fun vs H Q E h=>?_) (fun cdv A outer s H vs Q E hr h=>?_)
 ·obtain⟨p,b,rfl,hp,hp3,hb,q⟩:=h
  rfl
 obtain⟨p,b,rfl,hp,hp3,hb,q⟩:=h
 refine⟨_,(@ak _ _ _ _ _ (@aE _ _ (2) _ _ _ _ jS.nd rfl (Or.inl rfl) (pv 0) (by rfl) (by first|exact .inl rfl|exact .inr rfl|assumption)) (@ak _ _ _ _ _ (@aE _ _ (3) _ _ _ _ jS.nd rfl (Or.inl rfl) ao (by rfl) (by first|exact .inl rfl|exact .inr rfl|assumption)) (@ak _ _ _ _ _ (@aE _ _ (4) _ _ _ _ jS.nd rfl (Or.inl rfl) (@aF _ _ _ _ _ _ _ _ iC (pv 1) (pv 0)) (by rfl) (by first|exact .inl rfl|exact .inr rfl|assumption)) (@ak _ _ _ _ _ (@aE _ _ (5) _ _ _ _ jS.nd rfl (Or.inl rfl) ao (by rfl) (by first|exact .inl rfl|exact .inr rfl|assumption)) (@ak _ _ _ _ _ (@w4 _ _ _ _ _ _ c7 (@bB _ _ _ _ _ _ _ _ jV (pv 4) ao (bw _)) (@ak _ _ _ _ _ (@aE _ _ (6) _ _ _ _ jS.nd rfl (Or.inl rfl) (@aF _ _ _ _ _ _ _ _ qg (pv 2) (pv 4)) (by rfl) (by first|exact .inl rfl|exact .inr rfl|assumption)) (@ak _ _ _ _ _ (@aE _ _ (7) _ _ _ _ jS.nd rfl (Or.inl rfl) (@aF _ _ _ _ _ _ _ _ kB (pv 2) (@aF _ _ _ _ _ _ _ _ gf (pv 6) (pv 4))) (by rfl) (by first|exact .inl rfl|exact .inr rfl|assumption)) (@ak _ _ _ _ _ (@aE _ _ (8) _ _ _ _ jS.nd rfl (Or.inl rfl) (@aF _ _ _ _ _ _ _ _ kB (pv 3) (@aF _ _ _ _ _ _ _ _ gf (pv 6) (pv 5))) (by rfl) (by first|exact .inl rfl|exact .inr rfl|assumption)) (@ak _ _ _ _ _ (@aE _ _ (2) _ _ _ _ jS.nd rfl (Or.inl rfl) (pv 4) (by rfl) (by first|exact .inl rfl|exact .inr rfl|assumption)) (@ak _ _ _ _ _ (@aE _ _ (3) _ _ _ _ jS.nd rfl (Or.inl rfl) (pv 5) (by rfl) (by first|exact .inl rfl|exact .inr rfl|assumption)) (@ak _ _ _ _ _ (@aE _ _ (4) _ _ _ _ jS.nd rfl (Or.inl rfl) (pv 7) (by rfl) (by first|exact .inl rfl|exact .inr rfl|assumption)) (@az _ _ _ (@aE _ _ (5) _ _ _ _ jS.nd rfl (Or.inl rfl) (pv 8) (by rfl) (by first|exact .inl rfl|exact .inr rfl|assumption)))))))))) (@az _ _ _ (@aZ _ _ _ _ (@aF _ _ _ _ _ _ _ _ iC (pv 3) (pv 0))))))))),?_⟩
 have hp2:=hp.1
 walk_at "st"
 refine T8 (fun σ H1=>H1=H/\∃(L lt r t:Int) (x6 x7 x8:Option V),σ=[some (.int p),some (.int b),some (.int L),some (.int lt),some (.int r),some (.int t),x6,x7,x8]/\Eu p b L lt r t) (fun(σ:St) (_:Hp)=>match σ[4]? with|some (some (V.int r))=>r.toNat|_=>0) ⟨rfl,_,_,_,_,_,_,_,rfl,Eu.start hp2⟩ ?_ ?_
 ·rintro σ H1 ⟨rfl,L,lt,r,t,x6,x7,x8,rfl,E⟩
  obtain⟨t1,t2⟩:=E.tb
  have e1:=E.l0
  have e2:=E.r0
  have e3:=E.lp
  have e4:=E.rp
  walk_at "st"
  refine qi (fun c=>?_) (fun c=>?_)
  ·have c:r≠0:=of_decide_eq_true c
   have hr:0<r:=by omega
   have q1:0<=L/r:=vZ (by omega) (by omega)
   have q2:L/r<=L:=BA _ (by omega)
   obtain⟨N1,N2⟩:=E.next hr
   walk_at "st"
   refine⟨⟨rfl,_,_,_,_,_,_,_,rfl,N1⟩,?_⟩
   show(L-L/r*r).toNat<r.toNat
   omega
  ·have c:r=0:=by simpa using c
   subst c
   walk_at "st"
   exact q _ (eS _ (by omega)) (eF _ (by omega)) (E.fin hp hb)
 ·exact fun σ H Q Q' h ⟨v,e,s,k,ek,z⟩=>⟨v,e,s,k,ek,h _ _ z⟩
theorem qQ:cz ["p","pairs","word","reached","place","factor"] ["p","pairs","word"] (aR zT):=⟨rfl,rfl,rfl,by decide+kernel,rfl,by decide+kernel,by decide+kernel⟩
theorem PJ(F:bQ K "total" "total" zT f fd):
    bE P w K mg base bO 1 f fd ["p","pairs","word"] Ct:=by
  refine F.ok qQ (fun vs H Q E h=>?_) (fun cdv A outer s H vs Q E hr h=>?_)
  · obtain⟨nb,p,va,vc,prs,wd,rfl,hA,hC,hp,h1,h2,q⟩:=h
    rfl
  obtain⟨nb,p,va,vc,prs,wd,rfl,hA,hC,hp,h1,h2,q⟩:=h
  refine⟨_,(@ak _ _ _ _ _ (@aE _ _ (3) _ _ _ _ qQ.nd rfl (Or.inl rfl) ao (by rfl) (by first|exact .inl rfl|exact .inr rfl|assumption)) (@ak _ _ _ _ _ (@dU _ _ _ _ _ _ _ _ c7 rfl (@eB _ _ _ _ (pv 1)) (JL rfl (@bV _ _ _ _ _ (aH (i:=4) qQ.nd rfl (Or.inl rfl)) (@bV _ _ _ _ _ (aH (i:=5) qQ.nd rfl (Or.inl rfl)) gM (by rfl)) (by rfl))) (@az _ _ _ (@cN _ _ _ _ _ _ _ _ (@bB _ _ _ _ _ _ _ _ Dy (@aG _ _ _ _ _ _ _ bD (pv 2) (pv 4) (fun _ _=>rfl)) qG (bw _)) (@az _ _ _ (@aE _ _ (3) _ _ _ _ qQ.nd rfl (Or.inl rfl) (@aF _ _ _ _ _ _ _ _ iC (@aF _ _ _ _ _ _ _ _ dB (pv 3) (@aF _ _ _ _ _ _ _ _ gf (pv 5) (@aG _ _ _ _ _ _ _ bD (pv 2) (pv 4) (fun _ _=>rfl)))) (pv 0)) (by rfl) (by first|exact .inl rfl|exact .inr rfl|assumption))) dj)) (by intro _;rfl)) (@az _ _ _ (@aZ _ _ _ _ (pv 3))))),?_⟩
  obtain⟨a,xs,rfl,na,ha,da⟩:=hA.fB
  obtain⟨c,ws,rfl,nc,hc,dc⟩:=hC.fB
  have iF:=da.length
  rw[aj] at iF
  have ew:=KJ dc
  subst ew
  walk_at "st"
  refine R.vD (aV.of ha) ?_
  refine FT (xs:=xs) (fun i σ H1=>H1=H/\∃(r:Int) (x y:Option V),σ=[some (.int p),some (.ref a),some (.ref c),some (.int r),x,y]/\r=aU (prs.take i) wd%p) ⟨rfl,0,none,none,rfl,by simp[aU]⟩ ?_ ?_ ?_
  · rintro i σ H1 hi ⟨rfl,_⟩
    exact aV.of ha
  · rintro i x σ H1 hx ⟨rfl,r,y,z,rfl,hr⟩
    have hi:i<prs.length:=by have:=(aP.mp hx).1;omega
    obtain⟨x',hx',dx⟩:=da.get (i:=i) (by rw[aL,aB hi];rfl)
    rw[hx] at hx';cases hx'
    obtain⟨t,rfl,nt,ht⟩:=LK dx
    obtain⟨g1,g2,g3⟩:=h1 _ (ig hi)
    have hk:prs[i].fst.toNat<wd.length:=by omega
    have hat:bN (wd.map uq) prs[i].fst=some (uq wd[prs[i].fst.toNat]):=fT g1 (by rw[aL,aB hk];rfl)
    have AQ:gE wd prs[i]=match wd[prs[i].fst.toNat] with|some x=>prs[i].snd*x|none=>0:=by
      unfold gE
      rw[aB hk]
      cases wd[prs[i].fst.toNat]<;>rfl
    have hs2:∀x,wd[prs[i].fst.toNat]=some x->Sm x:=fun x e=>h2 x (by rw[<-e];exact ig hk)
    have hd:=JY (wd:=wd) hi
    refine R.Sy (gx.of ht) rfl ?_
    walk_at "st"
    refine R.w9 hc hat ?_
    walk_at "st"
    generalize wd[prs[i].fst.toNat]=o at hat AQ hs2⊢
    cases o with
    | none =>
      refine R.Ik ?_
      walk_at "st"
      refine⟨rfl,_,_,_,rfl,?_⟩
      rw[hd,AQ,hr,Int.add_zero]
    | some x =>
      have QE:=hs2 x rfl
      refine R.Hv ?_
      walk_at "st"
      refine R.w9 hc hat ?_
      refine R.rI (Or.inr ⟨g3,QE⟩) ?_
      walk_at "st"
      refine⟨rfl,_,_,_,rfl,?_⟩
      rw[hd,AQ,hr,Int.emod_add_emod]
  · rintro σ H1 ⟨rfl,r,x,y,rfl,hr⟩
    walk_at "st"
    rw[iF,fE] at hr
    rw[hr]
    exact q
def AF:DF:=fun ds Φ=>∃(p:Int) (prs:aq) (wd:Wo),ds=[.int p,fJ prs,kc wd]/\0<p/\ou prs wd.length/\lz wd/\Φ true (g7 (oK p prs wd))
theorem L0:cU AF:=by
 intro ds Φ Ψ hm z
 obtain⟨p,prs,wd,e,h1,h2,h3,q⟩:=hm
 exact⟨p,prs,wd,e,h1,h2,h3,z _ _ q⟩
theorem Cj:cz ["p","pairs","word","place","factor"] ["p","pairs","word"] (aR yP):=⟨rfl,rfl,rfl,by decide+kernel,rfl,by decide+kernel,by decide+kernel⟩
theorem Ur(F:bQ K "sum_of" "sum_of" yP f fd)(M6:Callee P w K mg base "total" 1 ["p","pairs","word"] Ct):
    bE P w K mg base bO 2 f fd ["p","pairs","word"] (aS 3 AF):=by
  refine F.ok Cj (fun vs H Q E h=>h.1) (fun cdv A outer s H vs Q E hr h=>?_)
  obtain⟨nb,ds,Φ,hlive,hds,aD,hF⟩:=fM h
  obtain⟨p,prs,wd,rfl,hp,h1,h2,q⟩:=hF
  refine⟨_,(@ak _ _ _ _ _ (@dU _ _ _ _ _ _ _ _ c7 rfl (@eB _ _ _ _ (pv 1)) (@iu _ (K) _ _ _ (2) _ rfl rfl (@bV _ _ _ _ _ (aH (i:=3) Cj.nd rfl (Or.inl rfl)) (@bV _ _ _ _ _ (aH (i:=4) Cj.nd rfl (Or.inl rfl)) gM (by rfl)) (by rfl)) (by rfl) (by rfl)) (@az _ _ _ (@cN _ _ _ _ _ _ _ _ (@bB _ _ _ _ _ _ _ _ Nm (@aG _ _ _ _ _ _ (cF K) bD (pv 2) (pv 3) (fun _ _=>rfl)) qG (bw _)) (@az _ _ _ (@aZ _ _ _ _ qG)) dj)) (by intro _;rfl)) (@az _ _ _ (@aZ _ _ _ _ (@aK _ _ _ _ _ _ _ _ _ _ M6 (hr.mono (by decide)) (@aa _ _ _ _ _ (pv 0) (@aa _ _ _ _ _ (pv 1) (@aa _ _ _ _ _ (pv 2) af rfl) rfl) rfl) (by rfl) (by decide) (by rfl) (by rfl))))),?_⟩
  refine Sv.fP hlive hds aD (ρ:=[.d false _, .d false _, .d false _, .no, .no]) rfl ?_
  clear aD hds
  walk_at "dt"
  refine Sv.forL (Ev.var rfl ⟨_,rfl,fun v=>?_⟩)
  refine⟨fun i ρ=>(∃x y,ρ=[.d false (.int p), .d false (fJ prs), .d false (kc wd),x,y])/\∀pr∈prs.take i,wd[pr.1.toNat]?≠some none,⟨⟨_,_,rfl⟩,by simp⟩,?_,?_⟩
  · rintro i d ρ hd ⟨⟨x,y,rfl⟩,hI⟩
    obtain⟨pr,bu,rfl⟩:=eO hd
    obtain⟨g1,g2,g3⟩:=h1 pr (br bu)
    obtain⟨o,ho,hat⟩:=GI (xs:=wd) g7 g1 g2 rfl
    walk_at "dt"
    rw[JJ]
    cases o with
    | none =>
      walk_at "dt"
      have e:oK p prs wd=none:=if_pos ⟨pr,br bu,ho⟩
      rw[e] at q
      exact q
    | some z =>
      walk_at "dt"
      refine⟨⟨_,_,rfl⟩,fun N8 h'=>?_⟩
      rw[take_snoc bu] at h'
      rcases dg.mp h' with h'|h'
      · exact hI N8 h'
      · rw[aQ.mp h',ho];exact fun z=>by cases z
  · rintro ρ ⟨⟨x,y,rfl⟩,hI⟩
    walk_at "dt"
    refine Ev.total ?_
    walk_at "dt"
    refine⟨p,prs,wd,rfl,hp,h1,h2,?_⟩
    have e:oK p prs wd=some (aU prs wd%p):=if_neg fun⟨pr,h,e⟩=>hI pr (by rw[aj,fE];exact h) e
    rw[e] at q
    exact q
def rQ:DF:=fun ds Φ=>∃(p n:Int) (cs:List aq) (wd:Wo),ds=[cL p n cs,kc wd]/\0<p/\cs.length<=10000/\(∀prs∈cs,ou prs wd.length)/\lz wd/\Φ true (.list (cs.map fun prs=>g7 (oK p prs wd)))
theorem D8:cU rQ:=by
 intro ds Φ Ψ hm z
 obtain⟨p,n,cs,wd,e,h1,h2,h3,h4,q⟩:=hm
 exact⟨p,n,cs,wd,e,h1,h2,h3,h4,z _ _ q⟩
theorem MU:cz ["net","word"] ["net","word"] (aR ux):=⟨rfl,rfl,rfl,by decide+kernel,rfl,by decide+kernel,by decide+kernel⟩
theorem Oo(F:bQ K "sums" "sums" ux f fd)(Vj:Callee P w K mg base "sum_of" 2 ["p","pairs","word"] (aS 3 AF)):
  bE P w K mg base bO 3 f fd ["net","word"] (aS 2 rQ):=by
 refine F.ok MU (fun vs H Q E h=>h.1) (fun cdv A outer s H vs Q E hr h=>?_)
 obtain⟨nb,ds,Φ,hlive,hds,aD,hF⟩:=fM h
 obtain⟨p,n,cs,wd,rfl,hp,hl,h1,h2,q⟩:=hF
 refine⟨_,(@az _ _ _ (@aZ _ _ _ _ (iD (cP.of (show eU (aR ux) ["net","word"] _ ["pairs","net","word"] [none,some 0,some 1]=true by decide+kernel)) (@eB _ _ _ _ (@aG _ _ _ _ _ _ (c5 K) dG (pv 0) ao (fun _ _=>rfl))) (fun _ _ _ _=>⟨(aH (i:=0) (by show List.Nodup (["pairs","net","word"]:List Str);decide+kernel) rfl (Or.inl rfl)),iy,(@aK _ _ _ _ _ _ _ _ _ _ Vj (hr.mono (by decide)) (@aa _ _ _ _ _ (@aG _ _ _ _ _ _ (c5 K) dG (pv 1) ao (fun _ _=>rfl)) (@aa _ _ _ _ _ (pv 0) (@aa _ _ _ _ _ (pv 2) af rfl) rfl) rfl) (by rfl) (by decide) (by rfl) (by rfl))⟩)))),?_⟩
 refine Sv.fP hlive hds aD (ρ:=[.d false _, .d false _]) rfl ?_
 clear aD hds
 walk_at "dt"
 refine aC.ev (aC.jM (by decide) rfl ?_)
 walk_at "dt"
 refine⟨by rw[aj];exact hl,fun v=>⟨true,fun i ds=>ds=(cs.take i).map fun prs=>g7 (oK p prs wd),rfl,?_,?_⟩⟩
 ·rintro i d ds hd hl' rfl
  obtain⟨prs,c9,rfl⟩:=eO hd
  walk_at "dt"
  refine⟨by walk_at "wk",?_⟩
  walk_at "dt"
  refine Ev.bH L0 ?_
  walk_at "dt"
  refine⟨rfl,p,prs,wd,rfl,hp,h1 prs (br c9),h2,fun _=>rfl,?_⟩
  show _=List.map _ _
  rw[take_snoc c9,cZ]
  rfl
 ·rintro ds hl' rfl
  rw[aj,fE]
  exact q
def A0:DF:=fun ds Φ=>∃(p n:Int) (cs:List aq) (dO:List Int),ds=[cL p n cs, .list (dO.map .int)]/\iB p n cs/\dO.Nodup/\dO.length<=1000/\
 ∀f,Φ f (.dict ((dO.map fun pl=>(pl,PyData.list ((eV p cs pl cs.length).map pairD))).map bI))
theorem VO:cU A0:=by
 intro ds Φ Ψ hm z
 obtain⟨p,n,cs,dO,e,h1,h2,h3,q⟩:=hm
 exact⟨p,n,cs,dO,e,h1,h2,h3,fun f=>z _ _ (q f)⟩
theorem pG:cz ["net","places","found","c","pairs","place","factor"] ["net","places"] (aR wm):=⟨rfl,rfl,rfl,by decide+kernel,rfl,by decide+kernel,by decide+kernel⟩
theorem NY(F:bQ K "voices" "voices" wm f fd)(PL:Callee P w K mg base "inverse" 1 ["p","b"] zV)(BZ:mg "dict"=none)(mw:mg "enumerate"=none):
  bE P w K mg base bO 2 f fd ["net","places"] (aS 2 A0):=by
 refine F.ok pG (fun vs H Q E h=>h.1) (fun cdv A outer s H vs Q E hr h=>?_)
 obtain⟨nb,ds,Φ,hlive,hds,aD,hF⟩:=fM h
 obtain⟨p,n,cs,dO,rfl,hN,hnd,hpl,q⟩:=hF
 refine⟨_,(@ak _ _ _ _ _ (@aE _ _ (2) _ _ _ _ pG.nd rfl (Or.inl rfl) (@gH _ _ _ _ _ _ _ _ (B9) (OY rfl) rfl BZ PyProof.Rows.boot_dict (@aa _ _ _ _ _ (iD (cP.of (show eU (aR wm) ["net","places","found","c","pairs","place","factor"] _ ["place"] [none]=true by decide+kernel)) (@eB _ _ _ _ (pv 1)) (fun _ _ _ _=>⟨(aH (i:=0) (by show List.Nodup (["place"]:List Str);decide+kernel) rfl (Or.inl rfl)),iy,(@bF _ _ _ _ _ (@aa _ _ _ _ _ (pv 0) (@aa _ _ _ _ _ (@eG _ _ _ _ af) af rfl) rfl))⟩)) af rfl) (by decide) (by decide) (by rfl) (by rfl)) (by rfl) (by first|exact .inl rfl|exact .inr rfl|assumption)) (@ak _ _ _ _ _ (@dU _ _ _ _ _ _ _ _ c7 rfl (@Bf _ (K) _ _ _ _ _ _ _ rfl rfl mw (@aG _ _ _ _ _ _ (c5 K) dG (pv 0) ao (fun _ _=>rfl)) (by rfl)) (@iu _ (K) _ _ _ (2) _ rfl rfl (@bV _ _ _ _ _ (aH (i:=3) pG.nd rfl (Or.inl rfl)) (@bV _ _ _ _ _ (aH (i:=4) pG.nd rfl (Or.inl rfl)) gM (by rfl)) (by rfl)) (by rfl) (by rfl)) (@az _ _ _ (@dU _ _ _ _ _ _ _ _ c7 rfl (@eB _ _ _ _ (pv 4)) (@iu _ (K) _ _ _ (2) _ rfl rfl (@bV _ _ _ _ _ (aH (i:=5) pG.nd rfl (Or.inl rfl)) (@bV _ _ _ _ _ (aH (i:=6) pG.nd rfl (Or.inl rfl)) gM (by rfl)) (by rfl)) (by rfl) (by rfl)) (@az _ _ _ (@cN _ _ _ _ _ _ _ _ (@bB _ _ _ _ _ _ _ _ (GU hr.units) (pv 5) (pv 2) (by with_unfolding_all rfl)) (@az _ _ _ (@kO _ _ _ _ (iU jU kN k6 kG (@aG _ _ _ _ _ _ (jQ) m5 (pv 2) (pv 5) (fun _ _=>rfl)) (@aa _ _ _ _ _ (@bF _ _ _ _ _ (@aa _ _ _ _ _ (pv 3) (@aa _ _ _ _ _ (@aK _ _ _ _ _ _ _ _ _ _ PL (hr.mono (by decide)) (@aa _ _ _ _ _ (@aG _ _ _ _ _ _ (c5 K) dG (pv 0) ao (fun _ _=>rfl)) (@aa _ _ _ _ _ (pv 6) af rfl) rfl) (by rfl) (by decide) (by rfl) (by rfl)) af rfl) rfl)) af rfl)) (by rfl))) dj)) (by intro _;rfl))) (by intro _;rfl)) (@az _ _ _ (@aZ _ _ _ _ (pv 2))))),?_⟩
 refine Sv.fP hlive hds aD (ρ:=[.d false _, .d false _, .no, .no, .no, .no, .no]) rfl ?_
 clear aD hds
 have p2:=hN.hp.1
 have gn:=hN.gn
 have n0:=hN.n0
 have n1:=hN.n1
 have hcl:=hN.cl
 have lX:(cs.map fJ).length=cs.length:=aj ..
 refine Sv.seq ?_
 refine Sv.Ly ?_
 walk_at "dt"
 refine⟨dO,rfl,hnd,by omega,fun A2 rows0 hr0=>?_⟩
 refine Sv.seq ?_
 refine Sv.BR ?_
 walk_at "dt"
 refine fun v=>⟨fun i ρ=>∃(rows:List fU) (f2:Bool) (x3 x4 x5 x6:Sl),(rows.map fun r=>(r.1,r.2.2))=(dO.map fun pl=>(pl,(eV p cs pl i).map pairD))/\ρ=[.d false (cL p n cs), .d false (.list (dO.map .int)), .cu (i7 A2 f2 rows),x3,x4,x5,x6],⟨rows0,true,_,_,_,_,hr0,rfl⟩,?_,?_⟩
 ·rintro i d ρ ⟨e,he,rfl⟩ ⟨rows,f2,x3,x4,x5,x6,hr,rfl⟩
  obtain⟨prs,c9,rfl⟩:=eO he
  have hil:=(aP.mp c9).1
  obtain⟨g1,g2,g3⟩:=hN.ok prs (br c9)
  walk_at "dt"
  refine Sv.forL ?_
  walk_at "dt"
  refine fun v=>⟨fun m ρ=>∃(rows:List fU) (f2:Bool) (x5 x6:Sl),(rows.map fun r=>(r.1,r.2.2))=dO.map (jb p cs i (prs.take m))/\ρ=[.d false (cL p n cs), .d false (.list (dO.map .int)), .cu (i7 A2 f2 rows), .d true (.int i), .d false (fJ prs),x5,x6],⟨rows,f2,_,_,by rw[hr];exact Sx,rfl⟩,?_,?_⟩
  ·rintro m d ρ hd ⟨rows,f2,x5,x6,hr,rfl⟩
   obtain⟨pr,bu,rfl⟩:=eO hd
   have hml:=(aP.mp bu).1
   obtain⟨a0,a1,a2,a3⟩:=g3 pr (br bu)
   have hkeys:rows.map (·.1)=dO:=by
    have:=congrArg (List.map (·.1)) hr
    rw[dw,dw] at this
    have e1:((fun(x:Int×List PyData)=>x.1)∘fun(r:fU)=>(r.1,r.2.2))=fun(r:fU)=>r.1:=rfl
    have e2:((fun(x:Int×List PyData)=>x.1)∘jb p cs i (prs.take m))=id:=rfl
    rw[e1,e2,BQ] at this
    exact this
   have Y6:∀r∈rows,r.2.2.length<10000:=fun r hr'=>by
    have hm:(r.1,r.2.2)∈rows.map fun r=>(r.1,r.2.2):=jO (f:=fun r:fU=>(r.1,r.2.2)) hr'
    rw[hr] at hm
    obtain⟨pl,_,e⟩:=cI.mp hm
    have:r.2.2=(jb p cs i (prs.take m) pl).2:=by rw[e]
    rw[this]
    unfold jb
    rw[aj,bz]
    have h1:=ql (p:=p) (cs:=cs) (pl:=pl) i
    have h2:∀o,(ko p i o).length<=1:=fun o=>by cases o<;>simp[ko]
    have:=h2 (cK (prs.take m) pl)
    omega
   have hnew:pr.1∉(prs.take m).map (·.1):=fun z=>by
    rw[tE] at z
    obtain⟨j,hj⟩:=gm z
    have Xk:j<m:=by have:=(aP.mp hj).1;rw[iX] at this;omega
    rw[qd Xk] at hj
    obtain⟨l1,e1⟩:=aP.mp hj
    have l2:m<(prs.map (·.1)).length:=by rw[aj];exact hml
    have:=(tH (h₀:=l1) (h₁:=l2) g1).mp (by rw[e1,sX,(aP.mp bu).2])
    omega
   have hts:=take_snoc bu
   walk_at "dt"
   refine Ev.Sz rfl ?_
   walk_at "dt"
   by_cases c:pr.1∈rows.map (·.1)
   ·rw[if_pos (by simp[c])]
    have iA:pr.2%p≠0:=by rw[lu (by omega) (by omega)];omega
    refine Sv.VM rfl ?_
    walk_at "dt"
    refine Ev.inv ?_
    walk_at "dt"
    refine⟨p,pr.2,rfl,hN.hp,gn,iA,fun u u0 u1 hu=>?_⟩
    have eu:u=sol p pr.2 1:=Jm hN.hp iA u0 u1 (by obtain⟨k,hk⟩:=hu;exact⟨k,by rw[tu,hk];omega⟩)
    subst eu
    walk_at "dt"
    refine⟨_,_,_,_,?_,rfl⟩
    rw[hts,Ot hnew,<-hr,SR]
    rfl
   ·rw[if_neg (by simp[c])]
    walk_at "dt"
    refine⟨rows,f2,_,_,?_,rfl⟩
    rw[hts,UG (by rw[<-hkeys];exact c)]
    exact hr
  ·rintro ρ ⟨rows,f2,x5,x6,hr,rfl⟩
   rw[aj,fE] at hr
   refine⟨rows,f2,_,_,_,_,?_,rfl⟩
   rw[hr]
   apply fX
   intro pl _
   unfold jb
   rw[tM c9]
 ·rintro ρ ⟨rows,f2,x3,x4,x5,x6,hr,rfl⟩
  rw[lX] at hr
  refine Sv.W9 2 rfl ?_
  walk_at "dt"
  have e:(rows.map fun r=>(r.1,PyData.list r.2.2))=dO.map fun pl=>(pl,PyData.list ((eV p cs pl cs.length).map pairD)):=by
   have:=congrArg (List.map fun q:Int×List PyData=>(q.1,PyData.list q.2)) hr
   rw[dw,dw] at this
   exact this
  rw[e]
  exact q _
def sE:DF:=fun ds Φ=>∃(p n:Int) (cs:List aq),ds=[cL p n cs]/\iB p n cs/\∀f,Φ f (.dict ((ki p cs n.toNat).map bI))
theorem AG:cU sE:=by
 intro ds Φ Ψ hm z
 obtain⟨p,n,cs,e,h1,q⟩:=hm
 exact⟨p,n,cs,e,h1,fun f=>z _ _ (q f)⟩
theorem MC:cz ["net"] ["net"] (aR DV):=⟨rfl,rfl,rfl,by decide+kernel,rfl,by decide+kernel,by decide+kernel⟩
theorem QM(F:bQ K "all_voices" "all_voices" DV f fd)(O7:Callee P w K mg base "voices" 2 ["net","places"] (aS 2 A0))(bU:mg "list"=none)(bf:mg "range"=none):
  bE P w K mg base bO 3 f fd ["net"] (aS 1 sE):=by
 refine F.ok MC (fun vs H Q E h=>h.1) (fun cdv A outer s H vs Q E hr h=>?_)
 obtain⟨nb,ds,Φ,hlive,hds,aD,hF⟩:=fM h
 obtain⟨p,n,cs,rfl,hN,q⟩:=hF
 refine⟨_,(@az _ _ _ (@aZ _ _ _ _ (@aK _ _ _ _ _ _ _ _ _ _ O7 (hr.mono (by decide)) (@aa _ _ _ _ _ (pv 0) (@aa _ _ _ _ _ (@gH _ _ _ _ _ _ _ _ _ (BW rfl) rfl bU iS (@aa _ _ _ _ _ (@gH _ _ _ _ _ _ _ _ _ B7 rfl bf yJ (@aa _ _ _ _ _ (@aG _ _ _ _ _ _ (c5 K) dG (pv 0) ao (fun _ _=>rfl)) af rfl) (by decide) (by decide) (by rfl) (by rfl)) af rfl) (by decide) (by decide) (by rfl) (by rfl)) af rfl) rfl) (by rfl) (by decide) (by rfl) (by rfl)))),?_⟩
 refine Sv.fP hlive hds aD (ρ:=[.d false _]) rfl ?_
 clear aD hds
 have n0:=hN.n0
 have n1:=hN.n1
 walk_at "dt"
 refine Ev.bH VO ?_
 walk_at "dt"
 refine aC.ev (aC.AW ?_)
 walk_at "dt"
 refine⟨rfl,p,n,cs,(List.range n.toNat).map fun(i:Nat)=>(i:Int),?_,hN,?_,by rw[aj,iH];omega,fun f=>q _⟩
 ·show[_,PyData.list _]=[_,PyData.list _]
  have:((List.range n.toNat).map fun(i:Nat)=>(0:Int)+i)=(List.range n.toNat).map fun(i:Nat)=>(i:Int):=fX fun i _=>by omega
  rw[this]
 exact Aq.map _ fun a b h z=>h (by omega)
def vG:DF:=fun ds Φ=>∃(p letter:Int) (vs:List (Int×Int)) (ss:List Int),ds=[.int p, .list (vs.map pairD), .list (ss.map .int), .int letter]/\0<p/\p<10^40/\vs.length<=1000/\(∀q∈vs,0<=q.1/\q.1<ss.length/\0<=q.2/\q.2<p)/\(∀s∈ss,0<=s/\s<p)/\
 ∀ks,k9 (vs.map fun q=>(letter-ss.getD q.1.toNat 0*q.2)%p) ks->ks.length<=vs.length->Φ true (.dict (ks.map bI))
theorem Le:cU vG:=by
 intro ds Φ Ψ hm z
 obtain⟨p,l,vs,ss,e,h1,h2,h3,h4,h5,q⟩:=hm
 exact⟨p,l,vs,ss,e,h1,h2,h3,h4,h5,fun ks a b=>z _ _ (q ks a b)⟩
theorem qO:cz ["p","there","reached","letter","counts","c","inverted","voted_for"] ["p","there","reached","letter"] (aR Bv):=⟨rfl,rfl,rfl,by decide+kernel,rfl,by decide+kernel,by decide+kernel⟩
theorem UI(F:bQ K "counts_of" "counts_of" Bv f fd):
  bE P w K mg base bO 1 f fd ["p","there","reached","letter"] (aS 4 vG):=by
 refine F.ok qO (fun vs H Q E h=>h.1) (fun cdv A outer s H vs Q E hr h=>?_)
 obtain⟨nb,ds,Φ,hlive,hds,aD,hF⟩:=fM h
 obtain⟨p,letter,vs,ss,rfl,p0,gn,hvl,hvs,hss,q⟩:=hF
 refine⟨_,(@ak _ _ _ _ _ (@aE _ _ (4) _ _ _ _ qO.nd rfl (Or.inl rfl) Hr (by rfl) (by first|exact .inl rfl|exact .inr rfl|assumption)) (@ak _ _ _ _ _ (@dU _ _ _ _ _ _ _ _ c7 rfl (@eB _ _ _ _ (pv 1)) (@iu _ (K) _ _ _ (2) _ rfl rfl (@bV _ _ _ _ _ (aH (i:=5) qO.nd rfl (Or.inl rfl)) (@bV _ _ _ _ _ (aH (i:=6) qO.nd rfl (Or.inl rfl)) gM (by rfl)) (by rfl)) (by rfl) (by rfl)) (@ak _ _ _ _ _ (@aE _ _ (7) _ _ _ _ qO.nd rfl (Or.inl rfl) (@aF _ _ _ _ _ _ _ _ iC (@aF _ _ _ _ _ _ _ _ kB (pv 3) (@aF _ _ _ _ _ _ _ _ gf (@aG _ _ _ _ _ _ (cF K) bD (pv 2) (pv 5) (fun _ _=>rfl)) (pv 6))) (pv 0)) (by rfl) (by first|exact .inl rfl|exact .inr rfl|assumption)) (@az _ _ _ (@gK _ _ _ _ _ _ (@aF _ _ _ _ _ _ _ _ dB (iU uy t9 yZ BH (pv 4) (@aa _ _ _ _ _ (pv 7) (@aa _ _ _ _ _ ao af rfl) rfl)) ao) (jq (pv 4) (pv 7) set_dict) (by rfl) (by rfl) (by rfl)))) (by intro _;rfl)) (@az _ _ _ (@aZ _ _ _ _ (pv 4))))),?_⟩
 refine Sv.fP hlive hds aD (ρ:=[.d false _, .d false _, .d false _, .d false _, .no, .no, .no, .no]) rfl ?_
 clear aD hds
 have RH:(vs.map pairD).length=vs.length:=aj ..
 refine Sv.seq ?_
 refine Sv.VV (vf.new ?_)
 intro A4
 refine Sv.seq ?_
 refine Sv.forL ?_
 refine Ev.var rfl ?_
 refine⟨_,rfl,fun v=>⟨fun i ρ=>∃(ks:Ks) (x5 x6 x7:Sl),k9 ((vs.take i).map fun q=>(letter-ss.getD q.1.toNat 0*q.2)%p) ks/\ks.length<=i/\ρ=[.d false (.int p), .d false (.list (vs.map pairD)), .d false (.list (ss.map .int)), .d false (.int letter), .bZ A4 true ks,x5,x6,x7],⟨[],_,_,_,k9.nil,aJ _,rfl⟩,?_,?_⟩⟩
 ·rintro i d ρ hd ⟨ks,x5,x6,x7,hK,gR,rfl⟩
  obtain⟨qq,hq,rfl⟩:=eO hd
  have hil:=(aP.mp hq).1
  obtain⟨a0,a1,a2,a3⟩:=hvs qq (br hq)
  have hsl:qq.1.toNat<ss.length:=by omega
  have hat:bN (ss.map PyData.int) qq.1=some (.int (ss.getD qq.1.toNat 0)):=fT a0 (by rw[aL,aB hsl,bG,aB hsl];rfl)
  obtain⟨b0,b1⟩:0<=ss.getD qq.1.toNat 0/\ss.getD qq.1.toNat 0<p:=by
   rw[bG,aB hsl]
   exact hss _ (ig hsl)
  have s1:Sm (ss.getD qq.1.toNat 0):=by unfold Sm;omega
  have s2:Sm qq.2:=by unfold Sm;omega
  generalize gu:(gZ _ (oH (cQ 4) _ uW):TS)=tl
  walk_at "dt"
  subst gu
  refine Sv.RL rfl ?_
  walk_at "dt"
  refine Ev.XT rfl ?_
  walk_at "dt"
  rw[hK.get]
  walk_at "dt"
  refine⟨_,_,_,_,?_,?_,rfl⟩
  ·rw[take_snoc hq,cZ]
   exact hK.put _
  ·have:=VQ ks ((letter-ss.getD qq.1.toNat 0*qq.2)%p) (.int (((List.map (fun q=>(letter-ss.getD q.1.toNat 0*q.2)%p) (List.take i vs)).count ((letter-ss.getD qq.1.toNat 0*qq.2)%p):Int)+1))
   omega
 ·rintro ρ ⟨ks,x5,x6,x7,hK,gR,rfl⟩
  rw[RH] at hK gR
  rw[fE] at hK
  refine Sv.Ma 4 rfl ?_
  walk_at "dt"
  exact q ks hK gR
def vJ:DF:=fun ds Φ=>∃(p n:Int) (cs:List aq) (ws:List Int),ds=[.int p, .dict ((ki p cs n.toNat).map bI), .list ((eT p cs ws).map .int),aI ws]/\iB p n cs/\ws.length=n.toNat/\(∀x∈ws,0<=x/\x<p)/\Φ true (.list ((bL p cs ws n.toNat).map cJ))
theorem IU:cU vJ:=by
 intro ds Φ Ψ hm z
 obtain⟨p,n,cs,ws,e,h1,h2,h3,q⟩:=hm
 exact⟨p,n,cs,ws,e,h1,h2,h3,z _ _ q⟩
theorem qb:cz ["p","found","reached","word","turns","place","old","counts","new"] ["p","found","reached","word"] (aR DC):=⟨rfl,rfl,rfl,by decide+kernel,rfl,by decide+kernel,by decide+kernel⟩
theorem LI(F:bQ K "turns_of" "turns_of" DC f fd)(D0:Callee P w K mg base "counts_of" 1 ["p","there","reached","letter"] (aS 4 vG))(mw:mg "enumerate"=none)(bW:mg "len"=none):
  bE P w K mg base bO 2 f fd ["p","found","reached","word"] (aS 4 vJ):=by
 refine F.ok qb (fun vs H Q E h=>h.1) (fun cdv A outer s H vs Q E hr h=>?_)
 obtain⟨nb,ds,Φ,hlive,hds,aD,hF⟩:=fM h
 obtain⟨p,n,cs,ws,rfl,hN,hwl,hws,q⟩:=hF
 refine⟨_,(@ak _ _ _ _ _ (@aE _ _ (4) _ _ _ _ qb.nd rfl (Or.inl rfl) (@eG _ _ _ _ af) (by rfl) (by first|exact .inl rfl|exact .inr rfl|assumption)) (@ak _ _ _ _ _ (@dU _ _ _ _ _ _ _ _ c7 rfl (@Bf _ (K) _ _ _ _ _ _ _ rfl rfl mw (pv 3) (by rfl)) (@iu _ (K) _ _ _ (2) _ rfl rfl (@bV _ _ _ _ _ (aH (i:=5) qb.nd rfl (Or.inl rfl)) (@bV _ _ _ _ _ (aH (i:=6) qb.nd rfl (Or.inl rfl)) gM (by rfl)) (by rfl)) (by rfl) (by rfl)) (@ak _ _ _ _ _ (@aE _ _ (7) _ _ _ _ qb.nd rfl (Or.inl rfl) (@aK _ _ _ _ _ _ _ _ _ _ D0 (hr.mono (by decide)) (@aa _ _ _ _ _ (pv 0) (@aa _ _ _ _ _ (@aG _ _ _ _ _ _ (jQ) m5 (pv 1) (pv 5) (fun _ _=>rfl)) (@aa _ _ _ _ _ (pv 2) (@aa _ _ _ _ _ (pv 6) af rfl) rfl) rfl) rfl) (by rfl) (by decide) (by rfl) (by rfl)) (by rfl) (by first|exact .inl rfl|exact .inr rfl|assumption)) (@az _ _ _ (@RD _ _ _ (@dU _ _ _ _ _ _ _ _ c7 rfl (@Uj _ _ _ _ (pv 7)) (aH (i:=8) qb.nd rfl (Or.inl rfl)) (@az _ _ _ (@cN _ _ _ _ _ _ _ _ (PW.pt (qz (@bB _ _ _ _ _ _ _ _ jV (pv 8) (pv 6) (bw _)) (pI (@bB _ _ _ _ _ _ _ _ pY (@aF _ _ _ _ _ _ _ _ gf ao (@aG _ _ _ _ _ _ (jQ) m5 (pv 7) (pv 8) (fun _ _=>rfl))) (@cH _ _ _ _ _ _ _ _ (gp K) iP rfl bW ir (@aa _ _ _ _ _ (@aG _ _ _ _ _ _ (jQ) m5 (pv 1) (pv 5) (fun _ _=>rfl)) af rfl) (by decide) (by decide) (by rfl) (by rfl)) (bw _))))) (@az _ _ _ (@kO _ _ _ _ (iU jU kN k6 kG (pv 4) (@aa _ _ _ _ _ (@bF _ _ _ _ _ (@aa _ _ _ _ _ (pv 5) (@aa _ _ _ _ _ (pv 6) (@aa _ _ _ _ _ (pv 8) af rfl) rfl) rfl)) af rfl)) (by rfl))) dj)) (by intro _;rfl))))) (by intro _;rfl)) (@az _ _ _ (@aZ _ _ _ _ (pv 4))))),?_⟩
 refine Sv.fP hlive hds aD (ρ:=[.d false _, .d false _, .d false _, .d false _, .no, .no, .no, .no, .no]) rfl ?_
 clear aD hds
 have p2:=hN.hp.1
 have gn:=hN.gn
 have n0:=hN.n0
 have n1:=hN.n1
 have hcl:=hN.cl
 have lG:(ws.map PyData.int).length=ws.length:=aj ..
 have hsl:(eT p cs ws).length=cs.length:=by unfold eT;exact aj ..
 have tD:∀s∈eT p cs ws,0<=s/\s<p:=fun s hs=>by
  unfold eT at hs
  obtain⟨prs,_,rfl⟩:=cI.mp hs
  exact⟨eS _ (by omega),eF _ (by omega)⟩
 walk_at "dt"
 intro A4
 refine Sv.seq ?_
 refine Sv.BR ?_
 walk_at "dt"
 refine fun v=>⟨fun i ρ=>∃(x5 x6 x7 x8:Sl),ρ=[.d false (.int p), .d false (.dict ((ki p cs n.toNat).map bI)), .d false (.list ((eT p cs ws).map .int)), .d false (aI ws), .own A4 true ((bL p cs ws i).map cJ),x5,x6,x7,x8],⟨_,_,_,_,rfl⟩,?_,?_⟩
 ·rintro i d ρ ⟨e,he,rfl⟩ ⟨x5,x6,x7,x8,rfl⟩
  obtain⟨old,hold,rfl⟩:=eO he
  have hil:=(aP.mp hold).1
  have hin:i<n.toNat:=by omega
  have hval:=JR (p:=p) (cs:=cs) hin
  have hog:ws.getD i 0=old:=by rw[bG,hold];rfl
  have hvl:=ql (p:=p) (cs:=cs) (pl:=(i:Int)) cs.length
  have gu:=sL (p:=p) (cs:=cs) (ws:=ws) i
  have eL:(eV p cs (i:Int) cs.length).map (fun q=>(old-(eT p cs ws).getD q.1.toNat 0*q.2)%p)=bM p cs ws (i:Int):=by
   unfold bM
   apply fX
   intro qq hq
   obtain⟨c,prs,ff,e1,e2,e3,rfl⟩:=qI (aJ _) hq
   dsimp only
   rw[eX,eX,JG c e2,hog]
  have Ll:(eV p cs (i:Int) cs.length).length=(bM p cs ws (i:Int)).length:=by unfold bM;rw[aj]
  walk_at "dt"
  refine Ev.bH Le ?_
  walk_at "dt"
  refine Ev.n6 ?_
  walk_at "dt"
  refine⟨_,rfl,?_⟩
  walk_at "dt"
  refine⟨_,hval,?_⟩
  walk_at "dt"
  refine⟨rfl,p,old,eV p cs (i:Int) cs.length,eT p cs ws,rfl,by omega,gn,by omega,fun qq hq=>?_,tD,fun ks hK gR=>?_⟩
  ·obtain⟨c,prs,ff,e1,e2,e3,rfl⟩:=qI (aJ _) hq
   have hr:=vm (p:=p) (b:=ff) (a:=1) (by omega)
   exact⟨by show(0:Int)<=c;omega,by show(c:Int)<_;omega,hr.1,hr.2⟩
  rw[eL] at hK
  obtain⟨ms,nd,hm,rfl⟩:=id hK
  rw[aj] at gR
  obtain⟨VL,lY⟩:∃VL,bM p cs ws (i:Int)=VL:=⟨_,rfl⟩
  rw[lY] at hm Ll hK
  have FF:∀x∈VL,0<=x/\x<p:=by rw[<-lY];exact wj (by omega)
  simp only[lY]
  refine Gv.name ?_
  refine Sv.Xo ?_
  walk_at "dt"
  refine⟨_,rfl,fun G' v=>?_⟩
  have Rj:(ms.map fun c=>(c,PyData.int (VL.count c))).length=ms.length:=aj ..
  refine⟨fun j ρ=>∃(x8:Sl),ρ=[.d false (.int p), .d false (.dict ((ki p cs n.toNat).map bI)), .d false (.list ((eT p cs ws).map .int)), .d false (aI ws), .own A4 true ((bL p cs ws i++((ms.take j).filter (cy VL old)).map fun x=>((i:Int),old,x)).map cJ), .d true (.int i), .d true (.int old), .d true (.dict ((ms.map fun c=>(c,PyData.int (VL.count c))).map bI)),x8],?_,?_,?_⟩
  ·refine⟨x8,?_⟩
   rw[sS,qB,iT,eN]
   rfl
  ·rintro j d ρ ⟨kv,hkv,rfl⟩ ⟨x8,rfl⟩
   rw[aL] at hkv
   obtain⟨x,hx,rfl⟩:=jt.mp hkv
   have kT:=br hx
   have hjl:=(aP.mp hx).1
   have ZN:VL.count x<=VL.length:=List.count_le_length
   have s1:Sm (VL.count x:Int):=by unfold Sm;omega
   have s2:Sm 2:=by unfold Sm;omega
   have ZY:(bL p cs ws i++((ms.take j).filter (cy VL old)).map fun x=>((i:Int),old,x)).length<9999:=by
    rw[bz,aj]
    have:=zz (cy VL old) (ms.take j)
    rw[iX] at this
    omega
   have hts:=take_snoc hx
   refine Gv.iN ?_
   walk_at "dt"
   by_cases c1:x=old
   ·rw[if_neg (by simp[c1])]
    walk_at "dt"
    refine⟨.d true (.int x),?_⟩
    rw[hts,kI,show[x].filter (cy VL old)=[] by simp[cy,c1],eN]
    rfl
   ·rw[if_pos (by simp[c1])]
    walk_at "dt"
    refine Ev.n6 ?_
    walk_at "dt"
    refine⟨_,rfl,?_⟩
    walk_at "dt"
    refine⟨_,by rw[sj,if_pos kT],?_⟩
    walk_at "dt"
    refine Ev.n6 ?_
    walk_at "dt"
    refine⟨_,rfl,?_⟩
    walk_at "dt"
    refine⟨_,hval,?_⟩
    walk_at "dt"
    have Mp:((eV p cs (i:Int) cs.length).map pairD).length=VL.length:=by rw[aj,Ll]
    rw[Mp]
    by_cases c2:VL.length<2*VL.count x
    ·rw[if_pos (by simp;omega)]
     walk_at "dt"
     refine⟨by rw[aj];omega,?_⟩
     refine⟨.d true (.int x),?_⟩
     have heq:(bL p cs ws i++((ms.take (j+1)).filter (cy VL old)).map fun x=>((i:Int),old,x)).map cJ=(bL p cs ws i++((ms.take j).filter (cy VL old)).map fun x=>((i:Int),old,x)).map cJ++[cJ ((i:Int),old,x)]:=by
      rw[hts,kI,show[x].filter (cy VL old)=[x] by simp[cy,c1,c2]]
      simp
     rw[heq]
     rfl
    ·rw[if_neg (by simp;omega)]
     walk_at "dt"
     refine⟨.d true (.int x),?_⟩
     rw[hts,kI,show[x].filter (cy VL old)=[] by simp[cy,c2],eN]
     rfl
  ·rintro ρ ⟨x8,rfl⟩
   rw[Rj,fE,GO nd hm]
   have hs:bL p cs ws (i+1)=bL p cs ws i++(ji VL old).map fun x=>((i:Int),old,x):=by
    rw[t7]
    unfold lH
    rw[lY,hog]
   rw[<-hs]
   exact⟨_,_,_,_,rfl⟩
 ·rintro ρ ⟨x5,x6,x7,x8,rfl⟩
  rw[lG,hwl]
  walk_at "dt"
  exact q
def tZ:DF:=fun ds Φ=>∃(ws:List Int) (ts:List (Int×Int×Int)),ds=[aI ws, .list (ts.map cJ)]/\ws.length<=9000/\(∀t∈ts,0<=t.1/\t.1<ws.length)/\Φ true (aI (dS ws ts))
theorem Ia:cU tZ:=by
 intro ds Φ Ψ hm z
 obtain⟨ws,ts,e,h1,h2,q⟩:=hm
 exact⟨ws,ts,e,h1,h2,z _ _ q⟩
theorem sC:cz ["word","turns","told","place","old","new"] ["word","turns"] (aR Dk):=⟨rfl,rfl,rfl,by decide+kernel,rfl,by decide+kernel,by decide+kernel⟩
theorem T4(F:bQ K "with_turns" "with_turns" Dk f fd)(bU:mg "list"=none):
  bE P w K mg base bO 1 f fd ["word","turns"] (aS 2 tZ):=by
 refine F.ok sC (fun vs H Q E h=>h.1) (fun cdv A outer s H vs Q E hr h=>?_)
 obtain⟨nb,ds,Φ,hlive,hds,aD,hF⟩:=fM h
 obtain⟨ws,ts,rfl,hwl,hts,q⟩:=hF
 refine⟨_,(@ak _ _ _ _ _ (@aE _ _ (2) _ _ _ _ sC.nd rfl (Or.inl rfl) (@gH _ _ _ _ _ _ _ _ (jN K) l9 rfl bU iS (@aa _ _ _ _ _ (pv 0) af rfl) (by decide) (by decide) (by rfl) (by rfl)) (by rfl) (by first|exact .inl rfl|exact .inr rfl|assumption)) (@ak _ _ _ _ _ (@dU _ _ _ _ _ _ _ _ c7 rfl (@eB _ _ _ _ (pv 1)) (@iu _ (K) _ _ _ (3) _ rfl rfl (@bV _ _ _ _ _ (aH (i:=3) sC.nd rfl (Or.inl rfl)) (@bV _ _ _ _ _ (aH (i:=4) sC.nd rfl (Or.inl rfl)) (@bV _ _ _ _ _ (aH (i:=5) sC.nd rfl (Or.inl rfl)) gM (by rfl)) (by rfl)) (by rfl)) (by rfl) (by rfl)) (@az _ _ _ (@gK _ _ _ _ _ _ (pv 5) (jq (pv 2) (pv 3) set_list) (by rfl) (by rfl) (by rfl))) (by intro _;rfl)) (@az _ _ _ (@aZ _ _ _ _ (pv 2))))),?_⟩
 refine Sv.fP hlive hds aD (ρ:=[.d false _, .d false _, .no, .no, .no, .no]) rfl ?_
 clear aD hds
 refine Sv.seq ?_
 refine Sv.o9 (aC.listOf ?_)
 walk_at "dt"
 intro A2
 rw[uA,tB]
 refine Sv.seq ?_
 refine Sv.forL ?_
 walk_at "dt"
 refine fun v=>⟨fun i ρ=>∃(x3 x4 x5:Sl),ρ=[.d false (aI ws), .d false (.list (ts.map cJ)), .own A2 true ((dS ws (ts.take i)).map .int),x3,x4,x5],⟨_,_,_,rfl⟩,?_,?_⟩
 ·rintro i d ρ hd ⟨x3,x4,x5,rfl⟩
  obtain⟨t,ht,rfl⟩:=eO hd
  obtain⟨t0,t1⟩:=hts t (br ht)
  have hl:=oj ws (ts.take i)
  have hix:fy ((dS ws (ts.take i)).map PyData.int).length t.1=some t.1.toNat:=by
   unfold fy
   rw[aj]
   repeat (first|rw[if_pos (by omega)]|rw[if_neg (by omega)])
  walk_at "dt"
  refine⟨_,_,rfl,hix,?_⟩
  rw[<-rH,<-Dc,<-take_snoc ht]
  exact⟨_,_,_,rfl⟩
 ·rintro ρ ⟨x3,x4,x5,rfl⟩
  rw[aj,fE]
  walk_at "dt"
  exact q
def vH:DF:=fun ds Φ=>∃(p n:Int) (cs:List aq) (ws:List Int),ds=[cL p n cs,aI ws]/\iB p n cs/\ws.length=n.toNat/\(∀x∈ws,0<=x/\x<p)/\Φ true (.tuple [aI (dS ws (bL p cs ws n.toNat)), .list ((bL p cs ws n.toNat).map cJ)])
theorem FN:cU vH:=by
 intro ds Φ Ψ hm z
 obtain⟨p,n,cs,ws,e,h1,h2,h3,q⟩:=hm
 exact⟨p,n,cs,ws,e,h1,h2,h3,z _ _ q⟩
theorem Ku:cz ["net","word","turns"] ["net","word"] (aR C0):=⟨rfl,rfl,rfl,by decide+kernel,rfl,by decide+kernel,by decide+kernel⟩
theorem Wc(F:bQ K "turned" "turned" C0 f fd)(De:Callee P w K mg base "turns_of" 2 ["p","found","reached","word"] (aS 4 vJ))(rC:Callee P w K mg base "all_voices" 3 ["net"] (aS 1 sE))(sM:Callee P w K mg base "sums" 3 ["net","word"] (aS 2 rQ))(Eg:Callee P w K mg base "with_turns" 1 ["word","turns"] (aS 2 tZ)):
  bE P w K mg base bO 4 f fd ["net","word"] (aS 2 vH):=by
 refine F.ok Ku (fun vs H Q E h=>h.1) (fun cdv A outer s H vs Q E hr h=>?_)
 obtain⟨nb,ds,Φ,hlive,hds,aD,hF⟩:=fM h
 obtain⟨p,n,cs,ws,rfl,hN,hwl,hws,q⟩:=hF
 refine⟨_,(@ak _ _ _ _ _ (@aE _ _ (2) _ _ _ _ Ku.nd rfl (Or.inl rfl) (@aK _ _ _ _ _ _ _ _ _ _ De (hr.mono (by decide)) (@aa _ _ _ _ _ (@aG _ _ _ _ _ _ (c5 K) dG (pv 0) ao (fun _ _=>rfl)) (@aa _ _ _ _ _ (@aK _ _ _ _ _ _ _ _ _ _ rC (hr.mono (by decide)) (@aa _ _ _ _ _ (pv 0) af rfl) (by rfl) (by decide) (by rfl) (by rfl)) (@aa _ _ _ _ _ (@aK _ _ _ _ _ _ _ _ _ _ sM (hr.mono (by decide)) (@aa _ _ _ _ _ (pv 0) (@aa _ _ _ _ _ (pv 1) af rfl) rfl) (by rfl) (by decide) (by rfl) (by rfl)) (@aa _ _ _ _ _ (pv 1) af rfl) rfl) rfl) rfl) (by rfl) (by decide) (by rfl) (by rfl)) (by rfl) (by first|exact .inl rfl|exact .inr rfl|assumption)) (@az _ _ _ (@aZ _ _ _ _ (@bF _ _ _ _ _ (@aa _ _ _ _ _ (@aK _ _ _ _ _ _ _ _ _ _ Eg (hr.mono (by decide)) (@aa _ _ _ _ _ (pv 1) (@aa _ _ _ _ _ (pv 2) af rfl) rfl) (by rfl) (by decide) (by rfl) (by rfl)) (@aa _ _ _ _ _ (pv 2) af rfl) rfl))))),?_⟩
 refine Sv.fP hlive hds aD (ρ:=[.d false _, .d false _, .no]) rfl ?_
 clear aD hds
 have p2:=hN.hp.1
 have gn:=hN.gn
 have n0:=hN.n0
 have n1:=hN.n1
 have hcl:=hN.cl
 have j3:aI ws=kc (ws.map some):=by show PyData.list _=PyData.list _;rw[dw];rfl
 have oV:∀prs∈cs,ou prs (ws.map some).length:=fun prs c9 pr bu=>by
  obtain⟨_,_,g⟩:=hN.ok prs c9
  obtain⟨a0,a1,a2,a3⟩:=g pr bu
  exact⟨a0,by rw[aj];omega,by unfold Sm;omega⟩
 have kh:lz (ws.map some):=fun x hx=>by
  obtain⟨y,hy,e⟩:=cI.mp hx
  cases e
  obtain⟨a0,a1⟩:=hws x hy
  unfold Sm;omega
 walk_at "dt"
 refine Ev.bH IU ?_
 walk_at "dt"
 refine Ev.bH AG ?_
 walk_at "dt"
 refine⟨rfl,p,n,cs,rfl,hN,fun f0=>?_⟩
 walk_at "dt"
 refine Ev.bH D8 ?_
 walk_at "dt"
 refine⟨rfl,p,n,cs,ws.map some,by show[_,_]=_;rw[j3],by omega,by omega,oV,kh,?_⟩
 rw[Bo]
 walk_at "dt"
 refine⟨rfl,p,n,cs,ws,rfl,hN,hwl,hws,?_⟩
 refine Gv.name ?_
 walk_at "dt"
 refine Ev.bH Ia ?_
 walk_at "dt"
 refine⟨rfl,ws,_,rfl,by omega,fun t ht=>?_,?_⟩
 ·obtain⟨i,hi,e1,_⟩:=vO ht
  omega
 walk_at "dt"
 exact q
def tT:DF:=fun ds Φ=>∃(ss:List Int),ds=[.list (ss.map .int)]/\ss.length<=9000/\Φ true (.int (ss.countP fun s=>decide (s≠0):Nat))
theorem EO:cU tT:=by
 intro ds Φ Ψ hm z
 obtain⟨ss,e,h1,q⟩:=hm
 exact⟨ss,e,h1,z _ _ q⟩
theorem Qn:cz ["reached"] ["reached"] (aR wV):=⟨rfl,rfl,rfl,by decide+kernel,rfl,by decide+kernel,by decide+kernel⟩
theorem Xb(F:bQ K "broken_of" "broken_of" wV f fd)(bW:mg "len"=none):
  bE P w K mg base bO 1 f fd ["reached"] (aS 1 tT):=by
 refine F.ok Qn (fun vs H Q E h=>h.1) (fun cdv A outer s H vs Q E hr h=>?_)
 obtain⟨nb,ds,Φ,hlive,hds,aD,hF⟩:=fM h
 obtain⟨ss,rfl,hl,q⟩:=hF
 refine⟨_,(@az _ _ _ (@aZ _ _ _ _ (@cH _ _ _ _ _ _ _ _ (gp K) iP rfl bW ir (@aa _ _ _ _ _ (iD (cP.of (show eU (aR wV) ["reached"] _ ["number"] [none]=true by decide+kernel)) (@eB _ _ _ _ (pv 0)) (fun _ _ _ _=>⟨(aH (i:=0) (by show List.Nodup (["number"]:List Str);decide+kernel) rfl (Or.inl rfl)),(mL (@bB _ _ _ _ _ _ _ _ jV (pv 0) ao (bw _))),(pv 0)⟩)) af rfl) (by decide) (by decide) (by rfl) (by rfl)))),?_⟩
 refine Sv.fP hlive hds aD (ρ:=[.d false _]) rfl ?_
 clear aD hds
 walk_at "dt"
 refine aC.ev (aC.jM (by decide) rfl ?_)
 walk_at "dt"
 refine⟨by rw[aj];omega,fun v=>⟨false,fun i ds=>ds.length=(ss.take i).countP fun s=>decide (s≠0),rfl,?_,?_⟩⟩
 ·rintro i d ds hd hl' hds
  obtain⟨s,hs,rfl⟩:=eO hd
  have hts:=take_snoc hs
  walk_at "dt"
  refine⟨by walk_at "wk",?_⟩
  walk_at "dt"
  by_cases c:s=0
  ·rw[if_neg (by simp[c])]
   show ds.length=(ss.take (i+1)).countP _
   rw[hds,hts,qC,p8,if_neg (by simp[c])]
   rfl
  ·rw[if_pos (by simp[c])]
   walk_at "dt"
   show(ds++[_]).length=(ss.take (i+1)).countP _
   rw[bz,fW,hds,hts,qC,p8,if_pos (by simp[c])]
 ·rintro ds hl' hds
  rw[aj,fE] at hds
  refine⟨ds, .inl rfl,?_⟩
  rw[hds]
  walk_at "dt"
  exact q
def vP:DF:=fun ds Φ=>∃(p n:Int) (cs:List aq) (ws:List Int) (m:Nat),ds=[cL p n cs,aI ws, .int m]/\iB p n cs/\m<=5000/\ws.length=n.toNat/\(∀x∈ws,0<=x/\x<p)/\Φ true (p9 (c8 p cs n.toNat m ws))
theorem Lf:cU vP:=by
 intro ds Φ Ψ hm z
 obtain⟨p,n,cs,ws,m,e,h1,h2,h3,h4,q⟩:=hm
 exact⟨p,n,cs,ws,m,e,h1,h2,h3,h4,z _ _ q⟩
theorem oZ:cz ["net","word","most","found","told","rounds","reached","turns"] ["net","word","most"] (aR yd):=⟨rfl,rfl,rfl,by decide+kernel,rfl,by decide+kernel,by decide+kernel⟩
theorem Xi(F:bQ K "voted" "voted" yd f fd)(rC:Callee P w K mg base "all_voices" 3 ["net"] (aS 1 sE))(sM:Callee P w K mg base "sums" 3 ["net","word"] (aS 2 rQ))(De:Callee P w K mg base "turns_of" 2 ["p","found","reached","word"] (aS 4 vJ))(Eg:Callee P w K mg base "with_turns" 1 ["word","turns"] (aS 2 tZ))(CK:Callee P w K mg base "broken_of" 1 ["reached"] (aS 1 tT))(bU:mg "list"=none)(bW:mg "len"=none):
  bE P w K mg base bO 4 f fd ["net","word","most"] (aS 3 vP):=by
 refine F.ok oZ (fun vs H Q E h=>h.1) (fun cdv A outer s H vs Q E hr h=>?_)
 obtain⟨nb,ds,Φ,hlive,hds,aD,hF⟩:=fM h
 obtain⟨p,n,cs,ws,m,rfl,hN,hm,hwl,hws,q⟩:=hF
 refine⟨_,(@ak _ _ _ _ _ (@aE _ _ (3) _ _ _ _ oZ.nd rfl (Or.inl rfl) (@aK _ _ _ _ _ _ _ _ _ _ rC (hr.mono (by decide)) (@aa _ _ _ _ _ (pv 0) af rfl) (by rfl) (by decide) (by rfl) (by rfl)) (by rfl) (by first|exact .inl rfl|exact .inr rfl|assumption)) (@ak _ _ _ _ _ (@aE _ _ (4) _ _ _ _ oZ.nd rfl (Or.inl rfl) (@gH _ _ _ _ _ _ _ _ (jN K) l9 rfl bU iS (@aa _ _ _ _ _ (pv 1) af rfl) (by decide) (by decide) (by rfl) (by rfl)) (by rfl) (by first|exact .inl rfl|exact .inr rfl|assumption)) (@ak _ _ _ _ _ (@aE _ _ (5) _ _ _ _ oZ.nd rfl (Or.inl rfl) (@eG _ _ _ _ af) (by rfl) (by first|exact .inl rfl|exact .inr rfl|assumption)) (@az _ _ _ (@w4 _ _ _ _ _ _ c7 (@nB _ (K) _ _ rfl mE (fun _=>rfl)) (@ak _ _ _ _ _ (@aE _ _ (6) _ _ _ _ oZ.nd rfl (Or.inl rfl) (@aK _ _ _ _ _ _ _ _ _ _ sM (hr.mono (by decide)) (@aa _ _ _ _ _ (pv 0) (@aa _ _ _ _ _ (pv 4) af rfl) rfl) (by rfl) (by decide) (by rfl) (by rfl)) (by rfl) (by first|exact .inl rfl|exact .inr rfl|assumption)) (@ak _ _ _ _ _ (@cN _ _ _ _ _ _ _ _ (@bB _ _ _ _ _ _ _ _ iK (@aK _ _ _ _ _ _ _ _ _ _ CK (hr.mono (by decide)) (@aa _ _ _ _ _ (pv 6) af rfl) (by rfl) (by decide) (by rfl) (by rfl)) ao (bw _)) (@az _ _ _ (@aZ _ _ _ _ (@bF _ _ _ _ _ (@aa _ _ _ _ _ (pv 4) (@aa _ _ _ _ _ (pv 5) (@aa _ _ _ _ _ (@bF _ _ _ _ _ (@aa _ _ _ _ _ kJ af rfl)) af rfl) rfl) rfl)))) dj) (@ak _ _ _ _ _ (@cN _ _ _ _ _ _ _ _ (@bB _ _ _ _ _ _ _ _ V0 (@cH _ _ _ _ _ _ _ _ (gp K) iP rfl bW ir (@aa _ _ _ _ _ (pv 5) af rfl) (by decide) (by decide) (by rfl) (by rfl)) (pv 2) (bw _)) (@az _ _ _ (@aZ _ _ _ _ (@bF _ _ _ _ _ (@aa _ _ _ _ _ (pv 4) (@aa _ _ _ _ _ (pv 5) (@aa _ _ _ _ _ (@bF _ _ _ _ _ (@aa _ _ _ _ _ kJ af rfl)) af rfl) rfl) rfl)))) dj) (@ak _ _ _ _ _ (@aE _ _ (7) _ _ _ _ oZ.nd rfl (Or.inl rfl) (@aK _ _ _ _ _ _ _ _ _ _ De (hr.mono (by decide)) (@aa _ _ _ _ _ (@aG _ _ _ _ _ _ (c5 K) dG (pv 0) ao (fun _ _=>rfl)) (@aa _ _ _ _ _ (pv 3) (@aa _ _ _ _ _ (pv 6) (@aa _ _ _ _ _ (pv 4) af rfl) rfl) rfl) rfl) (by rfl) (by decide) (by rfl) (by rfl)) (by rfl) (by first|exact .inl rfl|exact .inr rfl|assumption)) (@ak _ _ _ _ _ (@cN _ _ _ _ _ _ _ _ (@bB _ _ _ _ _ _ _ _ (mY hr.units) (pv 7) (@eG _ _ _ _ af) (bw _)) (@az _ _ _ (@aZ _ _ _ _ (@bF _ _ _ _ _ (@aa _ _ _ _ _ (pv 4) (@aa _ _ _ _ _ (pv 5) (@aa _ _ _ _ _ (@bF _ _ _ _ _ (@aa _ _ _ _ _ kJ af rfl)) af rfl) rfl) rfl)))) dj) (@ak _ _ _ _ _ (@aE _ _ (4) _ _ _ _ oZ.nd rfl (Or.inl rfl) (@aK _ _ _ _ _ _ _ _ _ _ Eg (hr.mono (by decide)) (@aa _ _ _ _ _ (pv 4) (@aa _ _ _ _ _ (pv 7) af rfl) rfl) (by rfl) (by decide) (by rfl) (by rfl)) (by rfl) (by first|exact .inl rfl|exact .inr rfl|assumption)) (@az _ _ _ (@kO _ _ _ _ (iU jU kN k6 kG (pv 5) (@aa _ _ _ _ _ (pv 7) af rfl)) (by rfl)))))))))))))),?_⟩
 refine Sv.fP hlive hds aD (ρ:=[.d false _, .d false _, .d false _, .no, .no, .no, .no, .no]) rfl ?_
 clear aD hds
 have p2:=hN.hp.1
 have gn:=hN.gn
 have n0:=hN.n0
 have n1:=hN.n1
 have hcl:=hN.cl
 walk_at "dt"
 refine Ev.bH AG ?_
 walk_at "dt"
 refine⟨rfl,p,n,cs,rfl,hN,fun f0=>?_⟩
 refine Gv.mz ?_
 refine Sv.seq ?_
 refine Sv.asg ?_
 generalize yk:(fR 4:TG)=g4
 walk_at "dt"
 subst yk
 rw[uA,tB]
 refine Gv.name ?_
 walk_at "dt"
 intro A5
 obtain⟨wf,hwf⟩:∃wf,(c8 p cs n.toNat m ws).1=wf:=⟨_,rfl⟩
 obtain⟨rf,EY⟩:∃rf,(c8 p cs n.toNat m ws).2.1=rf:=⟨_,rfl⟩
 obtain⟨ef,hef⟩:∃ef,(c8 p cs n.toNat m ws).2.2=ef:=⟨_,rfl⟩
 have q:Φ true (p9 (wf,rf,ef)):=by rw[<-hwf,<-EY,<-hef];exact q
 refine Sv.AA (fun ρ=>∃(w:List Int) (st:List (List jP)) (k:Nat) (x6 x7:Sl),w.length=n.toNat/\(∀x∈w,0<=x/\x<p)/\(c8 p cs n.toNat k w).1=wf/\st++(c8 p cs n.toNat k w).2.1=rf/\(c8 p cs n.toNat k w).2.2=ef/\st.length+k=m/\ρ=[.d false (cL p n cs), .d false (aI ws), .d false (.int m), .d false (.dict ((ki p cs n.toNat).map bI)), .d true (aI w), .own A5 true (st.map pO),x6,x7]) (fun(ρ:Rh)=>match ρ[5]? with|some (Sl.own _ _ ds)=>m-ds.length|_=>0) ⟨ws,[],m,_,_,hwl,hws,hwf,EY,hef,by simp,rfl⟩ ?_
 rintro ρ' ⟨w,st,k,x6,x7,hl,hr,h1,h2,h3,h4,rfl⟩
 have j3:aI w=kc (w.map some):=by show PyData.list _=PyData.list _;rw[dw];rfl
 have oV:∀prs∈cs,ou prs (w.map some).length:=fun prs c9 pr bu=>by
  obtain⟨_,_,g⟩:=hN.ok prs c9
  obtain⟨a0,a1,a2,a3⟩:=g pr bu
  exact⟨a0,by rw[aj];omega,by unfold Sm;omega⟩
 have kh:lz (w.map some):=fun x hx=>by
  obtain⟨y,hy,e⟩:=cI.mp hx
  cases e
  obtain⟨a0,a1⟩:=hr x hy
  unfold Sm;omega
 walk_at "dt"
 refine Ev.bH D8 ?_
 walk_at "dt"
 refine⟨rfl,p,n,cs,w.map some,by show[_,_]=_;rw[j3],by omega,by omega,oV,kh,?_⟩
 rw[Bo]
 walk_at "dt"
 refine Ev.bH EO ?_
 walk_at "dt"
 refine⟨rfl,_,rfl,by unfold eT;rw[aj];omega,?_⟩
 rw[OG]
 walk_at "dt"
 by_cases c1:brk p cs w=0
 ·rw[if_pos (by simpa using c1)]
  rw[qR c1] at h1 h2 h3
  rw[eN] at h2
  dsimp only at h1 h3
  subst h1 h2 h3
  refine Sv.iR 5 rfl ?_
  walk_at "dt"
  exact q
 rw[if_neg (by simpa using c1)]
 walk_at "dt"
 rw[aj]
 by_cases c2:k=0
 ·subst c2
  rw[if_pos (by simp;omega)]
  rw[DK c1] at h1 h2 h3
  rw[eN] at h2
  dsimp only at h1 h3
  subst h1 h2 h3
  refine Sv.iR 5 rfl ?_
  walk_at "dt"
  exact q
 rw[if_neg (by simp;omega)]
 obtain⟨k,rfl⟩:∃k',k=k'+1:=⟨k-1,by omega⟩
 walk_at "dt"
 refine Ev.bH IU ?_
 walk_at "dt"
 refine⟨rfl,p,n,cs,w,rfl,hN,hl,hr,?_⟩
 refine Gv.name ?_
 obtain⟨ts,hts⟩:∃ts,bL p cs w n.toNat=ts:=⟨_,rfl⟩
 rw[hts]
 walk_at "dt"
 refine⟨Ec ts,sy,_,rfl,?_⟩
 rw[iT,DJ]
 by_cases c3:ts=[]
 ·have c4:=hts
  rw[c3] at c4
  rw[CZ c1 c4] at h1 h2 h3
  rw[eN] at h2
  dsimp only at h1 h3
  subst h1 h2 h3
  subst c3
  rw[if_pos (by simp)]
  refine Sv.iR 5 rfl ?_
  walk_at "dt"
  exact q
 rw[if_neg (by simpa using c3)]
 rw[vC c1 (by rw[hts];exact c3),hts] at h1 h2 h3
 dsimp only at h1 h2 h3
 have hrd:=Ea (cs:=cs) (by omega) hl hr
 rw[hts] at hrd
 refine Sv.next ?_
 refine Sv.seq ?_
 refine Sv.asg ?_
 generalize yk:(fR 4:TG)=g4
 refine Ev.bH Ia ?_
 walk_at "dt"
 refine⟨rfl,w,ts,rfl,by omega,fun t ht=>?_,?_⟩
 ·rw[<-hts] at ht
  obtain⟨i,hi,e1,_⟩:=vO ht
  omega
 subst yk
 refine Gv.name ?_
 walk_at "dt"
 refine⟨by rw[aj];omega,?_⟩
 refine⟨⟨dS w ts,st++[ts],k, .d false (.list ((eT p cs w).map .int)), .d true (.list (ts.map cJ)),hrd.1,hrd.2,h1,by rw[mR];exact h2,h3,by rw[bz,fW];omega,by rw[cZ];rfl⟩,?_⟩
 show m-(List.map pO st++[_]).length<m-(List.map pO st).length
 rw[bz,fW,aj]
 omega
def pC:Option (Int×Int×Int)->PyData
 |none=> .none
 |some t=>cJ t
def BI:DF:=fun ds Φ=>∃(p n:Int) (cs:List aq) (ws:List Int),ds=[cL p n cs, .dict ((ki p cs n.toNat).map bI),aI ws]/\iB p n cs/\cs.length<=62/\ws.length=n.toNat/\(∀x∈ws,0<=x/\x<p)/\Φ true (pC (eZ p cs ws n.toNat).2)
theorem G1:cU BI:=by
 intro ds Φ Ψ hm z
 obtain⟨p,n,cs,ws,e,h1,h2,h3,h4,q⟩:=hm
 exact⟨p,n,cs,ws,e,h1,h2,h3,h4,z _ _ q⟩
theorem jT:cz ["net","found","word","reached","before","fewest","best","place","old","counts","letter","behind"] ["net","found","word"] (aR yr):=⟨rfl,rfl,rfl,by decide+kernel,rfl,by decide+kernel,by decide+kernel⟩
theorem ME(F:bQ K "calming" "calming" yr f fd)(sM:Callee P w K mg base "sums" 3 ["net","word"] (aS 2 rQ))(CK:Callee P w K mg base "broken_of" 1 ["reached"] (aS 1 tT))(D0:Callee P w K mg base "counts_of" 1 ["p","there","reached","letter"] (aS 4 vG))(mw:mg "enumerate"=none)(jZ:mg "sorted"=none):
  bE P w K mg base bO 4 f fd ["net","found","word"] (aS 3 BI):=by
 refine F.ok jT (fun vs H Q E h=>h.1) (fun cdv A outer s H vs Q E hr h=>?_)
 obtain⟨nb,ds,Φ,hlive,hds,aD,hF⟩:=fM h
 obtain⟨p,n,cs,ws,rfl,hN,lW,hwl,hws,q⟩:=hF
 refine⟨_,(@ak _ _ _ _ _ (@aE _ _ (3) _ _ _ _ jT.nd rfl (Or.inl rfl) (@aK _ _ _ _ _ _ _ _ _ _ sM (hr.mono (by decide)) (@aa _ _ _ _ _ (pv 0) (@aa _ _ _ _ _ (pv 2) af rfl) rfl) (by rfl) (by decide) (by rfl) (by rfl)) (by rfl) (by first|exact .inl rfl|exact .inr rfl|assumption)) (@ak _ _ _ _ _ (@aE _ _ (4) _ _ _ _ jT.nd rfl (Or.inl rfl) (@aK _ _ _ _ _ _ _ _ _ _ CK (hr.mono (by decide)) (@aa _ _ _ _ _ (pv 3) af rfl) (by rfl) (by decide) (by rfl) (by rfl)) (by rfl) (by first|exact .inl rfl|exact .inr rfl|assumption)) (@ak _ _ _ _ _ (@aE _ _ (5) _ _ _ _ jT.nd rfl (Or.inl rfl) (pv 4) (by rfl) (by first|exact .inl rfl|exact .inr rfl|assumption)) (@ak _ _ _ _ _ (@aE _ _ (6) _ _ _ _ jT.nd rfl (Or.inl rfl) qG (by rfl) (by first|exact .inl rfl|exact .inr rfl|assumption)) (@ak _ _ _ _ _ (@dU _ _ _ _ _ _ _ _ c7 rfl (@Bf _ (K) _ _ _ _ _ _ _ rfl rfl mw (pv 2) (by rfl)) (@iu _ (K) _ _ _ (2) _ rfl rfl (@bV _ _ _ _ _ (aH (i:=7) jT.nd rfl (Or.inl rfl)) (@bV _ _ _ _ _ (aH (i:=8) jT.nd rfl (Or.inl rfl)) gM (by rfl)) (by rfl)) (by rfl) (by rfl)) (@ak _ _ _ _ _ (@aE _ _ (9) _ _ _ _ jT.nd rfl (Or.inl rfl) (@aK _ _ _ _ _ _ _ _ _ _ D0 (hr.mono (by decide)) (@aa _ _ _ _ _ (@aG _ _ _ _ _ _ (c5 K) dG (pv 0) ao (fun _ _=>rfl)) (@aa _ _ _ _ _ (@aG _ _ _ _ _ _ (jQ) m5 (pv 1) (pv 7) (fun _ _=>rfl)) (@aa _ _ _ _ _ (pv 3) (@aa _ _ _ _ _ (pv 8) af rfl) rfl) rfl) rfl) (by rfl) (by decide) (by rfl) (by rfl)) (by rfl) (by first|exact .inl rfl|exact .inr rfl|assumption)) (@az _ _ _ (@dU _ _ _ _ _ _ _ _ c7 rfl (@eB _ _ _ _ (@cH _ _ _ _ _ _ _ _ (tS) (KL rfl) rfl jZ ug (@aa _ _ _ _ _ (pv 9) af rfl) (by decide) (by decide) (by rfl) (by rfl))) (aH (i:=10) jT.nd rfl (Or.inl rfl)) (@ak _ _ _ _ _ (@aE _ _ (11) _ _ _ _ jT.nd rfl (Or.inl rfl) (@aF _ _ _ _ _ _ _ _ kB (@aF _ _ _ _ _ _ _ _ dB (pv 4) (iU uy t9 yZ BH (pv 9) (@aa _ _ _ _ _ (pv 8) (@aa _ _ _ _ _ ao af rfl) rfl))) (@aG _ _ _ _ _ _ (jQ) m5 (pv 9) (pv 10) (fun _ _=>rfl))) (by rfl) (by first|exact .inl rfl|exact .inr rfl|assumption)) (@az _ _ _ (@cN _ _ _ _ _ _ _ _ (@bB _ _ _ _ _ _ _ _ uv (pv 11) (pv 5) (bw _)) (@ak _ _ _ _ _ (@aE _ _ (5) _ _ _ _ jT.nd rfl (Or.inl rfl) (pv 11) (by rfl) (by first|exact .inl rfl|exact .inr rfl|assumption)) (@az _ _ _ (@aE _ _ (6) _ _ _ _ jT.nd rfl (Or.inl rfl) (@bF _ _ _ _ _ (@aa _ _ _ _ _ (pv 7) (@aa _ _ _ _ _ (pv 10) (@aa _ _ _ _ _ (pv 11) af rfl) rfl) rfl)) (by rfl) (by first|exact .inl rfl|exact .inr rfl|assumption)))) dj))) (by intro _;rfl)))) (by intro _;rfl)) (@az _ _ _ (@aZ _ _ _ _ (pv 6)))))))),?_⟩
 refine Sv.fP hlive hds aD (ρ:=[.d false _, .d false _, .d false _, .no, .no, .no, .no, .no, .no, .no, .no, .no]) rfl ?_
 clear aD hds
 have p2:=hN.hp.1
 have gn:=hN.gn
 have n0:=hN.n0
 have n1:=hN.n1
 have hcl:=hN.cl
 have lG:(ws.map PyData.int).length=ws.length:=aj ..
 have j3:aI ws=kc (ws.map some):=by show PyData.list _=PyData.list _;rw[dw];rfl
 have oV:∀prs∈cs,ou prs (ws.map some).length:=fun prs c9 pr bu=>by
  obtain⟨_,_,g⟩:=hN.ok prs c9
  obtain⟨a0,a1,a2,a3⟩:=g pr bu
  exact⟨a0,by rw[aj];omega,by unfold Sm;omega⟩
 have kh:lz (ws.map some):=fun x hx=>by
  obtain⟨y,hy,e⟩:=cI.mp hx
  cases e
  obtain⟨a0,a1⟩:=hws x hy
  unfold Sm;omega
 have hsl:(eT p cs ws).length=cs.length:=by unfold eT;exact aj ..
 have tD:∀s∈eT p cs ws,0<=s/\s<p:=fun s hs=>by
  unfold eT at hs
  obtain⟨prs,_,rfl⟩:=cI.mp hs
  exact⟨eS _ (by omega),eF _ (by omega)⟩
 have Wj:(eT p cs ws).countP (fun s=>decide (s≠0))=brk p cs ws:=by unfold eT brk;rw[List.countP_map];rfl
 walk_at "dt"
 refine Ev.bH D8 ?_
 walk_at "dt"
 refine⟨rfl,p,n,cs,ws.map some,by show[_,_]=_;rw[j3],by omega,by omega,oV,kh,?_⟩
 rw[Bo]
 refine Gv.name ?_
 walk_at "dt"
 refine Ev.bH EO ?_
 walk_at "dt"
 refine⟨rfl,_,rfl,by omega,?_⟩
 rw[Wj]
 walk_at "dt"
 refine Sv.BR ?_
 walk_at "dt"
 refine fun v=>⟨fun i ρ=>∃(x7 x8 x9 cY dY:Sl),ρ=[.d false (cL p n cs), .d false (.dict ((ki p cs n.toNat).map bI)), .d false (aI ws), .d (true||jf [(false,cL p n cs),(false,aI ws)]) (.list ((eT p cs ws).map .int)), .d true (.int (brk p cs ws)), .d true (.int (eZ p cs ws i).1), .d true (pC (eZ p cs ws i).2),x7,x8,x9,cY,dY],⟨_,_,_,_,_,rfl⟩,?_,?_⟩
 ·rintro i d ρ ⟨e,he,rfl⟩ ⟨x7,x8,x9,cY,dY,rfl⟩
  obtain⟨old,hold,rfl⟩:=eO he
  have hil:=(aP.mp hold).1
  have hin:i<n.toNat:=by omega
  have hval:=JR (p:=p) (cs:=cs) hin
  have hog:ws.getD i 0=old:=by rw[bG,hold];rfl
  have hvl:=ql (p:=p) (cs:=cs) (pl:=(i:Int)) cs.length
  have eL:(eV p cs (i:Int) cs.length).map (fun q=>(old-(eT p cs ws).getD q.1.toNat 0*q.2)%p)=bM p cs ws (i:Int):=by
   unfold bM
   apply fX
   intro qq hq
   obtain⟨c,prs,ff,e1,e2,e3,rfl⟩:=qI (aJ _) hq
   dsimp only
   rw[eX,eX,JG c e2,hog]
  walk_at "dt"
  refine Ev.bH Le ?_
  walk_at "dt"
  refine Ev.n6 ?_
  walk_at "dt"
  refine⟨_,rfl,?_⟩
  walk_at "dt"
  refine⟨_,hval,?_⟩
  walk_at "dt"
  refine⟨rfl,p,old,eV p cs (i:Int) cs.length,eT p cs ws,rfl,by omega,gn,by omega,fun qq hq=>?_,tD,fun ks hK gR=>?_⟩
  ·obtain⟨c,prs,ff,e1,e2,e3,rfl⟩:=qI (aJ _) hq
   have hr:=vm (p:=p) (b:=ff) (a:=1) (by omega)
   exact⟨by show(0:Int)<=c;omega,by show(c:Int)<_;omega,hr.1,hr.2⟩
  rw[eL] at hK
  have Km:=hK.get old
  obtain⟨ms,nd,hm,rfl⟩:=id hK
  rw[aj] at gR
  obtain⟨VL,lY⟩:∃VL,bM p cs ws (i:Int)=VL:=⟨_,rfl⟩
  have qM:=fun x x0 x1=>Ut (p:=p) (cs:=cs) (ws:=ws) (pl:=i) (x:=x) hN.hp (fun prs c9=>by rw[hwl];exact hN.ok prs c9) hil hws x0 x1
  have FF:∀x∈VL,0<=x/\x<p:=by rw[<-lY];exact wj (by omega)
  rw[hog] at qM
  rw[lY] at hm qM Km
  simp only[lY]
  refine Gv.name ?_
  refine Sv.forL ?_
  refine aC.ev (aC.Lp ?_)
  walk_at "dt"
  refine⟨_,rfl,by rw[aj];omega,fun rs hrs iA=>?_⟩
  rw[dw,show((fun(x:Int×PyData)=>x.1)∘fun c=>(c,PyData.int (VL.count c)))=id from rfl,BQ] at iA
  have hrnd:rs.Nodup:=iA.nodup_iff.mpr nd
  have NC:rs.Pairwise (· < ·):=(hrs.and hrnd).imp fun⟨x,y⟩=>by omega
  have QI:rs=mj p cs ws i:=EM NC fun k=>by rw[iA.mem_iff,hm k,lY]
  have hrm:(rs.map PyData.int).length=rs.length:=aj ..
  refine⟨_,rfl,fun v=>⟨fun j ρ=>∃(cY dY:Sl),ρ=[.d false (cL p n cs), .d false (.dict ((ki p cs n.toNat).map bI)), .d false (aI ws), .d (true||jf [(false,cL p n cs),(false,aI ws)]) (.list ((eT p cs ws).map .int)), .d true (.int (brk p cs ws)), .d true (.int (ic p cs ws i (eZ p cs ws i) (rs.take j)).1), .d true (pC (ic p cs ws i (eZ p cs ws i) (rs.take j)).2), .d true (.int i), .d true (.int old), .d true (.dict ((ms.map fun c=>(c,PyData.int (VL.count c))).map bI)),cY,dY],⟨_,_,rfl⟩,?_,?_⟩⟩
  ·rintro j d ρ hd ⟨cY,dY,rfl⟩
   obtain⟨x,hx,rfl⟩:=eO hd
   have kT:x∈ms:=iA.mem_iff.mp (br hx)
   obtain⟨x0,x1⟩:=FF x ((hm x).mp kT)
   have hpx:=qM x x0 x1
   have hts:=take_snoc hx
   have hst:ic p cs ws i (eZ p cs ws i) (rs.take (j+1))=jg p cs ws i (ic p cs ws i (eZ p cs ws i) (rs.take j)) x:=by rw[hts,UA]
   obtain⟨S,hS⟩:∃S,ic p cs ws i (eZ p cs ws i) (rs.take j)=S:=⟨_,rfl⟩
   rw[hS] at hst⊢
   have O1:(brk p cs ws:Int)+VL.count old-VL.count x=brk p cs (ws.set i x):=hpx.symm
   refine Gv.iN ?_
   walk_at "dt"
   refine Ev.WA ?_
   walk_at "dt"
   refine⟨_,rfl,?_⟩
   walk_at "dt"
   rw[Km]
   walk_at "dt"
   refine Ev.n6 ?_
   walk_at "dt"
   refine⟨_,rfl,?_⟩
   walk_at "dt"
   refine⟨_,by rw[sj,if_pos kT],?_⟩
   walk_at "dt"
   rw[O1]
   walk_at "dt"
   by_cases c:(brk p cs (ws.set i x):Int)<S.1
   ·rw[if_pos (by simpa using c)]
    generalize gu:(gZ (m9 _) (fR 6):TS)=tl
    walk_at "dt"
    subst gu
    refine Sv.asg ?_
    generalize Ux:(fR 6:TG)=g6
    walk_at "dt"
    subst Ux
    refine Gv.name ?_
    refine⟨.d true (.int x), .d true (.int (brk p cs (ws.set i x))),?_⟩
    rw[hst]
    unfold jg
    rw[if_pos c]
    rfl
   ·rw[if_neg (by simpa using c)]
    walk_at "dt"
    refine⟨.d true (.int x), .d true (.int (brk p cs (ws.set i x))),?_⟩
    rw[hst]
    unfold jg
    rw[if_neg c]
    rfl
  ·rintro ρ ⟨cY,dY,rfl⟩
   rw[hrm,fE]
   have hts:ic p cs ws i (eZ p cs ws i) rs=eZ p cs ws (i+1):=by rw[vR,<-QI]
   rw[hts]
   exact⟨_,_,_,_,_,rfl⟩
 ·rintro ρ ⟨x7,x8,x9,cY,dY,rfl⟩
  rw[lG,hwl]
  walk_at "dt"
  exact q
def zp:DF:=fun ds Φ=>∃(p n:Int) (cs:List aq) (ws:List Int),ds=[cL p n cs,aI ws]/\iB p n cs/\cs.length<=62/\ws.length=n.toNat/\(∀x∈ws,0<=x/\x<p)/\Φ true (.tuple [aI (runC p cs n.toNat cs.length ws).1, .list ((runC p cs n.toNat cs.length ws).2.map cJ)])
theorem Um:cU zp:=by
 intro ds Φ Ψ hm z
 obtain⟨p,n,cs,ws,e,h1,h2,h3,h4,q⟩:=hm
 exact⟨p,n,cs,ws,e,h1,h2,h3,h4,z _ _ q⟩
theorem OT(o:Option (Int×Int×Int)):rG (pC o)=o.isNone:=by cases o<;>rfl
theorem p6:cz ["net","word","found","told","steps","step"] ["net","word"] (aR Cz):=⟨rfl,rfl,rfl,by decide+kernel,rfl,by decide+kernel,by decide+kernel⟩
theorem WR(F:bQ K "calmed" "calmed" Cz f fd)(rC:Callee P w K mg base "all_voices" 3 ["net"] (aS 1 sE))(G3:Callee P w K mg base "calming" 4 ["net","found","word"] (aS 3 BI))(bU:mg "list"=none):
  bE P w K mg base bO 5 f fd ["net","word"] (aS 2 zp):=by
 refine F.ok p6 (fun vs H Q E h=>h.1) (fun cdv A outer s H vs Q E hr h=>?_)
 obtain⟨nb,ds,Φ,hlive,hds,aD,hF⟩:=fM h
 obtain⟨p,n,cs,ws,rfl,hN,lW,hwl,hws,q⟩:=hF
 refine⟨_,(@ak _ _ _ _ _ (@aE _ _ (2) _ _ _ _ p6.nd rfl (Or.inl rfl) (@aK _ _ _ _ _ _ _ _ _ _ rC (hr.mono (by decide)) (@aa _ _ _ _ _ (pv 0) af rfl) (by rfl) (by decide) (by rfl) (by rfl)) (by rfl) (by first|exact .inl rfl|exact .inr rfl|assumption)) (@ak _ _ _ _ _ (@aE _ _ (3) _ _ _ _ p6.nd rfl (Or.inl rfl) (@gH _ _ _ _ _ _ _ _ (jN K) l9 rfl bU iS (@aa _ _ _ _ _ (pv 1) af rfl) (by decide) (by decide) (by rfl) (by rfl)) (by rfl) (by first|exact .inl rfl|exact .inr rfl|assumption)) (@ak _ _ _ _ _ (@aE _ _ (4) _ _ _ _ p6.nd rfl (Or.inl rfl) (@eG _ _ _ _ af) (by rfl) (by first|exact .inl rfl|exact .inr rfl|assumption)) (@ak _ _ _ _ _ (@aE _ _ (5) _ _ _ _ p6.nd rfl (Or.inl rfl) (@aK _ _ _ _ _ _ _ _ _ _ G3 (hr.mono (by decide)) (@aa _ _ _ _ _ (pv 0) (@aa _ _ _ _ _ (pv 2) (@aa _ _ _ _ _ (pv 3) af rfl) rfl) rfl) (by rfl) (by decide) (by rfl) (by rfl)) (by rfl) (by first|exact .inl rfl|exact .inr rfl|assumption)) (@ak _ _ _ _ _ (@w4 _ _ _ _ _ _ c7 (@bB _ _ _ _ _ _ _ _ Dy (pv 5) qG (bw _)) (@ak _ _ _ _ _ (@gK _ _ _ _ _ _ (@aG _ _ _ _ _ _ (c5 K) dG (pv 5) ao (fun _ _=>rfl)) (jq (pv 3) (@aG _ _ _ _ _ _ (c5 K) dG (pv 5) ao (fun _ _=>rfl)) set_list) (by rfl) (by rfl) (by rfl)) (@ak _ _ _ _ _ (@kO _ _ _ _ (iU jU kN k6 kG (pv 4) (@aa _ _ _ _ _ (pv 5) af rfl)) (by rfl)) (@az _ _ _ (@aE _ _ (5) _ _ _ _ p6.nd rfl (Or.inl rfl) (@aK _ _ _ _ _ _ _ _ _ _ G3 (hr.mono (by decide)) (@aa _ _ _ _ _ (pv 0) (@aa _ _ _ _ _ (pv 2) (@aa _ _ _ _ _ (pv 3) af rfl) rfl) rfl) (by rfl) (by decide) (by rfl) (by rfl)) (by rfl) (by first|exact .inl rfl|exact .inr rfl|assumption)))))) (@az _ _ _ (@aZ _ _ _ _ (@bF _ _ _ _ _ (@aa _ _ _ _ _ (pv 3) (@aa _ _ _ _ _ (pv 4) af rfl) rfl))))))))),?_⟩
 refine Sv.fP hlive hds aD (ρ:=[.d false _, .d false _, .no, .no, .no, .no]) rfl ?_
 clear aD hds
 have p2:=hN.hp.1
 have n0:=hN.n0
 have n1:=hN.n1
 walk_at "dt"
 refine Ev.bH AG ?_
 walk_at "dt"
 refine⟨rfl,p,n,cs,rfl,hN,fun f0=>?_⟩
 refine Gv.mz ?_
 refine Sv.seq ?_
 refine Sv.o9 (aC.listOf ?_)
 walk_at "dt"
 intro A3
 rw[uA,tB]
 walk_at "dt"
 intro A4
 refine Sv.seq ?_
 refine Sv.asg ?_
 refine Ev.JC ?_
 refine jJ.K8 3 rfl ?_
 refine jJ.bH G1 ?_
 walk_at "dt"
 refine⟨rfl,p,n,cs,ws,rfl,hN,lW,hwl,hws,rfl,?_⟩
 refine Gv.name ?_
 refine Sv.seq ?_
 obtain⟨wf,hwf⟩:∃wf,(runC p cs n.toNat cs.length ws).1=wf:=⟨_,rfl⟩
 obtain⟨sf,JH⟩:∃sf,(runC p cs n.toNat cs.length ws).2=sf:=⟨_,rfl⟩
 rw[hwf,JH] at q
 refine Sv.AA (fun ρ=>∃(w:List Int) (st:List (Int×Int×Int)) (k:Nat),w.length=n.toNat/\(∀x∈w,0<=x/\x<p)/\brk p cs w<=k/\(runC p cs n.toNat k w).1=wf/\st++(runC p cs n.toNat k w).2=sf/\st.length+k<=cs.length/\ρ=[.d false (cL p n cs), .d false (aI ws), .d false (.dict ((ki p cs n.toNat).map bI)), .own A3 true (w.map .int), .own A4 true (st.map cJ), .d true (pC (eZ p cs w n.toNat).2)]) (fun(ρ:Rh)=>match ρ[4]? with|some (Sl.own _ _ ds)=>cs.length-ds.length|_=>0) ⟨ws,[],cs.length,hwl,hws,PD,hwf,JH,by simp,rfl⟩ ?_
 rintro ρ' ⟨w,st,k,hl,hr,hbk,h1,h2,h3,rfl⟩
 walk_at "dt"
 rw[OT]
 rcases uZ (p:=p) (cs:=cs) (ws:=w) (m:=n.toNat) (by omega) n.toNat (aJ _) with ⟨e1,e2⟩|⟨j,y,hj,e,hlt,y0,y1⟩
 ·rw[e1]
  rw[Hg e1] at h1 h2
  rw[eN] at h2
  subst h1 h2
  rw[if_neg (by decide)]
  refine Sv.iR 3 rfl ?_
  refine Sv.iR 4 rfl ?_
  walk_at "dt"
  exact q
 ·have es:(eZ p cs w n.toNat).2=some ((j:Int),y,(brk p cs (w.set j y):Int)):=by rw[e]
  obtain⟨k',rfl⟩:∃k',k=k'+1:=⟨k-1,by omega⟩
  rw[G4 es] at h1 h2
  dsimp only at h1 h2
  rw[eX] at h1 h2
  rw[es]
  have hix:fy (w.map PyData.int).length (j:Int)=some j:=by
   unfold fy
   rw[aj]
   repeat (first|rw[if_pos (by omega)]|rw[if_neg (by omega)])
   simp
  walk_at "dt"
  rw[show pC (some ((j:Int),y,(brk p cs (w.set j y):Int)))=cJ ((j:Int),y,(brk p cs (w.set j y):Int)) from rfl]
  generalize gu:(pH (sI _) _:TS)=tl
  walk_at "dt"
  refine⟨_,_,rfl,hix,?_⟩
  subst gu
  rw[<-rH]
  have hl2:(w.set j y).length=n.toNat:=by rw[gb];exact hl
  have hr2:∀x∈w.set j y,0<=x/\x<p:=fun x hx=>by
   rcases uV hx with z|z
   ·exact hr x z
   ·rw[z];exact⟨y0,y1⟩
  refine Sv.seq ?_
  refine Sv.append rfl ?_
  refine Ev.var rfl ?_
  refine⟨by rw[aj];omega,?_⟩
  refine Sv.asg ?_
  refine Ev.JC ?_
  refine jJ.K8 3 rfl ?_
  refine jJ.bH G1 ?_
  walk_at "dt"
  refine⟨rfl,p,n,cs,w.set j y,rfl,hN,lW,hl2,hr2,rfl,?_⟩
  refine Gv.name ?_
  refine⟨⟨w.set j y,st++[((j:Int),y,(brk p cs (w.set j y):Int))],k',hl2,hr2,by omega,h1,by rw[mR];exact h2,by rw[bz,fW];omega,by rw[cZ];rfl⟩,?_⟩
  show cs.length-(List.map cJ st++[_]).length<cs.length-(List.map cJ st).length
  rw[bz,fW,aj]
  omega
theorem uE:cz ["script","stir","cell"] ["script"] (aR uu):=⟨rfl,rfl,rfl,by decide+kernel,rfl,by decide+kernel,by decide+kernel⟩
theorem Wr(F:bQ K "_law_bag" "_law_bag" uu f fd)(yq:mg "abs"=none):
  bE P w K mg base bO 1 f fd ["script"] (JT K):=by
 refine F.ok uE (fun vs H Q E h=>?_) (fun cdv A outer s H vs Q E hr h=>?_)
 ·obtain⟨a,ns,rfl,hS,hl,q⟩:=h
  rfl
 obtain⟨a,ns,rfl,hS,hl,q⟩:=h
 refine⟨_,(@ak _ _ _ _ _ (@aE _ _ (1) _ _ _ _ uE.nd rfl (Or.inl rfl) ao (by rfl) (by first|exact .inl rfl|exact .inr rfl|assumption)) (@ak _ _ _ _ _ (@dU _ _ _ _ _ _ _ _ c7 rfl (@eB _ _ _ _ (@lR _ _ _ _ _ _ _ _ _ _ l7 (pv 0) lU (@mq _ _ _ ao))) (aH (i:=2) uE.nd rfl (Or.inl rfl)) (@az _ _ _ (@aE _ _ (1) _ _ _ _ uE.nd rfl (Or.inl rfl) (@aF _ _ _ _ _ _ _ _ iC (@aF _ _ _ _ _ _ _ _ dB (@aF _ _ _ _ _ _ _ _ dB (@aF _ _ _ _ _ _ _ _ gf (pv 1) ao) (@aF _ _ _ _ _ _ _ _ iC (pv 2) ao)) ao) ao) (by rfl) (by first|exact .inl rfl|exact .inr rfl|assumption))) (by intro _;rfl)) (@az _ _ _ (@aZ _ _ _ _ (@eG _ _ _ _ (@aa _ _ _ _ _ (iD (cP.of (show eU (aR uu) ["script","stir","cell"] _ ["cell"] [none]=true by decide+kernel)) (@eB _ _ _ _ (@lR _ _ _ _ _ _ _ _ _ _ l7 (pv 0) lU (@mq _ _ _ ao))) (fun _ _ _ _=>⟨(aH (i:=0) (by show List.Nodup (["cell"]:List Str);decide+kernel) rfl (Or.inl rfl)),iy,(@aF _ _ _ _ _ _ _ _ iC (@cH _ _ _ _ _ _ _ _ _ Xa rfl yq PyProof.Rows.boot_abs (@aa _ _ _ _ _ (pv 0) af rfl) (by decide) (by decide) (by rfl) (by rfl)) (@aF _ _ _ _ _ _ _ _ EK ao ao))⟩)) (@aa _ _ _ _ _ ao (@aa _ _ _ _ _ ao (@aa _ _ _ _ _ (pv 1) (@aa _ _ _ _ _ ao af rfl) rfl) rfl) rfl) rfl)))))),?_⟩
 have G5:mh (ns.map V.int) none (some 63)=ns.map V.int:=by
  have e:(ns.map V.int).length=ns.length:=aj _
  show List.take (min 63 (ns.map V.int).length-0) (List.drop 0 (ns.map V.int))=_
  rw[List.drop_zero]
  exact Dn (by omega)
 walk_at "st"
 refine R.E9 hS fun c hc=>?_
 rw[G5]
 refine R.vD (aV.of aX) ?_
 refine FT (xs:=ns.map V.int) (fun i σ H1=>∃(st:Int) (x:Option V),σ=[some (.ref a),some (.int st),x]/\0<=st/\st<2147483647/\H1=upd H c (.lst (ns.map V.int))) ⟨19,none,rfl,by omega,by omega,rfl⟩ ?_ ?_ ?_
 ·rintro i σ H1 hi ⟨st,x,rfl,h1,h2,rfl⟩
  exact aV.of aX
 ·rintro i x σ H1 hx ⟨st,y,rfl,h1,h2,rfl⟩
  rw[aL] at hx
  obtain⟨n,_,rfl⟩:=jt.mp hx
  walk_at "st"
  exact⟨_,_,rfl,eS _ (by decide),eF _ (by decide),rfl⟩
 ·rintro σ H1 ⟨st,x,rfl,h1,h2,rfl⟩
  walk_at "st"
  refine R.E9 ((dR hc).seq hS) fun c2 hc2=>?_
  rw[G5]
  refine R.vD (aV.of aX) ?_
  intro acc hacc
  refine R.B6 (xs:=ns.map V.int) (fun i σ H2=>∃(x:Option V),σ=[x]/\H2=upd (upd (upd H c (.lst (ns.map V.int))) c2 (.lst (ns.map V.int))) acc (.lst (((ns.take i).map fun n=>(if n<0 then-n else n)%10^60).map V.int))) ⟨none,rfl,rfl⟩ ?_ ?_ ?_
  ·rintro i σ H1 hi ⟨x,rfl,rfl⟩
   refine aV.of ?_
   rw[au (jc aX hacc)]
   exact aX
  ·rintro i x σ H1 hx ⟨y,rfl,rfl⟩
   rw[aL] at hx
   obtain⟨n,hn,rfl⟩:=jt.mp hx
   walk_at "st"
   refine⟨_,aX,?_,_,rfl,?_⟩
   ·rw[aj,aj,iX]
    exact EW (by omega)
   ·rw[AR,zR,hn,cZ,cZ]
    rfl
  ·rintro σ H1 ⟨x,rfl,rfl⟩
   walk_at "st"
   refine(show Ca _ _ _ from⟨by show 5<=sizeLine;decide,fun p hp=>?_⟩)
   have hn1:=jc (aX (H:=upd (upd H c (.lst (ns.map V.int))) c2 (.lst (ns.map V.int))) (a:=acc)) hp
   have s1:dW H (upd (upd (upd H c (.lst (ns.map V.int))) c2 (.lst (ns.map V.int))) acc (.lst (((ns.take (ns.map V.int).length).map fun n=>(if n<0 then-n else n)%10^60).map V.int))):=(dR hc).trans ((dR hc2).trans (dR hacc))
   refine q p acc _ (s1.trans (dR hp)) (s1.free hp) ⟨_,0,0,st,0,aX,by rw[au hn1];exact aX,?_,?_,by omega,by omega,by omega,h1,h2⟩
   ·intro y hy
    obtain⟨z,_,rfl⟩:=cI.mp hy
    exact⟨eS _ (by decide),eF _ (by decide)⟩
   ·rw[aj,iX]
    omega
theorem uX:cz ["bag","many","found","k"] ["bag","many"] (aR C2):=⟨rfl,rfl,rfl,by decide+kernel,rfl,by decide+kernel,by decide+kernel⟩
theorem Me(F:bQ K "_law_stirred" "_law_stirred" C2 f fd)(bf:mg "range"=none):
  bE P w K mg base bO 1 f fd ["bag","many"] jn:=by
 refine F.ok uX (fun vs H Q E h=>?_) (fun cdv A outer s H vs Q E hr h=>?_)
 ·obtain⟨b,l,many,rfl,hB,hm,hs,q⟩:=h
  rfl
 obtain⟨b,l,many,rfl,hB,hm,hs,q⟩:=h
 refine⟨_,(@ak _ _ _ _ _ (@aE _ _ (2) _ _ _ _ uX.nd rfl (Or.inl rfl) ao (by rfl) (by first|exact .inl rfl|exact .inr rfl|assumption)) (@ak _ _ _ _ _ (@dU _ _ _ _ _ _ _ _ c7 rfl (@gF _ _ _ _ _ _ rfl bf (@aa _ _ _ _ _ (@aF _ _ _ _ _ _ _ _ dB ao (@aF _ _ _ _ _ _ _ _ qg (EB PySem.F.plainAttrs_int PySem.F.slot_int_bit_length PySem.F.type_int_bit_length VT (pv 1)) ao)) af rfl) (by rfl)) (aH (i:=3) uX.nd rfl (Or.inl rfl)) (@ak _ _ _ _ _ (@gK _ _ _ _ _ _ (@aF _ _ _ _ _ _ _ _ dB (@aG _ _ _ _ _ _ _ bD (pv 0) ao (fun _ _=>rfl)) ao) (jq (pv 0) ao set_list) (by rfl) (by rfl) (by rfl)) (@ak _ _ _ _ _ (@gK _ _ _ _ _ _ (@aF _ _ _ _ _ _ _ _ iC (@aF _ _ _ _ _ _ _ _ dB (@aF _ _ _ _ _ _ _ _ dB (@aF _ _ _ _ _ _ _ _ dB (@aF _ _ _ _ _ _ _ _ EK (@aG _ _ _ _ _ _ _ bD (pv 0) ao (fun _ _=>rfl)) ao) (@aF _ _ _ _ _ _ _ _ gf ao (@aG _ _ _ _ _ _ _ bD (pv 0) ao (fun _ _=>rfl)))) (@aF _ _ _ _ _ _ _ _ gf ao (@aG _ _ _ _ _ _ _ bD (pv 0) ao (fun _ _=>rfl)))) ao) ao) (jq (pv 0) ao set_list) (by rfl) (by rfl) (by rfl)) (@az _ _ _ (@aE _ _ (2) _ _ _ _ uX.nd rfl (Or.inl rfl) (@aF _ _ _ _ _ _ _ _ dB (@aF _ _ _ _ _ _ _ _ gf (pv 2) ao) (@aF _ _ _ _ _ _ _ _ qg (@aG _ _ _ _ _ _ _ bD (pv 0) ao (fun _ _=>rfl)) ao)) (by rfl) (by first|exact .inl rfl|exact .inr rfl|assumption))))) (by intro _;rfl)) (@az _ _ _ (@aZ _ _ _ _ (@aF _ _ _ _ _ _ _ _ iC (pv 2) (pv 1)))))),?_⟩
 have ZU:=Ad hs
 walk_at "st"
 refine CD (fun i σ H1=>∃(fv:Int) (x:Option V),σ=[some (.ref b),some (.int many),some (.int fv),x]/\bh (Nb b) H H1/\dM H1 b l) ⟨0,none,rfl,bh.refl _ _,hB⟩ ?_ ?_
 ·rintro i σ H1 hi ⟨fv,x,rfl,bt,ns,j,c,st,n,h1,h2,h3,h4,h5,h6,h7,h8,h9⟩
  have hlb:=EV h1 h2
  walk_at "st"
  refine⟨_,_,rfl,bt.trans (bh.set rfl),?_⟩
  exact dM.put hlb h2 h3 h4 h5 h6 h7 (eS _ (by decide)) (eF _ (by decide))
 ·rintro σ H1 ⟨fv,x,rfl,bt,B⟩
  walk_at "st"
  exact q _ _ (eS _ (by omega)) (eF _ hm) bt B
theorem JK:cz ["bag","many","found"] ["bag","many"] (aR Ak):=⟨rfl,rfl,rfl,by decide+kernel,rfl,by decide+kernel,by decide+kernel⟩
theorem UX(F:bQ K "_law_draw" "_law_draw" Ak f fd)(Wl:Callee P w K mg base "_law_stirred" 1 ["bag","many"] jn)(bW:mg "len"=none):
  bE P w K mg base bO 2 f fd ["bag","many"] jn:=by
 refine F.ok JK (fun vs H Q E h=>?_) (fun cdv A outer s H vs Q E hr h=>?_)
 ·obtain⟨b,l,many,rfl,hB,hm,hs,q⟩:=h
  rfl
 obtain⟨b,l,many,rfl,hB,hm,hs,q⟩:=h
 refine⟨_,(@ak _ _ _ _ _ (@cN _ _ _ _ _ _ _ _ (PW.pt (qz (@bB _ _ _ _ _ _ _ _ iK (@aG _ _ _ _ _ _ _ bD (pv 0) ao (fun _ _=>rfl)) ao (bw _)) (pI (@bB _ _ _ _ _ _ _ _ uv (@aG _ _ _ _ _ _ _ bD (pv 0) ao (fun _ _=>rfl)) (@cH _ _ _ _ _ _ _ _ _ EX rfl bW ir (@aa _ _ _ _ _ (@aG _ _ _ _ _ _ _ bD (pv 0) ao (fun _ _=>rfl)) af rfl) (by decide) (by decide) (by rfl) (by rfl)) (bw _))))) (@ak _ _ _ _ _ (@gK _ _ _ _ _ _ (@aG _ _ _ _ _ _ _ bD (@aG _ _ _ _ _ _ _ bD (pv 0) ao (fun _ _=>rfl)) (@aG _ _ _ _ _ _ _ bD (pv 0) ao (fun _ _=>rfl)) (fun _ _=>rfl)) (jq (pv 0) ao set_list) (by rfl) (by rfl) (by rfl)) (@az _ _ _ (@gK _ _ _ _ _ _ (@aF _ _ _ _ _ _ _ _ dB (@aG _ _ _ _ _ _ _ bD (pv 0) ao (fun _ _=>rfl)) ao) (jq (pv 0) ao set_list) (by rfl) (by rfl) (by rfl)))) (@az _ _ _ (@cN _ _ _ _ _ _ _ _ (@bB _ _ _ _ _ _ _ _ iK (@aG _ _ _ _ _ _ _ bD (pv 0) ao (fun _ _=>rfl)) ao (bw _)) (@az _ _ _ (@aZ _ _ _ _ (@aK _ _ _ _ _ _ _ _ _ _ Wl (hr.mono (by decide)) (@aa _ _ _ _ _ (pv 0) (@aa _ _ _ _ _ (pv 1) af rfl) rfl) (by rfl) (by decide) (by rfl) (by rfl)))) dj))) (@ak _ _ _ _ _ (@aE _ _ (2) _ _ _ _ JK.nd rfl (Or.inl rfl) (@aF _ _ _ _ _ _ _ _ iC (@aG _ _ _ _ _ _ _ bD (pv 0) ao (fun _ _=>rfl)) (pv 1)) (by rfl) (by first|exact .inl rfl|exact .inr rfl|assumption)) (@ak _ _ _ _ _ (@gK _ _ _ _ _ _ (@aF _ _ _ _ _ _ _ _ qg (@aG _ _ _ _ _ _ _ bD (pv 0) ao (fun _ _=>rfl)) (pv 1)) (jq (pv 0) ao set_list) (by rfl) (by rfl) (by rfl)) (@az _ _ _ (@aZ _ _ _ _ (pv 2)))))),?_⟩
 obtain⟨ns,i,c,st,n,h1,h2,h3,h4,h5,h6,h7,h8,h9⟩:=id hB
 have hlb:=EV h1 h2
 have fin:∀(H1:Hp) (i' c':Int),H1 b=some (.lst [.ref l, .int i', .int c', .int st, .int n])->bh (Nb b) H H1->0<=i'->0<=c'->c'<10^60->
   ∀(H2:Hp),H2=upd H1 b (.lst [.ref l, .int i', .int (c'/many), .int st, .int n])->Q (.int (c'%many)) H2:=fun H1 i' c' e1 bt g1 g2 g3 H2 e2=>by
  subst e2
  have hd1:0<=c'/many:=vZ g2 (by omega)
  have hd2:c'/many<=c':=BA _ g2
  exact q _ _ (eS _ (by omega)) (eF _ hm) (bt.trans (bh.set rfl)) (dM.put hlb (bt _ _ hlb h2) h3 h4 g1 hd1 (by omega) h8 h9)
 walk_at "st"
 refine qi (fun c1=>?_) (fun c1=>?_)
 ·have c1:c=0:=of_decide_eq_true c1
  walk_at "st"
  refine qi (fun c2=>?_) (fun c2=>?_)
  ·have c2:i<(List.map V.int ns).length:=of_decide_eq_true c2
   rw[aj] at c2
   have hi:i.toNat<ns.length:=by omega
   obtain⟨g1,g2⟩:=h3 _ (ig hi)
   walk_at "st"
   refine R.w9 h2 (v:= .int ns[i.toNat]) (fT h5 (by rw[aL,aB hi];rfl)) ?_
   walk_at "st"
   refine fin (upd H b (.lst [.ref l, .int (i+1), .int ns[i.toNat], .int st, .int n])) (i+1) ns[i.toNat] aX (bh.set rfl) (by omega) g1 g2 _ ?_
   rw[AR]
   rfl
  ·walk_at "st"
   exact⟨b,l,many,rfl,hB,hm,hs,q⟩
 ·have c1:¬c=0:=of_decide_eq_false (DY.mpr c1)
  walk_at "st"
  exact fin H i c h1 (bh.refl _ _) h5 h6 h7 _ rfl
theorem QZ(is:List Int):PyData.eqv (.list (is.map PyData.int)) (.list [])=decide (is=[]):=by
 cases is<;>simp[PyData.eqv,PyData.eqvAll]
theorem UR(is:List Int):SeqAt.shaped (.list (is.map PyData.int))=true:=by
 have h:PyData.depthAll (is.map PyData.int)=0/\PyData.canLayAll0 (is.map PyData.int)=true:=by
  induction is with
  |nil=>simp[PyData.depthAll,PyData.canLayAll0]
  |cons a r ih=>simp[PyData.depthAll,PyData.depth,PyData.canLayAll0,PyData.canLay0,ih.2,ih.1]
 unfold SeqAt.shaped
 simp[PyData.canLay0,PyData.depth,h.2,h.1]
theorem Gk{nb:Addr->Prop}{H:Hp}:∀is:List Int,ah nb H (is.map PyData.int) (is.map V.int)
 |[]=>ah.nil
 |i::is=>ah.cons (.int i) (Gk is)
theorem SM{r:Int}(h0:r<=10100)(h:∀d:Int,2<=d->d<102->¬(d*d<=r/\r%d=0)):vV r:=fun d d1 d2 e=>by
 by_cases hd:d<102
 ·exact h d d1 hd ⟨d2,e⟩
 ·have:102*102<=d*d:=BB (by omega) (by omega) (by omega) (by omega)
  omega
theorem JM:cz ["number","found"] ["number"] (aR wI):=⟨rfl,rfl,rfl,by decide+kernel,rfl,by decide+kernel,by decide+kernel⟩
theorem Sf(F:bQ K "_law_prime_from" "_law_prime_from" wI f fd)(bf:mg "range"=none):
  bE P w K mg base bO 1 f fd ["number"] By:=by
 refine F.ok JM (fun vs H Q E h=>?_) (fun cdv A outer s H vs Q E hr h=>?_)
 ·obtain⟨n,rfl,hn1,hn2,q⟩:=h
  rfl
 obtain⟨n,rfl,hn1,hn2,q⟩:=h
 refine⟨_,(@ak _ _ _ _ _ (@dU _ _ _ _ _ _ _ _ c7 rfl (@EA _ _ _ _ _ _ _ rfl bf (@aa _ _ _ _ _ (pv 0) (@aa _ _ _ _ _ (@aF _ _ _ _ _ _ _ _ dB (pv 0) ao) af rfl) rfl) (by rfl) (by rfl)) (aH (i:=1) JM.nd rfl (Or.inr rfl)) (@az _ _ _ (@cN _ _ _ _ _ _ _ _ (@bB _ _ _ _ _ _ _ _ (mY hr.units) (iD (cP.of (show eU (aR wI) ["number","found"] _ ["k","found"] [none,some 1]=true by decide+kernel)) (@EA _ _ _ _ _ _ _ rfl bf (@aa _ _ _ _ _ ao (@aa _ _ _ _ _ ao af rfl) rfl) (by rfl) (by rfl)) (fun _ _ _ _=>⟨(aH (i:=0) (by show List.Nodup (["k","found"]:List Str);decide+kernel) rfl (Or.inl rfl)),(mL (PW.pt (qz (@bB _ _ _ _ _ _ _ _ LX (@aF _ _ _ _ _ _ _ _ gf (pv 0) (pv 0)) (pv 1) (bw _)) (pI (@bB _ _ _ _ _ _ _ _ iK (@aF _ _ _ _ _ _ _ _ iC (pv 1) (pv 0)) ao (bw _)))))),(pv 0)⟩)) (@eG _ _ _ _ af) (bw _)) (@az _ _ _ (@aZ _ _ _ _ (pv 1))) dj)) (by intro _;rfl)) (@az _ _ _ (@aZ _ _ _ _ ao))),?_⟩
 walk_at "st"
 refine CD (fun i σ H1=>dW H H1/\∃(x:Option V),σ=[some (.int n),x]) ⟨dW.refl _,none,rfl⟩ ?_ ?_
 ·rintro i σ H1 hi ⟨s1,x,rfl⟩
  have hi2:(i:Int)<60:=by omega
  walk_at "st"
  intro acc hacc
  refine R.Bc (fun j σ H2=>dW H1 H2/\(∃x:Option V,σ=[x,some (.int (n+i))])/\∃is:List Int,H2 acc=some (.lst (is.map V.int))/\is.length<=j/\(is=[]->∀d:Int,2<=d->d<2+j->¬(d*d<=n+i/\(n+i)%d=0))) ?_ ?_ ?_
  ·exact⟨dR hacc,⟨none,rfl⟩,[],aX,eY _,fun _ d d1 d2=>by omega⟩
  ·rintro j σ H2 hj ⟨s2,⟨x,rfl⟩,is,e2,l2,h2⟩
   have hj2:(j:Int)<100:=by omega
   have next:∀d:Int,d<2+((j+1:Nat):Int)->d<2+j\/d=2+j:=fun d h=>by omega
   walk_at "st"
   refine qi (fun c1=>?_) (fun c1=>?_)
   ·have c1:(2+(j:Int))*(2+j)<=n+i:=of_decide_eq_true c1
    walk_at "st"
    refine qi (fun c2=>?_) (fun c2=>?_)
    ·have c2:(n+i)%(2+(j:Int))=0:=of_decide_eq_true c2
     walk_at "st"
     refine⟨_,e2,?_,?_,⟨_,rfl⟩,is++[2+(j:Int)],?_,?_,fun e=>?_⟩
     ·rw[aj];exact EW (by omega)
     ·exact fun a o h=>by rw[au (jc h hacc)];exact s2 _ _ h
     ·rw[aX,cZ];rfl
     ·rw[bz,fW];omega
     ·simp at e
    ·have c2:¬(n+i)%(2+(j:Int))=0:=of_decide_eq_false (DY.mpr c2)
     refine⟨s2,⟨_,rfl⟩,is,e2,by omega,fun e d d1 d2=>?_⟩
     rcases next d d2 with h|h
     ·exact h2 e d d1 h
     ·rw[h];exact fun z=>c2 z.2
   ·have c1:¬(2+(j:Int))*(2+j)<=n+i:=of_decide_eq_false (DY.mpr c1)
    walk_at "st"
    refine⟨s2,⟨_,rfl⟩,is,e2,by omega,fun e d d1 d2=>?_⟩
    rcases next d d2 with h|h
    ·exact h2 e d d1 h
    ·rw[h];exact fun z=>c1 z.1
  ·rintro σ H2 ⟨s2,⟨x,rfl⟩,is,e2,l2,h2⟩
   walk_at "st"
   refine R.SI (by decide) fun p H3 s3 f3 e3=>?_
   refine⟨fun _=>False, .list (is.map PyData.int), .list [], .lst id (s3 _ _ e2) (Gk is), .lst id e3 ah.nil,UR is,by decide,?_⟩
   rw[QZ]
   walk_at "st"
   have s:dW H H3:=s1.trans (s2.trans s3)
   refine qi (fun c=>?_) (fun c=>?_)
   ·have c:is=[]:=by simpa using c
    walk_at "st"
    exact q _ _ s (by omega) (by omega) (SM (by omega) fun d d1 d2=>h2 c d d1 (by omega))
   ·walk_at "st"
    exact⟨s,_,rfl⟩
 ·rintro σ H1 ⟨s1,x,rfl⟩
  walk_at "st"
  refine q _ _ s1 (by omega) (by omega) fun d d1 d2=>?_
  have:2*2<=d*d:=BB d1 d1 (by omega) (by omega)
  omega
def BS:DF:=fun ds Φ=>ds=[]/\∀p:Int,gv p->p<10^40->∀f,Φ f (.int p)
theorem V1:cU BS:=by
 intro ds Φ Ψ hm z
 obtain⟨e,q⟩:=hm
 exact⟨e,fun p h1 h2 f=>z _ _ (q p h1 h2 f)⟩
theorem Nn:∀x∈([2,3,5,7,2,11,101,10007,65537,1000003,998244353,1000000007,2147483647,1000000000039,1000000000000000003,18446744073709551557,2305843009213693951,618970019642690137449562111,162259276829213363391578010288127,170141183460469231731687303715884105727,1000000000000000000000000000000000000003,9999999999999999999999999999999999999983]:List Int),x∈uY/\x<10^40:=by decide+kernel
theorem qy:cz ["bag","some","way"] ["bag"] (aR B8):=⟨rfl,rfl,rfl,by decide+kernel,rfl,by decide+kernel,by decide+kernel⟩
theorem Xh(F:bQ K "_law_prime" "_law_prime" B8 f fd)(dQ:Callee P w K mg base "_law_draw" 2 ["bag","many"] jn)(OL:Callee P w K mg base "_law_prime_from" 1 ["number"] By):
  bE P w K mg base bO 3 f fd ["bag"] (fY 1 BS):=by
 refine F.ok qy (fun vs H Q E h=>h.1) (fun cdv A outer s H vs Q E hr h=>?_)
 obtain⟨b,l,ws,nb,ds,Φ,rfl,hB,hlive,hnb,hds,aD,hF⟩:=ny h
 obtain⟨rfl,q⟩:=hF
 refine⟨_,(@ak _ _ _ _ _ (@YD _ 1 _ _ _ _ _ _ qy.nd rfl (Or.inl rfl) rfl (Or.inl rfl)) (@ak _ _ _ _ _ (@aE _ _ (1) _ _ _ _ qy.nd rfl (Or.inl rfl) (@aF _ _ _ _ _ _ _ _ n5 (pv 1) (@eG _ _ _ _ (@DM _ _ _ rfl))) (by rfl) (by first|exact .inl rfl|exact .inr rfl|assumption)) (@ak _ _ _ _ _ (@aE _ _ (1) _ _ _ _ qy.nd rfl (Or.inl rfl) (@aF _ _ _ _ _ _ _ _ n5 (pv 1) (@eG _ _ _ _ (@aa _ _ _ _ _ ao (@aa _ _ _ _ _ ao af rfl) rfl))) (by rfl) (by first|exact .inl rfl|exact .inr rfl|assumption)) (@ak _ _ _ _ _ (@aE _ _ (1) _ _ _ _ qy.nd rfl (Or.inl rfl) (@aF _ _ _ _ _ _ _ _ n5 (pv 1) (@eG _ _ _ _ (@aa _ _ _ _ _ ao (@aa _ _ _ _ _ ao af rfl) rfl))) (by rfl) (by first|exact .inl rfl|exact .inr rfl|assumption)) (@ak _ _ _ _ _ (@aE _ _ (2) _ _ _ _ qy.nd rfl (Or.inl rfl) (@aK _ _ _ _ _ _ _ _ _ _ dQ (hr.mono (by decide)) (@aa _ _ _ _ _ (pv 0) (@aa _ _ _ _ _ ao af rfl) rfl) (by rfl) (by decide) (by rfl) (by rfl)) (by rfl) (by first|exact .inl rfl|exact .inr rfl|assumption)) (@az _ _ _ (@aZ _ _ _ _ (@U3 _ _ _ _ _ _ _ _ (@bB _ _ _ _ _ _ _ _ uv (pv 2) ao (bw _)) (@aG _ _ _ _ _ _ (cF K) bD (pv 1) (pv 2) (fun _ _=>rfl)) (@aK _ _ _ _ _ _ _ _ _ _ OL (hr.mono (by decide)) (@aa _ _ _ _ _ (@aF _ _ _ _ _ _ _ _ dB ao (@aK _ _ _ _ _ _ _ _ _ _ dQ (hr.mono (by decide)) (@aa _ _ _ _ _ (pv 0) (@aa _ _ _ _ _ ao af rfl) rfl) (by rfl) (by decide) (by rfl) (by rfl))) af rfl) (by rfl) (by decide) (by rfl) (by rfl)))))))))),?_⟩
 refine Sv.nQ hB hlive hnb hds aD (ρ:=[.ay, .no, .no]) rfl ?_
 clear aD hds
 walk_at "dt"
 intro way w1 w2
 by_cases c:way<22
 ·walk_at "dt"
  obtain⟨m,em,hm1,hm2⟩:=pick (L:=[2,3,5,7,2,11,101,10007,65537,1000003,998244353,1000000007,2147483647,1000000000039,1000000000000000003,18446744073709551557,2305843009213693951,618970019642690137449562111,162259276829213363391578010288127,170141183460469231731687303715884105727,1000000000000000000000000000000000000003,9999999999999999999999999999999999999983]) (k:=way) w1 (by show _<(22:Int);omega) _ Nn
  refine⟨_,em,?_⟩
  exact q m (O9 m hm1) hm2 _
 ·walk_at "dt"
  intro r r1 r2
  walk_at "dt"
  exact fun r' h1 h2=>q r' h1 h2 _
def Bh:DF:=fun ds Φ=>∃p n:Int,ds=[.int p, .int n]/\Vl p/\0<=n/\n<=10000/\∀os:List Int,(os.length:Int)=n->(∀x∈os,0<=x/\x<p)->Φ true (.list (os.map .int))
theorem YC:cU Bh:=by
 intro ds Φ Ψ hm z
 obtain⟨p,n,e,h1,h2,h3,q⟩:=hm
 exact⟨p,n,e,h1,h2,h3,fun os a b=>z _ _ (q os a b)⟩
theorem EC:cz ["bag","p","n","way"] ["bag","p","n"] (aR qP):=⟨rfl,rfl,rfl,by decide+kernel,rfl,by decide+kernel,by decide+kernel⟩
theorem NL(F:bQ K "_law_letters" "_law_letters" qP f fd)(dQ:Callee P w K mg base "_law_draw" 2 ["bag","many"] jn)(bf:mg "range"=none)(kg:mg "int"=none)(pW:mg "min"=none):
  bE P w K mg base bO 3 f fd ["bag","p","n"] (fY 3 Bh):=by
 refine F.ok EC (fun vs H Q E h=>h.1) (fun cdv A outer s H vs Q E hr h=>?_)
 obtain⟨b,l,ws,nb,ds,Φ,rfl,hB,hlive,hnb,hds,aD,hF⟩:=ny h
 obtain⟨p,n,rfl,⟨p2,Zp⟩,n0,n1,q⟩:=hF
 refine⟨_,(@ak _ _ _ _ _ (@aE _ _ (3) _ _ _ _ EC.nd rfl (Or.inr rfl) (@aK _ _ _ _ _ _ _ _ _ _ dQ (hr.mono (by decide)) (@aa _ _ _ _ _ (pv 0) (@aa _ _ _ _ _ ao af rfl) rfl) (by rfl) (by decide) (by rfl) (by rfl)) (by rfl) (by first|exact .inl rfl|exact .inr rfl|assumption)) (@ak _ _ _ _ _ (@cN _ _ _ _ _ _ _ _ (@bB _ _ _ _ _ _ _ _ iK (pv 3) ao (bw _)) (@az _ _ _ (@aZ _ _ _ _ (iD (cP.of (show eU (aR qP) ["bag","p","n","way"] _ ["k","bag","p"] [none,some 0,some 1]=true by decide+kernel)) (@gF _ _ _ _ _ _ rfl bf (@aa _ _ _ _ _ (pv 2) af rfl) (by rfl)) (fun _ _ _ _=>⟨(aH (i:=0) (by show List.Nodup (["k","bag","p"]:List Str);decide+kernel) rfl (Or.inl rfl)),iy,(@aF _ _ _ _ _ _ _ _ gf (@aK _ _ _ _ _ _ _ _ _ _ dQ (hr.mono (by decide)) (@aa _ _ _ _ _ (pv 1) (@aa _ _ _ _ _ (pv 2) af rfl) rfl) (by rfl) (by decide) (by rfl) (by rfl)) (@gH _ _ _ _ _ _ _ _ _ Pr rfl kg z6 (@aa _ _ _ _ _ (@qj _ _ _ _ _ _ _ _ iK (@aK _ _ _ _ _ _ _ _ _ _ dQ (hr.mono (by decide)) (@aa _ _ _ _ _ (pv 1) (@aa _ _ _ _ _ ao af rfl) rfl) (by rfl) (by decide) (by rfl) (by rfl)) ao (bw _)) af rfl) (by decide) (by decide) (by rfl) (by rfl)))⟩)))) dj) (@az _ _ _ (@aZ _ _ _ _ (iD (cP.of (show eU (aR qP) ["bag","p","n","way"] _ ["k","bag","p","way"] [none,some 0,some 1,some 3]=true by decide+kernel)) (@gF _ _ _ _ _ _ rfl bf (@aa _ _ _ _ _ (pv 2) af rfl) (by rfl)) (fun _ _ _ _=>⟨(aH (i:=0) (by show List.Nodup (["k","bag","p","way"]:List Str);decide+kernel) rfl (Or.inl rfl)),iy,(@aK _ _ _ _ _ _ _ _ _ _ dQ (hr.mono (by decide)) (@aa _ _ _ _ _ (pv 1) (@aa _ _ _ _ _ (@aG _ _ _ _ _ _ (cF K) bD (@eG _ _ _ _ (@aa _ _ _ _ _ (pv 2) (@aa _ _ _ _ _ (@cH _ _ _ _ _ _ _ _ _ (OM rfl) rfl pW Ic (@aa _ _ _ _ _ (pv 2) (@aa _ _ _ _ _ ao af rfl) rfl) (by decide) (by decide) (by rfl) (by rfl)) af rfl) rfl)) (pv 3) (fun _ _=>rfl)) af rfl) rfl) (by rfl) (by decide) (by rfl) (by rfl))⟩)))))),?_⟩
 refine Sv.nQ hB hlive hnb hds aD (ρ:=[.ay, .d false _, .d false _, .no]) rfl ?_
 clear aD hds
 walk_at "dt"
 intro way w1 w2
 by_cases c:way=2
 ·walk_at "dt"
  refine aC.ev (aC.kR (by decide) rfl ?_)
  walk_at "dt"
  refine gX.ints (fun x=>0<=x/\x<p) ?_ fun os iw hos=>q os (by omega) hos
  rintro i d ⟨hi,rfl⟩
  walk_at "dt"
  refine⟨by walk_at "wk",?_⟩
  walk_at "dt"
  intro r r1 r2
  walk_at "dt"
  intro s s1 s2
  by_cases c2:s=3
  ·walk_at "dt"
   rw[decide_eq_true c2]
   exact⟨by simp;omega,by simp;omega⟩
  ·walk_at "dt"
   rw[decide_eq_false c2]
   exact⟨by simp,by simp;omega⟩
 ·obtain⟨m,em,m1,m2⟩:∃m:Int,bN [PyData.int p, .int (if 3<p then 3 else p)] way=some (.int m)/\1<=m/\m<=p:=by
   rcases(show way=0\/way=1 by omega) with rfl|rfl
   ·exact⟨p,rfl,by omega,by omega⟩
   ·exact⟨_,rfl,by split<;>omega,by split<;>omega⟩
  walk_at "dt"
  refine aC.ev (aC.kR (by decide) rfl ?_)
  walk_at "dt"
  refine gX.ints (fun x=>0<=x/\x<p) ?_ fun os iw hos=>q os (by omega) hos
  rintro i d ⟨hi,rfl⟩
  walk_at "dt"
  refine⟨by walk_at "wk",?_⟩
  walk_at "dt"
  exact fun r r1 r2=>⟨r,rfl,r1,by omega⟩
def ve:DF:=fun ds Φ=>∃p a b:Int,ds=[.int p, .int a, .int b]/\gv p/\p<10^40/\b%p≠0/\ -(10^81)<=a/\a<=10^81/\((∃k,b*sol p b a-a=p*k)->Φ true (.int (sol p b a)))
theorem Kq:cU ve:=by
 intro ds Φ Ψ hm z
 obtain⟨p,a,b,e,h1,h2,h3,h4,h5,q⟩:=hm
 exact⟨p,a,b,e,h1,h2,h3,h4,h5,fun h=>z _ _ (q h)⟩
theorem ly:cz ["p","a","b","old","new","one","two","times"] ["p","a","b"] (aR Al):=⟨rfl,rfl,rfl,by decide+kernel,rfl,by decide+kernel,by decide+kernel⟩
theorem MH(F:bQ K "_law_over" "_law_over" Al f fd):
  bE P w K mg base bO 1 f fd ["p","a","b"] (aS 3 ve):=by
 refine F.ok ly (fun vs H Q E h=>h.1) (fun cdv A outer s H vs Q E hr h=>?_)
 obtain⟨nb,ds,Φ,hlive,hds,aD,hF⟩:=fM h
 obtain⟨p,a,b,rfl,hp,l8,hb,a0,a1,q⟩:=hF
 refine⟨_,(@ak _ _ _ _ _ (@gK _ _ _ _ _ _ (@bF _ _ _ _ _ (@aa _ _ _ _ _ (@aF _ _ _ _ _ _ _ _ iC (pv 2) (pv 0)) (@aa _ _ _ _ _ (pv 0) (@aa _ _ _ _ _ ao (@aa _ _ _ _ _ ao af rfl) rfl) rfl) rfl)) (@iu _ (K) _ _ _ (4) _ rfl rfl (@bV _ _ _ _ _ (aH (i:=3) ly.nd rfl (Or.inl rfl)) (@bV _ _ _ _ _ (aH (i:=4) ly.nd rfl (Or.inl rfl)) (@bV _ _ _ _ _ (aH (i:=5) ly.nd rfl (Or.inl rfl)) (@bV _ _ _ _ _ (aH (i:=6) ly.nd rfl (Or.inl rfl)) gM (by rfl)) (by rfl)) (by rfl)) (by rfl)) (by rfl) (by rfl)) (by rfl) (by rfl) (by rfl)) (@ak _ _ _ _ _ (@w4 _ _ _ _ _ _ c7 (@bB _ _ _ _ _ _ _ _ jV (pv 4) ao (bw _)) (@ak _ _ _ _ _ (@aE _ _ (7) _ _ _ _ ly.nd rfl (Or.inl rfl) (@aF _ _ _ _ _ _ _ _ qg (pv 3) (pv 4)) (by rfl) (by first|exact .inl rfl|exact .inr rfl|assumption)) (@az _ _ _ (@gK _ _ _ _ _ _ (@bF _ _ _ _ _ (@aa _ _ _ _ _ (pv 4) (@aa _ _ _ _ _ (@aF _ _ _ _ _ _ _ _ kB (pv 3) (@aF _ _ _ _ _ _ _ _ gf (pv 7) (pv 4))) (@aa _ _ _ _ _ (pv 6) (@aa _ _ _ _ _ (@aF _ _ _ _ _ _ _ _ kB (pv 5) (@aF _ _ _ _ _ _ _ _ gf (pv 7) (pv 6))) af rfl) rfl) rfl) rfl)) (@iu _ (K) _ _ _ (4) _ rfl rfl (@bV _ _ _ _ _ (aH (i:=3) ly.nd rfl (Or.inl rfl)) (@bV _ _ _ _ _ (aH (i:=4) ly.nd rfl (Or.inl rfl)) (@bV _ _ _ _ _ (aH (i:=5) ly.nd rfl (Or.inl rfl)) (@bV _ _ _ _ _ (aH (i:=6) ly.nd rfl (Or.inl rfl)) gM (by rfl)) (by rfl)) (by rfl)) (by rfl)) (by rfl) (by rfl)) (by rfl) (by rfl) (by rfl))))) (@az _ _ _ (@aZ _ _ _ _ (@aF _ _ _ _ _ _ _ _ iC (@aF _ _ _ _ _ _ _ _ gf (pv 1) (pv 5)) (pv 0)))))),?_⟩
 refine Sv.fP hlive hds aD (ρ:=[.d false _, .d false _, .d false _, .no, .no, .no, .no, .no]) rfl ?_
 clear aD hds
 have p2:=hp.1
 have m1:=eS b (show p≠0 by omega)
 have m2:=eF b (show 0<p by omega)
 walk_at "dt"
 show mO _ _ _ _ [PyData.int (b%p), .int p, .int 1, .int 0] _
 walk_at "dt"
 refine Sv.AA (fun ρ=>∃(L lt r t:Int) (x6:Sl),ρ=[.d false (.int p), .d false (.int a), .d false (.int b), .d true (.int L), .d true (.int r), .d true (.int lt), .d true (.int t),x6]/\(-p<=lt/\lt<=p)/\((L=b%p/\r=p/\lt=1/\t=0)\/Eu p b L lt r t)) (fun ρ:Rh=>match ρ[4]? with|some (Sl.d _ (PyData.int r))=>r.toNat|_=>0) ⟨_,_,_,_,_,rfl,by omega, .inl ⟨rfl,rfl,rfl,rfl⟩⟩ ?_
 rintro ρ ⟨L,lt,r,t,x6,rfl,hlt,hI⟩
 by_cases c:r=0
 ·rcases hI with ⟨_,h,_,_⟩|hE
  ·omega
  subst c
  obtain⟨k,hk⟩:=hE.fin hp hb
  obtain⟨t1,t2⟩:=hE.tb
  have sa:Sm a:=by unfold Sm;omega
  have sl:Sm lt:=by unfold Sm;omega
  walk_at "dt"
  have e:=nN (a*lt) p
  have ef:=nN lt p
  have ex:∃k,b*(a*lt%p)-a=p*k:=⟨a*k+a*(lt/p)*b-a*lt/p*b,by
   generalize a*lt/p=Q1 at*
   generalize a*lt%p=R1 at*
   generalize lt/p=Q2 at*
   generalize lt%p=R2 at*
   have h1:R1=a*lt-p*Q1:=by omega
   have h2:lt=p*Q2+R2:=by omega
   rw[h1]
   have h3:a*(R2*b)=a*(1+p*k):=by rw[hk]
   grind⟩
  have es:=Jm (x:=a*lt%p) (a:=a) hp hb (eS _ (by omega)) (eF _ (by omega)) ex
  rw[es]
  rw[es] at ex
  exact q ex
 ·rcases hI with ⟨rfl,rfl,rfl,rfl⟩|hE
  ·have e0:b%r/r=0:=Fg m1 m2
   walk_at "dt"
   show mO _ _ _ _ [PyData.int r, .int (b%r-b%r/r*r), .int 0, .int (1-b%r/r*0)] _
   rw[e0]
   walk_at "dt"
   refine⟨⟨_,_,_,_,_,rfl,by omega, .inr ?_⟩,?_⟩
   ·rw[oE,vo,Aa,vo]
    exact Eu.start p2
   ·show(b%r-0*r).toNat<r.toNat
    rw[oE];omega
  ·obtain⟨t1,t2⟩:=hE.tb
   have e1:=hE.l0
   have e2:=hE.r0
   have e3:=hE.lp
   have e4:=hE.rp
   have hr:0<r:=by omega
   have q1:0<=L/r:=vZ (by omega) (by omega)
   have q2:L/r<=L:=BA _ (by omega)
   obtain⟨N1,N2⟩:=hE.next hr
   walk_at "dt"
   show mO _ _ _ _ [PyData.int r, .int (L-L/r*r), .int t, .int (lt-L/r*t)] _
   walk_at "dt"
   exact⟨⟨_,_,_,_,_,rfl,⟨t1,t2⟩, .inr N1⟩,by show(L-L/r*r).toNat<r.toNat;omega⟩
def sG:DF:=fun ds Φ=>∃(p:Int) (prs:aq) (wd:Wo),ds=[.int p,fJ prs,kc wd]/\0<p/\prs.length<=10000/\ou prs wd.length/\lz wd/\Φ true (.int (aU prs wd%p))
theorem Bp:cU sG:=by
 intro ds Φ Ψ hm z
 obtain⟨p,prs,wd,e,h1,h2,h3,h4,q⟩:=hm
 exact⟨p,prs,wd,e,h1,h2,h3,h4,z _ _ q⟩
theorem OU:cz ["p","pairs","word"] ["p","pairs","word"] (aR uT):=⟨rfl,rfl,rfl,by decide+kernel,rfl,by decide+kernel,by decide+kernel⟩
theorem NT(F:bQ K "_law_sum" "_law_sum" uT f fd)(qc:mg "sum"=none):
    bE P w K mg base bO 1 f fd ["p","pairs","word"] (aS 3 sG):=by
  refine F.ok OU (fun vs H Q E h=>h.1) (fun cdv A outer s H vs Q E hr h=>?_)
  obtain⟨nb,ds,Φ,hlive,hds,aD,hF⟩:=fM h
  obtain⟨p,prs,wd,rfl,hp,hl,h1,h2,q⟩:=hF
  refine⟨_,(@az _ _ _ (@aZ _ _ _ _ (@aF _ _ _ _ _ _ _ _ iC (@cH _ _ _ _ _ _ _ _ (zI K) (WX rfl) rfl qc Jl (@aa _ _ _ _ _ (iD (cP.of (show eU (aR uT) ["p","pairs","word"] _ ["place","factor","word"] [none,none,some 2]=true by decide+kernel)) (@eB _ _ _ _ (pv 1)) (fun _ _ _ _=>⟨(@iu _ (K) _ _ _ (2) _ rfl rfl (@bV _ _ _ _ _ (aH (i:=0) (by show List.Nodup (["place","factor","word"]:List Str);decide+kernel) rfl (Or.inl rfl)) (@bV _ _ _ _ _ (aH (i:=1) (by show List.Nodup (["place","factor","word"]:List Str);decide+kernel) rfl (Or.inl rfl)) gM (by rfl)) (by rfl)) (by rfl) (by rfl)),(mL (@bB _ _ _ _ _ _ _ _ Dy (@aG _ _ _ _ _ _ (cF K) bD (pv 2) (pv 0) (fun _ _=>rfl)) qG (bw _))),(@aF _ _ _ _ _ _ _ _ gf (pv 1) (@aG _ _ _ _ _ _ (cF K) bD (pv 2) (pv 0) (fun _ _=>rfl)))⟩)) af rfl) (by decide) (by decide) (by rfl) (by rfl)) (pv 0)))),?_⟩
  refine Sv.fP hlive hds aD (ρ:=[.d false _, .d false _, .d false _]) rfl ?_
  clear aD hds
  walk_at "dt"
  refine aC.ev (aC.jM (by decide) rfl ?_)
  walk_at "dt"
  refine⟨by rw[aj];exact hl,fun v=>⟨false,fun i ds=>∃ns:List Int,ds=ns.map .int/\ns.sum=aU (prs.take i) wd,⟨[],rfl,by simp[aU]⟩,?_,?_⟩⟩
  · rintro i d ds hd hl' ⟨ns,rfl,hs⟩
    obtain⟨pr,bu,rfl⟩:=eO hd
    obtain⟨g1,g2,g3⟩:=h1 pr (br bu)
    obtain⟨o,ho,hat⟩:=GI (xs:=wd) g7 g1 g2 rfl
    have hi:i<prs.length:=(aP.mp bu).1
    have rJ:=JY (wd:=wd) hi
    have LG:prs[i]=pr:=(aP.mp bu).2
    rw[LG] at rJ
    walk_at "dt"
    refine⟨by walk_at "wk",?_⟩
    walk_at "dt"
    rw[JJ]
    cases o with
    | none =>
      walk_at "dt"
      refine⟨ns,rfl,?_⟩
      rw[rJ,hs]
      unfold gE
      rw[ho];simp
    | some x =>
      have hx:Sm x:=h2 x (br ho)
      have ZS:bN (wd.map g7) pr.1=some (.int x):=hat
      walk_at "dt"
      refine⟨ns++[pr.2*x],by simp,?_⟩
      rw[rJ,vg,hs]
      unfold gE
      rw[ho];simp
  · rintro ds hl' ⟨ns,rfl,hs⟩
    rw[aj,fE] at hs
    refine⟨ns,rfl,?_⟩
    rw[hs]
    walk_at "dt"
    exact q
def CN:DF:=fun ds Φ=>∃(ss:List Int),ds=[.list (ss.map .int)]/\0<ss.length/\ss.length<=100/\(∀x∈ss,oS x)/\∀(f:Bool) (q:Int) (R:List (List Int)),oS q->(R.length:Int)<=(q+1)*q->(∀r∈R,∃s c,ja q s c r)->Ap R->Φ f (.tuple [.int (q*q), .list (R.map aI)])
theorem Vf:cU CN:=by
 intro ds Φ Ψ hm z
 obtain⟨ss,e,h1,h2,h3,q⟩:=hm
 exact⟨ss,e,h1,h2,h3,fun f k R a b c d=>z _ _ (q f k R a b c d)⟩
theorem lC:cz ["bag","sides","q","thin","rows","slope","kept","c","row"] ["bag","sides"] (aR rY):=⟨rfl,rfl,rfl,by decide+kernel,rfl,by decide+kernel,by decide+kernel⟩
theorem LL(F:bQ K "_law_lines" "_law_lines" rY f fd)(dQ:Callee P w K mg base "_law_draw" 2 ["bag","many"] jn)(bf:mg "range"=none)(bW:mg "len"=none):
    bE P w K mg base bO 3 f fd ["bag","sides"] (fY 2 CN):=by
  refine F.ok lC (fun vs H Q E h=>h.1) (fun cdv A outer s H vs Q E hr h=>?_)
  obtain⟨b,l,ws,nb,ds,Φ,rfl,hB,hlive,hnb,hds,aD,hF⟩:=ny h
  obtain⟨ss,rfl,hs0,hs1,hss,qq⟩:=hF
  refine⟨_,(@ak _ _ _ _ _ (@aE _ _ (2) _ _ _ _ lC.nd rfl (Or.inr rfl) (@aG _ _ _ _ _ _ (cF K) bD (pv 1) (@aK _ _ _ _ _ _ _ _ _ _ dQ (hr.mono (by decide)) (@aa _ _ _ _ _ (pv 0) (@aa _ _ _ _ _ (@cH _ _ _ _ _ _ _ _ (gp K) iP rfl bW ir (@aa _ _ _ _ _ (pv 1) af rfl) (by decide) (by decide) (by rfl) (by rfl)) af rfl) rfl) (by rfl) (by decide) (by rfl) (by rfl)) (fun _ _=>rfl)) (by rfl) (by first|exact .inl rfl|exact .inr rfl|assumption)) (@ak _ _ _ _ _ (@aE _ _ (3) _ _ _ _ lC.nd rfl (Or.inl rfl) (@aK _ _ _ _ _ _ _ _ _ _ dQ (hr.mono (by decide)) (@aa _ _ _ _ _ (pv 0) (@aa _ _ _ _ _ ao af rfl) rfl) (by rfl) (by decide) (by rfl) (by rfl)) (by rfl) (by first|exact .inl rfl|exact .inr rfl|assumption)) (@ak _ _ _ _ _ (@aE _ _ (4) _ _ _ _ lC.nd rfl (Or.inl rfl) (@eG _ _ _ _ af) (by rfl) (by first|exact .inl rfl|exact .inr rfl|assumption)) (@ak _ _ _ _ _ (@dU _ _ _ _ _ _ _ _ c7 rfl (@gF _ _ _ _ _ _ rfl bf (@aa _ _ _ _ _ (@aF _ _ _ _ _ _ _ _ dB (pv 2) ao) af rfl) (by rfl)) (aH (i:=5) lC.nd rfl (Or.inr rfl)) (@ak _ _ _ _ _ (@aE _ _ (6) _ _ _ _ lC.nd rfl (Or.inl rfl) (@qj _ _ _ _ _ _ _ _ pY (@aK _ _ _ _ _ _ _ _ _ _ dQ (hr.mono (by decide)) (@aa _ _ _ _ _ (pv 0) (@aa _ _ _ _ _ ao af rfl) rfl) (by rfl) (by decide) (by rfl) (by rfl)) ao (bw _)) (by rfl) (by first|exact .inl rfl|exact .inr rfl|assumption)) (@az _ _ _ (@dU _ _ _ _ _ _ _ _ c7 rfl (@gF _ _ _ _ _ _ rfl bf (@aa _ _ _ _ _ (pv 2) af rfl) (by rfl)) (aH (i:=7) lC.nd rfl (Or.inr rfl)) (@ak _ _ _ _ _ (lZ (i:=8) lC.nd rfl rfl (cP.of (show eU (aR rY) ["bag","sides","q","thin","rows","slope","kept","c","row"] _ ["a","q","slope","c"] [none,some 2,some 5,some 7]=true by decide+kernel)) (@gF _ _ _ _ _ _ rfl bf (@aa _ _ _ _ _ (pv 2) af rfl) (by rfl)) (fun _ _ _ _=>⟨(aH (i:=0) (by show List.Nodup (["a","q","slope","c"]:List Str);decide+kernel) rfl (Or.inl rfl)),iy,(@aF _ _ _ _ _ _ _ _ dB (@aF _ _ _ _ _ _ _ _ gf (pv 0) (pv 1)) (@aF _ _ _ _ _ _ _ _ iC (@aF _ _ _ _ _ _ _ _ dB (@aF _ _ _ _ _ _ _ _ gf (pv 2) (pv 0)) (pv 3)) (pv 1)))⟩)) (@ak _ _ _ _ _ (@cN _ _ _ _ _ _ _ _ (@bB _ _ _ _ _ _ _ _ iK (pv 5) (pv 2) (bw _)) (@az _ _ _ (lZ (i:=8) lC.nd rfl rfl (cP.of (show eU (aR rY) ["bag","sides","q","thin","rows","slope","kept","c","row"] _ ["b","q","c"] [none,some 2,some 7]=true by decide+kernel)) (@gF _ _ _ _ _ _ rfl bf (@aa _ _ _ _ _ (pv 2) af rfl) (by rfl)) (fun _ _ _ _=>⟨(aH (i:=0) (by show List.Nodup (["b","q","c"]:List Str);decide+kernel) rfl (Or.inl rfl)),iy,(@aF _ _ _ _ _ _ _ _ dB (@aF _ _ _ _ _ _ _ _ gf (pv 2) (pv 1)) (pv 0))⟩))) dj) (@az _ _ _ (@cN _ _ _ _ _ _ _ _ (PW.pt (qz (@nB _ (K) _ _ rfl (pv 6) (fun _=>rfl)) (pI (PW.pt (CV (@bB _ _ _ _ _ _ _ _ pY (pv 3) ao (bw _)) (AY (@bB _ _ _ _ _ _ _ _ pY (@aK _ _ _ _ _ _ _ _ _ _ dQ (hr.mono (by decide)) (@aa _ _ _ _ _ (pv 0) (@aa _ _ _ _ _ ao af rfl) rfl) (by rfl) (by decide) (by rfl) (by rfl)) ao (bw _)))))))) (@az _ _ _ (@kO _ _ _ _ (iU jU kN k6 kG (pv 4) (@aa _ _ _ _ _ (pv 8) af rfl)) (by rfl))) dj)))) (by intro _;rfl)))) (by intro _;rfl)) (@az _ _ _ (@aZ _ _ _ _ (@bF _ _ _ _ _ (@aa _ _ _ _ _ (@aF _ _ _ _ _ _ _ _ gf (pv 2) (pv 2)) (@aa _ _ _ _ _ (pv 4) af rfl) rfl)))))))),?_⟩
  refine Sv.nQ hB hlive hnb hds aD (ρ:=[.ay, .d false _, .no, .no, .no, .no, .no, .no, .no]) rfl ?_
  clear aD hds
  have hsm:(ss.map PyData.int).length=ss.length:=aj ..
  walk_at "dt"
  intro s0 s1 s2
  have hL:s0.toNat<ss.length:=by omega
  have gk:=hss _ (ig hL)
  obtain⟨w,hw⟩:∃w,ss[s0.toNat]=w:=⟨_,rfl⟩
  rw[hw] at gk
  have w1:2<=w:=by rcases gk with rfl|rfl|rfl|rfl<;>decide
  have w2:w<=7:=by rcases gk with rfl|rfl|rfl|rfl<;>decide
  refine⟨_,rfl, .int w,fT s1 (by rw[aL,aB hL,hw];rfl),?_⟩
  walk_at "dt"
  intro th t1 t2
  walk_at "dt"
  intro A4
  refine Sv.seq ?_
  refine Sv.nh ?_
  walk_at "dt"
  have hmul:∀i:Nat,((i+1:Nat):Int)*w=(i:Int)*w+w:=fun i=>by rw[zG,sZ];simp
  refine⟨fun i ρ=>∃(R:List (List Int)) (T:List (Int×Int)) (f4:Bool) (x5 x6 x7 x8:Sl),(R.length:Int)<=i*w/\mX w R T/\(∀t∈T,t.1<i)/\ρ=[.ay, .d false (.list (ss.map .int)), .d true (.int w), .d true (.int th), .own A4 f4 (R.map aI),x5,x6,x7,x8],⟨[],[],_,_,_,_,_,by simp,⟨rfl,mJ,fun i r t z=>by simp at z⟩,(fun _ h=>nomatch h),rfl⟩,?_,?_⟩
  · rintro i d ρ ⟨hi,rfl⟩ ⟨R,T,f4,x5,x6,x7,x8,lJ,hR,hT,rfl⟩
    have hb:(i:Int)*w<=8*7:=by
      have:=tY (show(i:Int)<=8 by omega) (show 0<=w by omega)
      omega
    walk_at "dt"
    intro k0 k1 k2
    walk_at "dt"
    generalize decide (0<k0)=kept
    refine Sv.nh ?_
    walk_at "dt"
    refine⟨fun j ρ=>∃(R:List (List Int)) (T:List (Int×Int)) (f4:Bool) (x7 x8:Sl),(R.length:Int)<=i*w+j/\mX w R T/\(∀t∈T,t.1<i\/(t.1=i/\t.2<j))/\ρ=[.ay, .d false (.list (ss.map .int)), .d true (.int w), .d true (.int th), .own A4 f4 (R.map aI), .d true (.int (0+(i:Int))), .d true (.bool kept),x7,x8],⟨R,T,_,_,_,by omega,hR,fun t ht=> .inl (hT t ht),rfl⟩,?_,?_⟩
    · rintro j d ρ ⟨hj,rfl⟩ ⟨R,T,f4,x7,x8,lJ,hR,hT,rfl⟩
      have zU:(R.map aI).length=R.length:=aj ..
      walk_at "dt"
      refine aC.ev (aC.kR (by decide) rfl ?_)
      walk_at "dt"
      refine gX.rel PyData.int true (fun a r=>r=(a:Int)*w+((0+(i:Int))*a+(0+(j:Int)))%w) ?_ fun os iw hos=>?_
      · rintro a d ⟨ha,rfl⟩
        walk_at "dt"
        refine⟨by walk_at "wk",?_⟩
        walk_at "dt"
        rw[show(0+(a:Int))=a by omega]
      have uR:∀(os:List Int),ja w i j os->∃(R':List (List Int)) (T':List (Int×Int)),(R.map aI)++[.list (os.map .int)]=R'.map aI/\(R'.length:Int)<=i*w+(j+1:Nat)/\mX w R' T'/\∀t∈T',t.1<i\/(t.1=i/\t.2<(j+1:Nat)):=fun os h=>⟨R++[os],T++[((i:Int),(j:Int))],by rw[cZ];rfl,by rw[bz,fW];omega,hR.snoc h (fun z=>by have:=hT _ z;dsimp only at this;omega),fun t ht=>by
        rcases dg.mp ht with z|z
        · have:=hT t z;omega
        · rw[aQ.mp z];right;exact⟨rfl,by show(j:Int)<(j+1:Nat);omega⟩⟩
      have wY:∀t∈T,t.1<i\/(t.1=i/\t.2<(j+1:Nat)):=fun t ht=>by have:=hT t ht;omega
      by_cases cs:(0+(i:Int))=w
      · walk_at "dt"
        refine aC.ev (aC.kR (by decide) rfl ?_)
        walk_at "dt"
        refine gX.rel PyData.int true (fun a r=>r=(0+(j:Int))*w+a) ?_ fun os iw hos=>?_
        · rintro a d ⟨ha,rfl⟩
          walk_at "dt"
          refine⟨by walk_at "wk",?_⟩
          walk_at "dt"
          omega
        · have lK:ja w i j os:=⟨by omega,by omega,by omega,by omega,iw,fun a x e=>by rw[if_pos (by omega),hos a x e,kP]⟩
          walk_at "dt"
          cases kept with
          | false =>
            walk_at "dt"
            exact⟨R,T,_,_,_,by omega,hR,wY,rfl⟩
          | true =>
            walk_at "dt"
            by_cases ct:0<th
            · walk_at "dt"
              obtain⟨R',T',e,hl,hr,ht⟩:=uR os lK
              rw[e]
              exact⟨R',T',_,_,_,hl,hr,ht,rfl⟩
            · walk_at "dt"
              intro g0 g1 g2
              walk_at "dt"
              by_cases cg:0<g0
              · walk_at "dt"
                obtain⟨R',T',e,hl,hr,ht⟩:=uR os lK
                rw[e]
                exact⟨R',T',_,_,_,hl,hr,ht,rfl⟩
              · walk_at "dt"
                exact⟨R,T,_,_,_,by omega,hR,wY,rfl⟩
      · have lK:ja w i j os:=⟨by omega,by omega,by omega,by omega,iw,fun a x e=>by rw[if_neg (by omega),hos a x e,kP,kP]⟩
        · skip
          walk_at "dt"
          cases kept with
          | false =>
            walk_at "dt"
            exact⟨R,T,_,_,_,by omega,hR,wY,rfl⟩
          | true =>
            walk_at "dt"
            by_cases ct:0<th
            · walk_at "dt"
              obtain⟨R',T',e,hl,hr,ht⟩:=uR os lK
              rw[e]
              exact⟨R',T',_,_,_,hl,hr,ht,rfl⟩
            · walk_at "dt"
              intro g0 g1 g2
              walk_at "dt"
              by_cases cg:0<g0
              · walk_at "dt"
                obtain⟨R',T',e,hl,hr,ht⟩:=uR os lK
                rw[e]
                exact⟨R',T',_,_,_,hl,hr,ht,rfl⟩
              · walk_at "dt"
                exact⟨R,T,_,_,_,by omega,hR,wY,rfl⟩
    · rintro ρ ⟨R,T,f4,x7,x8,lJ,hR,hT,rfl⟩
      exact⟨R,T,_,_,_,_,_,by rw[hmul];omega,hR,fun t ht=>by have:=hT t ht;omega,rfl⟩
  rintro ρ ⟨R,T,f4,x5,x6,x7,x8,lJ,hR,hT,rfl⟩
  refine Sv.iR 4 rfl ?_
  walk_at "dt"
  refine qq _ w R gk (by rw[show(((w+1).toNat:Nat):Int)=w+1 by omega] at lJ;exact lJ) (fun r hr=>?_) (hR.ap gk)
  obtain⟨k,hk⟩:=gm hr
  have gR:k<T.length:=by have:=(aP.mp hk).1;have:=hR.l;omega
  exact⟨_,_,hR.e k r _ hk (aB gR)⟩
theorem Gh:∀{N:List Int} {m:Nat},(N.map PyData.int).eraseIdx m=(N.eraseIdx m).map .int
 |[],_=>rfl
 |_::_,0=>rfl
 |x::N,m+1=>congrArg (PyData.int x:: ·) (Gh (N:=N) (m:=m))
theorem uS{l:List Int}(h:l.Nodup){i j:Nat}{a:Int}(hi:l[i]?=some a)(hj:l[j]?=some a):i=j:=by
 obtain⟨i1,e1⟩:=aP.mp hi
 obtain⟨j1,e2⟩:=aP.mp hj
 by_cases c:i=j
 ·exact c
 ·exfalso
  rcases zw c with c|c
  ·exact kr.mp h i j i1 j1 c (e1.trans e2.symm)
  ·exact kr.mp h j i j1 i1 c (e2.trans e1.symm)
theorem R6{l:List Int}(h:∀(i j:Nat) (a:Int),l[i]?=some a->l[j]?=some a->i=j):l.Nodup:=kr.mpr fun i j hi hj hij z=>by
 have:=h i j l[i] (aB hi) (by rw[z];exact aB hj)
 omega
def BX(n:Int)(r:List Int):Prop:=r.Pairwise (· < ·)/\(∀x∈r,0<=x/\x<n)/\1<=r.length/\r.length<=39
def xZ:DF:=fun ds Φ=>∃(n:Int) (R:List (List Int)),ds=[.int n, .list (R.map aI)]/\1<=n/\n<=62/\R.length<=62/\(∀r∈R,r.Nodup/\(∀x∈r,0<=x/\x<n)/\1<=r.length/\r.length<=39)/\∀(f:Bool) (R':List (List Int)),R'.length=R.length->(∀r∈R',BX n r)->((∀r∈R,r.Pairwise (· < ·))->Ap R->Ap R')->Φ f (.list (R'.map aI))
theorem Ri:cU xZ:=by
 intro ds Φ Ψ hm z
 obtain⟨n,R,e,h1,h2,h3,h4,q⟩:=hm
 exact⟨n,R,e,h1,h2,h3,h4,fun f R' a b c=>z _ _ (q f R' a b c)⟩
theorem u7:cz ["bag","n","rows","names","order","k"] ["bag","n","rows"] (aR xK):=⟨rfl,rfl,rfl,by decide+kernel,rfl,by decide+kernel,by decide+kernel⟩
theorem Qc(F:bQ K "_law_renamed" "_law_renamed" xK f fd)(dQ:Callee P w K mg base "_law_draw" 2 ["bag","many"] jn)(bU:mg "list"=none)(bf:mg "range"=none)(jZ:mg "sorted"=none)(bW:mg "len"=none):
  bE P w K mg base bO 3 f fd ["bag","n","rows"] (fY 3 xZ):=by
 refine F.ok u7 (fun vs H Q E h=>h.1) (fun cdv A outer s H vs Q E hr h=>?_)
 obtain⟨b,l,ws,nb,ds,Φ,rfl,hB,hlive,hnb,hds,aD,hF⟩:=ny h
 obtain⟨n,R,rfl,n1,n2,lJ,hR,q⟩:=hF
 refine⟨_,(@ak _ _ _ _ _ (@aE _ _ (3) _ _ _ _ u7.nd rfl (Or.inl rfl) (@gH _ _ _ _ _ _ _ _ _ (BW rfl) rfl bU iS (@aa _ _ _ _ _ (@gH _ _ _ _ _ _ _ _ _ B7 rfl bf yJ (@aa _ _ _ _ _ (pv 1) af rfl) (by decide) (by decide) (by rfl) (by rfl)) af rfl) (by decide) (by decide) (by rfl) (by rfl)) (by rfl) (by first|exact .inl rfl|exact .inr rfl|assumption)) (@ak _ _ _ _ _ (@aE _ _ (4) _ _ _ _ u7.nd rfl (Or.inr rfl) (@eG _ _ _ _ af) (by rfl) (by first|exact .inl rfl|exact .inr rfl|assumption)) (@ak _ _ _ _ _ (@dU _ _ _ _ _ _ _ _ c7 rfl (@gF _ _ _ _ _ _ rfl bf (@aa _ _ _ _ _ (pv 1) af rfl) (by rfl)) (aH (i:=5) u7.nd rfl (Or.inl rfl)) (@az _ _ _ (@kO _ _ _ _ (iU jU kN k6 kG (pv 4) (@aa _ _ _ _ _ (iU jU JZ Jj Hs (pv 3) (@aa _ _ _ _ _ (@aK _ _ _ _ _ _ _ _ _ _ dQ (hr.mono (by decide)) (@aa _ _ _ _ _ (pv 0) (@aa _ _ _ _ _ (@cH _ _ _ _ _ _ _ _ (gp K) iP rfl bW ir (@aa _ _ _ _ _ (pv 3) af rfl) (by decide) (by decide) (by rfl) (by rfl)) af rfl) rfl) (by rfl) (by decide) (by rfl) (by rfl)) af rfl)) af rfl)) (by rfl))) (by intro _;rfl)) (@az _ _ _ (@aZ _ _ _ _ (iD (cP.of (show eU (aR xK) ["bag","n","rows","names","order","k"] _ ["row","order"] [none,some 4]=true by decide+kernel)) (@eB _ _ _ _ (pv 2)) (fun _ _ _ _=>⟨(aH (i:=0) (by show List.Nodup (["row","order"]:List Str);decide+kernel) rfl (Or.inl rfl)),iy,(@cH _ _ _ _ _ _ _ _ (Cy K) Ow rfl jZ ug (@aa _ _ _ _ _ (by(refine' P8 (cP.of (NX:=["row","order"]) (N:=["place","order"]) (mp:=[none,some 1]) ?Ro) ?V7 ?UT);(case V7=>exact(Pe (K:=K) rfl (pv 0)));(case UT=>exact(fun _ _ _ _=>⟨(aH (i:=0) (by show List.Nodup (["place","order"]:List Str);decide+kernel) rfl (Or.inl rfl)),iy,(aG (r:=cF K) bD (pv 1) (pv 0) (fun _ _=>rfl))⟩));(case Ro=>decide+kernel)) af rfl) (by decide) (by decide) (by rfl) (by rfl))⟩))))))),?_⟩
 refine Sv.nQ hB hlive hnb hds aD (ρ:=[.ay, .d false _, .d false _, .no, .no, .no]) rfl ?_
 clear aD hds
 have hrm:(R.map aI).length=R.length:=aj ..
 refine Sv.seq ?_
 refine Sv.o9 (aC.AW ?_)
 walk_at "dt"
 intro A3
 walk_at "dt"
 intro A4
 obtain⟨N0,lV⟩:∃N0,(List.range n.toNat).map (fun(i:Nat)=>(0:Int)+(i:Int))=N0:=⟨_,rfl⟩
 rw[lV]
 have Ul:N0.length=n.toNat:=by rw[<-lV];simp
 have Dw:∀x∈N0,0<=x/\x<n:=fun x hx=>by
  rw[<-lV] at hx
  obtain⟨i,hi,rfl⟩:=cI.mp hx
  have:=jC.mp hi;omega
 have zy:N0.Nodup:=by
  rw[<-lV]
  refine List.pairwise_map.mpr (Aq.imp fun h z=>h (by omega))
 refine Sv.seq ?_
 refine Sv.nh ?_
 walk_at "dt"
 refine⟨fun i ρ=>∃(N O:List Int) (f4:Bool) (x5:Sl),(O++N).Perm N0/\O.length=i/\ρ=[.ay, .d false (.int n), .d false (.list (R.map aI)), .own A3 true (N.map .int), .own A4 f4 (O.map .int),x5],⟨N0,[],_,_,List.Perm.refl _,rfl,rfl⟩,?_,?_⟩
 ·rintro i d ρ ⟨hi,rfl⟩ ⟨N,O,f4,x5,hp,hO,rfl⟩
  have hl:=hp.length_eq
  rw[bz] at hl
  have Pw:(N.map PyData.int).length=N.length:=aj ..
  have Zf:(O.map PyData.int).length=O.length:=aj ..
  refine Gv.iN ?_
  refine Sv.UK (by decide) rfl rfl ?_
  walk_at "dt"
  intro r r0 r1
  obtain⟨m,rfl⟩:=o5 r0
  have hm:m<N.length:=by omega
  refine⟨m, .int N[m],rfl,by omega,by rw[aL,aB hm];rfl,by omega,?_⟩
  rw[show(N.map PyData.int).eraseIdx m=(N.eraseIdx m).map .int by rw[Gh],show O.map PyData.int++[.int N[m]]=(O++[N[m]]).map .int by rw[cZ];rfl]
  refine⟨N.eraseIdx m,O++[N[m]],_,_,?_,by rw[bz];simp;omega,rfl⟩
  rw[mR]
  exact(Cv O (yC (aB hm))).trans hp
 rintro ρ ⟨N,O,f4,x5,hp,hO,rfl⟩
 have hl:=hp.length_eq
 rw[bz] at hl
 have hNe:N=[]:=nA.mp (by omega)
 subst hNe
 rw[eN] at hp
 have za:O.Nodup:=hp.nodup_iff.mpr zy
 have Wz:∀x∈O,0<=x/\x<n:=fun x hx=>Dw x (hp.mem_iff.mp hx)
 have La:O.length=n.toNat:=by omega
 refine Sv.iR 4 rfl ?_
 walk_at "dt"
 refine aC.ev (aC.jM (by decide) rfl ?_)
 walk_at "dt"
 refine fun v=>gX.rel aI true (fun j r'=>BX n r'/\∃r,R[j]?=some r/\∀y∈r',∃x∈r,0<=x/\O[x.toNat]?=some y) ?_ fun os iw hos=>?_
 ·rintro j d hd
  obtain⟨r,hr,rfl⟩:=eO hd
  obtain⟨o8,hrr,hr1,hr2⟩:=hR r (br hr)
  have T6:(r.map PyData.int).length=r.length:=aj ..
  unfold aI
  walk_at "dt"
  refine⟨by walk_at "wk",?_⟩
  refine aC.ev (aC.M1 ?_)
  refine aC.ev (aC.jM (by decide) rfl ?_)
  walk_at "dt"
  refine fun v=>gX.rel PyData.int false (fun i y=>∃x,r[i]?=some x/\O[x.toNat]?=some y) ?_ fun os iw hos=>?_
  ·rintro i d hd
   obtain⟨x,hx,rfl⟩:=eO hd
   obtain⟨x0,x1⟩:=hrr x (br hx)
   have iF:x.toNat<O.length:=by omega
   walk_at "dt"
   refine⟨by walk_at "wk",?_⟩
   walk_at "dt"
   exact⟨.int O[x.toNat],fT x0 (by rw[aL,aB iF];rfl),(fun z=>absurd z (by decide)),_,rfl,x,hx,aB iF⟩
  rw[T6] at iw
  have hnd:os.Nodup:=R6 fun i j a hi hj=>by
   obtain⟨x,hx,hy⟩:=hos i a hi
   obtain⟨x',hx',hy'⟩:=hos j a hj
   have:=uS za hy hy'
   have h1:=hrr x (br hx)
   have h2:=hrr x' (br hx')
   have:x=x':=by omega
   subst this
   exact uS o8 hx hx'
  refine⟨os,rfl,by omega,fun rs hrs hle=>⟨fun z=>z,rs,rfl,⟨?_,fun x hx=>?_,?_,?_⟩,r,hr,fun y hy=>?_⟩⟩
  ·have nd:=hrs.nodup_iff.mpr hnd
   exact(hle.and nd).imp fun h=>by omega
  ·obtain⟨k,hk⟩:=gm (hrs.mem_iff.mp hx)
   obtain⟨y,_,hy⟩:=hos k x hk
   exact Wz x (br hy)
  ·rw[hrs.length_eq];omega
  ·rw[hrs.length_eq];omega
  ·obtain⟨k,hk⟩:=gm (hrs.mem_iff.mp hy)
   obtain⟨x,hx,hxy⟩:=hos k y hk
   exact⟨x,br hx,(hrr x (br hx)).1,hxy⟩
 rw[hrm] at iw
 have hJ:∀r∈os,BX n r:=fun r hr=>by
  obtain⟨k,hk⟩:=gm hr
  exact(hos k r hk).1
 refine q _ os iw hJ fun Q6 hap=>(uw fun r hr=>(hJ r hr).1).mpr fun c d a b x y hcd ea eb hxy h1 h2 h3 h4=>?_
 obtain⟨_,a0,LW,ha⟩:=hos c a ea
 obtain⟨_,b0,XS,hb⟩:=hos d b eb
 obtain⟨u,hu,u0,eu⟩:=ha x h1
 obtain⟨v,hv,v0,ev⟩:=ha y h2
 obtain⟨u',Yo,Zn,QO⟩:=hb x h3
 obtain⟨v',hv',Y7,ev'⟩:=hb y h4
 have e1:=uS za eu QO
 have e2:=uS za ev ev'
 have e3:u=u':=by omega
 have e4:v=v':=by omega
 refine(uw Q6).mp hap c d a0 b0 u v hcd LW XS (fun z=>hxy ?_) hu hv (e3▸Yo) (e4▸hv')
 rw[z,ev] at eu
 exact(fL eu).symm
theorem Vc(ks:List (Int×Int))(k:Int×Int):(m8 ks k).length<=ks.length+1:=by
 unfold m8
 split
 ·omega
 ·rw[bz];simp
theorem VR{ks:List (Int×Int)}{k q:Int×Int}:q∈m8 ks k↔q∈ks\/q=k:=by
 unfold m8
 split
 ·rename_i h;exact⟨.inl,fun z=>z.elim id fun z=>z▸h⟩
 ·rw[dg,aQ]
def qE(n:Int)(r:List Int):Prop:=r.Pairwise (· < ·)/\(∀x∈r,0<=x/\x<n)/\r≠[]/\r.length<=30
def Hj(R:List (List Int))(r:List Int)(k m:Nat)(ks:List (Int×Int)):Prop:=∀x y,(x,y)∈ks↔(∃a∈R,jA a x y)\/∃l' l:Nat,l'<l/\r[l']?=some x/\r[l]?=some y/\(l<k\/(l=k/\l'<m))
theorem P9{R:List (List Int)}{r:List Int}(hR:∀a∈R,a.Pairwise (· < ·))(hr:r.Pairwise (· < ·))(h:Ap R)(hn:∀x y,jA r x y->∀a∈R,¬jA a x y):Ap (R++[r]):=by
 refine(z4 fun a ha=>?_).mpr fun c d a b x y hcd ea eb h1 h2=>?_
 ·rcases dg.mp ha with z|z
  ·exact hR a z
  ·rw[aQ.mp z];exact hr
 ·have hd:=(aP.mp eb).1
  rw[bz,fW] at hd
  have hc:c<R.length:=by omega
  rw[gD hc] at ea
  by_cases e:d<R.length
  ·rw[gD e] at eb
   exact(z4 hR).mp h c d a b x y hcd ea eb h1 h2
  ·have YS:d=R.length:=by omega
   subst YS
   rw[g9 (aJ _),ue] at eb
   cases eb
   exact hn x y h2 a (br ea) h1
theorem Wx{R:List (List Int)}(h:Ap R)(k:Nat):Ap (R.take k):=fun c d a b hcd ea eb _=>by
 have hc:c<k:=by have:=(aP.mp ea).1;rw[iX] at this;omega
 have hd:d<k:=by have:=(aP.mp eb).1;rw[iX] at this;omega
 rw[qd hc] at ea
 rw[qd hd] at eb
 exact h c d a b hcd ea eb trivial
theorem Xy{G:Gx}{ρ:Rh}{s:TS}{E:DE}{i:Nat}{A:Addr}{ds:List PyData}{s8:Sl}(h:(∃f,s8= .d f (.list ds))\/s8= .own A true ds)(hi:ρ[i]?=some s8)(k:∀f,Sv G (ρ.set i (.d f (.list ds))) s E):Sv G ρ s E:=by
 rcases h with ⟨f,rfl⟩|rfl
 ·have e:ρ.set i (.d f (.list ds))=ρ:=by
   apply gU
   intro j
   by_cases c:i=j
   ·subst c;rw[cX (aP.mp hi).1,hi]
   ·rw[bP c]
  rw[<-e];exact k f
 ·exact Sv.iR i hi (k true)
def DO:DF:=fun ds Φ=>∃(n many wide:Int) (R:List (List Int)),ds=[.int n, .list (R.map aI), .int many, .int wide]/\1<=n/\n<=400/\R.length<=60/\(∀r∈R,qE n r)/\0<=many/\many<=60/\1<=wide/\wide<=29/\∀(f:Bool) (R':List (List Int)),(R'.length:Int)=R.length+many->(∀r∈R',qE n r)->(Ap R->Ap R')->Φ f (.list (R'.map aI))
theorem Qq:cU DO:=by
 intro ds Φ Ψ hm z
 obtain⟨a,b,c,R,e,h1,h2,h3,h4,h5,h6,h7,h8,q⟩:=hm
 exact⟨a,b,c,R,e,h1,h2,h3,h4,h5,h6,h7,h8,fun f R' h g k=>z _ _ (q f R' h g k)⟩
theorem mC:cz ["bag","n","rows","many","wide","seen","found","c","row","place","k","one"] ["bag","n","rows","many","wide"] (aR rW):=⟨rfl,rfl,rfl,by decide+kernel,rfl,by decide+kernel,by decide+kernel⟩
theorem OH(F:bQ K "_law_added" "_law_added" rW f fd)(dQ:Callee P w K mg base "_law_draw" 2 ["bag","many"] jn)(bf:mg "range"=none)(bW:mg "len"=none)(jZ:mg "sorted"=none)(zF:mg "set"=none):
  bE P w K mg base bO 3 f fd ["bag","n","rows","many","wide"] (fY 5 DO):=by
 refine F.ok mC (fun vs H Q E h=>h.1) (fun cdv A outer s H vs Q E hr h=>?_)
 obtain⟨b,l,ws,nb,ds,Φ,rfl,hB,hlive,hnb,hds,aD,hF⟩:=ny h
 obtain⟨n,many,wide,R,rfl,n0,n1,lJ,Nv,m0,m1,w0,w1,q⟩:=hF
 refine⟨_,(@ak _ _ _ _ _ (@aE _ _ (5) _ _ _ _ mC.nd rfl (Or.inr rfl) N6 (by rfl) (by first|exact .inl rfl|exact .inr rfl|assumption)) (@ak _ _ _ _ _ (@aE _ _ (6) _ _ _ _ mC.nd rfl (Or.inl rfl) (@eG _ _ _ _ af) (by rfl) (by first|exact .inl rfl|exact .inr rfl|assumption)) (@ak _ _ _ _ _ (@dU _ _ _ _ _ _ _ _ c7 rfl (@gF _ _ _ _ _ _ rfl bf (@aa _ _ _ _ _ (@aF _ _ _ _ _ _ _ _ dB (@cH _ _ _ _ _ _ _ _ (gp K) iP rfl bW ir (@aa _ _ _ _ _ (pv 2) af rfl) (by decide) (by decide) (by rfl) (by rfl)) (pv 3)) af rfl) (by rfl)) (aH (i:=7) mC.nd rfl (Or.inl rfl)) (@ak _ _ _ _ _ (@aE _ _ (8) _ _ _ _ mC.nd rfl (Or.inl rfl) (@eG _ _ _ _ af) (by rfl) (by first|exact .inl rfl|exact .inr rfl|assumption)) (@ak _ _ _ _ _ (@cN _ _ _ _ _ _ _ _ (@bB _ _ _ _ _ _ _ _ uv (pv 7) (@cH _ _ _ _ _ _ _ _ (gp K) iP rfl bW ir (@aa _ _ _ _ _ (pv 2) af rfl) (by decide) (by decide) (by rfl) (by rfl)) (bw _)) (@az _ _ _ (@aE _ _ (8) _ _ _ _ mC.nd rfl (Or.inl rfl) (@aG _ _ _ _ _ _ (cF K) bD (pv 2) (pv 7) (fun _ _=>rfl)) (by rfl) (by first|exact .inl rfl|exact .inr rfl|assumption))) (@az _ _ _ (@dU _ _ _ _ _ _ _ _ c7 rfl (@eB _ _ _ _ (@cH _ _ _ _ _ _ _ _ (ym P w) (Rl rfl) rfl jZ ug (@aa _ _ _ _ _ (@gH _ _ _ _ _ _ _ _ (Dt P w K) (VX rfl) rfl zF PyProof.Rows.boot_set (@aa _ _ _ _ _ (iD (cP.of (show eU (aR rW) ["bag","n","rows","many","wide","seen","found","c","row","place","k","one"] _ ["k","bag","n"] [none,some 0,some 1]=true by decide+kernel)) (@gF _ _ _ _ _ _ rfl bf (@aa _ _ _ _ _ (@aF _ _ _ _ _ _ _ _ dB ao (@aK _ _ _ _ _ _ _ _ _ _ dQ (hr.mono (by decide)) (@aa _ _ _ _ _ (pv 0) (@aa _ _ _ _ _ (pv 4) af rfl) rfl) (by rfl) (by decide) (by rfl) (by rfl))) af rfl) (by rfl)) (fun _ _ _ _=>⟨(aH (i:=0) (by show List.Nodup (["k","bag","n"]:List Str);decide+kernel) rfl (Or.inl rfl)),iy,(@aK _ _ _ _ _ _ _ _ _ _ dQ (hr.mono (by decide)) (@aa _ _ _ _ _ (pv 1) (@aa _ _ _ _ _ (pv 2) af rfl) rfl) (by rfl) (by decide) (by rfl) (by rfl))⟩)) af rfl) (by decide) (by decide) (by rfl) (by rfl)) af rfl) (by decide) (by decide) (by rfl) (by rfl))) (aH (i:=9) mC.nd rfl (Or.inr rfl)) (@az _ _ _ (@cN _ _ _ _ _ _ _ _ (@bB _ _ _ _ _ _ _ _ (mY hr.units) (iD (cP.of (show eU (aR rW) ["bag","n","rows","many","wide","seen","found","c","row","place","k","one"] _ ["one","seen","place"] [none,some 5,some 9]=true by decide+kernel)) (@eB _ _ _ _ (pv 8)) (fun _ _ _ _=>⟨(aH (i:=0) (by show List.Nodup (["one","seen","place"]:List Str);decide+kernel) rfl (Or.inl rfl)),(mL (@bB _ _ _ _ _ _ _ _ (GU hr.units) (@bF _ _ _ _ _ (@aa _ _ _ _ _ (pv 0) (@aa _ _ _ _ _ (pv 2) af rfl) rfl)) (pv 1) (by with_unfolding_all rfl))),(pv 0)⟩)) (@eG _ _ _ _ af) (bw _)) (@az _ _ _ (@kO _ _ _ _ (iU jU kN k6 kG (pv 8) (@aa _ _ _ _ _ (pv 9) af rfl)) (by rfl))) dj)) (by intro _;rfl)))) (@ak _ _ _ _ _ (@dU _ _ _ _ _ _ _ _ c7 rfl (@gF _ _ _ _ _ _ rfl bf (@aa _ _ _ _ _ (@cH _ _ _ _ _ _ _ _ (gp K) iP rfl bW ir (@aa _ _ _ _ _ (pv 8) af rfl) (by decide) (by decide) (by rfl) (by rfl)) af rfl) (by rfl)) (aH (i:=10) mC.nd rfl (Or.inl rfl)) (@az _ _ _ (@dU _ _ _ _ _ _ _ _ c7 rfl (@eB _ _ _ _ (@lR _ _ _ _ _ _ _ _ _ (j5 K) l7 (pv 8) lU (@mq _ _ _ (pv 10)))) (aH (i:=11) mC.nd rfl (Or.inl rfl)) (@az _ _ _ (@gK _ _ _ _ _ _ mE (jq (pv 5) (@bF _ _ _ _ _ (@aa _ _ _ _ _ (pv 11) (@aa _ _ _ _ _ (@aG _ _ _ _ _ _ (cF K) bD (pv 8) (pv 10) (fun _ _=>rfl)) af rfl) rfl)) (YO hr.units)) (by rfl) (by rfl) (by rfl))) (by intro _;rfl))) (by intro _;rfl)) (@az _ _ _ (@kO _ _ _ _ (iU jU kN k6 kG (pv 6) (@aa _ _ _ _ _ (pv 8) af rfl)) (by rfl)))))) (by intro _;rfl)) (@az _ _ _ (@aZ _ _ _ _ (pv 6)))))),?_⟩
 refine Sv.nQ hB hlive hnb hds aD (ρ:=[.ay, .d false _, .d false _, .d false _, .d false _, .no, .no, .no, .no, .no, .no, .no]) rfl ?_
 clear aD hds
 have zU:(R.map aI).length=R.length:=aj ..
 refine Sv.seq ?_
 refine Sv.U7 ?_
 intro A5
 walk_at "dt"
 intro A6
 refine Sv.seq ?_
 refine Sv.nh ?_
 walk_at "dt"
 refine⟨fun i ρ=>∃(ks:List (Int×Int)) (Q:List (List Int)) (f6:Bool) (x7 x8 x9 cY dY:Sl),ks.length<=961*i/\Q.length=i/\(∀r∈Q,qE n r)/\(∀x y,(x,y)∈ks↔∃a∈Q,jA a x y)/\(i<=R.length->Q=R.take i)/\(Ap R->Ap Q)/\ρ=[.ay, .d false (.int n), .d false (.list (R.map aI)), .d false (.int many), .d false (.int wide), .cu (jF A5 ks), .own A6 f6 (Q.map aI),x7,x8,x9,cY,dY],⟨[],[],_,_,_,_,_,_,eY _,rfl,(fun _ h=>nomatch h),(fun x y=>⟨(fun z=>by cases z),(fun⟨a,z,_⟩=>by cases z)⟩),(fun _=>rfl),(fun _ c d a b _ z=>by simp at z),rfl⟩,?_,?_⟩
 ·rintro i d ρ ⟨hi,rfl⟩ ⟨ks,Q,f6,x7,x8,x9,cY,dY,hk,hQl,hQk,hks,hQt,hQa,rfl⟩
  rw[kP]
  have lT:∀a∈Q,a.Pairwise (· < ·):=fun a ha=>(hQk a ha).1
  refine Gv.iN ?_
  walk_at "dt"
  intro A8
  refine Sv.seq ?_
  refine Sv.vQ (fun ρ'=>∃(r:List Int) (s8 x9 cY dY:Sl),qE n r/\(i+1<=R.length->Q++[r]=R.take (i+1))/\(Ap R->Ap (Q++[r]))/\((∃f8,s8= .d f8 (.list (r.map .int)))\/s8= .own A8 true (r.map .int))/\ρ'=[.ay, .d false (.int n), .d false (.list (R.map aI)), .d false (.int many), .d false (.int wide), .cu (jF A5 ks), .own A6 f6 (Q.map aI), .d true (.int (i:Int)),s8,x9,cY,dY]) ?_ ?_
  ·by_cases ci:i<R.length
   ·obtain⟨r,hr⟩:∃r,R[i]?=some r:=⟨_,aB ci⟩
    have hat:bN (R.map aI) (i:Int)=some (aI r):=fT (by omega) (by rw[eX,aL,hr];rfl)
    have eQ:Q++[r]=R.take (i+1):=by rw[hQt (by omega),<-take_snoc hr]
    walk_at "dt"
    exact⟨r,_,_,_,_,Nv r (br hr),fun _=>eQ,fun z=>by rw[eQ];exact Wx z _, .inl ⟨_,rfl⟩,rfl⟩
   ·refine Sv.pZ ?_
    refine Tv.test ?_
    walk_at "dt"
    refine Sv.vQ (fun ρ'=>∃(Lr:List Int) (x9 cY dY:Sl),qE n Lr/\(∀x y,jA Lr x y->(x,y)∉ks)/\ρ'=[.ay, .d false (.int n), .d false (.list (R.map aI)), .d false (.int many), .d false (.int wide), .cu (jF A5 ks), .own A6 f6 (Q.map aI), .d true (.int (i:Int)), .own A8 true (Lr.map .int),x9,cY,dY]) ?_ ?_
    ·refine Sv.forL ?_
     refine aC.ev (aC.V3 (aC.ev (aC.kR (by decide) rfl ?_)))
     walk_at "dt"
     intro k0 k1 k2
     walk_at "dt"
     refine gX.ints (fun x=>0<=x/\x<n) ?_ fun os iw hos=>⟨os,rfl,by omega,fun rs J2 hmem=>?_⟩
     ·rintro i d ⟨hi,rfl⟩
      walk_at "dt"
      refine⟨by walk_at "wk",?_⟩
      walk_at "dt"
      exact fun r r1 r2=>⟨r,rfl,r1,r2⟩
     have hrs:rs.Nodup:=J2.imp fun h=>by omega
     have hrl:0<rs.length:=by
      have:0<os.length:=by omega
      obtain⟨y,hy⟩:=List.exists_mem_of_length_pos this
      exact List.length_pos_of_mem ((hmem y).mpr hy)
     have Zb:rs.length<=os.length:=qW hrs fun k hk=>(hmem k).mp hk
     have hrm:(rs.map PyData.int).length=rs.length:=aj ..
     have hrr:∀x∈rs,0<=x/\x<n:=fun x hx=>hos x ((hmem x).mp hx)
     refine⟨_,rfl,fun v=>⟨fun j ρ=>∃(Lr:List Int) (x9 cY dY:Sl),Lr.Pairwise (· < ·)/\(∀x∈Lr,x∈rs.take j)/\(0<j->Lr≠[])/\Lr.length<=j/\(∀x y,jA Lr x y->(x,y)∉ks)/\ρ=[.ay, .d false (.int n), .d false (.list (R.map aI)), .d false (.int many), .d false (.int wide), .cu (jF A5 ks), .own A6 f6 (Q.map aI), .d true (.int (i:Int)), .own A8 true (Lr.map .int),x9,cY,dY],⟨[],_,_,_,List.Pairwise.nil,(fun _ h=>nomatch h),(fun z=>by omega),aJ _,(fun x y ⟨_,_,_,z,_⟩=>by simp at z),rfl⟩,?_,?_⟩⟩
     ·rintro j d ρ hd ⟨Lr,x9,cY,dY,hL1,hL2,hL3,hL4,hL5,rfl⟩
      obtain⟨x,hx,rfl⟩:=eO hd
      have hjl:=(aP.mp hx).1
      have VP:(Lr.map PyData.int).length=Lr.length:=aj ..
      have hts:=take_snoc hx
      refine Gv.iN ?_
      refine Sv.pZ ?_
      refine Tv.lend 8 rfl ?_
      refine Tv.test ?_
      refine Ev.Ga ?_
      refine aC.ev (aC.jM (by decide) rfl ?_)
      walk_at "dt"
      refine fun v=>⟨true,fun m ds=>ds=((Lr.take m).filter fun y=>decide ((y,x)∈ks)).map .int,rfl,?_,?_⟩
      ·rintro m d ds hd hl' rfl
       obtain⟨y,hy,rfl⟩:=eO hd
       walk_at "dt"
       refine⟨by walk_at "wk",?_⟩
       refine Tv.test ?_
       refine Ev.W8 rfl ?_
       walk_at "dt"
       refine⟨(y,x),rfl,?_⟩
       by_cases c:(y,x)∈ks
       ·rw[decide_eq_true c]
        refine⟨_,rfl,?_⟩
        rw[if_pos (by decide)]
        walk_at "dt"
        show _=List.map _ (List.filter _ (Lr.take (m+1)))
        rw[take_snoc hy,kI,show List.filter (fun y=>decide ((y,x)∈ks)) [y]=[y] from uQ (by exact decide_eq_true c),cZ]
        rfl
       ·rw[decide_eq_false c]
        refine⟨_,rfl,?_⟩
        rw[if_neg (by decide)]
        show _=List.map _ (List.filter _ (Lr.take (m+1)))
        rw[take_snoc hy,kI,rF (by rw[decide_eq_false c];decide),qB,eN]
      rintro ds hl' rfl
      rw[VP,fE]
      obtain⟨M,hM⟩:∃M,(Lr.filter fun y=>decide ((y,x)∈ks))=M:=⟨_,rfl⟩
      rw[hM]
      walk_at "dt"
      refine⟨L2.shaped_ints M,sy,_,rfl,?_⟩
      rw[iT,show PyData.eqv (.list (M.map .int)) (.list [])=decide (M=[]) by cases M<;>simp[PyData.eqv,PyData.eqvAll]]
      by_cases c:M=[]
      ·rw[if_pos (by simp[c])]
       have hno:∀y∈Lr,(y,x)∉ks:=fun y hy z=>by
        have:y∈Lr.filter fun y=>decide ((y,x)∈ks):=fQ.mpr ⟨hy,decide_eq_true z⟩
        rw[hM,c] at this;cases this
       walk_at "dt"
       refine⟨Lr++[x],_,_,_,Ii.mpr ⟨hL1,List.pairwise_singleton _ _,fun y hy z hz=>?_⟩,fun y hy=>?_,fun _=>by simp,by rw[bz];simp;omega,fun u v ⟨l',l,h1,h2,h3⟩=>?_,by rw[cZ];rfl⟩
       ·rw[aQ.mp hz]
        obtain⟨k,hk⟩:=gm (hL2 y hy)
        have hkj:k<j:=by have:=(aP.mp hk).1;rw[iX] at this;omega
        rw[qd hkj] at hk
        obtain⟨l1,e1⟩:=aP.mp hk
        obtain⟨l2,e2⟩:=aP.mp hx
        rw[<-e1,<-e2]
        exact kr.mp J2 k j l1 l2 hkj
       ·rw[hts]
        rcases dg.mp hy with z|z
        ·exact pB _ (hL2 y z)
        ·exact ia _ z
       ·have uD:=(aP.mp h3).1
        rw[bz,fW] at uD
        rw[gD (by omega)] at h2
        by_cases e:l<Lr.length
        ·rw[gD e] at h3
         exact hL5 u v ⟨l',l,h1,h2,h3⟩
        ·rw[g9 (by omega),show l-Lr.length=0 by omega] at h3
         cases h3
         exact hno u (br h2)
      ·rw[if_neg (by simp[c])]
       refine Sv.next ?_
       refine⟨Lr,_,_,_,hL1,fun y hy=>by rw[hts];exact pB _ (hL2 y hy),fun _ z=>c ?_,by omega,hL5,rfl⟩
       rw[<-hM,z];rfl
     ·rintro ρ ⟨Lr,x9,cY,dY,hL1,hL2,hL3,hL4,hL5,rfl⟩
      rw[hrm] at hL2 hL3 hL4
      rw[fE] at hL2
      exact⟨Lr,_,_,_,⟨hL1,fun x hx=>hrr x (hL2 x hx),hL3 hrl,by omega⟩,hL5,rfl⟩
    ·rintro ρ' ⟨Lr,x9,cY,dY,hL1,hL2,rfl⟩
     refine⟨Lr,_,_,_,_,hL1,(fun z=>by omega),fun z=>P9 lT hL1.1 (hQa z) fun x y h a ha h'=>hL2 x y h ((hks x y).mpr ⟨a,ha,h'⟩), .inr rfl,rfl⟩
  ·rintro ρ' ⟨r,s8,x9,cY,dY,hr,hrt,hra,hs8,rfl⟩
   have hrm:(r.map PyData.int).length=r.length:=aj ..
   have hrl:=hr.2.2.2
   have Z0:(Q.map aI).length=Q.length:=aj ..
   refine Xy (i:=8) hs8 rfl fun f8=>?_
   refine Sv.seq ?_
   refine Sv.nh ?_
   walk_at "dt"
   refine⟨fun k ρ=>∃(KS:List (Int×Int)) (x9 cY dY:Sl),Hj Q r k 0 KS/\KS.length<=961*i+31*k/\ρ=[.ay, .d false (.int n), .d false (.list (R.map aI)), .d false (.int many), .d false (.int wide), .cu (jF A5 KS), .own A6 f6 (Q.map aI), .d true (.int (i:Int)), .d f8 (.list (r.map .int)),x9,cY,dY],⟨ks,_,_,_,?_,by omega,rfl⟩,?_,?_⟩
   ·intro x y
    rw[hks x y]
    exact⟨.inl,fun z=>z.elim id fun⟨_,l,_,_,_,h⟩=>by omega⟩
   ·rintro k d ρ ⟨hk0,rfl⟩ ⟨KS,x9,cY,dY,hSe,gR,rfl⟩
    rw[kP]
    have hj':k<r.length:=by omega
    have yF:r[k]?=some r[k]:=aB hj'
    have Za:bN (r.map PyData.int) (k:Int)=some (.int r[k]):=fT (by omega) (by rw[eX,aL,yF];rfl)
    refine Gv.iN ?_
    refine Sv.forL ?_
    walk_at "dt"
    have Ug:i8 (r.map PyData.int) none (some (k:Int))=(r.take k).map .int:=by rw[EI (by omega) (by omega),eX,tE]
    rw[Ug]
    refine fun v=>⟨fun m ρ=>∃(KS:List (Int×Int)) (x9 dY:Sl),Hj Q r k m KS/\KS.length<=961*i+31*k+m/\ρ=[.ay, .d false (.int n), .d false (.list (R.map aI)), .d false (.int many), .d false (.int wide), .cu (jF A5 KS), .own A6 f6 (Q.map aI), .d true (.int (i:Int)), .d f8 (.list (r.map .int)),x9, .d true (.int (k:Int)),dY],⟨KS,_,_,hSe,gR,rfl⟩,?_,?_⟩
    ·rintro m d ρ hd ⟨KS,x9,dY,hSe,gR,rfl⟩
     obtain⟨u,hu,rfl⟩:=eO hd
     have hml:=(aP.mp hu).1
     rw[iX] at hml
     rw[qd (by omega)] at hu
     refine Gv.iN ?_
     refine Sv.Tt rfl ?_
     walk_at "dt"
     refine⟨rfl,?_⟩
     walk_at "dt"
     refine⟨(u,r[k]),rfl,by omega,?_⟩
     have:=Vc KS (u,r[k])
     refine⟨_,_,_,fun x y=>?_,by omega,rfl⟩
     rw[VR,hSe x y,Prod.mk.injEq]
     constructor
     ·rintro((z|⟨l',l,h1,h2,h3,h4⟩)|⟨rfl,rfl⟩)
      ·exact .inl z
      ·exact .inr ⟨l',l,h1,h2,h3,by omega⟩
      ·exact .inr ⟨m,k,by omega,hu,yF,by omega⟩
     ·rintro(z|⟨l',l,h1,h2,h3,h4⟩)
      ·exact .inl (.inl z)
      ·by_cases c:l=k/\l'=m
       ·obtain⟨rfl,rfl⟩:=c
        rw[hu] at h2;cases h2
        rw[yF] at h3
        exact .inr ⟨rfl,(fL h3).symm⟩
       ·exact .inl (.inr ⟨l',l,h1,h2,h3,by omega⟩)
    ·rintro ρ ⟨KS,x9,dY,hSe,gR,rfl⟩
     rw[aj,iX] at gR hSe
     refine⟨KS,_,_,_,fun x y=>(hSe x y).trans (or_congr Iff.rfl ⟨fun⟨l',l,h1,h2,h3,h4⟩=>⟨l',l,h1,h2,h3,by omega⟩,fun⟨l',l,h1,h2,h3,h4⟩=>⟨l',l,h1,h2,h3,by omega⟩⟩),by omega,rfl⟩
   ·rintro ρ ⟨KS,x9,cY,dY,hSe,gR,rfl⟩
    walk_at "dt"
    refine⟨KS,Q++[r],_,_,_,_,_,_,by omega,by rw[bz,hQl];rfl,fun a ha=>?_,fun x y=>(hSe x y).trans ⟨fun z=>?_,fun z=>?_⟩,hrt,hra,by rw[cZ];rfl⟩
    ·rcases dg.mp ha with z|z
     ·exact hQk a z
     ·rw[aQ.mp z];exact hr
    ·rcases z with ⟨a,ha,h⟩|⟨l',l,h1,h2,h3,_⟩
     ·exact⟨a,pB _ ha,h⟩
     ·exact⟨r,ia _ (aQ.mpr rfl),l',l,h1,h2,h3⟩
    ·obtain⟨a,ha,h⟩:=z
     rcases dg.mp ha with z|z
     ·exact .inl ⟨a,z,h⟩
     ·rw[aQ.mp z] at h
      obtain⟨l',l,h1,h2,h3⟩:=h
      exact .inr ⟨l',l,h1,h2,h3, .inl (by have:=(aP.mp h3).1;omega)⟩
 rintro ρ ⟨ks,Q,f6,x7,x8,x9,cY,dY,hk,hQl,hQk,hks,hQt,hQa,rfl⟩
 refine Sv.iR 6 rfl ?_
 walk_at "dt"
 exact q _ Q (by omega) hQk hQa
theorem xW(a b:aq)(wd:Wo):aU (a++b) wd=aU a wd+aU b wd:=by unfold aU;rw[cZ,vg]
def A7:DF:=fun ds Φ=>∃(p:Int) (row ws:List Int),ds=[.int p,aI row,aI ws]/\gv p/\p<10^40/\row.Pairwise (· < ·)/\(∀x∈row,0<=x/\x<ws.length)/\row.length<=400/\ws.length<=400/\(∀x∈ws,0<=x/\x<p)/\∀(f:Bool) (prs:aq),lE p ws.length prs->(prs.map (·.1)).Sublist row->aU prs (ws.map some)%p=0->Φ f (fJ prs)
theorem Ww:cU A7:=by
 intro ds Φ Ψ hm z
 obtain⟨p,row,ws,e,h1,h2,h3,h4,h5,h6,h7,q⟩:=hm
 exact⟨p,row,ws,e,h1,h2,h3,h4,h5,h6,h7,fun f prs a b c=>z _ _ (q f prs a b c)⟩
theorem qt:cz ["bag","p","row","word","pairs","some","at","rest","factor"] ["bag","p","row","word"] (aR qY):=⟨rfl,rfl,rfl,by decide+kernel,rfl,by decide+kernel,by decide+kernel⟩
theorem Yq(F:bQ K "_law_true_pairs" "_law_true_pairs" qY f fd)(qS:Callee P w K mg base "_law_sum" 1 ["p","pairs","word"] (aS 3 sG))(zg:Callee P w K mg base "_law_over" 1 ["p","a","b"] (aS 3 ve))(dQ:Callee P w K mg base "_law_draw" 2 ["bag","many"] jn)(bf:mg "range"=none)(bW:mg "len"=none):
  bE P w K mg base bO 3 f fd ["bag","p","row","word"] (fY 4 A7):=by
 refine F.ok qt (fun vs H Q E h=>h.1) (fun cdv A outer s H vs Q E hr h=>?_)
 obtain⟨b,l,ws,nb,ds,Φ,rfl,hB,hlive,hnb,hds,aD,hF⟩:=ny h
 obtain⟨p,row,ws,rfl,hp,l8,hrw,hrr,hrl,hwl,hws,q⟩:=hF
 refine⟨_,(@ak _ _ _ _ _ (lZ (i:=4) qt.nd rfl rfl (cP.of (show eU (aR qY) ["bag","p","row","word","pairs","some","at","rest","factor"] _ ["place","bag","p"] [none,some 0,some 1]=true by decide+kernel)) (@eB _ _ _ _ (pv 2)) (fun _ _ _ _=>⟨(aH (i:=0) (by show List.Nodup (["place","bag","p"]:List Str);decide+kernel) rfl (Or.inl rfl)),iy,(@bF _ _ _ _ _ (@aa _ _ _ _ _ (pv 0) (@aa _ _ _ _ _ (@aF _ _ _ _ _ _ _ _ dB ao (@aK _ _ _ _ _ _ _ _ _ _ dQ (hr.mono (by decide)) (@aa _ _ _ _ _ (pv 1) (@aa _ _ _ _ _ (@aF _ _ _ _ _ _ _ _ kB (pv 2) ao) af rfl) rfl) (by rfl) (by decide) (by rfl) (by rfl))) af rfl) rfl))⟩)) (@ak _ _ _ _ _ (lZ (i:=5) qt.nd rfl rfl (cP.of (show eU (aR qY) ["bag","p","row","word","pairs","some","at","rest","factor"] _ ["k","row","word"] [none,some 2,some 3]=true by decide+kernel)) (@gF _ _ _ _ _ _ rfl bf (@aa _ _ _ _ _ (@cH _ _ _ _ _ _ _ _ (gp K) iP rfl bW ir (@aa _ _ _ _ _ (pv 2) af rfl) (by decide) (by decide) (by rfl) (by rfl)) af rfl) (by rfl)) (fun _ _ _ _=>⟨(aH (i:=0) (by show List.Nodup (["k","row","word"]:List Str);decide+kernel) rfl (Or.inl rfl)),(mL (@bB _ _ _ _ _ _ _ _ jV (@aG _ _ _ _ _ _ (cF K) bD (pv 2) (@aG _ _ _ _ _ _ (cF K) bD (pv 1) (pv 0) (fun _ _=>rfl)) (fun _ _=>rfl)) ao (bw _))),(pv 0)⟩)) (@ak _ _ _ _ _ (@cN _ _ _ _ _ _ _ _ (@bB _ _ _ _ _ _ _ _ (mY hr.units) (pv 5) (@eG _ _ _ _ af) (bw _)) (@az _ _ _ (@aZ _ _ _ _ (pv 4))) dj) (@ak _ _ _ _ _ (@aE _ _ (6) _ _ _ _ qt.nd rfl (Or.inl rfl) (@aG _ _ _ _ _ _ (cF K) bD (pv 5) (@aK _ _ _ _ _ _ _ _ _ _ dQ (hr.mono (by decide)) (@aa _ _ _ _ _ (pv 0) (@aa _ _ _ _ _ (@cH _ _ _ _ _ _ _ _ (gp K) iP rfl bW ir (@aa _ _ _ _ _ (pv 5) af rfl) (by decide) (by decide) (by rfl) (by rfl)) af rfl) rfl) (by rfl) (by decide) (by rfl) (by rfl)) (fun _ _=>rfl)) (by rfl) (by first|exact .inl rfl|exact .inr rfl|assumption)) (@ak _ _ _ _ _ (@aE _ _ (7) _ _ _ _ qt.nd rfl (Or.inl rfl) (@aK _ _ _ _ _ _ _ _ _ _ qS (hr.mono (by decide)) (@aa _ _ _ _ _ (pv 1) (@aa _ _ _ _ _ (@aF _ _ _ _ _ _ _ _ n5 (@lR _ _ _ _ _ _ _ _ _ (j5 K) l7 (pv 4) lU (@mq _ _ _ (pv 6))) (@lR _ _ _ _ _ _ _ _ _ (j5 K) l7 (pv 4) (@mq _ _ _ (@aF _ _ _ _ _ _ _ _ dB (pv 6) ao)) lU)) (@aa _ _ _ _ _ (pv 3) af rfl) rfl) rfl) (by rfl) (by decide) (by rfl) (by rfl)) (by rfl) (by first|exact .inl rfl|exact .inr rfl|assumption)) (@ak _ _ _ _ _ (@cN _ _ _ _ _ _ _ _ (@bB _ _ _ _ _ _ _ _ iK (pv 7) ao (bw _)) (@az _ _ _ (@aZ _ _ _ _ (@aF _ _ _ _ _ _ _ _ n5 (@lR _ _ _ _ _ _ _ _ _ (j5 K) l7 (pv 4) lU (@mq _ _ _ (pv 6))) (@lR _ _ _ _ _ _ _ _ _ (j5 K) l7 (pv 4) (@mq _ _ _ (@aF _ _ _ _ _ _ _ _ dB (pv 6) ao)) lU)))) dj) (@ak _ _ _ _ _ (@aE _ _ (8) _ _ _ _ qt.nd rfl (Or.inl rfl) (@aK _ _ _ _ _ _ _ _ _ _ zg (hr.mono (by decide)) (@aa _ _ _ _ _ (pv 1) (@aa _ _ _ _ _ (@aF _ _ _ _ _ _ _ _ kB ao (pv 7)) (@aa _ _ _ _ _ (@aG _ _ _ _ _ _ (cF K) bD (pv 3) (@aG _ _ _ _ _ _ (cF K) bD (pv 2) (pv 6) (fun _ _=>rfl)) (fun _ _=>rfl)) af rfl) rfl) rfl) (by rfl) (by decide) (by rfl) (by rfl)) (by rfl) (by first|exact .inl rfl|exact .inr rfl|assumption)) (@az _ _ _ (@aZ _ _ _ _ (@aF _ _ _ _ _ _ _ _ n5 (@aF _ _ _ _ _ _ _ _ n5 (@lR _ _ _ _ _ _ _ _ _ (j5 K) l7 (pv 4) lU (@mq _ _ _ (pv 6))) (@eG _ _ _ _ (@aa _ _ _ _ _ (@bF _ _ _ _ _ (@aa _ _ _ _ _ (@aG _ _ _ _ _ _ (cF K) bD (pv 2) (pv 6) (fun _ _=>rfl)) (@aa _ _ _ _ _ (pv 8) af rfl) rfl)) af rfl))) (@lR _ _ _ _ _ _ _ _ _ (j5 K) l7 (pv 4) (@mq _ _ _ (@aF _ _ _ _ _ _ _ _ dB (pv 6) ao)) lU))))))))))),?_⟩
 refine Sv.nQ hB hlive hnb hds aD (ρ:=[.ay, .d false _, .d false _, .d false _, .no, .no, .no, .no, .no]) rfl ?_
 clear aD hds
 have p2:=hp.1
 have hrm:(row.map PyData.int).length=row.length:=aj ..
 have lG:(ws.map PyData.int).length=ws.length:=aj ..
 have j3:aI ws=kc (ws.map some):=by show PyData.list _=PyData.list _;rw[dw];rfl
 have kh:lz (ws.map some):=fun y hy=>by
  obtain⟨z,hz,e⟩:=cI.mp hy
  cases e
  have:=hws y hz
  unfold Sm;omega
 unfold aI
 walk_at "dt"
 refine aC.ev (aC.jM (by decide) rfl ?_)
 walk_at "dt"
 refine fun v=>gX.rel pairD true (fun i pr=>row[i]?=some pr.1/\1<=pr.2/\pr.2<p) ?_ fun prs hpl c9=>?_
 ·rintro i d hd
  obtain⟨x,hx,rfl⟩:=eO hd
  walk_at "dt"
  refine⟨by walk_at "wk",?_⟩
  walk_at "dt"
  intro r r1 r2
  walk_at "dt"
  exact⟨fun _=>rfl,(x,1+r),rfl,hx,by show 1<=1+r;omega,by show 1+r<p;omega⟩
 rw[hrm] at hpl
 have wz:prs.map (·.1)=row:=by
  apply gU
  intro j
  rw[aL]
  cases e:prs[j]? with
  |none=>rw[fV (by have:=v5.mp e;omega)];rfl
  |some pr=>exact(c9 j pr e).1.symm
 have lT:∀pr∈prs,0<=pr.1/\pr.1<ws.length/\1<=pr.2/\pr.2<p:=fun pr bu=>by
  obtain⟨k,hk⟩:=gm bu
  have h2:=c9 k pr hk
  have h1:=hrr pr.1 (br h2.1)
  exact⟨h1.1,h1.2,h2.2⟩
 have o8:row.Nodup:=hrw.imp fun h=>Int.ne_of_lt h
 have hQ:lE p ws.length prs:=⟨by rw[wz];exact o8,by omega,lT⟩
 have iA:(prs.map pairD).length=prs.length:=aj ..
 have JA:∀k:Nat,k<row.length->bN (row.map PyData.int) (k:Int)=some (.int (row.getD k 0))/\row[k]?=some (row.getD k 0):=fun k hk=>by
  have:row[k]?=some (row.getD k 0):=by rw[bG,aB hk];rfl
  exact⟨fT (by omega) (by rw[eX,aL,this];rfl),this⟩
 have C1:∀x:Int,0<=x->x<ws.length->bN (ws.map PyData.int) x=some (.int (ws.getD x.toNat 0))/\ws[x.toNat]?=some (ws.getD x.toNat 0):=fun x h0 h1=>by
  have:ws[x.toNat]?=some (ws.getD x.toNat 0):=by rw[bG,aB (by omega)];rfl
  exact⟨fT h0 (by rw[aL,this];rfl),this⟩
 walk_at "dt"
 refine aC.ev (aC.kR (by decide) rfl ?_)
 walk_at "dt"
 refine⟨true,fun i ds=>∃S:List Int,ds=S.map .int/\(∀k∈S,0<=k/\k<row.length/\ws.getD (row.getD k.toNat 0).toNat 0≠0)/\(S=[]->∀j,j<i->ws.getD (row.getD j 0).toNat 0=0)/\S.length<=i,⟨[],rfl,(fun _ z=>by cases z),(fun _ j z=>by omega),aJ _⟩,?_,?_⟩
 ·rintro i d ds ⟨hi,rfl⟩ hl' ⟨S,rfl,rO,hS2,hS3⟩
  rw[kP]
  have hi':i<row.length:=by omega
  obtain⟨g1,g2⟩:=JA i hi'
  obtain⟨x0,x1⟩:=hrr _ (br g2)
  obtain⟨g3,g4⟩:=C1 _ x0 x1
  walk_at "dt"
  refine⟨by walk_at "wk",?_⟩
  walk_at "dt"
  generalize hc0:ws.getD (row.getD i 0).toNat 0=w0 at*
  by_cases c:w0=0
  ·rw[if_neg (by simp[c])]
   refine⟨S,rfl,rO,fun z j hj=>?_,by omega⟩
   by_cases e:j=i
   ·rw[e,hc0];exact c
   ·exact hS2 z j (by omega)
  ·rw[if_pos (by simp[c])]
   walk_at "dt"
   refine⟨S++[(i:Int)],by rw[cZ];rfl,fun k hk=>?_,fun z=>by simp at z,by rw[bz,fW];omega⟩
   rcases dg.mp hk with z|z
   ·exact rO k z
   ·rw[aQ.mp z]
    exact⟨by omega,by omega,by rw[eX,hc0];exact c⟩
 rintro ds hl' ⟨S,rfl,rO,hS2,hS3⟩
 have ZI:(S.map PyData.int).length=S.length:=aj ..
 walk_at "dt"
 refine⟨L2.shaped_ints S,sy,_,rfl,?_⟩
 rw[iT,show PyData.eqv (.list (S.map .int)) (.list [])=decide (S=[]) by cases S<;>simp[PyData.eqv,PyData.eqvAll]]
 have GP:∀pr∈prs,gE (ws.map some) pr=pr.2*ws.getD pr.1.toNat 0:=fun pr bu=>by
  obtain⟨x0,x1,_⟩:=lT pr bu
  unfold gE
  rw[aL,(C1 pr.1 x0 x1).2];rfl
 by_cases cS:S=[]
 ·rw[if_pos (by rw[decide_eq_true cS];rfl)]
  walk_at "dt"
  refine q _ prs hQ (by rw[wz];exact yD _) ?_
  have hz:aU prs (ws.map some)=0:=by
   unfold aU
   rw[show prs.map (gE (ws.map some))=prs.map fun _=>0 from fX fun pr bu=>?_]
   ·generalize prs=l
    induction l with
    |nil=>rfl
    |cons a l ih=>rw[aY,nq,ih];rfl
   ·obtain⟨k,hk⟩:=gm bu
    have gR:=(aP.mp hk).1
    have h1:=(c9 k pr hk).1
    rw[GP pr bu]
    have h2:=hS2 cS k (by omega)
    rw[bG (l:=row),h1] at h2
    have h2:ws.getD pr.1.toNat 0=0:=h2
    rw[h2,Aa]
  rw[hz];rfl
 rw[if_neg (by rw[decide_eq_false cS];decide)]
 have Zl:0<S.length:=CW.mpr cS
 walk_at "dt"
 intro r r0 r1
 have OC:r.toNat<S.length:=by omega
 obtain⟨Nl,Ie⟩:∃x,S[r.toNat]?=some x:=⟨_,aB OC⟩
 obtain⟨a0,a1,a2⟩:=rO Nl (br Ie)
 obtain⟨k,rfl⟩:=o5 a0
 rw[eX] at a2
 have Xg:k<row.length:=by omega
 have Ph:bN (S.map PyData.int) r=some (.int (k:Int)):=fT r0 (by rw[aL,Ie];rfl)
 refine⟨_,rfl,_,Ph,?_⟩
 obtain⟨pr,hpk⟩:∃pr,prs[k]?=some pr:=⟨_,aB (by omega)⟩
 obtain⟨b0,b1,b2,b3⟩:=lT pr (br hpk)
 obtain⟨g1,g2⟩:=JA k Xg
 have M4:row.getD k 0=pr.1:=by have:=(c9 k pr hpk).1;rw[g2] at this;exact fL this
 rw[M4] at g1 a2
 obtain⟨g3,g4⟩:=C1 pr.1 b0 b1
 have hwr:=hws (ws.getD pr.1.toNat 0) (br g4)
 have Y4:gE (ws.map some) pr=pr.2*ws.getD pr.1.toNat 0:=GP pr (br hpk)
 have qM:∀f,gE (ws.map some) (pr.1,f)=f*ws.getD pr.1.toNat 0:=fun f=>by
  unfold gE
  rw[aL,g4];rfl
 generalize ws.getD pr.1.toNat 0=w0 at*
 have hc1:i8 (prs.map pairD) none (some (k:Int))=(prs.take k).map pairD:=by rw[EI (by omega) (by omega),eX,tE]
 have hc2:i8 (prs.map pairD) (some ((k:Int)+1)) none=(prs.drop (k+1)).map pairD:=by rw[NQ (by omega) (by omega),show((k:Int)+1).toNat=k+1 by omega,List.map_drop]
 have hl1:(prs.take k).length=k:=by rw[iX];omega
 have hl2:(prs.drop (k+1)).length=prs.length-(k+1):=yI ..
 have hm1:((prs.take k).map pairD).length=(prs.take k).length:=aj ..
 have hm2:((prs.drop (k+1)).map pairD).length=(prs.drop (k+1)).length:=aj ..
 have vd:prs=prs.take k++pr::prs.drop (k+1):=by
  obtain⟨hk1,hk2⟩:=aP.mp hpk
  rw[<-hk2,List.getElem_cons_drop,List.take_append_drop]
 obtain⟨P1,Fy⟩:∃P1,prs.take k=P1:=⟨_,rfl⟩
 obtain⟨P2,Jq⟩:∃P2,prs.drop (k+1)=P2:=⟨_,rfl⟩
 rw[Fy,Jq] at vd
 rw[Fy] at hc1 hl1 hm1
 rw[Jq] at hc2 hl2 hm2
 have uU:∀x∈P1++P2,x∈prs:=fun x hx=>by
  rw[vd]
  rcases dg.mp hx with z|z
  ·exact pB _ z
  ·exact ia _ (cG _ z)
 have hsub:(P1++P2).Sublist prs:=by
  rw[vd]
  exact(yD _).append (List.sublist_cons_self _ _)
 have oV:ou (P1++P2) (ws.map some).length:=fun x hx=>by
  obtain⟨c0,c1,c2,c3⟩:=lT x (uU x hx)
  exact⟨c0,by rw[aj];omega,by unfold Sm;omega⟩
 walk_at "dt"
 refine Ev.bH Bp ?_
 walk_at "dt"
 rw[hc1,hc2]
 refine⟨by omega,?_⟩
 rw[<-cZ]
 walk_at "dt"
 refine⟨rfl,p,P1++P2,ws.map some,by show[_,_,PyData.list _]=_;rw[show PyData.list (ws.map PyData.int)=kc (ws.map some) from j3],by omega,by rw[bz];omega,oV,kh,?_⟩
 have R0:=eS (aU (P1++P2) (ws.map some)) (show p≠0 by omega)
 have R1:=eF (aU (P1++P2) (ws.map some)) (show 0<p by omega)
 obtain⟨R,hR⟩:∃R,aU (P1++P2) (ws.map some)%p=R:=⟨_,rfl⟩
 rw[hR] at R0 R1⊢
 by_cases cR:R=0
 ·subst cR
  walk_at "dt"
  rw[hc1,hc2]
  refine⟨by omega,?_⟩
  rw[<-cZ]
  refine q _ (P1++P2) ⟨(hsub.map _).nodup hQ.1,by rw[bz];omega,fun x hx=>lT x (uU x hx)⟩ (by rw[<-wz];exact hsub.map _) hR
 have hwp:w0%p≠0:=by rw[lu (by omega) (by omega)];exact a2
 walk_at "dt"
 refine Ev.bH Kq ?_
 walk_at "dt"
 refine⟨rfl,p,0-R,w0,rfl,hp,l8,hwp,by omega,by omega,fun⟨j,hj⟩=>?_⟩
 have hs:=vm (p:=p) (b:=w0) (a:=0-R) (by omega)
 generalize sol p w0 (0-R)=sl at*
 have hs1:sl≠0:=fun z=>by
  subst z
  rw[Aa] at hj
  have Zx:R=p*j:=by omega
  rcases xh j 0 with z|z|z
  ·have:p*j<=p*(-1):=o7 (by omega) (by omega)
   omega
  ·subst z;omega
  ·have:p*1<=p*j:=o7 (by omega) (by omega)
   omega
 walk_at "dt"
 rw[hc1]
 refine⟨by show _+1<=_;omega,_,rfl,?_⟩
 walk_at "dt"
 rw[hc2]
 have eL:(P1++[(pr.1,sl)]++P2).map pairD=P1.map pairD++[pairD (pr.1,sl)]++P2.map pairD:=by rw[cZ,cZ];rfl
 refine⟨by rw[bz];show _+1+_<=_;omega,?_⟩
 show Φ _ (.list (P1.map pairD++[pairD (pr.1,sl)]++P2.map pairD))
 rw[<-eL]
 have Kd:(P1++[(pr.1,sl)]++P2).map (·.1)=row:=by
  rw[<-wz,vd]
  simp
 refine q _ (P1++[(pr.1,sl)]++P2) ⟨by rw[Kd];exact o8,by rw[bz,bz];show _+1+_<=_;omega,fun x hx=>?_⟩ (by rw[Kd];exact yD _) ?_
 ·rcases dg.mp hx with z|z
  ·rcases dg.mp z with z|z
   ·exact lT x (uU x (pB _ z))
   ·rw[aQ.mp z]
    exact⟨b0,b1,by show 1<=sl;omega,hs.2⟩
  ·exact lT x (uU x (ia _ z))
 ·have hD:=xW P1 P2 (ws.map some)
  have wH:aU (P1++[(pr.1,sl)]++P2) (ws.map some)=aU (P1++P2) (ws.map some)+sl*w0:=by
   rw[xW,xW,hD]
   have:aU [(pr.1,sl)] (ws.map some)=sl*w0:=by unfold aU;rw[List.map_singleton,qM];simp
   omega
  have hE:=nN (aU (P1++P2) (ws.map some)) p
  rw[hR] at hE
  apply qD
  refine⟨j+aU (P1++P2) (ws.map some)/p,?_⟩
  rw[wH,ze,tu sl]
  omega
theorem Gd:∀{N:List Int} {m:Nat},(N.map PyData.int).eraseIdx m=(N.eraseIdx m).map .int
 |[],_=>rfl
 |_::_,0=>rfl
 |x::N,m+1=>congrArg (PyData.int x:: ·) (Gd (N:=N) (m:=m))
structure C5(p:Int)(ws xs:List Int)(O:List Int):Prop where
 l:xs.length=ws.length
 r:∀x∈xs,0<=x/\x<p
 nd:O.Nodup
 o:∀k∈O,0<=k/\k<ws.length
 e:∀i,i<ws.length->(xs.getD i 0≠ws.getD i 0↔(i:Int)∈O)
def BG:DF:=fun ds Φ=>∃(p m:Int) (ws:List Int),ds=[.int p,aI ws, .int m]/\2<=p/\p<10^40/\ws.length<=400/\(∀x∈ws,0<=x/\x<p)/\0<=m/\m<=ws.length/\∀(f:Bool) (xs O:List Int),C5 p ws xs O->(O.length:Int)=m->Φ f (aI xs)
theorem Ig:cU BG:=by
 intro ds Φ Ψ hm z
 obtain⟨p,m,ws,e,h1,h2,h3,h4,h5,h6,q⟩:=hm
 exact⟨p,m,ws,e,h1,h2,h3,h4,h5,h6,fun f xs O a b=>z _ _ (q f xs O a b)⟩
theorem rT:cz ["bag","p","word","many","left","found","k","place"] ["bag","p","word","many"] (aR D4):=⟨rfl,rfl,rfl,by decide+kernel,rfl,by decide+kernel,by decide+kernel⟩
theorem Xv(F:bQ K "_law_wrong" "_law_wrong" D4 f fd)(dQ:Callee P w K mg base "_law_draw" 2 ["bag","many"] jn)(bU:mg "list"=none)(bf:mg "range"=none)(bW:mg "len"=none):
  bE P w K mg base bO 3 f fd ["bag","p","word","many"] (fY 4 BG):=by
 refine F.ok rT (fun vs H Q E h=>h.1) (fun cdv A outer s H vs Q E hr h=>?_)
 obtain⟨b,l,ws,nb,ds,Φ,rfl,hB,hlive,hnb,hds,aD,hF⟩:=ny h
 obtain⟨p,m,ws,rfl,p2,gn,hwl,hws,m0,m1,q⟩:=hF
 refine⟨_,(@ak _ _ _ _ _ (@aE _ _ (4) _ _ _ _ rT.nd rfl (Or.inl rfl) (@gH _ _ _ _ _ _ _ _ _ (BW rfl) rfl bU iS (@aa _ _ _ _ _ (@gH _ _ _ _ _ _ _ _ _ B7 rfl bf yJ (@aa _ _ _ _ _ (@cH _ _ _ _ _ _ _ _ (gp K) iP rfl bW ir (@aa _ _ _ _ _ (pv 2) af rfl) (by decide) (by decide) (by rfl) (by rfl)) af rfl) (by decide) (by decide) (by rfl) (by rfl)) af rfl) (by decide) (by decide) (by rfl) (by rfl)) (by rfl) (by first|exact .inl rfl|exact .inr rfl|assumption)) (@ak _ _ _ _ _ (@aE _ _ (5) _ _ _ _ rT.nd rfl (Or.inl rfl) (@gH _ _ _ _ _ _ _ _ (jN K) l9 rfl bU iS (@aa _ _ _ _ _ (pv 2) af rfl) (by decide) (by decide) (by rfl) (by rfl)) (by rfl) (by first|exact .inl rfl|exact .inr rfl|assumption)) (@ak _ _ _ _ _ (@dU _ _ _ _ _ _ _ _ c7 rfl (@gF _ _ _ _ _ _ rfl bf (@aa _ _ _ _ _ (pv 3) af rfl) (by rfl)) (aH (i:=6) rT.nd rfl (Or.inl rfl)) (@ak _ _ _ _ _ (@aE _ _ (7) _ _ _ _ rT.nd rfl (Or.inl rfl) (iU jU JZ Jj Hs (pv 4) (@aa _ _ _ _ _ (@aK _ _ _ _ _ _ _ _ _ _ dQ (hr.mono (by decide)) (@aa _ _ _ _ _ (pv 0) (@aa _ _ _ _ _ (@cH _ _ _ _ _ _ _ _ (gp K) iP rfl bW ir (@aa _ _ _ _ _ (pv 4) af rfl) (by decide) (by decide) (by rfl) (by rfl)) af rfl) rfl) (by rfl) (by decide) (by rfl) (by rfl)) af rfl)) (by rfl) (by first|exact .inl rfl|exact .inr rfl|assumption)) (@az _ _ _ (@gK _ _ _ _ _ _ (@aF _ _ _ _ _ _ _ _ iC (@aF _ _ _ _ _ _ _ _ dB (@aF _ _ _ _ _ _ _ _ dB (@aG _ _ _ _ _ _ (cF K) bD (pv 2) (pv 7) (fun _ _=>rfl)) ao) (@aK _ _ _ _ _ _ _ _ _ _ dQ (hr.mono (by decide)) (@aa _ _ _ _ _ (pv 0) (@aa _ _ _ _ _ (@aF _ _ _ _ _ _ _ _ kB (pv 1) ao) af rfl) rfl) (by rfl) (by decide) (by rfl) (by rfl))) (pv 1)) (jq (pv 5) (pv 7) set_list) (by rfl) (by rfl) (by rfl)))) (by intro _;rfl)) (@az _ _ _ (@aZ _ _ _ _ (pv 5)))))),?_⟩
 refine Sv.nQ hB hlive hnb hds aD (ρ:=[.ay, .d false _, .d false _, .d false _, .no, .no, .no, .no]) rfl ?_
 clear aD hds
 have lG:(ws.map PyData.int).length=ws.length:=aj ..
 unfold aI
 refine Sv.seq ?_
 refine Sv.o9 (aC.AW ?_)
 walk_at "dt"
 intro A4
 obtain⟨N0,lV⟩:∃N0,(List.range ((ws.map PyData.int).length:Int).toNat).map (fun(i:Nat)=>(0:Int)+(i:Int))=N0:=⟨_,rfl⟩
 rw[lV]
 have Ul:N0.length=ws.length:=by rw[<-lV];simp
 have Dw:∀x∈N0,0<=x/\x<ws.length:=fun x hx=>by
  rw[<-lV] at hx
  obtain⟨i,hi,rfl⟩:=cI.mp hx
  have:=jC.mp hi;omega
 have zy:N0.Nodup:=by
  rw[<-lV]
  refine List.pairwise_map.mpr (Aq.imp fun h z=>h (by omega))
 refine Sv.seq ?_
 refine Sv.o9 (aC.listOf ?_)
 walk_at "dt"
 intro A5
 refine Sv.seq ?_
 refine Sv.nh ?_
 walk_at "dt"
 refine⟨fun i ρ=>∃(N O xs:List Int) (f5:Bool) (x6 x7:Sl),(O++N).Perm N0/\O.length=i/\C5 p ws xs O/\ρ=[.ay, .d false (.int p), .d false (.list (ws.map .int)), .d false (.int m), .own A4 true (N.map .int), .own A5 f5 (xs.map .int),x6,x7],⟨N0,[],ws,_,_,_,List.Perm.refl _,rfl,⟨rfl,hws,mJ,(fun _ z=>by cases z),fun i _=>⟨fun z=>absurd rfl z,fun z=>by cases z⟩⟩,rfl⟩,?_,?_⟩
 ·rintro i d ρ ⟨hi,rfl⟩ ⟨N,O,xs,f5,x6,x7,hp,hO,hW,rfl⟩
  have hl:=hp.length_eq
  rw[bz] at hl
  have Pw:(N.map PyData.int).length=N.length:=aj ..
  have iF:=hW.l
  have kT:(xs.map PyData.int).length=xs.length:=aj ..
  refine Gv.iN ?_
  refine Sv.seq ?_
  refine Sv.Uv rfl ?_
  walk_at "dt"
  intro r r0 r1
  obtain⟨k,rfl⟩:=o5 r0
  have hk:k<N.length:=by omega
  obtain⟨pl,hpl⟩:∃pl,N[k]?=some pl:=⟨_,aB hk⟩
  refine⟨k, .int pl,rfl,by omega,by rw[aL,hpl];rfl,?_⟩
  rw[Gd]
  have iA:(O++[pl]++N.eraseIdx k).Perm N0:=by
   rw[mR]
   exact(Cv O (yC hpl)).trans hp
  have Oh:pl∈N0:=hp.mem_iff.mp (ia _ (br hpl))
  obtain⟨FZ,Yy⟩:=Dw pl Oh
  have J3:(O++[pl]).Nodup:=((List.sublist_append_left _ _).nodup (iA.nodup_iff.mpr zy))
  have Y3:pl∉O:=fun z=>by
   have:=pe.mp J3
   exact this.2.2 pl z pl (aQ.mpr rfl) rfl
  have KA:pl.toNat<ws.length:=by omega
  have Qv:bN (ws.map PyData.int) pl=some (.int (ws.getD pl.toNat 0)):=fT FZ (by rw[aL,bG,aB KA];rfl)
  have hwr:=hws (ws.getD pl.toNat 0) (by rw[bG,aB KA];exact ig _)
  have hix:fy (xs.map PyData.int).length pl=some pl.toNat:=by
   unfold fy
   rw[kT,iF]
   repeat (first|rw[if_pos (by omega)]|rw[if_neg (by omega)])
  walk_at "dt"
  intro y y0 y1
  walk_at "dt"
  refine⟨_,_,rfl,hix,?_⟩
  obtain⟨z,hz⟩:∃z,(ws.getD pl.toNat 0+1+y)%p=z:=⟨_,rfl⟩
  have Oz:0<=z/\z<p:=by rw[<-hz];exact⟨eS _ (by omega),eF _ (by omega)⟩
  have Rg:z≠ws.getD pl.toNat 0:=fun e=>by
   rw[<-hz] at e
   by_cases c:ws.getD pl.toNat 0+1+y<p
   ·rw[lu (by omega) c] at e;omega
   ·rw[show ws.getD pl.toNat 0+1+y=(ws.getD pl.toNat 0+1+y-p)+p*1 by omega,zd,lu (by omega) (by omega)] at e;omega
  rw[hz,<-rH]
  refine⟨N.eraseIdx k,O++[pl],xs.set pl.toNat z,_,_,_,iA,by rw[bz,fW];omega,⟨by rw[gb];exact iF,fun x hx=>(uV hx).elim (hW.r x) fun e=>e▸Oz,J3,fun j hj=>?_,fun j hj=>?_⟩,rfl⟩
  ·rcases dg.mp hj with q|q
   ·exact hW.o j q
   ·rw[aQ.mp q];exact⟨FZ,Yy⟩
  ·by_cases c:pl.toNat=j
   ·subst c
    rw[bG,cX (by omega)]
    refine⟨fun _=>?_,fun _=>Rg⟩
    rw[show((pl.toNat:Nat):Int)=pl by omega]
    exact ia _ (aQ.mpr rfl)
   ·rw[bG,bP c,<-bG,hW.e j hj,dg,aQ]
    exact⟨.inl,fun q=>q.elim id fun q=>by omega⟩
 rintro ρ ⟨N,O,xs,f5,x6,x7,hp,hO,hW,rfl⟩
 refine Sv.iR 5 rfl ?_
 walk_at "dt"
 exact q _ xs O hW (by omega)
def sA:Nat->PyData->Prop
 |0,_=>False
 |n+1,d=>j9 d=true\/∃ds,(d= .list ds\/d= .tuple ds)/\ds.length<=10000/\∀e∈ds,sA n e
def om(n:Nat):DF:=fun ds Φ=>∃d,ds=[d,d]/\sA n d/\Φ true (.bool true)
theorem oB(n:Nat):cU (om n):=fun ds Φ Ψ ⟨d,e,h,q⟩ z=>⟨d,e,h,z _ _ q⟩
theorem RE:∀vs H Q E,¬aS 2 (om 0) vs H Q E:=fun vs H Q E ⟨_,_,_,_,_,d,_,h,_⟩=>h
theorem V2:cz ["found","due"] ["found","due"] (aR wR):=⟨rfl,rfl,rfl,by decide+kernel,rfl,by decide+kernel,by decide+kernel⟩
theorem rK(n:Nat)(F:bQ K "_law_alike" "_law_alike" wR f fd)(mG:Callee P w K mg base "_law_alike" (n) ["found","due"] (aS 2 (om n)))(iQ:mg "isinstance"=none)(bU:mg "list"=none)(nD:mg "tuple"=none)(ow:mg "all"=none)(bW:mg "len"=none)(mT:mg "bool"=none)(kg:mg "int"=none)(mQ:mg "str"=none)(bf:mg "range"=none):
  bE P w K mg base bO (n+1) f fd ["found","due"] (aS 2 (om (n+1))):=by
 refine F.ok V2 (fun vs H Q E h=>h.1) (fun cdv A outer s H vs Q E hr h=>?_)
 obtain⟨nb,ds,Φ,hlive,hds,aD,hF⟩:=fM h
 obtain⟨d,rfl,hok,q⟩:=hF
 refine⟨_,(@ak _ _ _ _ _ (@cN _ _ _ _ _ _ _ _ (@nB _ (K) _ _ rfl (@cH _ _ _ _ _ _ _ _ (t8) Gp rfl iQ kQ (@aa _ _ _ _ _ (pv 1) (@aa _ _ _ _ _ (@bF _ _ _ _ _ (@aa _ _ _ _ _ (jB (v:= .ty "list") rfl bU iS rfl) (@aa _ _ _ _ _ (jB (v:= .ty "tuple") rfl nD G7 rfl) af rfl) rfl)) af rfl) rfl) (by decide) (by decide) (by rfl) (by rfl)) (fun _=>rfl)) (@ak _ _ _ _ _ (@cN _ _ _ _ _ _ _ _ (PW.pt (CV (@rD _ _ _ _ (@nB _ (K) _ _ rfl (@cH _ _ _ _ _ _ _ _ (t8) Gp rfl iQ kQ (@aa _ _ _ _ _ (pv 0) (@aa _ _ _ _ _ (@bF _ _ _ _ _ (@aa _ _ _ _ _ (jB (v:= .ty "list") rfl bU iS rfl) (@aa _ _ _ _ _ (jB (v:= .ty "tuple") rfl nD G7 rfl) af rfl) rfl)) af rfl) rfl) (by decide) (by decide) (by rfl) (by rfl)) (fun _=>rfl))) (AY (@bB _ _ _ _ _ _ _ _ jV (@cH _ _ _ _ _ _ _ _ (kX K) nF rfl iQ kQ (@aa _ _ _ _ _ (pv 0) (@aa _ _ _ _ _ (jB (v:= .ty "list") rfl bU iS rfl) af rfl) rfl) (by decide) (by decide) (by rfl) (by rfl)) (@cH _ _ _ _ _ _ _ _ (kX K) nF rfl iQ kQ (@aa _ _ _ _ _ (pv 1) (@aa _ _ _ _ _ (jB (v:= .ty "list") rfl bU iS rfl) af rfl) rfl) (by decide) (by decide) (by rfl) (by rfl)) (bw _))))) (@az _ _ _ (@aZ _ _ _ _ mE)) dj) (@ak _ _ _ _ _ (@cN _ _ _ _ _ _ _ _ (@bB _ _ _ _ _ _ _ _ jV (@cH _ _ _ _ _ _ _ _ (gp K) iP rfl bW ir (@aa _ _ _ _ _ (pv 0) af rfl) (by decide) (by decide) (by rfl) (by rfl)) (@cH _ _ _ _ _ _ _ _ (gp K) iP rfl bW ir (@aa _ _ _ _ _ (pv 1) af rfl) (by decide) (by decide) (by rfl) (by rfl)) (bw _)) (@az _ _ _ (@aZ _ _ _ _ mE)) dj) (@az _ _ _ (@aZ _ _ _ _ (@cH _ _ _ _ _ _ _ _ (zB K) (Xx rfl) rfl ow PyProof.Rows.boot_all (@aa _ _ _ _ _ (iD (cP.of (show eU (aR wR) ["found","due"] _ ["k","found","due"] [none,some 0,some 1]=true by decide+kernel)) (@gF _ _ _ _ _ _ rfl bf (@aa _ _ _ _ _ (@cH _ _ _ _ _ _ _ _ (gp K) iP rfl bW ir (@aa _ _ _ _ _ (pv 1) af rfl) (by decide) (by decide) (by rfl) (by rfl)) af rfl) (by rfl)) (fun _ _ _ _=>⟨(aH (i:=0) (by show List.Nodup (["k","found","due"]:List Str);decide+kernel) rfl (Or.inl rfl)),iy,(@aK _ _ _ _ _ _ _ _ _ _ mG (hr.mono (aJ _)) (@aa _ _ _ _ _ (@aG _ _ _ _ _ _ (um K) E1 (pv 1) (pv 0) (fun _ _=>rfl)) (@aa _ _ _ _ _ (@aG _ _ _ _ _ _ (um K) E1 (pv 2) (pv 0) (fun _ _=>rfl)) af rfl) rfl) (by rfl) (by decide) (by rfl) (by rfl))⟩)) af rfl) (by decide) (by decide) (by rfl) (by rfl)))))) dj) (@ak _ _ _ _ _ (@cN _ _ _ _ _ _ _ _ (PW.pt (CV (@bB _ _ _ _ _ _ _ _ jV (@cH _ _ _ _ _ _ _ _ (kX K) nF rfl iQ kQ (@aa _ _ _ _ _ (pv 0) (@aa _ _ _ _ _ (jB (v:= .ty "bool") rfl mT FW rfl) af rfl) rfl) (by decide) (by decide) (by rfl) (by rfl)) (@cH _ _ _ _ _ _ _ _ (kX K) nF rfl iQ kQ (@aa _ _ _ _ _ (pv 1) (@aa _ _ _ _ _ (jB (v:= .ty "bool") rfl mT FW rfl) af rfl) rfl) (by decide) (by decide) (by rfl) (by rfl)) (bw _)) (AY (@bB _ _ _ _ _ _ _ _ jV (@cH _ _ _ _ _ _ _ _ (kX K) nF rfl iQ kQ (@aa _ _ _ _ _ (pv 0) (@aa _ _ _ _ _ (jB (v:= .ty "int") rfl kg z6 rfl) af rfl) rfl) (by decide) (by decide) (by rfl) (by rfl)) (@cH _ _ _ _ _ _ _ _ (kX K) nF rfl iQ kQ (@aa _ _ _ _ _ (pv 1) (@aa _ _ _ _ _ (jB (v:= .ty "int") rfl kg z6 rfl) af rfl) rfl) (by decide) (by decide) (by rfl) (by rfl)) (bw _))))) (@az _ _ _ (@aZ _ _ _ _ mE)) dj) (@az _ _ _ (@aZ _ _ _ _ (@IA _ _ _ _ _ _ _ (@qj _ _ _ _ _ _ _ _ iK (@cH _ _ _ _ _ _ _ _ (kX K) nF rfl iQ kQ (@aa _ _ _ _ _ (pv 0) (@aa _ _ _ _ _ (jB (v:= .ty "str") rfl mQ Kh rfl) af rfl) rfl) (by decide) (by decide) (by rfl) (by rfl)) (@cH _ _ _ _ _ _ _ _ (kX K) nF rfl iQ kQ (@aa _ _ _ _ _ (pv 1) (@aa _ _ _ _ _ (jB (v:= .ty "str") rfl mQ Kh rfl) af rfl) rfl) (by decide) (by decide) (by rfl) (by rfl)) (bw _)) (@Iu _ _ _ _ _ (@qj _ _ _ _ _ _ _ _ iK (pv 0) (pv 1) (bw _)))))))),?_⟩
 refine Sv.fP hlive hds aD (ρ:=[.d false _, .d false _]) rfl ?_
 clear aD hds
 walk_at "dt"
 rcases hok with hs|⟨ds,hd,hl,he⟩
 ·have h1:(i9 d "list" ||i9 d "tuple")=false:=by cases d<;>first|rfl|cases hs
  rw[h1]
  walk_at "dt"
  rw[beq_self_eq_true]
  walk_at "dt"
  rw[beq_self_eq_true]
  walk_at "dt"
  rw[beq_self_eq_true]
  walk_at "dt"
  exact⟨true, .self hs,q⟩
 rcases hd with rfl|rfl
 ·rw[(Gs ds).1,(Gs ds).2,Bool.true_or]
  walk_at "dt"
  refine aC.ev (aC.kR (by decide) rfl ?_)
  walk_at "dt"
  refine⟨true,fun i es=>es=List.replicate i (.bool true),rfl,?_,?_⟩
  ·rintro i d' es ⟨hi,rfl⟩ hl' rfl
   have hi':i<ds.length:=by omega
   have hat:bN ds (0+(i:Int))=some ds[i]:=fT (by omega) (by rw[show(0+(i:Int)).toNat=i by omega];exact aB hi')
   walk_at "dt"
   refine⟨by walk_at "wk",?_⟩
   walk_at "dt"
   refine Ev.bH (oB n) ?_
   walk_at "dt"
   refine⟨rfl,ds[i],rfl,he _ (ig hi'),fun _=>rfl,?_⟩
   show _=List.replicate (i+1) _
   rw[IF]
  ·rintro es hl' rfl
   refine⟨List.replicate ds.length true,by simp,?_⟩
   rw[show(List.replicate ds.length true).all id=true by simp]
   exact q
 ·rw[(Ge ds).1,(Ge ds).2,sD]
  walk_at "dt"
  refine aC.ev (aC.kR (by decide) rfl ?_)
  walk_at "dt"
  refine⟨true,fun i es=>es=List.replicate i (.bool true),rfl,?_,?_⟩
  ·rintro i d' es ⟨hi,rfl⟩ hl' rfl
   have hi':i<ds.length:=by omega
   have hat:bN ds (0+(i:Int))=some ds[i]:=fT (by omega) (by rw[show(0+(i:Int)).toNat=i by omega];exact aB hi')
   walk_at "dt"
   refine⟨by walk_at "wk",?_⟩
   walk_at "dt"
   refine Ev.bH (oB n) ?_
   walk_at "dt"
   refine⟨rfl,ds[i],rfl,he _ (ig hi'),fun _=>rfl,?_⟩
   show _=List.replicate (i+1) _
   rw[IF]
  ·rintro es hl' rfl
   refine⟨List.replicate ds.length true,by simp,?_⟩
   rw[show(List.replicate ds.length true).all id=true by simp]
   exact q
def vE:DF:=fun ds Φ=>∃(p n:Int) (cs:List aq),ds=[cL p n cs]/\cs.length<=10000/\∀f,Φ f (cL p n cs)
theorem JO:cU vE:=by
 intro ds Φ Ψ hm z
 obtain⟨p,n,cs,e,h,q⟩:=hm
 exact⟨p,n,cs,e,h,fun f=>z _ _ (q f)⟩
theorem Yl:cz ["net"] ["net"] (aR wX):=⟨rfl,rfl,rfl,by decide+kernel,rfl,by decide+kernel,by decide+kernel⟩
theorem Yt(F:bQ K "_law_copy" "_law_copy" wX f fd)(bU:mg "list"=none):
  bE P w K mg base bO 1 f fd ["net"] (aS 1 vE):=by
 refine F.ok Yl (fun vs H Q E h=>h.1) (fun cdv A outer s H vs Q E hr h=>?_)
 obtain⟨nb,ds,Φ,hlive,hds,aD,hF⟩:=fM h
 obtain⟨p,n,cs,rfl,hl,q⟩:=hF
 refine⟨_,(@az _ _ _ (@aZ _ _ _ _ (@bF _ _ _ _ _ (@aa _ _ _ _ _ (@aG _ _ _ _ _ _ (c5 K) dG (pv 0) ao (fun _ _=>rfl)) (@aa _ _ _ _ _ (@aG _ _ _ _ _ _ (c5 K) dG (pv 0) ao (fun _ _=>rfl)) (@aa _ _ _ _ _ (iD (cP.of (show eU (aR wX) ["net"] _ ["pairs"] [none]=true by decide+kernel)) (@eB _ _ _ _ (@aG _ _ _ _ _ _ (c5 K) dG (pv 0) ao (fun _ _=>rfl))) (fun _ _ _ _=>⟨(aH (i:=0) (by show List.Nodup (["pairs"]:List Str);decide+kernel) rfl (Or.inl rfl)),iy,(@gH _ _ _ _ _ _ _ _ (jN K) l9 rfl bU iS (@aa _ _ _ _ _ (pv 0) af rfl) (by decide) (by decide) (by rfl) (by rfl))⟩)) af rfl) rfl) rfl)))),?_⟩
 refine Sv.fP hlive hds aD (ρ:=[.d false _]) rfl ?_
 clear aD hds
 walk_at "dt"
 refine aC.ev (aC.jM (by decide) rfl ?_)
 walk_at "dt"
 refine⟨by rw[aj];exact hl,fun v=>⟨false,fun i ds=>ds=(cs.take i).map fJ,rfl,?_,?_⟩⟩
 ·rintro i d ds hd hl' rfl
  obtain⟨prs,c9,rfl⟩:=eO hd
  walk_at "dt"
  refine⟨by walk_at "wk",?_⟩
  walk_at "dt"
  refine⟨fun z=>(by cases z),?_⟩
  show _=List.map _ _
  rw[take_snoc c9,cZ]
  rfl
 ·rintro ds hl' rfl
  rw[aj,fE]
  walk_at "dt"
  exact q _
theorem RW(prs:aq):SeqAt.shaped (fJ prs)=true:=(G0 prs).1
theorem V8(prs:aq):PyData.eqv (fJ prs) (.list [])=prs.isEmpty:=by
 rw[L2.WC];cases prs<;>rfl
def DA:DF:=fun ds Φ=>∃p:Int,ds=[.int p]/\gv p/\p<10^40/\∀(n:Int) (cs:List aq) (ws:List Int) (f:Bool),jR p n cs ws->n<=49->(cs.length:Int)<=2*n+1->cs.length<=59->Φ f (.tuple [cL p n cs,aI ws])
theorem Vx:cU DA:=by
 intro ds Φ Ψ hm z
 obtain⟨p,e,h1,h2,q⟩:=hm
 exact⟨p,e,h1,h2,fun n cs ws f a b c d=>z _ _ (q n cs ws f a b c d)⟩
theorem oN:cz ["bag","p","more","n","rows","word","checks"] ["bag","p"] (aR qL):=⟨rfl,rfl,rfl,by decide+kernel,rfl,by decide+kernel,by decide+kernel⟩
theorem Xp(F:bQ K "_law_apart_net" "_law_apart_net" qL f fd)(dQ:Callee P w K mg base "_law_draw" 2 ["bag","many"] jn)(VN:Callee P w K mg base "_law_lines" 3 ["bag","sides"] (fY 2 CN))(WY:Callee P w K mg base "_law_renamed" 3 ["bag","n","rows"] (fY 3 xZ))(NI:Callee P w K mg base "_law_letters" 3 ["bag","p","n"] (fY 3 Bh))(MF:Callee P w K mg base "_law_added" 3 ["bag","n","rows","many","wide"] (fY 5 DO))(Yi:Callee P w K mg base "_law_true_pairs" 3 ["bag","p","row","word"] (fY 4 A7)):
    bE P w K mg base bO 4 f fd ["bag","p"] (fY 2 DA):=by
  refine F.ok oN (fun vs H Q E h=>h.1) (fun cdv A outer s H vs Q E hr h=>?_)
  obtain⟨b,l,ws,nb,ds,Φ,rfl,hB,hlive,hnb,hds,aD,hF⟩:=ny h
  obtain⟨p,rfl,hp,l8,q⟩:=hF
  refine⟨_,(@ak _ _ _ _ _ (@aE _ _ (2) _ _ _ _ oN.nd rfl (Or.inl rfl) (@aK _ _ _ _ _ _ _ _ _ _ dQ (hr.mono (by decide)) (@aa _ _ _ _ _ (pv 0) (@aa _ _ _ _ _ ao af rfl) rfl) (by rfl) (by decide) (by rfl) (by rfl)) (by rfl) (by first|exact .inl rfl|exact .inr rfl|assumption)) (@ak _ _ _ _ _ (@gK _ _ _ _ _ _ (@aK _ _ _ _ _ _ _ _ _ _ VN (hr.mono (by decide)) (@aa _ _ _ _ _ (pv 0) (@aa _ _ _ _ _ (@eG _ _ _ _ (@DM _ _ _ rfl)) af rfl) rfl) (by rfl) (by decide) (by rfl) (by rfl)) (@iu _ (K) _ _ _ (2) _ rfl rfl (@bV _ _ _ _ _ (aH (i:=3) oN.nd rfl (Or.inl rfl)) (@bV _ _ _ _ _ (aH (i:=4) oN.nd rfl (Or.inl rfl)) gM (by rfl)) (by rfl)) (by rfl) (by rfl)) (by rfl) (by rfl) (by rfl)) (@ak _ _ _ _ _ (@aE _ _ (4) _ _ _ _ oN.nd rfl (Or.inl rfl) (@aK _ _ _ _ _ _ _ _ _ _ WY (hr.mono (by decide)) (@aa _ _ _ _ _ (pv 0) (@aa _ _ _ _ _ (pv 3) (@aa _ _ _ _ _ (@aK _ _ _ _ _ _ _ _ _ _ MF (hr.mono (by decide)) (@aa _ _ _ _ _ (pv 0) (@aa _ _ _ _ _ (pv 3) (@aa _ _ _ _ _ (pv 4) (@aa _ _ _ _ _ (pv 2) (@aa _ _ _ _ _ ao af rfl) rfl) rfl) rfl) rfl) (by rfl) (by decide) (by rfl) (by rfl)) af rfl) rfl) rfl) (by rfl) (by decide) (by rfl) (by rfl)) (by rfl) (by first|exact .inl rfl|exact .inr rfl|assumption)) (@ak _ _ _ _ _ (@aE _ _ (5) _ _ _ _ oN.nd rfl (Or.inr rfl) (@aK _ _ _ _ _ _ _ _ _ _ NI (hr.mono (by decide)) (@aa _ _ _ _ _ (pv 0) (@aa _ _ _ _ _ (pv 1) (@aa _ _ _ _ _ (pv 3) af rfl) rfl) rfl) (by rfl) (by decide) (by rfl) (by rfl)) (by rfl) (by first|exact .inl rfl|exact .inr rfl|assumption)) (@ak _ _ _ _ _ (lZ (i:=6) oN.nd rfl rfl (cP.of (show eU (aR qL) ["bag","p","more","n","rows","word","checks"] _ ["row","bag","p","word"] [none,some 0,some 1,some 5]=true by decide+kernel)) (@eB _ _ _ _ (pv 4)) (fun _ _ _ _=>⟨(aH (i:=0) (by show List.Nodup (["row","bag","p","word"]:List Str);decide+kernel) rfl (Or.inl rfl)),iy,(@aK _ _ _ _ _ _ _ _ _ _ Yi (hr.mono (by decide)) (@aa _ _ _ _ _ (pv 1) (@aa _ _ _ _ _ (pv 2) (@aa _ _ _ _ _ (pv 0) (@aa _ _ _ _ _ (pv 3) af rfl) rfl) rfl) rfl) (by rfl) (by decide) (by rfl) (by rfl))⟩)) (@az _ _ _ (@aZ _ _ _ _ (@bF _ _ _ _ _ (@aa _ _ _ _ _ (@bF _ _ _ _ _ (@aa _ _ _ _ _ (pv 1) (@aa _ _ _ _ _ (pv 3) (@aa _ _ _ _ _ (iD (cP.of (show eU (aR qL) ["bag","p","more","n","rows","word","checks"] _ ["pairs"] [none]=true by decide+kernel)) (@eB _ _ _ _ (pv 6)) (fun _ _ _ _=>⟨(aH (i:=0) (by show List.Nodup (["pairs"]:List Str);decide+kernel) rfl (Or.inl rfl)),(mL (@bB _ _ _ _ _ _ _ _ (R8 hr.units) (pv 0) (@eG _ _ _ _ af) (bw _))),(pv 0)⟩)) af rfl) rfl) rfl)) (@aa _ _ _ _ _ (pv 5) af rfl) rfl))))))))),?_⟩
  refine Sv.nQ hB hlive hnb hds aD (ρ:=[.ay, .d false _, .no, .no, .no, .no, .no]) rfl ?_
  clear aD hds
  have p2:=hp.1
  walk_at "dt"
  intro more m0 m1
  have tD:∀x∈([3,5,3,5,3,5,2,7]:List Int),oS x:=by unfold oS;decide
  walk_at "dt"
  refine Ev.k7 Vf rfl ?_
  walk_at "dt"
  refine⟨[3,5,3,5,3,5,2,7],rfl,by decide,by decide,tD,fun f1 w R gk lJ hR Up=>?_⟩
  have w1:2<=w:=by rcases gk with rfl|rfl|rfl|rfl<;>decide
  have w2:w<=7:=by rcases gk with rfl|rfl|rfl|rfl<;>decide
  have ww:4<=w*w/\w*w<=49:=by rcases gk with rfl|rfl|rfl|rfl<;>decide
  have V5:(w+1)*w+3<=2*(w*w)+1:=by rcases gk with rfl|rfl|rfl|rfl<;>decide
  have ZZ:(w+1)*w<=56:=by rcases gk with rfl|rfl|rfl|rfl<;>decide
  have zU:(R.map aI).length=R.length:=aj ..
  have HE:∀r∈R,qE (w*w) r:=fun r hr=>by
    obtain⟨s,c,h⟩:=hR r hr
    have hl:=h.l
    refine⟨h.rise (by omega),fun x hx=>⟨(h.mem (by omega) hx).1,(h.mem (by omega) hx).2.1⟩,Li (by omega),by omega⟩
  obtain⟨n,hn⟩:∃n,w*w=n:=⟨_,rfl⟩
  rw[hn] at ww V5 HE⊢
  walk_at "dt"
  refine Ev.k7 Ri rfl ?_
  walk_at "dt"
  refine Ev.k7 Qq rfl ?_
  walk_at "dt"
  refine⟨rfl,n,more,5,R,rfl,by omega,by omega,by omega,HE,by omega,by omega,by omega,by omega,fun f2 R2 Zu GH UP=>?_⟩
  walk_at "dt"
  refine⟨rfl,n,R2,rfl,by omega,by omega,by omega,fun r hr=>?_,fun f3 R3 Y9 Kc MV=>?_⟩
  · obtain⟨h1,h2,h3,h4⟩:=GH r hr
    exact⟨h1.imp fun z=>Int.ne_of_lt z,h2,CW.mpr h3,by omega⟩
  have XM:(R3.map aI).length=R3.length:=aj ..
  refine Gv.mz ?_
  walk_at "dt"
  refine Ev.k7 YC rfl ?_
  walk_at "dt"
  refine⟨rfl,p,n,rfl,⟨by omega,by omega⟩,by omega,by omega,fun ws hwl hws=>?_⟩
  have Ko:ws.length=n.toNat:=by omega
  walk_at "dt"
  refine aC.ev (aC.jM (by decide) rfl ?_)
  walk_at "dt"
  refine fun v=>gX.rel fJ false (fun j prs=>lE p n.toNat prs/\(∃r,R3[j]?=some r/\(prs.map (·.1)).Sublist r)/\aU prs (ws.map some)%p=0) ?_ fun cs hcl hcs=>?_
  · rintro j d hd
    obtain⟨r,hr,rfl⟩:=eO hd
    obtain⟨h1,h2,h3,h4⟩:=Kc r (br hr)
    walk_at "dt"
    refine⟨by walk_at "wk",?_⟩
    refine Ev.k7 Ww rfl ?_
    walk_at "dt"
    exact⟨rfl,p,r,ws,rfl,hp,l8,h1,fun x hx=>by have:=h2 x hx;omega,by omega,by omega,hws,fun f4 prs g1 g2 g3=>⟨fun z=>absurd z (by decide),prs,rfl,by rw[<-Ko];exact g1,⟨r,hr,g2⟩,g3⟩⟩
  have lX:(cs.map fJ).length=cs.length:=aj ..
  rw[XM] at hcl
  have Yj:Ap R3:=MV (fun r hr=>(GH r hr).1) (UP Up)
  have Uo:B5 cs:=by
    refine kr.mpr fun i j hi hj hij x y hxy x1 y1 x2 y2=>?_
    obtain⟨_,⟨r,er,sr⟩,_⟩:=hcs i cs[i] (aB hi)
    obtain⟨_,⟨r',Th,Hl⟩,_⟩:=hcs j cs[j] (aB hj)
    exact(uw fun a ha=>(Kc a ha).1).mp Yj i j r r' x y (by omega) er Th hxy (sr.subset x1) (sr.subset y1) (Hl.subset x2) (Hl.subset y2)
  walk_at "dt"
  refine aC.ev (aC.jM (by decide) rfl ?_)
  walk_at "dt"
  refine fun v=>⟨false,fun i ds=>ds=((cs.take i).filter fun prs=>!prs.isEmpty).map fJ,rfl,?_,?_⟩
  · rintro j d ds hd hl' rfl
    obtain⟨prs,c9,rfl⟩:=eO hd
    have hts:=take_snoc c9
    walk_at "dt"
    refine⟨by walk_at "wk",?_⟩
    walk_at "dt"
    refine⟨RW prs,by decide,?_⟩
    show∃b,PyData.bool (PyData.eqv (fJ prs) (.list []) !=true)= .bool b/\_
    rw[V8]
    cases hc:prs.isEmpty with
    | true =>
      walk_at "dt"
      show _=List.map _ (List.filter _ (cs.take (j+1)))
      rw[hts,kI,show List.filter (fun prs:aq=>!prs.isEmpty) [prs]=[] from rF (by rw[hc];decide),eN]
    | false =>
      walk_at "dt"
      show _=List.map _ (List.filter _ (cs.take (j+1)))
      rw[hts,kI,show List.filter (fun prs:aq=>!prs.isEmpty) [prs]=[prs] from uQ (by rw[hc];rfl),cZ]
      rfl
  rintro ds hl' rfl
  rw[lX,fE]
  obtain⟨es,hes⟩:∃es,(cs.filter fun prs=>!prs.isEmpty)=es:=⟨_,rfl⟩
  rw[hes]
  have hel:es.length<=cs.length:=by rw[<-hes];exact zz _ _
  have hem:∀prs∈es,lE p n.toNat prs/\aU prs (ws.map some)%p=0:=fun prs h=>by
    rw[<-hes] at h
    obtain⟨k,hk⟩:=gm (fQ.mp h).1
    exact⟨(hcs k prs hk).1,(hcs k prs hk).2.2⟩
  walk_at "dt"
  refine q n es ws _ ⟨⟨hp,l8,by omega,by omega,by omega,fun prs h=>(hem prs h).1⟩,by rw[<-hes];exact Uo.filter _,fun prs h=>(hem prs h).2,Ko,hws⟩ (by omega) (by omega) (by omega)
def AO:DF:=fun ds Φ=>∃(p n:Int) (cs:List aq),ds=[cL p n cs]/\iB p n cs/\∀d:Nat,(∀i,i<n.toNat->d<=fZ cs i)->(∃i,i<n.toNat/\d=fZ cs i)->Φ true (.int (d:Int))
theorem Qf:cU AO:=by
 intro ds Φ Ψ hm z
 obtain⟨p,n,cs,e,h,q⟩:=hm
 exact⟨p,n,cs,e,h,fun d a b=>z _ _ (q d a b)⟩
def iO(cs:List aq)(c:Nat)(dn:aq)(j:Nat):Int:=(fZ (cs.take c) j:Int)+if(j:Int)∈dn.map (·.1) then 1 else 0
theorem QJ{cs:List aq}{c:Nat}{prs:aq}(h:cs[c]?=some prs)(j:Nat):iO cs c prs j=(fZ (cs.take (c+1)) j:Int):=by
 unfold iO fZ
 rw[take_snoc h,qC,p8]
 by_cases e:(j:Int)∈prs.map (·.1)
 ·rw[if_pos e,if_pos (decide_eq_true e)];omega
 ·rw[if_neg e,if_neg (by rw[decide_eq_false e];decide)];omega
theorem sR:cz ["net","there","pairs","place","factor"] ["net"] (aR wL):=⟨rfl,rfl,rfl,by decide+kernel,rfl,by decide+kernel,by decide+kernel⟩
theorem TQ(F:bQ K "_law_least_degree" "_law_least_degree" wL f fd)(pW:mg "min"=none)(bf:mg "range"=none):
  bE P w K mg base bO 1 f fd ["net"] (aS 1 AO):=by
 refine F.ok sR (fun vs H Q E h=>h.1) (fun cdv A outer s H vs Q E hr h=>?_)
 obtain⟨nb,ds,Φ,hlive,hds,aD,hF⟩:=fM h
 obtain⟨p,n,cs,rfl,hN,q⟩:=hF
 refine⟨_,(@ak _ _ _ _ _ (lZ (i:=1) sR.nd rfl rfl (cP.of (show eU (aR wL) ["net","there","pairs","place","factor"] _ ["place"] [none]=true by decide+kernel)) (@gF _ _ _ _ _ _ rfl bf (@aa _ _ _ _ _ (@aG _ _ _ _ _ _ (c5 K) dG (pv 0) ao (fun _ _=>rfl)) af rfl) (by rfl)) (fun _ _ _ _=>⟨(aH (i:=0) (by show List.Nodup (["place"]:List Str);decide+kernel) rfl (Or.inl rfl)),iy,ao⟩)) (@ak _ _ _ _ _ (@dU _ _ _ _ _ _ _ _ c7 rfl (@eB _ _ _ _ (@aG _ _ _ _ _ _ (c5 K) dG (pv 0) ao (fun _ _=>rfl))) (aH (i:=2) sR.nd rfl (Or.inl rfl)) (@az _ _ _ (@dU _ _ _ _ _ _ _ _ c7 rfl (@eB _ _ _ _ (pv 2)) (@iu _ (K) _ _ _ (2) _ rfl rfl (@bV _ _ _ _ _ (aH (i:=3) sR.nd rfl (Or.inl rfl)) (@bV _ _ _ _ _ (aH (i:=4) sR.nd rfl (Or.inl rfl)) gM (by rfl)) (by rfl)) (by rfl) (by rfl)) (@az _ _ _ (@gK _ _ _ _ _ _ (@aF _ _ _ _ _ _ _ _ dB (@aG _ _ _ _ _ _ (cF K) bD (pv 1) (pv 3) (fun _ _=>rfl)) ao) (jq (pv 1) (pv 3) set_list) (by rfl) (by rfl) (by rfl))) (by intro _;rfl))) (by intro _;rfl)) (@az _ _ _ (@aZ _ _ _ _ (@cH _ _ _ _ _ _ _ _ (CJ K) (MA rfl) rfl pW Ic (@aa _ _ _ _ _ (pv 1) af rfl) (by decide) (by decide) (by rfl) (by rfl)))))),?_⟩
 refine Sv.fP hlive hds aD (ρ:=[.d false _, .no, .no, .no, .no]) rfl ?_
 clear aD hds
 have n0:=hN.n0
 have n1:=hN.n1
 have hcl:=hN.cl
 have lX:(cs.map fJ).length=cs.length:=aj ..
 refine Sv.seq ?_
 refine Sv.XX (aC.kR (by decide) rfl ?_)
 walk_at "dt"
 refine gX.rel PyData.int true (fun _ r=>r=0) ?_ fun os iw hos=>?_
 ·rintro j d ⟨hj,rfl⟩
  walk_at "dt"
  refine⟨by walk_at "wk",?_⟩
  walk_at "dt"
  rfl
 have xU:os=(List.range n.toNat).map fun j=>(fZ (cs.take 0) j:Int):=map_range (by omega) fun k x e=>by rw[hos k x e];rfl
 subst xU
 intro a
 refine Sv.seq ?_
 refine Sv.forL ?_
 walk_at "dt"
 intro v
 refine⟨fun i ρ=>∃(f:Bool) (x2 x3 x4:Sl),ρ=[.d false (cL p n cs), .own a f (((List.range n.toNat).map fun j=>(fZ (cs.take i) j:Int)).map .int),x2,x3,x4],⟨_,_,_,_,rfl⟩,?_,?_⟩
 ·rintro i d ρ hd ⟨f,x2,x3,x4,rfl⟩
  obtain⟨prs,c9,rfl⟩:=eO hd
  obtain⟨g1,g2,g3⟩:=hN.ok prs (br c9)
  have iA:(prs.map pairD).length=prs.length:=aj ..
  refine Gv.name ?_
  refine Sv.forL ?_
  refine Ev.var rfl ?_
  refine⟨_,rfl,fun v=>⟨fun k ρ=>∃(f:Bool) (x3 x4:Sl),ρ=[.d false (cL p n cs), .own a f (((List.range n.toNat).map (iO cs i (prs.take k))).map .int), .d false (fJ prs),x3,x4],?_,?_,?_⟩⟩
  ·refine⟨f,x3,x4,?_⟩
   rw[show iO cs i (prs.take 0)=fun j=>(fZ (cs.take i) j:Int) from funext fun j=>by unfold iO;rw[sS,if_neg (by simp)];omega]
   rfl
  ·rintro k d ρ hd ⟨f,x3,x4,rfl⟩
   obtain⟨pr,bu,rfl⟩:=eO hd
   obtain⟨b0,b1,_⟩:=g3 pr (br bu)
   have hts:=take_snoc bu
   have hnot:pr.1∉(prs.take k).map (·.1):=fun z=>by
    rw[tE] at z
    obtain⟨m,hm⟩:=gm z
    have AJ:m<k:=by have:=(aP.mp hm).1;rw[iX] at this;omega
    rw[List.getElem?_take,if_pos AJ] at hm
    have:=CI g1 hm (show(prs.map (·.1))[k]?=some pr.1 by rw[aL,bu];rfl)
    omega
   have hkn:pr.1.toNat<n.toNat:=by omega
   have hgt:((List.range n.toNat).map (iO cs i (prs.take k)))[pr.1.toNat]?=some (iO cs i (prs.take k) pr.1.toNat):=by rw[aL,jz hkn];rfl
   have hat:bN (((List.range n.toNat).map (iO cs i (prs.take k))).map PyData.int) pr.1=some (.int (iO cs i (prs.take k) pr.1.toNat)):=fT b0 (by rw[aL,hgt];rfl)
   have hix:fy (((List.range n.toNat).map (iO cs i (prs.take k))).map PyData.int).length pr.1=some pr.1.toNat:=by
    unfold fy
    rw[aj,aj,iH]
    repeat (first|rw[if_pos (by omega)]|rw[if_neg (by omega)])
   have hE:(((List.range n.toNat).map (iO cs i (prs.take k))).map PyData.int).set pr.1.toNat (.int (iO cs i (prs.take k) pr.1.toNat+1))=((List.range n.toNat).map (iO cs i (prs.take (k+1)))).map PyData.int:=by
    rw[<-rH]
    congr 1
    apply gU
    intro j
    rw[aL]
    by_cases hj:j<n.toNat
    ·rw[jz hj]
     by_cases e:pr.1.toNat=j
     ·subst e
      rw[cX (by rw[aj,iH];exact hkn)]
      show some _=some _
      unfold iO
      rw[hts,cZ,if_neg (by rw[show((pr.1.toNat:Nat):Int)=pr.1 by omega];exact hnot),if_pos (ia _ (by rw[show((pr.1.toNat:Nat):Int)=pr.1 by omega];exact aQ.mpr rfl))]
      congr 1
     ·rw[bP e,aL,jz hj]
      show some _=some _
      unfold iO
      have:((j:Int)∈(prs.take (k+1)).map (·.1))↔(j:Int)∈(prs.take k).map (·.1):=by
       rw[hts,cZ,dg,List.map_singleton,aQ]
       exact⟨fun z=>z.elim id fun z=>by omega, .inl⟩
      by_cases c:(j:Int)∈(prs.take k).map (·.1)
      ·rw[if_pos c,if_pos (this.mpr c)]
      ·rw[if_neg c,if_neg (fun z=>c (this.mp z))]
    ·rw[fV (by rw[gb,aj,iH];omega),fV (by rw[iH];omega)];rfl
   unfold pairD
   walk_at "dt"
   refine⟨_,_,rfl,hix,?_⟩
   rw[hE]
   exact⟨_,_,_,rfl⟩
  ·rintro ρ ⟨f,x3,x4,rfl⟩
   rw[iA,fE,show iO cs i prs=fun j=>(fZ (cs.take (i+1)) j:Int) from funext fun j=>QJ c9 j]
   exact⟨_,_,_,_,rfl⟩
 rintro ρ ⟨f,x2,x3,x4,rfl⟩
 rw[lX,fE]
 refine Sv.iR 1 rfl ?_
 refine Sv.ret ?_
 refine Ev.PM ?_
 walk_at "dt"
 refine⟨_,rfl,Li (by rw[aj,iH];omega),fun M hM hle=>?_⟩
 obtain⟨j,hj,rfl⟩:=cI.mp hM
 refine q (fZ cs j) (fun i hi=>?_) ⟨j,jC.mp hj,rfl⟩
 have:=hle _ (cI.mpr ⟨i,jC.mpr hi,rfl⟩)
 omega
def AX:DF:=fun ds Φ=>∃(p n:Int) (cs:List aq) (ws:List Int),ds=[cL p n cs,aI ws]/\iB p n cs/\ws.length=n.toNat/\(∀x∈ws,0<=x/\x<p)/\∀(M:List (List Int)) (f:Bool),Ms p cs ws n.toNat M->Φ f (rE p cs ws n.toNat M)
theorem XD:cU AX:=by
 intro ds Φ Ψ hm z
 obtain⟨p,n,cs,ws,e,h1,h2,h3,q⟩:=hm
 exact⟨p,n,cs,ws,e,h1,h2,h3,fun M f h=>z _ _ (q M f h)⟩
theorem kZ:cz ["net","word","p","n","checks","found","pairs","rest","place","factor","letter"] ["net","word"] (aR ua):=⟨rfl,rfl,rfl,by decide+kernel,rfl,by decide+kernel,by decide+kernel⟩
theorem RT(F:bQ K "_law_votes_all" "_law_votes_all" ua f fd)(qS:Callee P w K mg base "_law_sum" 1 ["p","pairs","word"] (aS 3 sG))(zg:Callee P w K mg base "_law_over" 1 ["p","a","b"] (aS 3 ve))(bf:mg "range"=none):
  bE P w K mg base bO 2 f fd ["net","word"] (aS 2 AX):=by
 refine F.ok kZ (fun vs H Q E h=>h.1) (fun cdv A outer s H vs Q E hr h=>?_)
 obtain⟨nb,ds,Φ,hlive,hds,aD,hF⟩:=fM h
 obtain⟨p,n,cs,ws,rfl,hN,hwl,hws,q⟩:=hF
 refine⟨_,(@ak _ _ _ _ _ (@gK _ _ _ _ _ _ (pv 0) (@iu _ (K) _ _ _ (3) _ rfl rfl (@bV _ _ _ _ _ (aH (i:=2) kZ.nd rfl (Or.inl rfl)) (@bV _ _ _ _ _ (aH (i:=3) kZ.nd rfl (Or.inl rfl)) (@bV _ _ _ _ _ (aH (i:=4) kZ.nd rfl (Or.inl rfl)) gM (by rfl)) (by rfl)) (by rfl)) (by rfl) (by rfl)) (by rfl) (by rfl) (by rfl)) (@ak _ _ _ _ _ (lZ (i:=5) kZ.nd rfl rfl (cP.of (show eU (aR ua) ["net","word","p","n","checks","found","pairs","rest","place","factor","letter"] _ ["place"] [none]=true by decide+kernel)) (@gF _ _ _ _ _ _ rfl bf (@aa _ _ _ _ _ (pv 3) af rfl) (by rfl)) (fun _ _ _ _=>⟨(aH (i:=0) (by show List.Nodup (["place"]:List Str);decide+kernel) rfl (Or.inl rfl)),iy,Hr⟩)) (@ak _ _ _ _ _ (@dU _ _ _ _ _ _ _ _ c7 rfl (@eB _ _ _ _ (pv 4)) (aH (i:=6) kZ.nd rfl (Or.inl rfl)) (@ak _ _ _ _ _ (@aE _ _ (7) _ _ _ _ kZ.nd rfl (Or.inl rfl) (@aK _ _ _ _ _ _ _ _ _ _ qS (hr.mono (by decide)) (@aa _ _ _ _ _ (pv 2) (@aa _ _ _ _ _ (pv 6) (@aa _ _ _ _ _ (pv 1) af rfl) rfl) rfl) (by rfl) (by decide) (by rfl) (by rfl)) (by rfl) (by first|exact .inl rfl|exact .inr rfl|assumption)) (@az _ _ _ (@dU _ _ _ _ _ _ _ _ c7 rfl (@eB _ _ _ _ (pv 6)) (@iu _ (K) _ _ _ (2) _ rfl rfl (@bV _ _ _ _ _ (aH (i:=8) kZ.nd rfl (Or.inl rfl)) (@bV _ _ _ _ _ (aH (i:=9) kZ.nd rfl (Or.inl rfl)) gM (by rfl)) (by rfl)) (by rfl) (by rfl)) (@ak _ _ _ _ _ (@aE _ _ (10) _ _ _ _ kZ.nd rfl (Or.inl rfl) (@aK _ _ _ _ _ _ _ _ _ _ zg (hr.mono (by decide)) (@aa _ _ _ _ _ (pv 2) (@aa _ _ _ _ _ (@aF _ _ _ _ _ _ _ _ kB (@aF _ _ _ _ _ _ _ _ gf (pv 9) (@aG _ _ _ _ _ _ (cF K) bD (pv 1) (pv 8) (fun _ _=>rfl))) (pv 7)) (@aa _ _ _ _ _ (pv 9) af rfl) rfl) rfl) (by rfl) (by decide) (by rfl) (by rfl)) (by rfl) (by first|exact .inl rfl|exact .inr rfl|assumption)) (@az _ _ _ (@gK _ _ _ _ _ _ (@aF _ _ _ _ _ _ _ _ dB (iU uy t9 yZ BH (@aG _ _ _ _ _ _ (cF K) bD (pv 5) (pv 8) (fun _ _=>rfl)) (@aa _ _ _ _ _ (pv 10) (@aa _ _ _ _ _ ao af rfl) rfl)) ao) (jq (@aG _ _ _ _ _ _ (cF K) bD (pv 5) (pv 8) (fun _ _=>rfl)) (pv 10) set_dict) (by rfl) (by rfl) (by rfl)))) (by intro _;rfl)))) (by intro _;rfl)) (@az _ _ _ (@aZ _ _ _ _ (pv 5)))))),?_⟩
 refine Sv.fP hlive hds aD (ρ:=[.d false _, .d false _, .no, .no, .no, .no, .no, .no, .no, .no, .no]) rfl ?_
 clear aD hds
 have p2:=hN.hp.1
 have gn:=hN.gn
 have n0:=hN.n0
 have n1:=hN.n1
 have hcl:=hN.cl
 have lX:(cs.map fJ).length=cs.length:=aj ..
 have kh:lz (ws.map some):=fun y hy=>by
  obtain⟨z,hz,e⟩:=cI.mp hy
  cases e
  have:=hws y hz
  unfold Sm;omega
 have j3:aI ws=kc (ws.map some):=by show PyData.list _=PyData.list _;rw[dw];rfl
 generalize gu:(pH (sU 5 _) _:TS)=tl
 walk_at "dt"
 subst gu
 refine Sv.seq ?_
 refine Sv.UO ?_
 walk_at "dt"
 intro A as
 refine Sv.seq ?_
 refine Sv.forL ?_
 refine Ev.var rfl ?_
 refine⟨_,rfl,fun v=>⟨fun i ρ=>∃(x6 x7 x8 x9 cY:Sl),ρ=[.d false (cL p n cs), .d false (aI ws), .d true (.int p), .d true (.int n), .d false (.list (cs.map fJ)), .cu (ldC A as ((List.range n.toNat).map (i6 p cs ws i))),x6,x7,x8,x9,cY],?_,?_,?_⟩⟩
 ·refine⟨.no, .no, .no, .no, .no,?_⟩
  rw[show(List.range n.toNat).map (i6 p cs ws 0)=List.replicate n.toNat [] by
   apply gU
   intro k
   rw[aL,g5]
   by_cases hk:k<n.toNat
   ·rw[jz hk,if_pos hk];rfl
   ·rw[fV (by rw[iH];omega),if_neg hk];rfl]
  rfl
 ·rintro i d ρ hd ⟨x6,x7,x8,x9,cY,rfl⟩
  obtain⟨prs,c9,rfl⟩:=eO hd
  have hil:=(aP.mp c9).1
  obtain⟨g1,g2,g3⟩:=hN.ok prs (br c9)
  have iA:(prs.map pairD).length=prs.length:=aj ..
  refine Gv.name ?_
  walk_at "dt"
  refine Ev.bH Bp ?_
  walk_at "dt"
  refine⟨rfl,p,prs,ws.map some,by show[_,_,_]=_;rw[j3],by omega,by omega,fun pr bu=>?_,kh,?_⟩
  ·obtain⟨b0,b1,b2,b3⟩:=g3 pr bu
   exact⟨b0,by rw[aj];omega,by unfold Sm;omega⟩
  have R0:=eS (aU prs (ws.map some)) (show p≠0 by omega)
  have R1:=eF (aU prs (ws.map some)) (show 0<p by omega)
  obtain⟨R,hR⟩:∃R,aU prs (ws.map some)%p=R:=⟨_,rfl⟩
  rw[hR] at R0 R1⊢
  refine Gv.iN ?_
  refine Sv.forL ?_
  refine Ev.var rfl ?_
  refine⟨_,rfl,fun v=>⟨fun k ρ=>∃(x8 x9 cY:Sl),ρ=[.d false (cL p n cs), .d false (aI ws), .d true (.int p), .d true (.int n), .d false (.list (cs.map fJ)), .cu (ldC A as ((List.range n.toNat).map (gG p cs ws i prs (prs.take k)))), .d false (fJ prs), .d true (.int R),x8,x9,cY],?_,?_,?_⟩⟩
  ·refine⟨x8,x9,cY,?_⟩
   rw[sS,show gG p cs ws i prs []=i6 p cs ws i from funext fun j=>NN]
   rfl
  ·rintro k d ρ hd ⟨x8,x9,cY,rfl⟩
   obtain⟨pr,bu,rfl⟩:=eO hd
   obtain⟨b0,b1,b2,b3⟩:=g3 pr (br bu)
   have hts:=take_snoc bu
   have hnot:pr.1∉(prs.take k).map (·.1):=fun z=>by
    rw[tE] at z
    obtain⟨m,hm⟩:=gm z
    have AJ:m<k:=by have:=(aP.mp hm).1;rw[iX] at this;omega
    rw[List.getElem?_take,if_pos AJ] at hm
    have:=CI g1 hm (show(prs.map (·.1))[k]?=some pr.1 by rw[aL,bu];rfl)
    omega
   have lg:=Ve (p:=p) (cs:=cs) (ws:=ws) (c:=i) (prs:=prs) (n:=n.toNat) b0 (by omega) hnot
   rw[<-hts,hR] at lg
   have Gf:pr.1.toNat<ws.length:=by omega
   have hat:bN (ws.map PyData.int) pr.1=some (.int (ws.getD pr.1.toNat 0)):=fT b0 (by rw[aL,bG,aB Gf];rfl)
   have hwr:=hws (ws.getD pr.1.toNat 0) (by rw[bG,aB Gf];exact ig _)
   generalize ws.getD pr.1.toNat 0=w0 at*
   have hfp:pr.2%p≠0:=by rw[lu (by omega) b3];omega
   have Zq:0<=pr.2*w0:=BL (by omega) (by omega)
   have hpp:p*p<=10^40*10^40:=BB (by omega) (by omega) (by omega) (by decide)
   have ZT:pr.2*w0<p*p:=Int.mul_lt_mul' (by omega) (by omega) (by omega) (by omega)
   unfold pairD
   walk_at "dt"
   refine Ev.bH Kq ?_
   walk_at "dt"
   refine⟨rfl,p,pr.2*w0-R,pr.2,rfl,hN.hp,gn,hfp,by omega,by omega,fun _=>?_⟩
   rw[Tf hN.hp hfp]
   refine Gv.iN ?_
   refine Sv.R4 (pl:=pr.1) (x:=(w0-R*sol p pr.2 1)%p) rfl rfl rfl b0 (by rw[aj,iH];omega) ?_ ?_
   ·rw[bG,aL,jz (by omega)]
    have:=Mh (p:=p) (cs:=cs) (ws:=ws) (c:=i) (prs:=prs) (dn:=prs.take k) (j:=pr.1.toNat)
    show(gG p cs ws i prs (prs.take k) pr.1.toNat).length<_
    omega
   rw[lg]
   exact⟨_,_,_,rfl⟩
  ·rintro ρ ⟨x8,x9,cY,rfl⟩
   rw[iA,fE,show gG p cs ws i prs prs=i6 p cs ws (i+1) from funext fun j=>Ud c9]
   exact⟨_,_,_,_,_,rfl⟩
 ·rintro ρ ⟨x6,x7,x8,x9,cY,rfl⟩
  rw[lX]
  refine Sv.VG 5 rfl fun M Fz YW=>?_
  have hl:((List.range n.toNat).map (i6 p cs ws cs.length)).length=n.toNat:=by rw[aj,iH]
  have hg:∀j,j<n.toNat->((List.range n.toNat).map (i6 p cs ws cs.length)).getD j []=bM p cs ws (j:Int):=fun j hj=>by
   rw[bG,aL,jz hj];exact Vk
  have QV:Ms p cs ws n.toNat M:=by
   rw[hl] at Fz
   have key:∀j,j<n.toNat->(M.getD j []).Nodup/\∀k,k∈M.getD j []↔k∈bM p cs ws (j:Int):=fun j hj=>by
    have:=YW j (M.getD j []) (bM p cs ws (j:Int)) (by rw[bG,aB (by omega)];rfl) (by rw[<-hg j hj,bG,aB (by omega)];rfl)
    exact this
   exact⟨Fz,fun j hj=>(key j hj).1,fun j hj=>(key j hj).2⟩
  rw[hl]
  rw[show((List.range n.toNat).map fun j=>PyData.dict ((cntK (M.getD j []) (((List.range n.toNat).map (i6 p cs ws cs.length)).getD j [])).map bI))=(List.range n.toNat).map fun j=>PyData.dict ((cntK (M.getD j []) (bM p cs ws (j:Int))).map bI) from fX fun j hj=>by rw[hg j (jC.mp hj)]]
  walk_at "dt"
  exact q M _ QV
theorem Rz(ms l:List Int):cntK ms l=(ms.map fun k=>(k,(l.count k:Int))).map fun q=>(q.1,PyData.int q.2):=by unfold cntK;rw[dw];rfl
theorem P6(ms l:List Int):(cntK ms l).map (·.1)=ms:=by unfold cntK;rw[dw];exact BQ _
def w5:DF:=fun ds Φ=>∃(p n:Int) (cs:List aq) (ws:List Int),ds=[cL p n cs,aI ws]/\iB p n cs/\cs.length<=62/\ws.length=n.toNat/\(∀x∈ws,0<=x/\x<p)/\∀f,Φ f (.list ((bL p cs ws n.toNat).map cJ))
theorem Jf:cU w5:=by
 intro ds Φ Ψ hm z
 obtain⟨p,n,cs,ws,e,h1,h2,h3,h4,q⟩:=hm
 exact⟨p,n,cs,ws,e,h1,h2,h3,h4,fun f=>z _ _ (q f)⟩
theorem qw:cz ["net","word","there","turns","place","degree","letter"] ["net","word"] (aR BK):=⟨rfl,rfl,rfl,by decide+kernel,rfl,by decide+kernel,by decide+kernel⟩
theorem MN(F:bQ K "_law_turns" "_law_turns" BK f fd)(Vw:Callee P w K mg base "_law_votes_all" 2 ["net","word"] (aS 2 AX))(bf:mg "range"=none)(qc:mg "sum"=none)(jZ:mg "sorted"=none):
  bE P w K mg base bO 3 f fd ["net","word"] (aS 2 w5):=by
 refine F.ok qw (fun vs H Q E h=>h.1) (fun cdv A outer s H vs Q E hr h=>?_)
 obtain⟨nb,ds,Φ,hlive,hds,aD,hF⟩:=fM h
 obtain⟨p,n,cs,ws,rfl,hN,lW,hwl,hws,q⟩:=hF
 refine⟨_,(@ak _ _ _ _ _ (@aE _ _ (2) _ _ _ _ qw.nd rfl (Or.inl rfl) (@aK _ _ _ _ _ _ _ _ _ _ Vw (hr.mono (by decide)) (@aa _ _ _ _ _ (pv 0) (@aa _ _ _ _ _ (pv 1) af rfl) rfl) (by rfl) (by decide) (by rfl) (by rfl)) (by rfl) (by first|exact .inl rfl|exact .inr rfl|assumption)) (@ak _ _ _ _ _ (@aE _ _ (3) _ _ _ _ qw.nd rfl (Or.inl rfl) (@eG _ _ _ _ af) (by rfl) (by first|exact .inl rfl|exact .inr rfl|assumption)) (@ak _ _ _ _ _ (@dU _ _ _ _ _ _ _ _ c7 rfl (@gF _ _ _ _ _ _ rfl bf (@aa _ _ _ _ _ (@aG _ _ _ _ _ _ (c5 K) dG (pv 0) ao (fun _ _=>rfl)) af rfl) (by rfl)) (aH (i:=4) qw.nd rfl (Or.inl rfl)) (@ak _ _ _ _ _ (@aE _ _ (5) _ _ _ _ qw.nd rfl (Or.inl rfl) (@cH _ _ _ _ _ _ _ _ (DT) (VW rfl) rfl qc Jl (@aa _ _ _ _ _ (EB uy Gg PySem.F.type_dict_values TF (@aG _ _ _ _ _ _ (cF K) bD (pv 2) (pv 4) (fun _ _=>rfl))) af rfl) (by decide) (by decide) (by rfl) (by rfl)) (by rfl) (by first|exact .inl rfl|exact .inr rfl|assumption)) (@az _ _ _ (@dU _ _ _ _ _ _ _ _ c7 rfl (@eB _ _ _ _ (@cH _ _ _ _ _ _ _ _ (tS) (KL rfl) rfl jZ ug (@aa _ _ _ _ _ (@aG _ _ _ _ _ _ (cF K) bD (pv 2) (pv 4) (fun _ _=>rfl)) af rfl) (by decide) (by decide) (by rfl) (by rfl))) (aH (i:=6) qw.nd rfl (Or.inl rfl)) (@az _ _ _ (@cN _ _ _ _ _ _ _ _ (PW.pt (qz (@bB _ _ _ _ _ _ _ _ jV (pv 6) (@aG _ _ _ _ _ _ (cF K) bD (pv 1) (pv 4) (fun _ _=>rfl)) (bw _)) (pI (@bB _ _ _ _ _ _ _ _ pY (@aG _ _ _ _ _ _ (jQ) m5 (@aG _ _ _ _ _ _ (cF K) bD (pv 2) (pv 4) (fun _ _=>rfl)) (pv 6) (fun _ _=>rfl)) (@aF _ _ _ _ _ _ _ _ kB (pv 5) (@aG _ _ _ _ _ _ (jQ) m5 (@aG _ _ _ _ _ _ (cF K) bD (pv 2) (pv 4) (fun _ _=>rfl)) (pv 6) (fun _ _=>rfl))) (bw _))))) (@az _ _ _ (@kO _ _ _ _ (iU jU kN k6 kG (pv 3) (@aa _ _ _ _ _ (@bF _ _ _ _ _ (@aa _ _ _ _ _ (pv 4) (@aa _ _ _ _ _ (@aG _ _ _ _ _ _ (cF K) bD (pv 1) (pv 4) (fun _ _=>rfl)) (@aa _ _ _ _ _ (pv 6) af rfl) rfl) rfl)) af rfl)) (by rfl))) dj)) (by intro _;rfl)))) (by intro _;rfl)) (@az _ _ _ (@aZ _ _ _ _ (pv 3)))))),?_⟩
 refine Sv.fP hlive hds aD (ρ:=[.d false _, .d false _, .no, .no, .no, .no, .no]) rfl ?_
 clear aD hds
 have p2:=hN.hp.1
 have n0:=hN.n0
 have n1:=hN.n1
 have lG:(ws.map PyData.int).length=ws.length:=aj ..
 walk_at "dt"
 refine Ev.bH XD ?_
 walk_at "dt"
 refine⟨rfl,p,n,cs,ws,rfl,hN,hwl,hws,fun M f0 hM=>?_⟩
 refine Gv.mz ?_
 walk_at "dt"
 intro A3
 refine Sv.seq ?_
 refine Sv.nh ?_
 walk_at "dt"
 refine⟨fun i ρ=>∃(f3:Bool) (x4 x5 x6:Sl),ρ=[.d false (cL p n cs), .d false (aI ws), .d false (rE p cs ws n.toNat M), .own A3 f3 ((bL p cs ws i).map cJ),x4,x5,x6],⟨_,_,_,_,rfl⟩,?_,?_⟩
 ·rintro i d ρ ⟨hi,rfl⟩ ⟨f3,x4,x5,x6,rfl⟩
  rw[kP]
  have hij:i<n.toNat:=by omega
  have hat:=Tp (p:=p) (cs:=cs) (ws:=ws) (M:=M) hij
  have hnd:=hM.nd i hij
  have xH:=hM.m i hij
  have hlen:(bM p cs ws (i:Int)).length<=cs.length:=SV
  have hwi:i<ws.length:=by omega
  have Qv:bN (ws.map PyData.int) (i:Int)=some (.int (ws.getD i 0)):=fT (by omega) (by rw[eX,aL,bG,aB hwi];rfl)
  have gu:=sL (p:=p) (cs:=cs) (ws:=ws) i
  have HF:=t7 (p:=p) (cs:=cs) (ws:=ws) (m:=i)
  unfold lH at HF
  have xj:=fun(ms:List Int) (h1:ms.Nodup) (h2:∀k,k∈ms↔k∈bM p cs ws (i:Int))=>GO (w:=ws.getD i 0) h1 h2
  generalize hL:bM p cs ws (i:Int)=L at*
  generalize M.getD i []=ms at*
  generalize ws.getD i 0=w0 at*
  have hml:ms.length<=L.length:=qW hnd fun k hk=>(xH k).mp hk
  have hsum:=WU hnd xH
  refine Gv.iN ?_
  refine Sv.seq ?_
  refine Sv.asg ?_
  refine Ev.Qj ?_
  unfold rE
  walk_at "dt"
  refine⟨ms.map fun k=>(k,(L.count k:Int)),by rw[Rz],?_⟩
  rw[dw,show((fun x:Int×Int=>x.2)∘fun k=>(k,(L.count k:Int)))=fun k=>(L.count k:Int) from rfl,hsum]
  refine Gv.iN ?_
  refine Sv.forL ?_
  refine aC.ev (aC.Lp ?_)
  walk_at "dt"
  refine⟨_,rfl,by unfold cntK;rw[aj];omega,fun rs hrs ya=>?_⟩
  rw[P6] at ya
  have o8:rs.Nodup:=ya.nodup_iff.mpr hnd
  have hrm:∀k,k∈rs↔k∈L:=fun k=>ya.mem_iff.trans (xH k)
  have hrl:(rs.map PyData.int).length=rs.length:=aj ..
  have hfl:∀k,((rs.take k).filter (cy L w0)).length<=1:=fun k=>by
   have h1:((rs.take k).filter (cy L w0)).Sublist (rs.filter (cy L w0)):=(List.take_sublist k rs).filter _
   have h2:=h1.length_le
   rw[xj rs o8 hrm] at h2
   exact eE h2 JI
  refine⟨_,rfl,fun v=>⟨fun k ρ=>∃(f3:Bool) (x6:Sl),ρ=[.d false (cL p n cs), .d false (aI ws), .d false (rE p cs ws n.toNat M), .own A3 f3 ((bL p cs ws i++((rs.take k).filter (cy L w0)).map fun x=>((i:Int),w0,x)).map cJ), .d true (.int (i:Int)), .d true (.int (L.length:Int)),x6],?_,?_,?_⟩⟩
  ·refine⟨f3,x6,?_⟩
   rw[sS,qB,iT,eN]
   rfl
  ·rintro k d ρ hd ⟨f3,x6,rfl⟩
   obtain⟨y,hy,rfl⟩:=eO hd
   have Xw:=(hrm y).mp (br hy)
   have YH:=(xH y).mpr Xw
   have hval:=Mf (l:=L) YH
   have hts:=take_snoc hy
   have hf1:=hfl k
   unfold aI rE
   by_cases c1:y=w0
   ·walk_at "dt"
    exact⟨f3,_,by rw[hts,kI,rF (by unfold cy;simp[c1]),qB,eN];rfl⟩
   ·walk_at "dt"
    refine Ev.n6 ?_
    walk_at "dt"
    refine⟨_,rfl,?_⟩
    walk_at "dt"
    refine⟨_,hval,?_⟩
    walk_at "dt"
    refine Ev.n6 ?_
    walk_at "dt"
    refine⟨_,rfl,?_⟩
    walk_at "dt"
    refine⟨_,hval,?_⟩
    walk_at "dt"
    by_cases c2:(L.length:Int)-(L.count y:Int)<(L.count y:Int)
    ·have hg:cy L w0 y=true:=by unfold cy;rw[decide_eq_true c1,decide_eq_true (by omega)];rfl
     walk_at "dt"
     have hE:(bL p cs ws i++((rs.take (k+1)).filter (cy L w0)).map fun x=>((i:Int),w0,x)).map cJ=(bL p cs ws i++((rs.take k).filter (cy L w0)).map fun x=>((i:Int),w0,x)).map cJ++[cJ ((i:Int),w0,y)]:=by
      rw[hts,kI,uQ hg,qB];simp
     exact⟨by rw[aj,bz,aj];omega,_,_,by rw[hE];rfl⟩
    ·have hg:¬cy L w0 y=true:=by unfold cy;rw[decide_eq_true c1,decide_eq_false (by omega)];decide
     walk_at "dt"
     exact⟨f3,_,by rw[hts,kI,rF hg,qB,eN];rfl⟩
  ·rintro ρ ⟨f3,x6,rfl⟩
   rw[hrl,fE,xj rs o8 hrm,<-HF]
   exact⟨_,_,_,_,rfl⟩
 rintro ρ ⟨f3,x4,x5,x6,rfl⟩
 refine Sv.iR 3 rfl ?_
 walk_at "dt"
 exact q _
def wM:DF:=fun ds Φ=>∃(ws:List Int) (ts:List jP),ds=[aI ws, .list (ts.map cJ)]/\ws.length<=400/\(∀t∈ts,0<=t.1/\t.1<ws.length)/\∀f,Φ f (aI (dS ws ts))
theorem J1:cU wM:=by
 intro ds Φ Ψ hm z
 obtain⟨ws,ts,e,h1,h2,q⟩:=hm
 exact⟨ws,ts,e,h1,h2,fun f=>z _ _ (q f)⟩
theorem rS:cz ["word","turns","after","place","old","new"] ["word","turns"] (aR yy):=⟨rfl,rfl,rfl,by decide+kernel,rfl,by decide+kernel,by decide+kernel⟩
theorem Yb(F:bQ K "_law_turned" "_law_turned" yy f fd)(bU:mg "list"=none):
  bE P w K mg base bO 1 f fd ["word","turns"] (aS 2 wM):=by
 refine F.ok rS (fun vs H Q E h=>h.1) (fun cdv A outer s H vs Q E hr h=>?_)
 obtain⟨nb,ds,Φ,hlive,hds,aD,hF⟩:=fM h
 obtain⟨ws,ts,rfl,hwl,hts,q⟩:=hF
 refine⟨_,(@ak _ _ _ _ _ (@aE _ _ (2) _ _ _ _ rS.nd rfl (Or.inl rfl) (@gH _ _ _ _ _ _ _ _ (jN K) l9 rfl bU iS (@aa _ _ _ _ _ (pv 0) af rfl) (by decide) (by decide) (by rfl) (by rfl)) (by rfl) (by first|exact .inl rfl|exact .inr rfl|assumption)) (@ak _ _ _ _ _ (@dU _ _ _ _ _ _ _ _ c7 rfl (@eB _ _ _ _ (pv 1)) (@iu _ (K) _ _ _ (3) _ rfl rfl (@bV _ _ _ _ _ (aH (i:=3) rS.nd rfl (Or.inl rfl)) (@bV _ _ _ _ _ (aH (i:=4) rS.nd rfl (Or.inl rfl)) (@bV _ _ _ _ _ (aH (i:=5) rS.nd rfl (Or.inl rfl)) gM (by rfl)) (by rfl)) (by rfl)) (by rfl) (by rfl)) (@az _ _ _ (@gK _ _ _ _ _ _ (pv 5) (jq (pv 2) (pv 3) set_list) (by rfl) (by rfl) (by rfl))) (by intro _;rfl)) (@az _ _ _ (@aZ _ _ _ _ (pv 2))))),?_⟩
 refine Sv.fP hlive hds aD (ρ:=[.d false _, .d false _, .no, .no, .no, .no]) rfl ?_
 clear aD hds
 have lG:(ws.map PyData.int).length=ws.length:=aj ..
 unfold aI
 refine Sv.seq ?_
 refine Sv.o9 (aC.listOf ?_)
 walk_at "dt"
 intro A2
 refine Sv.seq ?_
 refine Sv.forL ?_
 refine Ev.var rfl ?_
 refine⟨_,rfl,fun v=>⟨fun i ρ=>∃(f2:Bool) (x3 x4 x5:Sl),ρ=[.d false (.list (ws.map .int)), .d false (.list (ts.map cJ)), .own A2 f2 ((dS ws (ts.take i)).map .int),x3,x4,x5],⟨_,_,_,_,rfl⟩,?_,?_⟩⟩
 ·rintro i d ρ hd ⟨f2,x3,x4,x5,rfl⟩
  obtain⟨t,ht,rfl⟩:=eO hd
  obtain⟨t0,t1⟩:=hts t (br ht)
  have hl:((dS ws (ts.take i)).map PyData.int).length=ws.length:=by rw[aj,oj]
  have hix:fy ((dS ws (ts.take i)).map PyData.int).length t.1=some t.1.toNat:=by
   unfold fy
   rw[hl]
   repeat (first|rw[if_pos (by omega)]|rw[if_neg (by omega)])
  have hE:((dS ws (ts.take i)).map PyData.int).set t.1.toNat (.int t.2.2)=(dS ws (ts.take (i+1))).map PyData.int:=by rw[take_snoc ht,Dc,rH]
  walk_at "dt"
  refine⟨_,_,rfl,hix,?_⟩
  exact⟨_,_,_,_,by rw[<-hE];rfl⟩
 rintro ρ ⟨f2,x3,x4,x5,rfl⟩
 rw[aj,fE]
 refine Sv.iR 2 rfl ?_
 walk_at "dt"
 exact q _
def DZ:DF:=fun ds Φ=>∃(p n:Int) (cs:List aq) (ws:List Int),ds=[cL p n cs,aI ws]/\iB p n cs/\ws.length=n.toNat/\(∀x∈ws,0<=x/\x<p)/\Φ true (.int (brk p cs ws))
theorem Xl:cU DZ:=by
 intro ds Φ Ψ hm z
 obtain⟨p,n,cs,ws,e,h1,h2,h3,q⟩:=hm
 exact⟨p,n,cs,ws,e,h1,h2,h3,z _ _ q⟩
theorem Xd:cz ["net","word"] ["net","word"] (aR xm):=⟨rfl,rfl,rfl,by decide+kernel,rfl,by decide+kernel,by decide+kernel⟩
theorem WQ(F:bQ K "_law_broken" "_law_broken" xm f fd)(qS:Callee P w K mg base "_law_sum" 1 ["p","pairs","word"] (aS 3 sG))(bW:mg "len"=none):
  bE P w K mg base bO 2 f fd ["net","word"] (aS 2 DZ):=by
 refine F.ok Xd (fun vs H Q E h=>h.1) (fun cdv A outer s H vs Q E hr h=>?_)
 obtain⟨nb,ds,Φ,hlive,hds,aD,hF⟩:=fM h
 obtain⟨p,n,cs,ws,rfl,hN,hwl,hws,q⟩:=hF
 refine⟨_,(@az _ _ _ (@aZ _ _ _ _ (@cH _ _ _ _ _ _ _ _ (gp K) iP rfl bW ir (@aa _ _ _ _ _ (iD (cP.of (show eU (aR xm) ["net","word"] _ ["pairs","net","word"] [none,some 0,some 1]=true by decide+kernel)) (@eB _ _ _ _ (@aG _ _ _ _ _ _ (c5 K) dG (pv 0) ao (fun _ _=>rfl))) (fun _ _ _ _=>⟨(aH (i:=0) (by show List.Nodup (["pairs","net","word"]:List Str);decide+kernel) rfl (Or.inl rfl)),(mL (@bB _ _ _ _ _ _ _ _ jV (@aK _ _ _ _ _ _ _ _ _ _ qS (hr.mono (by decide)) (@aa _ _ _ _ _ (@aG _ _ _ _ _ _ (c5 K) dG (pv 1) ao (fun _ _=>rfl)) (@aa _ _ _ _ _ (pv 0) (@aa _ _ _ _ _ (pv 2) af rfl) rfl) rfl) (by rfl) (by decide) (by rfl) (by rfl)) ao (bw _))),(pv 0)⟩)) af rfl) (by decide) (by decide) (by rfl) (by rfl)))),?_⟩
 refine Sv.fP hlive hds aD (ρ:=[.d false _, .d false _]) rfl ?_
 clear aD hds
 have p2:=hN.hp.1
 have gn:=hN.gn
 have n0:=hN.n0
 have n1:=hN.n1
 have hcl:=hN.cl
 have lX:(cs.map fJ).length=cs.length:=aj ..
 have j3:aI ws=kc (ws.map some):=by show PyData.list _=PyData.list _;rw[dw];rfl
 have kh:lz (ws.map some):=fun x hx=>by
  obtain⟨y,hy,e⟩:=cI.mp hx
  cases e
  obtain⟨a0,a1⟩:=hws x hy
  unfold Sm;omega
 walk_at "dt"
 refine aC.ev (aC.jM (by decide) rfl ?_)
 walk_at "dt"
 refine fun v=>⟨false,fun i ds=>ds.length=brk p (cs.take i) ws,rfl,?_,?_⟩
 ·rintro i d ds hd hl' hds
  obtain⟨prs,c9,rfl⟩:=eO hd
  obtain⟨g1,g2,g3⟩:=hN.ok prs (br c9)
  have hts:=take_snoc c9
  have hstep:brk p (cs.take (i+1)) ws=brk p (cs.take i) ws+if decide (aU prs (ws.map some)%p≠0)=true then 1 else 0:=by
   unfold brk
   rw[hts,qC,p8]
  walk_at "dt"
  refine⟨by walk_at "wk",?_⟩
  walk_at "dt"
  refine Ev.bH Bp ?_
  walk_at "dt"
  refine⟨rfl,p,prs,ws.map some,by show[_,_,_]=_;rw[j3],by omega,by omega,fun pr bu=>?_,kh,?_⟩
  ·obtain⟨b0,b1,b2,b3⟩:=g3 pr bu
   exact⟨b0,by rw[aj];omega,by unfold Sm;omega⟩
  walk_at "dt"
  by_cases c:aU prs (ws.map some)%p=0
  ·rw[if_neg (by simp[c])]
   show ds.length=brk p (cs.take (i+1)) ws
   rw[hds,hstep,if_neg (by rw[decide_eq_false (fun z=>z c)];decide)]
   rfl
  ·rw[if_pos (by simp[c])]
   walk_at "dt"
   show(ds++[_]).length=brk p (cs.take (i+1)) ws
   rw[bz,fW,hds,hstep,if_pos (by rw[decide_eq_true c])]
 ·rintro ds hl' hds
  rw[lX,fE] at hds
  refine⟨ds, .inl rfl,?_⟩
  rw[hds]
  walk_at "dt"
  exact q
def Eh:DF:=fun ds Φ=>∃(p n:Int) (cs:List aq) (ws:List Int) (m:Nat),ds=[cL p n cs,aI ws, .int (m:Int)]/\iB p n cs/\cs.length<=62/\m<=500/\ws.length=n.toNat/\(∀x∈ws,0<=x/\x<p)/\∀f,Φ f (p9 (c8 p cs n.toNat m ws))
theorem O5:cU Eh:=by
 intro ds Φ Ψ hm z
 obtain⟨p,n,cs,ws,m,e,h1,h2,h3,h4,h5,q⟩:=hm
 exact⟨p,n,cs,ws,m,e,h1,h2,h3,h4,h5,fun f=>z _ _ (q f)⟩
theorem qo:cz ["net","word","most","now","rounds","k","turns"] ["net","word","most"] (aR yL):=⟨rfl,rfl,rfl,by decide+kernel,rfl,by decide+kernel,by decide+kernel⟩
theorem Ou(F:bQ K "_law_voted" "_law_voted" yL f fd)(yG:Callee P w K mg base "_law_turns" 3 ["net","word"] (aS 2 w5))(Cc:Callee P w K mg base "_law_turned" 1 ["word","turns"] (aS 2 wM))(Xe:Callee P w K mg base "_law_broken" 2 ["net","word"] (aS 2 DZ))(bU:mg "list"=none)(bf:mg "range"=none):
  bE P w K mg base bO 4 f fd ["net","word","most"] (aS 3 Eh):=by
 refine F.ok qo (fun vs H Q E h=>h.1) (fun cdv A outer s H vs Q E hr h=>?_)
 obtain⟨nb,ds,Φ,hlive,hds,aD,hF⟩:=fM h
 obtain⟨p,n,cs,ws,m,rfl,hN,lW,hm,hwl,hws,q⟩:=hF
 refine⟨_,(@ak _ _ _ _ _ (@aE _ _ (3) _ _ _ _ qo.nd rfl (Or.inl rfl) (@gH _ _ _ _ _ _ _ _ (jN K) l9 rfl bU iS (@aa _ _ _ _ _ (pv 1) af rfl) (by decide) (by decide) (by rfl) (by rfl)) (by rfl) (by first|exact .inl rfl|exact .inr rfl|assumption)) (@ak _ _ _ _ _ (@aE _ _ (4) _ _ _ _ qo.nd rfl (Or.inl rfl) (@eG _ _ _ _ af) (by rfl) (by first|exact .inl rfl|exact .inr rfl|assumption)) (@ak _ _ _ _ _ (@dU _ _ _ _ _ _ _ _ c7 rfl (@gF _ _ _ _ _ _ rfl bf (@aa _ _ _ _ _ (@aF _ _ _ _ _ _ _ _ dB (pv 2) ao) af rfl) (by rfl)) (aH (i:=5) qo.nd rfl (Or.inl rfl)) (@ak _ _ _ _ _ (@cN _ _ _ _ _ _ _ _ (@bB _ _ _ _ _ _ _ _ iK (@aK _ _ _ _ _ _ _ _ _ _ Xe (hr.mono (by decide)) (@aa _ _ _ _ _ (pv 0) (@aa _ _ _ _ _ (pv 3) af rfl) rfl) (by rfl) (by decide) (by rfl) (by rfl)) ao (bw _)) (@az _ _ _ (@aZ _ _ _ _ (@bF _ _ _ _ _ (@aa _ _ _ _ _ (pv 3) (@aa _ _ _ _ _ (pv 4) (@aa _ _ _ _ _ (@bF _ _ _ _ _ (@aa _ _ _ _ _ kJ af rfl)) af rfl) rfl) rfl)))) dj) (@ak _ _ _ _ _ (@aE _ _ (6) _ _ _ _ qo.nd rfl (Or.inl rfl) (@aK _ _ _ _ _ _ _ _ _ _ yG (hr.mono (by decide)) (@aa _ _ _ _ _ (pv 0) (@aa _ _ _ _ _ (pv 3) af rfl) rfl) (by rfl) (by decide) (by rfl) (by rfl)) (by rfl) (by first|exact .inl rfl|exact .inr rfl|assumption)) (@ak _ _ _ _ _ (@cN _ _ _ _ _ _ _ _ (@bB _ _ _ _ _ _ _ _ iK (pv 5) (pv 2) (bw _)) (@az _ _ _ (@aZ _ _ _ _ (@bF _ _ _ _ _ (@aa _ _ _ _ _ (pv 3) (@aa _ _ _ _ _ (pv 4) (@aa _ _ _ _ _ (@bF _ _ _ _ _ (@aa _ _ _ _ _ kJ af rfl)) af rfl) rfl) rfl)))) dj) (@ak _ _ _ _ _ (@cN _ _ _ _ _ _ _ _ (@bB _ _ _ _ _ _ _ _ (mY hr.units) (pv 6) (@eG _ _ _ _ af) (bw _)) (@az _ _ _ (@aZ _ _ _ _ (@bF _ _ _ _ _ (@aa _ _ _ _ _ (pv 3) (@aa _ _ _ _ _ (pv 4) (@aa _ _ _ _ _ (@bF _ _ _ _ _ (@aa _ _ _ _ _ kJ af rfl)) af rfl) rfl) rfl)))) dj) (@ak _ _ _ _ _ (@kO _ _ _ _ (iU jU kN k6 kG (pv 4) (@aa _ _ _ _ _ (pv 6) af rfl)) (by rfl)) (@az _ _ _ (@aE _ _ (3) _ _ _ _ qo.nd rfl (Or.inl rfl) (@aK _ _ _ _ _ _ _ _ _ _ Cc (hr.mono (by decide)) (@aa _ _ _ _ _ (pv 3) (@aa _ _ _ _ _ (pv 6) af rfl) rfl) (by rfl) (by decide) (by rfl) (by rfl)) (by rfl) (by first|exact .inl rfl|exact .inr rfl|assumption)))))))) (by intro _;rfl)) (@az _ _ _ (@aZ _ _ _ _ (@bF _ _ _ _ _ (@aa _ _ _ _ _ (pv 3) (@aa _ _ _ _ _ (pv 4) (@aa _ _ _ _ _ (@bF _ _ _ _ _ (@aa _ _ _ _ _ kJ af rfl)) af rfl) rfl) rfl))))))),?_⟩
 refine Sv.fP hlive hds aD (ρ:=[.d false _, .d false _, .d false _, .no, .no, .no, .no]) rfl ?_
 clear aD hds
 have p2:=hN.hp.1
 have n0:=hN.n0
 have n1:=hN.n1
 obtain⟨⟨wf,Rf,ef⟩,hr⟩:∃r,c8 p cs n.toNat m ws=r:=⟨_,rfl⟩
 rw[hr] at q
 unfold p9 at q
 dsimp only at q
 unfold aI
 refine Sv.seq ?_
 refine Sv.asg ?_
 walk_at "dt"
 intro A4
 refine Sv.seq ?_
 refine Sv.nh ?_
 walk_at "dt"
 refine⟨fun k ρ=>k<=m/\∃(w:List Int) (R:List (List jP)) (f3 f4:Bool) (x5 x6:Sl),w.length=n.toNat/\(∀x∈w,0<=x/\x<p)/\R.length=k/\(c8 p cs n.toNat (m-k) w).1=wf/\R++(c8 p cs n.toNat (m-k) w).2.1=Rf/\(c8 p cs n.toNat (m-k) w).2.2=ef/\ρ=[.d false (cL p n cs), .d false (.list (ws.map .int)), .d false (.int (m:Int)), .d f3 (.list (w.map .int)), .own A4 f4 (R.map pO),x5,x6],⟨eY _,ws,[],_,_,_,_,hwl,hws,rfl,by rw[wQ,hr],by rw[wQ,hr];rfl,by rw[wQ,hr],rfl⟩,?_,?_⟩
 ·rintro k d ρ ⟨hk,rfl⟩ ⟨hkm,w,R,f3,f4,x5,x6,hl,hrg,lJ,h1,h2,h3,rfl⟩
  have zU:(R.map pO).length=R.length:=aj ..
  rw[kP]
  refine Gv.iN ?_
  refine Sv.seq ?_
  refine Sv.pZ ?_
  refine Tv.test ?_
  walk_at "dt"
  refine Ev.bH Xl ?_
  walk_at "dt"
  refine⟨rfl,p,n,cs,w,rfl,hN,hl,hrg,?_⟩
  by_cases cb:brk p cs w=0
  ·rw[qR cb] at h1 h2 h3
   dsimp only at h1 h2 h3
   rw[eN] at h2
   subst h1 h2 h3
   generalize gu:(rR (m9 (bq (cQ 3) (bq (cQ 4) (bq (m9 (bq (tC (V.str (Str.ofString "held"))) bT)) bT)))):TS)=tl
   walk_at "dt"
   subst gu
   refine Sv.iR 4 rfl ?_
   walk_at "dt"
   exact q _
  walk_at "dt"
  refine Ev.bH Jf ?_
  walk_at "dt"
  refine⟨rfl,p,n,cs,w,rfl,hN,lW,hl,hrg,fun f6=>?_⟩
  refine Gv.mz ?_
  by_cases ck:k=m
  ·subst ck
   rw[ue,DK cb] at h1 h2 h3
   dsimp only at h1 h2 h3
   rw[eN] at h2
   subst h1 h2 h3
   refine Sv.iR 4 rfl ?_
   walk_at "dt"
   exact q _
  obtain⟨j,hj⟩:∃j,m-k=j+1:=⟨m-k-1,by omega⟩
  have hj2:m-(k+1)=j:=by omega
  rw[hj] at h1 h2 h3
  obtain⟨ts,hts⟩:∃ts,bL p cs w n.toNat=ts:=⟨_,rfl⟩
  have heq:=DJ ts
  have hsh:=Ec ts
  have rJ:=sy
  by_cases ct:ts=[]
  ·rw[CZ cb (by rw[hts];exact ct)] at h1 h2 h3
   dsimp only at h1 h2 h3
   rw[eN] at h2
   subst h1 h2 h3
   refine Sv.iR 4 rfl ?_
   rw[hts]
   walk_at "dt"
   rw[iT,heq,if_pos (decide_eq_true ct)]
   walk_at "dt"
   exact q _
  ·rw[vC cb (by rw[hts];exact ct),hts] at h1 h2 h3
   dsimp only at h1 h2 h3
   have hin:=Ea (cs:=cs) (show 0<p by omega) hl hrg
   have Yr:∀t∈ts,0<=t.1/\t.1<w.length:=fun t ht=>by rw[<-hts] at ht;rw[hl];exact ID t ht
   rw[hts] at hin⊢
   walk_at "dt"
   rw[iT,heq,if_neg (by rw[decide_eq_false ct];decide)]
   walk_at "dt"
   refine Ev.bH J1 ?_
   walk_at "dt"
   refine⟨rfl,w,ts,rfl,by omega,Yr,fun f7=>?_⟩
   refine Gv.name ?_
   exact⟨by omega,dS w ts,R++[ts],_,_,_,_,hin.1,hin.2,by rw[bz,fW];omega,by rw[hj2];exact h1,by rw[hj2,mR];exact h2,by rw[hj2];exact h3,by rw[cZ];rfl⟩
 rintro ρ ⟨hkm,_⟩
 omega
theorem xF{n:Nat}{ws:List Int}(h:ws.length<=10000):sA (n+2) (aI ws):=by
 refine .inr ⟨_, .inl rfl,by rw[aj];exact h,fun e he=>?_⟩
 obtain⟨x,_,rfl⟩:=cI.mp he
 exact .inl rfl
theorem tU{n:Nat}{ts:List jP}(h:ts.length<=10000):sA (n+3) (.list (ts.map cJ)):=by
 refine .inr ⟨_, .inl rfl,by rw[aj];exact h,fun e he=>?_⟩
 obtain⟨x,_,rfl⟩:=cI.mp he
 refine .inr ⟨_, .inr rfl,by show 3<=10000;omega,fun e he=>?_⟩
 simp only[aM,cC,or_false] at he
 rcases he with rfl|rfl|rfl<;>exact .inl rfl
theorem Ih{r:List Int×List (List jP)×Str}(h1:r.1.length<=10000)(h2:r.2.1.length<=10000)(h3:∀ts∈r.2.1,ts.length<=10000):sA 5 (p9 r):=by
 refine .inr ⟨_, .inr rfl,by show 3<=10000;omega,fun e he=>?_⟩
 simp only[aM,cC,or_false] at he
 rcases he with rfl|rfl|rfl
 ·exact xF h1
 ·refine .inr ⟨_, .inl rfl,by rw[aj];exact h2,fun e he=>?_⟩
  obtain⟨ts,hts,rfl⟩:=cI.mp he
  exact tU (h3 ts hts)
 ·refine .inr ⟨_, .inr rfl,by show 1<=10000;omega,fun e he=>?_⟩
  rw[aQ.mp he]
  exact .inl rfl
theorem D9{p:Int}{cs:List aq}{n:Nat}(hp:0<p):∀(k:Nat) (ws:List Int),ws.length=n->(∀x∈ws,0<=x/\x<p)->(c8 p cs n k ws).1.length=n/\(c8 p cs n k ws).2.1.length<=k/\∀ts∈(c8 p cs n k ws).2.1,ts.length<=n
  |0,ws,h,_=>by rw[c8];exact⟨h,aJ _,fun _ h=>nomatch h⟩
  | k + 1, ws, h, hw => by
    by_cases c1:brk p cs ws=0
    · rw[qR c1];exact⟨h,eY _,fun _ h=>nomatch h⟩
    by_cases c2:bL p cs ws n=[]
    · rw[CZ c1 c2];exact⟨h,eY _,fun _ h=>nomatch h⟩
    · rw[vC c1 c2]
      have hr:=Ea (cs:=cs) hp h hw
      obtain⟨i1,i2,i3⟩:=D9 hp k _ hr.1 hr.2
      refine⟨i1,by show _+1<=_;omega,fun ts hts=>?_⟩
      rcases aM.mp hts with z|z
      · rw[z];exact sL n
      · exact i3 ts z
theorem Ez(p n:Int)(cs:List aq)(ws:List Int):SeqAt.shaped (.tuple [cL p n cs, .list (ws.map .int)])=true:=by
 have h1:=NO cs
 have hi:∀l:List Int,PyData.depthAll (l.map PyData.int)=0/\PyData.canLayAll0 (l.map PyData.int)=true:=fun l=>by
  induction l with
  |nil=>simp[PyData.depthAll,PyData.canLayAll0]
  |cons a r ih=>simp[PyData.depthAll,PyData.depth,PyData.canLayAll0,PyData.canLay0,ih.1,ih.2]
 unfold SeqAt.shaped cL
 simp only[PyData.canLay0,PyData.canLayAll0,PyData.depth,PyData.depthAll,h1.2,(hi ws).1,(hi ws).2,su,Bool.and_true]
 have:=h1.1
 simp
 omega
def CG:DF:=fun ds Φ=>∃(p n:Int) (cs:List aq) (ws:List Int) (m:Nat),ds=[cL p n cs,aI ws, .int (m:Int)]/\iB p n cs/\cs.length<=62/\m<=5/\ws.length=n.toNat/\(∀x∈ws,0<=x/\x<p)/\∀f,Φ f (.bool true)
theorem MP:cU CG:=by
 intro ds Φ Ψ hm z
 obtain⟨p,n,cs,ws,m,e,h1,h2,h3,h4,h5,q⟩:=hm
 exact⟨p,n,cs,ws,m,e,h1,h2,h3,h4,h5,fun f=>z _ _ (q f)⟩
theorem sO:cz ["net","bad","most","handed","turns","due"] ["net","bad","most"] (aR Du):=⟨rfl,rfl,rfl,by decide+kernel,rfl,by decide+kernel,by decide+kernel⟩
theorem Va(F:bQ K "_law_any_right" "_law_any_right" Du f fd)(yG:Callee P w K mg base "_law_turns" 3 ["net","word"] (aS 2 w5))(Na:Callee P w K mg base "_law_voted" 4 ["net","word","most"] (aS 3 Eh))(yT:Callee P w K mg base "_law_copy" 1 ["net"] (aS 1 vE))(Cc:Callee P w K mg base "_law_turned" 1 ["word","turns"] (aS 2 wM))(mG:Callee P w K mg base "_law_alike" 5 ["found","due"] (aS 2 (om 5)))(CU:Callee P w K mg base "turned" 4 ["net","word"] (aS 2 vH))(yo:Callee P w K mg base "voted" 4 ["net","word","most"] (aS 3 vP))(bU:mg "list"=none):
  bE P w K mg base bO 6 f fd ["net","bad","most"] (aS 3 CG):=by
 refine F.ok sO (fun vs H Q E h=>h.1) (fun cdv A outer s H vs Q E hr h=>?_)
 obtain⟨nb,ds,Φ,hlive,hds,aD,hF⟩:=fM h
 obtain⟨p,n,cs,ws,m,rfl,hN,lW,hm,hwl,hws,q⟩:=hF
 refine⟨_,(@ak _ _ _ _ _ (@aE _ _ (3) _ _ _ _ sO.nd rfl (Or.inl rfl) (@bF _ _ _ _ _ (@aa _ _ _ _ _ (@aK _ _ _ _ _ _ _ _ _ _ yT (hr.mono (by decide)) (@aa _ _ _ _ _ (pv 0) af rfl) (by rfl) (by decide) (by rfl) (by rfl)) (@aa _ _ _ _ _ (@gH _ _ _ _ _ _ _ _ (jN K) l9 rfl bU iS (@aa _ _ _ _ _ (pv 1) af rfl) (by decide) (by decide) (by rfl) (by rfl)) af rfl) rfl)) (by rfl) (by first|exact .inl rfl|exact .inr rfl|assumption)) (@ak _ _ _ _ _ (@aE _ _ (4) _ _ _ _ sO.nd rfl (Or.inl rfl) (@aK _ _ _ _ _ _ _ _ _ _ yG (hr.mono (by decide)) (@aa _ _ _ _ _ (pv 0) (@aa _ _ _ _ _ (pv 1) af rfl) rfl) (by rfl) (by decide) (by rfl) (by rfl)) (by rfl) (by first|exact .inl rfl|exact .inr rfl|assumption)) (@ak _ _ _ _ _ (@aE _ _ (5) _ _ _ _ sO.nd rfl (Or.inl rfl) (@bF _ _ _ _ _ (@aa _ _ _ _ _ (@aK _ _ _ _ _ _ _ _ _ _ Cc (hr.mono (by decide)) (@aa _ _ _ _ _ (pv 1) (@aa _ _ _ _ _ (pv 4) af rfl) rfl) (by rfl) (by decide) (by rfl) (by rfl)) (@aa _ _ _ _ _ (pv 4) af rfl) rfl)) (by rfl) (by first|exact .inl rfl|exact .inr rfl|assumption)) (@ak _ _ _ _ _ (@cN _ _ _ _ _ _ _ _ (@rD _ _ _ _ (@nB _ (K) _ _ rfl (@aK _ _ _ _ _ _ _ _ _ _ mG (hr.mono (by decide)) (@aa _ _ _ _ _ (@aK _ _ _ _ _ _ _ _ _ _ CU (hr.mono (by decide)) (@aa _ _ _ _ _ (@aG _ _ _ _ _ _ (c5 K) dG (pv 3) ao (fun _ _=>rfl)) (@aa _ _ _ _ _ (@aG _ _ _ _ _ _ (c5 K) dG (pv 3) ao (fun _ _=>rfl)) af rfl) rfl) (by rfl) (by decide) (by rfl) (by rfl)) (@aa _ _ _ _ _ (pv 5) af rfl) rfl) (by rfl) (by decide) (by rfl) (by rfl)) (fun _=>rfl))) (@az _ _ _ (@aZ _ _ _ _ mE)) dj) (@ak _ _ _ _ _ (@aE _ _ (5) _ _ _ _ sO.nd rfl (Or.inl rfl) (@aK _ _ _ _ _ _ _ _ _ _ Na (hr.mono (by decide)) (@aa _ _ _ _ _ (pv 0) (@aa _ _ _ _ _ (pv 1) (@aa _ _ _ _ _ (pv 2) af rfl) rfl) rfl) (by rfl) (by decide) (by rfl) (by rfl)) (by rfl) (by first|exact .inl rfl|exact .inr rfl|assumption)) (@az _ _ _ (@aZ _ _ _ _ (@IA _ _ _ _ _ _ _ (@aK _ _ _ _ _ _ _ _ _ _ mG (hr.mono (by decide)) (@aa _ _ _ _ _ (@aK _ _ _ _ _ _ _ _ _ _ yo (hr.mono (by decide)) (@aa _ _ _ _ _ (@aG _ _ _ _ _ _ (c5 K) dG (pv 3) ao (fun _ _=>rfl)) (@aa _ _ _ _ _ (@aG _ _ _ _ _ _ (c5 K) dG (pv 3) ao (fun _ _=>rfl)) (@aa _ _ _ _ _ (pv 2) af rfl) rfl) rfl) (by rfl) (by decide) (by rfl) (by rfl)) (@aa _ _ _ _ _ (pv 5) af rfl) rfl) (by rfl) (by decide) (by rfl) (by rfl)) (@Iu _ _ _ _ _ (@qj _ _ _ _ _ _ _ _ (mY hr.units) (pv 3) (@bF _ _ _ _ _ (@aa _ _ _ _ _ (pv 0) (@aa _ _ _ _ _ (pv 1) af rfl) rfl)) (bw _))))))))))),?_⟩
 refine Sv.fP hlive hds aD (ρ:=[.d false _, .d false _, .d false _, .no, .no, .no]) rfl ?_
 clear aD hds
 have p2:=hN.hp.1
 have n0:=hN.n0
 have n1:=hN.n1
 have lG:(ws.map PyData.int).length=ws.length:=aj ..
 have gu:=sL (p:=p) (cs:=cs) (ws:=ws) n.toNat
 have hle:=D9 (cs:=cs) (n:=n.toNat) (show 0<p by omega) m ws hwl hws
 have hsh:=Ez p n cs ws
 unfold aI
 walk_at "dt"
 refine Ev.bH JO ?_
 walk_at "dt"
 refine⟨rfl,p,n,cs,rfl,by omega,fun f1=>?_⟩
 walk_at "dt"
 refine Ev.bH Jf ?_
 walk_at "dt"
 refine⟨rfl,p,n,cs,ws,rfl,hN,lW,hwl,hws,fun f2=>?_⟩
 refine Gv.mz ?_
 walk_at "dt"
 refine Ev.bH J1 ?_
 walk_at "dt"
 refine⟨rfl,ws,bL p cs ws n.toNat,rfl,by omega,fun t ht=>by rw[hwl];exact ID t ht,fun f3=>?_⟩
 walk_at "dt"
 refine Ev.bH (oB 5) ?_
 walk_at "dt"
 refine Ev.bH FN ?_
 walk_at "dt"
 refine⟨rfl,p,n,cs,ws,rfl,hN,hwl,hws,?_⟩
 walk_at "dt"
 refine⟨rfl,_,rfl,?_,?_⟩
 ·refine .inr ⟨_, .inr rfl,by show 2<=10000;omega,fun e he=>?_⟩
  simp only[aM,cC,or_false] at he
  rcases he with rfl|rfl
  ·exact xF (by rw[oj];omega)
  ·exact tU (by omega)
 walk_at "dt"
 refine Ev.bH O5 ?_
 walk_at "dt"
 refine⟨rfl,p,n,cs,ws,m,rfl,hN,lW,by omega,hwl,hws,fun f4=>?_⟩
 refine Gv.mz ?_
 walk_at "dt"
 refine Ev.bH (oB 5) ?_
 walk_at "dt"
 refine Ev.bH Lf ?_
 walk_at "dt"
 refine⟨rfl,p,n,cs,ws,m,rfl,hN,by omega,hwl,hws,?_⟩
 walk_at "dt"
 refine⟨rfl,_,rfl,Ih (by omega) (by omega) (fun ts hts=>eE (hle.2.2 ts hts) (by omega)),?_⟩
 walk_at "dt"
 have hq:∀X:PyData,SeqAt.shaped X=true->Φ true (.bool (PyData.eqv X X !=false)):=fun X h=>by
  rw[eqv_refl _ (.inl h)];exact q _
 exact hq _ hsh
theorem XO{p:Int}{ws xs O:List Int}(h:C5 p ws xs O):jy p ws xs O:=⟨h.l,h.r,h.nd,h.o,h.e⟩
theorem IM{xs ws:List Int}:∀m,(fc xs ws m).length<=m
  |0=>aJ _
  | m + 1 => by
    rw[rq,bz]
    have:=IM (xs:=xs) (ws:=ws) m
    split<;>simp<;>omega
theorem Wh{G:Gx}{ρ:Rh}{t:TS}{E:DE}{b:Bool}(P:Rh->Prop)(hP:∀ρ',P ρ'->E.nx ρ')(h1:b=true->Sv G ρ t {E with nx:=P})(h2:b=false->P ρ):if b=true then Sv G ρ t E else Sv G ρ uN E:=by
 cases b with
 |true=>exact Sv.vQ P (h1 rfl) hP
 |false=>exact Sv.next (hP _ (h2 rfl))
theorem ie:cz ["script","bag","share","most","p","net","word","degree","many","bad","turns","handed","due","steps"] ["script"] (aR kq):=⟨rfl,rfl,rfl,by decide+kernel,rfl,by decide+kernel,by decide+kernel⟩
theorem WN(F:bQ K "law" "law" kq f fd)(Wt:Callee P w K mg base "_law_bag" 1 ["script"] (JT K))(dQ:Callee P w K mg base "_law_draw" 2 ["bag","many"] jn)(QH:Callee P w K mg base "_law_prime" 3 ["bag"] (fY 1 BS))(Ry:Callee P w K mg base "_law_apart_net" 4 ["bag","p"] (fY 2 DA))(Ui:Callee P w K mg base "_law_least_degree" 1 ["net"] (aS 1 AO))(Lk:Callee P w K mg base "_law_wrong" 3 ["bag","p","word","many"] (fY 4 BG))(U4:Callee P w K mg base "_law_any_right" 6 ["net","bad","most"] (aS 3 CG))(yT:Callee P w K mg base "_law_copy" 1 ["net"] (aS 1 vE))(mG:Callee P w K mg base "_law_alike" 5 ["found","due"] (aS 2 (om 5)))(CU:Callee P w K mg base "turned" 4 ["net","word"] (aS 2 vH))(yo:Callee P w K mg base "voted" 4 ["net","word","most"] (aS 3 vP))(VH:Callee P w K mg base "calmed" 5 ["net","word"] (aS 2 zp))(bU:mg "list"=none)(bf:mg "range"=none):
  bE P w K mg base bO 7 f fd ["script"] (tR K):=by
 refine F.ok ie (fun vs H Q E h=>?_) (fun cdv A outer s H vs Q E hr h=>?_)
 ·obtain⟨a,ns,rfl,hS,hl,q⟩:=h
  rfl
 obtain⟨a,ns,rfl,hS,hl,q⟩:=h
 refine⟨_,(@ak _ _ _ _ _ (@aE _ _ (1) _ _ _ _ ie.nd rfl (Or.inl rfl) (@aK _ _ _ _ _ _ _ _ _ _ Wt (hr.mono (by decide)) (@aa _ _ _ _ _ (pv 0) af rfl) (by rfl) (by decide) (by rfl) (by rfl)) (by rfl) (by first|exact .inl rfl|exact .inr rfl|assumption)) (@ak _ _ _ _ _ (@aE _ _ (2) _ _ _ _ ie.nd rfl (Or.inl rfl) (@aK _ _ _ _ _ _ _ _ _ _ dQ (hr.mono (by decide)) (@aa _ _ _ _ _ (pv 1) (@aa _ _ _ _ _ ao af rfl) rfl) (by rfl) (by decide) (by rfl) (by rfl)) (by rfl) (by first|exact .inl rfl|exact .inr rfl|assumption)) (@ak _ _ _ _ _ (@aE _ _ (3) _ _ _ _ ie.nd rfl (Or.inl rfl) (@aK _ _ _ _ _ _ _ _ _ _ dQ (hr.mono (by decide)) (@aa _ _ _ _ _ (pv 1) (@aa _ _ _ _ _ ao af rfl) rfl) (by rfl) (by decide) (by rfl) (by rfl)) (by rfl) (by first|exact .inl rfl|exact .inr rfl|assumption)) (@ak _ _ _ _ _ (@aE _ _ (4) _ _ _ _ ie.nd rfl (Or.inl rfl) (@aK _ _ _ _ _ _ _ _ _ _ QH (hr.mono (by decide)) (@aa _ _ _ _ _ (pv 1) af rfl) (by rfl) (by decide) (by rfl) (by rfl)) (by rfl) (by first|exact .inl rfl|exact .inr rfl|assumption)) (@ak _ _ _ _ _ (@gK _ _ _ _ _ _ (@aK _ _ _ _ _ _ _ _ _ _ Ry (hr.mono (by decide)) (@aa _ _ _ _ _ (pv 1) (@aa _ _ _ _ _ (pv 4) af rfl) rfl) (by rfl) (by decide) (by rfl) (by rfl)) (@iu _ (K) _ _ _ (2) _ rfl rfl (@bV _ _ _ _ _ (aH (i:=5) ie.nd rfl (Or.inl rfl)) (@bV _ _ _ _ _ (aH (i:=6) ie.nd rfl (Or.inr rfl)) gM (by rfl)) (by rfl)) (by rfl) (by rfl)) (by rfl) (by rfl) (by rfl)) (@ak _ _ _ _ _ (@aE _ _ (7) _ _ _ _ ie.nd rfl (Or.inl rfl) (@aK _ _ _ _ _ _ _ _ _ _ Ui (hr.mono (by decide)) (@aa _ _ _ _ _ (pv 5) af rfl) (by rfl) (by decide) (by rfl) (by rfl)) (by rfl) (by first|exact .inl rfl|exact .inr rfl|assumption)) (@ak _ _ _ _ _ (@aE _ _ (8) _ _ _ _ ie.nd rfl (Or.inl rfl) (@aF _ _ _ _ _ _ _ _ qg (pv 7) ao) (by rfl) (by first|exact .inl rfl|exact .inr rfl|assumption)) (@ak _ _ _ _ _ (@cN _ _ _ _ _ _ _ _ (@bB _ _ _ _ _ _ _ _ iK (pv 2) ao (bw _)) (@az _ _ _ (@aE _ _ (8) _ _ _ _ ie.nd rfl (Or.inl rfl) (@aK _ _ _ _ _ _ _ _ _ _ dQ (hr.mono (by decide)) (@aa _ _ _ _ _ (pv 1) (@aa _ _ _ _ _ (@aF _ _ _ _ _ _ _ _ dB (pv 8) ao) af rfl) rfl) (by rfl) (by decide) (by rfl) (by rfl)) (by rfl) (by first|exact .inl rfl|exact .inr rfl|assumption))) dj) (@ak _ _ _ _ _ (@cN _ _ _ _ _ _ _ _ (@bB _ _ _ _ _ _ _ _ iK (pv 2) ao (bw _)) (@az _ _ _ (@aZ _ _ _ _ (@aK _ _ _ _ _ _ _ _ _ _ U4 (hr.mono (by decide)) (@aa _ _ _ _ _ (pv 5) (@aa _ _ _ _ _ (@aK _ _ _ _ _ _ _ _ _ _ Lk (hr.mono (by decide)) (@aa _ _ _ _ _ (pv 1) (@aa _ _ _ _ _ (pv 4) (@aa _ _ _ _ _ (pv 6) (@aa _ _ _ _ _ (@aK _ _ _ _ _ _ _ _ _ _ dQ (hr.mono (by decide)) (@aa _ _ _ _ _ (pv 1) (@aa _ _ _ _ _ (@aF _ _ _ _ _ _ _ _ dB (@aG _ _ _ _ _ _ (c5 K) dG (pv 5) ao (fun _ _=>rfl)) ao) af rfl) rfl) (by rfl) (by decide) (by rfl) (by rfl)) af rfl) rfl) rfl) rfl) (by rfl) (by decide) (by rfl) (by rfl)) (@aa _ _ _ _ _ (pv 3) af rfl) rfl) rfl) (by rfl) (by decide) (by rfl) (by rfl)))) dj) (@ak _ _ _ _ _ (@aE _ _ (9) _ _ _ _ ie.nd rfl (Or.inr rfl) (@aK _ _ _ _ _ _ _ _ _ _ Lk (hr.mono (by decide)) (@aa _ _ _ _ _ (pv 1) (@aa _ _ _ _ _ (pv 4) (@aa _ _ _ _ _ (pv 6) (@aa _ _ _ _ _ (pv 8) af rfl) rfl) rfl) rfl) (by rfl) (by decide) (by rfl) (by rfl)) (by rfl) (by first|exact .inl rfl|exact .inr rfl|assumption)) (@ak _ _ _ _ _ (lZ (i:=10) ie.nd rfl rfl (cP.of (show eU (aR kq) ["script","bag","share","most","p","net","word","degree","many","bad","turns","handed","due","steps"] _ ["place","word","bad"] [none,some 6,some 9]=true by decide+kernel)) (@gF _ _ _ _ _ _ rfl bf (@aa _ _ _ _ _ (@aG _ _ _ _ _ _ (c5 K) dG (pv 5) ao (fun _ _=>rfl)) af rfl) (by rfl)) (fun _ _ _ _=>⟨(aH (i:=0) (by show List.Nodup (["place","word","bad"]:List Str);decide+kernel) rfl (Or.inl rfl)),(mL (@bB _ _ _ _ _ _ _ _ jV (@aG _ _ _ _ _ _ (cF K) bD (pv 2) (pv 0) (fun _ _=>rfl)) (@aG _ _ _ _ _ _ (cF K) bD (pv 1) (pv 0) (fun _ _=>rfl)) (bw _))),(@bF _ _ _ _ _ (@aa _ _ _ _ _ (pv 0) (@aa _ _ _ _ _ (@aG _ _ _ _ _ _ (cF K) bD (pv 2) (pv 0) (fun _ _=>rfl)) (@aa _ _ _ _ _ (@aG _ _ _ _ _ _ (cF K) bD (pv 1) (pv 0) (fun _ _=>rfl)) af rfl) rfl) rfl))⟩)) (@ak _ _ _ _ _ (@aE _ _ (11) _ _ _ _ ie.nd rfl (Or.inl rfl) (@bF _ _ _ _ _ (@aa _ _ _ _ _ (@aK _ _ _ _ _ _ _ _ _ _ yT (hr.mono (by decide)) (@aa _ _ _ _ _ (pv 5) af rfl) (by rfl) (by decide) (by rfl) (by rfl)) (@aa _ _ _ _ _ (@gH _ _ _ _ _ _ _ _ (jN K) l9 rfl bU iS (@aa _ _ _ _ _ (pv 9) af rfl) (by decide) (by decide) (by rfl) (by rfl)) af rfl) rfl)) (by rfl) (by first|exact .inl rfl|exact .inr rfl|assumption)) (@ak _ _ _ _ _ (@cN _ _ _ _ _ _ _ _ (@rD _ _ _ _ (@nB _ (K) _ _ rfl (@aK _ _ _ _ _ _ _ _ _ _ mG (hr.mono (by decide)) (@aa _ _ _ _ _ (@aK _ _ _ _ _ _ _ _ _ _ CU (hr.mono (by decide)) (@aa _ _ _ _ _ (@aG _ _ _ _ _ _ (c5 K) dG (pv 11) ao (fun _ _=>rfl)) (@aa _ _ _ _ _ (@aG _ _ _ _ _ _ (c5 K) dG (pv 11) ao (fun _ _=>rfl)) af rfl) rfl) (by rfl) (by decide) (by rfl) (by rfl)) (@aa _ _ _ _ _ (@bF _ _ _ _ _ (@aa _ _ _ _ _ (pv 6) (@aa _ _ _ _ _ (pv 10) af rfl) rfl)) af rfl) rfl) (by rfl) (by decide) (by rfl) (by rfl)) (fun _=>rfl))) (@az _ _ _ (@aZ _ _ _ _ mE)) dj) (@ak _ _ _ _ _ (@aE _ _ (12) _ _ _ _ ie.nd rfl (Or.inl rfl) (@bF _ _ _ _ _ (@aa _ _ _ _ _ (pv 6) (@aa _ _ _ _ _ (@eG _ _ _ _ (@aa _ _ _ _ _ (pv 10) af rfl)) (@aa _ _ _ _ _ (@bF _ _ _ _ _ (@aa _ _ _ _ _ kJ af rfl)) af rfl) rfl) rfl)) (by rfl) (by first|exact .inl rfl|exact .inr rfl|assumption)) (@ak _ _ _ _ _ (@cN _ _ _ _ _ _ _ _ (@bB _ _ _ _ _ _ _ _ (mY hr.units) (pv 10) (@eG _ _ _ _ af) (bw _)) (@az _ _ _ (@aE _ _ (12) _ _ _ _ ie.nd rfl (Or.inl rfl) (@bF _ _ _ _ _ (@aa _ _ _ _ _ (pv 6) (@aa _ _ _ _ _ (@eG _ _ _ _ af) (@aa _ _ _ _ _ (@bF _ _ _ _ _ (@aa _ _ _ _ _ kJ af rfl)) af rfl) rfl) rfl)) (by rfl) (by first|exact .inl rfl|exact .inr rfl|assumption))) (@az _ _ _ (@cN _ _ _ _ _ _ _ _ (@bB _ _ _ _ _ _ _ _ iK (pv 3) ao (bw _)) (@az _ _ _ (@aE _ _ (12) _ _ _ _ ie.nd rfl (Or.inl rfl) (@bF _ _ _ _ _ (@aa _ _ _ _ _ (pv 9) (@aa _ _ _ _ _ (@eG _ _ _ _ af) (@aa _ _ _ _ _ (@bF _ _ _ _ _ (@aa _ _ _ _ _ kJ af rfl)) af rfl) rfl) rfl)) (by rfl) (by first|exact .inl rfl|exact .inr rfl|assumption))) dj))) (@ak _ _ _ _ _ (@cN _ _ _ _ _ _ _ _ (@rD _ _ _ _ (@nB _ (K) _ _ rfl (@aK _ _ _ _ _ _ _ _ _ _ mG (hr.mono (by decide)) (@aa _ _ _ _ _ (@aK _ _ _ _ _ _ _ _ _ _ yo (hr.mono (by decide)) (@aa _ _ _ _ _ (@aG _ _ _ _ _ _ (c5 K) dG (pv 11) ao (fun _ _=>rfl)) (@aa _ _ _ _ _ (@aG _ _ _ _ _ _ (c5 K) dG (pv 11) ao (fun _ _=>rfl)) (@aa _ _ _ _ _ (pv 3) af rfl) rfl) rfl) (by rfl) (by decide) (by rfl) (by rfl)) (@aa _ _ _ _ _ (pv 12) af rfl) rfl) (by rfl) (by decide) (by rfl) (by rfl)) (fun _=>rfl))) (@az _ _ _ (@aZ _ _ _ _ mE)) dj) (@ak _ _ _ _ _ (@cN _ _ _ _ _ _ _ _ (PW.pt (qz (@bB _ _ _ _ _ _ _ _ iK (pv 8) ao (bw _)) (pI (@bB _ _ _ _ _ _ _ _ pY (pv 7) ao (bw _))))) (@ak _ _ _ _ _ (lZ (i:=13) ie.nd rfl rfl (cP.of (show eU (aR kq) ["script","bag","share","most","p","net","word","degree","many","bad","turns","handed","due","steps"] _ ["place","old","new"] [none,none,none]=true by decide+kernel)) (@eB _ _ _ _ (pv 10)) (fun _ _ _ _=>⟨(@iu _ (K) _ _ _ (3) _ rfl rfl (@bV _ _ _ _ _ (aH (i:=0) (by show List.Nodup (["place","old","new"]:List Str);decide+kernel) rfl (Or.inl rfl)) (@bV _ _ _ _ _ (aH (i:=1) (by show List.Nodup (["place","old","new"]:List Str);decide+kernel) rfl (Or.inl rfl)) (@bV _ _ _ _ _ (aH (i:=2) (by show List.Nodup (["place","old","new"]:List Str);decide+kernel) rfl (Or.inl rfl)) gM (by rfl)) (by rfl)) (by rfl)) (by rfl) (by rfl)),iy,(@bF _ _ _ _ _ (@aa _ _ _ _ _ (pv 0) (@aa _ _ _ _ _ (pv 2) (@aa _ _ _ _ _ ao af rfl) rfl) rfl))⟩)) (@az _ _ _ (@cN _ _ _ _ _ _ _ _ (@rD _ _ _ _ (@nB _ (K) _ _ rfl (@aK _ _ _ _ _ _ _ _ _ _ mG (hr.mono (by decide)) (@aa _ _ _ _ _ (@aK _ _ _ _ _ _ _ _ _ _ VH (hr.mono (by decide)) (@aa _ _ _ _ _ (@aG _ _ _ _ _ _ (c5 K) dG (pv 11) ao (fun _ _=>rfl)) (@aa _ _ _ _ _ (@aG _ _ _ _ _ _ (c5 K) dG (pv 11) ao (fun _ _=>rfl)) af rfl) rfl) (by rfl) (by decide) (by rfl) (by rfl)) (@aa _ _ _ _ _ (@bF _ _ _ _ _ (@aa _ _ _ _ _ (pv 6) (@aa _ _ _ _ _ (pv 13) af rfl) rfl)) af rfl) rfl) (by rfl) (by decide) (by rfl) (by rfl)) (fun _=>rfl))) (@az _ _ _ (@aZ _ _ _ _ mE)) dj))) dj) (@az _ _ _ (@aZ _ _ _ _ (@qj _ _ _ _ _ _ _ _ (mY hr.units) (pv 11) (@bF _ _ _ _ _ (@aa _ _ _ _ _ (pv 5) (@aa _ _ _ _ _ (pv 9) af rfl) rfl)) (bw _))))))))))))))))))))),?_⟩
 walk_at "st"
 refine⟨a,ns,rfl,hS,hl,fun b l H1 s1 f1 B1=>?_⟩
 have rO:=s1.seq hS
 have key:∀(t:TS) (D:Ends),(∀H,D.rt (.bl true) H)->Sv (B0 b l H1) [.raw (.ref a), .ay, .no, .no, .no, .no, .no, .no, .no, .no, .no, .no, .no, .no] t {nx:=fun _=>False,rt:=fun _ d=>d= .bool true}->t D [some (.ref a),some (.ref b),none,none,none,none,none,none,none,none,none,none,none,none] H1:=fun t D d2 h=>h _ _ _ D (YL (m:=12) B1) (TL d2)
 refine R.HQ ?_
 dsimp only
 refine key _ _ (fun H=>?_) ?_
 ·exact q _
 walk_at "dt"
 intro sh sh0 sh1
 walk_at "dt"
 intro mo mo0 mo1
 obtain⟨m,rfl⟩:=o5 mo0
 walk_at "dt"
 refine Ev.k7 V1 rfl ?_
 walk_at "dt"
 refine⟨rfl,fun p hp l8 f=>?_⟩
 have p2:=hp.1
 refine Gv.iN ?_
 walk_at "dt"
 refine Ev.k7 Vx rfl ?_
 walk_at "dt"
 refine⟨rfl,p,rfl,hp,l8,fun n cs ws f2 hH hn hcl Zc=>?_⟩
 have hV:=hH.v
 have n0:=hV.n0
 have hwl:=hH.l
 have hws:=hH.r
 walk_at "dt"
 refine Ev.bH Qf ?_
 walk_at "dt"
 refine⟨rfl,p,n,cs,rfl,hV,fun d hd1 hd2=>?_⟩
 have hdl:d<=cs.length:=by
  obtain⟨i,_,e⟩:=hd2
  rw[e];exact Dg
 refine Gv.iN ?_
 walk_at "dt"
 refine Wh (fun ρ=>∃(mn:Int),0<=mn/\mn<=(d:Int)/2/\ρ=[.raw (.ref a), .ay, .d true (.int sh), .d true (.int (m:Int)), .d true (.int p), .d false (cL p n cs), .d false (aI ws), .d true (.int (d:Int)), .d true (.int mn), .no, .no, .no, .no, .no]) ?_ (fun _=>?_) fun _=>?_
 rotate_left
 ·walk_at "dt"
  intro y y0 y1
  walk_at "dt"
  exact⟨y,y0,by omega,rfl⟩
 ·exact⟨(d:Int)/2,by omega,pS _,rfl⟩
 rintro ρ' ⟨mn,mn0,mn1,rfl⟩
 by_cases c3:sh=3
 ·walk_at "dt"
  refine Ev.bH MP ?_
  walk_at "dt"
  refine Ev.k7 Ig rfl ?_
  walk_at "dt"
  intro y y0 y1
  walk_at "dt"
  refine⟨rfl,p,y,ws,rfl,p2,l8,by omega,hws,y0,by omega,fun f3 xs O hW La=>?_⟩
  walk_at "dt"
  exact⟨rfl,p,n,cs,xs,m,rfl,hV,by omega,by omega,by rw[hW.l];exact hwl,hW.r,fun _=>rfl⟩
 generalize gu:(pH (tN (vh (c6 (uI false) (cQ 10) _)) _ _) _:TS)=tl
 walk_at "dt"
 refine Ev.k7 Ig rfl ?_
 walk_at "dt"
 refine⟨rfl,p,mn,ws,rfl,p2,l8,by omega,hws,mn0,by omega,fun f3 xs O hW La=>?_⟩
 have ho:=XO hW
 have iF:xs.length=n.toNat:=by rw[hW.l];exact hwl
 have wJ:=hW.r
 have Gz:∀i,i<n.toNat->2*O.length<=fZ cs i:=fun i hi=>by have:=hd1 i hi;omega
 have hT:=FI hH ho Gz
 have hP:=Hh ho.l
 rw[hwl] at hP
 have mD:=QD hH ho Gz m
 have RU:=IM (xs:=xs) (ws:=ws) n.toNat
 have kT:(xs.map PyData.int).length=xs.length:=aj ..
 have lG:(ws.map PyData.int).length=ws.length:=aj ..
 refine Gv.mz ?_
 unfold aI
 walk_at "dt"
 refine aC.ev (aC.kR (by decide) rfl ?_)
 walk_at "dt"
 refine⟨false,fun i ds=>ds=(fc xs ws i).map cJ,rfl,?_,?_⟩
 ·rintro i d' ds ⟨hi,rfl⟩ hl' rfl
  rw[kP]
  have hix:i<xs.length:=by omega
  have U6:i<ws.length:=by omega
  have ZC:bN (xs.map PyData.int) (i:Int)=some (.int (xs.getD i 0)):=fT (by omega) (by rw[eX,aL,bG,aB hix];rfl)
  have ZW:bN (ws.map PyData.int) (i:Int)=some (.int (ws.getD i 0)):=fT (by omega) (by rw[eX,aL,bG,aB U6];rfl)
  have Jz:=rq (xs:=xs) (ws:=ws) (m:=i)
  generalize ZM:xs.getD i 0=x0 at*
  generalize hw0:ws.getD i 0=w0 at*
  walk_at "dt"
  refine⟨by walk_at "wk",?_⟩
  walk_at "dt"
  by_cases c:x0=w0
  ·rw[if_neg (by simp[c])]
   show _=List.map _ (fc xs ws (i+1))
   rw[Jz,if_neg (fun z=>z c),eN]
  ·rw[if_pos (by simp[c])]
   walk_at "dt"
   refine⟨fun z=>absurd z (by decide),?_⟩
   show _=List.map _ (fc xs ws (i+1))
   rw[Jz,if_pos c,cZ]
   rfl
 rintro ds hl' rfl
 obtain⟨T,hTT⟩:∃T,fc xs ws n.toNat=T:=⟨_,rfl⟩
 rw[hTT]
 rw[hTT] at hT hP mD RU
 have hTm:(T.map cJ).length=T.length:=aj ..
 walk_at "dt"
 refine Ev.bH JO ?_
 walk_at "dt"
 refine⟨rfl,p,n,cs,rfl,by omega,fun f4=>?_⟩
 walk_at "dt"
 refine Ev.bH (oB 5) ?_
 walk_at "dt"
 refine Ev.bH FN ?_
 walk_at "dt"
 refine⟨rfl,p,n,cs,xs,rfl,hV,iF,wJ,?_⟩
 rw[hT,hP]
 walk_at "dt"
 refine⟨rfl,_,rfl,?_,?_⟩
 ·refine .inr ⟨_, .inr rfl,by show 2<=10000;omega,fun e he=>?_⟩
  simp only[aM,cC,or_false] at he
  rcases he with rfl|rfl
  ·exact xF (by omega)
  ·exact tU (by omega)
 walk_at "dt"
 subst gu
 refine Sv.seq ?_
 have hTO:T=[]↔O=[]:=by
  constructor
  ·intro z
   refine fS fun hO=>?_
   have:=(Ib hH ho hO).1
   rw[hTT] at this
   exact this z
  ·intro z
   rw[<-hTT]
   exact Qw ho z (by omega)
 have heq:=DJ T
 have YZ:=Ec T
 have rJ:=sy
 have hle:=D9 (cs:=cs) (n:=n.toNat) (show 0<p by omega) m xs iF wJ
 obtain⟨rv,Dz⟩:∃rv,c8 p cs n.toNat m xs=rv:=⟨_,rfl⟩
 rw[Dz] at mD hle
 refine Sv.vQ (fun ρ=>ρ=[.raw (.ref a), .ay, .d true (.int sh), .d true (.int (m:Int)), .d true (.int p), .d false (cL p n cs), .d false (.list (ws.map .int)), .d true (.int (d:Int)), .d true (.int mn), .d false (.list (xs.map .int)), .d false (.list (T.map cJ)), .d false (.tuple [cL p n cs, .list (xs.map .int)]), .d false (p9 rv), .no]) ?_ ?_
 ·by_cases cO:O=[]
  ·rw[if_pos cO] at mD
   have cT:=hTO.mpr cO
   walk_at "dt"
   rw[iT,heq,if_pos (decide_eq_true cT)]
   walk_at "dt"
   rw[mD];rfl
  ·rw[if_neg cO] at mD
   have cT:¬T=[]:=fun z=>cO (hTO.mp z)
   by_cases cm:m=0
   ·rw[if_pos cm] at mD
    walk_at "dt"
    rw[iT,heq,if_neg (by rw[decide_eq_false cT];decide)]
    walk_at "dt"
    rw[mD];rfl
   ·rw[if_neg cm] at mD
    walk_at "dt"
    rw[iT,heq,if_neg (by rw[decide_eq_false cT];decide)]
    walk_at "dt"
    rw[mD];rfl
 rintro ρ rfl
 have hsh:=Ez p n cs xs
 walk_at "dt"
 refine Ev.bH (oB 5) ?_
 walk_at "dt"
 refine Ev.bH Lf ?_
 walk_at "dt"
 refine⟨rfl,p,n,cs,xs,m,rfl,hV,by omega,iF,wJ,?_⟩
 rw[Dz]
 walk_at "dt"
 refine⟨rfl,_,rfl,Ih (by omega) (by omega) (fun ts hts=>eE (hle.2.2 ts hts) (by omega)),?_⟩
 by_cases c1:mn=1
 ·by_cases c2:1<(d:Int)
  ·have FU:=SW hH ho (by omega) (fun i hi=>by have:=hd1 i hi;omega)
   rw[hTT] at FU
   walk_at "dt"
   refine aC.ev (aC.jM (by decide) rfl ?_)
   walk_at "dt"
   refine fun v=>gX.rel cJ false (fun j x=>∃t,T[j]?=some t/\x=(t.1,t.2.2,0)) ?_ fun os iw hos=>?_
   ·rintro j d' hd'
    obtain⟨t,hj,rfl⟩:=eO hd'
    walk_at "dt"
    refine⟨by walk_at "wk",?_⟩
    walk_at "dt"
    exact⟨fun z=>absurd z (by decide),(t.1,t.2.2,0),rfl,t,hj,rfl⟩
   rw[hTm] at iw
   have xU:os=T.map fun t=>(t.1,t.2.2,0):=by
    apply gU
    intro k
    rw[aL]
    by_cases hk:k<T.length
    ·obtain⟨t,e1,e2⟩:=hos k os[k] (aB (by omega))
     rw[e1,aB (by omega),e2];rfl
    ·rw[fV (by omega),fV (by omega)];rfl
   walk_at "dt"
   refine Ev.bH (oB 5) ?_
   walk_at "dt"
   refine Ev.bH Um ?_
   walk_at "dt"
   refine⟨rfl,p,n,cs,xs,rfl,hV,by omega,iF,wJ,?_⟩
   rw[FU,<-xU]
   walk_at "dt"
   refine⟨rfl, .tuple [.list (ws.map .int), .list (os.map cJ)],rfl,?_,?_⟩
   ·refine .inr ⟨_, .inr rfl,by show 2<=10000;omega,fun e he=>?_⟩
    simp only[aM,cC,or_false] at he
    rcases he with rfl|rfl
    ·exact xF (by omega)
    ·exact tU (by omega)
   walk_at "dt"
   exact congrArg (fun b:Bool=>PyData.bool (b !=false)) (eqv_refl _ (.inl hsh))
  ·exfalso;omega
 ·walk_at "dt"
  exact congrArg (fun b:Bool=>PyData.bool (b !=false)) (eqv_refl _ (.inl hsh))
end
local macro_rules| `(tactic|walk_at "bn")=> `(tactic|(intro _ _ _ _ _ _ us hl;first|(obtain⟨_,h⟩:=Hz hl;subst h;rfl)|(obtain⟨_,_,h⟩:=ln2 hl;subst h;rfl)|(obtain⟨_,_,_,h⟩:=KZ hl;subst h;rfl)|(obtain⟨_,_,_,_,h⟩:=K4 hl;subst h;rfl)|(obtain⟨_,_,_,_,_,h⟩:=Ub hl;subst h;rfl)|(obtain⟨_,_,_,_,_,_,h⟩:=ln6 hl;subst h;rfl)|(obtain⟨_,_,_,_,_,_,_,h⟩:=ln7 hl;subst h;rfl)))
theorem all_mk{l:PySem.W.OpenLaw}{w:World}{K:PySem.W.Frag}{h:Heap}{mg:Str->Option Value}{fa:Addr}{f0 f1 f2 f3 f4 f5 f6 f7 f8 f9 WD VI X3 RJ Sq LA Tj OF PK RO VC U8 Od S0 Qx M3 RS NZ MI S5 UC YI f32 ML Pu V6 VE BJ:Addr}(X:K.In h)(G:h.Ns mainGlobals mg)(NG:mg "law"=some (.ref fa))
  {Mi IB:Option Addr} {Mx:Array (Option Value)} {UH E5 Ke HH zC GX:Value}
  (d0:aO K "inverse" "inverse" Ac f0)
  (d1:aO K "total" "total" zT f1)
  (d2:aO K "sums" "sums" ux f2)
  (d3:aO K "sum_of" "sum_of" yP f3)
  (d4:aO K "voices" "voices" wm f4)
  (d5:aO K "all_voices" "all_voices" DV f5)
  (d6:aO K "counts_of" "counts_of" Bv f6)
  (d7:aO K "turns_of" "turns_of" DC f7)
  (d8:aO K "turned" "turned" C0 f8)
  (d9:aO K "with_turns" "with_turns" Dk f9)
  (Br:aO K "voted" "voted" yd WD)
  (Bs:aO K "broken_of" "broken_of" wV VI)
  (Dq:aO K "calming" "calming" yr X3)
  (Cr:aO K "calmed" "calmed" Cz RJ)
  (AI:aO K "_law_bag" "_law_bag" uu Sq)
  (zm:aO K "_law_stirred" "_law_stirred" C2 LA)
  (Cm:aO K "_law_draw" "_law_draw" Ak Tj)
  (BO:aO K "_law_prime_from" "_law_prime_from" wI OF)
  (Cs:aO K "_law_prime" "_law_prime" B8 PK)
  (zQ:aO K "_law_letters" "_law_letters" qP RO)
  (AB:aO K "_law_over" "_law_over" Al VC)
  (yf:aO K "_law_sum" "_law_sum" uT U8)
  (DU:aO K "_law_lines" "_law_lines" rY Od)
  (Co:aO K "_law_renamed" "_law_renamed" xK S0)
  (DH:aO K "_law_added" "_law_added" rW Qx)
  (Bk:aO K "_law_true_pairs" "_law_true_pairs" qY M3)
  (D7:aO K "_law_wrong" "_law_wrong" D4 RS)
  (An:aO K "_law_alike" "_law_alike" wR NZ)
  (Ag:aO K "_law_copy" "_law_copy" wX MI)
  (BD:aO K "_law_apart_net" "_law_apart_net" qL S5)
  (yW:aO K "_law_least_degree" "_law_least_degree" wL UC)
  (zL:aO K "_law_votes_all" "_law_votes_all" ua YI)
  (CA:aO K "_law_turns" "_law_turns" BK f32)
  (zv:aO K "_law_turned" "_law_turned" yy ML)
  (B3:aO K "_law_broken" "_law_broken" xm Pu)
  (zf:aO K "_law_voted" "_law_voted" yL V6)
  (D6:aO K "_law_any_right" "_law_any_right" Du VE)
  (Am:PySem.W.nsIn K mainGlobals "law"=some (some (.ref BJ))) (yU:K.lookup BJ=some ⟨UH,Mi, .func (PySem.W.fnOf "law" "law" (nY kq) (mW kq) (aR kq) .none E5 Ke HH IB zC GX),Mx⟩) (DR:PySem.W.codeIn K zC "law"=true) (DQ:PySem.W.keepIn K (.ref BJ)=true)
  (Aw:PySem.W.nsIn K mainGlobals "abs"=some none)
  (zl:PySem.W.nsIn K mainGlobals "all"=some none)
  (AS:PySem.W.nsIn K mainGlobals "bool"=some none)
  (zX:PySem.W.nsIn K mainGlobals "dict"=some none)
  (Ae:PySem.W.nsIn K mainGlobals "enumerate"=some none)
  (Bw:PySem.W.nsIn K mainGlobals "int"=some none)
  (BV:PySem.W.nsIn K mainGlobals "isinstance"=some none)
  (yN:PySem.W.nsIn K mainGlobals "len"=some none)
  (zq:PySem.W.nsIn K mainGlobals "list"=some none)
  (C6:PySem.W.nsIn K mainGlobals "min"=some none)
  (Ar:PySem.W.nsIn K mainGlobals "range"=some none)
  (A1:PySem.W.nsIn K mainGlobals "set"=some none)
  (Ao:PySem.W.nsIn K mainGlobals "sorted"=some none)
  (C9:PySem.W.nsIn K mainGlobals "str"=some none)
  (Aj:PySem.W.nsIn K mainGlobals "sum"=some none)
  (Bx:PySem.W.nsIn K mainGlobals "tuple"=some none)
  :∃fd:FuncData,(∀(s:Shared) (v:Value),BindsTo s fd ⟨[v],[]⟩ [("script",v)])/\∀base:Heap,K.In base->base.Ns mainGlobals mg->bE l.prog w K mg base bO 7 fa fd ["script"] (tR K):=by
 have e:=NG.symm.trans (bY X G Am)
 cases e
 obtain⟨a0,_,F0⟩:=d0
 have b0:=F0.binds (ps:=["p","b"]) (by walk_at "bn")
 obtain⟨a1,_,F1⟩:=d1
 have b1:=F1.binds (ps:=["p","pairs","word"]) (by walk_at "bn")
 obtain⟨a2,_,F2⟩:=d2
 have b2:=F2.binds (ps:=["net","word"]) (by walk_at "bn")
 obtain⟨a3,_,F3⟩:=d3
 have b3:=F3.binds (ps:=["p","pairs","word"]) (by walk_at "bn")
 obtain⟨a4,_,F4⟩:=d4
 have b4:=F4.binds (ps:=["net","places"]) (by walk_at "bn")
 obtain⟨a5,_,F5⟩:=d5
 have b5:=F5.binds (ps:=["net"]) (by walk_at "bn")
 obtain⟨a6,_,F6⟩:=d6
 have b6:=F6.binds (ps:=["p","there","reached","letter"]) (by walk_at "bn")
 obtain⟨a7,_,F7⟩:=d7
 have b7:=F7.binds (ps:=["p","found","reached","word"]) (by walk_at "bn")
 obtain⟨a8,_,F8⟩:=d8
 have b8:=F8.binds (ps:=["net","word"]) (by walk_at "bn")
 obtain⟨a9,_,F9⟩:=d9
 have b9:=F9.binds (ps:=["word","turns"]) (by walk_at "bn")
 obtain⟨YU,_,zZ⟩:=Br
 have LY:=zZ.binds (ps:=["net","word","most"]) (by walk_at "bn")
 obtain⟨NR,_,CT⟩:=Bs
 have Tq:=CT.binds (ps:=["reached"]) (by walk_at "bn")
 obtain⟨O0,_,yi⟩:=Dq
 have SS:=yi.binds (ps:=["net","found","word"]) (by walk_at "bn")
 obtain⟨RB,_,yH⟩:=Cr
 have Tw:=yH.binds (ps:=["net","word"]) (by walk_at "bn")
 obtain⟨PV,_,zk⟩:=AI
 have Wm:=zk.binds (ps:=["script"]) (by walk_at "bn")
 obtain⟨X6,_,Dh⟩:=zm
 have QT:=Dh.binds (ps:=["bag","many"]) (by walk_at "bn")
 obtain⟨Q8,_,Ax⟩:=Cm
 have XQ:=Ax.binds (ps:=["bag","many"]) (by walk_at "bn")
 obtain⟨So,_,Bb⟩:=BO
 have XR:=Bb.binds (ps:=["number"]) (by walk_at "bn")
 obtain⟨Qo,_,Dv⟩:=Cs
 have Xm:=Dv.binds (ps:=["bag"]) (by walk_at "bn")
 obtain⟨YE,_,Ba⟩:=zQ
 have S9:=Ba.binds (ps:=["bag","p","n"]) (by walk_at "bn")
 obtain⟨Rk,_,B4⟩:=AB
 have WE:=B4.binds (ps:=["p","a","b"]) (by walk_at "bn")
 obtain⟨MW,_,zh⟩:=yf
 have MM:=zh.binds (ps:=["p","pairs","word"]) (by walk_at "bn")
 obtain⟨Xs,_,zb⟩:=DU
 have Oj:=zb.binds (ps:=["bag","sides"]) (by walk_at "bn")
 obtain⟨YG,_,As⟩:=Co
 have T7:=As.binds (ps:=["bag","n","rows"]) (by walk_at "bn")
 obtain⟨NK,_,CH⟩:=DH
 have VU:=CH.binds (ps:=["bag","n","rows","many","wide"]) (by walk_at "bn")
 obtain⟨Om,_,zW⟩:=Bk
 have Mg:=zW.binds (ps:=["bag","p","row","word"]) (by walk_at "bn")
 obtain⟨Oq,_,zH⟩:=D7
 have Tu:=zH.binds (ps:=["bag","p","word","many"]) (by walk_at "bn")
 obtain⟨qx,_,jH⟩:=An
 have pF:=jH.binds (ps:=["found","due"]) (by walk_at "bn")
 obtain⟨T5,_,Ai⟩:=Ag
 have Sk:=Ai.binds (ps:=["net"]) (by walk_at "bn")
 obtain⟨Rc,_,Eb⟩:=BD
 have Xj:=Eb.binds (ps:=["bag","p"]) (by walk_at "bn")
 obtain⟨OQ,_,yg⟩:=yW
 have Ys:=yg.binds (ps:=["net"]) (by walk_at "bn")
 obtain⟨RC,_,BE⟩:=zL
 have Ru:=BE.binds (ps:=["net","word"]) (by walk_at "bn")
 obtain⟨a32,_,AZ⟩:=CA
 have Yn:=AZ.binds (ps:=["net","word"]) (by walk_at "bn")
 obtain⟨ND,_,yO⟩:=zv
 have Mj:=yO.binds (ps:=["word","turns"]) (by walk_at "bn")
 obtain⟨Og,_,zo⟩:=B3
 have XF:=zo.binds (ps:=["net","word"]) (by walk_at "bn")
 obtain⟨UJ,_,A9⟩:=zf
 have L4:=A9.binds (ps:=["net","word","most"]) (by walk_at "bn")
 obtain⟨WI,_,C8⟩:=D6
 have Sn:=C8.binds (ps:=["net","bad","most"]) (by walk_at "bn")
 have Mn:=E3 (st:=kq) yU DR DQ
 have yq:=iE X G Aw
 have ow:=iE X G zl
 have mT:=iE X G AS
 have BZ:=iE X G zX
 have mw:=iE X G Ae
 have kg:=iE X G Bw
 have iQ:=iE X G BV
 have bW:=iE X G yN
 have bU:=iE X G zq
 have pW:=iE X G C6
 have bf:=iE X G Ar
 have zF:=iE X G A1
 have jZ:=iE X G Ao
 have mQ:=iE X G C9
 have qc:=iE X G Aj
 have nD:=iE X G Bx
 refine⟨PySem.W.fnOf "law" "law" (nY kq) (mW kq) (aR kq) .none E5 Ke HH IB zC GX,fun s v=> .of_eq rfl,fun base _ _=>?_⟩
 have SH:=Callee.mk' F0 (Xf (P:=l.prog) (w:=w) (base:=base) F0) b0 (bY X G a0)
 have S2:=Callee.mk' F1 (PJ (P:=l.prog) (w:=w) (base:=base) F1) b1 (bY X G a1)
 have LQ:=Callee.mk' F3 (Ur (P:=l.prog) (w:=w) (base:=base) F3 S2) b3 (bY X G a3)
 have yQ:=Callee.mk' F2 (Oo (P:=l.prog) (w:=w) (base:=base) F2 LQ) b2 (bY X G a2)
 have RI:=Callee.mk' F4 (NY (P:=l.prog) (w:=w) (base:=base) F4 SH BZ mw) b4 (bY X G a4)
 have xY:=Callee.mk' F5 (QM (P:=l.prog) (w:=w) (base:=base) F5 RI bU bf) b5 (bY X G a5)
 have KG:=Callee.mk' F6 (UI (P:=l.prog) (w:=w) (base:=base) F6) b6 (bY X G a6)
 have HS:=Callee.mk' F7 (LI (P:=l.prog) (w:=w) (base:=base) F7 KG mw bW) b7 (bY X G a7)
 have KC:=Callee.mk' F9 (T4 (P:=l.prog) (w:=w) (base:=base) F9 bU) b9 (bY X G a9)
 have GS:=Callee.mk' F8 (Wc (P:=l.prog) (w:=w) (base:=base) F8 HS xY yQ KC) b8 (bY X G a8)
 have FJ:=Callee.mk' CT (Xb (P:=l.prog) (w:=w) (base:=base) CT bW) Tq (bY X G NR)
 have J5:=Callee.mk' zZ (Xi (P:=l.prog) (w:=w) (base:=base) zZ xY yQ HS KC FJ bU bW) LY (bY X G YU)
 have Q4:=Callee.mk' yi (ME (P:=l.prog) (w:=w) (base:=base) yi yQ FJ KG mw jZ) SS (bY X G O0)
 have QK:=Callee.mk' yH (WR (P:=l.prog) (w:=w) (base:=base) yH xY Q4 bU) Tw (bY X G RB)
 have Nt:=Callee.mk' zk (Wr (P:=l.prog) (w:=w) (base:=base) zk yq) Wm (bY X G PV)
 have M9:=Callee.mk' Dh (Me (P:=l.prog) (w:=w) (base:=base) Dh bf) QT (bY X G X6)
 have l5:=Callee.mk' Ax (UX (P:=l.prog) (w:=w) (base:=base) Ax M9 bW) XQ (bY X G Q8)
 have Wg:=Callee.mk' Bb (Sf (P:=l.prog) (w:=w) (base:=base) Bb bf) XR (bY X G So)
 have NV:=Callee.mk' Dv (Xh (P:=l.prog) (w:=w) (base:=base) Dv l5 Wg) Xm (bY X G Qo)
 have OW:=Callee.mk' Ba (NL (P:=l.prog) (w:=w) (base:=base) Ba l5 bf kg pW) S9 (bY X G YE)
 have HL:=Callee.mk' B4 (MH (P:=l.prog) (w:=w) (base:=base) B4) WE (bY X G Rk)
 have Di:=Callee.mk' zh (NT (P:=l.prog) (w:=w) (base:=base) zh qc) MM (bY X G MW)
 have MJ:=Callee.mk' zb (LL (P:=l.prog) (w:=w) (base:=base) zb l5 bf bW) Oj (bY X G Xs)
 have TV:=Callee.mk' As (Qc (P:=l.prog) (w:=w) (base:=base) As l5 bU bf jZ bW) T7 (bY X G YG)
 have XN:=Callee.mk' CH (OH (P:=l.prog) (w:=w) (base:=base) CH l5 bf bW jZ zF) VU (bY X G NK)
 have MZ:=Callee.mk' zW (Yq (P:=l.prog) (w:=w) (base:=base) zW Di HL l5 bf bW) Mg (bY X G Om)
 have VY:=Callee.mk' zH (Xv (P:=l.prog) (w:=w) (base:=base) zH l5 bU bf bW) Tu (bY X G Oq)
 have Qz:=Callee.void (P:=l.prog) (w:=w) (base:=base) (k:=0) (sp:=aS 2 (om 0)) jH pF (bY X G qx) RE
 have Ye:=Callee.mk' jH (rK (P:=l.prog) (w:=w) (base:=base) 0 jH Qz iQ bU nD ow bW mT kg mQ bf) pF (bY X G qx)
 have SG:=Callee.mk' jH (rK (P:=l.prog) (w:=w) (base:=base) 1 jH Ye iQ bU nD ow bW mT kg mQ bf) pF (bY X G qx)
 have OR:=Callee.mk' jH (rK (P:=l.prog) (w:=w) (base:=base) 2 jH SG iQ bU nD ow bW mT kg mQ bf) pF (bY X G qx)
 have YR:=Callee.mk' jH (rK (P:=l.prog) (w:=w) (base:=base) 3 jH OR iQ bU nD ow bW mT kg mQ bf) pF (bY X G qx)
 have UZ:=Callee.mk' jH (rK (P:=l.prog) (w:=w) (base:=base) 4 jH YR iQ bU nD ow bW mT kg mQ bf) pF (bY X G qx)
 have II:=UZ
 have E2:=Callee.mk' Ai (Yt (P:=l.prog) (w:=w) (base:=base) Ai bU) Sk (bY X G T5)
 have Qy:=Callee.mk' Eb (Xp (P:=l.prog) (w:=w) (base:=base) Eb l5 MJ TV OW XN MZ) Xj (bY X G Rc)
 have Ue:=Callee.mk' yg (TQ (P:=l.prog) (w:=w) (base:=base) yg pW bf) Ys (bY X G OQ)
 have Uc:=Callee.mk' BE (RT (P:=l.prog) (w:=w) (base:=base) BE Di HL bf) Ru (bY X G RC)
 have Js:=Callee.mk' AZ (MN (P:=l.prog) (w:=w) (base:=base) AZ Uc bf qc jZ) Yn (bY X G a32)
 have EL:=Callee.mk' yO (Yb (P:=l.prog) (w:=w) (base:=base) yO bU) Mj (bY X G ND)
 have UD:=Callee.mk' zo (WQ (P:=l.prog) (w:=w) (base:=base) zo Di bW) XF (bY X G Og)
 have RM:=Callee.mk' A9 (Ou (P:=l.prog) (w:=w) (base:=base) A9 Js EL UD bU bf) L4 (bY X G UJ)
 have Oe:=Callee.mk' C8 (Va (P:=l.prog) (w:=w) (base:=base) C8 Js RM E2 EL II GS J5 bU) Sn (bY X G WI)
 exact WN Mn Nt l5 NV Qy Ue VY Oe E2 II GS J5 QK bU bf
theorem walk{l:PySem.W.OpenLaw}{q:Program}{loose:List Str}{XP:(Str->Option Value)->Heap->Prop}{YP:World->Heap->Prop}{d:DefRec}{K:Params->PySem.W.Frag}(hn:l.most=some 63)(hdf:d.params.defaults=[])
  (hY:∀(w:World) (h:Heap),YP w h->(K w.params).In h)
  (F : ∀ (w : World) (mg : Str -> Option Value) (fa : Addr) (h : Heap), (K w.params).In h -> h.Ns mainGlobals mg -> mg d.name = some (.ref fa) ->
   ∃fd:FuncData,(∀(s:Shared) (u:Value),BindsTo s fd ⟨[u],[]⟩ [("script",u)])/\∀base:Heap,(K w.params).In base->base.Ns mainGlobals mg->bE l.prog w (K w.params) mg base bO 7 fa fd ["script"] (tR (K w.params))):
  PySem.W.WalkO q loose XP YP l.row.toRowW d [] (fun f vs=>PySem.call f vs):=
 L2.WK (n:=63) (k:=7) (x:="script") (CX:=fun _=>bO) (sp:=fun w=>tR (K w.params)) hn (by decide) hdf ⟨rfl,by decide,by decide⟩ hY F (fun _ _ a ns hl _ hS=>⟨a,ns,rfl,hS,hl,fun _=>rfl⟩) fun _ _ _ _ _ z=>z
def view:Program:={PySem.Challenge.pw_fewchecks_k55_whole_half_of_them_wrong with main:={PySem.Challenge.pw_fewchecks_k55_whole_half_of_them_wrong.main with body:=[top 1,top 2,top 4,top 5,top 7,top 8,top 9,top 10,top 11,top 12,top 13,top 14,top 15,top 16,top 18,top 19,top 20,top 21,top 22,top 23,top 24,top 25,top 26,top 27,top 28,top 29,top 30,top 31,top 32,top 33,top 34,top 35,top 36,top 37,top 38,top 39,top 40,top 41]}}
end K55
open PySem PySem.W PyProof.Rows
local macro_rules| `(tactic|o_head $H:term)=> `(tactic|
 (refine holds_open (q:=K55.view) (loose:=[])
    (Xt:=fun s=>xlAt K55.view [] s && recOk [] s) (XP:=XL K55.view []) (Yf:=Hook.obs $H)
    (Ya:=Hook.val $H) (YP:=Hook.says $H) (N:=100000) ?hl (Hook.of $H)
    (Hook.keeps $H) (fun s e=>xl_of s (HV.mp e).1) XL.keeps
    rfl rfl rfl (fun s e=>recFacts_of (HV.mp e).2) rfl
    (by assumption) (by decide+kernel) ⟨rfl,rfl,rfl,rfl,rfl,by decide+kernel⟩ ?hw ?hc;(case hl=>exact fun w=>by kernel_rfl)))
set_option maxRecDepth 100000 in
set_option maxHeartbeats 0 in
theorem PySem.Challenge.cw_fewchecks_k55_whole_half_of_them_wrong_holds : PySem.Challenge.rw_fewchecks_k55_whole_half_of_them_wrong.Holds := by
 w_on
 refine holds_law (by decide+kernel) fun said=>?_
 k_head
 (case hw=>w_witness2)
 k_fill
 refine K55.walk (l:=PySem.Challenge.rw_fewchecks_k55_whole_half_of_them_wrong) rfl rfl (fun w h Y=>PySem.W.kIn_of Y) ?F
 case F=>
  intro w mg fa h KX G hmg
  refine' K55.all_mk KX G hmg ?d0 ?d1 ?d2 ?d3 ?d4 ?d5 ?d6 ?d7 ?d8 ?d9 ?Br ?Bs ?Dq ?Cr ?AI ?zm ?Cm ?BO ?Cs ?zQ ?AB ?yf ?DU ?Co ?DH ?Bk ?D7 ?An ?Ag ?BD ?yW ?zL ?CA ?zv ?B3 ?zf ?D6 ?Am ?yU ?DR ?DQ ?Aw ?zl ?AS ?zX ?Ae ?Bw ?BV ?yN ?zq ?C6 ?Ar ?A1 ?Ao ?C9 ?Aj ?Bx
  (case d0=>refine' L2.aO.mk ?a ?l ?c ?k;(case a=>k_is);(case l=>k_is);(case c=>k_is);(case k=>k_is))
  (case d1=>refine' L2.aO.mk ?a ?l ?c ?k;(case a=>k_is);(case l=>k_is);(case c=>k_is);(case k=>k_is))
  (case d2=>refine' L2.aO.mk ?a ?l ?c ?k;(case a=>k_is);(case l=>k_is);(case c=>k_is);(case k=>k_is))
  (case d3=>refine' L2.aO.mk ?a ?l ?c ?k;(case a=>k_is);(case l=>k_is);(case c=>k_is);(case k=>k_is))
  (case d4=>refine' L2.aO.mk ?a ?l ?c ?k;(case a=>k_is);(case l=>k_is);(case c=>k_is);(case k=>k_is))
  (case d5=>refine' L2.aO.mk ?a ?l ?c ?k;(case a=>k_is);(case l=>k_is);(case c=>k_is);(case k=>k_is))
  (case d6=>refine' L2.aO.mk ?a ?l ?c ?k;(case a=>k_is);(case l=>k_is);(case c=>k_is);(case k=>k_is))
  (case d7=>refine' L2.aO.mk ?a ?l ?c ?k;(case a=>k_is);(case l=>k_is);(case c=>k_is);(case k=>k_is))
  (case d8=>refine' L2.aO.mk ?a ?l ?c ?k;(case a=>k_is);(case l=>k_is);(case c=>k_is);(case k=>k_is))
  (case d9=>refine' L2.aO.mk ?a ?l ?c ?k;(case a=>k_is);(case l=>k_is);(case c=>k_is);(case k=>k_is))
  (case Br=>refine' L2.aO.mk ?a ?l ?c ?k;(case a=>k_is);(case l=>k_is);(case c=>k_is);(case k=>k_is))
  (case Bs=>refine' L2.aO.mk ?a ?l ?c ?k;(case a=>k_is);(case l=>k_is);(case c=>k_is);(case k=>k_is))
  (case Dq=>refine' L2.aO.mk ?a ?l ?c ?k;(case a=>k_is);(case l=>k_is);(case c=>k_is);(case k=>k_is))
  (case Cr=>refine' L2.aO.mk ?a ?l ?c ?k;(case a=>k_is);(case l=>k_is);(case c=>k_is);(case k=>k_is))
  (case AI=>refine' L2.aO.mk ?a ?l ?c ?k;(case a=>k_is);(case l=>k_is);(case c=>k_is);(case k=>k_is))
  (case zm=>refine' L2.aO.mk ?a ?l ?c ?k;(case a=>k_is);(case l=>k_is);(case c=>k_is);(case k=>k_is))
  (case Cm=>refine' L2.aO.mk ?a ?l ?c ?k;(case a=>k_is);(case l=>k_is);(case c=>k_is);(case k=>k_is))
  (case BO=>refine' L2.aO.mk ?a ?l ?c ?k;(case a=>k_is);(case l=>k_is);(case c=>k_is);(case k=>k_is))
  (case Cs=>refine' L2.aO.mk ?a ?l ?c ?k;(case a=>k_is);(case l=>k_is);(case c=>k_is);(case k=>k_is))
  (case zQ=>refine' L2.aO.mk ?a ?l ?c ?k;(case a=>k_is);(case l=>k_is);(case c=>k_is);(case k=>k_is))
  (case AB=>refine' L2.aO.mk ?a ?l ?c ?k;(case a=>k_is);(case l=>k_is);(case c=>k_is);(case k=>k_is))
  (case yf=>refine' L2.aO.mk ?a ?l ?c ?k;(case a=>k_is);(case l=>k_is);(case c=>k_is);(case k=>k_is))
  (case DU=>refine' L2.aO.mk ?a ?l ?c ?k;(case a=>k_is);(case l=>k_is);(case c=>k_is);(case k=>k_is))
  (case Co=>refine' L2.aO.mk ?a ?l ?c ?k;(case a=>k_is);(case l=>k_is);(case c=>k_is);(case k=>k_is))
  (case DH=>refine' L2.aO.mk ?a ?l ?c ?k;(case a=>k_is);(case l=>k_is);(case c=>k_is);(case k=>k_is))
  (case Bk=>refine' L2.aO.mk ?a ?l ?c ?k;(case a=>k_is);(case l=>k_is);(case c=>k_is);(case k=>k_is))
  (case D7=>refine' L2.aO.mk ?a ?l ?c ?k;(case a=>k_is);(case l=>k_is);(case c=>k_is);(case k=>k_is))
  (case An=>refine' L2.aO.mk ?a ?l ?c ?k;(case a=>k_is);(case l=>k_is);(case c=>k_is);(case k=>k_is))
  (case Ag=>refine' L2.aO.mk ?a ?l ?c ?k;(case a=>k_is);(case l=>k_is);(case c=>k_is);(case k=>k_is))
  (case BD=>refine' L2.aO.mk ?a ?l ?c ?k;(case a=>k_is);(case l=>k_is);(case c=>k_is);(case k=>k_is))
  (case yW=>refine' L2.aO.mk ?a ?l ?c ?k;(case a=>k_is);(case l=>k_is);(case c=>k_is);(case k=>k_is))
  (case zL=>refine' L2.aO.mk ?a ?l ?c ?k;(case a=>k_is);(case l=>k_is);(case c=>k_is);(case k=>k_is))
  (case CA=>refine' L2.aO.mk ?a ?l ?c ?k;(case a=>k_is);(case l=>k_is);(case c=>k_is);(case k=>k_is))
  (case zv=>refine' L2.aO.mk ?a ?l ?c ?k;(case a=>k_is);(case l=>k_is);(case c=>k_is);(case k=>k_is))
  (case B3=>refine' L2.aO.mk ?a ?l ?c ?k;(case a=>k_is);(case l=>k_is);(case c=>k_is);(case k=>k_is))
  (case zf=>refine' L2.aO.mk ?a ?l ?c ?k;(case a=>k_is);(case l=>k_is);(case c=>k_is);(case k=>k_is))
  (case D6=>refine' L2.aO.mk ?a ?l ?c ?k;(case a=>k_is);(case l=>k_is);(case c=>k_is);(case k=>k_is))
  (case Am=>k_is)
  (case yU=>k_is)
  (case DR=>k_is)
  (case DQ=>k_is)
  (case Aw=>k_is)
  (case zl=>k_is)
  (case AS=>k_is)
  (case zX=>k_is)
  (case Ae=>k_is)
  (case Bw=>k_is)
  (case BV=>k_is)
  (case yN=>k_is)
  (case zq=>k_is)
  (case C6=>k_is)
  (case Ar=>k_is)
  (case A1=>k_is)
  (case Ao=>k_is)
  (case C9=>k_is)
  (case Aj=>k_is)
  (case Bx=>k_is)
