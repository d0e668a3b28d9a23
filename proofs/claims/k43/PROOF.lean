import PyProof.Rows.All
import Wide.All
import OpenK.AllK
import Wide.FinOn
import Lean
import PyProof.EqAt
import PyProof.EqKinds
import PyProof.TupleCall
import PySem.Challenge.RW_fewchecks_k43_checks_that_come_of_others
set_option compiler.extract_closed false
set_option Elab.async false
set_option linter.all false
set_option maxRecDepth 100000
def ak:= @List.length_map
def aF:= @List.getElem?_eq_getElem
def aN:= @List.mem_map
def aP:= @List.getElem?_eq_some_iff
def aW:= @List.mem_of_getElem?
def bf:= @List.getD_eq_getElem?_getD
def bq:= @List.mem_cons
def bh:= @Nat.le_refl
def bu:= @List.getElem?_map
def bx:= @Ne.symm
def bC:= @List.map_cons
def bF:= @List.mem_singleton
def bG:= @PySem.Heap.lt_size
def bQ:= @List.getElem?_set_ne
def bY:= @List.mem_cons_of_mem
def cE:= @List.map_append
def cG:= @List.size_toArray
def cR:= @List.not_mem_nil
def cS:= @PySem.W.mg_of
def cX:= @Nat.le_trans
def dj:= @List.mem_cons_self
def cZ:= @List.length_take
def c6:= @List.getElem_mem
def dH:= @Bool.false_ne_true
def dw:= @PySem.Heap.get?_push_of_some
def dO:= @List.getElem?_set_self
def dI:= @Int.mul_zero
def dW:= @Nat.ne_of_lt
def dS:= @List.mem_range
def dZ:= @List.getElem?_of_mem
def eg:= @Nat.lt_of_lt_of_le
def eG:= @Int.emod_nonneg
def eE:= @List.take_length
def eK:= @PySem.PassesOwn.never
def fj:= @List.getElem?_replicate
def fm:= @List.length_append
def e7:= @Int.emod_lt_of_pos
def fk:= @List.length_range
def fJ:= @List.mem_append
def fB:= @List.length_cons
def fy:= @List.length_replicate
def fF:= @Int.zero_mul
def fN:= @Option.some.inj
def fW:= @Nat.zero_le
def fY:= @List.getElem?_append_left
def fR:= @List.lookup_cons
def fK:= @Bool.and_eq_true
def fZ:= @List.map_map
def fX:= @Int.toNat_natCast
def gp:= @List.getElem?_append_right
def gn:= @List.length_set
def gH:= @PySem.Heap.get?_push_size
def gP:= @List.getElem?_eq_none
def g5:= @Nat.lt_irrefl
def gU:= @Classical.byContradiction
def g8:= @PySem.boot_len
def iE:= @List.nodup_cons
def iC:= @Int.emod_def
def iP:= @List.mem_filter
def iM:= @List.mem_append_right
def iR:= @List.length_drop
def iO:= @PySem.W.mg_none_of
def jh:= @Int.emod_eq_of_lt
def jg:= @Int.add_zero
def jR:= @PySem.W.kia_one
def jz:= @List.append_nil
def jQ:= @List.all_eq_true
def jx:= @Option.map_eq_some_iff
def jA:= @Option.some_ne_none
def jI:= @List.getElem?_cons_succ
def jL:= @List.map_set
def j3:= @List.length_singleton
def jT:= @List.cons_append
def kj:= @List.mem_map_of_mem
def jV:= @List.pairwise_map
def kD:= @List.mem_append_left
def kE:= @Nat.ne_of_gt
def k9:= @Bool.eq_iff_iff
def kX:= @List.set_set
def kI:= @List.ext_getElem?
def kU:= @Int.mul_sub
def l5:= @Nat.mul_mod
def lX:= @List.mem_or_eq_of_mem_set
def lH:= @List.map_take
def nA:= @Nat.mul_comm
def mV:= @Int.zero_add
def nk:= @List.map_congr_left
def nC:= @Int.sub_zero
def mO:= @Int.le_of_dvd
def mS:= @List.find?_cons
def nh:= @List.mem_of_mem_take
def oK:= @Int.mul_one
def oW:= @PyProof.Rows.callWith_type1
def oj:= @PySem.mem_of_lookup
def nF:= @List.getElem?_take_of_lt
def nV:= @List.replicate_succ
def oM:= @PySem.SeqAt.canLay_of_shaped
def nZ:= @List.take_add_one
def nY:= @Int.mul_comm
def ou:= @Int.dvd_mul_of_dvd_right
def nW:= @List.length_zipWith
def nJ:= @List.ext_getElem
def nE:= @List.mem_replicate
def oJ:= @PySem.F.plainAttrs_list
def nL:= @List.map_replicate
def pe:= @PyProof.Rows.boot_list
def pY:= @Nat.le_of_lt
def pS:= @PySem.Heap.size_push
def qi:= @Nat.le_of_eq
def pL:= @PySem.Heap.get?_update_other
def qg:= @Array.getElem?_toList
def pA:= @List.map_nil
def qQ:= @List.sum_append
def qD:= @List.all_cons
def qv:= @Int.one_mul
def qL:= @Nat.mul_assoc
def qC:= @PySem.Around.under_plainId
def pC:= @Int.zero_emod
def pM:= @Nat.min_eq_left
def pR:= @List.map_drop
def qk:= @List.eraseIdx_eq_take_drop_succ
def sr:= @Array.length_toList
def tE:= @Nat.le_succ
def rE:= @PySem.Heap.get?_update_self
def sY:= @List.flatten_cons
def sj:= @Bool.or_false
def rA:= @Int.mul_assoc
def q9:= @Int.dvd_add
def tB:= @List.length_eq_zero_iff
def rZ:= @List.foldl_append
def sG:= @List.getElem?_zipIdx
def qZ:= @List.getElem?_zipWith
def rW:= @List.sum_cons
def rQ:= @List.nodup_range
def rX:= @List.flatMap_cons
def sE:= @Nat.le_of_ble_eq_true
def v5:= @Prod.mk.inj
def uF:= @List.cons.inj
def uc:= @Bool.false_or
def xF:= @List.take_of_length_le
def vm:= @List.all_map
def uS:= @Nat.mul_one
def u6:= @Nat.zero_mul
def xu:= @Nat.pow_add
def u5:= @Bool.or_true
def uL:= @List.any_cons
def uM:= @Bool.true_or
def wY:= @Nat.lt_trans
def xy:= @Nat.lt_succ_of_lt
def vf:= @PySem.F.slot_list_getattribute
def ve:= @Nat.le_add_right
def xr:= @PySem.F.slot_enumerate_next
def xq:= @PySem.Heap.SameBut.update
def uZ:= @List.getElem_zipWith
def xE:= @Int.dvd_mul_right
def uD:= @Nat.not_lt_zero
def wU:= @List.mem_of_mem_drop
def xK:= @List.range_succ
def wV:= @List.filter_append
def vg:= @List.getElem?_range
def xO:= @PyProof.Rows.boot_isinstance
def ue:= @List.mem_of_mem_eraseIdx
def vM:= @List.length_eraseIdx_of_lt
def wA:= @PyProof.Rows.boot_all
def Ar:= @PySem.Value.isInt_shape
def yq:= @Sum.inl.inj
def AS:= @List.filterMap_cons
def Br:= @List.mem_filterMap
def DZ:= @PySem.W.plainGet_of
def CJ:= @Nat.lt_succ_self
def zg:= @PySem.W.methodCall_KW
def yf:= @PySem.W.kitx_dict
def DP:= @PySem.W.callWith_K
def Ed:= @List.of_mem_zip
def Ag:= @List.append_assoc
def yu:= @List.take_zero
def yO:= @Int.le_refl
def yr:= @Int.mul_ediv_add_emod
def zm:= @Int.mul_le_mul_of_nonneg_left
def ya:= @Int.ediv_nonneg
def D4:= @Nat.succ.inj
def Ec:= @List.drop_zero
def C9:= @List.any_eq_true
def CW:= @Nat.pow_succ
def Dy:= @Nat.div_add_mod
def C3:= @Nat.mod_mod
def Ez:= @Nat.pow_zero
def zE:= @Nat.mod_mod_of_dvd
def ye:= @Nat.one_mul
def As:= @Nat.le_of_dvd
def CG:= @Option.isSome_map
def yj:= @Int.emod_eq_zero_of_dvd
def BZ:= @PySem.F.plain_extend_loop
def Bk:= @Int.add_mul_emod_self_left
def Ea:= @List.nodup_append
def Bf:= @List.length_filter_le
def AQ:= @List.mem_flatMap
def zI:= @Int.dvd_of_emod_eq_zero
def C2:= @List.mem_of_find?_eq_some
def C6:= @List.find?_some
def Ei:= @Nat.sub_self
def BI:= @List.getElem?_drop
def En:= @List.pairwise_iff_getElem
def Ci:= @PyProof.Rows.boot_range
def Eg:= @Bool.eq_false_iff
def BV:= @PySem.F.slot_list_pop
def yb:= @PySem.F.type_list_pop
def zy:= @Int.toNat_of_nonneg
def JX:= @PySem.Calls.Name_function_global
def Kr:= @PySem.W.cellsFrom_some
def EL:= @Option.isSome_iff_exists
def JD:= @List.eraseIdxIfInBounds_toArray
def KQ:= @List.filterMap_cons_some
def Kv:= @List.range_succ_eq_map
def GR:= @List.getElem?_toArray
def JO:= @Nat.dvd_of_mod_eq_zero
def Kg:= @Int.eq_ofNat_of_zero_le
def EN:= @PySem.F.plain_list_iadd
def HW:= @PySem.F.slot_list_insert
def Jq:= @Array.getElem?_eq_getElem
def KU:= @List.findIdx?_eq_none_iff
def Ky:= @PySem.F.slot_dict_items
def Ia:= @List.length_flatMap
def Ib:= @List.sum_replicate_nat
def G4:= @List.pairwise_flatMap
def J3:= @Nat.pow_le_pow_iff_right
def Fo:= @List.Pairwise.imp_of_mem
def Fc:= @List.pairwise_lt_range
def FL:= @List.Nodup.length_le_of_subset
def Jb:= @List.filter_cons_of_pos
def Ko:= @List.filter_cons_of_neg
def Hf:= @PySem.F.slot_list_append
def Fj:= @PySem.F.type_list_append
def K8:= @PyProof.Rows.boot_sum
def Fw:= @PyProof.Rows.boot_int
def HK:= @Bool.and_eq_true_iff
namespace L2
open PySem PySem.Spec PyProof.Rows
abbrev Key:=Sum Int Str
def pJ:Key->Value->Bool
 | .inl k,v=>Value.isInt k v
 | .inr x,v=>Value.isStrOf x v
def Qk(w:World):Key->Int
 | .inl k=>hashInt k
 | .inr x=>hashStr w x
theorem lu:∀{k:Key} {v:Value},pJ k v=true->(∃i t,k=Sum.inl i/\v=Value.int i t)\/(∃x t,k=Sum.inr x/\v=Value.str x t)
  | .inl i, v, h => by
    obtain⟨t,e⟩:=Ar (k:=i) (v:=v) h
    exact .inl ⟨i,t,rfl,e⟩
  | .inr x, v, h => by
    obtain⟨t,e⟩:=Value.isStrOf_shape (x:=x) (v:=v) h
    exact .inr ⟨x,t,rfl,e⟩
theorem WJ(i:Int)(t:Tok):pJ (.inl i) (.int i t)=true:=by simp[pJ,Value.isInt]
theorem Pa(x:Str)(t:Tok):pJ (.inr x) (.str x t)=true:=by simp[pJ,Value.isStrOf]
theorem P6(a b:Int):decide ((Sum.inl a:Key)=Sum.inl b)=(a==b):=by
 by_cases e:a=b
 ·subst e;simp
 ·have h:¬(Sum.inl a:Key)=Sum.inl b:=fun q=>e (yq q)
  rw[decide_eq_false h]
  exact(beq_eq_false_iff_ne.mpr e).symm
theorem UM(a b:Str):decide ((Sum.inr a:Key)=Sum.inr b)=decide (a=b):=by
 by_cases e:a=b
 ·subst e;simp
 ·have h:¬(Sum.inr a:Key)=Sum.inr b:=fun q=>e (Sum.inr.inj q)
  rw[decide_eq_false h,decide_eq_false e]
theorem TZ(a:Int)(b:Str):decide ((Sum.inl a:Key)=Sum.inr b)=false:=decide_eq_false (fun q=>nomatch q)
theorem Pw(a:Str)(b:Int):decide ((Sum.inr a:Key)=Sum.inl b)=false:=decide_eq_false (fun q=>nomatch q)
def dX(prog:Program)(w:World):PySem.KeyKind prog w Key where
 is:=pJ
 hash:=Qk w
 inj:=fun v a b ha hb=>by
  rcases lu ha with ⟨i,t,rfl,rfl⟩|⟨x,t,rfl,rfl⟩
  ·rcases lu hb with ⟨j,u,rfl,e⟩|⟨y,u,rfl,e⟩
   ·injection e with e1 _;rw[e1]
   ·exact nomatch e
  ·rcases lu hb with ⟨j,u,rfl,e⟩|⟨y,u,rfl,e⟩
   ·exact nomatch e
   ·injection e with e1 _;rw[e1]
 byValue:=fun k v h=>by
  rcases lu h with ⟨i,t,rfl,rfl⟩|⟨x,t,rfl,rfl⟩<;>rfl
 pyHash:=fun hv h=>by
  rcases lu hv with ⟨i,t,rfl,rfl⟩|⟨x,t,rfl,rfl⟩
  ·exact wpAny_pyHash_int h
  ·exact wpAny_pyHash_str h
 eqBool:=fun hu hv h=>by
  rcases lu hu with ⟨i,t,rfl,rfl⟩|⟨x,t,rfl,rfl⟩
  ·rcases lu hv with ⟨j,u,rfl,rfl⟩|⟨y,u,rfl,rfl⟩
   ·rw[P6] at h;exact wpAny_eqBool_int h
   ·rw[TZ] at h;exact SeqAt.EqAt.int_str i t y u _ _ _ _ h
  ·rcases lu hv with ⟨j,u,rfl,rfl⟩|⟨y,u,rfl,rfl⟩
   ·rw[Pw] at h;exact SeqAt.EqAt.str_int x t j u _ _ _ _ h
   ·rw[UM] at h;exact wpAny_eqBool_str h
 «strs» :=fun k x t v h=>by
  rcases lu h with ⟨i,u,rfl,e⟩|⟨y,u,rfl,e⟩
  ·exact nomatch e
  ·injection e with e1 _
   subst e1
   cases v<;>rfl
theorem Uc(prog:Program)(w:World)(i:Int)(t:Tok):(dX prog w).is (.inl i) (.int i t)=true:=WJ i t
theorem LV(prog:Program)(w:World)(x:Str)(t:Tok):(dX prog w).is (.inr x) (.str x t)=true:=Pa x t
inductive V where
 |aL|bl (b:Bool)|int (i:Int)|str (x:Str)|i7 (b:Array UInt8)|kO (b:UInt64)|ref (a:Addr)|ty (n:String)
 deriving DecidableEq
def RelV:V->Value->Prop
 | .aL,u=>u=Value.none
 | .bl b,u=>u=Value.bool b
 | .int i,u=>∃t,u=Value.int i t
 | .str x,u=>∃t,u=Value.str x t
 | .i7 b,u=>∃t,u=Value.bytes b t
 | .kO b,u=>∃t,u=Value.float b t
 | .ref a,u=>u=Value.ref a
 | .ty n,u=>u=Value.type n
abbrev Vals:List V->List Value->Prop:=Paired RelV
theorem Vals.length{xs:List V}{us:List Value}(r:Vals xs us):xs.length=us.length:=Paired.length r
theorem Vals.get:∀{xs:List V} {us:List Value} {i:Nat} {x:V},Vals xs us->xs[i]?=some x->∃u,us[i]?=some u/\RelV x u
  |_,_,_,_, .nil,e=>by simp at e
  |_,_,0,_, .cons r _,e=>by simp at e;subst e;exact⟨_,rfl,r⟩
  | _, _, i + 1, x, .cons _ t, e => by
    obtain⟨u,h1,h2⟩:=Vals.get (i:=i) (x:=x) t (by simpa using e)
    exact⟨u,by simpa using h1,h2⟩
theorem Vals.set{x:V}{u:Value}(r:RelV x u):∀{xs:List V} {us:List Value} (i:Nat),Vals xs us->Vals (xs.set i x) (us.set i u)
 |_,_,_, .nil=> .nil
 |_,_,0, .cons _ t=> .cons r t
 |_,_,i+1, .cons q t=> .cons q (Vals.set r i t)
theorem Vals.append:∀{xs ys:List V} {us ws:List Value},Vals xs us->Vals ys ws->Vals (xs++ys) (us++ws)
 |_,_,_,_, .nil,s=>s
 |_,_,_,_, .cons r t,s=> .cons r (Vals.append t s)
theorem Vals.take:∀{xs:List V} {us:List Value} (n:Nat),Vals xs us->Vals (xs.take n) (us.take n)
 |_,_,0,_=> .nil
 |_,_,_+1, .nil=> .nil
 |_,_,n+1, .cons r t=> .cons r (Vals.take n t)
theorem Vals.drop:∀{xs:List V} {us:List Value} (n:Nat),Vals xs us->Vals (xs.drop n) (us.drop n)
 |_,_,0,r=>r
 |_,_,_+1, .nil=> .nil
 |_,_,n+1, .cons _ t=>Vals.drop n t
def iY:Option V->Option Value->Prop
 |some v,some u=>RelV v u
 |none,none=>True
 |_,_=>False
def KV{κ:Type}:List (κ×V)->List (κ×Value)->Prop:=Paired fun(p:κ×V) (q:κ×Value)=>p.1=q.1/\RelV p.2 q.2
def kV:Key->V
 | .inl i=> .int i
 | .inr x=> .str x
inductive HO where
  |lst (xs:List V)
  |tup (xs:List V)
  |dK (kvs:List (Key×V))|dT (kvs:List (List Key×V))
  |set (S:Int->Bool) (n:Nat)
  |ins (C dx:Addr) (fs:List (Str×V))
  |own (x:Addr)
  |xd (fs:List (Str×V))
  |met (f x:Addr)
  |mq (lo hi:Int)
  |bR (o:Obj) (u:HO)
  |nH (ps:Array Value)
  |ext (φ:Heap->Prop)
abbrev Hp:=Addr->Option HO
def upd(H:Hp)(a:Addr)(o:HO):Hp:=fun b=>if b=a then some o else H b
theorem aY{H:Hp}{a:Addr}{o:HO}:upd H a o a=some o:=by unfold upd;rw[if_pos rfl]
theorem aB{H:Hp}{a b:Addr}{o:HO}(h:b≠a):upd H a o b=H b:=by unfold upd;rw[if_neg h]
theorem zX{H:Hp}{a:Addr}{o u:HO}:upd (upd H a o) a u=upd H a u:=by
 funext b;unfold upd;split<;>rfl
theorem ig{H:Hp}{a b:Addr}{o:HO}(h:H a=some o)(h':H b=none):a≠b:=by
 intro e;subst e;rw[h] at h';cases h'
section
variable(P:Program)(w:World)
def cD(H:Hp)(h:Heap)(a:Addr):HO->Prop
 | .lst xs=>xs.length<=sizeLine/\∃(its:List Value) (n:Nat),Vals xs its/\h.get? a=some {cls:= .type "list",data:= .seq its.toArray n}
 | .tup xs=>xs.length<=sizeLine/\∃its:List Value,Vals xs its/\IsTup h a its.toArray
 | .dK kvs=>kvs.length<=sizeLine/\(a==sysModules)=false/\∃vs,KV kvs vs/\h.DictOf (dX P w) a vs
 | .dT kvs => kvs.length <= sizeLine /\ (a == sysModules) = false /\ ∃ xs : List (List Key × Addr × Value),
   Paired (fun(p:List Key×V) (q:List Key×Addr×Value)=>p.1=q.1/\H q.2.1=some (.tup (p.1.map kV))/\RelV p.2 q.2.2) kvs xs/\
   ∃o es ep,h.get? a=some o/\o.ExactDict/\o.data= .dict es ep/\es.toList=xs.map (entryOfKey (tupleKind (dX P w)))/\(xs.map (·.1)).Nodup
 | .set S n=>h.SetOf (intKind P w) a S n
 | .ins C dx fs => H dx = some (.own a) /\ fs.length <= 1000 /\ dx ≠ a /\ h.get? a = some (PySem.W.instObj C dx) /\
   ∃mA,h.Ns1 dx mA/\(∀f,iY (fs.lookup f) (mA f))/\PySem.Within mA (fs.map (·.1))
 | .own _=>∃o,h.get? a=some o
 | .xd fs=>∃mA,h.Ns1 a mA/\∀f,iY (fs.lookup f) (mA f)
 | .mq lo hi=>∃t u v,h.get? a=some {cls:= .type "range",data:= .fields #[.int lo t, .int hi u, .int 1 v]}
 | .bR o u=>h.get? a=some o/\cD H h a u
 | .nH ps=>h.get? a=some {cls:= .none,data:= .fields ps}
 | .met f x=>h.get? a=some (PySem.W.methodObj (.ref f) (.ref x))
 | .ext φ=>φ h/\(∃o,h.get? a=some o)/\∀h1 h2:Heap,φ h1->(∀o,h1.get? a=some o->h2.get? a=some o)->φ h2
def dD(H:Hp)(h:Heap):Prop:=∀a o,H a=some o->cD P w H h a o
end
section
variable{P:Program}{w:World}{H H':Hp}{h h':Heap}{a:Addr}{o:HO}
theorem cD.lt(x:cD P w H h a o):a<h.objs.size:=by
 cases o with
 |lst xs=>obtain⟨_,_,_,_,e⟩:=x;exact bG e
 |tup xs=>obtain⟨_,_,_,p⟩:=x;exact p.lt
 |dK kvs=>obtain⟨_,_,_,_,o,_,_,e,_⟩:=x;exact bG e
 |dT kvs=>obtain⟨_,_,_,_,o,_,_,e,_⟩:=x;exact bG e
 |set S n=>obtain⟨o,_,_,_,e,_⟩:=x;exact bG e
 |ins C dx fs=>obtain⟨_,_,_,e,_⟩:=x;exact bG e
 |own y=>obtain⟨_,e⟩:=x;exact bG e
 |xd fs=>obtain⟨_,⟨_,_,_,e,_⟩,_⟩:=x;exact bG e
 |mq lo hi=>obtain⟨_,_,_,e⟩:=x;exact bG e
 |bR ob u=>obtain⟨e,_⟩:=x;exact bG e
 |nH ps=>exact bG (show h.get? a=some _ from x)
 |met f y=>exact bG (show h.get? a=some _ from x)
 |ext φ=>obtain⟨_,⟨_,e⟩,_⟩:=x;exact bG e
theorem Paired.J1{α β:Type}{F G:α->β->Prop}:∀{l₁:List α} {l₂:List β},Paired F l₁ l₂->(∀a b,F a b->G a b)->Paired G l₁ l₂
 |_,_, .nil,_=> .nil
 |_,_, .cons r t,f=> .cons (f _ _ r) (Paired.J1 t f)
theorem cD.stay(x:cD P w H h a o)(k:∀b u,(b=a\/H b=some (.own a))->h.get? b=some u->h'.get? b=some u)
    (ho:∀b,H b=some (.own a)->H' b=some (.own a)) (ht:∀b xs,H b=some (.tup xs)->H' b=some (.tup xs)):cD P w H' h' a o:=by
  induction o with
  |lst xs=>obtain⟨z,its,n,r,e⟩:=x;exact⟨z,its,n,r,k _ _ (.inl rfl) e⟩
  |tup xs=>obtain⟨z,its,r,ob,e,c⟩:=x;exact⟨z,its,r,ob,k _ _ (.inl rfl) e,c⟩
  |dK kvs=>obtain⟨z,y,vs,r,ob,es,ep,e,c⟩:=x;exact⟨z,y,vs,r,ob,es,ep,k _ _ (.inl rfl) e,c⟩
  | dT kvs =>
    obtain⟨z,y,xs,r,ob,es,ep,e,c⟩:=x
    exact⟨z,y,xs,Paired.J1 r fun p q z=>⟨z.1,ht _ _ z.2.1,z.2.2⟩,ob,es,ep,k _ _ (.inl rfl) e,c⟩
  |set S n=>obtain⟨ob,es,ep,t,e,c⟩:=x;exact⟨ob,es,ep,t,k _ _ (.inl rfl) e,c⟩
  | ins C dx fs =>
    obtain⟨d,z,ne,e,mA,⟨od,es,ep,e2,c⟩,r⟩:=x
    exact⟨ho _ d,z,ne,k _ _ (.inl rfl) e,mA,⟨od,es,ep,k _ _ (.inr d) e2,c⟩,r⟩
  |own y=>obtain⟨ob,e⟩:=x;exact⟨ob,k _ _ (.inl rfl) e⟩
  |xd fs=>obtain⟨mA,⟨od,es,ep,e,c⟩,r⟩:=x;exact⟨mA,⟨od,es,ep,k _ _ (.inl rfl) e,c⟩,r⟩
  |mq lo hi=>obtain⟨t,u,v,e⟩:=x;exact⟨t,u,v,k _ _ (.inl rfl) e⟩
  |bR ob u ih=>obtain⟨e,q⟩:=x;exact⟨k _ _ (.inl rfl) e,ih q⟩
  | nH ps =>
    have e:h.get? a=some {cls:= .none,data:= .fields ps}:=x
    show h'.get? a=some {cls:= .none,data:= .fields ps}
    exact k a _ (.inl rfl) e
  | met f y =>
    have e:h.get? a=some (PySem.W.methodObj (.ref f) (.ref y)):=x
    show h'.get? a=some (PySem.W.methodObj (.ref f) (.ref y))
    exact k a _ (.inl rfl) e
  |ext φ=>obtain⟨p,⟨o,e⟩,st⟩:=x;exact⟨st _ _ p fun o q=>k _ _ (.inl rfl) q,⟨o,k _ _ (.inl rfl) e⟩,st⟩
theorem dD.lt(x:dD P w H h)(e:H a=some o):a<h.objs.size:=(x a o e).lt
theorem dD.fresh(x:dD P w H h)(e:h.objs.size<=a):H a=none:=by
 cases q:H a with
 |none=>rfl
 |some u=>exact absurd (eg (x.lt q) e) (g5 _)
theorem dD.kept(x:dD P w H h)(k:∀b u,h.get? b=some u->h'.get? b=some u):dD P w H h':=fun a o e=>
 (x a o e).stay (fun b u _ q=>k b u q) (fun _ q=>q) fun _ _ q=>q
theorem dD.laid(x:dD P w H h)(k:∀b u,h.get? b=some u->h'.get? b=some u)(hp:h.objs.size<=a)(new:cD P w (upd H a o) h' a o):dD P w (upd H a o) h':=fun b u e=>by
 have hn:=x.fresh hp
 by_cases hb:b=a
 ·subst hb;rw[aY] at e;cases e;exact new
 ·rw[aB hb] at e
  exact(x b u e).stay (fun c v _ q=>k c v q) (fun c q=>by rw[aB (ig q hn)];exact q) fun c xs q=>by rw[aB (ig q hn)];exact q
end
def Rd(H:Hp)(a:Addr)(u:HO):Prop:=H a=some u\/∃o,H a=some (.bR o u)
theorem Rd.ok{P:Program}{w:World}{H:Hp}{h:Heap}{a:Addr}{u:HO}(r:Rd H a u)(x:dD P w H h):cD P w H h a u:=by
 rcases r with r|⟨o,r⟩
 ·exact x a u r
 ·obtain⟨_,q⟩:=x a _ r
  exact q
def sq:Option HO->Prop
 |some (.lst _)=>True
 |some (.dK _)=>True
 |some (.dT _)=>True
 |some (.set _ _)=>True
 |some (.ins _ _ _)=>True
 |some (.ext _)=>True
 |_=>False
section
variable{P:Program}{w:World}{H:Hp}{h h':Heap}{x e:Addr}{o':HO}
theorem dD.write(ok:dD P w H h)(mu:sq (H x))(he:e=x\/H e=some (.own x))(k:∀b u,b≠e->h.get? b=some u->h'.get? b=some u)(qo:∃u,h'.get? e=some u)
  (new:cD P w (upd H x o') h' x o'):dD P w (upd H x o') h':=fun b u q=>by
 have G2:∀c y,H c=some (.own y)->c≠x:=fun c y r z=>by subst z;rw[r] at mu;exact mu
 have Pz:∀c xs,H c=some (.tup xs)->c≠x:=fun c xs r z=>by subst z;rw[r] at mu;exact mu
 by_cases hb:b=x
 ·subst hb;rw[aY] at q;cases q;exact new
 ·rw[aB hb] at q
  by_cases oA:b=e
  ·have q':H b=some (.own x):=by
    rcases he with z|z
    ·exact absurd (oA.trans z) hb
    ·rw[oA];exact z
   rw[q] at q';cases q'
   obtain⟨v,hv⟩:=qo
   exact⟨v,by rw[oA];exact hv⟩
  ·refine(ok b u q).stay (fun c v hc r=>k c v ?_ r) (fun c r=>by rw[aB (G2 c b r)];exact r) fun c xs r=>by rw[aB (Pz c xs r)];exact r
   rcases hc with rfl|hc
   ·exact oA
   ·rintro rfl
    rcases he with z|z
    ·exact G2 c b hc z
    ·rw[hc] at z;cases z;exact hb rfl
end
structure Un(fs ex:List Addr)(H H':Hp)(h h':Heap):Prop where
 keep:∀b o,h.get? b=some o->H b=none->b∉fs->b∉ex->h'.get? b=some o
 slot:∀b o,h.get? b=some o->H b=none->b∈fs->b∉ex->∃sl,h'.get? b=some {o with slots:=sl}
 free:∀b o,h.get? b=some o->H b=none->b∉ex->H' b=none
 there:∀b o,h.get? b=some o->b∉ex->∃o',h'.get? b=some o'
 tups:∀b xs,H b=some (.tup xs)->H' b=some (.tup xs)
 ko:∀b o u,H b=some (.bR o u)->H' b=some (.bR o u)
 lS:∀b ps,H b=some (.nH ps)->∃more,H' b=some (.nH (ps++more))
section
variable{fs fs' ex ex':List Addr}{H H1 H2:Hp}{h h1 h2 h':Heap}{a x e:Addr}{o:HO}
theorem Un.any(u:Un fs ex H H1 h h1){b:Addr}{ob:Obj}(q:h.get? b=some ob)(n:H b=none)(hx:b∉ex):∃sl,h1.get? b=some {ob with slots:=sl}:=by
 by_cases hb:b∈fs
 ·exact u.slot b ob q n hb hx
 ·exact⟨ob.slots,u.keep b ob q n hb hx⟩
theorem Un.kept(k:∀b u,h.get? b=some u->h'.get? b=some u):Un fs ex H H h h':=
 ⟨fun b ob q _ _ _=>k b ob q,fun b ob q _ _ _=>⟨ob.slots,k b ob q⟩,fun _ _ _ n _=>n,fun b ob q _=>⟨ob,k b ob q⟩,fun _ _ q=>q,fun _ _ _ q=>q,fun _ ps q=>⟨#[],by rw[q];simp⟩⟩
theorem Un.refl:Un fs ex H H h h:=Un.kept fun _ _ q=>q
theorem Un.laid(k:∀b u,h.get? b=some u->h'.get? b=some u)(hp:h.objs.size<=a)(hn:H a=none):Un fs ex H (upd H a o) h h' where
 keep:=fun b u q _ _ _=>k b u q
 slot:=fun b u q _ _ _=>⟨u.slots,k b u q⟩
 free:=fun b u q n _=>by rw[aB (dW (eg (bG q) hp))];exact n
 there:=fun b u q _=>⟨u,k b u q⟩
 tups:=fun b xs q=>by rw[aB (ig q hn)];exact q
 ko:=fun b u xs q=>by rw[aB (ig q hn)];exact q
 lS:=fun b ps q=>⟨#[],by rw[aB (ig q hn),q];simp⟩
theorem Un.write(mu:sq (H x))(he:e=x\/H e=some (.own x))(k:∀b u,b≠e->h.get? b=some u->h'.get? b=some u)(qo:∃u,h'.get? e=some u):Un fs ex H (upd H x o) h h':=by
 have hx:∀b,H b=none->b≠x:=fun b n z=>by subst z;rw[n] at mu;exact mu
 have hb:∀b,H b=none->b≠e:=fun b n z=>by
  subst z
  rcases he with r|r
  ·exact hx b n r
  ·rw[n] at r;cases r
 have hm:∀b u,H b=some u->¬sq (some u)->b≠x:=fun b u q nm z=>by subst z;rw[q] at mu;exact nm mu
 refine⟨fun b u q n _ _=>k b u (hb b n) q,fun b u q n _ _=>⟨u.slots,k b u (hb b n) q⟩,fun b u q n _=>by rw[aB (hx b n)];exact n,fun b u q _=>?_,
  fun b xs q=>by rw[aB (hm b _ q fun z=>z)];exact q,fun b u xs q=>by rw[aB (hm b _ q fun z=>z)];exact q,fun b ps q=>⟨#[],by rw[aB (hm b _ q fun z=>z),q];simp⟩⟩
 by_cases oA:b=e
 ·subst oA;exact qo
 ·exact⟨u,k b u oA q⟩
end
def vF(h:Heap)(H:Hp):List Addr:=(List.range h.objs.size).filter fun a=>(H a).isSome
def l9(h:Heap)(H:Hp):Heap:=PySem.W.hideAll h (vF h H)
theorem Ue(h:Heap)(H:Hp):(l9 h H).objs.size=h.objs.size:=PySem.W.hideAll_size _ _
theorem XH{h:Heap}{H:Hp}{b:Addr}{o:Obj}(e:h.get? b=some o)(n:H b=none):(l9 h H).get? b=some o:=
 PySem.W.hideAll_get _ e fun hm=>by
  have q:(H b).isSome=true:=(iP.mp hm).2
  rw[n] at q;simp at q
theorem Qo{h:Heap}{H:Hp}{b:Addr}{o:Obj}(e:(l9 h H).get? b=some o):h.get? b=some o/\H b=none:=by
  have e':h.get? b=some o:=PySem.W.of_hideAll (vF h H) e
  refine⟨e',?_⟩
  cases q:H b with
  |none=>rfl
  | some x =>
    have hm:b∈vF h H:=iP.mpr ⟨dS.mpr (bG e'),by simp[q]⟩
    have z:(l9 h H).get? b=none:=PySem.W.hideAll_none (vF h H) hm
    rw[z] at e;cases e
def Wu(g h:Heap)(L:Addr):List (Addr×Obj):=(List.range h.objs.size).filterMap fun a=>if a=L\/(g.get? a).isSome=true then none else(h.get? a).map fun o=>(a,o)
def rest(g h:Heap)(L d:Addr):List (Addr×Obj):=(Wu g h L).filter fun p=>decide (p.1≠d)
structure Mod(K:PySem.W.Frag)(mg:Str->Option Value)(base:Heap):Prop where
 rH:K.In base
 glob:base.Ns mainGlobals mg
 blt:∃mb,base.Ns builtinsNs mb/\∀x:Str,x≠"__name__" ->mb x=bootBuiltins x
 nolimit:base.NoLimit
structure Cx where
 prog:Program
 w:World
 K:PySem.W.Frag
 mg:Str->Option Value
 base:Heap
 A:Around
 N:List Str
 s₀:Shared
 H₀:Hp
 env:Env
 outer:List Env
 stack:List Env
 ex:List Addr
 fn:Str->Bool
 calm:Bool
 pn:List (Addr×Obj)
 xe:Value->Shared->Prop
def frs(l:List Env):List Addr:=l.filterMap (·.frame)
abbrev Cx.fs(X:Cx):List Addr:=frs X.outer
def Bb(sc:Scope)(x:Str):Prop:=sc.names.lookup x=some .local\/sc.names.lookup x=some .cell\/sc.names.lookup x=some .free
def Loc(sc:Scope)(x:Str):Prop:=sc.names.lookup x=some .local\/sc.names.lookup x=some .cell
def Look(env:Env)(h:Heap)(m:Str->Option Value)(x:Str)(u:Value):Prop:=
 (env.kindOf x=some .local/\m x=some u)\/((env.kindOf x=some .cell\/env.kindOf x=some .free)/\∃c,env.cells.lookup x=some c/\h.IsCell c (some u))
structure Cx.Ok(X:Cx):Prop where
 mod:Mod X.K X.mg X.base
 kind:X.env.scope.kind= .function
 glob:X.env.globals=mainGlobals
 blt:X.env.builtins=builtinsNs
 above:X.s₀.heap.objs.size<=X.env.locals
 inj:∀x y c,X.env.cells.lookup x=some c->X.env.cells.lookup y=some c->x=y
 has:∀x,(X.env.kindOf x=some .cell\/X.env.kindOf x=some .free)->∃c,X.env.cells.lookup x=some c
 rm:∀x c,X.fn x=true->X.env.cells.lookup x=some c->X.s₀.heap.objs.size<=c
 hd:X.calm=true->X.A.handled=none
 frames:X.A.frames=some X.stack
 stk:X.stack=X.outer\/(X.stack=X.env::X.outer/\X.env.frame=some X.env.locals)
 uK:∀b∈X.ex,b≠X.env.locals/\∀x c,X.env.cells.lookup x=some c->c≠b
 bs:∀b o,X.base.get? b=some o->X.s₀.heap.get? b=some o/\X.H₀ b=none
 mh:X.base.objs.size<=X.s₀.heap.objs.size
 rz:∀b o,X.base.get? b=some o->b∉X.ex
 sP:∀b∈X.ex,b∉X.fs
 jD:X.s₀.heap.FunFrames X.base X.outer
 nQ:∀b∈X.fs,X.H₀ b=none
structure Inv(X:Cx)(pins:List (Addr×Obj))(σ:List (Option V))(H:Hp)(s:Shared):Prop where
 ok:X.Ok
 os:s.os=X.s₀.os
 bare:AllBare s.gens
 base:Un X.fs X.ex X.H₀ H X.s₀.heap s.heap
 loc:∃m,s.heap.Ns X.env.locals m/\∀(i:Nat) (x:Str) (v:V),X.N[i]?=some x->σ[i]?=some (some v)->Bb X.env.scope x->∃u,RelV v u/\Look X.env s.heap m x u
 cell:∀x c,X.env.cells.lookup x=some c->∃v,s.heap.IsCell c v
 free:H X.env.locals=none
 jF:∀x c,X.env.cells.lookup x=some c->H c=none
 pin:∀p∈X.pn++pins,s.heap.get? p.1=some p.2/\H p.1=none/\p.1≠X.env.locals/\p.1∉X.fs/\∀v,p.2.data≠ .cell v
 hok:dD X.prog X.w H s.heap
 len:σ.length=X.N.length
section
variable{X:Cx}{pins:List (Addr×Obj)}{σ:List (Option V)}{H H':Hp}{s:Shared}{h':Heap}
theorem Cx.Ok.RN(ok:X.Ok){b:Addr}{o:Obj}(e:X.base.get? b=some o):b∉X.fs:=fun hb=>by
 have:=(ok.jD.mem hb).1
 rw[e] at this;cases this
theorem Inv.bs(I:Inv X pins σ H s):∀b o,X.base.get? b=some o->s.heap.get? b=some o/\H b=none:=fun b o e=>
 ⟨I.base.keep b o (I.ok.bs b o e).1 (I.ok.bs b o e).2 (I.ok.RN e) (I.ok.rz b o e),I.base.free b o (I.ok.bs b o e).1 (I.ok.bs b o e).2 (I.ok.rz b o e)⟩
theorem Inv.bk(I:Inv X pins σ H s):∀b o,X.base.get? b=some o->s.heap.get? b=some o:=fun b o e=>(I.bs b o e).1
theorem Inv.mod(I:Inv X pins σ H s):Mod X.K X.mg X.base:=I.ok.mod
theorem Inv.eu(I:Inv X pins σ H s):X.K.In s.heap:=I.ok.mod.rH.keeps I.bk
theorem Inv.lt(I:Inv X pins σ H s):X.env.locals<s.heap.objs.size:=let ⟨_,hn,_⟩:=I.loc;hn.lt
theorem Inv.sz(I:Inv X pins σ H s):X.s₀.heap.objs.size<=s.heap.objs.size:=cX I.ok.above (pY I.lt)
theorem Inv.Qt(I:Inv X pins σ H s){a:Addr}(h:s.heap.objs.size<=a):a∉X.fs:=fun hb=>by
 obtain⟨_,o,ho,_⟩:=I.ok.jD.mem hb
 exact absurd (eg (bG ho) (cX I.sz h)) (g5 _)
theorem Inv.oO(I:Inv X pins σ H s):∀x c,X.env.cells.lookup x=some c->c≠X.env.locals:=fun x c e z=>by
 obtain⟨v,o,ho,hd⟩:=I.cell x c e
 obtain⟨m,⟨o',es,ep,ho',hd',_⟩,_⟩:=I.loc
 rw[z,ho'] at ho;cases ho;rw[hd'] at hd;cases hd
theorem Inv.jD(I:Inv X pins σ H s):s.heap.FunFrames X.base X.outer:=by
  have all:∀(l:List Env),(∀b∈frs l,b∈X.fs)->X.s₀.heap.FunFrames X.base l->s.heap.FunFrames X.base l:=by
    intro l
    induction l with
    |nil=>intro _ _;trivial
    | cons env r ih =>
      intro hs hl
      obtain⟨hk,⟨L,o,hf,hn,ho,hd⟩,hr⟩:=hl
      have hL:L∈X.fs:=hs L (by unfold frs;rw[AS,hf];exact dj)
      obtain⟨sl,e⟩:=I.base.slot L o ho (I.ok.nQ L hL) hL fun z=>I.ok.sP L z hL
      exact⟨hk,⟨L,_,hf,hn,e,hd⟩,ih (fun b hb=>hs b (by unfold frs;rw[AS,hf];exact bY _ hb)) hr⟩
  exact all X.outer (fun _ hb=>hb) I.ok.jD
theorem Inv.stack(I:Inv X pins σ H s):s.heap.FunFrames X.base X.stack:=by
 rcases I.ok.stk with e|⟨e,hf⟩
 ·rw[e];exact I.jD
 ·rw[e]
  obtain⟨m,hn,_⟩:=I.loc
  refine .cons (by rw[I.ok.kind];decide) hf hn ?_ I.jD
  exact Heap.get?_none_of_le (cX I.ok.mh I.ok.above)
theorem Inv.DK(I:Inv X pins σ H s):∀b∈frs X.stack,b∈X.env.locals::X.fs:=fun b hb=>by
 rcases I.ok.stk with e|⟨e,hf⟩
 ·rw[e] at hb;exact bY _ hb
 ·rw[e] at hb
  unfold frs at hb
  rw[AS,hf] at hb
  exact hb
theorem Inv.FA(I:Inv X pins σ H s):∀b∈frs X.stack,H b=none:=fun b hb=>by
 rcases bq.mp (I.DK b hb) with e|hb
 ·rw[e];exact I.free
 ·obtain⟨_,o,ho,_⟩:=I.ok.jD.mem hb
  exact I.base.free b o ho (I.ok.nQ b hb) fun z=>I.ok.sP b z hb
theorem Inv.step{g':Array GenState}{t':Nat}{d':Drawn}{ch:List Addr}(I:Inv X pins σ H s)
  (hch:∀b∈ch,(b∈X.ex\/X.s₀.heap.objs.size<=b)/\b≠X.env.locals/\(∀x c,X.env.cells.lookup x=some c->c≠b)/\∀p∈X.pn++pins,p.1≠b)
  (keep:∀b o,b≠X.env.locals->b∉X.fs->b∉ch->s.heap.get? b=some o->H b=none->h'.get? b=some o)
  (slot:∀b o,b≠X.env.locals->b∈X.fs->b∉ch->s.heap.get? b=some o->H b=none->∃sl,h'.get? b=some {o with slots:=sl}) (free:∀b o,b∉ch->s.heap.get? b=some o->H b=none->H' b=none)
  (there:∀b o,b∉ch->s.heap.get? b=some o->∃o',h'.get? b=some o')
  (tups:∀b xs,H b=some (.tup xs)->H' b=some (.tup xs)) (ko:∀b o u,H b=some (.bR o u)->H' b=some (.bR o u)) (lS:∀b ps,H b=some (.nH ps)->∃more,H' b=some (.nH (ps++more)))
  (ns:∀m,s.heap.Ns X.env.locals m->h'.Ns X.env.locals m) (hok:dD X.prog X.w H' h') (hg:AllBare g'):
  Inv X pins σ H' {s with heap:=h',gens:=g',drawn:=d',toks:=t'}:=by
 have Jm:∀b o,X.s₀.heap.get? b=some o->b≠X.env.locals:=fun b o e=>dW (eg (bG e) I.ok.above)
 have vU:∀b o,X.s₀.heap.get? b=some o->b∉X.ex->b∉ch:=fun b o e hx hb=>by
  rcases(hch b hb).1 with z|z
  ·exact hx z
  ·exact absurd (eg (bG e) z) (g5 _)
 have cellK:∀x c,X.env.cells.lookup x=some c->∀v,s.heap.IsCell c v->h'.IsCell c v:=fun x c e v ⟨o,ho,hd⟩=>by
  have rK:c∉ch:=fun z=>(hch c z).2.2.1 x c e rfl
  by_cases hc:c∈X.fs
  ·obtain⟨sl,q⟩:=slot c o (I.oO x c e) hc rK ho (I.jF x c e)
   exact⟨_,q,hd⟩
  ·exact⟨o,keep c o (I.oO x c e) hc rK ho (I.jF x c e),hd⟩
 refine⟨I.ok,I.os,hg,⟨fun b o e n hb hx=>?_,fun b o e n hb hx=>?_,fun b o e n hx=>?_,fun b o e hx=>?_,fun b xs e=>tups b xs (I.base.tups b xs e),fun b o xs e=>ko b o xs (I.base.ko b o xs e),fun b ps e=>?_⟩,?_,fun x c e=>?_,?_,fun x c e=>?_,fun p hp=>?_,hok,I.len⟩
 ·exact keep b o (Jm b o e) hb (vU b o e hx) (I.base.keep b o e n hb hx) (I.base.free b o e n hx)
 ·obtain⟨sl,e1⟩:=I.base.slot b o e n hb hx
  obtain⟨R6,e2⟩:=slot b _ (Jm b o e) hb (vU b o e hx) e1 (I.base.free b o e n hx)
  exact⟨R6,e2⟩
 ·obtain⟨o',e1⟩:=I.base.there b o e hx
  exact free b o' (vU b o e hx) e1 (I.base.free b o e n hx)
 ·obtain⟨o',e1⟩:=I.base.there b o e hx
  exact there b o' (vU b o e hx) e1
 ·obtain⟨m1,e1⟩:=I.base.lS b ps e
  obtain⟨m2,e2⟩:=lS b _ e1
  exact⟨m1++m2,by rw[e2,Array.append_assoc]⟩
 ·obtain⟨m,hn,hl⟩:=I.loc
  refine⟨m,ns m hn,fun i x v e1 e2 e3=>?_⟩
  obtain⟨u,r,l⟩:=hl i x v e1 e2 e3
  refine⟨u,r,?_⟩
  rcases l with l|⟨k,c,e,z⟩
  ·exact .inl l
  ·exact .inr ⟨k,c,e,cellK x c e _ z⟩
 ·obtain⟨v,z⟩:=I.cell x c e
  exact⟨v,cellK x c e v z⟩
 ·obtain⟨m,⟨o,_,_,ho,_⟩,_⟩:=I.loc
  exact free _ o (fun z=>(hch _ z).2.1 rfl) ho I.free
 ·obtain⟨v,o,ho,hd⟩:=I.cell x c e
  exact free c o (fun z=>(hch c z).2.2.1 x c e rfl) ho (I.jF x c e)
 ·obtain⟨e,n,ne,nf,d⟩:=I.pin p hp
  have rK:p.1∉ch:=fun z=>(hch p.1 z).2.2.2 p hp rfl
  exact⟨keep p.1 p.2 ne nf rK e n,free p.1 p.2 rK e n,ne,nf,d⟩
theorem Inv.un{t':Nat}(I:Inv X pins σ H s)(u:Un X.fs [] H H' s.heap h')(hok:dD X.prog X.w H' h'):Inv X pins σ H' {s with heap:=h',toks:=t'}:=by
 obtain⟨m,⟨o,es,ep,ho,r⟩,_⟩:=id I.loc
 obtain⟨sl,hL⟩:=u.any ho I.free (by simp)
 exact I.step (g':=s.gens) (d':=s.drawn) (ch:=[]) (fun _ z=>nomatch z) (fun b o _ hb _ e n=>u.keep b o e n hb (by simp)) (fun b o _ hb _ e n=>u.slot b o e n hb (by simp)) (fun b o _ e n=>u.free b o e n (by simp)) (fun b o _ e=>u.there b o e (by simp)) u.tups u.ko u.lS (fun m' hm=>by
  obtain⟨o',es',zj,ho',r'⟩:=hm
  rw[ho] at ho';cases ho'
  exact⟨_,es',zj,hL,r'⟩) hok I.bare
theorem Inv.call{g':Array GenState}{t':Nat}{d':Drawn}{ch:List Addr}(I:Inv X pins σ H s)(u:Un (frs X.stack) ch H H' s.heap h')(hok:dD X.prog X.w H' h')(hg:AllBare g')
  (hch:∀b∈ch,(b∈X.ex\/X.s₀.heap.objs.size<=b)/\b≠X.env.locals/\(∀x c,X.env.cells.lookup x=some c->c≠b)/\∀p∈X.pn++pins,p.1≠b):
  Inv X pins σ H' {s with heap:=h',gens:=g',drawn:=d',toks:=t'}:=by
 obtain⟨m,⟨o,es,ep,ho,r⟩,_⟩:=id I.loc
 obtain⟨sl,hL⟩:=u.any ho I.free fun z=>(hch _ z).2.1 rfl
 exact I.step (ch:=ch) hch (fun b o hL hb hc e n=>u.keep b o e n (fun z=>(bq.mp (I.DK b z)).elim hL hb) hc) (fun b o _ _ hc e n=>u.any e n hc) (fun b o hc e n=>u.free b o e n hc) (fun b o hc e=>u.there b o e hc) u.tups u.ko u.lS (fun m' hm=>by
  obtain⟨o',es',zj,ho',r'⟩:=hm
  rw[ho] at ho';cases ho'
  exact⟨_,es',zj,hL,r'⟩) hok hg
theorem Inv.turned{t':Nat}{it:Addr}(I:Inv X pins σ H s)(k:∀b o,b≠it->s.heap.get? b=some o->h'.get? b=some o)(hn:H it=none)(hL:it≠X.env.locals)
  (h1:it∈X.ex\/X.s₀.heap.objs.size<=it) (h2:∀x c,X.env.cells.lookup x=some c->c≠it) (h3:∀p∈X.pn++pins,p.1≠it):Inv X pins σ H {s with heap:=h',toks:=t'}:=by
 have Gr:∀b u,H b=some u->b≠it:=fun b u e z=>by rw[z,hn] at e;cases e
 refine I.step (g':=s.gens) (d':=s.drawn) (ch:=[it]) (fun b hb=>?_) (fun b o _ _ hc e _=>k b o (fun z=>hc (by simp[z])) e) (fun b o _ _ hc e _=>⟨o.slots,k b o (fun z=>hc (by simp[z])) e⟩) (fun _ _ _ _ n=>n)
  (fun b o hc e=>⟨o,k b o (fun z=>hc (by simp[z])) e⟩) (fun _ _ e=>e) (fun _ _ _ e=>e) (fun b ps e=>⟨#[],by rw[e];simp⟩) (fun m hm=>?_) (fun b u e=>?_) I.bare
 ·have e:b=it:=by simpa using hb
  subst e
  exact⟨h1,hL,h2,h3⟩
 ·obtain⟨o,es,ep,ho,r⟩:=hm
  exact⟨o,es,ep,k _ o (bx hL) ho,r⟩
 ·refine(I.hok b u e).stay (fun c v hc q=>k c v ?_ q) (fun _ q=>q) fun _ _ q=>q
  rcases hc with z|z
  ·rw[z];exact Gr b u e
  ·exact Gr c _ z
theorem Inv.tok(I:Inv X pins σ H s)(t:Nat):Inv X pins σ H {s with toks:=t}:=I.un (h':=s.heap) (t':=t) Un.refl I.hok
theorem Inv.kept{t':Nat}(I:Inv X pins σ H s)(k:∀b u,s.heap.get? b=some u->h'.get? b=some u):Inv X pins σ H {s with heap:=h',toks:=t'}:=I.un (Un.kept k) (I.hok.kept k)
theorem Inv.laid{a:Addr}{o:HO}{t':Nat}(I:Inv X pins σ H s)(k:∀b u,s.heap.get? b=some u->h'.get? b=some u)(hp:s.heap.objs.size<=a)(new:cD X.prog X.w (upd H a o) h' a o):
  Inv X pins σ (upd H a o) {s with heap:=h',toks:=t'}:=I.un (Un.laid k hp (I.hok.fresh hp)) (I.hok.laid k hp new)
theorem Inv.write{x e:Addr}{o:HO}{t':Nat}(I:Inv X pins σ H s)(mu:sq (H x))(he:e=x\/H e=some (.own x))(k:∀b u,b≠e->s.heap.get? b=some u->h'.get? b=some u)(qo:∃u,h'.get? e=some u)
  (new:cD X.prog X.w (upd H x o) h' x o):Inv X pins σ (upd H x o) {s with heap:=h',toks:=t'}:=I.un (Un.write mu he k qo) (I.hok.write mu he k qo new)
theorem Inv.G0{FG:List (Addr×Obj)}(I:Inv X pins σ H s)(h:∀p∈FG,s.heap.get? p.1=some p.2/\H p.1=none/\p.1≠X.env.locals/\p.1∉X.fs/\∀v,p.2.data≠ .cell v):Inv X FG σ H s:=
 ⟨I.ok,I.os,I.bare,I.base,I.loc,I.cell,I.free,I.jF,fun p hp=>(fJ.mp hp).elim (fun z=>I.pin p (kD _ z)) (h p),I.hok,I.len⟩
theorem HF{N:List Str}(hN:N.Nodup){i j:Nat}{x:Str}(a:N[i]?=some x)(b:N[j]?=some x):i=j:=by
 obtain⟨h1,e1⟩:=aP.mp a
 obtain⟨h2,e2⟩:=aP.mp b
 exact(List.getElem_inj hN).mp (e1.trans e2.symm)
theorem GZ{M:Model}{A:Around}{E:Value->Shared->Prop}{i:Nat}{x:Str}{v:V}{u:Value}{Q:Unit->Shared->Prop}(I:Inv X pins σ H s)(hN:X.N.Nodup)(hi:X.N[i]?=some x)(hx:Loc X.env.scope x)(r:RelV v u)
  (h:∀s',Inv X pins (σ.set i (some v)) H s'->(∃a,Heap.SameBut a s.heap s'.heap/\(a=X.env.locals\/X.env.cells.lookup x=some a))->Q () s') (hf:X.fn x=true\/X.env.scope.names.lookup x=some .local:=by first|exact .inl rfl|exact .inr rfl|assumption):wpAny M A (storeName X.env x u) Q E s:=by
 obtain⟨m,hn,hl⟩:=id I.loc
 have hcls:(X.env.scope.kind== .class||(X.env.scope.kind== .module && X.env.locals !=X.env.globals))=false:=by rw[I.ok.kind];rfl
 have Lf:i<σ.length:=by rw[I.len];exact(aP.mp hi).1
 have oO:=I.oO
 have tracked:∀{a:Addr} {h':Heap},(∃o,s.heap.get? a=some o/\H a=none)->Heap.SameBut a s.heap h'->dD X.prog X.w H h':=fun{a h'} ha hs b ob e=>by
  obtain⟨_,_,hfree⟩:=ha
  refine(I.hok b ob e).stay (fun c w' hc q=>(hs.2 c ?_).trans q) (fun _ q=>q) fun _ _ q=>q
  rintro rfl
  rcases hc with rfl|hc
  ·rw[hfree] at e;cases e
  ·rw[hfree] at hc;cases hc
 rcases hx with hk|hk
 ·refine wpAny_storeName_local hk hn (fun h' hn' hs=>?_) hcls
  obtain⟨oL,_,_,Mz,_⟩:=id hn
  refine h _ ⟨I.ok,I.os,I.bare,⟨fun b o e n hb hx=>?_,fun b o e n hb hx=>?_,I.base.free,fun b o e hx=>?_,I.base.tups,I.base.ko,I.base.lS⟩,⟨_,hn',fun j y v' e1 e2 e3=>?_⟩,fun y c e=>?_,I.free,I.jF,fun p hp=>?_,tracked ⟨oL,Mz,I.free⟩ hs,by simpa using I.len⟩ ⟨_,hs, .inl rfl⟩
  ·exact(hs.2 b (dW (eg (bG e) I.ok.above))).trans (I.base.keep b o e n hb hx)
  ·obtain⟨sl,e1⟩:=I.base.slot b o e n hb hx
   exact⟨sl,(hs.2 b (dW (eg (bG e) I.ok.above))).trans e1⟩
  ·obtain⟨o',e1⟩:=I.base.there b o e hx
   exact⟨o',(hs.2 b (dW (eg (bG e) I.ok.above))).trans e1⟩
  ·by_cases hj:j=i
   ·subst hj
    rw[hi] at e1;cases e1
    rw[dO Lf] at e2
    cases e2
    exact⟨u,r, .inl ⟨hk,by simp⟩⟩
   ·rw[bQ (bx hj)] at e2
    obtain⟨u',r',q⟩:=hl j y v' e1 e2 e3
    refine⟨u',r',?_⟩
    rcases q with ⟨k,e⟩|⟨k,c,e,z⟩
    ·refine .inl ⟨k,?_⟩
     have:y≠x:=fun e=>hj (HF hN e1 (e▸hi))
     simp[this,e]
    ·exact .inr ⟨k,c,e,z.sameBut hs (oO y c e)⟩
  ·obtain⟨w',z⟩:=I.cell y c e
   exact⟨w',z.sameBut hs (oO y c e)⟩
  ·obtain⟨e,n,ne,nf,d⟩:=I.pin p hp
   exact⟨(hs.2 p.1 ne).trans e,n,ne,nf,d⟩
 ·have hfn:X.fn x=true:=by
   rcases hf with z|z
   ·exact z
   ·rw[z] at hk;cases hk
  obtain⟨c,hc⟩:=I.ok.has x (.inl hk)
  obtain⟨w',z⟩:=I.cell x c hc
  refine wpAny_storeName_cell I.ok.kind hk hc z (fun h' hc' hs=>?_)
  obtain⟨oc,hoc,Mu⟩:=id z
  refine h {s with heap:=h'} ⟨I.ok,I.os,I.bare,⟨fun b o e n hb hx=>?_,fun b o e n hb hx=>?_,I.base.free,fun b o e hx=>?_,I.base.tups,I.base.ko,I.base.lS⟩,⟨m,hn.sameBut hs (bx (oO x c hc)),fun j y v' e1 e2 e3=>?_⟩,fun y c' e=>?_,I.free,I.jF,fun p hp=>?_,tracked ⟨oc,hoc,I.jF x c hc⟩ hs,by simpa using I.len⟩ ⟨c,hs, .inr hc⟩
  ·exact(hs.2 b (dW (eg (bG e) (I.ok.rm x c hfn hc)))).trans (I.base.keep b o e n hb hx)
  ·obtain⟨sl,e1⟩:=I.base.slot b o e n hb hx
   exact⟨sl,(hs.2 b (dW (eg (bG e) (I.ok.rm x c hfn hc)))).trans e1⟩
  ·obtain⟨o',e1⟩:=I.base.there b o e hx
   exact⟨o',(hs.2 b (dW (eg (bG e) (I.ok.rm x c hfn hc)))).trans e1⟩
  ·by_cases hj:j=i
   ·subst hj
    rw[hi] at e1;cases e1
    rw[dO Lf] at e2
    cases e2
    exact⟨u,r, .inr ⟨.inl hk,c,hc,hc'⟩⟩
   ·rw[bQ (bx hj)] at e2
    obtain⟨u',r',q⟩:=hl j y v' e1 e2 e3
    refine⟨u',r',?_⟩
    rcases q with q|⟨k,c',e,z'⟩
    ·exact .inl q
    ·refine .inr ⟨k,c',e,z'.sameBut hs ?_⟩
     rintro rfl
     exact hj (HF hN e1 (I.ok.inj _ _ _ e hc▸hi))
  ·by_cases hcc:c'=c
   ·subst hcc;exact⟨_,hc'⟩
   ·obtain⟨w2,z2⟩:=I.cell y c' e
    exact⟨w2,z2.sameBut hs hcc⟩
  ·obtain⟨e,n,ne,nf,d⟩:=I.pin p hp
   refine⟨(hs.2 p.1 ?_).trans e,n,ne,nf,d⟩
   intro q
   rw[q,hoc] at e
   have q':oc=p.2:=fN e
   exact d w' (by rw[<-q'];exact Mu)
theorem Iv{M:Model}{A:Around}{E:Value->Shared->Prop}{i:Nat}{x:Str}{v:V}{u:Value}{Q:Unit->Shared->Prop}(I:Inv X pins σ H s)(hN:X.N.Nodup)(hi:X.N[i]?=some x)(hx:Loc X.env.scope x)(r:RelV v u)
  (h:∀s',Inv X pins (σ.set i (some v)) H s'->Q () s') (hf:X.fn x=true\/X.env.scope.names.lookup x=some .local:=by first|exact .inl rfl|exact .inr rfl|assumption):wpAny M A (storeName X.env x u) Q E s:=
 GZ I hN hi hx r (fun s' I' _=>h s' I') hf
theorem Inv.U4{s':Shared}{ch:List Addr}(I:Inv X pins σ H s)(ho:s'.os=s.os)(u:Un (frs X.stack) ch H H' s.heap s'.heap)(hok:dD X.prog X.w H' s'.heap)(hg:AllBare s'.gens)
  (hch:∀b∈ch,(b∈X.ex\/X.s₀.heap.objs.size<=b)/\b≠X.env.locals/\(∀x c,X.env.cells.lookup x=some c->c≠b)/\∀p∈X.pn++pins,p.1≠b):Inv X pins σ H' s':=by
 obtain⟨h',g',d',t',o'⟩:=s'
 have e:o'=s.os:=ho
 subst e
 exact I.call (g':=g') (t':=t') (d':=d') u hok hg hch
end
abbrev XK:=Value->Option Addr->Hp->Prop
abbrev St:=List (Option V)
abbrev VK:=V->Hp->Prop
abbrev TE:=St->Hp->VK->Prop
abbrev TT:=St->Hp->(Bool->Hp->Prop)->Prop
abbrev TA:=St->Hp->(List V->Hp->Prop)->Prop
structure Ends where
 nx:St->Hp->Prop
 rt:VK
 bk:St->Hp->Prop:=fun _ _=>False
 ct:St->Hp->Prop:=fun _ _=>False
abbrev TS:=Ends->St->Hp->Prop
def EP(X:Cx)(pins:List (Addr×Obj))(σ:St)(Q:VK)(u:Value)(s':Shared):Prop:=∃v H',Inv X pins σ H' s'/\RelV v u/\Q v H'
def TP(X:Cx)(pins:List (Addr×Obj))(σ:St)(Q:Bool->Hp->Prop)(b:Bool)(s':Shared):Prop:=∃H',Inv X pins σ H' s'/\Q b H'
def AP(X:Cx)(pins:List (Addr×Obj))(σ:St)(Q:List V->Hp->Prop)(us:List Value)(s':Shared):Prop:=∃vs H',Inv X pins σ H' s'/\Vals vs us/\Q vs H'
def SP(X:Cx)(pins:List (Addr×Obj))(D:Ends)(f:Flow)(s':Shared):Prop:=
 match f with
 | .next=>∃σ' H',Inv X pins σ' H' s'/\D.nx σ' H'
 | .brk=>∃σ' H',Inv X pins σ' H' s'/\D.bk σ' H'
 | .cont=>∃σ' H',Inv X pins σ' H' s'/\D.ct σ' H'
 | .ret u=>∃v σ' H',Inv X pins σ' H' s'/\RelV v u/\D.rt v H'
def PE(X:Cx)(e:Expr)(t:TE):Prop:=
 ∀(pins:List (Addr×Obj)) (s:Shared) (σ:St) (H:Hp) (Q:VK),Inv X pins σ H s->t σ H Q->wpAny (model X.prog X.w) X.A (eval e X.env) (EP X pins σ Q) X.xe s
def PT(X:Cx)(e:Expr)(t:TT):Prop:=
 ∀(pins:List (Addr×Obj)) (s:Shared) (σ:St) (H:Hp) (Q:Bool->Hp->Prop),Inv X pins σ H s->t σ H Q->wpAny (model X.prog X.w) X.A (isTrue e X.env (eval e X.env)) (TP X pins σ Q) X.xe s
def PW(X:Cx)(e:Expr)(t:TT):Prop:=
 ∀(whole:Sem Value) (pins:List (Addr×Obj)) (s:Shared) (σ:St) (H:Hp) (Q:Bool->Hp->Prop),Inv X pins σ H s->t σ H Q->wpAny (model X.prog X.w) X.A (isTrue e X.env whole) (TP X pins σ Q) X.xe s
theorem PW.pt{X:Cx}{e:Expr}{t:TT}(h:PW X e t):PT X e t:=h _
def PA(X:Cx)(es:List Expr)(t:TA):Prop:=
 ∀(pos:Pos) (pins:List (Addr×Obj)) (s:Shared) (σ:St) (H:Hp) (Q:List V->Hp->Prop),Inv X pins σ H s->t σ H Q->wpAny (model X.prog X.w) X.A (spliced (backTo pos (starEach es X.env))) (AP X pins σ Q) X.xe s
def PS(X:Cx)(st:Stmt)(t:TS):Prop:=
 ∀(pins:List (Addr×Obj)) (s:Shared) (σ:St) (H:Hp) (D:Ends),Inv X pins σ H s->t D σ H->wpAny (model X.prog X.w) X.A (exec st X.env) (SP X pins D) X.xe s
def jm(X:Cx)(st:List Stmt)(t:TS):Prop:=
 ∀(pins:List (Addr×Obj)) (s:Shared) (σ:St) (H:Hp) (D:Ends),Inv X pins σ H s->t D σ H->wpAny (model X.prog X.w) X.A (execs st X.env) (SP X pins D) X.xe s
theorem aO{α:Type}{t:Sem α}{Q Q':α->Shared->Prop}{M:Model}{A:Around}{E:Value->Shared->Prop}{s:Shared}(h:wpAny M A t Q E s)(hQ:∀a s,Q a s->Q' a s):wpAny M A t Q' E s:=wpAny_mono h hQ fun _ _ x=>x
section
variable{X:Cx}
theorem bin{a b:Expr}{ta tb:TE}(ha:PE X a ta)(hb:PE X b tb){pins:List (Addr×Obj)}{s:Shared}{σ:St}{H:Hp}{R:V->V->Hp->Prop}(I:Inv X pins σ H s)(h:ta σ H fun x H1=>tb σ H1 fun y H2=>R x y H2)
  {α:Type} {Q:α->Shared->Prop} {f:Value->Value->Sem α}
  (hf:∀v u s2 x y H2,Inv X pins σ H2 s2->RelV x v->RelV y u->R x y H2->wpAny (model X.prog X.w) X.A (f v u) Q X.xe s2):
  wpAny (model X.prog X.w) X.A (eval a X.env) (fun v s₁=>wpAny (model X.prog X.w) X.A (eval b X.env) (fun u s₂=>wpAny (model X.prog X.w) X.A (f v u) Q X.xe s₂) X.xe s₁) X.xe s:=by
 refine aO (ha pins s σ H _ I h) fun v s1 ⟨x,H1,I1,r1,q1⟩=>?_
 refine aO (hb pins s1 σ H1 _ I1 q1) fun u s2 ⟨y,H2,I2,r2,q2⟩=>?_
 exact hf v u s2 x y H2 I2 r1 r2 q2
def dG(i:Nat):TE:=fun σ H Q=>∃v,σ[i]?=some (some v)/\Q v H
def tC(v:V):TE:=fun _ H Q=>Q v H
theorem XU{i:Nat}{x:Str}{pos:Pos}(hN:X.N[i]?=some x)(hv:Bb X.env.scope x)(hd:(x==("__debug__":Str))=false:=by decide)(hcd:(x==("__classdict__":Str))=false:=by decide):PE X (.Name x pos) (dG i):=by
 intro pins s σ H Q I h
 obtain⟨v,e,h⟩:=h
 obtain⟨m,hn,hl⟩:=I.loc
 obtain⟨u,r,l⟩:=hl i x v hN e hv
 have fin:EP X pins σ Q u s:=⟨v,H,I,r,h⟩
 rcases l with ⟨hk,hm⟩|⟨hk,c,hc,hcell⟩
 ·exact wpAny_Name (wpAny_loadName_local I.ok.kind hk hn hm fin) hd
 ·rcases hk with hk|hk
  ·exact wpAny_Name (wpAny_loadName_cell I.ok.kind hk hc hcell fin) hd
  ·exact wpAny_Name (wpAny_loadName_free I.ok.kind hk hc hcell fin hcd) hd
theorem aq{i j pos}:PE X (.Constant (.int i) j pos) (tC (.int i)):=fun _ _ _ H _ I h=>wpAny_Constant_int ⟨.int i,H,I.tok _,⟨_,rfl⟩,h⟩
theorem jX{b j pos}:PE X (.Constant (.bool b) j pos) (tC (.bl b)):=fun _ _ _ H _ I h=>Constant_bool ⟨.bl b,H,I,rfl,h⟩
theorem jB{j pos}:PE X (.Constant .none j pos) (tC .aL):=fun _ _ _ H _ I h=>Constant_none ⟨.aL,H,I,rfl,h⟩
theorem tW{x j pos}:PE X (.Constant (.str x) j pos) (tC (.str x)):=fun _ _ _ H _ I h=>Calls.Constant_str ⟨.str x,H,I.tok _,⟨_,rfl⟩,h⟩
def Gl(X:Cx)(x:Str):Prop:=X.env.kindOf x=some .globalImplicit
theorem E6{E:Value->Shared->Prop}{pins:List (Addr×Obj)}{s:Shared}{σ:St}{H:Hp}{x:Str}{u:Value}{pos:Pos}{Q:Value->Shared->Prop}(I:Inv X pins σ H s)(hg:Gl X x)(hm:X.mg x=some u)(h:Q u s)
  (hd:(x==("__debug__":Str))=false:=by decide):wpAny (model X.prog X.w) X.A (eval (.Name x pos) X.env) Q E s:=
 JX I.ok.kind hg (Calls.loadGlobal_global (by rw[I.ok.glob];exact I.mod.glob.keeps I.bk) hm h) hd
theorem lM{E:Value->Shared->Prop}{pins:List (Addr×Obj)}{s:Shared}{σ:St}{H:Hp}{x:Str}{u:Value}{pos:Pos}{Q:Value->Shared->Prop}(I:Inv X pins σ H s)(hg:Gl X x)(hm:X.mg x=none)(hv:bootBuiltins x=some u)(h:Q u s)
  (hn:x≠"__name__":=by decide) (hd:(x==("__debug__":Str))=false:=by decide):wpAny (model X.prog X.w) X.A (eval (.Name x pos) X.env) Q E s:=by
 obtain⟨mb,h1,h2⟩:=I.mod.blt
 exact JX I.ok.kind hg (Calls.loadGlobal_builtin (by rw[I.ok.glob];exact I.mod.glob.keeps I.bk) hm (by rw[I.ok.blt];exact h1.keeps I.bk) ((h2 x hn).trans hv) h) hd
theorem xN{x:Str}{v:V}{u:Value}{pos:Pos}(hg:Gl X x)(hm:X.mg x=none)(hv:bootBuiltins x=some u)(r:RelV v u)(hn:x≠"__name__":=by decide)(hd:(x==("__debug__":Str))=false:=by decide):PE X (.Name x pos) (tC v):=
 fun _ _ _ H _ I h=>lM I hg hm hv ⟨v,H,I,r,h⟩ hn hd
variable{a b:Expr}{ta tb:TE}{pos:Pos}
def PC(X:Cx)(op:CmpOp)(a b:Expr)(t:TE):Prop:=
 ∀(pins:List (Addr×Obj)) (s:Shared) (σ:St) (H:Hp) (Q:VK),Inv X pins σ H s->t σ H Q->
  wpAny (model X.prog X.w) X.A (eval a X.env) (fun v s₁=>wpAny (model X.prog X.w) X.A (eval b X.env) (fun u s₂=>wpAny (model X.prog X.w) X.A (compareOp op v u) (EP X pins σ Q) X.xe s₂) X.xe s₁) X.xe s
variable{tA uw:TT}{rest:List Expr}
def Cz(t u:TT):TT:=fun σ H Q=>t σ H fun c H1=>if c=true then u σ H1 Q else Q false H1
def GV(t u:TT):TT:=fun σ H Q=>t σ H fun c H1=>if c=true then Q true H1 else u σ H1 Q
def KH(t:TT):TT:=fun σ H Q=>t σ H fun c H1=>Q (!c) H1
theorem xP(ha:PT X a tA):PW X (.BoolOp .And [a] pos) tA:=by
 intro wh pins s σ H Q I h
 refine isTrue_and (aO (ha pins s σ H Q I h) fun c s1 e=>?_)
 cases c with
 |true=>exact isTrue_and_nil e
 |false=>exact e
theorem qI(ha:PT X a tA):PW X (.BoolOp .Or [a] pos) tA:=by
 intro wh pins s σ H Q I h
 refine isTrue_or (aO (ha pins s σ H Q I h) fun c s1 e=>?_)
 cases c with
 |false=>exact isTrue_or_nil e
 |true=>exact e
theorem uW(ha:PT X a tA)(hb:PW X (.BoolOp .And (b::rest) pos) uw):PW X (.BoolOp .And (a::b::rest) pos) (Cz tA uw):=by
 intro wh pins s σ H Q I h
 refine isTrue_and (aO (ha pins s σ H _ I h) fun c s1 ⟨H1,I1,q1⟩=>?_)
 cases c with
 |true=>exact hb wh pins s1 σ H1 Q I1 q1
 |false=>exact⟨H1,I1,q1⟩
theorem pK(ha:PT X a tA)(hb:PW X (.BoolOp .Or (b::rest) pos) uw):PW X (.BoolOp .Or (a::b::rest) pos) (GV tA uw):=by
 intro wh pins s σ H Q I h
 refine isTrue_or (aO (ha pins s σ H _ I h) fun c s1 ⟨H1,I1,q1⟩=>?_)
 cases c with
 |true=>exact⟨H1,I1,q1⟩
 |false=>exact hb wh pins s1 σ H1 Q I1 q1
theorem kB(ha:PT X a tA):PT X (.UnaryOp .Not a pos) (KH tA):=by
 intro pins s σ H Q I h
 exact isTrue_not (ha pins s σ H (fun c H1=>Q (!c) H1) I h)
def Dz(ta tb:TE):TE:=fun σ H Q=>ta σ H fun x H1=>∃c,x= .bl c/\if c=true then tb σ H1 Q else Q (.bl false) H1
def Jg(ta tb:TE):TE:=fun σ H Q=>ta σ H fun x H1=>∃c,x= .bl c/\if c=true then Q (.bl true) H1 else tb σ H1 Q
def Fe(ta:TE):TE:=fun σ H Q=>ta σ H fun x H1=>∃c,x= .bl c/\Q (.bl (!c)) H1
theorem xQ{op}{t:TE}(h:PE X a t):PE X (.BoolOp op [a] pos) t:=fun pins s σ H Q I hw=>BoolOp_one (h pins s σ H Q I hw)
theorem uG(ha:PE X a ta)(hb:PE X (.BoolOp .And (b::rest) pos) tb):PE X (.BoolOp .And (a::b::rest) pos) (Dz ta tb):=by
 intro pins s σ H Q I h
 refine BoolOp_and (aO (ha pins s σ H _ I h) fun v s1 ⟨x,H1,I1,r1,q1⟩=>?_)
 obtain⟨c,rfl,q1⟩:=q1
 cases r1
 refine wpAny_truthy_bool ?_
 cases c with
 |true=>exact hb pins s1 σ H1 Q I1 q1
 |false=>exact⟨.bl false,H1,I1,rfl,q1⟩
theorem Rx(ha:PE X a ta)(hb:PE X (.BoolOp .Or (b::rest) pos) tb):PE X (.BoolOp .Or (a::b::rest) pos) (Jg ta tb):=by
 intro pins s σ H Q I h
 refine BoolOp_or (aO (ha pins s σ H _ I h) fun v s1 ⟨x,H1,I1,r1,q1⟩=>?_)
 obtain⟨c,rfl,q1⟩:=q1
 cases r1
 refine wpAny_truthy_bool ?_
 cases c with
 |false=>exact hb pins s1 σ H1 Q I1 q1
 |true=>exact⟨.bl true,H1,I1,rfl,q1⟩
theorem Rf(ha:PE X a ta):PE X (.UnaryOp .Not a pos) (Fe ta):=by
 intro pins s σ H Q I h
 refine UnaryOp_ (aO (ha pins s σ H _ I h) fun v s1 ⟨x,H1,I1,r1,q1⟩=>?_)
 obtain⟨c,rfl,q1⟩:=q1
 cases r1
 exact not_of (wpAny_truthy_bool ⟨.bl (!c),H1,I1,rfl,q1⟩)
def Ld(t:TT)(ta tb:TE):TE:=fun σ H Q=>t σ H fun c H1=>if c=true then ta σ H1 Q else tb σ H1 Q
theorem um{c:Expr}(hc:PT X c tA)(ha:PE X a ta)(hb:PE X b tb):PE X (.IfExp c a b pos) (Ld tA ta tb):=by
 intro pins s σ H Q I h
 refine wpAny_IfExp (aO (hc pins s σ H _ I h) fun d s1 ⟨H1,I1,q1⟩=>?_)
 cases d with
 |true=>exact ha pins s1 σ H1 Q I1 q1
 |false=>exact hb pins s1 σ H1 Q I1 q1
end
def aS(K:PySem.W.Frag)(H:Hp)(a:Addr)(xs:List V):Prop:=
 Rd H a (.lst xs)\/
  ∃(o:Obj) (its:Array Value) (n:Nat),K.lookup a=some o/\o.cls= .type "list" /\o.dict=none/\o.data= .seq its n/\its.size<=sizeLine/\Vals xs its.toList
def gE(K:PySem.W.Frag)(H:Hp)(a:Addr)(xs:List V):Prop:=
 Rd H a (.tup xs)\/
  ∃(o:Obj) (its:Array Value) (n:Nat),K.lookup a=some o/\o.cls= .type "tuple" /\o.data= .seq its n/\its.size<=sizeLine/\Vals xs its.toList
def Ot:Value->Option V
 | .none=>some .aL
 | .bool b=>some (.bl b)
 | .int i _=>some (.int i)
 | .str x _=>some (.str x)
 | .bytes b _=>some (.i7 b)
 | .float b _=>some (.kO b)
 | .ref a=>some (.ref a)
 | .type n=>some (.ty n)
 |_=>none
theorem RelV.abs{x:V}{u:Value}(r:RelV x u):Ot u=some x:=by
 cases x with
 |aL=>cases r;rfl
 |bl _=>cases r;rfl
 |int _=>obtain⟨t,rfl⟩:=r;rfl
 |str _=>obtain⟨t,rfl⟩:=r;rfl
 |i7 _=>obtain⟨t,rfl⟩:=r;rfl
 |kO _=>obtain⟨t,rfl⟩:=r;rfl
 |ref _=>cases r;rfl
 |ty _=>cases r;rfl
theorem RelV.inj{x y:V}{u:Value}(r:RelV x u)(q:RelV y u):x=y:=fN (r.abs.symm.trans q.abs)
theorem Vals.inj{xs ys:List V}{us:List Value}(h:Vals xs us)(k:Vals ys us):xs=ys:=by
 induction h generalizing ys with
 |nil=>cases k;rfl
 |cons r t ih=>cases k with|cons r' t'=>rw[r.inj r',ih t']
section
variable{X:Cx}{pins:List (Addr×Obj)}{σ:St}{H:Hp}{s:Shared}{a:Addr}{xs ys:List V}
theorem aS.of{K:PySem.W.Frag}(h:H a=some (.lst xs)):aS K H a xs:= .inl (.inl h)
theorem gE.of{K:PySem.W.Frag}(h:H a=some (.tup xs)):gE K H a xs:= .inl (.inl h)
theorem Inv.list(I:Inv X pins σ H s)(h:aS X.K H a xs):∃its:List Value,Vals xs its/\PlainL s.heap a its.toArray/\xs.length<=sizeLine:=by
 rcases h with h|⟨o,its,n,hk,hc,hd,hs,hz,r⟩
 ·obtain⟨z,its,n,r,e⟩:=h.ok I.hok
  exact⟨its,r,⟨_,n,e,rfl,rfl,rfl⟩,z⟩
 ·refine⟨its.toList,r,⟨o,n,I.eu a o hk,hc,hd,by simpa using hs⟩,?_⟩
  have e:=r.length
  simp only[sr] at e
  omega
theorem Inv.tuple(I:Inv X pins σ H s)(h:gE X.K H a xs):∃its:List Value,Vals xs its/\IsTup s.heap a its.toArray/\xs.length<=sizeLine:=by
 rcases h with h|⟨o,its,n,hk,hc,hs,hz,r⟩
 ·obtain⟨z,its,r,p⟩:=h.ok I.hok
  exact⟨its,r,p,z⟩
 ·refine⟨its.toList,r,⟨o,I.eu a o hk,hc,n,by simpa using hs⟩,?_⟩
  have e:=r.length
  simp only[sr] at e
  omega
theorem Inv.vE(I:Inv X pins σ H s)(h:aS X.K H a xs)(h':aS X.K H a ys):xs=ys:=by
 obtain⟨its,r,⟨o,n,e,_,_,d⟩,_⟩:=I.list h
 obtain⟨its',r',⟨o',n',e',_,_,d'⟩,_⟩:=I.list h'
 rw[e] at e';cases e'
 rw[d] at d'
 injection d' with d1 _
 have:its=its':=by simpa using congrArg Array.toList d1
 subst this
 exact r.inj r'
end
abbrev Cx.kL(X:Cx)(E:Value->Shared->Prop):Cx:={X with xe:=E}
abbrev Cx.vz(X:Cx):Cx:=X.kL fun _ _=>False
theorem Cx.Ok.kL{X:Cx}(ok:X.Ok)(E:Value->Shared->Prop):(X.kL E).Ok:=
 ⟨ok.mod,ok.kind,ok.glob,ok.blt,ok.above,ok.inj,ok.has,ok.rm,ok.hd,ok.frames,ok.stk,ok.uK,ok.bs,ok.mh,ok.rz,ok.sP,ok.jD,ok.nQ⟩
theorem Cx.Ok.mK{X:Cx}{E:Value->Shared->Prop}(ok:(X.kL E).Ok):X.Ok:=
 ⟨ok.mod,ok.kind,ok.glob,ok.blt,ok.above,ok.inj,ok.has,ok.rm,ok.hd,ok.frames,ok.stk,ok.uK,ok.bs,ok.mh,ok.rz,ok.sP,ok.jD,ok.nQ⟩
section
variable{X:Cx}{pins:List (Addr×Obj)}{σ:St}{H:Hp}{s:Shared}{E:Value->Shared->Prop}
theorem Inv.kL(I:Inv X pins σ H s)(E:Value->Shared->Prop):Inv (X.kL E) pins σ H s:=⟨I.ok.kL E,I.os,I.bare,I.base,I.loc,I.cell,I.free,I.jF,I.pin,I.hok,I.len⟩
theorem Inv.mK(I:Inv (X.kL E) pins σ H s):Inv X pins σ H s:=⟨I.ok.mK,I.os,I.bare,I.base,I.loc,I.cell,I.free,I.jF,I.pin,I.hok,I.len⟩
theorem SP.mK{D:Ends}{f:Flow}{s':Shared}(h:SP (X.kL E) pins D f s'):SP X pins D f s':=by
 cases f with
 |next=>obtain⟨σ',H',I,q⟩:=h;exact⟨σ',H',I.mK,q⟩
 |brk=>obtain⟨σ',H',I,q⟩:=h;exact⟨σ',H',I.mK,q⟩
 |cont=>obtain⟨σ',H',I,q⟩:=h;exact⟨σ',H',I.mK,q⟩
 |ret u=>obtain⟨v,σ',H',I,r,q⟩:=h;exact⟨v,σ',H',I.mK,r,q⟩
theorem jm.vz{st:List Stmt}{t:TS}(h:jm X.vz st t):jm X st t:=fun pins s σ H D I hw=>
 wpAny_mono (h pins s σ H D (I.kL _) hw) (fun _ _ q=>q.mK) fun _ _ z=>False.elim z
end
section
variable{X:Cx}{st:Stmt}{rest:List Stmt}{t u:TS}{e:Expr}{te:TE}{pos:Pos}
def Cd:TS:=fun D σ H=>D.nx σ H
def jK(t u:TS):TS:=fun D σ H=>t {D with nx:=u D} σ H
theorem gu:jm X [] Cd:=fun _ _ σ H _ I h=>wpAny_execs_nil ⟨σ,H,I,h⟩
theorem aA(h1:PS X st t)(h2:jm X rest u):jm X (st::rest) (jK t u):=by
  intro pins s σ H D I h
  refine wpAny_execs_cons (aO (h1 pins s σ H {D with nx:=u D} I h) fun f s1 q=>?_)
  cases f with
  | next =>
    obtain⟨σ',H',I',q⟩:=q
    exact h2 pins s1 σ' H' D I' q
  |ret v=>exact q
  |brk=>exact q
  |cont=>exact q
theorem aJ(h1:PS X st t):jm X [st] t:=by
 intro pins s σ H D I h
 refine wpAny_execs_cons (aO (h1 pins s σ H D I h) fun f s1 q=>?_)
 cases f with
 |next=>exact wpAny_execs_nil q
 |ret v=>exact q
 |brk=>exact q
 |cont=>exact q
def NK:TS:=fun D σ H=>D.bk σ H
def Rv:TS:=fun D σ H=>D.ct σ H
theorem Inv.quiet{pins:List (Addr×Obj)}{σ:St}{H:Hp}{s:Shared}(I:Inv X pins σ H s):interactive X.env=false:=by simp[interactive,I.ok.kind]
def nD(te:TE):TS:=fun D σ H=>te σ H fun _ H1=>D.nx σ H1
theorem pD(he:PE X e te)(hs:swapsWith e none pos.line X.env=pure false:=by rfl):PS X (.Expr e pos) (nD te):=by
 intro pins s σ H D I h
 exact wpAny_Expr_any (aO (he pins s σ H _ I h) fun v s1 ⟨x,H1,I1,r1,q1⟩=>⟨σ,H1,I1,q1⟩) I.quiet hs
def vK(te:TE):TS:=fun D σ H=>te σ H D.rt
theorem bA(he:PE X e te):PS X (.Return (some e) pos) (vK te):=by
 intro pins s σ H D I h
 exact wpAny_Return_some (aO (he pins s σ H _ I h) fun v s1 ⟨x,H1,I1,r1,q1⟩=>⟨x,σ,H1,I1,r1,q1⟩)
def AY(c:TT)(t u:TS):TS:=fun D σ H=>c σ H fun b H1=>if b=true then t D σ H1 else u D σ H1
theorem eV{c:Expr}{a b:List Stmt}{tc:TT}(hc:PT X c tc)(ha:jm X a t)(hb:jm X b u):PS X (.If c a b pos) (AY tc t u):=by
 intro pins s σ H D I h
 refine wpAny_If (aO (hc pins s σ H _ I h) fun d s1 ⟨H1,I1,q1⟩=>?_)
 cases d with
 |true=>exact ha pins s1 σ H1 D I1 q1
 |false=>exact hb pins s1 σ H1 D I1 q1
end
abbrev TG:=V->St->Hp->(St->Hp->Prop)->Prop
abbrev iH:=List V->St->Hp->(St->Hp->Prop)->Prop
def PG(X:Cx)(target:Expr)(t:TG):Prop:=
 ∀(pins:List (Addr×Obj)) (s:Shared) (σ:St) (H:Hp) (v:V) (u:Value) (Q:St->Hp->Prop),Inv X pins σ H s->RelV v u->t v σ H Q->
  wpAny (model X.prog X.w) X.A (assign target X.env u) (fun _ s'=>∃σ' H',Inv X pins σ' H' s'/\Q σ' H') X.xe s
def rM(X:Cx)(ts:List Expr)(t:iH):Prop:=
 ∀(pins:List (Addr×Obj)) (s:Shared) (σ:St) (H:Hp) (vs:List V) (us:List Value) (Q:St->Hp->Prop),Inv X pins σ H s->Vals vs us->t vs σ H Q->
  wpAny (model X.prog X.w) X.A (assignInOrder ((assignEach ts X.env).map (·.2)) us) (fun _ s'=>∃σ' H',Inv X pins σ' H' s'/\Q σ' H') X.xe s
abbrev uY:=V->V->V->Hp->(Hp->Prop)->Prop
def Ay(X:Cx)(t:uY):Prop:=
 ∀(pins:List (Addr×Obj)) (s:Shared) (σ:St) (H:Hp) (o i v:V) (ov iv u:Value) (Q:Hp->Prop),Inv X pins σ H s->RelV o ov->RelV i iv->RelV v u->t o i v H Q->
  wpAny (model X.prog X.w) X.A (setItem ov iv u) (fun _ s'=>∃H',Inv X pins σ H' s'/\Q H') X.xe s
section
variable{X:Cx}{pos:Pos}
def eX(i:Nat):TG:=fun v σ H Q=>Q (σ.set i (some v)) H
theorem aT{i:Nat}{x:Str}(hN:X.N.Nodup)(hi:X.N[i]?=some x)(hx:Loc X.env.scope x)(hf:X.fn x=true\/X.env.scope.names.lookup x=some .local:=by first|exact .inl rfl|exact .inr rfl|assumption):PG X (.Name x pos) (eX i):=by
 intro pins s σ H v u Q I r h
 exact wpAny_assign_Name (Iv I hN hi hx r (fun s' I'=>⟨_,H,I',h⟩) hf)
def t6:iH:=fun vs σ H Q=>vs=[]/\Q σ H
def qF(t:TG)(u:iH):iH:=fun vs σ H Q=>∃v r,vs=v::r/\t v σ H fun σ' H'=>u r σ' H' Q
theorem gQ:rM X [] t6:=by
 intro pins s σ H vs us Q I r h
 obtain⟨e,h⟩:=h
 subst e
 cases r
 exact assignInOrder_nil ⟨σ,H,I,h⟩
theorem cg{e:Expr}{es:List Expr}{t:TG}{u:iH}(h1:PG X e t)(h2:rM X es u)
    (hs:(assignEach (e::es) X.env).map (·.2)=assign e X.env::(assignEach es X.env).map (·.2):=by rfl):rM X (e::es) (qF t u):=by
  intro pins s σ H vs us Q I r h
  obtain⟨v,vr,e1,h⟩:=h
  subst e1
  cases r with
  | cons r rr =>
    rw[hs]
    refine assignInOrder_cons (aO (h1 pins s σ H _ _ _ I r h) fun _ s1 ⟨σ1,H1,I1,q1⟩=>?_)
    exact h2 pins s1 σ1 H1 _ _ Q I1 rr q1
def rB(K:PySem.W.Frag)(n:Nat)(t:iH):TG:=fun v σ H Q=>∃a xs,v= .ref a/\gE K H a xs/\xs.length=n/\t xs σ H Q
theorem FF{es:List Expr}{k:Nat}{t:iH}{n:Nat}(hc:X.calm=true)(h:rM X es t)
  (hn:(assignEach es X.env).length=n:=by rfl) (hst:(assignEach es X.env).findIdx? (·.1)=none:=by rfl):PG X (.Tuple es k pos) (rB X.K n t):=by
 intro pins s σ H v u Q I r hw
 obtain⟨a,xs,e1,hq,hl,hw⟩:=hw
 subst e1
 cases r
 obtain⟨its,rv,ht,hz⟩:=I.tuple hq
 refine assign_Tuple_tuple (I.ok.hd hc) ht (by simp[hn,<-hl,rv.length]) hst fun h' hx=>?_
 have I1:Inv X pins σ H {s with heap:=h'}:=I.kept (t':=s.toks) fun b o e=>hx b o (dW (bG e)) e
 exact h pins _ σ H xs _ Q I1 (by simpa using rv) hw
def oq(to ti:TE)(t:uY):TG:=fun v σ H Q=>to σ H fun o H1=>ti σ H1 fun i H2=>t o i v H2 fun H3=>Q σ H3
theorem gO{o i:Expr}{to ti:TE}{t:uY}(ho:PE X o to)(hi:PE X i ti)(hs:Ay X t)
  (ha : ∀ v, assign (.Subscript o i pos) X.env v = (do
   let ov<-holding [v] (eval o X.env)
   let iv<-holding [v,ov] (eval i X.env)
   standAt pos
   holding [v,ov,iv] (setItem ov iv v)
   release [v,ov,iv] []):=by intro _;rfl):PG X (.Subscript o i pos) (oq to ti t):=by
 intro pins s σ H v u Q I r h
 rw[ha]
 refine wpAny_bind (wpAny_holding (aO (ho pins s σ H _ I h) fun ov s1 ⟨x,H1,I1,r1,q1⟩=>?_))
 refine wpAny_bind (wpAny_holding (aO (hi pins s1 σ H1 _ I1 q1) fun iv s2 ⟨y,H2,I2,r2,q2⟩=>?_))
 refine wpAny_bind (wpAny_standAt (wpAny_bind (wpAny_holding (aO (hs pins s2 σ H2 x y v ov iv u _ I2 r1 r2 r q2) fun _ s3 ⟨H3,I3,q3⟩=>?_))))
 exact wpAny_release ⟨σ,H3,I3,q3⟩
def ff(te:TE)(g:TG):TS:=fun D σ H=>te σ H fun x H1=>g x σ H1 D.nx
theorem fQ{tg e:Expr}{te:TE}{g:TG}(he:PE X e te)(hg:PG X tg g)(hs:swapsWithSole [tg] e pos.line X.env=pure false:=by rfl)(hw:swappedStores [tg] e X.env=pure none:=by rfl)
  (h1:(assignEach [tg] X.env).map (·.2)=[assign tg X.env]:=by rfl):PS X (.Assign [tg] e pos) (ff te g):=by
 intro pins s σ H D I h
 refine wpAny_Assign_stores (aO (he pins s σ H _ I h) fun v s1 ⟨x,H1,I1,r1,q1⟩=>?_) hs hw
 rw[h1]
 exact aO (hg pins s1 σ H1 x v _ I1 r1 q1) fun _ s2 q=>q
theorem aU{i:Nat}{x:Str}{e:Expr}{te:TE}{pos':Pos}(hN:X.N.Nodup)(hi:X.N[i]?=some x)(hx:Loc X.env.scope x)(he:PE X e te)(hs:swapsWith e (some (.Name x pos')) pos.line X.env=pure false:=by rfl)(hf:X.fn x=true\/X.env.scope.names.lookup x=some .local:=by first|exact .inl rfl|exact .inr rfl|assumption):
  PS X (.Assign [.Name x pos'] e pos) (ff te (eX i)):=by
 intro pins s σ H D I h
 refine wpAny_Assign_Name (aO (he pins s σ H _ I h) fun v s1 ⟨y,H1,I1,r1,q1⟩=>?_) hs
 exact Iv I1 hN hi hx r1 (fun s2 I2=>⟨_,H1,I2,q1⟩) hf
end
section
variable{X:Cx}{pos:Pos}
def Ej(c:TT)(tb:TS):TS:=fun D σ H=>∃W:Nat->St->Hp->Prop,(∃m,W m σ H)/\∀m σ H,W m σ H->
 c σ H fun b H1=>if b=true then∃N:St->Hp->Prop,(∀σ' H',N σ' H'->∃m',m'<m/\W m' σ' H')/\tb {D with nx:=N,ct:=N,bk:=D.nx} σ H1 else D.nx σ H1
theorem Et{c:Expr}{body:List Stmt}{tc:TT}{tb:TS}(hp:PassesOwn (model X.prog X.w) X.A X.env X.xe)(hc:PT X c tc)(hb:jm X body tb):PS X (.While c body [] pos) (Ej tc tb):=by
  intro pins s σ H D I h
  obtain⟨W,⟨m0,w0⟩,turn⟩:=h
  refine wpAny_While (codeAny_whileLoop (fun n s'=>∃σ' H',Inv X pins σ' H' s'/\W n σ' H') ?_ m0 ⟨σ,H,I,w0⟩)
  rintro n s1 ⟨σ1,H1,I1,w1⟩
  refine wpAny_passesOwn hp (aO (hc pins s1 σ1 H1 _ I1 (turn n σ1 H1 w1)) fun b s2 ⟨H2,I2,q2⟩=>?_)
  cases b with
  | true =>
    obtain⟨N,hN,q2⟩:=q2
    rw[if_pos rfl]
    refine wpAny_passesOwn hp (aO (hb pins s2 σ1 H2 _ I2 q2) fun f s3 q3=>?_)
    cases f with
    | next =>
      obtain⟨σ3,H3,I3,n3⟩:=q3
      obtain⟨m',hm,w3⟩:=hN σ3 H3 n3
      exact⟨m',hm,σ3,H3,I3,w3⟩
    | cont =>
      obtain⟨σ3,H3,I3,n3⟩:=q3
      obtain⟨m',hm,w3⟩:=hN σ3 H3 n3
      exact⟨m',hm,σ3,H3,I3,w3⟩
    |brk=>exact q3
    |ret v=>exact q3
  | false =>
    rw[if_neg dH]
    exact wpAny_execs_nil ⟨σ1,H2,I2,q2⟩
end
structure It where
 go:Nat->Hp->Prop
 lI:Nat->Hp->V->Hp->Prop
 stop:Nat->Hp->Prop
def iA(X:Cx)(pins:List (Addr×Obj))(H:Hp)(b:Addr):Prop:=
 H b=none/\b≠X.env.locals/\b∉X.fs/\(b∈X.ex\/X.s₀.heap.objs.size<=b)/\(∀x c,X.env.cells.lookup x=some c->c≠b)/\∀p∈X.pn++pins,p.1≠b
theorem Inv.om{X:Cx}{pins:List (Addr×Obj)}{σ:St}{H H':Hp}{s:Shared}{b:Addr}(I:Inv X pins σ H s)(hb:s.heap.objs.size<=b)(hn:H' b=none):iA X pins H' b:=by
 refine⟨hn,kE (eg I.lt hb),I.Qt hb, .inr (cX I.sz hb),fun x c e z=>?_,fun p hp z=>?_⟩
 ·obtain⟨v,q⟩:=I.cell x c e
  exact absurd (eg q.lt (by rw[z];exact hb)) (g5 _)
 ·exact absurd (eg (bG (I.pin p hp).1) (by rw[z];exact hb)) (g5 _)
structure Turn(P:Program)(w:World)(K:PySem.W.Frag)(tg:Expr)(J:It)(fp:List Addr)(it:Addr)(tn:Nat->Heap->Prop):Prop where
 mem:it∈fp
 obj:∀i h,tn i h->∀b∈fp,∃o,h.get? b=some o/\∀v,o.data≠ .cell v
 keep:∀i h h',tn i h->(∀b∈fp,∀o,h.get? b=some o->h'.get? b=some o)->tn i h'
 item:∀(X:Cx),X.prog=P->X.w=w->X.K=K->X.calm=true->∀(i:Nat) (pins:List (Addr×Obj)) (s:Shared) (σ:St) (H:Hp) (E:Value->Shared->Prop),Inv X pins σ H s->(∀b∈fp,iA X pins H b)->tn i s.heap->J.go i H->
  wpAny (model P w) X.A (pyNext (.ref it)) (fun r s1=>∃u,r=some u/\
   wpAny (model P w) X.A (letOwnedTupleGo tg (.ref it) u) (fun _ s2=>∃x H',Inv X pins σ H' s2/\RelV x u/\J.lI i H x H'/\tn (i+1) s2.heap/\∀b∈fp,H' b=none) E s1) E s
 done:∀(X:Cx),X.prog=P->X.w=w->X.K=K->X.calm=true->∀(i:Nat) (pins:List (Addr×Obj)) (s:Shared) (σ:St) (H:Hp) (E:Value->Shared->Prop),Inv X pins σ H s->(∀b∈fp,iA X pins H b)->tn i s.heap->J.stop i H->
  wpAny (model P w) X.A (pyNext (.ref it)) (fun r s1=>r=none/\Inv X pins σ H s1) E s
 self:∀(A:Around) (i:Nat) (s:Shared) (Q:Value->Shared->Prop) (E:Value->Shared->Prop),tn i s.heap->Q (.ref it) s->wpAny (model P w) A (pyIter (.ref it)) Q E s
abbrev TI:=St->Hp->(It->Hp->Prop)->Prop
def Jc(X:Cx)(pins:List (Addr×Obj))(σ:St)(tg:Expr)(R:It->Hp->Prop)(itv:Value)(s2:Shared):Prop:=
 ∃(it:Addr) (fp:List Addr) (tn:Nat->Heap->Prop) (J:It) (H':Hp),itv= .ref it/\Inv X pins σ H' s2/\Turn X.prog X.w X.K tg J fp it tn/\tn 0 s2.heap/\(∀b∈fp,iA X pins H' b)/\R J H'
def PI(X:Cx)(tg iter:Expr)(wi:TI):Prop:=
 ∀(pins:List (Addr×Obj)) (s:Shared) (σ:St) (H:Hp) (R:It->Hp->Prop),Inv X pins σ H s->wi σ H R->
  wpAny (model X.prog X.w) X.A (eval iter X.env) (fun v s1=>wpAny (model X.prog X.w) X.A (pyIter v) (Jc X pins σ tg R) X.xe s1) X.xe s
theorem IU{M:Model}{A:Around}{E:Value->Shared->Prop}{s:Shared}{tg:Expr}{it:Addr}{u:Value}{o:Obj}{n:String}{vs:Array Value}{Q:Unit->Shared->Prop}(ho:s.heap.get? it=some o)(hc:o.cls= .type n)(hd:o.data= .fields vs)
    (hn:["enumerate","zip","dict_itemiterator","dict_reverseitemiterator","odict_iterator","itertools.zip_longest","itertools.pairwise"].contains n=false) (hQ:Q () s):wpAny M A (letOwnedTupleGo tg (.ref it) u) Q E s:=by
  unfold letOwnedTupleGo
  cases tg<;>first
    |exact wpAny_pure hQ
    |(cases u<;>first
        |exact wpAny_pure hQ
        | (refine wpAny_bind (wpAny_load ho ?_)
           rw[hc,hd]
           show wpAny M A (if(["enumerate","zip","dict_itemiterator","dict_reverseitemiterator","odict_iterator","itertools.zip_longest","itertools.pairwise"].contains n && vs[0]?==some (rawInt _))=true then _ else _) Q E s
           rw[if_neg (by intro h;rw[hn,Bool.false_and] at h;cases h)]
           exact wpAny_pure hQ))
def nM(K:PySem.W.Frag)(a:Addr):It:=
 ⟨fun i H=>∃xs x,aS K H a xs/\xs[i]?=some x,fun i H x H'=>H'=H/\∀xs,aS K H a xs->xs[i]?=some x,fun i H=>∃xs,aS K H a xs/\xs.length<=i⟩
def jc(lo:Int)(n:Nat):It:=⟨fun i _=>i<n,fun i H x H'=>H'=H/\x= .int (lo+i),fun i _=>n<=i⟩
theorem XQ{P:Program}{w:World}{K:PySem.W.Frag}{tg:Expr}(a it:Addr):Turn P w K tg (nM K a) [it] it (fun i h=>h.IsListIter it a i) where
 mem:=by simp
 obj:=fun i h st b hb=>by
  have e:b=it:=by simpa using hb
  subst e
  obtain⟨o,e,c,d⟩:=st
  exact⟨o,e,fun v z=>by rw[d] at z;cases z⟩
 keep:=fun i h h' st k=>st.at fun o e=>k it (by simp) o e
 item:=by
  intro X hP hw hK hc i pins s σ H E I hf st hg
  subst hP hw hK
  obtain⟨xs,x,hq,hx⟩:=hg
  obtain⟨its,rv,p,hz⟩:=I.list hq
  obtain⟨u,hu,ru⟩:=rv.get hx
  obtain⟨f0,f1,f2,f3,f4,f5⟩:=hf it (by simp)
  refine wpAny_pyNext_list_item st p.isList (x:=u) (by simpa using hu) fun h' st' sb=>?_
  have I1:Inv X pins σ H {s with heap:=h'}:=I.turned (t':=s.toks) (fun b o hb e=>(sb.2 b hb).trans e) f0 f1 f3 f4 f5
  obtain⟨o,e,c,d⟩:=id st'
  exact⟨u,rfl,IU (s:={s with heap:=h'}) e c d (by decide) ⟨x,H,I1,ru,⟨rfl,fun ys hy=>by rw[I.vE hy hq];exact hx⟩,st',fun b hb=>(hf b hb).1⟩⟩
 done:=by
  intro X hP hw hK hc i pins s σ H E I hf st hg
  subst hP hw hK
  obtain⟨xs,hq,hx⟩:=hg
  obtain⟨its,rv,p,hz⟩:=I.list hq
  obtain⟨f0,f1,f2,f3,f4,f5⟩:=hf it (by simp)
  have hl:=rv.length
  exact wpAny_pyNext_list_end (I.ok.hd hc) st p.isList (by simp;omega) fun h' eb=>⟨rfl,I.turned (t':=s.toks) (fun b o hb e=>eb b o hb e) f0 f1 f3 f4 f5⟩
 self:=fun _ _ _ _ _ st h=>wpAny_pyIter_listiter st h
theorem VH{P:Program}{w:World}{K:PySem.W.Frag}{tg:Expr}(it:Addr)(lo:Int)(n:Nat):Turn P w K tg (jc lo n) [it] it (fun i h=>IsRangeIter h it (lo+(i:Nat)*1) ((n:Int)-(i:Nat)) 1) where
 mem:=by simp
 obj:=fun i h st b hb=>by
  have e:b=it:=by simpa using hb
  subst e
  exact⟨_,st,fun v z=>by
   have z':Data.fields _=Data.cell v:=z
   cases z'⟩
 keep:=fun i h h' st k=>k it (by simp) _ st
 item:=by
  intro X hP hw hK hc i pins s σ H E I hf st hg
  subst hP hw hK
  obtain⟨f0,f1,f2,f3,f4,f5⟩:=hf it (by simp)
  have W:=Walks.range (prog:=X.prog) (w:=X.w) (I.ok.hd hc) it lo 1 n
  refine W.item i s _ _ hg st fun v h' tk hv st' kk=>?_
  obtain⟨t,rfl⟩:=hv
  have I1:Inv X pins σ H {s with heap:=h',toks:=tk}:=I.turned (fun b o hb e=>kk b o (by simpa using hb) e) f0 f1 f3 f4 f5
  refine⟨_,rfl,IU (s:={s with heap:=h',toks:=tk}) (n:="range_iterator") st' rfl rfl (by decide) ⟨.int (lo+i),H,I1,⟨t,?_⟩,⟨rfl,rfl⟩,st',fun b hb=>(hf b hb).1⟩⟩
  rw[oK]
 done:=by
  intro X hP hw hK hc i pins s σ H E I hf st hg
  subst hP hw hK
  obtain⟨f0,f1,f2,f3,f4,f5⟩:=hf it (by simp)
  exact wpAny_pyNext_range_end (I.ok.hd hc) st (by have:n<=i:=hg;omega) fun h' eb=>⟨rfl,I.turned (t':=s.toks) (fun b o hb e=>eb b o hb e) f0 f1 f3 f4 f5⟩
 self:=fun _ _ _ _ _ st h=>wpAny_pyIter_rangeiter st h
section
variable{X:Cx}{tg:Expr}
def sX(K:PySem.W.Frag)(tl:TE):TI:=fun σ H R=>tl σ H fun x H1=>∃a,x= .ref a/\(∃xs,aS K H1 a xs)/\R (nM K a) H1
theorem OX{l:Expr}{tl:TE}(hl:PE X l tl):PI X tg l (sX X.K tl):=by
 intro pins s σ H R I h
 refine aO (hl pins s σ H _ I h) fun v s1 ⟨x,H1,I1,r1,q1⟩=>?_
 obtain⟨a,e,⟨xs,hq⟩,q⟩:=q1
 subst e
 cases r1
 obtain⟨its,rv,p,hz⟩:=I1.list hq
 refine wpAny_pyIter_list p.isList ?_
 refine⟨s1.heap.objs.size,[s1.heap.objs.size],_,_,H1,rfl,I1.kept (t':=s1.toks) fun b o e=>dw _ e,XQ a _,⟨_,gH _ rfl,rfl,rfl⟩,fun b hb=>?_,q⟩
 have e:b=s1.heap.objs.size:=by simpa using hb
 subst e
 exact I1.om (bh _) (I1.hok.fresh (bh _))
theorem GD{pins:List (Addr×Obj)}{σ:St}{H:Hp}{s:Shared}{R:It->Hp->Prop}{E:Value->Shared->Prop}{lo hi:Int}{t u v:Tok}{tk:Nat}(I:Inv X pins σ H s)(h1: -(2^62)<=lo)(h2:lo<2^62)(h3: -(2^62)<=hi)(h4:hi<2^62)
  (q:R (jc lo (hi-lo).toNat) H):wpAny (model X.prog X.w) X.A (pyIter (.ref s.heap.objs.size)) (Jc X pins σ tg R) E {s with heap:=s.heap.push {cls:= .type "range",data:= .fields #[.int lo t, .int hi u, .int 1 v]},toks:=tk}:=by
 refine wpAny_pyIter_range (IsRange.new ..) (small_one h1 h2 h3 h4) ?_
 have I1:Inv X pins σ H {s with heap:=s.heap.push {cls:= .type "range",data:= .fields #[.int lo t, .int hi u, .int 1 v]},toks:=tk}:=I.kept fun b o e=>dw _ e
 refine⟨(s.heap.push {cls:= .type "range",data:= .fields #[.int lo t, .int hi u, .int 1 v]}).objs.size,[(s.heap.push {cls:= .type "range",data:= .fields #[.int lo t, .int hi u, .int 1 v]}).objs.size],_,_,H,rfl,
  I1.kept (t':=tk) fun b o e=>dw _ e,VH _ lo (hi-lo).toNat,?_,fun b hb=>?_,q⟩
 ·have e1:lo+((0:Nat):Int)*1=lo:=by simp
  have e2:(((hi-lo).toNat:Nat):Int)-((0:Nat):Int)=Builtin.Range.rangeSize lo hi 1:=by rw[rangeSize_one];split<;>omega
  show IsRangeIter _ _ (lo+((0:Nat):Int)*1) ((((hi-lo).toNat:Nat):Int)-((0:Nat):Int)) 1
  rw[e1,e2]
  exact gH _ rfl
 ·have e:b=(s.heap.push {cls:= .type "range",data:= .fields #[.int lo t, .int hi u, .int 1 v]}).objs.size:=by simpa using hb
  subst e
  exact I1.om (bh _) (I1.hok.fresh (bh _))
def uI(ta:TA):TI:=fun σ H R=>ta σ H fun vs H1=>∃j:Int,vs=[.int j]/\ -(2^62)<=j/\j<2^62/\R (jc 0 j.toNat) H1
def KW(ta:TA):TI:=fun σ H R=>ta σ H fun vs H1=>∃i j:Int,vs=[.int i, .int j]/\(-(2^62)<=i/\i<2^62/\ -(2^62)<=j/\j<2^62)/\R (jc i (j-i).toNat) H1
theorem iz{a:Expr}{ta:TA}{p pos:Pos}(hg:Gl X "range")(hm:X.mg "range"=none)(ha:PA X [a] ta)(hs:starEach [a] X.env=[(false,eval a X.env)]:=by rfl):PI X tg (.Call (.Name "range" p) [a] [] pos) (uI ta):=by
  intro pins s σ H R I h
  refine Call_ (lM I hg hm boot_range (oW (aO (ha pos pins s σ H _ I h) fun us s1 ⟨vs,H1,I1,r1,q1⟩=>?_) hs rfl))
  obtain⟨j,e,q1,q2,q⟩:=q1
  subst e
  cases r1 with
  | cons r rr =>
    cases rr
    obtain⟨t,rfl⟩:=r
    exact call_range_1 (GD I1 (by omega) (by omega) q1 q2 (by simpa using q))
theorem Ft{a b:Expr}{ta:TA}{p pos:Pos}(hg:Gl X "range")(hm:X.mg "range"=none)(ha:PA X [a,b] ta)(hs:starEach [a,b] X.env=[(false,eval a X.env),(false,eval b X.env)]:=by rfl)(hs2:starEach [b] X.env=[(false,eval b X.env)]:=by rfl):
    PI X tg (.Call (.Name "range" p) [a,b] [] pos) (KW ta):=by
  intro pins s σ H R I h
  refine Call_ (lM I hg hm boot_range (oW (aO (ha pos pins s σ H _ I h) fun us s1 ⟨vs,H1,I1,r1,q1⟩=>?_) (by rw[hs,hs2]) (by rw[hs2];rfl)))
  obtain⟨i,j,e,⟨q1,q2,q3,q4⟩,q⟩:=q1
  subst e
  cases r1 with
  | cons r rr =>
    cases rr with
    | cons r' rr =>
      cases rr
      obtain⟨t,rfl⟩:=r
      obtain⟨t',rfl⟩:=r'
      exact call_range_2 (GD I1 q1 q2 q3 q4 q)
def qp(wi:TI)(g:TG)(tb:TS):TS:=fun D σ H=>wi σ H fun J H1=>∃W:Nat->Nat->St->Hp->Prop,(∃m,W 0 m σ H1)/\∀i m σ H,W i m σ H->
 (J.stop i H/\D.nx σ H)\/(J.go i H/\∃N:St->Hp->Prop,(∀σ' H',N σ' H'->∃m',m'<m/\W (i+1) m' σ' H')/\∀x H',J.lI i H x H'->g x σ H' fun σ2 H2=>tb {D with nx:=N,ct:=N,bk:=D.nx} σ2 H2)
def qV(fp:List Addr)(h:Heap):List (Addr×Obj):=fp.filterMap fun b=>(h.get? b).map fun o=>(b,o)
theorem xo{fp:List Addr}{h:Heap}{b:Addr}{o:Obj}(hb:b∈fp)(e:h.get? b=some o):(b,o)∈qV fp h:=Br.mpr ⟨b,hb,by rw[e];rfl⟩
theorem Ln{fp:List Addr}{h:Heap}{p:Addr×Obj}(hp:p∈qV fp h):p.1∈fp/\h.get? p.1=some p.2:=by
  obtain⟨b,hb,e⟩:=Br.mp hp
  cases q:h.get? b with
  |none=>rw[q] at e;cases e
  | some o =>
    rw[q] at e
    have e':(b,o)=p:=fN e
    subst e'
    exact⟨hb,q⟩
theorem Inv.pinned{pins:List (Addr×Obj)}{σ:St}{H:Hp}{s:Shared}{fp:List Addr}(I:Inv X pins σ H s)(hf:∀b∈fp,iA X pins H b)(ho:∀b∈fp,∃o,s.heap.get? b=some o/\∀v,o.data≠ .cell v):Inv X (pins++qV fp s.heap) σ H s:=
 I.G0 fun p hp=>(fJ.mp hp).elim (fun z=>I.pin p (iM _ z)) fun z=>by
  obtain⟨hb,e⟩:=Ln z
  obtain⟨f0,f1,f2,_⟩:=hf p.1 hb
  obtain⟨o,e',d⟩:=ho p.1 hb
  rw[e] at e';cases e'
  exact⟨e,f0,f1,f2,d⟩
theorem Inv.uq{pins pl:List (Addr×Obj)}{σ:St}{H:Hp}{s:Shared}(I:Inv X (pins++pl) σ H s):Inv X pins σ H s:=I.G0 fun p hp=>I.pin p (iM _ (kD _ hp))
theorem fO{iter:Expr}{body:List Stmt}{wi:TI}{g:TG}{tb:TS}{pos:Pos}(hp:PassesOwn (model X.prog X.w) X.A X.env X.xe)(hc:X.calm=true)(hi:PI X tg iter wi)(hg:PG X tg g)(hb:jm X body tb)
  (hs:∀x,foldedSetIterable iter X.env x=pure x:=by intro _;rfl):PS X (.For tg iter body [] pos) (qp wi g tb):=by
 intro pins s σ H D I h
 refine wpAny_For (aO (hi pins s σ H _ I h) fun v s1 h1=>aO h1 fun itv s2 h2=>?_) hs
 obtain⟨it,fp,tn,J,H2,e,I2,T,st2,f2,W,⟨m0,w0⟩,turn⟩:=h2
 subst e
 have mL:∀{H':Hp},(∀b∈fp,H' b=none)->∀b∈fp,iA X pins H' b:=fun hn b hb=>⟨hn b hb,(f2 b hb).2⟩
 refine codeAny_forLoop_any (fun n s'=>∃i σ' H',Inv X pins σ' H' s'/\tn i s'.heap/\(∀b∈fp,H' b=none)/\W i n σ' H') ?_ m0 ⟨0,σ,H2,I2,st2,fun b hb=>(f2 b hb).1,w0⟩
 rintro n s3 ⟨i,σ3,H3,I3,st3,fr3,w3⟩
 rcases turn i n σ3 H3 w3 with ⟨stop,qn⟩|⟨go,N,hN,step⟩
 ·refine wpAny_passesOwn hp (aO (T.done X rfl rfl rfl hc i pins s3 σ3 H3 X.xe I3 (mL fr3) st3 stop) fun r s4 ⟨hr,I4⟩=>?_)
  subst hr
  exact wpAny_execs_nil ⟨σ3,H3,I4,qn⟩
 ·refine wpAny_passesOwn hp (aO (T.item X rfl rfl rfl hc i pins s3 σ3 H3 X.xe I3 (mL fr3) st3 go) fun r s4 ⟨u,hr,h4⟩=>?_)
  subst hr
  refine wpAny_passesOwn hp (aO h4 fun _ s5 ⟨x,H5,I5,r5,y5,lO,DO⟩=>?_)
  have B8:=I5.pinned (mL DO) (T.obj _ _ lO)
  refine wpAny_passesOwn hp (aO (hg _ s5 σ3 H5 x u _ B8 r5 (step x H5 y5)) fun _ s6 ⟨tu,H6,I6,q6⟩=>?_)
  refine wpAny_passesOwn hp (aO (hb _ s6 tu H6 _ I6 q6) fun f s7 q7=>?_)
  have again:∀{j6:St} {H7:Hp},Inv X (pins++qV fp s5.heap) j6 H7 s7->N j6 H7->∃m,m<n/\∃i σ' H',Inv X pins σ' H' s7/\tn i s7.heap/\(∀b∈fp,H' b=none)/\W i m σ' H':=fun{j6 H7} I7 n7=>by
   obtain⟨m',hm,w7⟩:=hN j6 H7 n7
   refine⟨m',hm,i+1,j6,H7,I7.uq,T.keep _ _ _ lO fun b hb o e=>(I7.pin (b,o) (iM _ (iM _ (xo hb e)))).1,fun b hb=>?_,w7⟩
   obtain⟨o,e,d⟩:=T.obj _ _ lO b hb
   exact(I7.pin (b,o) (iM _ (iM _ (xo hb e)))).2.1
  cases f with
  |next=>obtain⟨j6,H7,I7,n7⟩:=q7;exact again I7 n7
  |cont=>obtain⟨j6,H7,I7,n7⟩:=q7;exact again I7 n7
  |brk=>obtain⟨j6,H7,I7,q7⟩:=q7;exact⟨j6,H7,I7.uq,q7⟩
  |ret v=>obtain⟨x7,j6,H7,I7,r7,q7⟩:=q7;exact⟨x7,j6,H7,I7.uq,r7,q7⟩
end
theorem IE{K:PySem.W.Frag}{a:Addr}{xs:List V}{g:TG}{tb:TS}{D:Ends}{σ:St}{H:Hp}(Pv:Nat->St->Hp->Prop)(h0:Pv 0 σ H)(hl:∀i σ H,i<=xs.length->Pv i σ H->aS K H a xs)
  (hs:∀i x σ H,xs[i]?=some x->Pv i σ H->g x σ H fun σ2 H2=>tb {D with nx:=Pv (i+1),ct:=Pv (i+1),bk:=D.nx} σ2 H2) (hd:∀σ H,Pv xs.length σ H->D.nx σ H):
  ∃W:Nat->Nat->St->Hp->Prop,(∃m,W 0 m σ H)/\∀i m σ H,W i m σ H->
   ((nM K a).stop i H/\D.nx σ H)\/((nM K a).go i H/\∃N:St->Hp->Prop,(∀σ' H',N σ' H'->∃m',m'<m/\W (i+1) m' σ' H')/\∀x H',(nM K a).lI i H x H'->g x σ H' fun σ2 H2=>tb {D with nx:=N,ct:=N,bk:=D.nx} σ2 H2):=by
 refine⟨fun i m σ H=>m=xs.length-i/\i<=xs.length/\Pv i σ H,⟨xs.length,by simp,fW _,h0⟩,?_⟩
 rintro i m σ H ⟨rfl,hi,p⟩
 have q:=hl i σ H hi p
 by_cases hlt:i<xs.length
 ·refine .inr ⟨⟨xs,xs[i],q,by simp[hlt]⟩,Pv (i+1),fun σ' H' p'=>⟨xs.length-(i+1),by omega,rfl,hlt,p'⟩,fun x H' y=>?_⟩
  obtain⟨e,y⟩:=y
  subst e
  exact hs i x σ _ (y xs q) p
 ·have e:i=xs.length:=by omega
  subst e
  exact .inl ⟨⟨xs,q,bh _⟩,hd σ H p⟩
theorem ym{lo:Int}{n:Nat}{g:TG}{tb:TS}{D:Ends}{σ:St}{H:Hp}(Pv:Nat->St->Hp->Prop)(h0:Pv 0 σ H)
  (hs:∀i σ H,i<n->Pv i σ H->g (.int (lo+i)) σ H fun σ2 H2=>tb {D with nx:=Pv (i+1),ct:=Pv (i+1),bk:=D.nx} σ2 H2) (hd:∀σ H,Pv n σ H->D.nx σ H):
  ∃W:Nat->Nat->St->Hp->Prop,(∃m,W 0 m σ H)/\∀i m σ H,W i m σ H->
   ((jc lo n).stop i H/\D.nx σ H)\/((jc lo n).go i H/\∃N:St->Hp->Prop,(∀σ' H',N σ' H'->∃m',m'<m/\W (i+1) m' σ' H')/\∀x H',(jc lo n).lI i H x H'->g x σ H' fun σ2 H2=>tb {D with nx:=N,ct:=N,bk:=D.nx} σ2 H2):=by
 refine⟨fun i m σ H=>m=n-i/\i<=n/\Pv i σ H,⟨n,by simp,fW _,h0⟩,?_⟩
 rintro i m σ H ⟨rfl,hi,p⟩
 by_cases hlt:i<n
 ·refine .inr ⟨hlt,Pv (i+1),fun σ' H' p'=>⟨n-(i+1),by omega,rfl,hlt,p'⟩,fun x H' y=>?_⟩
  obtain⟨e,y⟩:=y
  subst e y
  exact hs i σ _ hlt p
 ·have e:i=n:=by omega
  subst e
  exact .inl ⟨bh _,hd σ H p⟩
theorem O0{c:TT}{tb:TS}{D:Ends}{σ:St}{H:Hp}(Pv:St->Hp->Prop)(μ:St->Hp->Nat)(h0:Pv σ H)
  (hs:∀σ H,Pv σ H->c σ H fun b H1=>if b=true then tb {D with nx:=fun σ' H'=>Pv σ' H'/\μ σ' H'<μ σ H,ct:=fun σ' H'=>Pv σ' H'/\μ σ' H'<μ σ H,bk:=D.nx} σ H1 else D.nx σ H1)
  (mono:∀σ H Q Q',(∀b H1,Q b H1->Q' b H1)->c σ H Q->c σ H Q'):Ej c tb D σ H:=by
 refine⟨fun m σ H=>m=μ σ H/\Pv σ H,⟨_,rfl,h0⟩,?_⟩
 rintro m σ H ⟨rfl,p⟩
 refine mono σ H _ _ (fun b H1 q=>?_) (hs σ H p)
 cases b with
 |true=>exact⟨_,fun σ' H' ⟨p',l⟩=>⟨_,l,rfl,p'⟩,q⟩
 |false=>exact q
abbrev R2:=V->V->Hp->VK->Prop
def dY(X:Cx)(f:Value->Value->Sem Value)(r:R2):Prop:=
 ∀(pins:List (Addr×Obj)) (s:Shared) (σ:St) (H:Hp) (x y:V) (v u:Value) (Q:VK),Inv X pins σ H s->RelV x v->RelV y u->r x y H Q->
  wpAny (model X.prog X.w) X.A (f v u) (EP X pins σ Q) X.xe s
def zo(X:Cx)(f:Value->Sem Value)(r:V->Hp->VK->Prop):Prop:=
 ∀(pins:List (Addr×Obj)) (s:Shared) (σ:St) (H:Hp) (x:V) (v:Value) (Q:VK),Inv X pins σ H s->RelV x v->r x H Q->
  wpAny (model X.prog X.w) X.A (f v) (EP X pins σ Q) X.xe s
def gR(X:Cx)(f:Value)(r:List V->Hp->VK->Prop):Prop:=
 ∀(pins:List (Addr×Obj)) (s:Shared) (σ:St) (H:Hp) (xs:List V) (us:List Value) (Q:VK),Inv X pins σ H s->Vals xs us->r xs H Q->
  wpAny (model X.prog X.w) X.A (call f us) (EP X pins σ Q) X.xe s
def Vl(X:Cx)(r:V->Hp->(Bool->Hp->Prop)->Prop):Prop:=
 ∀(pins:List (Addr×Obj)) (s:Shared) (σ:St) (H:Hp) (x:V) (v:Value) (Q:Bool->Hp->Prop),Inv X pins σ H s->RelV x v->r x H Q->
  wpAny (model X.prog X.w) X.A (truthy v) (TP X pins σ Q) X.xe s
def cK(r:R2)(ta tb:TE):TE:=fun σ H Q=>ta σ H fun x H1=>tb σ H1 fun y H2=>r x y H2 Q
def C8(r:V->Hp->VK->Prop)(ta:TE):TE:=fun σ H Q=>ta σ H fun x H1=>r x H1 Q
def rI(C:Int->Int->Prop)(g:Int->Int->V):R2:=fun x y H Q=>∃i j,x= .int i/\y= .int j/\C i j/\Q (g i j) H
def je(g:Int->Int->V):R2:=fun x y H Q=>∃i j,x= .int i/\y= .int j/\Q (g i j) H
def rU(g:Int->V):V->Hp->VK->Prop:=fun x H Q=>∃i,x= .int i/\Q (g i) H
section
variable{X:Cx}{a b c:Expr}{ta tb tc:TE}{pos:Pos}
theorem Bx(ha:PE X a ta)(hb:PE X b tb){pins:List (Addr×Obj)}{s:Shared}{σ:St}{H:Hp}{R:V->V->Hp->Prop}(I:Inv X pins σ H s)
  (h:ta σ H fun x H1=>tb σ H1 fun y H2=>R x y H2) {Q:Value->Shared->Prop} {f:Value->Value->Sem Value}
  (hf:∀v u s2 x y H2,Inv X pins σ H2 s2->RelV x v->RelV y u->R x y H2->wpAny (model X.prog X.w) X.A (f v u) Q X.xe s2):
  wpAny (model X.prog X.w) X.A (eval a X.env) (fun v s₁=>wpAny (model X.prog X.w) X.A (eval b X.env) (fun u s₂=>wpAny (model X.prog X.w) X.A (f v u) Q X.xe s₂) X.xe s₁) X.xe s:=by
 refine aO (ha pins s σ H _ I h) fun v s1 ⟨x,H1,I1,r1,q1⟩=>?_
 refine aO (hb pins s1 σ H1 _ I1 q1) fun u s2 ⟨y,H2,I2,r2,q2⟩=>?_
 exact hf v u s2 x y H2 I2 r1 r2 q2
theorem aG{op:Operator}{r:R2}(ho:dY X (binaryOp op) r)(ha:PE X a ta)(hb:PE X b tb):PE X (.BinOp a op b pos) (cK r ta tb):=by
 intro pins s σ H Q I h
 exact wpAny_BinOp (Bx ha hb I h fun v u s2 x y H2 I2 rx ry q=>ho pins s2 σ H2 x y v u Q I2 rx ry q)
theorem AJ{op:UnaryOp}{r:V->Hp->VK->Prop}(ho:zo X (unaryOp op) r)(ha:PE X a ta):PE X (.UnaryOp op a pos) (C8 r ta):=by
 intro pins s σ H Q I h
 exact UnaryOp_ (aO (ha pins s σ H _ I h) fun v s1 ⟨x,H1,I1,r1,q1⟩=>ho pins s1 σ H1 x v Q I1 r1 q1)
theorem wH{f:Value->Value->Sem Value}{C:Int->Int->Prop}{g:Int->Int->Int}
  (rule:∀(i j:Int) (t u:Tok) (s:Shared) (Q:Value->Shared->Prop) (E:Value->Shared->Prop),C i j->Q (.int (g i j) s.toks) {s with toks:=s.toks+1}->wpAny (model X.prog X.w) X.A (f (.int i t) (.int j u)) Q E s):
  dY X f (rI C fun i j=> .int (g i j)):=by
 intro pins s σ H x y v u Q I rx ry h
 obtain⟨i,j,rfl,rfl,hc,q⟩:=h
 obtain⟨t,rfl⟩:=rx
 obtain⟨t',rfl⟩:=ry
 exact rule i j t t' s _ _ hc ⟨.int (g i j),H,I.tok _,⟨_,rfl⟩,q⟩
theorem Hh{f:Value->Value->Sem Value}{g:Int->Int->Int}
  (rule:∀(i j:Int) (t u:Tok) (s:Shared) (Q:Value->Shared->Prop) (E:Value->Shared->Prop),Q (.int (g i j) s.toks) {s with toks:=s.toks+1}->wpAny (model X.prog X.w) X.A (f (.int i t) (.int j u)) Q E s):
  dY X f (je fun i j=> .int (g i j)):=by
 intro pins s σ H x y v u Q I rx ry h
 obtain⟨i,j,rfl,rfl,q⟩:=h
 obtain⟨t,rfl⟩:=rx
 obtain⟨t',rfl⟩:=ry
 exact rule i j t t' s _ _ ⟨.int (g i j),H,I.tok _,⟨_,rfl⟩,q⟩
theorem yZ{f:Value->Value->Sem Value}{g:Int->Int->Bool}
  (rule:∀(i j:Int) (t u:Tok) (s:Shared) (Q:Value->Shared->Prop) (E:Value->Shared->Prop),Q (.bool (g i j)) s->wpAny (model X.prog X.w) X.A (f (.int i t) (.int j u)) Q E s):
  dY X f (je fun i j=> .bl (g i j)):=by
 intro pins s σ H x y v u Q I rx ry h
 obtain⟨i,j,rfl,rfl,q⟩:=h
 obtain⟨t,rfl⟩:=rx
 obtain⟨t',rfl⟩:=ry
 exact rule i j t t' s _ _ ⟨.bl (g i j),H,I,rfl,q⟩
def AX(i j:Int):Prop:=0<=j/\j<=1000000/\i.natAbs<2^64
def uh(i j:Int):Prop:=(-(2^64)<i/\i<2^64)\/(-(2^64)<j/\j<2^64)
theorem uh.ok{i j:Int}(h:uh i j):IntMulOk i j:=by
 rcases h with ⟨h1,h2⟩|⟨h1,h2⟩
 ·exact .of_left (intBits_le_64 h1 h2)
 ·exact .of_right (intBits_le_64 h1 h2)
theorem dg:dY X (binaryOp .Add) (je fun i j=> .int (i+j)):=Hh fun _ _ _ _ _ _ _ q=>add_int q
theorem kT:dY X (binaryOp .Sub) (je fun i j=> .int (i-j)):=Hh fun _ _ _ _ _ _ _ q=>sub_int q
theorem fM:dY X (binaryOp .Mod) (rI (fun _ j=>0<j) fun i j=> .int (i%j)):=wH fun i j _ _ _ _ _ hc q=>by
 have h1:(0:Int)<j:=hc
 exact mod_int' (by omega) (by rw[Int.fmod_eq_emod_of_nonneg i (by omega)];exact q)
theorem vj:dY X (binaryOp .Pow) (rI AX fun i j=> .int (i^j.toNat)):=wH fun _ _ _ _ _ _ _ hc q=>pow_int_small hc.1 hc.2.1 hc.2.2 q
theorem XM{f:Value->Sem Value}{g:Int->Int}
  (rule:∀(i:Int) (t:Tok) (s:Shared) (Q:Value->Shared->Prop) (E:Value->Shared->Prop),Q (.int (g i) s.toks) {s with toks:=s.toks+1}->wpAny (model X.prog X.w) X.A (f (.int i t)) Q E s):
  zo X f (rU fun i=> .int (g i)):=by
 intro pins s σ H x v Q I rx h
 obtain⟨i,rfl,q⟩:=h
 obtain⟨t,rfl⟩:=rx
 exact rule i t s _ _ ⟨.int (g i),H,I.tok _,⟨_,rfl⟩,q⟩
theorem yg:zo X (unaryOp .USub) (rU fun i=> .int (-i)):=XM fun _ _ _ _ _ q=>neg_int q
end
def zU:V->V->Bool
 | .aL, .aL=>true| .aL, .int _=>true| .int _, .aL=>true| .aL, .bl _=>true| .bl _, .aL=>true| .aL, .str _=>true| .str _, .aL=>true
 | .int _, .int _=>true| .bl _, .bl _=>true| .str _, .str _=>true| .i7 _, .i7 _=>true
 | .int _, .str _=>true| .str _, .int _=>true| .bl _, .str _=>true| .str _, .bl _=>true
 |_,_=>false
def BP:R2:=fun x y H Q=>zU x y=true/\Q (.bl (decide (x=y))) H
def Ak:R2:=fun x y H Q=>zU x y=true/\Q (.bl (!decide (x=y))) H
theorem JP{i j:Int}:decide (V.int i=V.int j)=(i==j):=by
 rw[k9]
 simp
theorem GG{i j:Bool}:decide (V.bl i=V.bl j)=(i==j):=by
 rw[k9]
 simp
theorem KO{i j:Str}:decide (V.str i=V.str j)=(i==j):=by
 rw[k9]
 simp
theorem KD{i j:Array UInt8}:decide (V.i7 i=V.i7 j)=(i.toList==j.toList):=by
 rw[k9]
 cases i
 cases j
 simp
section
variable{X:Cx}{a b c:Expr}{ta tb tc:TE}{pos:Pos}
theorem cY{pins:List (Addr×Obj)}{σ:St}{H:Hp}{s:Shared}{Q:VK}{k k':Bool}(I:Inv X pins σ H s)(q:Q (.bl k) H)(e:k=k'):EP X pins σ Q (.bool k') s:=by
 subst e
 exact⟨.bl k,H,I,rfl,q⟩
theorem i6:dY X (compareOp .Eq) BP:=by
  intro pins s σ H x y v u Q I rx ry h
  obtain⟨hs,q⟩:=h
  cases x with
  | aL =>
    cases rx
    cases y with
    |aL=>cases ry;exact PySem.EqNone.eq_none_none (cY I q (by simp))
    |bl j=>cases ry;exact PySem.EqNone.eq_none_bool (cY I q (by simp))
    |int j=>obtain⟨t',rfl⟩:=ry;exact PySem.EqNone.eq_none_int (cY I q (by simp))
    |str j=>obtain⟨t',rfl⟩:=ry;exact PySem.EqNone.eq_none_str (cY I q (by simp))
    |_=>exact absurd (show false=true from hs) dH
  | bl i =>
    cases rx
    cases y with
    |aL=>cases ry;exact PySem.EqNone.eq_bool_none (cY I q (by simp))
    |bl j=>cases ry;exact eq_bool (cY I q GG)
    |str j=>obtain⟨t',rfl⟩:=ry;exact PySem.EqMixed.eq_bool_str (cY I q (by simp))
    |_=>exact absurd (show false=true from hs) dH
  | int i =>
    obtain⟨t,rfl⟩:=rx
    cases y with
    |aL=>cases ry;exact PySem.EqNone.eq_int_none (cY I q (by simp))
    |int j=>obtain⟨t',rfl⟩:=ry;exact eq_int (cY I q JP)
    |str j=>obtain⟨t',rfl⟩:=ry;exact PySem.EqMixed.eq_int_str (cY I q (by simp))
    |_=>exact absurd (show false=true from hs) dH
  | str i =>
    obtain⟨t,rfl⟩:=rx
    cases y with
    |aL=>cases ry;exact PySem.EqNone.eq_str_none (cY I q (by simp))
    |bl j=>cases ry;exact PySem.EqMixed.eq_str_bool (cY I q (by simp))
    |int j=>obtain⟨t',rfl⟩:=ry;exact PySem.EqMixed.eq_str_int (cY I q (by simp))
    |str j=>obtain⟨t',rfl⟩:=ry;exact eq_str (cY I q KO)
    |_=>exact absurd (show false=true from hs) dH
  | i7 i =>
    obtain⟨t,rfl⟩:=rx
    cases y with
    |i7 j=>obtain⟨t',rfl⟩:=ry;exact PySem.W.eq_bytes (cY I q KD)
    |_=>exact absurd (show false=true from hs) dH
  |_=>cases y<;>exact absurd (show false=true from hs) dH
theorem lD:dY X (compareOp .NotEq) Ak:=by
  intro pins s σ H x y v u Q I rx ry h
  obtain⟨hs,q⟩:=h
  cases x with
  | aL =>
    cases rx
    cases y with
    |aL=>cases ry;exact PySem.EqNone.ne_none_none (cY I q (by simp))
    |bl j=>cases ry;exact PySem.EqNone.ne_none_bool (cY I q (by simp))
    |int j=>obtain⟨t',rfl⟩:=ry;exact PySem.EqNone.ne_none_int (cY I q (by simp))
    |str j=>obtain⟨t',rfl⟩:=ry;exact PySem.EqNone.ne_none_str (cY I q (by simp))
    |_=>exact absurd (show false=true from hs) dH
  | bl i =>
    cases rx
    cases y with
    |aL=>cases ry;exact PySem.EqNone.ne_bool_none (cY I q (by simp))
    |bl j=>cases ry;exact ne_bool (cY I q (congrArg not GG))
    |str j=>obtain⟨t',rfl⟩:=ry;exact PySem.EqMixed.ne_bool_str (cY I q (by simp))
    |_=>exact absurd (show false=true from hs) dH
  | int i =>
    obtain⟨t,rfl⟩:=rx
    cases y with
    |aL=>cases ry;exact PySem.EqNone.ne_int_none (cY I q (by simp))
    |int j=>obtain⟨t',rfl⟩:=ry;exact ne_int (cY I q (congrArg not JP))
    |str j=>obtain⟨t',rfl⟩:=ry;exact PySem.EqMixed.ne_int_str (cY I q (by simp))
    |_=>exact absurd (show false=true from hs) dH
  | str i =>
    obtain⟨t,rfl⟩:=rx
    cases y with
    |aL=>cases ry;exact PySem.EqNone.ne_str_none (cY I q (by simp))
    |bl j=>cases ry;exact PySem.EqMixed.ne_str_bool (cY I q (by simp))
    |int j=>obtain⟨t',rfl⟩:=ry;exact PySem.EqMixed.ne_str_int (cY I q (by simp))
    |str j=>obtain⟨t',rfl⟩:=ry;exact ne_str (cY I q (congrArg not KO))
    |_=>exact absurd (show false=true from hs) dH
  | i7 i =>
    obtain⟨t,rfl⟩:=rx
    cases y with
    |i7 j=>obtain⟨t',rfl⟩:=ry;exact PySem.W.ne_bytes (cY I q (congrArg not KD))
    |_=>exact absurd (show false=true from hs) dH
  |_=>cases y<;>exact absurd (show false=true from hs) dH
theorem wR:dY X (compareOp .Lt) (je fun i j=> .bl (decide (i<j))):=yZ fun _ _ _ _ _ _ _ q=>lt_int q
theorem Ik:dY X (compareOp .LtE) (je fun i j=> .bl (decide (i<=j))):=yZ fun _ _ _ _ _ _ _ q=>le_int q
theorem zQ:dY X (compareOp .Gt) (je fun i j=> .bl (decide (j<i))):=yZ fun _ _ _ _ _ _ _ q=>gt_int q
theorem Ry:dY X (compareOp .Is) (fun x y H Q=>y= .aL/\Q (.bl (decide (x= .aL))) H):=by
 intro pins s σ H x y v u Q I rx ry h
 obtain⟨rfl,q⟩:=h
 cases ry
 refine is_none_gen (cY I q ?_)
 cases x<;>first
  |(cases rx;rfl)
  |(obtain⟨t,rfl⟩:=rx;rfl)
theorem W7:dY X (compareOp .IsNot) (fun x y H Q=>y= .aL/\Q (.bl (!decide (x= .aL))) H):=by
 intro pins s σ H x y v u Q I rx ry h
 obtain⟨rfl,q⟩:=h
 cases ry
 refine isnot_none_gen (cY I q ?_)
 cases x<;>first
  |(cases rx;rfl)
  |(obtain⟨t,rfl⟩:=rx;rfl)
theorem bN(b:Expr){op:CmpOp}(h:op≠ .In:=by decide)(h2:op≠ .NotIn:=by decide):behindInMarks op b=false:=by
 have e1:(op==CmpOp.In)=false:=by cases op<;>first|rfl|exact absurd rfl h
 have e2:(op==CmpOp.NotIn)=false:=by cases op<;>first|rfl|exact absurd rfl h2
 cases b<;>simp[behindInMarks,e1,e2]
theorem jy{op:CmpOp}{r:R2}(ho:dY X (compareOp op) r)(ha:PE X a ta)(hb:PE X b tb)(hm:behindInMarks op b=false):PE X (.Compare a [op] [b] pos) (cK r ta tb):=by
 intro pins s σ H Q I h
 exact wpAny_Compare1 (Bx ha hb I h fun v u s2 x y H2 I2 rx ry q=>ho pins s2 σ H2 x y v u Q I2 rx ry q) hm
def Dd(t:TE):TT:=fun σ H Q=>t σ H fun x H'=>∃k,x= .bl k/\Q k H'
theorem cF{op:CmpOp}{r:R2}(ho:dY X (compareOp op) r)(ha:PE X a ta)(hb:PE X b tb)(hm:behindInMarks op b=false):PT X (.Compare a [op] [b] pos) (Dd (cK r ta tb)):=by
 intro pins s σ H Q I h
 refine wpAny_isTrue_Compare1 (aO (ha pins s σ H _ I h) fun v s1 ⟨x,H1,I1,r1,q1⟩=>aO (hb pins s1 σ H1 _ I1 q1) fun u s2 ⟨y,H2,I2,r2,q2⟩=>
  aO (ho pins s2 σ H2 x y v u _ I2 r1 r2 q2) fun c s3 ⟨z,H3,I3,r3,k,e,q3⟩=>?_) hm
 subst e
 cases r3
 exact wpAny_truthy_bool ⟨H3,I3,q3⟩
def yM(K:PySem.W.Frag)(x:V)(H:Hp)(k:Bool):Prop:=
 match x with
 | .aL=>k=false
 | .bl b=>k=b
 | .int i=>k=(i !=0)
 | .str y=>y.length<=sizeLine/\k=((y.length:Int) !=0)
 | .i7 y=>y.size<=sizeLine/\k=((y.size:Int) !=0)
 | .ref p=>(∃xs,aS K H p xs/\k=!xs.isEmpty)\/(∃xs,gE K H p xs/\k=!xs.isEmpty)\/∃kvs,H p=some (.dK kvs)/\k=!kvs.isEmpty
 |_=>False
theorem Sz{κ:Type}{kvs:List (κ×V)}{vs:List (κ×Value)}(r:KV kvs vs):(!vs.isEmpty)=!kvs.isEmpty:=by
 cases r<;>rfl
theorem GH{xs:List V}{its:List Value}(r:Vals xs its):(!its.toArray.isEmpty)=!xs.isEmpty:=by
 cases r<;>simp
theorem tG:(sizeLine:Nat)<2^63:=by rw[sizeLine_eq];decide
theorem MX:Vl X (fun x H Q=>∃k,yM X.K x H k/\Q k H):=by
  intro pins s σ H x v Q I rx h
  obtain⟨k,e,q⟩:=h
  have hl:=tG
  have hs:sizeLine=16777216:=sizeLine_eq
  cases x with
  | aL =>
    cases rx
    have e':k=false:=e
    subst e'
    exact truthy_none ⟨H,I,q⟩
  | bl b =>
    cases rx
    have e':k=b:=e
    subst e'
    exact wpAny_truthy_bool ⟨H,I,q⟩
  | int i =>
    obtain⟨t,rfl⟩:=rx
    have e':k=(i !=0):=e
    subst e'
    exact PySem.P.truthy_int ⟨H,I,q⟩
  | str y =>
    obtain⟨t,rfl⟩:=rx
    obtain⟨hy,e'⟩:y.length<=sizeLine/\k=((y.length:Int) !=0):=e
    subst e'
    exact PySem.P.truthy_str (by omega) ⟨H,I.tok _,q⟩
  | i7 y =>
    obtain⟨t,rfl⟩:=rx
    obtain⟨hy,e'⟩:y.size<=sizeLine/\k=((y.size:Int) !=0):=e
    subst e'
    exact PySem.W.truthy_bytes (by omega) ⟨H,I.tok _,q⟩
  | ref p =>
    cases rx
    have e':(∃xs,aS X.K H p xs/\k=!xs.isEmpty)\/(∃xs,gE X.K H p xs/\k=!xs.isEmpty)\/∃kvs,H p=some (.dK kvs)/\k=!kvs.isEmpty:=e
    rcases e' with ⟨xs,hx,e'⟩|⟨xs,hx,e'⟩|⟨kvs,hx,e'⟩
    · subst e'
      obtain⟨its,r,pl,hz⟩:=I.list hx
      have hlen:=r.length
      exact wpAny_truthy_list pl.isList (by simp only[cG];omega) ⟨H,I.tok _,by rw[GH r];exact q⟩
    · subst e'
      obtain⟨its,r,pl,hz⟩:=I.tuple hx
      have hlen:=r.length
      exact truthy_tuple pl (by simp only[cG];omega) ⟨H,I.tok _,by rw[GH r];exact q⟩
    · subst e'
      obtain⟨hz,hS,vs,r,m⟩:kvs.length<=sizeLine/\(p==sysModules)=false/\∃vs,KV kvs vs/\s.heap.DictOf (dX X.prog X.w) p vs:=I.hok p _ hx
      have hlen:kvs.length=vs.length:=Paired.length r
      exact wpAny_truthy_dict hS m (by omega) ⟨H,I.tok _,by rw[Sz r];exact q⟩
  |_=>exact(show False from e).elim
theorem Ql(ha:PE X a ta)(he:∀whole,isTrue a X.env whole=(do let v<-whole;standAt a.pos;holding [v] (truthy v))):
  PT X a (fun σ H Q=>ta σ H fun x H'=>∃k,yM X.K x H' k/\Q k H'):=by
 intro pins s σ H Q I h
 exact isTrue_plain (aO (ha pins s σ H _ I h) fun v s1 ⟨x,H1,I1,r1,q1⟩=>MX pins s1 σ H1 x v Q I1 r1 q1) (he _)
theorem vals1{x:V}{us:List Value}(r:Vals [x] us):∃u,us=[u]/\RelV x u:=by
 cases r with
 |cons r1 r2=>cases r2;exact⟨_,rfl,r1⟩
theorem vals2{x y:V}{us:List Value}(r:Vals [x,y] us):∃u w',us=[u,w']/\RelV x u/\RelV y w':=by
  cases r with
  | cons r1 r2 =>
    cases r2 with
    |cons r3 r4=>cases r4;exact⟨_,_,rfl,r1,r3⟩
theorem Rz:gR X (.builtin "abs") (fun xs H Q=>∃i,xs=[.int i]/\Q (.int (if i<0 then-i else i)) H):=by
 intro pins s σ H xs us Q I r h
 obtain⟨i,rfl,q⟩:=h
 obtain⟨u,rfl,t,rfl⟩:=vals1 r
 exact call_abs_int fun u tk=>⟨.int (if i<0 then-i else i),H,I.tok _,⟨_,rfl⟩,q⟩
theorem W8(hc:X.calm=true):gR X (.builtin "min") (fun xs H Q=>∃i j,xs=[.int i, .int j]/\Q (.int (if j<i then j else i)) H):=by
 intro pins s σ H xs us Q I r h
 obtain⟨i,j,rfl,q⟩:=h
 obtain⟨u,w',rfl,⟨t,rfl⟩,⟨t',rfl⟩⟩:=vals2 r
 refine min_two_ints (I.ok.hd hc) fun h' tk k=>⟨_,H,I.kept k,?_,q⟩
 by_cases hj:j<i
 ·rw[if_pos hj,if_pos hj];exact⟨_,rfl⟩
 ·rw[if_neg hj,if_neg hj];exact⟨_,rfl⟩
theorem Rg:gR X (.type "int") (fun xs H Q=>(∃i,xs=[.int i]/\Q (.int i) H)\/∃k,xs=[.bl k]/\Q (.int (if k then 1 else 0)) H):=by
 intro pins s σ H xs us Q I r h
 rcases h with ⟨i,rfl,q⟩|⟨k,rfl,q⟩
 ·obtain⟨u,rfl,t,rfl⟩:=vals1 r
  exact call_int_int ⟨.int i,H,I,⟨_,rfl⟩,q⟩
 ·obtain⟨u,rfl,r1⟩:=vals1 r
  cases r1
  exact call_int_bool ⟨.int (if k then 1 else 0),H,I.tok _,⟨_,rfl⟩,q⟩
end
structure nP(h:Heap)(x dx C:Addr)(mA:Str->Option Value):Prop where
 obj:h.get? x=some (PySem.W.instObj C dx)
 ns:h.Ns1 dx mA
 ne:dx≠x
theorem V8{h:Heap}{dx:Addr}{mA:Str->Option Value}(n:h.Ns1 dx mA):∃od,h.get? dx=some od/\∀name,PySem.W.lookIn name od=some (mA name):=by
 obtain⟨o,es,ep,ho,hd,hk,_,hm⟩:=n
 refine⟨o,ho,fun name=>?_⟩
 have e:=hm name
 unfold nsFind findBy at e
 rw[<-Array.find?_toList] at e
 unfold PySem.W.lookIn
 rw[hd]
 dsimp only
 split
 ·rename_i y q
  rw[q] at e
  exact congrArg some e
 ·rename_i q
  rw[q] at e
  have a:es.toList.any (·.refKey)=false:=by
   rw[List.any_eq_false]
   intro y hy
   obtain⟨z,t,hkey⟩:=hk y (Array.mem_toList_iff.mp hy)
   simp[DictEntry.refKey,hkey]
  have a':¬es.toList.any (·.refKey)=true:=by rw[a];exact dH
  rw[if_neg a']
  exact congrArg some e
theorem nP.look{h:Heap}{x dx C:Addr}{mA:Str->Option Value}(I:nP h x dx C mA):∃od,PySem.W.InstAt h x (PySem.W.instObj C dx) C (some od)/\∀name,PySem.W.lookIn name od=some (mA name):=
 let ⟨od,ho,hl⟩:=V8 I.ns
 ⟨od,⟨I.obj,rfl,rfl,ho⟩,hl⟩
section
variable{prog:Program}{w:World}{A:Around}{E:Value->Shared->Prop}{s:Shared}{K:PySem.W.Frag}{x dx C f:Addr}{mA:Str->Option Value}{name:Str}{v:Value}
theorem get_map{expr:Bool}{Q:Value->Shared->Prop}(X:K.In s.heap)(I:nP s.heap x dx C mA)(hg:PySem.W.plainGet K C name=true)(hh:PySem.W.hasDictIn K C=true)
  (ha:PySem.W.findIn K (.ref C) name=some none) (hv:mA name=some v) (hv':PySem.W.handedIn v=true) (h:Q v {s with toks:=s.toks+1}):
  wpAny (model prog w) A (getAttr (.ref x) name expr) Q E s:=by
 obtain⟨od,J,hl⟩:=I.look
 exact PySem.W.get_value X J (DZ hg).1 (PySem.W.findObj_own hh ha rfl (by rw[hl,hv])) hv' h
theorem Lk{pl:Sem Bool}{Q:Value×List Value->Shared->Prop}(X:K.In s.heap)(I:nP s.heap x dx C mA)(hg:PySem.W.plainGet K C name=true)
  (hf:PySem.W.findIn K (.ref C) name=some (some (.ref f))) (ht:PySem.W.isFn K (.ref f)=true) (hv:mA name=none) (h:Q (.ref f,[.ref x]) s):
  wpAny (model prog w) A (getMethod (.ref x) name pl) Q E s:=by
 obtain⟨od,J,hl⟩:=I.look
 exact PySem.W.method_fn X J (DZ hg).1 (DZ hg).2 hf (beq_iff_eq.mp ht) (by show(PySem.W.lookIn name od).map (·.isSome)=some false;rw[hl,hv];rfl) h
theorem Uz{ns:List Str}{Q:Unit->Shared->Prop}(X:K.In s.heap)(I:nP s.heap x dx C mA)
  (hs:PySem.W.findIn K (.ref C) "__setattr__"=some (some (.builtin "object.__setattr__"))) (hp:PySem.W.plainOver K C=true) (ht:PySem.W.takerIn K C name=some none) (hh:PySem.W.hasDictIn K C=true)
  (hw:PySem.Within mA ns) (hsz:ns.length<=sizeLine)
  (h:∀h',nP h' x dx C (fun y=>if y=name then some v else mA y)->Heap.SameBut dx s.heap h'->Q () {s with heap:=h',toks:=s.toks+2}):
  wpAny (model prog w) A (setAttr (.ref x) name v) Q E s:=by
 obtain⟨od,J,hl⟩:=I.look
 refine PySem.W.set_plain X J hs (PySem.W.osa_open (s:={s with toks:=s.toks+1}) (r:=none) X J hp ht fun b=>?_)
 obtain⟨cd,hc,hd'⟩:=PySem.W.any_some hh
 have hx:s.heap.get? x=some ⟨.ref C,some dx, .plain,#[]⟩:=I.obj
 refine wpAny_bind (wpAny_pure (wpAny_bind (wpAny_bind (wpAny_loadPart hx (wpAny_bind (PySem.W.Looks.here (s:={s with toks:=s.toks+1}) (PySem.W.looks_clsIn X hc) ?_))))))
 rw[hd']
 refine wpAny_pure (a:=some dx) (wpAny_bind (wpAny_pure (wpAny_bind ?_)))
 refine wpAny_nsSet1 (s:={s with toks:=s.toks+1}) I.ns fun h' hn2 hs2=>?_
 obtain⟨oD,esD,Ym,Mr,XW,WS⟩:=hn2.count (PySem.Within.cons name v hw)
 refine wpAny_bind (wpAny_lookBehind Mr (by rw[XW];exact pastItsLine_dict (cX WS (by rw[fB];omega))) ?_)
 exact wpAny_pure (h _ ⟨(hs2.2 _ (bx I.ne)).trans I.obj,hn2,I.ne⟩ hs2)
theorem Vn{R:Result->Shared->Prop}{vs:List Value}{kw:List (Str×Value)}(X:K.In s.heap)(hm:PySem.W.makesIn K C=true)
  (hi:PySem.W.findIn K (.ref C) "__init__"=some (some (.ref f))) (hf:PySem.W.typeIn K (.ref f)=some (.type "function"))
  (h : codeAny (model prog w) (A.under (.builtin "type.__call__" ⟨.ref C :: vs, kw⟩)) (.call (.ref f) ⟨.ref (s.heap.objs.size + 1) :: vs, kw⟩) (PySem.W.InitBack (s.heap.objs.size + 1) R)
   {s with heap:=(s.heap.push PySem.W.emptyDict).push (PySem.W.instObj C s.heap.objs.size)}):
  codeAny (model prog w) A (.call (.ref C) ⟨vs,kw⟩) R s:=by
 obtain⟨hh,g,d,t,os⟩:=s
 exact PySem.W.make_core (PySem.W.makes_of X hm) (PySem.W.looks_findIn X hi) (fun self=>PySem.W.bind_fn X self hf) (.inl rfl) h
end
def gD(f:Str)(v:V):List (Str×V)->List (Str×V)
 |[]=>[(f,v)]
 |(g,x)::r=>if g=f then(g,v)::r else(g,x)::gD f v r
theorem K1(f g:Str)(v:V):∀fs:List (Str×V),(gD f v fs).lookup g=if g=f then some v else fs.lookup g
  | [] => by
    show List.lookup g [(f,v)]=_
    by_cases h:g=f
    · have hb:(g==f)=true:=beq_iff_eq.mpr h
      simp only[List.lookup,hb,if_pos h]
    · have hb:(g==f)=false:=beq_eq_false_iff_ne.mpr h
      simp only[List.lookup,hb,if_neg h]
  | (k, x) :: r => by
    have ih:=K1 f g v r
    rw[show gD f v ((k,x)::r)=(if k=f then(k,v)::r else(k,x)::gD f v r) from rfl]
    by_cases hk:k=f
    · rw[if_pos hk]
      by_cases h:g=k
      · have hb:(g==k)=true:=beq_iff_eq.mpr h
        simp only[List.lookup,hb,if_pos (h.trans hk)]
      · have hb:(g==k)=false:=beq_eq_false_iff_ne.mpr h
        simp only[List.lookup,hb,if_neg (fun e:g=f=>h (e.trans hk.symm))]
    · rw[if_neg hk]
      by_cases h:g=k
      · have hb:(g==k)=true:=beq_iff_eq.mpr h
        simp only[List.lookup,hb,if_neg (fun e:g=f=>hk (h.symm.trans e))]
      · have hb:(g==k)=false:=beq_eq_false_iff_ne.mpr h
        simp only[List.lookup,hb]
        exact ih
theorem zw(f:Str)(v:V):∀fs:List (Str×V),f∈(gD f v fs).map (·.1)/\∀g,g∈fs.map (·.1)->g∈(gD f v fs).map (·.1)
  |[]=>⟨by simp[gD],fun g h=>by simp at h⟩
  | (k, x) :: r => by
    obtain⟨i1,i2⟩:=zw f v r
    rw[show gD f v ((k,x)::r)=(if k=f then(k,v)::r else(k,x)::gD f v r) from rfl]
    by_cases hk:k=f
    · rw[if_pos hk]
      subst hk
      exact⟨by simp,fun g h=>by simpa using h⟩
    · rw[if_neg hk]
      refine⟨?_,fun g h=>?_⟩
      · rw[bC]
        exact bY _ i1
      · rw[bC] at h⊢
        rcases bq.mp h with e|e
        · exact bq.mpr (.inl e)
        · exact bY _ (i2 g e)
theorem J9(f:Str)(v:V):∀fs:List (Str×V),(gD f v fs).length<=fs.length+1
  |[]=>by simp[gD]
  | (k, x) :: r => by
    have ih:=J9 f v r
    rw[show gD f v ((k,x)::r)=(if k=f then(k,v)::r else(k,x)::gD f v r) from rfl]
    by_cases hk:k=f
    · rw[if_pos hk,fB,fB];omega
    · rw[if_neg hk,fB,fB];omega
theorem iY.some_of{v:V}{o:Option Value}(r:iY (some v) o):∃u,o=some u/\RelV v u:=by
 cases o with
 |none=>exact(show False from r).elim
 |some u=>exact⟨u,rfl,r⟩
theorem iY.none_of{o:Option Value}(r:iY none o):o=none:=by
 cases o with
 |none=>rfl
 |some u=>exact(show False from r).elim
theorem R9{v:V}{u:Value}(r:RelV v u):PySem.W.handedIn u=true:=by
 cases v with
 |aL=>cases (show u=Value.none from r);rfl
 |bl b=>cases (show u=Value.bool b from r);rfl
 |int i=>obtain⟨t,e⟩:=(show∃t,u=Value.int i t from r);cases e;rfl
 |str x=>obtain⟨t,e⟩:=(show∃t,u=Value.str x t from r);cases e;rfl
 |i7 b=>obtain⟨t,e⟩:=(show∃t,u=Value.bytes b t from r);cases e;rfl
 |kO b=>obtain⟨t,e⟩:=(show∃t,u=Value.float b t from r);cases e;rfl
 |ref a=>cases (show u=Value.ref a from r);rfl
 |ty n=>cases (show u=Value.type n from r);rfl
section
variable{P:Program}{w:World}{H H':Hp}{h h':Heap}{a C dx:Addr}{fs fs':List (Str×V)}
theorem uX(hok:dD P w H h)(e:H a=some (.ins C dx fs)):∃mA,nP h a dx C mA/\(∀f,iY (fs.lookup f) (mA f))/\PySem.Within mA (fs.map (·.1))/\fs.length<=1000/\H dx=some (.own a):=by
 obtain⟨d,z,ne,ob,mA,n,r,q⟩:=(show cD P w H h a (.ins C dx fs) from hok a _ e)
 exact⟨mA,⟨ob,n,ne⟩,r,q,z,d⟩
end
structure gF(K:PySem.W.Frag)(C:Addr):Prop where
 pg:PySem.W.plainGet K C Str.empty=true
 hd:PySem.W.hasDictIn K C=true
 po:PySem.W.plainOver K C=true
 sa:PySem.W.findIn K (.ref C) "__setattr__"=some (some (.builtin "object.__setattr__"))
theorem gF.get{K:PySem.W.Frag}{C:Addr}(c:gF K C)(f:Str):PySem.W.plainGet K C f=true:=c.pg
def gT(K:PySem.W.Frag)(C:Addr)(f:Str):Prop:=PySem.W.findIn K (.ref C) f=some none
theorem gT.Ut{K:PySem.W.Frag}{C:Addr}{f:Str}(n:gT K C f):PySem.W.takerIn K C f=some none:=by
 unfold PySem.W.takerIn
 rw[show PySem.W.findIn K (.ref C) f=some none from n]
 rfl
structure Meth(K:PySem.W.Frag)(C:Addr)(m:Str)(f:Addr):Prop where
 at_:PySem.W.findIn K (.ref C) m=some (some (.ref f))
 fn:PySem.W.isFn K (.ref f)=true
 kp:PySem.W.keepIn K (.ref f)=true
section
variable{X:Cx}{pins:List (Addr×Obj)}{σ:St}{H:Hp}{s:Shared}{a C dx:Addr}{fs:List (Str×V)}{f:Str}{v:V}{A:Around}{E:Value->Shared->Prop}
theorem Pn{b:Bool}{Q:Value->Shared->Prop}(I:Inv X pins σ H s)(e:H a=some (.ins C dx fs))(c:gF X.K C)(n:gT X.K C f)(l:fs.lookup f=some v)
  (h:∀u s',Inv X pins σ H s'->RelV v u->Q u s'):wpAny (model X.prog X.w) A (getAttr (.ref a) f b) Q E s:=by
 obtain⟨mA,O,r,_,_,_⟩:=uX I.hok e
 obtain⟨u,hu,ru⟩:=iY.some_of (v:=v) (o:=mA f) (by rw[<-l];exact r f)
 exact get_map I.eu O (c.get f) c.hd n hu (R9 ru) (h u _ (I.tok _) ru)
theorem BK{m:Str}{g:Addr}{pl:Sem Bool}{Q:Value×List Value->Shared->Prop}(I:Inv X pins σ H s)(e:H a=some (.ins C dx fs))(c:gF X.K C)(k:Meth X.K C m g)(l:fs.lookup m=none)
  (h:Q (.ref g,[.ref a]) s):wpAny (model X.prog X.w) A (getMethod (.ref a) m pl) Q E s:=by
 obtain⟨mA,O,r,_,_,_⟩:=uX I.hok e
 have hn:mA m=none:=iY.none_of (by rw[<-l];exact r m)
 exact Lk I.eu O (c.get m) k.at_ k.fn hn h
theorem Ph{y:V}{u:Value}{Q:Unit->Shared->Prop}(I:Inv X pins σ H s)(e:H a=some (.ins C dx fs))(c:gF X.K C)(n:gT X.K C f)(hl:fs.length<1000)(ry:RelV y u)
  (h:∀s',Inv X pins σ (upd H a (.ins C dx (gD f y fs))) s'->Q () s'):wpAny (model X.prog X.w) A (setAttr (.ref a) f u) Q E s:=by
 obtain⟨mA,O,r,wi,_,ho⟩:=uX I.hok e
 have hz:(fs.map (·.1)).length<=sizeLine:=by rw[ak,sizeLine_eq];omega
 refine Uz I.eu O c.sa c.po n.Ut c.hd wi hz fun h' O' sb=>h _ ?_
 have hd:∃o,h'.get? dx=some o:=let ⟨o,_,_,e',_⟩:=O'.ns;⟨o,e'⟩
 refine I.write (x:=a) (e:=dx) (by rw[e];exact True.intro) (.inr ho) (fun b q hb z=>(sb.2 b hb).trans z) hd ?_
 refine⟨by rw[aB O.ne];exact ho,?_,O.ne,O'.obj,_,O'.ns,fun g=>?_,fun g hg=>?_⟩
 ·have:=J9 f y fs;omega
 ·show iY ((gD f y fs).lookup g) (if g=f then some u else mA g)
  rw[K1]
  by_cases q:g=f
  ·rw[if_pos q,if_pos q];exact ry
  ·rw[if_neg q,if_neg q];exact r g
 ·by_cases q:g=f
  ·rw[q];exact(zw f y fs).1
  ·refine(zw f y fs).2 g (wi g fun z=>hg ?_)
   show(if g=f then some u else mA g)=none
   rw[if_neg q];exact z
theorem Inv.made(I:Inv X pins σ H s):Inv X pins σ (upd (upd H s.heap.objs.size (.own (s.heap.objs.size+1))) (s.heap.objs.size+1) (.ins C s.heap.objs.size []))
  {s with heap:=(s.heap.push PySem.W.emptyDict).push (PySem.W.instObj C s.heap.objs.size)}:=by
 have e1:(s.heap.push PySem.W.emptyDict).get? s.heap.objs.size=some PySem.W.emptyDict:=gH s.heap rfl
 have e2:((s.heap.push PySem.W.emptyDict).push (PySem.W.instObj C s.heap.objs.size)).get? (s.heap.objs.size+1)=some (PySem.W.instObj C s.heap.objs.size):=by
  have:=gH (s.heap.push PySem.W.emptyDict) (o:=PySem.W.instObj C s.heap.objs.size) rfl
  rwa[pS] at this
 have e3:(s.heap.push PySem.W.emptyDict).Ns s.heap.objs.size (fun _=>none):=⟨PySem.W.emptyDict,#[],_,e1,rfl,(fun e he=>absurd he (by simp)),fun _=>rfl⟩
 have I1:=I.laid (a:=s.heap.objs.size) (o:= .own (s.heap.objs.size+1)) (h':=s.heap.push PySem.W.emptyDict) (t':=s.toks) (fun b u q=>dw _ q) (bh _) ⟨_,e1⟩
 refine I1.laid (a:=s.heap.objs.size+1) (o:= .ins C s.heap.objs.size []) (t':=s.toks) (fun b u q=>dw _ q) (qi (pS _ _)) ?_
 have ne:s.heap.objs.size≠s.heap.objs.size+1:=dW (CJ _)
 refine⟨by rw[aB ne,aY],fW _,ne,e2,fun _=>none,(Heap.Ns1.of_empty e3).at fun o q=>dw _ q,fun _=>True.intro,fun y hy=>absurd rfl hy⟩
theorem QO{prog:Program}{w:World}{env:Env}{e:Expr}{f:Str}{pos:Pos}{s:Shared}{Q:Value->Shared->Prop}(hb:attributeBase e f env (eval e env)=eval e env)
  (h:wpAny (model prog w) A (eval e env) (fun o s₁=>wpAny (model prog w) A (getAttr o f true) Q E s₁) E s):wpAny (model prog w) A (eval (.Attribute e f pos) env) Q E s:=
 Attribute_any_ h (by rw[arm_eval_Attribute,hb])
end
def GF(K:PySem.W.Frag)(ta:TE)(f:Str):TE:=fun σ H Q=>ta σ H fun x H1=>∃a C dx fs v,x= .ref a/\H1 a=some (.ins C dx fs)/\gF K C/\gT K C f/\fs.lookup f=some v/\Q v H1
def IS(K:PySem.W.Frag)(ta tv:TE)(f:Str):TS:=fun D σ H=>tv σ H fun y H1=>ta σ H1 fun x H2=>∃a C dx fs,x= .ref a/\H2 a=some (.ins C dx fs)/\gF K C/\gT K C f/\fs.length<1000/\
 D.nx σ (upd H2 a (.ins C dx (gD f y fs)))
section
variable{X:Cx}{o e value:Expr}{f:Str}{pos pos' tpos:Pos}{ta tv:TE}
theorem nN(he:PE X e ta)(hb:attributeBase e f X.env (eval e X.env)=eval e X.env):PE X (.Attribute e f pos) (GF X.K ta f):=by
 intro pins s σ H Q I h
 refine QO hb (aO (he pins s σ H _ I h) fun u s1 ⟨x,H1,I1,rx,a,C,dx,fs,v,ex,ea,c,n,l,q⟩=>?_)
 subst ex
 obtain rfl:u=Value.ref a:=rx
 exact Pn I1 ea c n l fun u' s2 I2 ru=>⟨v,H1,I2,ru,q⟩
theorem uv(ha:PE X o ta)(hv:PE X value tv)(hs:swapsWith value (some (.Attribute o f pos')) pos.line X.env=pure false):PS X (.Assign [.Attribute o f pos'] value pos) (IS X.K ta tv f):=by
 intro pins s σ H D I h
 refine plainObj_wpAny_Assign_Attribute (aO (hv pins s σ H _ I h) fun u s1 ⟨y,H1,I1,ry,q⟩=>aO (ha pins s1 σ H1 _ I1 q) fun ov s2 ⟨x,H2,I2,rx,a,C,dx,fs,ex,ea,c,n,l,q2⟩=>?_) hs
 subst ex
 obtain rfl:ov=Value.ref a:=rx
 exact Ph I2 ea c n l ry fun s3 I3=>⟨σ,_,I3,q2⟩
theorem Yn{pl:Sem Bool}{m:Str}{apos:Pos}{args:List Expr}{pins:List (Addr×Obj)}{s:Shared}{σ:St}{H:Hp}{Q:Value->Shared->Prop}{te:TE}(he:PE X e te)(I:Inv X pins σ H s)
  (h : te σ H fun x H1 => ∃ a C dx fs g, x = .ref a /\ H1 a = some (.ins C dx fs) /\ gF X.K C /\ Meth X.K C m g /\ fs.lookup m = none /\
   ∀s1,Inv X pins σ H1 s1->wpAny (model X.prog X.w) X.A (callWith pos (.ref g) [.ref a] (backTo pos (starEach args X.env)) (backToKw pos (keywordEach [] X.env))) Q X.xe s1)
  (ht : eval (.Call (.Attribute e m apos) args [] pos) X.env = (do
   let ov<-eval e X.env
   standAt apos.atName
   let (f,first)<-holding [ov] (getMethod ov m pl)
   callWith pos f first (backTo pos (starEach args X.env)) (backToKw pos (keywordEach [] X.env)))):
  wpAny (model X.prog X.w) X.A (eval (.Call (.Attribute e m apos) args [] pos) X.env) Q X.xe s:=by
 refine zg (pl:=pl) (aO (he pins s σ H _ I h) fun u s1 ⟨x,H1,I1,rx,a,C,dx,fs,g,ex,ea,c,k,l,q⟩=>?_) ht
 subst ex
 obtain rfl:u=Value.ref a:=rx
 exact BK I1 ea c k l (q s1 I1)
end
section
variable{X:Cx}{pins:List (Addr×Obj)}{σ:St}{H:Hp}{s:Shared}{A:Around}{E:Value->Shared->Prop}{Q:Value->Shared->Prop}{c:Value}{b:Bool}
inductive iX(K:PySem.W.Frag)(H:Hp):V->Value->Prop where
 |aL:iX K H .aL (.type "NoneType")
 |bl (x:Bool):iX K H (.bl x) (.type "bool")
 |int (i:Int):iX K H (.int i) (.type "int")
 |str (x:Str):iX K H (.str x) (.type "str")
 |kO (x:UInt64):iX K H (.kO x) (.type "float")
 |lst {a:Addr} {xs:List V} (e:H a=some (.lst xs)):iX K H (.ref a) (.type "list")
 |bR {a:Addr} {o:Obj} {xs:List V} (e:H a=some (.bR o (.lst xs))):iX K H (.ref a) (.type "list")
 |tup {a:Addr} {xs:List V} (e:H a=some (.tup xs)):iX K H (.ref a) (.type "tuple")
 |dK {a:Addr} {kvs:List (Key×V)} (e:H a=some (.dK kvs)):iX K H (.ref a) (.type "dict")
 |dT {a:Addr} {kvs:List (List Key×V)} (e:H a=some (.dT kvs)):iX K H (.ref a) (.type "dict")
 |G6 {a:Addr} {o:Obj} {kvs:List (Key×V)} (e:H a=some (.bR o (.dK kvs))):iX K H (.ref a) (.type "dict")
 | ins {a C dx : Addr} {fs : List (Str × V)} (e : H a = some (.ins C dx fs)) (cl : gF K C) (ha : PySem.W.findIn K (.ref C) "__class__" = some (some (.builtin "object.__class__")))
   (hn:PySem.W.specialIn K (.builtin "object.__class__") "__get__"=some (some (.builtin "getset_descriptor.__get__"))) (htk:PySem.W.takesIn K (.builtin "object.__class__")=some true)
   (hm:PySem.W.mroIn K C (.type "object")=some true):iX K H (.ref a) (.ref C)
theorem Wi{x:V}{u t:Value}(I:Inv X pins σ H s)(rx:RelV x u)(ty:iX X.K H x t)(e:PySem.W.kitOne X.K t c=some b)(h:∀tk,Q (.bool b) {s with toks:=tk}):
    wpAny (model X.prog X.w) A (call (.builtin "isinstance") [u,c]) Q E s:=by
  cases ty with
  |aL=>cases (show u=Value.none from rx);exact jR PySem.W.kitx_none I.eu True.intro e (fun z=>nomatch z) h
  |bl y=>cases (show u=Value.bool y from rx);exact jR PySem.W.kitx_bool I.eu True.intro e (fun z=>nomatch z) h
  |int i=>obtain⟨t,q⟩:=(show∃t,u=Value.int i t from rx);cases q;exact jR PySem.W.kitx_int I.eu True.intro e (fun z=>nomatch z) h
  |str y=>obtain⟨t,q⟩:=(show∃t,u=Value.str y t from rx);cases q;exact jR PySem.W.kitx_str I.eu True.intro e (fun z=>nomatch z) h
  |kO y=>obtain⟨t,q⟩:=(show∃t,u=Value.float y t from rx);cases q;exact jR PySem.W.kitx_float I.eu True.intro e (fun z=>nomatch z) h
  | @lst a xs ea =>
    cases (show u=Value.ref a from rx)
    obtain⟨_,_,n,_,h1⟩:=(show cD X.prog X.w H s.heap a (.lst xs) from I.hok a _ ea)
    exact jR PySem.W.kitx_list I.eu ⟨_,h1,rfl⟩ e (fun z=>nomatch z) h
  | @bR a ob xs ea =>
    cases (show u=Value.ref a from rx)
    obtain⟨_,_,_,n,_,h1⟩:=(show cD X.prog X.w H s.heap a (.bR ob (.lst xs)) from I.hok a _ ea)
    exact jR PySem.W.kitx_list I.eu ⟨_,h1,rfl⟩ e (fun z=>nomatch z) h
  | @tup a xs ea =>
    cases (show u=Value.ref a from rx)
    obtain⟨_,_,_,p⟩:=(show cD X.prog X.w H s.heap a (.tup xs) from I.hok a _ ea)
    obtain⟨o,h1,h2,_⟩:=p
    exact jR PySem.W.kitx_tuple I.eu ⟨o,h1,h2⟩ e (fun z=>nomatch z) h
  | @dK a kvs ea =>
    cases (show u=Value.ref a from rx)
    obtain⟨_,_,vs,_,p⟩:=(show cD X.prog X.w H s.heap a (.dK kvs) from I.hok a _ ea)
    obtain⟨o,es,ep,h1,h2,_⟩:=p
    exact jR yf I.eu ⟨o,h1,h2.1⟩ e (fun z=>nomatch z) h
  | @dT a kvs ea =>
    cases (show u=Value.ref a from rx)
    obtain⟨_,_,xs,_,o,es,ep,h1,h2,_⟩:=(show cD X.prog X.w H s.heap a (.dT kvs) from I.hok a _ ea)
    exact jR yf I.eu ⟨o,h1,h2.1⟩ e (fun z=>nomatch z) h
  | @G6 a ob kvs ea =>
    cases (show u=Value.ref a from rx)
    obtain⟨_,_,_,vs,_,o,es,ep,h1,h2,_⟩:=I.hok a _ ea
    exact jR yf I.eu ⟨o,h1,h2.1⟩ e (fun z=>nomatch z) h
  | @ins a C dx fs ea cl ha hn htk hm =>
    cases (show u=Value.ref a from rx)
    obtain⟨mA,O,_⟩:=uX I.hok ea
    obtain⟨od,J,_⟩:=O.look
    exact jR (PySem.W.kitx_own (cl.get _) cl.hd ha hn htk hm) I.eu J e (fun z=>nomatch z) h
end
structure dR(k:Nat)(A:Around):Prop where
 hd:A.handled=none
 dp:A.depth+3*k+5<recursionLimit
 un:A.units+16*k+200<cLine
theorem dR.mono{j k:Nat}{A:Around}(r:dR k A)(h:j<=k):dR j A:=⟨r.hd,by have:=r.dp;omega,by have:=r.un;omega⟩
theorem dR.deeper{k:Nat}{A:Around}(r:dR (k+1) A)(env:Env):dR k (A.deeper env):=
 ⟨r.hd,by have:=r.dp;show A.depth+1+3*k+5<_;omega,by have:=r.un;show A.units+3+16*k+200<_;omega⟩
theorem WL{A:Around}{C:Addr}{us:List Value}{kw:List (Str×Value)}:(A.under (.builtin "type.__call__" ⟨.ref C::us,kw⟩)).depth=A.depth+1:=by
 first|rfl|simp[Around.under,Code.weight,Code.isCreation,Code.isGuard,Code.isCaller,Code.frames,Code.isFrame,guardIds]
theorem RL{A:Around}{C:Addr}{us:List Value}{kw:List (Str×Value)}:(A.under (.builtin "type.__call__" ⟨.ref C::us,kw⟩)).units=A.units+1:=by
 first|rfl|simp[Around.under,Code.cUnits,Code.frames,Code.isFrame]
theorem dR.make{k:Nat}{A:Around}(r:dR (k+1) A)(C:Addr)(us:List Value)(kw:List (Str×Value)):dR k (A.under (.builtin "type.__call__" ⟨.ref C::us,kw⟩)):=
 ⟨r.hd,by have:=r.dp;rw[WL];omega,by have:=r.un;rw[RL];omega⟩
theorem dR.depth{k:Nat}{A:Around}(r:dR k A):A.depth<recursionLimit:=by have:=r.dp;omega
theorem dR.units{k:Nat}{A:Around}(r:dR k A):A.units+64<cLine:=by have:=r.un;omega
def cL:TA:=fun _ H Q=>Q [] H
def cA(ta:TE)(tr:TA):TA:=fun σ H Q=>ta σ H fun x H1=>tr σ H1 fun xs H2=>Q (x::xs) H2
section
variable{X:Cx}{e:Expr}{es:List Expr}{te:TE}{t:TA}{pos:Pos}
theorem ao:PA X [] cL:=fun _ _ _ _ H Q I h=>Calls.spliced_nil ⟨[],H,I, .nil,h⟩
theorem aa(ha:PE X e te)(hr:PA X es t)(hs:starEach (e::es) X.env=(false,eval e X.env)::starEach es X.env:=by rfl):PA X (e::es) (cA te t):=by
 intro pos pins s σ H Q I h
 rw[hs]
 show wpAny _ _ (spliced ((false,eval e X.env)::backTo pos (starEach es X.env))) _ _ s
 refine Calls.spliced_cons (aO (ha pins s σ H _ I h) fun u s1 ⟨x,H1,I1,r1,q1⟩=>?_)
 exact aO (hr pos pins s1 σ H1 _ I1 q1) fun us s2 ⟨xs,H2,I2,r2,q2⟩=>⟨x::xs,H2,I2, .cons r1 r2,q2⟩
def pZ(t:TA):TE:=fun σ H Q=>t σ H fun xs H1=>xs.length<=sizeLine/\∀p,H1 p=none->Q (.ref p) (upd H1 p (.tup xs))
def oN(t:TA):TE:=fun σ H Q=>t σ H fun xs H1=>xs.length<=sizeLine/\∀p,H1 p=none->Q (.ref p) (upd H1 p (.lst xs))
theorem iQ{x1}(h:PA X es t):PE X (.Tuple es x1 pos) (pZ t):=by
 intro pins s σ H Q I hq
 refine wpAny_Tuple_spliced (aO (h pos pins s σ H _ I hq) fun us s1 ⟨xs,H1,I1,r,z,q⟩=>⟨by rw[<-r.length];exact z,?_⟩)
 have hf:H1 s1.heap.objs.size=none:=I1.hok.fresh (bh _)
 refine⟨.ref s1.heap.objs.size,upd H1 s1.heap.objs.size (.tup xs),I1.laid (t':=s1.toks) (fun b u e=>dw _ e) (bh _) ?_,rfl,q _ hf⟩
 exact⟨z,us,r,⟨_,gH _ rfl,rfl,_,rfl⟩⟩
theorem gw(h:PA X es t):PE X (.List es pos) (oN t):=by
 intro pins s σ H Q I hq
 refine wpAny_List_spliced (aO (h pos pins s σ H _ I hq) fun us s1 ⟨xs,H1,I1,r,z,q⟩=>⟨by rw[<-r.length];exact z,?_⟩)
 have hf:H1 s1.heap.objs.size=none:=I1.hok.fresh (bh _)
 refine⟨.ref s1.heap.objs.size,upd H1 s1.heap.objs.size (.lst xs),I1.laid (t':=s1.toks) (fun b u e=>dw _ e) (bh _) ?_,rfl,q _ hf⟩
 exact⟨z,us,0,r,gH _ rfl⟩
end
abbrev Sp:=List V->Hp->VK->XK->Prop
abbrev kQ:=List Env->Hp->Shared->XK->Value->Shared->Prop
structure oQ(P:Program)(w:World)(K:PySem.W.Frag)(mg:Str->Option Value)(base:Heap)(A:Around)(outer:List Env)(s:Shared)(H:Hp):Prop where
 frames:A.frames=some outer
 mod:Mod K mg base
 bs:∀b o,base.get? b=some o->s.heap.get? b=some o/\H b=none
 mh:base.objs.size<=s.heap.objs.size
 jD:s.heap.FunFrames base outer
 nQ:∀b∈frs outer,H b=none
 hok:dD P w H s.heap
 bare:AllBare s.gens
def CE(outer:List Env)(P:Program)(w:World)(H:Hp)(s:Shared)(Q:VK)(u:Value)(s':Shared):Prop:=
 ∃v H',s'.os=s.os/\AllBare s'.gens/\Un (frs outer) [] H H' s.heap s'.heap/\dD P w H' s'.heap/\RelV v u/\Q v H'
def CR(CX:kQ)(outer:List Env)(P:Program)(w:World)(H:Hp)(s:Shared)(Q:VK)(E:XK)(r:Result)(s':Shared):Prop:=
 match r with
 | .ok (.ret u)=>CE outer P w H s Q u s'
 | .ok _=>False
 | .error e=>CX outer H s E e s'
structure bE(P:Program)(w:World)(K:PySem.W.Frag)(mg:Str->Option Value)(base:Heap)(CX:kQ)(k:Nat)(f:Addr)(fd:FuncData)(ps:List Str)(sp:Sp):Prop where
 len:∀vs H Q E,sp vs H Q E->vs.length=ps.length
 run:∀(A:Around) (outer:List Env) (s:Shared) (H:Hp) (args:Args) (us:List Value) (vs:List V) (Q:VK) (E:XK),dR k A->oQ P w K mg base A outer s H->BindsTo s fd args (ps.zip us)->Vals vs us->sp vs H Q E->
  codeAny (model P w) A (.call (.ref f) args) (CR CX outer P w H s Q E) s
theorem oQ.make{P:Program}{w:World}{K:PySem.W.Frag}{mg:Str->Option Value}{base:Heap}{A:Around}{outer:List Env}{s:Shared}{H:Hp}(e:oQ P w K mg base A outer s H)(C:Addr)(us:List Value)(kw:List (Str×Value)):
  oQ P w K mg base (A.under (.builtin "type.__call__" ⟨.ref C::us,kw⟩)) outer s H:=⟨by first|exact e.frames|(simpa[Around.under,Code.envs,Code.isFrame,pushEnvs] using e.frames),e.mod,e.bs,e.mh,e.jD,e.nQ,e.hok,e.bare⟩
section
variable{X:Cx}{pins:List (Addr×Obj)}{σ:St}{H:Hp}{s s':Shared}
theorem Inv.Hl(I:Inv X pins σ H s):oQ X.prog X.w X.K X.mg X.base X.A X.stack s H:=
 ⟨I.ok.frames,I.ok.mod,I.bs,cX I.ok.mh I.sz,I.stack,I.FA,I.hok,I.bare⟩
theorem Inv.after{Q:VK}{u:Value}(I:Inv X pins σ H s)(h:CE X.stack X.prog X.w H s Q u s'):EP X pins σ Q u s':=by
 obtain⟨v,H',os,bare,un,hok,r,q⟩:=h
 obtain⟨hh,g,d,t,os'⟩:=s'
 obtain rfl:os'=s.os:=os
 exact⟨v,H',I.call (h':=hh) (g':=g) (d':=d) (t':=t) (ch:=[]) un hok bare (fun b z=>absurd z (by simp)),r,q⟩
end
def iS(sp:Sp)(gm:List V)(E:XK)(t:TA):TE:=fun σ H Q=>t σ H fun vs H1=>sp (vs++gm) H1 Q E
def sW(C:Addr)(m:Str)(sp:Sp)(gm:List V)(E:XK)(ta:TE)(t:TA):TE:=fun σ H Q=>ta σ H fun x H1=>∃a dx fs,x= .ref a/\H1 a=some (.ins C dx fs)/\fs.lookup m=none/\
 t σ H1 fun vs H2=>sp (x::(vs++gm)) H2 Q E
def uN(C:Addr)(sp:Sp)(gm:List V)(E:XK)(t:TA):TE:=fun σ H Q=>t σ H fun vs H1=>∀x dx,H1 x=none->H1 dx=none->dx≠x->
 sp (.ref x::(vs++gm)) (upd (upd H1 dx (.own x)) x (.ins C dx [])) (fun v H2=>v= .aL/\Q (.ref x) H2) E
def Binds(K:PySem.W.Frag)(fd:FuncData)(ps:List Str)(ds:List Value):Prop:=
 ∀(s:Shared) (us:List Value),K.In s.heap->(us++ds).length=ps.length->BindsTo s fd ⟨us,[]⟩ (ps.zip (us++ds))
theorem Binds.all{K:PySem.W.Frag}{fd:FuncData}{ps:List Str}(h:∀us:List Value,us.length=ps.length->bindArgs fd ⟨us,[]⟩=pure (ps.zip us)):Binds K fd ps []:=fun s us _ hl=>by
 rw[jz] at hl⊢
 exact .of_eq (h us hl)
def Passes(CX:kQ)(X:Cx)(E:XK):Prop:=∀(pins:List (Addr×Obj)) (σ:St) (H:Hp) (s:Shared) (e:Value) (s':Shared),Inv X pins σ H s->CX X.stack H s E e s'->X.xe e s'
section
variable{X:Cx}{CX:kQ}{k:Nat}{f C:Addr}{fd:FuncData}{ps:List Str}{sp:Sp}{gm:List V}{ds:List Value}{E:XK}{x m:Str}{p pos apos:Pos}{e o:Expr}{es:List Expr}{ta:TE}{t:TA}
theorem CH{pins:List (Addr×Obj)}{σ:St}{H:Hp}{s:Shared}{Q:VK}{us:List Value}{vs:List V}(F:bE X.prog X.w X.K X.mg X.base CX k f fd ps sp)(hr:dR k X.A)(hb:Binds X.K fd ps ds)(hd:Vals gm ds)(hx:Passes CX X E)
    (I:Inv X pins σ H s) (r:Vals vs us) (h:sp (vs++gm) H Q E):wpAny (model X.prog X.w) X.A (call (.ref f) us) (EP X pins σ Q) X.xe s:=by
  have r2:Vals (vs++gm) (us++ds):=r.append hd
  have hl:(us++ds).length=ps.length:=by rw[<-r2.length];exact F.len _ _ _ _ h
  refine wpAny_call (codeAny_mono (F.run X.A X.stack s H ⟨us,[]⟩ (us++ds) (vs++gm) Q E hr I.Hl (hb s us I.eu hl) r2 h) fun r s' hq=>?_)
  cases r with
  |error e=>exact hx pins σ H s e s' I hq
  | ok fl =>
    cases fl with
    |ret u=>exact I.after hq
    |next=>exact False.elim hq
    |brk=>exact False.elim hq
    |cont=>exact False.elim hq
theorem QG(F:bE X.prog X.w X.K X.mg X.base CX k f fd ps sp)(hr:dR k X.A)(hg:Gl X x)(hm:X.mg x=some (.ref f))(hk:PySem.W.keepIn X.K (.ref f)=true)(hb:Binds X.K fd ps ds)(hd:Vals gm ds)(hx:Passes CX X E)
  (ha:PA X (e::es) t) (hdb:(x==("__debug__":Str))=false:=by decide) (he:starEach (e::es) X.env=(false,eval e X.env)::starEach es X.env:=by rfl) (hpl:(backTo pos (starEach es X.env)).any (·.1)=false:=by rfl):
  PE X (.Call (.Name x p) (e::es) [] pos) (iS sp gm E t):=by
 intro pins s σ H Q I h
 refine wpAny_Call_Name_kw (E6 I hg hm ?_ hdb)
 refine DP (h₀:=X.base) I.ok.mod.rH hk (aO (ha pos pins s σ H _ I h) fun us s1 ⟨vs,H1,I1,r,q⟩=>⟨I1.eu,?_⟩) he hpl
 exact CH F hr hb hd hx I1 r q
theorem QJ{pl:Sem Bool}(he:PE X o ta)(c:gF X.K C)(hm:Meth X.K C m f)(F:bE X.prog X.w X.K X.mg X.base CX k f fd ps sp)(hr:dR k X.A)(hb:Binds X.K fd ps ds)(hd:Vals gm ds)(hx:Passes CX X E)(ha:PA X (e::es) t)
  (hst:starEach (e::es) X.env=(false,eval e X.env)::starEach es X.env:=by rfl) (hpl:(backTo pos (starEach es X.env)).any (·.1)=false:=by rfl)
  (ht : eval (.Call (.Attribute o m apos) (e :: es) [] pos) X.env = (do
   let ov<-eval o X.env
   standAt apos.atName
   let (f,first)<-holding [ov] (getMethod ov m pl)
   callWith pos f first (backTo pos (starEach (e::es) X.env)) (backToKw pos (keywordEach [] X.env))):=by rfl):
  PE X (.Call (.Attribute o m apos) (e::es) [] pos) (sW C m sp gm E ta t):=by
 intro pins s σ H Q I h
 refine zg (pl:=pl) (aO (he pins s σ H _ I h) fun u s1 ⟨x,H1,I1,rx,a,dx,fs,ex,ea,l,q⟩=>?_) ht
 subst ex
 obtain rfl:u=Value.ref a:=rx
 refine BK I1 ea c hm l ?_
 refine DP (first:=[.ref a]) (h₀:=X.base) I.ok.mod.rH hm.kp (aO (ha pos pins s1 σ H1 _ I1 q) fun us s2 ⟨vs,H2,I2,r,q2⟩=>⟨I2.eu,?_⟩) hst hpl
 exact CH (us:= .ref a::us) (vs:= .ref a::vs) F hr hb hd hx I2 (.cons rfl r) q2
theorem UQ{pl:Sem Bool}(he:PE X o ta)(c:gF X.K C)(hm:Meth X.K C m f)(F:bE X.prog X.w X.K X.mg X.base CX k f fd ps sp)(hr:dR k X.A)(hb:Binds X.K fd ps ds)(hd:Vals gm ds)(hx:Passes CX X E)
  (ht : eval (.Call (.Attribute o m apos) [] [] pos) X.env = (do
   let ov<-eval o X.env
   standAt apos.atName
   let (f,first)<-holding [ov] (getMethod ov m pl)
   callWith pos f first (backTo pos (starEach [] X.env)) (backToKw pos (keywordEach [] X.env))):=by rfl):
  PE X (.Call (.Attribute o m apos) [] [] pos) (sW C m sp gm E ta cL):=by
 intro pins s σ H Q I h
 refine zg (pl:=pl) (aO (he pins s σ H _ I h) fun u s1 ⟨x,H1,I1,rx,a,dx,fs,ex,ea,l,q⟩=>?_) ht
 subst ex
 obtain rfl:u=Value.ref a:=rx
 refine BK I1 ea c hm l ?_
 exact PySem.W.callWith_K0 (first:=[.ref a]) I1.eu hm.kp (CH (us:=[.ref a]) (vs:=[.ref a]) F hr hb hd hx I1 (.cons rfl .nil) q)
structure Mk(K:PySem.W.Frag)(C f:Addr):Prop where
 makes:PySem.W.makesIn K C=true
 init:PySem.W.findIn K (.ref C) "__init__"=some (some (.ref f))
 fn:PySem.W.isFn K (.ref f)=true
 kp:PySem.W.keepIn K (.ref C)=true
theorem QC{pins:List (Addr×Obj)}{σ:St}{H:Hp}{s:Shared}{Q:VK}{us:List Value}{vs:List V}(M:Mk X.K C f)(F:bE X.prog X.w X.K X.mg X.base CX k f fd ps sp)(hr:dR (k+1) X.A)(hb:Binds X.K fd ps ds)(hd:Vals gm ds)
    (hx:Passes CX X E) (I:Inv X pins σ H s) (r:Vals vs us)
    (h:∀x dx,H x=none->H dx=none->dx≠x->sp (.ref x::(vs++gm)) (upd (upd H dx (.own x)) x (.ins C dx [])) (fun v H2=>v= .aL/\Q (.ref x) H2) E):
    wpAny (model X.prog X.w) X.A (call (.ref C) us) (EP X pins σ Q) X.xe s:=by
  have hq:=h (s.heap.objs.size+1) s.heap.objs.size (I.hok.fresh (tE _)) (I.hok.fresh (bh _)) (dW (CJ _))
  have I2:=Inv.made (C:=C) I
  have r2:Vals (V.ref (s.heap.objs.size+1)::(vs++gm)) (Value.ref (s.heap.objs.size+1)::(us++ds)):= .cons rfl (r.append hd)
  have hl:(Value.ref (s.heap.objs.size+1)::us++ds).length=ps.length:=by
    have e:=r2.length
    rw[F.len _ _ _ _ hq] at e
    exact e.symm
  refine wpAny_call (Vn (f:=f) I.eu M.makes M.init (beq_iff_eq.mp M.fn) (codeAny_mono (F.run _ X.stack _ _ ⟨Value.ref (s.heap.objs.size+1)::us,[]⟩ (Value.ref (s.heap.objs.size+1)::(us++ds)) _ _ E (hr.make C us [])
    (I2.Hl.make C us []) (hb _ (Value.ref (s.heap.objs.size+1)::us) I2.eu hl) r2 hq) fun r s' hq'=>?_))
  cases r with
  |error e=>exact hx pins σ _ _ e s' I2 hq'
  | ok fl =>
    cases fl with
    | ret u =>
      obtain⟨v,H',I3,rv,ev,q3⟩:=I2.after hq'
      subst ev
      exact⟨rv,⟨V.ref (s.heap.objs.size+1),H',I3,rfl,q3⟩⟩
    |next=>exact False.elim hq'
    |brk=>exact False.elim hq'
    |cont=>exact False.elim hq'
theorem UN(M:Mk X.K C f)(F:bE X.prog X.w X.K X.mg X.base CX k f fd ps sp)(hr:dR (k+1) X.A)(hg:Gl X x)(hm:X.mg x=some (.ref C))(hb:Binds X.K fd ps ds)(hd:Vals gm ds)(hx:Passes CX X E)
  (ha:PA X (e::es) t) (hdb:(x==("__debug__":Str))=false:=by decide) (he:starEach (e::es) X.env=(false,eval e X.env)::starEach es X.env:=by rfl) (hpl:(backTo pos (starEach es X.env)).any (·.1)=false:=by rfl):
  PE X (.Call (.Name x p) (e::es) [] pos) (uN C sp gm E t):=by
 intro pins s σ H Q I h
 refine wpAny_Call_Name_kw (E6 I hg hm ?_ hdb)
 refine DP (h₀:=X.base) I.ok.mod.rH M.kp (aO (ha pos pins s σ H _ I h) fun us s1 ⟨vs,H1,I1,r,q⟩=>⟨I1.eu,?_⟩) he hpl
 exact QC M F hr hb hd hx I1 r q
end
structure cB(N P:List Str)(sc:Scope):Prop where
 kind:sc.kind= .function
 co:sc.isCoroutine=false
 gen:sc.isGenerator=false
 nd:N.Nodup
 pre:N.take P.length=P
 par:∀x∈P,sc.names.lookup x=some .local\/sc.names.lookup x=some .cell
 LQ:∀y∈sc.names,y.2≠ .free
theorem ID{kindOf:Str->Option NameKind}{x:Str}:∀{binds:List (Str×Value)} {m:Str->Option Value},(∀v,(x,v)∉binds)->bindL kindOf binds m x=m x
  |[],_,_=>rfl
  | (n, v) :: r, m, h => by
    unfold bindL
    rw[ID fun w hw=>h w (bY _ hw)]
    split
    · have:x≠n:=by rintro rfl;exact h v dj
      simp[this]
    · rfl
theorem G1{kindOf:Str->Option NameKind}{x:Str}:∀{binds:List (Str×Value)} {m:Str->Option Value},(∀v,(x,v)∉binds)->bindC kindOf binds m x=m x
  |[],_,_=>rfl
  | (n, v) :: r, m, h => by
    unfold bindC
    rw[G1 fun w hw=>h w (bY _ hw)]
    split
    · rfl
    · have:x≠n:=by rintro rfl;exact h v dj
      simp[this]
theorem GJ{kindOf:Str->Option NameKind}{x:Str}{v:Value}:∀{P:List Str} {vs:List Value} {i:Nat} {m:Str->Option Value},P.Nodup->P[i]?=some x->vs[i]?=some v->kindOf x=some .local->
    bindL kindOf (P.zip vs) m x=some v
  |[],_,_,_,_,h,_,_=>by simp at h
  |_::_,[],_,_,_,_,h,_=>by simp at h
  | p :: P, w :: vs, 0, m, nd, h1, h2, hk => by
    simp at h1 h2;subst h1;subst h2
    show bindL kindOf ((p,w)::P.zip vs) m p=_
    unfold bindL
    rw[ID fun v hv=>(iE.mp nd).1 (Ed hv).1,if_pos hk]
    simp
  | p :: P, w :: vs, i + 1, m, nd, h1, h2, hk => by
    show bindL kindOf ((p,w)::P.zip vs) m x=_
    unfold bindL
    exact GJ (i:=i) (iE.mp nd).2 (by simpa using h1) (by simpa using h2) hk
theorem HE{kindOf:Str->Option NameKind}{x:Str}{v:Value}:∀{P:List Str} {vs:List Value} {i:Nat} {m:Str->Option Value},P.Nodup->P[i]?=some x->vs[i]?=some v->kindOf x≠some .local->
    bindC kindOf (P.zip vs) m x=some v
  |[],_,_,_,_,h,_,_=>by simp at h
  |_::_,[],_,_,_,_,h,_=>by simp at h
  | p :: P, w :: vs, 0, m, nd, h1, h2, hk => by
    simp at h1 h2;subst h1;subst h2
    show bindC kindOf ((p,w)::P.zip vs) m p=_
    unfold bindC
    rw[G1 fun v hv=>(iE.mp nd).1 (Ed hv).1,if_neg hk]
    simp
  | p :: P, w :: vs, i + 1, m, nd, h1, h2, hk => by
    show bindC kindOf ((p,w)::P.zip vs) m x=_
    unfold bindC
    exact HE (i:=i) (iE.mp nd).2 (by simpa using h1) (by simpa using h2) hk
def start(N:List Str)(vs:List V):St:=vs.map some++List.replicate (N.length-vs.length) none
def p5(CX:kQ)(P:Program)(w:World)(K:PySem.W.Frag)(mg:Str->Option Value)(base:Heap)(N:List Str)(qual:Str)(scope:Scope)(f:Addr)(cd:Value)(A:Around)(outer:List Env)(s:Shared)(H:Hp)(E:XK):Cx where
 prog:=P
 w:=w
 K:=K
 mg:=mg
 base:=base
 A:=A.deeper (envOfC qual scope s.heap.objs.size f cd)
 N:=N
 s₀:=s
 H₀:=H
 env:=envOfC qual scope s.heap.objs.size f cd
 outer:=outer
 stack:=envOfC qual scope s.heap.objs.size f cd::outer
 ex:=[]
 calm:=true
 fn:=fun _=>true
 pn:=[]
 xe:=fun e s'=>wpAny (model P w) (A.deeper (envOfC qual scope s.heap.objs.size f cd)) (leaving (envOfC qual scope s.heap.objs.size f cd) e) (fun _ s''=>CX outer H s E e s'') (fun e' s''=>CX outer H s E e' s'') s'
theorem EO{sc:Scope}{n:Nat}{x:Str}(h:sc.names.lookup x=some .cell):∃c,(cellsFrom n sc.names []).lookup x=some c:=by
 have q:=Kr sc.names n [] (.inl h)
 exact EL.mp q
theorem MY{CX:kQ}{P:Program}{w:World}{K:PySem.W.Frag}{mg:Str->Option Value}{base:Heap}{N ps:List Str}{qual:Str}{scope:Scope}{f:Addr}{cd:Value}{A:Around}{outer:List Env}{s s1:Shared}{H:Hp}{E:XK}{us:List Value}{vs:List V}
  (S:cB N ps scope) (hd:A.handled=none) (e0:oQ P w K mg base A outer s H) (hl:vs.length=ps.length) (r:Vals vs us)
  (x:InCallC s s.heap.objs.size (bindL (envOfC qual scope s.heap.objs.size f cd).kindOf (ps.zip us) fun _=>none) (cellsFrom (s.heap.objs.size+1) scope.names []) (bindC (envOfC qual scope s.heap.objs.size f cd).kindOf (ps.zip us) fun _=>none) s1):
  Inv (p5 CX P w K mg base N qual scope f cd A outer s H E) [] (start N vs) H s1:=by
 have hpl:ps.length<=N.length:=by have:=congrArg List.length S.pre;rw[cZ] at this;omega
 obtain⟨h1,tk,rfl,hk⟩:=x.done
 have tS:∀b:Addr,b∉(p5 CX P w K mg base N qual scope f cd A outer s H E).ex:=fun b z=>absurd (show b∈([]:List Addr) from z) (by simp)
 refine⟨⟨e0.mod,S.kind,rfl,rfl,bh _,fun y z c h1 h2=>?_,fun y hy=>?_,fun y c _ h=>?_,fun _=>hd,Around.frames_deeper e0.frames, .inr ⟨rfl,rfl⟩,fun b z=>absurd z (tS b),e0.bs,e0.mh,fun b _ _=>tS b,fun b z=>absurd z (tS b),e0.jD,e0.nQ⟩,
  rfl,e0.bare,Un.kept hk,⟨_,x.toInCall.ns,fun i y v h1 h2 h3=>?_⟩,fun y c h=>⟨_,x.cell y c h⟩,e0.hok.fresh (bh _),fun y c h=>?_,fun p hp=>absurd (show p∈([]:List (Addr×Obj)) from hp) (by simp),e0.hok.kept hk,?_⟩
 ·exact name_of_addr x.apart (oj h1) (oj h2)
 ·have hy:scope.names.lookup y=some .cell\/scope.names.lookup y=some .free:=hy
  rcases hy with hy|hy
  ·exact EO hy
  ·exact absurd rfl (S.LQ _ (oj hy))
 ·exact pY (x.above y c (oj h))
 ·have hi:i<vs.length:=by
   unfold start at h2
   by_cases hi:i<vs.length
   ·exact hi
   ·rw[gp (by simpa using hi)] at h2
    rw[fj] at h2
    split at h2<;>cases h2
  have ha:vs[i]?=some v:=by
   unfold start at h2
   rw[fY (by simpa using hi),bu] at h2
   cases e:vs[i]? with
   |none=>rw[e] at h2;cases h2
   |some a=>rw[e] at h2;cases h2;rfl
  obtain⟨u,hu,rv⟩:=r.get ha
  have hp:ps[i]?=some y:=by
   rw[<-S.pre,nF (by omega)];exact h1
  have Ga:ps.Nodup:=by rw[<-S.pre];exact S.nd.sublist (List.take_sublist _ _)
  refine⟨u,rv,?_⟩
  rcases S.par y (aW hp) with k|k
  ·exact .inl ⟨k,GJ Ga hp hu k⟩
  ·obtain⟨c,e⟩:=EO (n:=s.heap.objs.size+1) k
   refine .inr ⟨.inl k,c,e,?_⟩
   have q:=x.cell y c e
   rw[HE Ga hp hu (by show scope.names.lookup y≠_;rw[k];decide)] at q
   exact q
 ·exact e0.hok.fresh (pY (x.above y c (oj h)))
 ·unfold start
  show _=N.length
  rw[fm,ak,fy]
  omega
theorem QY{CX:kQ}{P:Program}{w:World}{K:PySem.W.Frag}{mg:Str->Option Value}{base:Heap}{k:Nat}{f:Addr}{name qual:Str}{params:Arguments}{body:List Stmt}{scope:Scope}{dV kV doc pm cdv ct oc:Value}{an od:Option Addr}
    {osl:Array (Option Value)} {N ps:List Str} {sp:Sp} (lk:K.lookup f=some ⟨oc,od, .func (PySem.W.fnOf name qual params body scope dV kV doc pm an cdv ct),osl⟩) (hcd:PySem.W.codeIn K cdv qual=true) (S:cB N ps scope)
    (len:∀vs H Q E,sp vs H Q E->vs.length=ps.length)
    (hbody:∀(A:Around) (outer:List Env) (s:Shared) (H:Hp) (vs:List V) (Q:VK) (E:XK),dR k (A.deeper (envOfC qual scope s.heap.objs.size f cdv))->sp vs H Q E->
      ∃t,jm (p5 CX P w K mg base N qual scope f cdv A outer s H E) body t/\t {nx:=fun _ H'=>Q .aL H',rt:=Q} (start N vs) H):
    bE P w K mg base CX (k+1) f (PySem.W.fnOf name qual params body scope dV kV doc pm an cdv ct) ps sp:=by
  refine⟨len,fun A outer s H args us vs Q E hr e0 hb r g9=>?_⟩
  have hl:=len _ _ _ _ g9
  have KX:K.In s.heap:=e0.mod.rH.keeps fun b o e=>(e0.bs b o e).1
  have lim:s.heap.NoLimit:=e0.mod.nolimit.keeps fun b o e=>(e0.bs b o e).1
  have hkind:∀y∈ps.zip us,scope.names.lookup y.1=some .local\/(scope.names.lookup y.1=some .cell/\((cellsFrom (s.heap.objs.size+1) scope.names []).lookup y.1).isSome=true):=fun⟨n,v⟩ hy=>by
    rcases S.par n (Ed hy).1 with q|q
    · exact .inl q
    · exact .inr ⟨q,Kr _ _ _ (.inl q)⟩
  refine codeAny_call_function hr.depth (KX _ _ lk) rfl S.co S.gen rfl (PySem.W.codeRec_of KX hcd) (hb _ _ _ _ ?_)
  refine wpAny_newFunctionEnv_cells S.kind hkind fun env he s1 x=>?_
  subst he
  refine⟨lim.keeps x.toInCall.keep,codeAny_func ?_⟩
  obtain⟨t,ht,hq⟩:=hbody A outer s H vs Q E (hr.deeper _) g9
  have I:Inv (p5 CX P w K mg base N qual scope f cdv A outer s H E) [] (start N vs) H s1:=MY S hr.hd e0 hl r x
  refine wpAny_mono (ht [] s1 (start N vs) H _ I hq) (fun fl s' hs=>?_) fun e s' hs=>hs
  have fin:∀{σ':St} {H':Hp} {v:V} {u:Value},Inv (p5 CX P w K mg base N qual scope f cdv A outer s H E) [] σ' H' s'->RelV v u->Q v H'->CE outer P w H s Q u s':=
    fun{σ' H' v u} J rv q=>⟨v,H',J.os,J.bare,J.base,J.hok,rv,q⟩
  cases fl with
  | ret u =>
    obtain⟨v,σ',H',J,rv,q⟩:=hs
    exact fin J rv q
  | next =>
    obtain⟨σ',H',J,q⟩:=hs
    exact fin (v:=V.aL) (u:=Value.none) J rfl q
  | brk =>
    obtain⟨_,_,_,q⟩:=hs
    exact False.elim q
  | cont =>
    obtain⟨_,_,_,q⟩:=hs
    exact False.elim q
section
variable{X:Cx}{x:Str}{p pos:Pos}{e:Expr}{es:List Expr}{t:TA}{id T:String}{r:List V->Hp->VK->Prop}
def gC(r:List V->Hp->VK->Prop)(t:TA):TE:=fun σ H Q=>t σ H fun vs H1=>r vs H1 Q
theorem dm(hc:gR X (.builtin id) r)(hg:Gl X x)(hm:X.mg x=none)(hv:bootBuiltins x=some (.builtin id))(ha:PA X (e::es) t)(hn:x≠"__name__":=by decide)(hdb:(x==("__debug__":Str))=false:=by decide)
  (he:starEach (e::es) X.env=(false,eval e X.env)::starEach es X.env:=by rfl) (hpl:(backTo pos (starEach es X.env)).any (·.1)=false:=by rfl):PE X (.Call (.Name x p) (e::es) [] pos) (gC r t):=by
 intro pins s σ H Q I h
 refine wpAny_Call_Name_kw (lM I hg hm hv ?_ hn hdb)
 exact PyProof.Rows.callWith_builtin1 (aO (ha pos pins s σ H _ I h) fun us s1 ⟨vs,H1,I1,r1,q1⟩=>hc pins s1 σ H1 vs us Q I1 r1 q1) he hpl
theorem kq(hc:gR X (.type T) r)(hg:Gl X x)(hm:X.mg x=none)(hv:bootBuiltins x=some (.type T))(ha:PA X (e::es) t)(hn:x≠"__name__":=by decide)(hdb:(x==("__debug__":Str))=false:=by decide)
  (he:starEach (e::es) X.env=(false,eval e X.env)::starEach es X.env:=by rfl) (hpl:(backTo pos (starEach es X.env)).any (·.1)=false:=by rfl):PE X (.Call (.Name x p) (e::es) [] pos) (gC r t):=by
 intro pins s σ H Q I h
 refine wpAny_Call_Name_kw (lM I hg hm hv ?_ hn hdb)
 exact oW (aO (ha pos pins s σ H _ I h) fun us s1 ⟨vs,H1,I1,r1,q1⟩=>hc pins s1 σ H1 vs us Q I1 r1 q1) he hpl
end
end L2
namespace HT
open PySem PyProof.Rows
section
open PySem.SeqAt
open PySem.AutoSeq1 (wpAny_loadPart')
open PySem.MeetsSeq PySem.MeetsSeq2 PySem.MeetsSeq3
end
section
variable{prog:Program}{w:World}{A:Around}{E:Value->Shared->Prop}{s:Shared}
def eB(n d:Nat):Option Int->Nat
 |none=>d
 |some v=>if v<0 then(v+(n:Int)).toNat else min v.toNat n
end
end HT
namespace L2
open PySem PySem.Spec PyProof.Rows
abbrev TO:=St->Hp->(Option Int->Hp->Prop)->Prop
def PO(X:Cx)(e:Option Expr)(t:TO):Prop:=
 ∀(pins:List (Addr×Obj)) (s:Shared) (σ:St) (H:Hp) (Q:Option Int->Hp->Prop),Inv X pins σ H s->t σ H Q->
  wpAny (model X.prog X.w) X.A (evalPart e X.env) (fun u s'=>∃o H',Inv X pins σ H' s'/\IsPart u o/\Q o H') X.xe s
def yP:TO:=fun _ H Q=>Q none H
def DC(t:TE):TO:=fun σ H Q=>t σ H fun x H1=>∃i,x= .int i/\Q (some i) H1
section
variable{X:Cx}{e:Expr}{te:TE}{lo hi:Option Expr}{tl th:TO}{pos p2:Pos}
theorem oB:PO X none yP:=by
 intro pins s σ H Q I h
 rw[evalPart_none]
 exact wpAny_pure ⟨none,H,I, .none,h⟩
theorem lK(h:PE X e te):PO X (some e) (DC te):=by
 intro pins s σ H Q I hw
 rw[evalPart_some]
 refine aO (h pins s σ H _ I hw) fun u s1 ⟨x,H1,I1,r1,q1⟩=>?_
 obtain⟨i,rfl,q⟩:=q1
 obtain⟨t,rfl⟩:=r1
 exact⟨some i,H1,I1, .int i t,q⟩
def HV(X:Cx)(r:V->Option Int->Option Int->Hp->VK->Prop):Prop:=
 ∀(pins:List (Addr×Obj)) (s:Shared) (σ:St) (H:Hp) (x:V) (v vl vu:Value) (lo hi:Option Int) (sl:Addr) (Q:VK),Inv X pins σ H s->RelV x v->s.heap.IsSliceOf sl vl vu .none->IsPart vl lo->IsPart vu hi->r x lo hi H Q->
  ∃T id,typeLookup (.type T) "__getitem__"=pure (some (.builtin id))/\s.TypeIs v T/\wpAny (model X.prog X.w) X.A (getItem v (.ref sl)) (EP X pins σ Q) X.xe s
def tF(r:V->Option Int->Option Int->Hp->VK->Prop)(te:TE)(tl th:TO):TE:=fun σ H Q=>te σ H fun x H1=>tl σ H1 fun l H2=>th σ H2 fun u H3=>r x l u H3 Q
theorem mX{r:V->Option Int->Option Int->Hp->VK->Prop}(hr:HV X r)(he:PE X e te)(hl:PO X lo tl)(hu:PO X hi th):PE X (.Subscript e (.Slice lo hi none p2) pos) (tF r te tl th):=by
 intro pins s σ H Q I h
 refine Subscript_ (aO (he pins s σ H _ I h) fun v s1 ⟨x,H1,I1,r1,q1⟩=>?_)
 refine wpAny_Slice (aO (hl pins s1 σ H1 _ I1 q1) fun vl s2 ⟨l,H2,I2,pl,q2⟩=>aO (hu pins s2 σ H2 _ I2 q2) fun vu s3 ⟨u,H3,I3,pu,q3⟩=>?_)
 rw[evalPart_none]
 refine wpAny_pure ?_
 have I4:Inv X pins σ H3 {s3 with heap:=s3.heap.push {cls:= .type "slice",data:= .fields #[vl,vu, .none]}}:=I3.kept (t':=s3.toks) fun b ob q=>dw _ q
 obtain⟨T,id,hT,ht,hg⟩:=hr pins {s3 with heap:=s3.heap.push {cls:= .type "slice",data:= .fields #[vl,vu, .none]}} σ H3 x v vl vu l u s3.heap.objs.size Q I4 r1 (Heap.IsSliceOf.new ..) pl pu q3
 show wpAny (model X.prog X.w) X.A (subscriptTail e (.Slice lo hi none p2) v (.ref s3.heap.objs.size)) (EP X pins σ Q) X.xe {s3 with heap:=s3.heap.push {cls:= .type "slice",data:= .fields #[vl,vu, .none]}}
 exact tail_any (ops:=[.ref s3.heap.objs.size,v]) ht hT hg (by with_unfolding_all rfl)
def lJ(xs:List V)(lo hi:Option Int):List V:=(xs.drop (HT.eB xs.length 0 lo)).take (HT.eB xs.length xs.length hi-HT.eB xs.length 0 lo)
theorem Q4(xs:List V)(lo hi:Option Int):(lJ xs lo hi).length<=xs.length:=by
 unfold lJ
 rw[cZ,iR]
 omega
def Sd(K:PySem.W.Frag):V->Option Int->Option Int->Hp->VK->Prop:=fun x lo hi H Q=>∃a xs,x= .ref a/\gE K H a xs/\
 ¬(HT.eB xs.length 0 lo=0/\HT.eB xs.length xs.length hi=xs.length)/\∀p,H p=none->Q (.ref p) (upd H p (.tup (lJ xs lo hi)))
def P9(K:PySem.W.Frag):R2:=fun x y H Q=>∃a b xs ys,x= .ref a/\y= .ref b/\gE K H a xs/\gE K H b ys/\xs≠[]/\xs.length+ys.length<=sizeLine/\
 (ys=[]->Q (.ref a) H)/\(ys≠[]->∀p,H p=none->Q (.ref p) (upd H p (.tup (xs++ys))))
end
def dM(n:Nat)(i:Int):Option Nat:=if 0<=i then(if i<n then some i.toNat else none) else if-(n:Int)<=i then some (i+n).toNat else none
def bH{α:Type}(xs:List α)(i:Int):Option α:=(dM xs.length i).bind fun j=>xs[j]?
theorem t8{n:Nat}{i:Int}{j:Nat}(h:dM n i=some j):seqIndex? i n=some j/\j<n/\ -(n:Int)<=i/\i<n:=by
 unfold dM at h
 by_cases h0:0<=i
 ·rw[if_pos h0] at h
  by_cases h1:i<n
  ·rw[if_pos h1] at h
   have e:i.toNat=j:=fN h
   exact⟨by rw[seqIndex_of h0 h1,e],by omega,by omega,h1⟩
  ·rw[if_neg h1] at h;cases h
 ·rw[if_neg h0] at h
  by_cases h1: -(n:Int)<=i
  ·rw[if_pos h1] at h
   have e:(i+n).toNat=j:=fN h
   exact⟨by rw[seqIndex_neg (by omega) h1,e],by omega,h1,by omega⟩
  ·rw[if_neg h1] at h;cases h
theorem K5{α:Type}{xs:List α}{i:Int}{v:α}(h:bH xs i=some v):∃j,seqIndex? i xs.length=some j/\xs[j]?=some v/\j<xs.length/\ -(xs.length:Int)<=i/\i<xs.length:=by
  unfold bH at h
  cases e:dM xs.length i with
  |none=>rw[e] at h;cases h
  | some j =>
    rw[e] at h
    obtain⟨h1,h2,h3,h4⟩:=t8 e
    exact⟨j,h1,h,h2,h3,h4⟩
theorem LL{α:Type}{xs:List α}{j:Nat}{v:α}(h:xs[j]?=some v):bH xs (j:Int)=some v:=by
 have hj:j<xs.length:=(aP.mp h).1
 have e:dM xs.length (j:Int)=some j:=by
  unfold dM
  rw[if_pos (by omega),if_pos (by omega)];simp
 unfold bH;rw[e];exact h
def SH(b:Expr):Prop:=∀o i,subscripted b false o i=operate [o,i] (getItem o i)
def we(X:Cx)(r:R2):Prop:=
 ∀(value slice:Expr) (pins:List (Addr×Obj)) (s:Shared) (σ:St) (H:Hp) (x y:V) (v u:Value) (Q:VK),Inv X pins σ H s->RelV x v->RelV y u->r x y H Q->
  subscripted slice false v u=operate [v,u] (getItem v u)->wpAny (model X.prog X.w) X.A (subscriptTail value slice v u) (EP X pins σ Q) X.xe s
def rj(X:Cx)(id:String)(r:V->List V->Hp->VK->Prop):Prop:=
 ∀(pins:List (Addr×Obj)) (s:Shared) (σ:St) (H:Hp) (x:V) (xs:List V) (v:Value) (us:List Value) (Q:VK),Inv X pins σ H s->RelV x v->Vals xs us->r x xs H Q->
  wpAny (model X.prog X.w) X.A (call (.builtin id) (v::us)) (EP X pins σ Q) X.xe s
section
variable{X:Cx}{a b:Expr}{ta tb:TE}{pos:Pos}
theorem aH{r:R2}(hr:we X r)(ha:PE X a ta)(hb:PE X b tb)(hs:SH b):PE X (.Subscript a b pos) (cK r ta tb):=by
 intro pins s σ H Q I h
 exact Subscript_ (Bx ha hb I h fun v u s2 x y H2 I2 rx ry q=>hr a b pins s2 σ H2 x y v u Q I2 rx ry q (hs _ _))
def bX(K:PySem.W.Frag):R2:=fun x y H Q=>∃p xs i v,x= .ref p/\y= .int i/\aS K H p xs/\bH xs i=some v/\Q v H
def bK(K:PySem.W.Frag):R2:=fun x y H Q=>∃p xs i v,x= .ref p/\y= .int i/\gE K H p xs/\bH xs i=some v/\Q v H
def Li:R2:=fun x y H Q=>∃z i c,x= .str z/\y= .int i/\z.length<=sizeLine/\bH z.cps.toList i=some c/\Q (.str ⟨#[c]⟩) H
theorem bD:we X (bX X.K):=by
 intro value slice pins s σ H x y v u Q I rx ry h hs
 obtain⟨p,xs,i,z,rfl,rfl,hq,he,q⟩:=h
 cases rx
 obtain⟨t,rfl⟩:=ry
 obtain⟨its,r,pl,hz⟩:=I.list hq
 obtain⟨j,h1,h2,h3,h4,h5⟩:=K5 he
 obtain⟨w,ew,rw'⟩:=r.get h2
 have hl:=r.length
 have hn:=tG
 have fin:EP X pins σ Q w s:=⟨z,H,I,rw',q⟩
 by_cases h0:0<=i
 ·have hj:i.toNat=j:=by
   rw[seqIndex_of h0 h5] at h1
   exact fN h1
  exact item_listR pl.isList h0 (by omega) (by rw[hj];simpa using ew) fin hs
 ·have hj:(i+(its.toArray.size:Int)).toNat=j:=by
   rw[seqIndex_neg (by omega) h4] at h1
   rw[cG,<-hl]
   exact fN h1
  exact subscriptTail_builtinR (x:=w) pl.isList.typeIs slot_list_getitem.lookup
   (wpAny_getItem_list_neg (Q:=fun r s'=>r=w/\EP X pins σ Q r s') pl.isList (by omega) (by rw[cG]<;>omega) (by omega) (by rw[hj];simpa using ew) ⟨rfl,fin⟩) hs
theorem bU:we X (bK X.K):=by
 intro value slice pins s σ H x y v u Q I rx ry h hs
 obtain⟨p,xs,i,z,rfl,rfl,hq,he,q⟩:=h
 cases rx
 obtain⟨t,rfl⟩:=ry
 obtain⟨its,r,pl,hz⟩:=I.tuple hq
 obtain⟨j,h1,h2,h3,h4,h5⟩:=K5 he
 obtain⟨w,ew,rw'⟩:=r.get h2
 have hl:=r.length
 have hn:=tG
 have fin:EP X pins σ Q w s:=⟨z,H,I,rw',q⟩
 exact subscriptTail_builtinR (x:=w) pl.typeIs slot_tuple_getitem.lookup
  (getItem_tuple (j:=j) (Q:=fun r s'=>r=w/\EP X pins σ Q r s') pl (by omega) (by omega) (by rw[cG,<-hl];exact h1) (by simpa using ew) ⟨rfl,fin⟩) hs
def SR(K:PySem.W.Frag):R2:=fun x y H Q=>bX K x y H Q\/bK K x y H Q\/Li x y H Q
theorem L7(its:List Value)(n j:Nat)(u:Value):Obj.mapSeq (·.setIfInBounds j u) {cls:= .type "list",data:= .seq its.toArray n}={cls:= .type "list",data:= .seq (its.set j u).toArray n}:=by
 simp[Obj.mapSeq]
theorem Inv.lst{pins:List (Addr×Obj)}{σ:St}{H:Hp}{s:Shared}{p:Addr}{xs:List V}(I:Inv X pins σ H s)(h:H p=some (.lst xs)):
  ∃(its:List Value) (n:Nat),Vals xs its/\s.heap.get? p=some {cls:= .type "list",data:= .seq its.toArray n}/\xs.length<=sizeLine:=by
 obtain⟨z,its,n,r,e⟩:=I.hok p _ h
 exact⟨its,n,r,e,z⟩
theorem Inv.OU{pins:List (Addr×Obj)}{σ:St}{H:Hp}{s:Shared}{p:Addr}{xs ys:List V}{its its':List Value}{n n':Nat}{f:Obj->Obj}(I:Inv X pins σ H s)(h:H p=some (.lst xs))
  (ho:s.heap.get? p=some {cls:= .type "list",data:= .seq its.toArray n}) (hf:f {cls:= .type "list",data:= .seq its.toArray n}={cls:= .type "list",data:= .seq its'.toArray n'}) (r:Vals ys its') (hz:ys.length<=sizeLine) (t:Nat):
  Inv X pins σ (upd H p (.lst ys)) {s with heap:=s.heap.update p f,toks:=t}:=by
 have e:(s.heap.update p f).get? p=some {cls:= .type "list",data:= .seq its'.toArray n'}:=by
  rw[rE f ho (by rw[hf]<;>rfl),hf]
 refine I.write (x:=p) (e:=p) (by rw[h];trivial) (.inl rfl) (fun b u hb q=>(pL _ _ (bx hb)).trans q) ⟨_,e⟩ ?_
 exact⟨hz,its',n',r,e⟩
def qu:V->V->V->Hp->(Hp->Prop)->Prop:=fun o i v H Q=>∃p xs k j,o= .ref p/\i= .int k/\H p=some (.lst xs)/\dM xs.length k=some j/\Q (upd H p (.lst (xs.set j v)))
theorem set_list:Ay X qu:=by
 intro pins s σ H o i v ov iv u Q I ro ri rv h
 obtain⟨p,xs,k,j,rfl,rfl,hp,hj,q⟩:=h
 cases ro
 obtain⟨t,rfl⟩:=ri
 obtain⟨its,n,r,ho,hz⟩:=I.lst hp
 obtain⟨h1,h2,h3,h4⟩:=t8 hj
 have hl:=r.length
 have hn:=tG
 have I':Inv X pins σ (upd H p (.lst (xs.set j v))) {s with heap:=s.heap.update p (Obj.mapSeq (·.setIfInBounds j u))}:=
  I.OU hp ho (L7 its n j u) (r.set rv j) (by rw[gn];exact hz) s.toks
 by_cases h0:0<=k
 ·have hk:k.toNat=j:=by
   rw[seqIndex_of h0 h4] at h1
   exact fN h1
  exact PySem.W.ki_setAt ho h0 (by omega) (by rw[cG,<-hl];exact h4) (by rw[hk];exact⟨_,I',q⟩)
 ·have hk:(k+(its.toArray.size:Int)).toNat=j:=by
   rw[seqIndex_neg (by omega) h3] at h1
   rw[cG,<-hl]
   exact fN h1
  exact PySem.W.ki_setBack ho (by omega) (by rw[cG,<-hl];exact h3) (by omega) (by rw[hk];exact⟨_,I',q⟩)
theorem PL(lo hi:Option Int)(n:Nat):(sliceBounds lo hi none n).1=((HT.eB n 0 lo:Nat):Int)/\(sliceBounds lo hi none n).2.1=((HT.eB n n hi:Nat):Int)/\(sliceBounds lo hi none n).2.2=1:=by
  refine⟨?_,?_,rfl⟩
  · cases lo with
    |none=>simp[sliceBounds,HT.eB]
    | some i =>
      simp only[sliceBounds,HT.eB,Option.getD_none,show(1:Int)>0 by decide,if_true]
      by_cases h:i<0
      · simp only[h,if_true]<;>omega
      · simp only[h,if_false]<;>omega
  · cases hi with
    |none=>simp[sliceBounds,HT.eB]
    | some i =>
      simp only[sliceBounds,HT.eB,Option.getD_none,show(1:Int)>0 by decide,if_true]
      by_cases h:i<0
      · simp only[h,if_true]<;>omega
      · simp only[h,if_false]<;>omega
theorem Uh(its:List Value)(lo hi:Option Int):slicePick its.toArray lo hi none=((its.drop (HT.eB its.length 0 lo)).take (HT.eB its.length its.length hi-HT.eB its.length 0 lo)).toArray:=by
 obtain⟨h1,h2,h3⟩:=PL lo hi its.toArray.size
 unfold slicePick
 rw[h1,h2,h3]
 simp only[sliceRange_one,pick_run,cG]<;>rfl
def kM(K:PySem.W.Frag):V->Option Int->Option Int->Hp->VK->Prop:=fun x lo hi H Q=>∃a xs,x= .ref a/\aS K H a xs/\∀p,H p=none->Q (.ref p) (upd H p (.lst (lJ xs lo hi)))
theorem mP:HV X (kM X.K):=by
 intro pins s σ H x v vl vu lo hi sl Q I rx hs pl pu h
 obtain⟨a,xs,rfl,hx,q⟩:=h
 cases rx
 obtain⟨its,r,ht,hz⟩:=I.list hx
 have hlen:=r.length
 refine⟨"list",_,slot_list_getitem.lookup,ht.isList.typeIs,?_⟩
 refine wpAny_getItem_list_slice ht.isList hs pl pu .none (by simp) ?_ (by rw[cG]<;>omega)
 rw[Uh,<-hlen]
 refine⟨.ref s.heap.objs.size,_,I.laid (t':=s.toks) (o:= .lst (lJ xs lo hi)) (fun b ob q=>dw _ q) (bh _) ?_,rfl,q _ (I.hok.fresh (bh _))⟩
 exact⟨cX (Q4 xs lo hi) hz,_,0,(r.drop (HT.eB xs.length 0 lo)).take (HT.eB xs.length xs.length hi-HT.eB xs.length 0 lo),gH _ rfl⟩
def EH:V->Bool
 | .aL=>true
 | .bl _=>true
 | .int _=>true
 | .str _=>true
 |_=>false
def LI:V->V->Bool
 | .aL, .aL=>true
 | .bl a, .bl b=>a==b
 | .bl a, .int b=>(if a then 1 else 0)==b
 | .int a, .bl b=>a==(if b then 1 else 0)
 | .int a, .int b=>a==b
 | .str a, .str b=>a==b
 |_,_=>false
def p8(x:V)(xs:List V):Bool:=xs.any fun y=>LI y x
def Tt(K:PySem.W.Frag)(neg:Bool):R2:=fun x y H Q=>∃p xs,y= .ref p/\(aS K H p xs\/gE K H p xs)/\EH x=true/\xs.all EH=true/\Q (.bl (if neg then !p8 x xs else p8 x xs)) H
theorem EV:gR X (.builtin "len") (fun xs H Q=>∃p ys,xs=[.ref p]/\(aS X.K H p ys\/gE X.K H p ys)/\Q (.int ys.length) H):=by
 intro pins s σ H xs us Q I r h
 obtain⟨p,ys,rfl,hq,q⟩:=h
 obtain⟨u,rfl,rx⟩:=vals1 r
 cases rx
 have hn:=tG
 rcases hq with hq|hq
 ·obtain⟨its,r',pl,hz⟩:=I.list hq
  have hlen:=r'.length
  exact Calls.call_len_list pl.isList (by simp only[cG]<;>omega) ⟨.int ys.length,H,I.tok _,⟨s.toks+1,by rw[cG,hlen]⟩,q⟩
 ·obtain⟨its,r',pl,hz⟩:=I.tuple hq
  have hlen:=r'.length
  exact len_tuple pl (by simp only[cG]<;>omega) ⟨.int ys.length,H,I.tok _,⟨s.toks+1,by rw[cG,hlen]⟩,q⟩
theorem Ri:gR X (.type "list") (fun xs H Q=>∃p ys,xs=[.ref p]/\(aS X.K H p ys\/gE X.K H p ys)/\∀l,H l=none->Q (.ref l) (upd H l (.lst ys))):=by
 intro pins s σ H xs us Q I r h
 obtain⟨p,ys,rfl,hq,q⟩:=h
 obtain⟨u,rfl,rx⟩:=vals1 r
 cases rx
 have fin:∀(its:List Value),Vals ys its->ys.length<=sizeLine->∀(h':Heap) (c':Nat),(∀b o',s.heap.get? b=some o'->h'.get? b=some o')->
   h'.get? s.heap.objs.size=some {cls:= .type "list",dict:=none,data:= .seq its.toArray c',slots:= #[]}->EP X pins σ Q (.ref s.heap.objs.size) {s with heap:=h'}:=fun its r' hz h' c' kp e=>
  ⟨.ref s.heap.objs.size,_,I.laid (t':=s.toks) kp (bh _) (show cD X.prog X.w _ h' _ (.lst ys) from⟨hz,its,c',r',e⟩),rfl,q _ (I.hok.fresh (bh _))⟩
 rcases hq with hq|hq
 ·obtain⟨its,r',pl,hz⟩:=I.list hq
  have hlen:=r'.length
  obtain⟨o,ho,hc,n,hd⟩:=pl.isList
  exact call_list_seq p (.inl rfl) ho hc hd (fun h' c' kp e=>fin its r' hz h' c' kp e) (by simp only[cG]<;>omega)
 ·obtain⟨its,r',pl,hz⟩:=I.tuple hq
  have hlen:=r'.length
  obtain⟨o,ho,hc,n,hd⟩:=pl
  exact call_list_seq p (.inr rfl) ho hc hd (fun h' c' kp e=>fin its r' hz h' c' kp e) (by simp only[cG]<;>omega)
def sH(K:PySem.W.Frag)(T:String)(x:V)(H:Hp):Prop:=match x with
 | .str _=>T="str"
 | .int _=>T="int"
 | .ref p => (T = "list" /\ ∃ xs, aS K H p xs) \/ (T = "tuple" /\ ∃ o, K.lookup p = some o /\ o.cls = .type "tuple" /\ o.dict = none) \/
   (T="dict" /\((∃kvs,H p=some (.dK kvs))\/(∃kvs,H p=some (.dT kvs))\/∃o kvs,H p=some (.bR o (.dK kvs))))\/(T="set" /\∃S n,H p=some (.set S n))
 |_=>False
theorem JT{pins:List (Addr×Obj)}{σ:St}{H:Hp}{s:Shared}{T:String}{x:V}{v:Value}(I:Inv X pins σ H s)(r:RelV x v)(ty:sH X.K T x H):
    s.TypeIs v T/\∀a,v= .ref a->∃ob,s.heap.get? a=some ob/\ob.dict=none:=by
  cases x with
  | str z =>
    obtain⟨t,rfl⟩:=r
    cases (show T="str" from ty)
    exact⟨typeIs_str s z t,fun _ e=>nomatch e⟩
  | int i =>
    obtain⟨t,rfl⟩:=r
    cases (show T="int" from ty)
    exact⟨typeIs_int s i t,fun _ e=>nomatch e⟩
  | ref p =>
    cases r
    rcases ty with ⟨rfl,xs,hq⟩|⟨rfl,o,hk,hc,hd⟩|⟨rfl,hk⟩|⟨rfl,S,n,hk⟩
    · obtain⟨its,_,pl,_⟩:=I.list hq
      refine⟨pl.isList.typeIs,fun a e=>?_⟩
      cases e
      obtain⟨o,n,e,c,hd,_⟩:=pl
      exact⟨o,e,hd⟩
    · refine⟨⟨o,I.eu p o hk,hc⟩,fun a e=>?_⟩
      cases e
      exact⟨o,I.eu _ o hk,hd⟩
    · have z:∃o,s.heap.get? p=some o/\o.ExactDict:=by
        rcases hk with ⟨kvs,hk⟩|⟨kvs,hk⟩|⟨ob,kvs,hk⟩
        · obtain⟨_,_,_,_,o,_,_,e,ex,_⟩:=I.hok p _ hk
          exact⟨o,e,ex⟩
        · obtain⟨_,_,_,_,o,_,_,e,ex,_⟩:=I.hok p _ hk
          exact⟨o,e,ex⟩
        · obtain⟨_,_,_,_,_,o,_,_,e,ex,_⟩:=I.hok p _ hk
          exact⟨o,e,ex⟩
      obtain⟨o,e,ex⟩:=z
      refine⟨⟨o,e,ex.1⟩,fun a e2=>?_⟩
      cases e2
      exact⟨o,e,ex.2.1⟩
    · obtain⟨o,_,_,_,e,ex,_⟩:=I.hok p _ hk
      refine⟨⟨o,e,ex.1⟩,fun a e2=>?_⟩
      cases e2
      exact⟨o,e,ex.2.1⟩
  |_=>exact False.elim ty
def tN(K:PySem.W.Frag)(T:String)(r:V->List V->Hp->VK->Prop)(to:TE):TE:=fun σ H Q=>to σ H fun x H1=>sH K T x H1/\r x [] H1 Q
def sI(K:PySem.W.Frag)(T:String)(r:V->List V->Hp->VK->Prop)(to:TE)(t:TA):TE:=fun σ H Q=>to σ H fun x H1=>sH K T x H1/\t σ H1 fun xs H2=>r x xs H2 Q
variable{o e:Expr}{es:List Expr}{to:TE}{t:TA}{name:Str}{apos cpos:Pos}{T id:String}{r:V->List V->Hp->VK->Prop}
theorem zT(pa:PlainAttrs T)(slot:Slot T name id)(hty:typeOf (.builtin id)=pure (.type "method_descriptor"))(hm:rj X id r)(ho:PE X o to)
  (hbase:attributeBase o name X.env (eval o X.env)=eval o X.env:=by rfl) (hline:(apos.endLine==cpos.line)=true:=by rfl):PE X (.Call (.Attribute o name apos) [] [] cpos) (tN X.K T r to):=by
 intro pins s σ H Q I h
 refine wpAny_Call_method0_late hbase hline (aO (ho pins s σ H _ I h) fun v s1 ⟨x,H1,I1,r1,ty,q1⟩=>?_)
 obtain⟨h1,h2⟩:=JT I1 r1 ty
 exact⟨T,id,pa,slot,hty,h1,h2,Calls.callWith_builtin rfl (PySem.evalArgs_none (hm pins s1 σ H1 x [] v [] Q I1 r1 .nil q1))⟩
theorem p9(pa:PlainAttrs T)(slot:Slot T name id)(hty:typeOf (.builtin id)=pure (.type "method_descriptor"))(hm:rj X id r)(ho:PE X o to)(ha:PA X (e::es) t)
  (hbase:attributeBase o name X.env (eval o X.env)=eval o X.env:=by rfl)
  (hfew : ((backTo cpos (starEach (e :: es) X.env)).all (fun x => !x.1) && (backToKw cpos (keywordEach [] X.env)).all (fun x => x.1.isSome)
   && decide ((e::es).length+([]:List Keyword).length+(if([]:List Keyword).isEmpty then 0 else 1)<30))=true:=by rfl)
  (hline:(apos.endLine==cpos.line)=true:=by rfl) (hs:starEach (e::es) X.env=(false,eval e X.env)::starEach es X.env:=by rfl) (hplain:(backTo cpos (starEach es X.env)).any (·.1)=false:=by rfl):
  PE X (.Call (.Attribute o name apos) (e::es) [] cpos) (sI X.K T r to t):=by
 intro pins s σ H Q I h
 refine wpAny_Call_method_late hbase hfew hline rfl (aO (ho pins s σ H _ I h) fun v s1 ⟨x,H1,I1,r1,ty,q1⟩=>?_)
 obtain⟨h1,h2⟩:=JT I1 r1 ty
 refine⟨T,id,pa,slot,hty,h1,h2,?_⟩
 have hA:=ha cpos pins s1 σ H1 _ I1 q1
 rw[hs] at hA⊢
 refine Calls.callWith_builtin (by show(false||(backTo cpos (starEach es X.env)).any (·.1))=false;rw[hplain]<;>rfl) (Calls.evalArgs_plain ?_)
 exact aO hA fun us s2 ⟨vs,H2,I2,r2,q2⟩=>hm pins s2 σ H2 x vs v us Q I2 r1 r2 q2
/-xs.append(e),list.index on a module's tuple .. are rj facts of 06m-/
end
def qh(X:Cx)(id:String)(r:V->List V->Hp->VK->Prop):Prop:=
 ∀(pins:List (Addr×Obj)) (s:Shared) (σ:St) (H:Hp) (x:V) (xs:List V) (v:Value) (us:List Value) (Q:VK),Inv X pins σ H s->RelV x v->Vals xs us->r x xs H Q->
  wpAny (model X.prog X.w) X.A (call (.builtin id) (v::us)) (EP X pins σ Q) X.xe s
theorem Vals.one{x:V}{us:List Value}(h:Vals [x] us):∃u,us=[u]/\RelV x u:=by
 cases h with
 |cons r t=>cases t;exact⟨_,rfl,r⟩
theorem Vals.two{x y:V}{us:List Value}(h:Vals [x,y] us):∃u v,us=[u,v]/\RelV x u/\RelV y v:=by
  cases h with
  | cons r t =>
    obtain⟨v,e,q⟩:=Vals.one t
    exact⟨_,v,by rw[e],r,q⟩
theorem Vals.zero:∀{us:List Value},Vals [] us->us=[]
 |_, .nil=>rfl
theorem Vals.dropLast{xs:List V}{us:List Value}(h:Vals xs us):Vals xs.dropLast us.dropLast:=by
  induction h with
  |nil=>exact .nil
  | cons r t ih =>
    cases t with
    |nil=>exact .nil
    |cons q t'=>exact .cons r ih
theorem Vals.eraseIdx:∀{xs:List V} {us:List Value} (i:Nat),Vals xs us->Vals (xs.eraseIdx i) (us.eraseIdx i)
 |_,_,_, .nil=> .nil
 |_,_,0, .cons _ t=>t
 |_,_,i+1, .cons r t=> .cons r (Vals.eraseIdx i t)
theorem Vals.rep{xs:List V}{us:List Value}(h:Vals xs us):∀k:Nat,Vals (List.replicate k xs).flatten (List.replicate k us).flatten
  |0=> .nil
  | k + 1 => by
    rw[nV,nV,sY,sY]
    exact Vals.append h (Vals.rep h k)
theorem VQ{α:Type}(l:List α):l.eraseIdx (l.length-1)=l.dropLast:=by
  induction l with
  |nil=>rfl
  | cons a r ih =>
    cases r with
    |nil=>rfl
    | cons b r =>
      have e:(a::b::r).length-1=((b::r).length-1)+1:=by
        have h1:(a::b::r).length=r.length+2:=rfl
        have h2:(b::r).length=r.length+1:=rfl
        omega
      rw[e,List.eraseIdx_cons_succ,ih]
      all_goals rfl
theorem IL{α:Type}:∀(l:List α) (i:Nat),(l.eraseIdx i).length<=l.length
 |[],_=>bh _
 |_::_,0=>tE _
 |_::r,i+1=>Nat.succ_le_succ (IL r i)
theorem foldl_rep(its:List Value):∀(k:Nat) (acc:List Value),
    List.foldl (fun x1 x2=>x1++x2) acc.toArray (List.replicate k its.toArray)=(acc++(List.replicate k its).flatten).toArray
  |0,acc=>by simp
  | k + 1, acc => by
    have e:acc.toArray++its.toArray=(acc++its).toArray:=by simp
    have e2:(acc++its)++(List.replicate k its).flatten=acc++(List.replicate (k+1) its).flatten:=by
      rw[nV,sY,Ag]
    rw[<-e2,<-foldl_rep its k (acc++its),<-e,nV,List.foldl_cons]
section
variable{X:Cx}{pins:List (Addr×Obj)}{σ:St}{H:Hp}{s:Shared}{l b:Addr}{xs ys zs:List V}
theorem Inv.qf{its its':List Value}{n:Nat}{f:Array Value->Array Value}{t':Nat}(I:Inv X pins σ H s)(hH:H l=some (.lst xs))
  (e:s.heap.get? l=some {cls:= .type "list",data:= .seq its.toArray n}) (hf:f its.toArray=its'.toArray) (hv:Vals ys its') (hz:ys.length<=sizeLine):
  Inv X pins σ (upd H l (.lst ys)) {s with heap:=s.heap.update l (Obj.mapSeq f),toks:=t'}:=by
 have q:=PySem.IsL.update e f
 rw[hf] at q
 refine I.write (x:=l) (e:=l) (by rw[hH];exact trivial) (.inl rfl) (fun b' u hb hu=>(pL s.heap (Obj.mapSeq f) (bx hb)).trans hu) ⟨_,q⟩ ?_
 exact⟨hz,its',_,hv,q⟩
theorem Inv.AN{its:List Value}{t':Nat}(I:Inv X pins σ H s)(hv:Vals ys its)(hz:ys.length<=sizeLine):
  Inv X pins σ (upd H s.heap.objs.size (.lst ys)) {s with heap:=s.heap.push {cls:= .type "list",data:= .seq its.toArray},toks:=t'}:=
 I.laid (fun _ _ q=>dw _ q) (bh _) ⟨hz,its,0,hv,gH _ rfl⟩
theorem Inv.fresh(I:Inv X pins σ H s):H s.heap.objs.size=none:=I.hok.fresh (bh _)
theorem Inv.kJ(I:Inv X pins σ H s)(hH:H l=some (.lst xs)):xs.length<=sizeLine/\∃(its:List Value) (n:Nat),Vals xs its/\xs.length=its.length/\s.heap.get? l=some {cls:= .type "list",data:= .seq its.toArray n}:=by
 obtain⟨z,its,n,r,e⟩:=I.hok l _ hH
 exact⟨z,its,n,r,r.length,e⟩
theorem Jt{n:Nat}(h:n<=sizeLine):Builtin.List.listTooLong n=false:=by
 unfold Builtin.List.listTooLong
 exact decide_eq_false (by omega)
end
section
variable{X:Cx}
def Kh:V->List V->Hp->VK->Prop:=fun x vs H Q=>∃l xs y,x= .ref l/\vs=[y]/\H l=some (.lst xs)/\xs.length<sizeLine/\Q .aL (upd H l (.lst (xs++[y])))
theorem yh:qh X "list.append" Kh:=by
 intro pins s σ H x vs v us Q I rx rv h
 obtain⟨l,xs,y,rfl,rfl,hH,hz,q⟩:=h
 cases rx
 obtain⟨u,rfl,ru⟩:=rv.one
 obtain⟨z,its,n,r,hl,e⟩:=I.kJ hH
 refine call_meets F.slot_list_append ⟨_,e,rfl⟩ F.entry_list_append (F.args_list_append_2 _ _) (PySem.list_append l its.toArray n u (by rw[cG];omega)) ⟨e,?_⟩
 refine⟨.aL,_,I.qf (its':=its++[u]) hH e (by simp) (r.append (.cons ru .nil)) ?_,rfl,q⟩
 rw[fm,j3]
 omega
def Nk:V->List V->Hp->VK->Prop:=fun x vs H Q=>∃l b xs zs,x= .ref l/\vs=[.ref b]/\H l=some (.lst xs)/\H b=some (.lst zs)/\xs.length+zs.length<=sizeLine/\Q .aL (upd H l (.lst (xs++zs)))
theorem Yh:qh X "list.extend" Nk:=by
 intro pins s σ H x vs v us Q I rx rv h
 obtain⟨l,b,xs,zs,rfl,rfl,hH,hB,hz,q⟩:=h
 cases rx
 obtain⟨u,rfl,ru⟩:=rv.one
 cases ru
 obtain⟨z,its,n,r,hl,e⟩:=I.kJ hH
 obtain⟨z2,its2,n2,r2,hl2,e2⟩:=I.kJ hB
 have hsz:its.toArray.size+its2.toArray.size<=sizeLine:=by rw[cG,cG];omega
 have Bh:¬(!its.toArray.isEmpty && Builtin.List.listTooLong (its.toArray.size+its2.toArray.size))=true:=by
  rw[Jt hsz,Bool.and_false]
  exact dH
 refine call_meets F.slot_list_extend ⟨_,e,rfl⟩ F.entry_list_extend (F.args_list_extend_2 _ _)
  (AutoSeq1.list_extend_list_list_0 l its.toArray n b its2.toArray n2 Bh (by rw[cG];omega) (by omega)) ⟨e,e2,?_⟩
 refine⟨.aL,_,I.qf (its':=its++its2) hH e (by simp) (r.append r2) ?_,rfl,q⟩
 rw[fm]
 omega
def XI:V->List V->Hp->VK->Prop:=fun x vs H Q=>∃l xs y,x= .ref l/\vs=[]/\H l=some (.lst xs)/\xs[xs.length-1]?=some y/\Q y (upd H l (.lst xs.dropLast))
theorem X3:qh X "list.pop" XI:=by
 intro pins s σ H x vs v us Q I rx rv h
 obtain⟨l,xs,y,rfl,rfl,hH,hy,q⟩:=h
 cases rx
 have nO:=rv.zero
 subst nO
 obtain⟨z,its,n,r,hl,e⟩:=I.kJ hH
 obtain⟨u,hu,ru⟩:=r.get hy
 have hy':its.toArray[its.toArray.size-1]?=some u:=by
  show its.toArray[its.length-1]?=some u
  rw[<-qg,<-hl]
  exact hu
 refine call_meets F.slot_list_pop ⟨_,e,rfl⟩ F.entry_list_pop (F.args_list_pop_1 _) (MeetsSeq.list_pop_last l its.toArray n u hy' (by rw[cG];omega)) ⟨e,?_⟩
 refine⟨y,_,I.qf (its':=its.dropLast) hH e ?_ r.dropLast ?_,ru,q⟩
 ·show its.toArray.eraseIdxIfInBounds (its.toArray.size-1)=its.dropLast.toArray
  rw[cG,JD,VQ]
 ·rw[List.length_dropLast]
  omega
def Dt:V->List V->Hp->VK->Prop:=fun x vs H Q=>∃l xs i k y,x= .ref l/\vs=[.int i]/\H l=some (.lst xs)/\ -(2^63)<=i/\i<2^63/\seqIndex? i xs.length=some k/\xs[k]?=some y/\Q y (upd H l (.lst (xs.eraseIdx k)))
theorem Cs:qh X "list.pop" Dt:=by
 intro pins s σ H x vs v us Q I rx rv h
 obtain⟨l,xs,i,k,y,rfl,rfl,hH,h1,h2,hk,hy,q⟩:=h
 cases rx
 obtain⟨u,rfl,ru⟩:=rv.one
 obtain⟨t,rfl⟩:=ru
 obtain⟨z,its,n,r,hl,e⟩:=I.kJ hH
 obtain⟨w,hw,rw'⟩:=r.get hy
 refine call_meets F.slot_list_pop ⟨_,e,rfl⟩ F.entry_list_pop (F.args_list_pop_2 _ _)
  (MeetsSeq.list_pop_at l its.toArray n i t k w (fitsIndex_both h1 h2) (by rw[cG,<-hl];exact hk) (by rw[<-qg];exact hw) (by rw[cG];omega)) ⟨e,?_⟩
 refine⟨y,_,I.qf (its':=its.eraseIdx k) hH e ?_ (r.eraseIdx k) ?_,rw',q⟩
 ·show its.toArray.eraseIdxIfInBounds k=(its.eraseIdx k).toArray
  rw[JD]
 ·have:=IL xs k
  omega
def E9:V->List V->Hp->VK->Prop:=fun x vs H Q=>∃l xs,x= .ref l/\vs=[]/\H l=some (.lst xs)/\Q .aL (upd H l (.lst []))
theorem Wf:qh X "list.clear" E9:=by
 intro pins s σ H x vs v us Q I rx rv h
 obtain⟨l,xs,rfl,rfl,hH,q⟩:=h
 cases rx
 have nO:=rv.zero
 subst nO
 obtain⟨z,its,n,r,hl,e⟩:=I.kJ hH
 refine call_meets F.slot_list_clear ⟨_,e,rfl⟩ F.entry_list_clear (F.args_list_clear_1 _) (AutoSeq1.list_clear_list_0 l its.toArray n (by rw[cG];omega)) ⟨e,?_⟩
 exact⟨.aL,_,I.qf (its':=[]) (ys:=[]) hH e rfl .nil (fW _),rfl,q⟩
def D8:R2:=fun x y H Q=>∃l b xs zs,x= .ref l/\y= .ref b/\H l=some (.lst xs)/\H b=some (.lst zs)/\xs.length+zs.length<=sizeLine/\∀p,H p=none->Q (.ref p) (upd H p (.lst (xs++zs)))
theorem tP:dY X (binaryOp .Add) D8:=by
 intro pins s σ H x y v u Q I rx ry h
 obtain⟨l,b,xs,zs,rfl,rfl,hH,hB,hz,q⟩:=h
 cases rx
 cases ry
 obtain⟨z,its,n,r,hl,e⟩:=I.kJ hH
 obtain⟨z2,its2,n2,r2,hl2,e2⟩:=I.kJ hB
 refine PySem.P.add_list e e2 ?_ (by rw[cG,cG];omega)
 have ea:its.toArray++its2.toArray=(its++its2).toArray:=by simp
 rw[ea]
 exact⟨.ref _,_,I.AN (t':=s.toks) (r.append r2) (by rw[fm];omega),rfl,q _ I.fresh⟩
def qR:R2:=fun x y H Q=>∃l k xs,x= .ref l/\y= .int k/\H l=some (.lst xs)/\ -(2^63)<=k/\k<2^63/\xs.length*k.toNat<=sizeLine/\
 ∀p,H p=none->Q (.ref p) (upd H p (.lst (List.replicate k.toNat xs).flatten))
theorem len_rep{α:Type}(xs:List α)(k:Nat):(List.replicate k xs).flatten.length=k*xs.length:=by
 induction k with
 |zero=>simp
 |succ k ih=>rw[nV,sY,fm,ih,Nat.succ_mul,Nat.add_comm]
theorem nI:dY X (binaryOp .Mult) qR:=by
 intro pins s σ H x y v u Q I rx ry h
 obtain⟨l,k,xs,rfl,rfl,hH,h1,h2,hz,q⟩:=h
 cases rx
 obtain⟨t,rfl⟩:=ry
 obtain⟨z,its,n,r,hl,e⟩:=I.kJ hH
 have hlen:its.toArray.size*k.toNat<=sizeLine:=by rw[cG,<-hl];exact hz
 have hcap:¬its.toArray.size*k.toNat>(2^63-1)/8:=by
  have:(sizeLine:Nat)<=(2^63-1)/8:=by decide
  omega
 have hfit:¬(!Builtin.List.listFitsIndex k)=true:=by
  rw[fitsIndex_both h1 h2]
  exact dH
 have Bh:¬Builtin.List.listTooLong (its.toArray.size*k.toNat)=true:=by
  rw[Jt hlen]
  exact dH
 have hnew:List.foldl (fun x1 x2=>x1++x2) #[] (List.replicate (if its.toArray.isEmpty=true then 0 else k.toNat) its.toArray)=(List.replicate k.toNat its).flatten.toArray:=by
  have f0:∀m:Nat,List.foldl (fun x1 x2=>x1++x2) #[] (List.replicate m its.toArray)=(List.replicate m its).flatten.toArray:=fun m=>by
   have:=foldl_rep its m []
   rw[List.nil_append] at this
   exact this
  rw[f0]
  cases its with
  |nil=>simp
  |cons a r'=>rw[if_neg (by simp)]
 refine wpAny_binaryOp_repeat_ref (T:="list") (U:="int") (by decide) ⟨_,e,rfl⟩ (fun s'=>typeIs_int s' k t) noFill_list_mul F.fills_int_mul F.slot_int_rmul repeat_list F.slot_int_index.lookup
  (call_meets F.slot_int_rmul (typeIs_int s k t) F.entry_int_rmul (F.args_int_rmul_2 _ _) (int___rmul___int_list k t l its.toArray n)
   ⟨e,rfl,⟨_,e,rfl⟩,call_meets F.slot_list_mul ⟨_,e,rfl⟩ F.entry_list_mul (F.args_list_mul_2 _ _) (AutoListH.list___mul___list_int_3 l its.toArray n k t hfit hcap Bh) ⟨e,?_⟩⟩)
 rw[hnew]
 exact⟨.ref _,_,I.AN (t':=s.toks) (r.rep k.toNat) (by rw[len_rep,nA];exact hz),rfl,q _ I.fresh⟩
end
end L2
namespace Att
open PySem PySem.W PySem.Calls PyProof.Rows
theorem MD{P:Params}{h:Heap}:∀(ns:List Int) (vs:List Value),WellAll P h vs (ns.map WData.int)->IntsAre vs ns:=by
  intro ns
  induction ns with
  | nil =>
    intro vs w
    rw[pA] at w
    cases w
    exact .nil
  | cons n ns ih =>
    intro vs w
    rw[bC] at w
    cases w with
    | cons a b =>
      cases a
      exact .cons _ _ (ih _ b)
theorem OG{l:OpenLaw}{n:Nat}(hn:l.most=some n){P:Params}{h:Heap}{args:List WData}{vals:List Value}
    (hpre:l.row.toRowW.claim.pre args=true) (hwl:WellAll P h vals args):
    ∃a vs ns,vals=[Value.ref a]/\args=[WData.list (ns.map WData.int)]/\h.get? a=some {cls:= .type "list",data:= .seq vs.toArray}/\IntsAre vs ns/\ns.length<=n:=by
  have hsh:WShape.hasAll [] args [.list .int]=true:=(pre_splitW hpre).1
  have hc:l.pre.holds [] {args:=args}=true:=(pre_splitW hpre).2
  obtain⟨d,r,rfl,h1,h2⟩:=hasAllW_cons hsh
  obtain rfl:=hasAllW_nil h2
  obtain⟨xs,rfl,h3⟩:=hasW_list h1
  obtain⟨ns,rfl⟩:=items_int h3
  have hlen:ns.length<=n:=by
    unfold OpenLaw.pre at hc
    have h4:(WTm.not (.lt (.lit (.int (n:Int))) (.len (.arg 0)))).holds [] {args:=[.list (ns.map .int)]}=true:=by
      have h4:=(holds_andW hc).1
      rw[hn] at h4
      exact h4
    have h5:=condW_of h4 (w_not (w_lt w_lit (w_len_list (w_arg rfl))))
    rw[ak] at h5
    refine Nat.le_of_not_lt fun q=>?_
    have q':(n:Int)<((ns.length:Nat):Int):=by omega
    first
      |(rw[decide_eq_true q'] at h5;exact absurd h5 (by decide))
      |(simp at h5;omega)
  cases hwl with
  | cons w1 w2 =>
    cases w2
    cases w1 with
    |list ho hall=>exact⟨_,_,ns,rfl,rfl,ho,MD ns _ hall,hlen⟩
theorem Oq(l:OpenLaw)(args:List WData):l.row.toRowW.claim.post args (.bool true) args=true:=
 postW_of (r:=l.row.toRowW) (X:=(true==true))
  (show WShape.has [] (.bool true) .bool=true by first|rfl|decide|simp[WShape.has,WShape.arms,WShape.armsAll])
  (show(WTm.eq .res (.lit (.bool true))).value [] {args:=args,res:=some (.bool true),after:=args}=some (.bool (true==true)) from w_eq_bool (w_res rfl) w_lit) rfl
theorem UI{l:OpenLaw}{n:Nat}{q:Program}{loose:List Str}{XP:(Str->Option Value)->Heap->Prop}{YP:World->Heap->Prop}{d:DefRec}
  (hn:l.most=some n) (hdf:d.params.defaults=[])
  (call : ∀ (w : World) (s₀ s₁ : Shared) (mg mb : Str -> Option Value) (fa : Addr) (o : Obj) (pm cd doc : Value) (a : Addr) (vs : List Value) (ns : List Int),
   Ground q loose [] XP w s₀ mg mb s₁.heap->YP w s₁.heap->
   s₁.heap.get? fa=some o->o.data= .func (docDef d.name d.params d.body d.scope pm cd doc)->s₁.heap.CodeRec cd d.name->mg d.name=some (.ref fa)->
   s₁.heap.get? a=some {cls:= .type "list",data:= .seq vs.toArray}->IntsAre vs ns->ns.length<=n->s₁.gens= #[]->
   codeAny (model l.prog w) callerA (.call (.ref fa) ⟨[.ref a],[]⟩) (fun r s'=>r= .ok (.ret (.bool true))/\OldK s₁.heap s'.heap/\s'.os=s₁.os/\AllBare s'.gens) s₁):
  WalkO q loose XP YP l.row.toRowW d [] (fun f vs=>PySem.call f vs):=by
 intro w s₀ s₁ mg mb G Y fa o pm cd doc dV kV ho hd hcd hD hmg hg args vals as hpre hlay hrd hwl hlo
 obtain rfl:dV= .none:=Dflts.none hD hdf
 obtain rfl:kV= .none:=Dflts.noKw hD
 obtain⟨a,vs,ns,rfl,rfl,hobj,hints,hlen⟩:=OG hn hpre hwl
 refine enter_call (codeAny_mono (call w s₀ s₁ mg mb fa o pm cd doc a vs ns G Y ho (fd_plain hd) hcd hmg hobj hints hlen hg) fun r s' hq=>?_)
 obtain⟨rfl,h2,h3,h4⟩:=hq
 exact⟨.inl ⟨.bool true, .bool true,[],rfl,fun _=>rfl, .bool true,Oq l _,fun _=>⟨List.Pairwise.nil,fun _ hm=>(nomatch hm)⟩⟩,h2,h3,h4⟩
section
variable{prog:Program}{w:World}{A:Around}{E:Value->Shared->Prop}{s:Shared}{K:Frag}
def ledger(h:Heap)(L d:Addr):List (Addr×Obj):=(List.range h.objs.size).filterMap fun a=>if a=L\/a=d then none else(h.get? a).map fun o=>(a,o)
end
end Att
namespace L2
open PySem PySem.Spec PyProof.Rows
theorem JF:∀{vs:List Value} {ns:List Int},IntsAre vs ns->Vals (ns.map V.int) vs
 |_,_, .nil=> .nil
 |_,_, .cons n t h=> .cons ⟨t,rfl⟩ (JF h)
def DL(H:Hp):Prop:=∀b,H b=none\/∃o xs,H b=some (.bR o (.lst xs))
theorem Qx{P:Program}{w:World}{K:PySem.W.Frag}{mg mb:Str->Option Value}{CX:kQ}{k:Nat}{fa a:Addr}{fd:FuncData}{x:Str}{sp:Sp}{s₁:Shared}{vs:List Value}{ns:List Int}
    (KX:K.In s₁.heap) (hns:s₁.heap.Ns mainGlobals mg) (hb:s₁.heap.Ns builtinsNs mb) (Tw:∀x:Str,x≠"__name__" ->mb x=bootBuiltins x) (hlim:s₁.heap.NoLimit) (hg:s₁.gens= #[])
    (ha:s₁.heap.get? a=some {cls:= .type "list",data:= .seq vs.toArray}) (hi:IntsAre vs ns) (hl:ns.length<=sizeLine) (hr:dR k callerA)
    (F:∀base:Heap,K.In base->base.Ns mainGlobals mg->bE P w K mg base CX k fa fd [x] sp) (hbind:∀(s:Shared) (u:Value),BindsTo s fd ⟨[u],[]⟩ [(x,u)])
    (g9:∀H:Hp,DL H->aS K H a (ns.map V.int)->sp [.ref a] H (fun v _=>v= .bl true) fun _ _ _=>False)
    (DT:∀H e s',CX [] H s₁ (fun _ _ _=>False) e s'->False):
    codeAny (model P w) callerA (.call (.ref fa) ⟨[.ref a],[]⟩) (fun r s'=>r= .ok (.ret (.bool true))/\OldK s₁.heap s'.heap/\s'.os=s₁.os/\AllBare s'.gens) s₁:=by
  have rv:=JF hi
  have Lr:=hi.length
  have core:∀H:Hp,DL H->aS K H a (ns.map V.int)->dD P w H s₁.heap->(∀b,H b≠none->b=a)->(H a≠none->K.lookup a=none)->
      codeAny (model P w) callerA (.call (.ref fa) ⟨[.ref a],[]⟩) (fun r s'=>r= .ok (.ret (.bool true))/\OldK s₁.heap s'.heap/\s'.os=s₁.os/\AllBare s'.gens) s₁:=by
    intro H hO hS hok hA hK
    have Fq:∀{b:Addr} {o:Obj},s₁.heap.get? b=some o->H b=none->(l9 s₁.heap H).get? b=some o:=fun e n=>XH e n
    have tS:∀{b:Addr} {o:Obj} {es:Array DictEntry} {ep:Nat},s₁.heap.get? b=some o->o.data= .dict es ep->H b=none:=fun{b o es ep} e d=>by
      cases q:H b with
      |none=>rfl
      | some u =>
        have e':b=a:=hA b (by rw[q];simp)
        subst e'
        rw[ha] at e;cases e
        have d':Data.seq vs.toArray _=Data.dict es ep:=d
        cases d'
    have vH:∀{b:Addr} {m:Str->Option Value},s₁.heap.Ns b m->(l9 s₁.heap H).Ns b m:=fun{b m} ⟨o,es,ep,e,d,r⟩=>⟨o,es,ep,Fq e (tS e d),d,r⟩
    have KS:K.In (l9 s₁.heap H):=fun b o e=>Fq (KX b o e) (by
      cases q:H b with
      |none=>rfl
      | some u =>
        have e':b=a:=hA b (by rw[q];simp)
        subst e'
        rw[hK (by rw[q];simp)] at e;cases e)
    have hM:Mod K mg (l9 s₁.heap H):=⟨KS,vH hns,⟨mb,vH hb,Tw⟩,let ⟨mc,h1,h2⟩:=hlim;⟨mc,vH h1,h2⟩⟩
    have e0:oQ P w K mg (l9 s₁.heap H) callerA [] s₁ H:=⟨rfl,hM,fun b o e=>Qo e,qi (Ue _ _),trivial,fun b hb=>absurd (show b∈([]:List Addr) from hb) (by simp),hok, .of_eq hg⟩
    refine codeAny_mono ((F _ KS (vH hns)).run callerA [] s₁ H ⟨[.ref a],[]⟩ [.ref a] [.ref a] _ _ hr e0 (hbind s₁ (.ref a)) (.cons rfl .nil) (g9 H hO hS)) fun r s' h=>?_
    cases r with
    |error e=>exact(DT H e s' h).elim
    | ok fl =>
      cases fl with
      |next=>exact False.elim h
      |brk=>exact False.elim h
      |cont=>exact False.elim h
      | ret u =>
        obtain⟨v,H',os,bare,un,Uu,r',q⟩:=h
        have q':v= .bl true:=q
        subst q'
        obtain rfl:u=Value.bool true:=r'
        refine⟨rfl,OldK.of_keep fun b o e=>?_,os,bare⟩
        cases q:H b with
        |none=>exact un.keep b o e q (by intro z;exact absurd (show b∈([]:List Addr) from z) (by simp)) (by simp)
        | some u =>
          rcases hO b with z|⟨ob,xs,z⟩
          · rw[q] at z;cases z
          · have z2:=un.ko b ob _ z
            obtain⟨e1,_⟩:=hok b _ z
            obtain⟨e2,_⟩:=Uu b _ z2
            rw[e] at e1;cases e1
            exact e2
  cases hk:K.lookup a with
  | some o =>
    have e:=KX a o hk
    rw[ha] at e
    cases e
    refine core (fun _=>none) (fun _=> .inl rfl) (.inr ⟨_,vs.toArray,_,hk,rfl,rfl,rfl,by rw[cG,Lr];exact hl,by simpa using rv⟩) (fun b u z=>by have z':(none:Option HO)=some u:=z;cases z') (fun b z=>absurd rfl z) fun z=>absurd rfl z
  | none =>
    refine core (fun b=>if b=a then some (.bR {cls:= .type "list",data:= .seq vs.toArray} (.lst (ns.map V.int))) else none) (fun b=>?_) (.inl (.inr ⟨{cls:= .type "list",data:= .seq vs.toArray},if_pos rfl⟩)) (fun b u z=>?_) (fun b z=>?_) fun _=>hk
    · by_cases hb:b=a
      · exact .inr ⟨_,_,if_pos hb⟩
      · exact .inl (if_neg hb)
    · by_cases hb:b=a
      · have z':=(if_pos hb).symm.trans z
        cases z'
        subst hb
        exact⟨ha,by rw[ak];exact hl,vs,_,rv,ha⟩
      · have z':=(if_neg hb).symm.trans z
        cases z'
    · by_cases hb:b=a
      · exact hb
      · exact absurd (if_neg hb) z
theorem Wt{l:PySem.W.OpenLaw}{n k:Nat}{q:Program}{loose:List Str}{XP:(Str->Option Value)->Heap->Prop}{YP:World->Heap->Prop}{d:DefRec}{K:Params->PySem.W.Frag}{CX:World->kQ}{sp:World->Sp}{x:Str}
  (hn:l.most=some n) (hn2:n<=sizeLine) (hdf:d.params.defaults=[]) (hr:dR k callerA)
  (hY:∀(w:World) (h:Heap),YP w h->(K w.params).In h)
  (F : ∀ (w : World) (mg : Str -> Option Value) (fa : Addr) (h : Heap), (K w.params).In h -> h.Ns mainGlobals mg -> mg d.name = some (.ref fa) ->
   ∃fd:FuncData,(∀(s:Shared) (u:Value),BindsTo s fd ⟨[u],[]⟩ [(x,u)])/\
    ∀base:Heap,(K w.params).In base->base.Ns mainGlobals mg->bE l.prog w (K w.params) mg base (CX w) k fa fd [x] (sp w))
  (g9:∀(w:World) (H:Hp) (a:Addr) (ns:List Int),ns.length<=n->DL H->aS (K w.params) H a (ns.map V.int)->sp w [.ref a] H (fun v _=>v= .bl true) fun _ _ _=>False)
  (DT:∀(w:World) (H:Hp) (s:Shared) (e:Value) (s':Shared),CX w [] H s (fun _ _ _=>False) e s'->False):
  PySem.W.WalkO q loose XP YP l.row.toRowW d [] (fun f vs=>PySem.call f vs):=by
 refine Att.UI hn hdf fun w s₀ s₁ mg mb fa o pm cd doc a vs ns G Y ho hd hcd hmg hobj hints hlen hg=>?_
 have KX:=hY w _ Y
 obtain⟨fd,hb,hF⟩:=F w mg fa _ KX G.T.g hmg
 exact Qx KX G.T.g G.T.b G.T.builtins G.T.nolimit hg hobj hints (cX hlen hn2) hr hF hb (fun H hO hS=>g9 w H a ns hlen hO hS) fun H e s'=>DT w H s₁ e s'
end L2
/-THE LAST THEOREM (shape;LID,My.*are yours):
   My.Adr:a structure of the addresses that your layer names (classes,functions);My.Txt K t:a structure (Prop) of the equations over K;
   My.txt_mk:{K} {implicit addresses ..} (e1:nsIn K mainGlobals "law"=some (some (.ref f))) (e2:K.lookup f=some ⟨oc,od, .func (fnOf "law" "law" params body scope dV kV doc pm an cdv ct),sl⟩) (e3:codeIn K cdv "law"=true) .. :∃t,My.Txt K t
set_option maxRecDepth 100000 in
set_option maxHeartbeats 0 in
(the tactic k_is has no namespace:write k_is)-/
namespace L2
open PySem PySem.Spec PyProof.Rows
def inClass(s:Stmt)(j:Nat):Stmt:=match s with
 | .ClassDef _ _ _ body _ _ _ _ _ _ _=>body.getD j (.Pass ⟨0,0,0,0⟩)
 |_=> .Pass ⟨0,0,0,0⟩
def kh(s:Stmt):Arguments:=match s with
 | .FunctionDef _ a _ _ _ _ _ _ _ _=>a
 |_=>{posonlyargs:=[],args:=[],vararg:=none,kwonlyargs:=[],kw_defaults:=[],kwarg:=none,defaults:=[]}
def jN(s:Stmt):List Stmt:=match s with
 | .FunctionDef _ _ b _ _ _ _ _ _ _=>b
 |_=>[]
def aQ(s:Stmt):Scope:=match s with
 | .FunctionDef _ _ _ _ _ _ sc _ _ _=>sc
 |_=>{kind:= .function,names:=[],isGenerator:=false,isCoroutine:=false}
abbrev bL:kQ:=fun _ _ _ _ _ _=>False
abbrev E0:XK:=fun _ _ _=>False
theorem uy{X:Cx}:Passes bL X E0:=fun _ _ _ _ _ _ _ h=>h.elim
structure bT(K:PySem.W.Frag)(x qual:Str)(st:Stmt)(f:Addr)(fd:FuncData):Prop where
 ex:∃(oc:Value) (od:Option Addr) (kV doc pm:Value) (an:Option Addr) (cdv ct:Value) (osl:Array (Option Value)),
  fd=PySem.W.fnOf x qual (kh st) (jN st) (aQ st) .none kV doc pm an cdv ct/\K.lookup f=some ⟨oc,od, .func fd,osl⟩/\PySem.W.codeIn K cdv qual=true
 kp:PySem.W.keepIn K (.ref f)=true
section
variable{P:Program}{w:World}{K:PySem.W.Frag}{mg:Str->Option Value}{base:Heap}
theorem bT.ok{x qual:Str}{st:Stmt}{f:Addr}{fd:FuncData}{N ps:List Str}{k:Nat}{sp:Sp}(F:bT K x qual st f fd)(S:cB N ps (aQ st))(len:∀vs H Q E,sp vs H Q E->vs.length=ps.length)
  (hbody : ∀ (cdv : Value) (A : Around) (outer : List Env) (s : Shared) (H : Hp) (vs : List V) (Q : VK) (E : XK), dR k (A.deeper (envOfC qual (aQ st) s.heap.objs.size f cdv)) -> sp vs H Q E ->
   ∃t,jm (p5 bL P w K mg base N qual (aQ st) f cdv A outer s H E).vz (jN st) t/\t {nx:=fun _ H'=>Q .aL H',rt:=Q} (start N vs) H):bE P w K mg base bL (k+1) f fd ps sp:=by
 obtain⟨oc,od,kV,doc,pm,an,cdv,ct,osl,rfl,lk,hcd⟩:=F.ex
 refine QY lk hcd S len fun A outer s H vs Q E hr g9=>?_
 obtain⟨t,h,q⟩:=hbody cdv A outer s H vs Q E hr g9
 exact⟨t,h.vz,q⟩
theorem bT.binds{x qual:Str}{st:Stmt}{f:Addr}{fd:FuncData}{ps:List Str}(F:bT K x qual st f fd)
  (h:∀(kV doc pm:Value) (an:Option Addr) (cdv ct:Value) (us:List Value),us.length=ps.length->bindArgs (PySem.W.fnOf x qual (kh st) (jN st) (aQ st) .none kV doc pm an cdv ct) ⟨us,[]⟩=pure (ps.zip us)):Binds K fd ps []:=by
 obtain⟨oc,od,kV,doc,pm,an,cdv,ct,osl,rfl,lk,hcd⟩:=F.ex
 exact .all (h kV doc pm an cdv ct)
theorem pP{x qual:Str}{st:Stmt}{f:Addr}{oc:Value}{od an:Option Addr}{osl:Array (Option Value)}{kV doc pm cdv ct:Value}(l:K.lookup f=some ⟨oc,od, .func (PySem.W.fnOf x qual (kh st) (jN st) (aQ st) .none kV doc pm an cdv ct),osl⟩)
  (c:PySem.W.codeIn K cdv qual=true) (k:PySem.W.keepIn K (.ref f)=true):bT K x qual st f (PySem.W.fnOf x qual (kh st) (jN st) (aQ st) .none kV doc pm an cdv ct):=⟨⟨oc,od,kV,doc,pm,an,cdv,ct,osl,rfl,l,c⟩,k⟩
end
theorem FH{n:Nat}(h:n<=1000):n<sizeLine:=Nat.lt_of_le_of_lt h (by decide)
section
variable{X:Cx}
theorem pv(i:Nat){x:Str}{pos:Pos}(hN:X.N[i]?=some x:=by rfl)(hv:Bb X.env.scope x:=by first|exact Or.inl rfl|exact Or.inr (Or.inl rfl)|exact Or.inr (Or.inr rfl))(hd:(x==("__debug__":Str))=false:=by decide)
  (hcd:(x==("__classdict__":Str))=false:=by decide):PE X (.Name x pos) (dG i):=XU hN hv hd hcd
end
theorem GL{A B:Prop}(h:B):if false=true then A else B:=by
 rw[if_neg dH]
 exact h
theorem Ah{A B:Prop}(h:A):if true=true then A else B:=by
 rw[if_pos rfl]
 exact h
theorem pX{c A B:Prop}[Decidable c](h1:c->A)(h2:¬c->B):if c then A else B:=by
 by_cases h:c
 ·rw[if_pos h]
  exact h1 h
 ·rw[if_neg h]
  exact h2 h
def cy(H H':Hp):Prop:=∀b o,H b=some o->H' b=some o
theorem cy.refl(H:Hp):cy H H:=fun _ _ h=>h
theorem cy.trans{H H1 H2:Hp}(a:cy H H1)(b:cy H1 H2):cy H H2:=fun c o h=>b c o (a c o h)
theorem cy.free{H H':Hp}(e:cy H H'){l:Addr}(h:H' l=Option.none):H l=Option.none:=by
  cases q:H l with
  |none=>rfl
  | some o =>
    rw[e l o q] at h
    cases h
theorem cy.seq{K:PySem.W.Frag}{H H':Hp}{a:Addr}{xs:List V}(e:cy H H')(h:aS K H a xs):aS K H' a xs:=by
 rcases h with (h|⟨o,h⟩)|h
 ·exact .inl (.inl (e _ _ h))
 ·exact .inl (.inr ⟨o,e _ _ h⟩)
 ·exact .inr h
end L2
set_option maxHeartbeats 1000000
namespace L2
open PySem PySem.Spec PyProof.Rows
def ju(cells:List (Str×Addr)):List (Str×NameKind)->List (Str×Addr)->List (Str×Addr)
 |[],acc=>acc
 |(n,k)::r,acc=>ju cells r (if k==NameKind.free then(match cells.lookup n with|some a=>(n,a)::acc|none=>acc) else acc)
theorem DH{env:Env}{f:Str×NameKind->List (Str×Addr)->Sem (ForInStep (List (Str×Addr)))}
    (hf:∀x acc,f x acc=if(x.2==NameKind.free)=true then(do let a<-cellOf env x.1;pure (ForInStep.yield ((x.1,a)::acc))) else pure (ForInStep.yield acc)):
    ∀(l:List (Str×NameKind)) (acc:List (Str×Addr)),(∀x∈l,x.2= .free->∃a,env.cells.lookup x.1=some a)->(forIn l acc f:Sem (List (Str×Addr)))=pure (ju env.cells l acc)
  |[],acc,_=>by rw[List.forIn_nil];rfl
  | (n, k) :: r, acc, h => by
    have hr:=fun x hx=>h x (bY _ hx)
    rw[List.forIn_cons,hf]
    by_cases hk:(k==NameKind.free)=true
    · have hk':k=NameKind.free:=by simpa using hk
      obtain⟨a,ha⟩:=h (n,k) dj hk'
      have hc:cellOf env n=pure a:=by unfold cellOf;rw[ha]
      rw[if_pos hk,hc]
      show(forIn r ((n,a)::acc) f:Sem (List (Str×Addr)))=pure (ju env.cells r _)
      rw[DH hf r _ hr,if_pos hk,ha]
    · rw[if_neg hk]
      show(forIn r acc f:Sem (List (Str×Addr)))=pure (ju env.cells r _)
      rw[DH hf r _ hr,if_neg hk]
theorem RJ{scope:Scope}{env:Env}(h:∀x∈scope.names,x.2= .free->∃a,env.cells.lookup x.1=some a):closureFor scope env=pure (ju env.cells scope.names []):=by
 simp only[closureFor]
 rw[DH (env:=env) (fun⟨n,k⟩ acc=>by dsimp only) scope.names [] h]
 rfl
theorem Dm{cells:List (Str×Addr)}:∀{l:List (Str×NameKind)} {acc:List (Str×Addr)} {x:Str} {c:Addr},(∀y d,acc.lookup y=some d->cells.lookup y=some d)->(ju cells l acc).lookup x=some c->cells.lookup x=some c
  |[],_,_,_,ha,h=>ha _ _ h
  | (n, k) :: r, acc, x, c, ha, h => by
    refine Dm (l:=r) ?_ h
    intro y d hd
    by_cases hk:(k==NameKind.free)=true
    · rw[if_pos hk] at hd
      cases q:cells.lookup n with
      |none=>rw[q] at hd;exact ha _ _ hd
      | some a =>
        rw[q] at hd
        by_cases hy:(y==n)=true
        · have hy':y=n:=by simpa using hy
          subst hy'
          simp[fR] at hd
          rw[q,hd]
        · have hy':(y==n)=false:=by simpa using hy
          simp only[fR,hy'] at hd
          exact ha _ _ hd
    · rw[if_neg hk] at hd;exact ha _ _ hd
theorem Ht{cells:List (Str×Addr)}:∀{l:List (Str×NameKind)} {acc:List (Str×Addr)} {x:Str},(acc.lookup x).isSome=true->((ju cells l acc).lookup x).isSome=true
  |[],_,_,h=>h
  | (n, k) :: r, acc, x, h => by
    refine Ht (l:=r) ?_
    by_cases hk:(k==NameKind.free)=true
    · rw[if_pos hk]
      cases q:cells.lookup n with
      |none=>exact h
      | some a =>
        by_cases hy:(x==n)=true
        · simp[fR,hy]
        · have hy':(x==n)=false:=by simpa using hy
          simp only[fR,hy']
          exact h
    · rw[if_neg hk];exact h
theorem E5{cells:List (Str×Addr)}:∀{l:List (Str×NameKind)} {acc:List (Str×Addr)} {x:Str} {a:Addr},(x,NameKind.free)∈l->cells.lookup x=some a->((ju cells l acc).lookup x).isSome=true
  |[],_,_,_,h,_=>nomatch h
  | (n, k) :: r, acc, x, a, h, hc => by
    rcases bq.mp h with e|h
    · obtain⟨rfl,rfl⟩:=v5 e
      refine Ht (l:=r) ?_
      rw[if_pos (by decide),hc]
      simp[fR]
    · exact E5 (l:=r) h hc
theorem Fx{cells:List (Str×Addr)}{l:List (Str×NameKind)}{x:Str}{a:Addr}(h:(x,NameKind.free)∈l)(hc:cells.lookup x=some a):(ju cells l []).lookup x=some a:=by
 obtain⟨c,e⟩:=EL.mp (E5 (acc:=[]) h hc)
 have:=Dm (fun y d (q:([]:List (Str×Addr)).lookup y=some d)=>by simp at q) e
 rw[hc] at this;cases this
 exact e
theorem zM{env:Env}:∀{l:List (Str×NameKind)} {x:Str} {k:NameKind},(∀y∈l,y.2≠ .cell)->
    (l.map fun(n,k)=>if(k==NameKind.free && env.scope.kind== .function && env.kindOf n==some .cell) then(n,NameKind.cell) else(n,k)).lookup x=some k->k= .cell\/k= .free->l.lookup x=some .free
  |[],_,_,_,h,_=>by simp at h
  | (n, q) :: r, x, k, hc, h, hk => by
    have hr:=fun y hy=>hc y (bY _ hy)
    have ih:=zM (env:=env) (l:=r) (x:=x) (k:=k) hr
    rw[bC] at h
    dsimp only at h
    by_cases hx:(x==n)=true
    · simp only[fR,hx]
      by_cases hq:(q==NameKind.free && env.scope.kind== .function && env.kindOf n==some .cell)=true
      · have:q= .free:=by
          simp only[fK] at hq
          simpa using hq.1.1
        rw[this]
      · rw[if_neg hq] at h
        simp only[fR,hx] at h
        have E3:q=k:=fN h
        rcases hk with e|e
        · exact absurd (E3.trans e) (hc (n,q) dj)
        · rw[E3,e]
    · have hx':(x==n)=false:=by simpa using hx
      simp only[fR,hx']
      refine ih ?_ hk
      by_cases hq:(q==NameKind.free && env.scope.kind== .function && env.kindOf n==some .cell)=true
      · rw[if_pos hq] at h
        simp only[fR,hx'] at h
        exact h
      · rw[if_neg hq] at h
        simp only[fR,hx'] at h
        exact h
theorem G3{env:Env}:∀{l:List (Str×NameKind)} {x:Str},l.lookup x=some .free->
    (l.map fun(n,k)=>if(k==NameKind.free && env.scope.kind== .function && env.kindOf n==some .cell) then(n,NameKind.cell) else(n,k)).lookup x=some .cell\/
    (l.map fun(n,k)=>if(k==NameKind.free && env.scope.kind== .function && env.kindOf n==some .cell) then(n,NameKind.cell) else(n,k)).lookup x=some .free
  |[],_,h=>by simp at h
  | (n, q) :: r, x, h => by
    have ih:=G3 (env:=env) (l:=r) (x:=x)
    rw[bC]
    dsimp only
    by_cases hx:(x==n)=true
    · simp only[fR,hx] at h
      by_cases hq:(q==NameKind.free && env.scope.kind== .function && env.kindOf n==some .cell)=true
      · rw[if_pos hq]
        left
        simp only[fR,hx]
      · rw[if_neg hq]
        right
        simp only[fR,hx]
        exact h
    · have hx':(x==n)=false:=by simpa using hx
      simp only[fR,hx'] at h
      have:=ih h
      by_cases hq:(q==NameKind.free && env.scope.kind== .function && env.kindOf n==some .cell)=true
      · rw[if_pos hq]
        simp only[fR,hx']
        exact this
      · rw[if_neg hq]
        simp only[fR,hx']
        exact this
def eH(sx:Scope)(NX:List Str)(scope:Scope)(N:List Str)(mp:List (Option Nat)):Bool:=
 (scope.kind== .function) && scope.names.all (fun y=>y.2 != .cell) && scope.names.all (fun y=>y.2 != .local||scope.names.lookup y.1==some .local) &&
 scope.names.all (fun y=>y.2 != .free||sx.names.lookup y.1==some .cell||sx.names.lookup y.1==some .free) &&(mp.length==N.length) &&
 ((N.zip mp).all fun p=>match p.2 with|none=>true|some j=>NX[j]?==some p.1 && scope.names.lookup p.1==some .free)
structure dN(sx:Scope)(NX:List Str)(scope:Scope)(N:List Str)(mp:List (Option Nat)):Prop where
 kind:scope.kind= .function
 cell:∀y∈scope.names,y.2≠ .cell
 names:∀y∈scope.names,y.2= .local->scope.names.lookup y.1=some .local
 free:∀y∈scope.names,y.2= .free->sx.names.lookup y.1=some .cell\/sx.names.lookup y.1=some .free
 len:mp.length=N.length
 look:∀(i j:Nat) (x:Str),mp[i]?=some (some j)->N[i]?=some x->NX[j]?=some x/\scope.names.lookup x=some .free
theorem dN.of{sx:Scope}{NX:List Str}{scope:Scope}{N:List Str}{mp:List (Option Nat)}(h:eH sx NX scope N mp=true):dN sx NX scope N mp:=by
 unfold eH at h
 simp only[fK,jQ] at h
 obtain⟨⟨⟨⟨⟨h1,h2⟩,h3⟩,h4⟩,h5⟩,h6⟩:=h
 refine⟨by simpa using h1,fun y hy=>by simpa using h2 y hy,fun y hy e=>?_,fun y hy e=>?_,by simpa using h5,fun i j x e1 e2=>?_⟩
 ·have:=h3 y hy
  simpa[e] using this
 ·have:=h4 y hy
  simpa[e] using this
 ·have hm:(x,some j)∈N.zip mp:=by
   have:(N.zip mp)[i]?=some (x,some j):=by
    rw[List.getElem?_zip_eq_some];exact⟨e2,e1⟩
   exact aW this
  have:=h6 _ hm
  simpa using this
def eZ(mp:List (Option Nat))(σ:St):St:=mp.map fun o=>match o with|none=>none|some j=>match σ[j]? with|some v=>v|none=>none
def jv(X:Cx)(scope:Scope)(C:Addr)(N:List Str)(s₀:Shared)(H₀:Hp)(fp:List Addr):Cx:=
 {X with N:=N,s₀:=s₀,H₀:=H₀,env:=compEnvC scope (ju X.env.cells scope.names []) C X.env,outer:=X.stack,ex:=fp,fn:=fun _=>false,pn:=[],xe:=fun _ _=>False}
def tT(X:Cx)(ifs:List Expr)(t:TT):Prop:=
 ∀(pins:List (Addr×Obj)) (s:Shared) (σ:St) (H:Hp) (Q:Bool->Hp->Prop),Inv X pins σ H s->t σ H Q->
  wpAny (model X.prog X.w) X.A (forIn ifs true fun c r=>if r=true then do let ok<-isTrue c X.env (eval c X.env);pure (ForInStep.yield ok) else pure (ForInStep.yield r)) (TP X pins σ Q) X.xe s
def xh:TT:=fun _ H Q=>Q true H
theorem iT{X:Cx}:tT X [] xh:=fun pins s σ H Q I h=>wpAny_tests_nil ⟨H,I,h⟩
theorem l6{X:Cx}{c:Expr}{t:TT}(h:PT X c t):tT X [c] t:=fun pins s σ H Q I q=>wpAny_tests_one (h pins s σ H Q I q)
def mG(J:It)(g:TG)(tc:TT)(te:TE)(acc:Addr)(Qe:Hp->Prop)(σ:St)(H:Hp):Prop:=∃W:Nat->Nat->St->Hp->Prop,(∃m,W 0 m σ H)/\∀i m σ H,W i m σ H->
 (J.stop i H /\ Qe H) \/ (J.go i H /\ ∃ Nx : St -> Hp -> Prop, (∀ σ' H', Nx σ' H' -> ∃ m', m' < m /\ W (i + 1) m' σ' H') /\ ∀ x H', J.lI i H x H' -> g x σ H' fun σ2 H2 => tc σ2 H2 fun b H3 =>
  if b=true then te σ2 H3 fun v H4=>∃ys,H4 acc=some (.lst ys)/\ys.length<sizeLine/\Nx σ2 (upd H4 acc (.lst (ys++[v]))) else Nx σ2 H3)
def kG(wi:TI)(g:TG)(tc:TT)(te:TE)(mp:List (Option Nat)):TE:=fun σ H Q=>wi σ H fun J H1=>∀acc,H1 acc=none->mG J g tc te acc (fun H'=>Q (.ref acc) H') (eZ mp σ) (upd H1 acc (.lst []))
section
variable{prog:Program}{w:World}{A:Around}{R:Result->Shared->Prop}{s:Shared}
theorem VY{elt target iter:Expr}{ifs:List Expr}{scope:Scope}{pos:Pos}{it acc:Value}{env:Env}(I:Nat->Shared->Prop)
    (turn:∀n s,I n s->wpAny (model prog w) A (pyNext it) (fun r s₁=>match r with
      |none=>R (.ok .next) s₁
      |some v=>wpAny (model prog w) A (letOwnedTupleGo target it v) (fun _ s₀=>wpAny (model prog w) A (assign target env v) (fun _ s₂=>
          wpAny (model prog w) A (forIn ifs true fun c r=>if r=true then do let ok<-isTrue c env (eval c env);pure (ForInStep.yield ok) else pure (ForInStep.yield r)) (fun ok s₃=>
            if ok=true then wpAny (model prog w) A (eval elt env) (fun x s₄=>
              wpAny (model prog w) A (call (.builtin "list.append") [acc,x]) (fun _ s₅=>∃m,m<n/\I m s₅) (fun _ _=>False) s₄) (fun _ _=>False) s₃
            else∃m,m<n/\I m s₃) (fun _ _=>False) s₂) (fun _ _=>False) s₀) (fun _ _=>False) s₁) (fun _ _=>False) s)
    (n:Nat) (h:I n s):
    codeAny (model prog w) A (.compLoop (.ListComp elt [⟨target,iter,ifs,0⟩] scope pos) 0 it acc env) R s:=by
  refine codeAny_loop rfl I (fun n s hI=>?_) n h
  show wpAny _ A ((compTurn (.ListComp elt [⟨target,iter,ifs,0⟩] scope pos) 0 it acc env).onRaise (fun x=>do noteFrame x env;theTreesLotGoes x)) _ _ s
  refine wpAny_noted ?_
  rw[compTurn_list]
  refine wpAny_bind (wpAny_standAt (wpAny_bind (wpAny_mono (turn n s hI) (fun r s₁ h₁=>?_) fun _ _ h'=>h'.elim)))
  cases r with
  |none=>exact wpAny_pure h₁
  | some v =>
    refine wpAny_bind (wpAny_mono h₁ (fun _ s₀ h₀=>?_) fun _ _ h'=>h'.elim)
    refine wpAny_bind (wpAny_mono h₀ (fun _ s₂ h₂=>wpAny_bind (wpAny_mono h₂ (fun ok s₃ h₃=>?_) fun _ _ h'=>h'.elim)) fun _ _ h'=>h'.elim)
    cases ok with
    |false=>exact wpAny_pure ⟨rfl,h₃⟩
    | true =>
      exact wpAny_bind (wpAny_bind (wpAny_mono h₃ (fun x s₄ h₄=>wpAny_bind (wpAny_mono h₄ (fun _ s₅ h₅=>wpAny_pure (wpAny_pure ⟨rfl,h₅⟩)) fun _ _ h'=>h'.elim)) fun _ _ h'=>h'.elim))
end
section
variable{X:Cx}
theorem Il{elt iter tg:Expr}{ifs:List Expr}{scope:Scope}{pos pos':Pos}{N:List Str}{mp:List (Option Nat)}{wi:TI}{g:TG}{tc:TT}{te:TE}{use:Option (Value->Sem Unit)}
    {pins:List (Addr×Obj)} {s:Shared} {σ:St} {H:Hp} {Q:VK} {QQ:Value->Shared->Prop}
    (ok:dN X.env.scope X.N scope N mp) (hc:X.calm=true) (hi:PI X tg iter wi)
    (hb:∀C s₀ H₀ fp,PG (jv X scope C N s₀ H₀ fp) tg g/\tT (jv X scope C N s₀ H₀ fp) ifs tc/\PE (jv X scope C N s₀ H₀ fp) elt te)
    (hs:∀x,foldedSetIterable iter X.env x=pure x) (I:Inv X pins σ H s) (h:kG wi g tc te mp σ H Q)
    (fin:∀acc C H' s' m,Inv X pins σ H' s'->iA X pins H' C->s'.heap.Ns C m->Q (.ref acc) H'->compPost (model X.prog X.w) X.A X.xe use QQ (.ref acc) C (.ok .next) s'):
    wpAny (model X.prog X.w) X.A (comprehension (.ListComp elt [⟨tg,iter,ifs,0⟩] scope pos) scope X.env pos' (newList []) false (eval iter X.env) use) QQ X.xe s:=by
  have hfree:∀x∈scope.names,x.2= .free->∃a,X.env.cells.lookup x.1=some a:=fun x hx e=>I.ok.has x.1 (ok.free x hx e)
  refine wpAny_comprehension_free (use:=use) rfl hs (RJ hfree) ok.kind ok.names (aO (hi pins s σ H _ I h) fun v s1 h1=>aO h1 fun itv s2 h2=>?_)
  obtain⟨it,fp,tn,J,H2,e,I2,T,st2,f2,hW⟩:=h2
  subst e
  refine wpAny_newObj_type (wpAny_newFunctionEnv ok.cell (by intro y hy;simp at hy) (fun h₁ Dc BG=>?_) ok.kind)
  dsimp only at Dc BG⊢
  have I3:=I2.AN (its:=[]) (ys:=[]) (t':=s2.toks) .nil (fW _)
  have hW:=hW s2.heap.objs.size I2.fresh
  obtain⟨W,⟨m0,w0⟩,turn⟩:=hW
  generalize AK:s2.heap.push {cls:= .type "list",dict:=none,data:= .seq ([]:List Value).toArray}=HP at Dc BG⊢
  have I3:Inv X pins σ (upd H2 s2.heap.objs.size (.lst [])) {s2 with heap:=HP}:=by rw[<-AK];exact I3
  generalize Tj:upd H2 s2.heap.objs.size (.lst [])=H3 at I3 w0
  have hC:HP.objs.size=s2.heap.objs.size+1:=by rw[<-AK,pS]
  have old:∀b o,HP.get? b=some o->h₁.get? b=some o:=fun b o e=>BG.extBut b o (dW (bG e)) (dw _ e)
  have kO:∀b∈fp,b<s2.heap.objs.size:=fun b hb=>by
    obtain⟨o,e,_⟩:=T.obj 0 _ st2 b hb
    exact bG e
  have PR:∀b∈fp,H3 b=none:=fun b hb=>by
    rw[<-Tj,aB (dW (kO b hb))]
    exact(f2 b hb).1
  have tM:∀{x:Str} {c:Addr},(ju X.env.cells scope.names []).lookup x=some c->X.env.cells.lookup x=some c:=fun{x c} e=>Dm (fun y d q=>by simp at q) e
  have xM:(jv X scope HP.objs.size N {s2 with heap:=HP} H3 fp).Ok:=by
    refine⟨I2.ok.mod,ok.kind,I2.ok.glob,I2.ok.blt,bh _,fun x y c e1 e2=>I2.ok.inj x y c (tM e1) (tM e2),fun x hx=>?_,(fun x c e=>absurd (show false=true from e) (by decide)),I2.ok.hd,I2.ok.frames, .inl rfl,fun b hb=>?_,I3.bs,cX I3.ok.mh I3.sz,fun b o e hb=>?_,fun b hb hz=>?_,I3.stack,I3.FA⟩
    · have hx':scope.names.lookup x=some .free:=by
        rcases hx with hx|hx
        · exact zM ok.cell hx (.inl rfl)
        · exact zM ok.cell hx (.inr rfl)
      have hm:=oj hx'
      obtain⟨a,ha⟩:=hfree _ hm rfl
      exact⟨a,Fx hm ha⟩
    · refine⟨fun z=>?_,fun x c e=>(f2 b hb).2.2.2.2.1 x c (tM e)⟩
      have z':b=HP.objs.size:=z
      have q:=kO b hb
      rw[z',hC] at q
      exact absurd q (Nat.not_lt.mpr (tE _))
    · rcases(f2 b hb).2.2.2.1 with z|z
      · exact I2.ok.rz b o e z
      · exact absurd (eg (bG (I2.ok.bs b o e).1) z) (g5 _)
    · rcases bq.mp (I2.DK b hz) with z|z
      · exact(f2 b hb).2.1 z
      · exact(f2 b hb).2.2.1 z
  have IY:Inv (jv X scope HP.objs.size N {s2 with heap:=HP} H3 fp) [] (eZ mp σ) H3 {s2 with heap:=h₁,toks:=s2.toks+([]:List (Str×Value)).length}:=by
    refine⟨xM,rfl,I2.bare,Un.kept old,⟨_,Dc,fun i x v e1 e2 e3=>?_⟩,fun x c e=>?_,I3.hok.fresh (bh _),fun x c e=>I3.jF x c (tM e),fun p hp=>absurd (show p∈([]:List (Addr×Obj)) from hp) (by simp),I3.hok.kept old,?_⟩
    · have hj:∃j,mp[i]?=some (some j)/\σ[j]?=some (some v):=by
        unfold eZ at e2
        rw[bu] at e2
        cases q:mp[i]? with
        |none=>rw[q] at e2;cases e2
        | some o =>
          rw[q] at e2
          cases o with
          |none=>cases e2
          | some j =>
            refine⟨j,rfl,?_⟩
            have e2:(match σ[j]? with|some v=>v|none=>none)=some v:=fN e2
            cases r:σ[j]? with
            |none=>rw[r] at e2;cases e2
            | some u =>
              rw[r] at e2
              have e2:u=some v:=e2
              rw[e2]
      obtain⟨j,hj1,hj2⟩:=hj
      obtain⟨l1,l2⟩:=ok.look i j x hj1 e1
      have hm:=oj l2
      have kx:=ok.free _ hm rfl
      obtain⟨mm,_,hl⟩:=I3.loc
      obtain⟨u,ru,lk⟩:=hl j x v l1 hj2 (kx.elim (fun z=> .inr (.inl z)) fun z=> .inr (.inr z))
      refine⟨u,ru, .inr ⟨G3 l2,?_⟩⟩
      rcases lk with ⟨k,_⟩|⟨_,c,e,z⟩
      · exfalso
        have k':X.env.scope.names.lookup x=some .local:=k
        rcases kx with kx|kx
        · rw[k'] at kx;cases kx
        · rw[k'] at kx;cases kx
      · refine⟨c,Fx hm e,?_⟩
        obtain⟨o,ho,hd⟩:=z
        exact⟨o,old c o ho,hd⟩
    · obtain⟨v,o,ho,hd⟩:=I3.cell x c (tM e)
      exact⟨v,o,old c o ho,hd⟩
    · show(eZ mp σ).length=N.length
      unfold eZ
      rw[ak,ok.len]
  have mL:∀{H':Hp},(∀b∈fp,H' b=none)->∀b∈fp,iA (jv X scope HP.objs.size N {s2 with heap:=HP} H3 fp) [] H' b:=fun{H'} hn b hb=>
    ⟨hn b hb,(xM.uK b hb).1,xM.sP b hb, .inl hb,(xM.uK b hb).2,fun p hp=>absurd (show p∈([]:List (Addr×Obj)) from hp) (by simp)⟩
  have Jx:tn 0 h₁:=T.keep 0 _ _ st2 fun b hb o e=>old b o (by rw[<-AK];exact dw _ e)
  have loop:codeAny (model X.prog X.w) X.A (.compLoop (.ListComp elt [⟨tg,iter,ifs,0⟩] scope pos) 0 (.ref it) (.ref s2.heap.objs.size) (compEnvC scope (ju X.env.cells scope.names []) HP.objs.size X.env))
      (compPost (model X.prog X.w) X.A X.xe use QQ (.ref s2.heap.objs.size) HP.objs.size) {s2 with heap:=h₁,toks:=s2.toks+([]:List (Str×Value)).length}:=by
    obtain⟨hg,ht,he⟩:=hb HP.objs.size {s2 with heap:=HP} H3 fp
    generalize hY:jv X scope HP.objs.size N {s2 with heap:=HP} H3 fp=Y at hg ht he IY mL
    have yp:Y.prog=X.prog:=by rw[<-hY];rfl
    have yw:Y.w=X.w:=by rw[<-hY];rfl
    have yK:Y.K=X.K:=by rw[<-hY];rfl
    have yA:Y.A=X.A:=by rw[<-hY];rfl
    have yc:Y.calm=true:=by rw[<-hY];exact hc
    have yx:Y.xe=fun _ _=>False:=by rw[<-hY];rfl
    have Ja:Y.env=compEnvC scope (ju X.env.cells scope.names []) HP.objs.size X.env:=by rw[<-hY];rfl
    rw[<-Ja]
    refine VY (fun n s'=>∃i σ' H',Inv Y [] σ' H' s'/\tn i s'.heap/\(∀b∈fp,H' b=none)/\W i n σ' H') ?_ m0 ⟨0,_,H3,IY,Jx,PR,w0⟩
    rintro n s3 ⟨i,σ3,H4,I4,st3,fr3,w3⟩
    rcases turn i n σ3 H4 w3 with ⟨stop,qn⟩|⟨go,Nx,hN,step⟩
    · have q0:=T.done Y yp yw yK yc i [] s3 σ3 H4 (fun _ _=>False) I4 (mL fr3) st3 stop
      rw[yA] at q0
      refine aO q0 fun r s4 ⟨hr,I5⟩=>?_
      subst hr
      show compPost (model X.prog X.w) X.A X.xe use QQ (.ref s2.heap.objs.size) HP.objs.size (.ok .next) s4
      obtain⟨m,hm,_⟩:=id I5.loc
      have yl:Y.env.locals=HP.objs.size:=by rw[Ja];rfl
      rw[yl] at hm
      have fC:H4 HP.objs.size=none:=by have:=I5.free;rw[yl] at this;exact this
      have ub:=I5.base
      have ub':Un (frs X.stack) fp H3 H4 HP s4.heap:=by rw[<-hY] at ub;exact ub
      have hos:s4.os=s2.os:=by have:=I5.os;rw[<-hY] at this;exact this
      have O2:dD X.prog X.w H4 s4.heap:=by have:=I5.hok;rw[yp,yw] at this;exact this
      have IX:Inv X pins σ H4 s4:=I3.U4 (ch:=fp) hos ub' O2 I5.bare fun b hb=>⟨(f2 b hb).2.2.2.1,(f2 b hb).2.1,(f2 b hb).2.2.2.2.1,(f2 b hb).2.2.2.2.2⟩
      exact fin _ _ H4 s4 m IX (I3.om (bh _) fC) hm qn
    · have q0:=T.item Y yp yw yK yc i [] s3 σ3 H4 (fun _ _=>False) I4 (mL fr3) st3 go
      rw[yA] at q0
      refine aO q0 fun r s4 ⟨u,hr,h4⟩=>?_
      subst hr
      refine aO h4 fun _ s5 ⟨x,H5,I5,r5,y5,lO,DO⟩=>?_
      have B8:=I5.pinned (mL DO) (T.obj _ _ lO)
      rw[<-yx,<-yp,<-yw,<-yA]
      refine aO (hg _ s5 σ3 H5 x u _ B8 r5 (step x H5 y5)) fun _ s6 ⟨tu,H6,I6,q6⟩=>?_
      refine aO (ht _ s6 tu H6 _ I6 q6) fun b s7 ⟨H7,I7,q7⟩=>?_
      have again:∀{tL:St} {H8:Hp} {s8:Shared},Inv Y ([]++qV fp s5.heap) tL H8 s8->Nx tL H8->∃m,m<n/\∃i σ' H',Inv Y [] σ' H' s8/\tn i s8.heap/\(∀b∈fp,H' b=none)/\W i m σ' H':=fun{tL H8 s8} I8 n8=>by
        obtain⟨m',hm,w8⟩:=hN tL H8 n8
        refine⟨m',hm,i+1,tL,H8,I8.uq,T.keep _ _ _ lO fun b hb o e=>(I8.pin (b,o) (iM _ (iM _ (xo hb e)))).1,fun b hb=>?_,w8⟩
        obtain⟨o,e,d⟩:=T.obj _ _ lO b hb
        exact(I8.pin (b,o) (iM _ (iM _ (xo hb e)))).2.1
      cases b with
      | false =>
        rw[if_neg dH]
        rw[if_neg dH] at q7
        exact again I7 q7
      | true =>
        rw[if_pos rfl]
        rw[if_pos rfl] at q7
        refine aO (he _ s7 tu H7 _ I7 q7) fun v s8 ⟨y,H8,I8,r8,ys,e8,z8,n8⟩=>?_
        refine aO (yh _ s8 tu H8 (.ref s2.heap.objs.size) [y] (.ref s2.heap.objs.size) [v] (fun _ H9=>H9=upd H8 s2.heap.objs.size (.lst (ys++[y]))) I8 rfl (.cons r8 .nil) ⟨_,ys,y,rfl,rfl,e8,z8,rfl⟩) fun v9 s9 ⟨y9,H9,I9,r9,e9⟩=>?_
        subst e9
        exact again I9 n8
  refine codeAny_compStart_list loop (T.self _ _ _ _ _ Jx loop)
theorem iA.turned{pins:List (Addr×Obj)}{s:Shared}{σ:St}{H:Hp}{C:Addr}{h':Heap}(I:Inv X pins σ H s)(f:iA X pins H C)(hs:Heap.SameBut C s.heap h'):Inv X pins σ H {s with heap:=h'}:=
 I.turned (t':=s.toks) (fun b o hb e=>(hs.2 b hb).trans e) f.1 f.2.1 f.2.2.2.1 f.2.2.2.2.1 f.2.2.2.2.2
theorem fL{elt iter tg:Expr}{ifs:List Expr}{scope:Scope}{pos:Pos}{N:List Str}{mp:List (Option Nat)}{wi:TI}{g:TG}{tc:TT}{te:TE}
  (ok:dN X.env.scope X.N scope N mp) (hi:PI X tg iter wi)
  (hb:∀C s₀ H₀ fp,PG (jv X scope C N s₀ H₀ fp) tg g/\tT (jv X scope C N s₀ H₀ fp) ifs tc/\PE (jv X scope C N s₀ H₀ fp) elt te) (hc:X.calm=true:=by rfl)
  (hs:∀x,foldedSetIterable iter X.env x=pure x:=by intro _;rfl):PE X (.ListComp elt [⟨tg,iter,ifs,0⟩] scope pos) (kG wi g tc te mp):=by
 intro pins s σ H Q I h
 rw[eval_ListComp]
 refine Il (use:=none) ok hc hi hb hs I h fun acc C H' s' m I' f hn q=>?_
 exact⟨m,hn,fun h' hs'=>⟨.ref acc,H',f.turned I' hs',rfl,q⟩⟩
def yF(i:Nat)(t:TE):TS:=fun D σ H=>t σ H fun v H'=>D.nx (σ.set i (some v)) H'
theorem HR{elt iter tg:Expr}{ifs:List Expr}{scope:Scope}{pos spos py:Pos}{N:List Str}{mp:List (Option Nat)}{wi:TI}{g:TG}{tc:TT}{te:TE}{i:Nat}{y:Str}
  (hN:X.N.Nodup) (hy:X.N[i]?=some y) (hk:X.env.kindOf y=some .local)
  (ok:dN X.env.scope X.N scope N mp) (hi:PI X tg iter wi)
  (hb:∀C s₀ H₀ fp,PG (jv X scope C N s₀ H₀ fp) tg g/\tT (jv X scope C N s₀ H₀ fp) ifs tc/\PE (jv X scope C N s₀ H₀ fp) elt te) (hc:X.calm=true:=by rfl)
  (hsw:swapsWith (.ListComp elt [⟨tg,iter,ifs,0⟩] scope pos) (some (.Name y py)) spos.line X.env=pure true:=by rfl)
  (hs:∀x,foldedSetIterable iter X.env x=pure x:=by intro _;rfl):PS X (.Assign [.Name y py] (.ListComp elt [⟨tg,iter,ifs,0⟩] scope pos) spos) (yF i (kG wi g tc te mp)):=by
 intro pins s σ H D I h
 rw[exec_Assign_Name_used _ _ _ _ hsw]
 refine wpAny_bind (wpAny_standAt (wpAny_bind ?_))
 show wpAny _ X.A (do let _<-comprehension (.ListComp elt [⟨tg,iter,ifs,0⟩] scope pos) scope X.env _ (newList []) false (eval iter X.env) (some (assign (.Name y py) X.env))) _ _ s
 refine wpAny_bind (wpAny_mono (Il (use:=some (assign (.Name y py) X.env)) (QQ:=fun _ s'=>SP X pins D .next s') ok hc hi hb hs I h fun acc C H' s' m I' f hn q=>?_) (fun _ s' hq=>wpAny_pure (wpAny_pure hq)) fun _ _ e=>e)
 refine wpAny_assign_Name (GZ (v:= .ref acc) I' hN hy (.inl hk) rfl (fun s2 I2 ⟨a,sb,ha⟩=>?_) (.inr hk))
 have hne:C≠a:=by
  rcases ha with z|z
  ·rw[z];exact f.2.1
  ·exact fun e=>f.2.2.2.2.1 y a z e.symm
 exact⟨m,hn.sameBut sb hne,fun h' hs'=>⟨_,H',f.turned I2 hs',q⟩⟩
end
def Sm(i:Int):Prop:= -(2^300)<i/\i<2^300
theorem By{i:Int}(h:Sm i):Builtin.Int.intBits i<=2^20:=by
 obtain⟨h1,h2⟩:=h
 unfold Builtin.Int.intBits
 split
 ·exact fW _
 ·rename_i h0
  have hn:i.natAbs≠0:=by
   intro e
   apply h0
   simp
   omega
  have h3:i.natAbs<2^300:=by omega
  have h4:i.natAbs.log2<300:=(Nat.log2_lt hn).mpr h3
  have:(2:Nat)^20=1048576:=by decide
  omega
theorem Xh{x y:Int}(h:Sm y):Builtin.divisionGoesByPylong x y=false:=by
 refine PyProof.noPylong_of_log2 ?_
 obtain⟨h1,h2⟩:=h
 by_cases h0:y.natAbs=0
 ·rw[h0];decide+kernel
 ·have h3:y.natAbs<2^300:=by omega
  have h4:y.natAbs.log2<300:=(Nat.log2_lt h0).mpr h3
  omega
section
variable{X:Cx}
theorem uR:dY X (binaryOp .FloorDiv) (rI (fun _ j=>0<j/\Sm j) fun i j=> .int (i/j)):=wH fun i j _ _ _ _ _ hc q=>
 floordiv_int (by omega) (by rw[Int.fdiv_eq_ediv_of_nonneg _ (by omega)];exact q) (.inl (Xh hc.2))
theorem Xr:rj X "int.bit_length" (fun x xs H Q=>∃i,x= .int i/\xs=[]/\Q (.int (Builtin.Int.intBits i)) H):=by
 intro pins s σ H x xs v us Q I rx rv h
 obtain⟨i,rfl,rfl,q⟩:=h
 obtain⟨t,rfl⟩:=rx
 cases rv
 exact call_int_bit_length ⟨.int _,H,I.tok _,⟨_,rfl⟩,q⟩
def mY(K:PySem.W.Frag):List V->Hp->VK->Prop:=fun xs H Q=>∃x T t b,xs=[x, .ty T]/\iX K H x t/\PySem.W.kitOne K t (.type T)=some b/\Q (.bl b) H
theorem uf:gR X (.builtin "isinstance") (mY X.K):=by
 intro pins s σ H xs us Q I rv h
 obtain⟨x,T,t,b,rfl,ty,e,q⟩:=h
 obtain⟨u,v,rfl,ru,rv⟩:=rv.two
 cases (show v=Value.type T from rv)
 exact Wi I ru ty e fun tk=>⟨.bl b,H,I.tok tk,rfl,q⟩
def pF:PyData->Key->Prop
 | .int i,k=>k= .inl i
 | .str x,k=>k= .inr x
 |_,_=>False
mutual
def ai(nb:Addr->Prop)(H:Hp):PyData->V->Prop
 | .none,v=>v= .aL
 | .bool b,v=>v= .bl b
 | .int i,v=>v= .int i
 | .str x,v=>v= .str x
 | .list ds,v=>∃a xs,v= .ref a/\¬nb a/\H a=some (.lst xs)/\af nb H ds xs
 | .tuple ds,v=>∃a xs,v= .ref a/\¬nb a/\H a=some (.tup xs)/\af nb H ds xs
 | .dict kvs,v=>∃a ps,v= .ref a/\¬nb a/\Rd H a (.dK ps)/\au nb H kvs ps
termination_by structural d=>d
def af(nb:Addr->Prop)(H:Hp):List PyData->List V->Prop
 |[],xs=>xs=[]
 |d::ds,xs=>∃y ys,xs=y::ys/\ai nb H d y/\af nb H ds ys
termination_by structural d=>d
def au(nb:Addr->Prop)(H:Hp):List (PyData×PyData)->List (Key×V)->Prop
 |[],xs=>xs=[]
 |d::ds,xs=>∃p ys,xs=p::ys/\bP nb H d p/\au nb H ds ys
termination_by structural d=>d
def bP(nb:Addr->Prop)(H:Hp):PyData×PyData->Key×V->Prop
 |(k,d),p=>pF k p.1/\ai nb H d p.2
termination_by structural d=>d
end
def bz(nb:Addr->Prop)(H H':Hp):Prop:=∀a o,¬nb a->H a=some o->H' a=some o
def Nb(b:Addr):Addr->Prop:=fun a=>a=b
section
variable{nb bB:Addr->Prop}{H H1 H2 H':Hp}{a b c p:Addr}{o:HO}{xs:List V}
theorem bz.refl(nb:Addr->Prop)(H:Hp):bz nb H H:=fun _ _ _ h=>h
theorem bz.trans(x:bz nb H H1)(y:bz nb H1 H2):bz nb H H2:=fun a o n h=>y a o n (x a o n h)
theorem bz.of(x:cy H H'):bz nb H H':=fun a o _ h=>x a o h
theorem bz.set(h:nb p):bz nb H (upd H p o):=fun a u n q=>by rw[aB (fun e=>n (by rw[e];exact h))];exact q
theorem bz.rd{u:HO}(x:bz nb H H')(n:¬nb a)(h:Rd H a u):Rd H' a u:=by
 rcases h with h|⟨o,h⟩
 ·exact .inl (x _ _ n h)
 ·exact .inr ⟨o,x _ _ n h⟩
end
mutual
theorem ai.keep{nb:Addr->Prop}{H H':Hp}(x:bz nb H H'):∀{d:PyData} {v:V},ai nb H d v->ai nb H' d v
 | .none,_,h=>by unfold ai at h⊢;exact h
 | .bool _,_,h=>by unfold ai at h⊢;exact h
 | .int _,_,h=>by unfold ai at h⊢;exact h
 | .str _,_,h=>by unfold ai at h⊢;exact h
 | .list ds,_,h=>by unfold ai at h⊢;obtain⟨a,xs,e,n,s,r⟩:=h;exact⟨a,xs,e,n,x _ _ n s,af.keep x r⟩
 | .tuple ds,_,h=>by unfold ai at h⊢;obtain⟨a,xs,e,n,s,r⟩:=h;exact⟨a,xs,e,n,x _ _ n s,af.keep x r⟩
 | .dict kvs,_,h=>by unfold ai at h⊢;obtain⟨a,xs,e,n,s,r⟩:=h;exact⟨a,xs,e,n,x.rd n s,au.keep x r⟩
theorem af.keep{nb:Addr->Prop}{H H':Hp}(x:bz nb H H'):∀{ds:List PyData} {vs:List V},af nb H ds vs->af nb H' ds vs
 |[],_,h=>by unfold af at h⊢;exact h
 |d::ds,_,h=>by unfold af at h⊢;obtain⟨y,ys,e,h1,h2⟩:=h;exact⟨y,ys,e,ai.keep x h1,af.keep x h2⟩
theorem au.keep{nb:Addr->Prop}{H H':Hp}(x:bz nb H H'):∀{ds:List (PyData×PyData)} {vs:List (Key×V)},au nb H ds vs->au nb H' ds vs
 |[],_,h=>by unfold au at h⊢;exact h
 |d::ds,_,h=>by unfold au at h⊢;obtain⟨y,ys,e,h1,h2⟩:=h;exact⟨y,ys,e,bP.keep x h1,au.keep x h2⟩
theorem bP.keep{nb:Addr->Prop}{H H':Hp}(x:bz nb H H'):∀{d:PyData×PyData} {v:Key×V},bP nb H d v->bP nb H' d v
 |(k,d),_,h=>by unfold bP at h⊢;exact⟨h.1,ai.keep x h.2⟩
end
mutual
theorem ai.av{nb bB:Addr->Prop}{H:Hp}(x:∀a,bB a->nb a):∀{d:PyData} {v:V},ai nb H d v->ai bB H d v
 | .none,_,h=>by unfold ai at h⊢;exact h
 | .bool _,_,h=>by unfold ai at h⊢;exact h
 | .int _,_,h=>by unfold ai at h⊢;exact h
 | .str _,_,h=>by unfold ai at h⊢;exact h
 | .list ds,_,h=>by unfold ai at h⊢;obtain⟨a,xs,e,n,s,r⟩:=h;exact⟨a,xs,e,fun z=>n (x a z),s,af.av x r⟩
 | .tuple ds,_,h=>by unfold ai at h⊢;obtain⟨a,xs,e,n,s,r⟩:=h;exact⟨a,xs,e,fun z=>n (x a z),s,af.av x r⟩
 | .dict kvs,_,h=>by unfold ai at h⊢;obtain⟨a,xs,e,n,s,r⟩:=h;exact⟨a,xs,e,fun z=>n (x a z),s,au.av x r⟩
theorem af.av{nb bB:Addr->Prop}{H:Hp}(x:∀a,bB a->nb a):∀{ds:List PyData} {vs:List V},af nb H ds vs->af bB H ds vs
 |[],_,h=>by unfold af at h⊢;exact h
 |d::ds,_,h=>by unfold af at h⊢;obtain⟨y,ys,e,h1,h2⟩:=h;exact⟨y,ys,e,ai.av x h1,af.av x h2⟩
theorem au.av{nb bB:Addr->Prop}{H:Hp}(x:∀a,bB a->nb a):∀{ds:List (PyData×PyData)} {vs:List (Key×V)},au nb H ds vs->au bB H ds vs
 |[],_,h=>by unfold au at h⊢;exact h
 |d::ds,_,h=>by unfold au at h⊢;obtain⟨y,ys,e,h1,h2⟩:=h;exact⟨y,ys,e,bP.av x h1,au.av x h2⟩
theorem bP.av{nb bB:Addr->Prop}{H:Hp}(x:∀a,bB a->nb a):∀{d:PyData×PyData} {v:Key×V},bP nb H d v->bP bB H d v
 |(k,d),_,h=>by unfold bP at h⊢;exact⟨h.1,ai.av x h.2⟩
end
mutual
theorem ai.fresh{nb:Addr->Prop}{H:Hp}{p:Addr}(hp:H p=none):∀{d:PyData} {v:V},ai nb H d v->ai (fun a=>nb a\/a=p) H d v
 | .none,_,h=>by unfold ai at h⊢;exact h
 | .bool _,_,h=>by unfold ai at h⊢;exact h
 | .int _,_,h=>by unfold ai at h⊢;exact h
 | .str _,_,h=>by unfold ai at h⊢;exact h
 | .list ds,_,h=>by unfold ai at h⊢;obtain⟨a,xs,e,n,s,r⟩:=h;exact⟨a,xs,e,fun z=>z.elim n (ig s hp),s,af.fresh hp r⟩
 | .tuple ds,_,h=>by unfold ai at h⊢;obtain⟨a,xs,e,n,s,r⟩:=h;exact⟨a,xs,e,fun z=>z.elim n (ig s hp),s,af.fresh hp r⟩
 | .dict kvs,_,h=>by unfold ai at h⊢;obtain⟨a,xs,e,n,s,r⟩:=h;exact⟨a,xs,e,fun z=>z.elim n (s.elim (fun s=>ig s hp) fun⟨_,s⟩=>ig s hp),s,au.fresh hp r⟩
theorem af.fresh{nb:Addr->Prop}{H:Hp}{p:Addr}(hp:H p=none):∀{ds:List PyData} {vs:List V},af nb H ds vs->af (fun a=>nb a\/a=p) H ds vs
 |[],_,h=>by unfold af at h⊢;exact h
 |d::ds,_,h=>by unfold af at h⊢;obtain⟨y,ys,e,h1,h2⟩:=h;exact⟨y,ys,e,ai.fresh hp h1,af.fresh hp h2⟩
theorem au.fresh{nb:Addr->Prop}{H:Hp}{p:Addr}(hp:H p=none):∀{ds:List (PyData×PyData)} {vs:List (Key×V)},au nb H ds vs->au (fun a=>nb a\/a=p) H ds vs
 |[],_,h=>by unfold au at h⊢;exact h
 |d::ds,_,h=>by unfold au at h⊢;obtain⟨y,ys,e,h1,h2⟩:=h;exact⟨y,ys,e,bP.fresh hp h1,au.fresh hp h2⟩
theorem bP.fresh{nb:Addr->Prop}{H:Hp}{p:Addr}(hp:H p=none):∀{d:PyData×PyData} {v:Key×V},bP nb H d v->bP (fun a=>nb a\/a=p) H d v
 |(k,d),_,h=>by unfold bP at h⊢;exact⟨h.1,ai.fresh hp h.2⟩
end
mutual
theorem ai.reads{pins:List (Addr×Obj)}{σ:St}{H:Hp}{s:Shared}{nb:Addr->Prop}(I:Inv X pins σ H s):∀{d:PyData} {v:V} {u:Value},ai nb H d v->RelV v u->d.canLay0=true->∃as,Reads s.heap u d as
  | .none,_,_,h,r,_=>by unfold ai at h;subst h;cases r;exact⟨_, .none⟩
  | .bool _,_,_,h,r,_=>by unfold ai at h;subst h;cases r;exact⟨_, .bool _⟩
  | .int _,_,_,h,r,_=>by unfold ai at h;subst h;obtain⟨t,rfl⟩:=r;exact⟨_, .int _ _⟩
  | .str _,_,_,h,r,_=>by unfold ai at h;subst h;obtain⟨t,rfl⟩:=r;exact⟨_, .str _ _⟩
  | .list ds, _, _, h, r, hc0 => by
    unfold ai at h
    obtain⟨a,xs,rfl,n,s,q⟩:=h
    cases r
    obtain⟨its,rv,p,hz⟩:=I.list (aS.of s)
    obtain⟨as,ra⟩:=af.reads I q rv (by simpa only[PyData.canLay0] using hc0)
    obtain⟨o,ho,hc,m,hd⟩:=p.isList
    exact⟨_, .list ho hc hd (by simpa using ra)⟩
  | .tuple ds, _, _, h, r, hc0 => by
    unfold ai at h
    obtain⟨a,xs,rfl,n,s,q⟩:=h
    cases r
    obtain⟨its,rv,p,hz⟩:=I.tuple (gE.of s)
    obtain⟨as,ra⟩:=af.reads I q rv (by simpa only[PyData.canLay0] using hc0)
    obtain⟨o,ho,hc,m,hd⟩:=p
    exact⟨_, .tuple ho hc hd (by simpa using ra)⟩
  | .dict _,_,_,h,r,hc0=>by simp[PyData.canLay0] at hc0
theorem af.reads{pins:List (Addr×Obj)}{σ:St}{H:Hp}{s:Shared}{nb:Addr->Prop}(I:Inv X pins σ H s):∀{ds:List PyData} {vs:List V} {us:List Value},af nb H ds vs->Vals vs us->PyData.canLayAll0 ds=true->∃as,ReadsAll s.heap us ds as
  |[],_,_,h,r,_=>by unfold af at h;subst h;cases r;exact⟨_, .nil⟩
  | d :: ds, _, _, h, r, hc0 => by
    rw[PyData.canLayAll0,fK] at hc0
    unfold af at h
    obtain⟨y,ys,rfl,h1,h2⟩:=h
    cases r with
    | cons r1 r2 =>
      obtain⟨as,q1⟩:=ai.reads I h1 r1 hc0.1
      obtain⟨bs,q2⟩:=af.reads I h2 r2 hc0.2
      exact⟨_, .cons q1 q2⟩
end
def B6(neg:Bool):R2:=fun x y H Q=>∃nb d e,ai nb H d x/\ai nb H e y/\SeqAt.shaped d=true/\SeqAt.shaped e=true/\Q (.bl (PyData.eqv d e !=neg)) H
theorem HY(hu:X.A.units+64<cLine):dY X (compareOp .Eq) (B6 false):=by
 intro pins s σ H x y v u Q I rx ry h
 obtain⟨nb,d,e,h1,h2,h3,h4,q⟩:=h
 obtain⟨as,r1⟩:=h1.reads I rx (oM h3)
 obtain⟨bs,r2⟩:=h2.reads I ry (oM h4)
 exact eq_dataH r1 r2 h3 h4 hu ⟨.bl _,H,I,rfl,by simpa using q⟩
theorem xX(hu:X.A.units+64<cLine):dY X (compareOp .NotEq) (B6 true):=by
 intro pins s σ H x y v u Q I rx ry h
 obtain⟨nb,d,e,h1,h2,h3,h4,q⟩:=h
 obtain⟨as,r1⟩:=h1.reads I rx (oM h3)
 obtain⟨bs,r2⟩:=h2.reads I ry (oM h4)
 exact ne_dataH r1 r2 h3 h4 hu ⟨.bl _,H,I,rfl,by simpa using q⟩
end
mutual
theorem eqv_refl:∀d:PyData,SeqAt.shaped d=true\/d.canLay0=true->PyData.eqv d d=true
  | .none,_=>by simp[PyData.eqv]
  | .bool _,_=>by simp[PyData.eqv]
  | .int _,_=>by simp[PyData.eqv]
  | .str _,_=>by simp[PyData.eqv]
  | .list ds, h => by
    have h':PyData.canLayAll0 ds=true:=by
      rcases h with h|h
      · have:=oM h;simpa[PyData.canLay0] using this
      · simpa[PyData.canLay0] using h
    simp only[PyData.eqv]
    exact eqvAll_refl ds h'
  | .tuple ds, h => by
    have h':PyData.canLayAll0 ds=true:=by
      rcases h with h|h
      · have:=oM h;simpa[PyData.canLay0] using this
      · simpa[PyData.canLay0] using h
    simp only[PyData.eqv]
    exact eqvAll_refl ds h'
  | .dict _, h => by
    rcases h with h|h
    · have:=oM h;simp[PyData.canLay0] at this
    · simp[PyData.canLay0] at h
theorem eqvAll_refl:∀ds:List PyData,PyData.canLayAll0 ds=true->PyData.eqvAll ds ds=true
  |[],_=>by simp[PyData.eqvAll]
  | d :: ds, h => by
    simp only[PyData.canLayAll0,fK] at h
    simp only[PyData.eqvAll,fK]
    exact⟨eqv_refl d (.inr h.1),eqvAll_refl ds h.2⟩
end
structure Callee(P:Program)(w:World)(K:PySem.W.Frag)(mg:Str->Option Value)(base:Heap)(x:Str)(k:Nat)(ps:List Str)(sp:Sp):Prop where
 ex:∃f fd,bE P w K mg base bL k f fd ps sp/\Binds K fd ps []/\PySem.W.keepIn K (.ref f)=true/\mg x=some (.ref f)
theorem aX{X:Cx}{x:Str}{k:Nat}{ps:List Str}{sp:Sp}{p pos:Pos}{e:Expr}{es:List Expr}{t:TA}(c:Callee X.prog X.w X.K X.mg X.base x k ps sp)(hr:dR k X.A)(ha:PA X (e::es) t)(hg:Gl X x:=by rfl)
  (hdb:(x==("__debug__":Str))=false:=by decide) (he:starEach (e::es) X.env=(false,eval e X.env)::starEach es X.env:=by rfl) (hpl:(backTo pos (starEach es X.env)).any (·.1)=false:=by rfl):
  PE X (.Call (.Name x p) (e::es) [] pos) (iS sp [] E0 t):=by
 obtain⟨f,fd,F,b,kp,m⟩:=c.ex
 exact QG F hr hg m kp b .nil uy ha hdb he hpl
theorem Callee.mk'{P:Program}{w:World}{K:PySem.W.Frag}{mg:Str->Option Value}{base:Heap}{x:Str}{st:Stmt}{k:Nat}{ps:List Str}{sp:Sp}{f:Addr}{fd:FuncData}(F:bT K x x st f fd)(ok:bE P w K mg base bL k f fd ps sp)(b:Binds K fd ps [])
  (m:mg x=some (.ref f)):Callee P w K mg base x k ps sp:=⟨f,fd,ok,b,F.kp,m⟩
def aZ(K:PySem.W.Frag)(x q:Str)(st:Stmt)(f:Addr):Prop:=PySem.W.nsIn K mainGlobals x=some (some (.ref f))/\∃fd,bT K x q st f fd
theorem aZ.mk{K:PySem.W.Frag}{x q:Str}{st:Stmt}{f:Addr}{oc:Value}{od an:Option Addr}{osl:Array (Option Value)}{kV doc pm cdv ct:Value}(a:PySem.W.nsIn K mainGlobals x=some (some (.ref f)))(l:K.lookup f=some ⟨oc,od, .func (PySem.W.fnOf x q (kh st) (jN st) (aQ st) .none kV doc pm an cdv ct),osl⟩)
  (c:PySem.W.codeIn K cdv q=true) (k:PySem.W.keepIn K (.ref f)=true):aZ K x q st f:=⟨a,_,pP l c k⟩
end L2
set_option maxRecDepth 100000
set_option maxHeartbeats 1000000
namespace L2
open PySem PySem.Spec PyProof.Rows
section
variable{X:Cx}
theorem iN:dY X (binaryOp .Mult) (rI (fun i j=>uh i j\/(Sm i/\Sm j)) fun i j=> .int (i*j)):=wH fun _ _ _ _ _ _ _ hc q=>mul_int q (by
 rcases hc with hc|hc
 ·exact hc.ok
 ·exact IntMulOk.of_bits (By hc.1) (By hc.2))
end
def dz(H:Hp)(b l:Addr):Prop:=∃(ns:List Int) (i c st n:Int),H b=some (.lst [.ref l, .int i, .int c, .int st, .int n])/\H l=some (.lst (ns.map V.int))/\
 (∀x∈ns,0<=x/\x<10^60)/\ns.length<=63/\0<=i/\0<=c/\c<10^60/\0<=st/\st<2147483647
theorem KL{H:Hp}{b l:Addr}{ns:List Int}{i c st n:V}(h:H b=some (.lst [.ref l,i,c,st,n]))(h':H l=some (.lst (ns.map V.int))):l≠b:=by
 intro e
 subst e
 rw[h] at h'
 have e:=HO.lst.inj (fN h')
 cases ns with
 |nil=>cases e
 |cons x r=>rw[bC] at e;cases (uF e).1
theorem dz.put{H:Hp}{b l:Addr}{ns:List Int}{i c st n:Int}(hl:l≠b)(h':H l=some (.lst (ns.map V.int)))(h1:∀x∈ns,0<=x/\x<10^60)(h2:ns.length<=63)
  (h3:0<=i) (h4:0<=c) (h5:c<10^60) (h6:0<=st) (h7:st<2147483647):dz (upd H b (.lst [.ref l, .int i, .int c, .int st, .int n])) b l:=
 ⟨ns,i,c,st,n,aY,by rw[aB hl];exact h',h1,h2,h3,h4,h5,h6,h7⟩
theorem dz.put2{H:Hp}{b l p:Addr}{o:HO}(h:dz H b l)(hp:p≠b/\p≠l):dz (upd H p o) b l:=by
 obtain⟨ns,i,c,st,n,h1,h2,r⟩:=h
 exact⟨ns,i,c,st,n,by rw[aB (bx hp.1)];exact h1,by rw[aB (bx hp.2)];exact h2,r⟩
theorem dz.same{H H':Hp}{b l:Addr}(h:dz H b l)(s:cy H H'):dz H' b l:=by
 obtain⟨ns,i,c,st,n,h1,h2,r⟩:=h
 exact⟨ns,i,c,st,n,s _ _ h1,s _ _ h2,r⟩
def kY:Sp:=fun vs H Q _=>∃(b l:Addr) (many:Int),vs=[.ref b, .int many]/\dz H b l/\0<many/\Sm many/\∀(r:Int) (H':Hp),0<=r->r<many->bz (Nb b) H H'->dz H' b l->Q (.int r) H'
def HX(K:PySem.W.Frag):Sp:=fun vs H Q _=>∃(a:Addr) (ns:List Int),vs=[.ref a]/\aS K H a (ns.map V.int)/\ns.length<=63/\∀(b l:Addr) (H':Hp),cy H H'->H b=none->dz H' b l->Q (.ref b) H'
theorem fh{α:Type}{xs:List α}{i:Int}{v:α}(h0:0<=i)(h:xs[i.toNat]?=some v):bH xs i=some v:=by
 have e:i=((i.toNat:Nat):Int):=by omega
 rw[e]
 exact LL h
theorem cH{H:Hp}{p:Addr}{o:HO}(h:H p=none):cy H (upd H p o):=fun b u q=>by rw[aB (ig q h)];exact q
section
variable{nb:Addr->Prop}{H H':Hp}
theorem af.length:∀{ds:List PyData} {xs:List V},af nb H ds xs->xs.length=ds.length
 |[],_,h=>by unfold af at h;subst h;rfl
 |d::ds,_,h=>by unfold af at h;obtain⟨y,ys,rfl,_,h2⟩:=h;simp[af.length h2]
theorem af.get:∀{ds:List PyData} {xs:List V} {i:Nat} {d:PyData},af nb H ds xs->ds[i]?=some d->∃x,xs[i]?=some x/\ai nb H d x
 |[],_,_,_,_,e=>by simp at e
 |d::ds,_,0,_,h,e=>by unfold af at h;obtain⟨y,ys,rfl,h1,h2⟩:=h;simp at e;subst e;exact⟨y,rfl,h1⟩
 |d::ds,_,i+1,_,h,e=>by unfold af at h;obtain⟨y,ys,rfl,h1,h2⟩:=h;simpa using af.get (i:=i) h2 (by simpa using e)
theorem af.snoc{d:PyData}{x:V}(hd:ai nb H d x):∀{ds:List PyData} {xs:List V},af nb H ds xs->af nb H (ds++[d]) (xs++[x])
 |[],_,h=>by unfold af at h;subst h;unfold af;exact⟨x,[],rfl,hd,by unfold af;rfl⟩
 |e::ds,_,h=>by unfold af at h;obtain⟨y,ys,rfl,h1,h2⟩:=h;show af nb H (e::(ds++[d])) _;unfold af;exact⟨y,ys++[x],rfl,h1,af.snoc hd h2⟩
theorem af.append:∀{ds es:List PyData} {xs ys:List V},af nb H ds xs->af nb H es ys->af nb H (ds++es) (xs++ys)
 |[],_,_,_,h,h'=>by unfold af at h;subst h;exact h'
 |e::ds,es,_,zs,h,h'=>by unfold af at h;obtain⟨y,ys,rfl,h1,h2⟩:=h;show af nb H (e::(ds++es)) _;unfold af;exact⟨y,ys++zs,rfl,h1,af.append h2 h'⟩
theorem af.take:∀{ds:List PyData} {xs:List V} (n:Nat),af nb H ds xs->af nb H (ds.take n) (xs.take n)
 |_,_,0,_=>by simp only[yu];unfold af;rfl
 |[],_,n+1,h=>by unfold af at h;subst h;simp only[List.take_nil];unfold af;rfl
 |d::ds,_,n+1,h=>by unfold af at h;obtain⟨y,ys,rfl,h1,h2⟩:=h;simp only[List.take_succ_cons];unfold af;exact⟨y,_,rfl,h1,af.take n h2⟩
theorem af.drop:∀{ds:List PyData} {xs:List V} (n:Nat),af nb H ds xs->af nb H (ds.drop n) (xs.drop n)
 |_,_,0,h=>h
 |[],_,n+1,h=>by unfold af at h;subst h;simp only[List.drop_nil];unfold af;rfl
 |d::ds,_,n+1,h=>by unfold af at h;obtain⟨y,ys,rfl,h1,h2⟩:=h;simp only[List.drop_succ_cons];exact af.drop n h2
theorem af.nil:af nb H [] []:=by unfold af;rfl
theorem af.cons{d:PyData}{x:V}{ds:List PyData}{xs:List V}(h1:ai nb H d x)(h2:af nb H ds xs):af nb H (d::ds) (x::xs):=by unfold af;exact⟨x,xs,rfl,h1,h2⟩
theorem ai.int(i:Int):ai nb H (.int i) (.int i):=by unfold ai;rfl
theorem ai.aL:ai nb H .none .aL:=by unfold ai;rfl
theorem ai.bl(b:Bool):ai nb H (.bool b) (.bl b):=by unfold ai;rfl
theorem ai.lst{a:Addr}{ds:List PyData}{xs:List V}(n:¬nb a)(h:H a=some (.lst xs))(hd:af nb H ds xs):ai nb H (.list ds) (.ref a):=by unfold ai;exact⟨a,xs,rfl,n,h,hd⟩
theorem ai.tup{a:Addr}{ds:List PyData}{xs:List V}(n:¬nb a)(h:H a=some (.tup xs))(hd:af nb H ds xs):ai nb H (.tuple ds) (.ref a):=by unfold ai;exact⟨a,xs,rfl,n,h,hd⟩
theorem ai.cQ{v:V}{ds:List PyData}(h:ai nb H (.list ds) v):∃a xs,v= .ref a/\¬nb a/\H a=some (.lst xs)/\af nb H ds xs:=by unfold ai at h;exact h
theorem ai.ofT{v:V}{ds:List PyData}(h:ai nb H (.tuple ds) v):∃a xs,v= .ref a/\¬nb a/\H a=some (.tup xs)/\af nb H ds xs:=by unfold ai at h;exact h
theorem ai.bZ{v:V}{i:Int}(h:ai nb H (.int i) v):v= .int i:=by unfold ai at h;exact h
theorem ai.wG{v:V}(h:ai nb H .none v):v= .aL:=by unfold ai at h;exact h
end
def xW:Sp:=fun vs H Q _=>∃i:Int,vs=[.int i]/\Q (.bl true) H
def vI(K:PySem.W.Frag):Sp:=fun vs H Q _=>∃(a:Addr) (ns:List Int),vs=[.ref a]/\aS K H a (ns.map V.int)/\ns.length<=63/\∀H',Q (.bl true) H'
end L2
set_option maxRecDepth 100000
set_option maxHeartbeats 1000000
namespace L2
open PySem PySem.Spec PyProof.Rows
def BD(Q:VK):List V->Hp->Prop:=fun xs H1=>xs.length<=sizeLine/\∀p,H1 p=none->Q (.ref p) (upd H1 p (.lst xs))
def pV(K:PySem.W.Frag):List V->Hp->VK->Prop:=fun xs H Q=>∃p ys,xs=[.ref p]/\(aS K H p ys\/gE K H p ys)/\∀l,H l=none->Q (.ref l) (upd H l (.lst ys))
theorem CY{X:Cx}:gR X (.type "list") (pV X.K):=Ri
def IT:R2:=fun x y H Q=>y= .aL/\Q (.bl (decide (x= .aL))) H
def vq:R2:=fun x y H Q=>y= .aL/\Q (.bl (!decide (x= .aL))) H
theorem w9{X:Cx}:dY X (compareOp .Is) IT:=Ry
theorem rG{X:Cx}:dY X (compareOp .IsNot) vq:=W7
def intOf:Expr->Option Int
 | .Constant (.int i) _ _=>some i
 |_=>none
theorem UH{e:Expr}{i:Int}(h:intOf e=some i):∃k p,e= .Constant (.int i) k p:=by
 unfold intOf at h
 split at h
 ·cases h;exact⟨_,_,rfl⟩
 ·cases h
def qB:List Expr->Option (List Int)
 |[]=>some []
 |e::r=>(intOf e).bind fun i=>(qB r).map (i:: ·)
def wD(is:List Int):TA:=fun _ H Q=>Q (is.map V.int) H
theorem Vb{X:Cx}:∀{es:List Expr} {is:List Int},qB es=some is->PA X es (wD is):=by
  intro es
  induction es with
  | nil =>
    intro is h
    have e:is=[]:=by simpa[qB] using h.symm
    subst e
    exact ao
  | cons e r ih =>
    intro is h
    unfold qB at h
    cases hi:intOf e with
    |none=>rw[hi] at h;cases h
    | some i =>
      rw[hi] at h
      obtain⟨k,p,rfl⟩:=UH hi
      obtain⟨js,hj,rfl⟩:=jx.mp (show(qB r).map (i:: ·)=some is from h)
      exact aa (te:=tC (.int i)) (t:=wD js) aq (ih hj)
theorem Sf{X:Cx}{i:Nat}{x:Str}{es:List Expr}{is:List Int}{p1 p2 p3:Pos}(hN:X.N.Nodup)(hi:X.N[i]?=some x)(hx:Loc X.env.scope x)(h:qB es=some is)(hf:X.fn x=true\/X.env.scope.names.lookup x=some .local):
  PS X (.Assign [.Name x p1] (.List es p2) p3) (ff (oN (wD is)) (eX i)):=aU hN hi hx (gw (Vb h)) rfl hf
namespace R
section
variable{σ:St}{H:Hp}{Q:VK}{D:Ends}{ta tb te:TE}{K:PySem.W.Frag}
theorem seq{t u:TS}(h:t {D with nx:=u D} σ H):jK t u D σ H:=h
theorem asg{g:TG}(h:te σ H fun x H1=>g x σ H1 D.nx):ff te g D σ H:=h
theorem qY{c:TT}{t u:TS}(h:c σ H fun b H1=>if b=true then t D σ H1 else u D σ H1):AY c t u D σ H:=h
theorem ret(h:te σ H D.rt):vK te D σ H:=h
theorem drop(h:te σ H fun _ H1=>D.nx σ H1):nD te D σ H:=h
theorem next(h:D.nx σ H):Cd D σ H:=h
theorem var{i:Nat}{v:V}(e:σ[i]?=some (some v))(h:Q v H):dG i σ H Q:=⟨v,e,h⟩
theorem c{v:V}(h:Q v H):tC v σ H Q:=h
theorem op{r:R2}(h:ta σ H fun x H1=>tb σ H1 fun y H2=>r x y H2 Q):cK r ta tb σ H Q:=h
theorem test{q:Bool->Hp->Prop}(h:te σ H fun x H'=>∃k,x= .bl k/\q k H'):Dd te σ H q:=h
theorem bl{P:Bool->Prop}{b:Bool}(h:P b):∃k,V.bl b= .bl k/\P k:=⟨b,rfl,h⟩
theorem and{t u:TT}{q:Bool->Hp->Prop}(h:t σ H fun c H1=>if c=true then u σ H1 q else q false H1):Cz t u σ H q:=h
theorem BE(h:ta σ H fun x H1=>∃c,x= .bl c/\if c=true then tb σ H1 Q else Q (.bl false) H1):Dz ta tb σ H Q:=h
theorem Ox(h:ta σ H fun x H1=>∃c,x= .bl c/\Q (.bl (!c)) H1):Fe ta σ H Q:=h
theorem cb{r:List V->Hp->VK->Prop}{t:TA}(h:t σ H fun vs H1=>r vs H1 Q):gC r t σ H Q:=h
theorem call{sp:Sp}{t:TA}(h:t σ H fun vs H1=>sp (vs++[]) H1 Q E0):iS sp [] E0 t σ H Q:=h
theorem nil{q:List V->Hp->Prop}(h:q [] H):cL σ H q:=h
theorem cons{t:TA}{q:List V->Hp->Prop}(h:ta σ H fun x H1=>t σ H1 fun xs H2=>q (x::xs) H2):cA ta t σ H q:=h
theorem lst{t:TA}(h:t σ H (BD Q)):oN t σ H Q:=h
theorem sl{r:V->Option Int->Option Int->Hp->VK->Prop}{tl th:TO}(h:te σ H fun x H1=>tl σ H1 fun l H2=>th σ H2 fun u H3=>r x l u H3 Q):tF r te tl th σ H Q:=h
theorem Nf{q:Option Int->Hp->Prop}(h:q none H):yP σ H q:=h
theorem part{q:Option Int->Hp->Prop}(h:te σ H fun x H1=>∃i,x= .int i/\q (some i) H1):DC te σ H q:=h
theorem Mw{P:Int->Prop}{i:Int}(h:P i):∃j,V.int i= .int j/\P j:=⟨i,rfl,h⟩
theorem UK{T:String}{r:V->List V->Hp->VK->Prop}(h:te σ H fun x H1=>sH K T x H1/\r x [] H1 Q):tN K T r te σ H Q:=h
theorem ON{i:Int}{A:Prop}(h:A):sH K "int" (.int i) H/\A:=⟨rfl,h⟩
theorem Je{i:Nat}{v:V}{q:St->Hp->Prop}(h:q (σ.set i (some v)) H):eX i v σ H q:=h
theorem XJ{to ti:TE}{t:uY}{v:V}{q:St->Hp->Prop}(h:to σ H fun o H1=>ti σ H1 fun i H2=>t o i v H2 fun H3=>q σ H3):oq to ti t v σ H q:=h
theorem RK{t:TG}{u:iH}{v:V}{r:List V}{q:St->Hp->Prop}(h:t v σ H fun σ' H'=>u r σ' H' q):qF t u (v::r) σ H q:=⟨v,r,rfl,h⟩
theorem Ms{q:St->Hp->Prop}(h:q σ H):t6 [] σ H q:=⟨rfl,h⟩
theorem WX{n:Nat}{t:iH}{a:Addr}{xs:List V}{q:St->Hp->Prop}(hq:gE K H a xs)(hl:xs.length=n)(h:t xs σ H q):rB K n t (.ref a) σ H q:=⟨a,xs,rfl,hq,hl,h⟩
theorem xA{q:Bool->Hp->Prop}(h:q true H):xh σ H q:=h
theorem je{g:Int->Int->V}{i j:Int}(h:Q (g i j) H):L2.je g (.int i) (.int j) H Q:=⟨i,j,rfl,rfl,h⟩
theorem rI{C:Int->Int->Prop}{g:Int->Int->V}{i j:Int}(hc:C i j)(h:Q (g i j) H):L2.rI C g (.int i) (.int j) H Q:=⟨i,j,rfl,rfl,hc,h⟩
theorem BB{i j:Int}:decide (V.int i=V.int j)=decide (i=j):=by rw[k9];simp
theorem Oz{i j:Int}(h:Q (.bl (decide (i=j))) H):BP (.int i) (.int j) H Q:=⟨rfl,by rw[BB];exact h⟩
theorem VJ{i j:Int}(h:Q (.bl (decide (i≠j))) H):Ak (.int i) (.int j) H Q:=⟨rfl,by rw[BB,<-decide_not];exact h⟩
theorem Jz{i:Int}(h:Q (.bl true) H):vq (.int i) .aL H Q:=⟨rfl,by rw[decide_eq_false (fun e=>V.noConfusion e)];exact h⟩
theorem J4(h:Q (.bl false) H):vq .aL .aL H Q:=⟨rfl,by rw[decide_eq_true rfl];exact h⟩
theorem xw{p:Addr}{xs:List V}{i:Int}{v:V}(hp:H p=some (.lst xs))(e:bH xs i=some v)(h:Q v H):bX K (.ref p) (.int i) H Q:=⟨p,xs,i,v,rfl,rfl,aS.of hp,e,h⟩
theorem KC{p:Addr}{o:HO}{xs:List V}{i:Int}{v:V}(e:bH xs i=some v)(h:Q v (upd H p (.lst xs))):bX K (.ref p) (.int i) (upd H p (.lst xs)) Q:=⟨p,xs,i,v,rfl,rfl,aS.of aY,e,h⟩
theorem setM{p:Addr}{xs:List V}{k:Int}{j:Nat}{v:V}{q:Hp->Prop}(hp:H p=some (.lst xs))(e:dM xs.length k=some j)(h:q (upd H p (.lst (xs.set j v)))):qu (.ref p) (.int k) v H q:=⟨p,xs,k,j,rfl,rfl,hp,e,h⟩
theorem Xw{p:Addr}{xs:List V}{k:Int}{j:Nat}{v:V}{q:Hp->Prop}(e:dM xs.length k=some j)(h:q (upd H p (.lst (xs.set j v)))):qu (.ref p) (.int k) v (upd H p (.lst xs)) q:=
 ⟨p,xs,k,j,rfl,rfl,aY,e,by rw[zX];exact h⟩
theorem RC{p:Addr}{xs:List V}{P:List V->Prop}(hp:H p=some (.lst xs))(h:P xs):∃a ys,[V.ref p]=[.ref a]/\(aS K H a ys\/gE K H a ys)/\P ys:=⟨p,xs,rfl, .inl (aS.of hp),h⟩
theorem G5{p:Addr}{xs:List V}{lo hi:Option Int}(hp:aS K H p xs)(h:∀a,H a=none->Q (.ref a) (upd H a (.lst (lJ xs lo hi)))):kM K (.ref p) lo hi H Q:=⟨p,xs,rfl,hp,h⟩
theorem PD{a:Int}{P:Int->Prop}(h:P a):∃i,[V.int a]=[.int i]/\P i:=⟨a,rfl,h⟩
theorem bits{i:Int}{P:Int->Prop}(h:P i):∃j,V.int i= .int j/\([]:List V)=[]/\P j:=⟨i,rfl,rfl,h⟩
theorem LY{xs:List V}(h:xs.length<=10000)(q:∀p H',cy H H'->H p=none->H' p=some (.lst xs)->Q (.ref p) H'):BD Q xs H:=
 ⟨cX h (by decide),fun p hp=>q p _ (cH hp) hp aY⟩
theorem Gd{c A B:Prop}[Decidable c](h:c)(q:A):if c then A else B:=by rw[if_pos h];exact q
theorem Jo{c A B:Prop}[Decidable c](h:¬c)(q:B):if c then A else B:=by rw[if_neg h];exact q
theorem dT{c:Prop}[Decidable c](h:c):decide c=true:=decide_eq_true h
theorem dF{c:Prop}[Decidable c](h:¬c):¬decide c=true:=by rw[decide_eq_false h];exact dH
theorem EI{c:Prop}[Decidable c](h:¬c):(!decide c)=true:=by rw[decide_eq_false h];rfl
theorem Ju{c:Prop}[Decidable c](h:c):¬(!decide c)=true:=by rw[decide_eq_true h];decide
theorem Uj{i:Int}(h:Q (.bl true) H):mY K [.int i, .ty "int"] H Q:=⟨_,_,_,true,rfl, .int i,rfl,h⟩
theorem S1{i:Int}(h:Q (.bl false) H):mY K [.int i, .ty "bool"] H Q:=⟨_,_,_,false,rfl, .int i,by with_unfolding_all rfl,h⟩
theorem PX{t:TA}{R:It->Hp->Prop}(h:t σ H fun vs H1=>∃j:Int,vs=[.int j]/\ -(2^62)<=j/\j<2^62/\R (jc 0 j.toNat) H1):uI t σ H R:=h
theorem WE{P:Int->Prop}{i:Int}(h1: -(2^62)<=i)(h2:i<2^62)(h:P i):∃j:Int,[V.int i]=[.int j]/\ -(2^62)<=j/\j<2^62/\P j:=⟨i,rfl,h1,h2,h⟩
theorem ND{t:TA}{R:It->Hp->Prop}(h:t σ H fun vs H1=>∃i j:Int,vs=[.int i, .int j]/\(-(2^62)<=i/\i<2^62/\ -(2^62)<=j/\j<2^62)/\R (jc i (j-i).toNat) H1):KW t σ H R:=h
theorem Vq{P:Int->Int->Prop}{a b:Int}(h1: -(2^62)<=a/\a<2^62/\ -(2^62)<=b/\b<2^62)(h:P a b):∃i j:Int,[V.int a,V.int b]=[.int i, .int j]/\(-(2^62)<=i/\i<2^62/\ -(2^62)<=j/\j<2^62)/\P i j:=⟨a,b,rfl,h1,h⟩
theorem iL{tl:TE}{R:It->Hp->Prop}(h:tl σ H fun x H1=>∃a,x= .ref a/\(∃xs,aS K H1 a xs)/\R (nM K a) H1):sX K tl σ H R:=h
theorem vD{P:Addr->Prop}{p:Addr}{xs:List V}(hp:aS K H p xs)(h:P p):∃a,V.ref p= .ref a/\(∃xs,aS K H a xs)/\P a:=⟨p,rfl,⟨xs,hp⟩,h⟩
theorem Vd{wi:TI}{g:TG}{tb:TS}(h:wi σ H fun J H1=>∃W:Nat->Nat->St->Hp->Prop,(∃m,W 0 m σ H1)/\∀i m σ H,W i m σ H->
 (J.stop i H/\D.nx σ H)\/(J.go i H/\∃N:St->Hp->Prop,(∀σ' H',N σ' H'->∃m',m'<m/\W (i+1) m' σ' H')/\∀x H',J.lI i H x H'->g x σ H' fun σ2 H2=>tb {D with nx:=N,ct:=N,bk:=D.nx} σ2 H2)):qp wi g tb D σ H:=h
theorem comp{wi:TI}{g:TG}{tc:TT}{mp:List (Option Nat)}(h:wi σ H fun J H1=>∀acc,H1 acc=none->mG J g tc te acc (fun H'=>Q (.ref acc) H') (eZ mp σ) (upd H1 acc (.lst []))):kG wi g tc te mp σ H Q:=h
end
theorem K6{lo:Int}{n:Nat}{g:TG}{tc:TT}{te:TE}{acc:Addr}{Qe:Hp->Prop}{σ:St}{H:Hp}(Pv:Nat->St->Hp->Prop)(h0:Pv 0 σ H)
  (hs:∀i σ H,i<n->Pv i σ H->g (.int (lo+i)) σ H fun σ2 H2=>tc σ2 H2 fun b H3=>if b=true then te σ2 H3 fun v H4=>∃ys,H4 acc=some (.lst ys)/\ys.length<sizeLine/\Pv (i+1) σ2 (upd H4 acc (.lst (ys++[v]))) else Pv (i+1) σ2 H3)
  (hd:∀σ H,Pv n σ H->Qe H):mG (jc lo n) g tc te acc Qe σ H:=by
 refine⟨fun i m σ H=>m=n-i/\i<=n/\Pv i σ H,⟨n,by simp,fW _,h0⟩,?_⟩
 rintro i m σ H ⟨rfl,hi,p⟩
 by_cases hlt:i<n
 ·refine .inr ⟨hlt,Pv (i+1),fun σ' H' p'=>⟨n-(i+1),by omega,rfl,hlt,p'⟩,fun x H' y=>?_⟩
  obtain⟨e,y⟩:=y
  subst e y
  exact hs i σ _ hlt p
 ·have e:i=n:=by omega
  subst e
  exact .inl ⟨bh _,hd σ H p⟩
theorem Jr{K:PySem.W.Frag}{a:Addr}{xs:List V}{g:TG}{tc:TT}{te:TE}{acc:Addr}{Qe:Hp->Prop}{σ:St}{H:Hp}(Pv:Nat->St->Hp->Prop)(h0:Pv 0 σ H)(hl:∀i σ H,i<=xs.length->Pv i σ H->aS K H a xs)
  (hs:∀i x σ H,xs[i]?=some x->Pv i σ H->g x σ H fun σ2 H2=>tc σ2 H2 fun b H3=>if b=true then te σ2 H3 fun v H4=>∃ys,H4 acc=some (.lst ys)/\ys.length<sizeLine/\Pv (i+1) σ2 (upd H4 acc (.lst (ys++[v]))) else Pv (i+1) σ2 H3)
  (hd:∀σ H,Pv xs.length σ H->Qe H):mG (nM K a) g tc te acc Qe σ H:=by
 refine⟨fun i m σ H=>m=xs.length-i/\i<=xs.length/\Pv i σ H,⟨xs.length,by simp,fW _,h0⟩,?_⟩
 rintro i m σ H ⟨rfl,hi,p⟩
 have q:=hl i σ H hi p
 by_cases hlt:i<xs.length
 ·refine .inr ⟨⟨xs,xs[i],q,by simp[hlt]⟩,Pv (i+1),fun σ' H' p'=>⟨xs.length-(i+1),by omega,rfl,hlt,p'⟩,fun x H' y=>?_⟩
  obtain⟨e,y⟩:=y
  subst e
  exact hs i x σ _ (y xs q) p
 ·have e:i=xs.length:=by omega
  subst e
  exact .inl ⟨⟨xs,q,bh _⟩,hd σ H p⟩
end R
end L2
set_option maxRecDepth 100000
set_option maxHeartbeats 1000000
namespace L2
open PySem PySem.Spec PyProof.Rows
@[reducible] def pairD(pr:Int×Int):PyData:= .tuple [.int pr.1, .int pr.2]
def fE:Option Int->PyData
 |none=> .none
 |some i=> .int i
def xR:Option Int->V
 |none=> .aL
 |some i=> .int i
def jC(wd:List (Option Int))(pr:Int×Int):Int:=match wd[pr.1.toNat]? with
 |some (some x)=>pr.2*x
 |_=>0
def aV(prs:List (Int×Int))(wd:List (Option Int)):Int:=(prs.map (jC wd)).sum
theorem Ax{prs:List (Int×Int)}{wd:List (Option Int)}{i:Nat}(h:i<prs.length):aV (prs.take (i+1)) wd=aV (prs.take i) wd+jC wd prs[i]:=by
 unfold aV
 rw[nZ,aF h,cE,qQ]
 simp
theorem Xk{nb:Addr->Prop}{H:Hp}{o:Option Int}{v:V}(h:ai nb H (fE o) v):v=xR o:=by
 cases o with
 |none=>exact h.wG
 |some i=>exact h.bZ
theorem GN{nb:Addr->Prop}{H:Hp}:∀{wd:List (Option Int)} {xs:List V},af nb H (wd.map fE) xs->xs=wd.map xR
  |[],_,h=>by unfold List.map af at h;exact h
  | o :: wd, _, h => by
    rw[bC] at h
    unfold af at h
    obtain⟨y,ys,rfl,h1,h2⟩:=h
    rw[bC,Xk h1,GN h2]
theorem Mg{nb:Addr->Prop}{H:Hp}{pr:Int×Int}{v:V}(h:ai nb H (pairD pr) v):∃t,v= .ref t/\¬nb t/\H t=some (.tup [.int pr.1, .int pr.2]):=by
 obtain⟨t,xs,rfl,n,ht,hd⟩:=h.ofT
 unfold af at hd
 obtain⟨y,ys,rfl,h1,h2⟩:=hd
 unfold af at h2
 obtain⟨z,zs,rfl,h3,h4⟩:=h2
 unfold af at h4
 subst h4
 rw[h1.bZ,h3.bZ] at ht
 exact⟨t,rfl,n,ht⟩
def wz:Sp:=fun vs H Q _=>∃(nb:Addr->Prop) (p:Int) (va vc:V) (prs:List (Int×Int)) (wd:List (Option Int)),vs=[.int p,va,vc]/\ai nb H (.list (prs.map pairD)) va/\ai nb H (.list (wd.map fE)) vc/\0<p/\
 (∀pr∈prs,0<=pr.1/\pr.1<wd.length/\Sm pr.2)/\(∀x,some x∈wd->Sm x)/\Q (.int (aV prs wd%p)) H
theorem FE(prs:List (Int×Int)):SeqAt.shaped (.list (prs.map pairD))=true/\PyData.depthAll (prs.map pairD)<=1/\PyData.canLayAll0 (prs.map pairD)=true:=by
 have h:PyData.depthAll (prs.map pairD)<=1/\PyData.canLayAll0 (prs.map pairD)=true:=by
  induction prs with
  |nil=>simp[PyData.depthAll,PyData.canLayAll0]
  |cons a r ih=>simp[pairD,PyData.depthAll,PyData.depth,PyData.canLayAll0,PyData.canLay0,ih.2];have:=ih.1;omega
 refine⟨?_,h⟩
 unfold SeqAt.shaped
 simp[PyData.canLay0,PyData.depth,h.2]
 omega
theorem QU(wd:List (Option Int)):PyData.depthAll (wd.map fE)=0/\PyData.canLayAll0 (wd.map fE)=true:=by
 induction wd with
 |nil=>simp[PyData.depthAll,PyData.canLayAll0]
 |cons a r ih=>cases a<;>simp[fE,PyData.depthAll,PyData.depth,PyData.canLayAll0,PyData.canLay0,ih.2,ih.1]
def xD(r:Int):Prop:=∀d:Int,2<=d->d*d<=r->r%d≠0
def t9:List Int:=[2,3,5,7,2,11,101,10007,65537,1000003,998244353,1000000007,2147483647,1000000000039,1000000000000000003,18446744073709551557,2305843009213693951,618970019642690137449562111,162259276829213363391578010288127,170141183460469231731687303715884105727,1000000000000000000000000000000000000003,9999999999999999999999999999999999999983]
def Lc(p:Int):Prop:=2<=p/\p<10^40/\(p∈t9\/xD p)
def AG:Sp:=fun vs H Q _=>∃n:Int,vs=[.int n]/\2<=n/\n<=10002/\∀(r:Int) (H':Hp),cy H H'->2<=r->r<=10100->xD r->Q (.int r) H'
def MG:Sp:=fun vs H Q _=>∃(b l:Addr),vs=[.ref b]/\dz H b l/\∀(p:Int) (H':Hp),Lc p->bz (Nb b) H H'->dz H' b l->Q (.int p) H'
theorem DR{nb:Addr->Prop}{H:Hp}:∀is:List Int,af nb H (is.map PyData.int) (is.map V.int)
 |[]=>af.nil
 |i::is=>af.cons (.int i) (DR is)
theorem CK{nb:Addr->Prop}{H:Hp}:∀{is:List Int} {xs:List V},af nb H (is.map PyData.int) xs->xs=is.map V.int
  |[],_,h=>by unfold List.map af at h;exact h
  | i :: is, _, h => by
    rw[bC] at h
    unfold af at h
    obtain⟨y,ys,rfl,h1,h2⟩:=h
    rw[bC,h1.bZ,CK h2]
end L2
set_option maxRecDepth 100000
set_option maxHeartbeats 1000000
namespace L2
open PySem PySem.Spec PyProof.Rows
abbrev Bg:=Option (Addr×Addr)
def NB(B:Bg)(a:Addr):Prop:=∀b l,B=some (b,l)->a≠b
def jS(B:Bg)(H:Hp):Prop:=∀b l,B=some (b,l)->dz H b l
def ir(nb:Addr->Prop)(H:Hp):Prop:=∀a,nb a->H a≠none
structure Kp(S:Addr->Prop)(F:List Addr)(H H':Hp):Prop where
 own:∀a∈F,∀o,H a=some o->H' a=some o
 lst:∀a xs,¬S a->H a=some (.lst xs)->H' a=some (.lst xs)
 tup:∀a xs,¬S a->H a=some (.tup xs)->H' a=some (.tup xs)
 bW:∀a ps,¬S a->Rd H a (.dK ps)->Rd H' a (.dK ps)
theorem Kp.of{S:Addr->Prop}{F:List Addr}{H H':Hp}(h:∀a o,(¬S a\/a∈F)->H a=some o->H' a=some o):Kp S F H H':=
 ⟨fun a ha o e=>h a o (.inr ha) e,fun a xs n e=>h a _ (.inl n) e,fun a xs n e=>h a _ (.inl n) e,fun a ps n e=>e.elim (fun e=> .inl (h a _ (.inl n) e)) fun⟨o,e⟩=> .inr ⟨o,h a _ (.inl n) e⟩⟩
mutual
theorem ai.kp{S:Addr->Prop}{F:List Addr}{H H':Hp}(m:Kp S F H H'):∀{d:PyData} {v:V},ai S H d v->ai S H' d v
 | .none,_,h=>by unfold ai at h⊢;exact h
 | .bool _,_,h=>by unfold ai at h⊢;exact h
 | .int _,_,h=>by unfold ai at h⊢;exact h
 | .str _,_,h=>by unfold ai at h⊢;exact h
 | .list ds,_,h=>by unfold ai at h⊢;obtain⟨a,xs,e,n,s,r⟩:=h;exact⟨a,xs,e,n,m.lst _ _ n s,af.kp m r⟩
 | .tuple ds,_,h=>by unfold ai at h⊢;obtain⟨a,xs,e,n,s,r⟩:=h;exact⟨a,xs,e,n,m.tup _ _ n s,af.kp m r⟩
 | .dict kvs,_,h=>by unfold ai at h⊢;obtain⟨a,xs,e,n,s,r⟩:=h;exact⟨a,xs,e,n,m.bW _ _ n s,au.kp m r⟩
theorem af.kp{S:Addr->Prop}{F:List Addr}{H H':Hp}(m:Kp S F H H'):∀{ds:List PyData} {vs:List V},af S H ds vs->af S H' ds vs
 |[],_,h=>by unfold af at h⊢;exact h
 |d::ds,_,h=>by unfold af at h⊢;obtain⟨y,ys,e,h1,h2⟩:=h;exact⟨y,ys,e,ai.kp m h1,af.kp m h2⟩
theorem au.kp{S:Addr->Prop}{F:List Addr}{H H':Hp}(m:Kp S F H H'):∀{ds:List (PyData×PyData)} {vs:List (Key×V)},au S H ds vs->au S H' ds vs
 |[],_,h=>by unfold au at h⊢;exact h
 |d::ds,_,h=>by unfold au at h⊢;obtain⟨y,ys,e,h1,h2⟩:=h;exact⟨y,ys,e,bP.kp m h1,au.kp m h2⟩
theorem bP.kp{S:Addr->Prop}{F:List Addr}{H H':Hp}(m:Kp S F H H'):∀{d:PyData×PyData} {v:Key×V},bP S H d v->bP S H' d v
 |(k,d),_,h=>by unfold bP at h⊢;exact⟨h.1,ai.kp m h.2⟩
end
structure Cu where
 v:V
 F:List Addr
 f:Bool
 P:(Addr->Prop)->Hp->Prop
 keep:∀{S:Addr->Prop} {H H':Hp},Kp S F H H'->P S H->P S H'
 av:∀{S S':Addr->Prop} {H:Hp},(∀a,S' a->S a)->P S H->P S' H
 fresh:∀{S:Addr->Prop} {H:Hp} {p:Addr},H p=none->P S H->P (fun a=>S a\/a=p) H
inductive HD where
 |d (x:PyData)|fz (o:Obj) (ps:List (Key×V))|th (c:Cu)
def gJ(S:Addr->Prop)(H:Hp):HD->V->Prop
 | .d x,v=>ai S H x v
 | .fz o ps,v=>∃a,v= .ref a/\¬S a/\H a=some (.bR o (.dK ps))
 | .th c,v=>v=c.v/\(∀a∈c.F,¬S a/\H a≠none)/\c.P S H
theorem gJ.keep{S:Addr->Prop}{H H':Hp}{x:HD}{v:V}(h:gJ S H x v)(b:bz S H H'):gJ S H' x v:=by
  cases x with
  |d x=>exact ai.keep b h
  |fz o ps=>obtain⟨a,e,n,q⟩:=h;exact⟨a,e,n,b _ _ n q⟩
  | th c =>
    obtain⟨e,n,q⟩:=h
    refine⟨e,fun a m=>⟨(n a m).1,?_⟩,c.keep (.of fun a o m q=>b a o (m.elim id fun m=>(n a m).1) q) q⟩
    cases z:H a with
    |none=>exact absurd z (n a m).2
    |some o=>rw[b a o (n a m).1 z];exact jA _
theorem gJ.av{S S':Addr->Prop}{H:Hp}{x:HD}{v:V}(h:gJ S H x v)(b:∀a,S' a->S a):gJ S' H x v:=by
 cases x with
 |d x=>exact ai.av b h
 |fz o ps=>obtain⟨a,e,n,q⟩:=h;exact⟨a,e,fun z=>n (b a z),q⟩
 |th c=>obtain⟨e,n,q⟩:=h;exact⟨e,fun a m=>⟨fun z=>(n a m).1 (b a z),(n a m).2⟩,c.av b q⟩
theorem gJ.fresh{S:Addr->Prop}{H:Hp}{x:HD}{v:V}{p:Addr}(h:gJ S H x v)(hp:H p=none):gJ (fun a=>S a\/a=p) H x v:=by
 cases x with
 |d x=>exact ai.fresh hp h
 |fz o ps=>obtain⟨a,e,n,q⟩:=h;exact⟨a,e,fun z=>z.elim n (ig q hp),q⟩
 |th c=>obtain⟨e,n,q⟩:=h;exact⟨e,fun a m=>⟨fun z=>z.elim (n a m).1 fun y=>(n a m).2 (by rw[y];exact hp),(n a m).2⟩,c.fresh hp q⟩
structure Gx where
 B:Bg
 H0:Hp
 A:Addr->Prop
 hold:List (Bool×HD×V):=[]
inductive Sl where
 |no|d (f:Bool) (d:PyData)|own (a:Addr) (f:Bool) (ds:List PyData)|ay|raw (v:V)|bW (a:Addr) (f:Bool) (ks:List (Int×PyData))|cu (c:Cu)
def Sl.adr:Sl->List Addr
 | .own a _ _=>[a]
 | .bW a _ _=>[a]
 | .cu c=>c.F
 |_=>[]
@[reducible] def bJ(p:Int×PyData):PyData×PyData:=(.int p.1,p.2)
abbrev Rh:=List Sl
def Gx.S(G:Gx)(nb:Addr->Prop)(f:Bool):Addr->Prop:=fun a=>nb a\/G.A a\/¬NB G.B a\/(f=true/\G.H0 a≠none)
def o7(G:Gx)(nb:Addr->Prop)(H:Hp)(x:Option V):Sl->Prop
 | .no=>True
 | .d f d=>∃v,x=some v/\ai (G.S nb f) H d v
 | .own a f ds=>x=some (.ref a)/\nb a/\NB G.B a/\∃xs,H a=some (.lst xs)/\af (G.S nb f) H ds xs
 | .ay=>∃b l,G.B=some (b,l)/\x=some (.ref b)
 | .raw v=>x=some v
 | .bW a f ks=>x=some (.ref a)/\nb a/\NB G.B a/\∃ps,H a=some (.dK ps)/\au (G.S nb f) H (ks.map bJ) ps
 | .cu c=>x=some c.v/\(∀a∈c.F,nb a/\NB G.B a)/\c.P (G.S nb c.f) H
structure Wd(G:Gx)(nb:Addr->Prop)(ρ:Rh)(σ:St)(H:Hp):Prop where
 ay:jS G.B H
 live:ir nb H
 old:∀a o,NB G.B a->G.H0 a=some o->H a=some o
 dJ:∀a,nb a->NB G.B a->G.H0 a=none
 gA:ir G.A G.H0
 len:σ.length=ρ.length
 gB:jS G.B G.H0
 eU:∀h∈G.hold,gJ (G.S nb h.1) H h.2.1 h.2.2
 ok:∀(i:Nat) (s:Sl),ρ[i]?=some s->∃x,σ[i]?=some x/\o7 G nb H x s
 apart:∀(i j:Nat) a f as c g cs,i≠j->ρ[i]?=some (.own a f as)->ρ[j]?=some (.own c g cs)->a≠c
 fG:∀(i j:Nat) a f as c g cs,i≠j->ρ[i]?=some (.bW a f as)->ρ[j]?=some (.bW c g cs)->a≠c
 dP:∀(i j:Nat) c s,i≠j->ρ[i]?=some (.cu c)->ρ[j]?=some s->∀a∈c.F,a∉s.adr
def Step(B:Bg)(H H':Hp):Prop:=(∀a o,NB B a->H a=some o->H' a=some o)/\jS B H'
section
variable{G:Gx}{B:Bg}{nb:Addr->Prop}{ρ:Rh}{σ:St}{H H1 H2 H':Hp}{f g:Bool}{d:PyData}{ds:List PyData}{v:V}{xs:List V}{a p:Addr}
theorem Step.refl(h:jS B H):Step B H H:=⟨fun _ _ _ e=>e,h⟩
theorem Step.trans(x:Step B H H1)(y:Step B H1 H2):Step B H H2:=⟨fun a o n e=>y.1 a o n (x.1 a o n e),y.2⟩
theorem jS.same(h:jS B H)(s:cy H H'):jS B H':=fun b l e=>(h b l e).same s
theorem Step.same(h:jS B H)(s:cy H H'):Step B H H':=⟨fun a o _ e=>s a o e,h.same s⟩
theorem Step.but{bB:Addr->Prop}(s:Step B H H')(h:∀a,¬NB B a->bB a):bz bB H H':=fun a o n e=>s.1 a o (gU fun z=>n (h a z)) e
theorem Step.cN(s:Step G.B H H'):bz (G.S nb f) H H':=s.but fun a h=> .inr (.inr (.inl h))
theorem cT(h:g=true->f=true){bB:Addr->Prop}(hn:∀a,nb a->bB a):∀a,G.S nb g a->G.S bB f a:=by
 intro a z
 rcases z with z|z|z|⟨z,q⟩
 ·exact .inl (hn a z)
 ·exact .inr (.inl z)
 ·exact .inr (.inr (.inl z))
 ·exact .inr (.inr (.inr ⟨h z,q⟩))
theorem NB.lZ(h:jS B H)(n:¬NB B a):H a≠none:=by
 intro e
 apply n
 intro b l hb z
 subst z
 obtain⟨_,_,_,_,_,h1,_⟩:=h _ _ hb
 rw[h1] at e;cases e
theorem Wd.iy(W:Wd G nb ρ σ H):ir (G.S nb f) H:=by
 intro a z
 rcases z with z|z|z|⟨_,z⟩
 ·exact W.live a z
 ·by_cases n:NB G.B a
  ·cases e:G.H0 a with
   |none=>exact absurd e (W.gA a z)
   |some o=>rw[W.old a o n e];exact jA _
  ·exact NB.lZ W.ay n
 ·exact NB.lZ W.ay z
 ·by_cases n:NB G.B a
  ·cases e:G.H0 a with
   |none=>exact absurd e z
   |some o=>rw[W.old a o n e];exact jA _
  ·exact NB.lZ W.ay n
theorem Wd.fresh(W:Wd G nb ρ σ H)(hp:H p=none):¬G.S nb f p:=fun z=>W.iy p z hp
theorem o7.step{x:Option V}{s:Sl}(st:Step G.B H H')(h:o7 G nb H x s):o7 G nb H' x s:=by
  cases s with
  |no=>trivial
  |d f d=>obtain⟨v,e,h⟩:=h;exact⟨v,e,h.keep st.cN⟩
  |own a f ds=>obtain⟨e,n,q,xs,hx,hd⟩:=h;exact⟨e,n,q,xs,st.1 _ _ q hx,hd.keep st.cN⟩
  |ay=>exact h
  |raw v=>exact h
  |bW a f ks=>obtain⟨e,n,q,xs,hx,hd⟩:=h;exact⟨e,n,q,xs,st.1 _ _ q hx,hd.keep st.cN⟩
  | cu c =>
    obtain⟨e,n,p⟩:=h
    refine⟨e,n,c.keep (.of fun a o ha e=>st.1 a o ?_ e) p⟩
    rcases ha with ha|ha
    · exact gU fun z=>ha (.inr (.inr (.inl z)))
    · exact(n a ha).2
theorem KI(n:NB B a)(st:Step B H H')(h:H a≠none):H' a≠none:=by
 cases e:H a with
 |none=>exact absurd e h
 |some o=>rw[st.1 a o n e];exact jA _
theorem Wd.step(W:Wd G nb ρ σ H)(st:Step G.B H H'):Wd G nb ρ σ H' where
 ay:=st.2
 live:=fun a n=>by
  by_cases q:NB G.B a
  ·exact KI q st (W.live a n)
  ·exact NB.lZ st.2 q
 old:=fun a o n e=>st.1 a o n (W.old a o n e)
 dJ:=W.dJ
 gA:=W.gA
 len:=W.len
 gB:=W.gB
 eU:=fun h m=>(W.eU h m).keep st.cN
 ok:=fun i s e=>by
  obtain⟨x,e1,h⟩:=W.ok i s e
  exact⟨x,e1,h.step st⟩
 apart:=W.apart
 fG:=W.fG
 dP:=W.dP
theorem Wd.set{i:Nat}{s:Sl}{x:Option V}(W:Wd G nb ρ σ H)(h:o7 G nb H x s)(hs:∀a f ds,s= .own a f ds->∀j c g cs,j≠i->ρ[j]?=some (.own c g cs)->a≠c)(hd:∀a f ds,s= .bW a f ds->∀j c g cs,j≠i->ρ[j]?=some (.bW c g cs)->a≠c:=by intro _ _ _ z;cases z)(hcu:∀a∈s.adr,∀j t,j≠i->ρ[j]?=some t->(∃c,s= .cu c)\/(∃c,t= .cu c)->a∉t.adr:=by intro _ z;cases z):Wd G nb (ρ.set i s) (σ.set i x) H where
 ay:=W.ay
 live:=W.live
 old:=W.old
 dJ:=W.dJ
 gA:=W.gA
 len:=by rw[gn,gn];exact W.len
 gB:=W.gB
 eU:=W.eU
 ok:=fun j t e=>by
  by_cases hij:i=j
  ·subst hij
   have hl:i<ρ.length:=by have:=(aP.mp e).1;rwa[gn] at this
   rw[dO hl] at e
   cases e
   exact⟨x,dO (by rw[W.len];exact hl),h⟩
  ·rw[bQ hij] at e⊢
   exact W.ok j t e
 apart:=fun j k a f as c g cs hjk e1 e2=>by
  by_cases hj:i=j
  ·subst hj
   have hl:i<ρ.length:=by have:=(aP.mp e1).1;rwa[gn] at this
   rw[dO hl] at e1
   cases e1
   rw[bQ hjk] at e2
   exact hs a f as rfl k c g cs (bx hjk) e2
  ·by_cases hk:i=k
   ·subst hk
    have hl:i<ρ.length:=by have:=(aP.mp e2).1;rwa[gn] at this
    rw[dO hl] at e2
    cases e2
    rw[bQ hj] at e1
    exact(hs c g cs rfl j a f as hjk e1).symm
   ·rw[bQ hj] at e1
    rw[bQ hk] at e2
    exact W.apart j k a f as c g cs hjk e1 e2
 fG:=fun j k a f as c g cs hjk e1 e2=>by
  by_cases hj:i=j
  ·subst hj
   have hl:i<ρ.length:=by have:=(aP.mp e1).1;rwa[gn] at this
   rw[dO hl] at e1
   cases e1
   rw[bQ hjk] at e2
   exact hd a f as rfl k c g cs (bx hjk) e2
  ·by_cases hk:i=k
   ·subst hk
    have hl:i<ρ.length:=by have:=(aP.mp e2).1;rwa[gn] at this
    rw[dO hl] at e2
    cases e2
    rw[bQ hj] at e1
    exact(hd c g cs rfl j a f as hjk e1).symm
   ·rw[bQ hj] at e1
    rw[bQ hk] at e2
    exact W.fG j k a f as c g cs hjk e1 e2
 dP:=fun j k c t hjk e1 e2 a ha=>by
  by_cases hj:i=j
  ·subst hj
   have hl:i<ρ.length:=by have:=(aP.mp e1).1;rwa[gn] at this
   rw[dO hl] at e1
   cases e1
   rw[bQ hjk] at e2
   exact hcu a ha k t (bx hjk) e2 (.inl ⟨c,rfl⟩)
  ·by_cases hk:i=k
   ·subst hk
    have hl:i<ρ.length:=by have:=(aP.mp e2).1;rwa[gn] at this
    rw[dO hl] at e2
    cases e2
    rw[bQ hj] at e1
    exact fun z=>hcu a z j (.cu c) hjk e1 (.inr ⟨c,rfl⟩) ha
   ·rw[bQ hj] at e1
    rw[bQ hk] at e2
    exact W.dP j k c t hjk e1 e2 a ha
theorem Wd.lG{i:Nat}(W:Wd G nb ρ σ H)(h:ai (G.S nb f) H d v):Wd G nb (ρ.set i (.d f d)) (σ.set i (some v)) H:=W.set ⟨v,rfl,h⟩ fun _ _ _ e=>by cases e
inductive Wk:Rh->Rh->Prop
 |nil:Wk [] []
 |no {s:Sl} {r r':Rh} (h:Wk r r'):Wk (.no::r) (s::r')
 |eq {s:Sl} {r r':Rh} (h:Wk r r'):Wk (s::r) (s::r')
theorem Wk.at:∀{r r':Rh} {i:Nat} {s:Sl},Wk r r'->r[i]?=some s->s= .no/\(∃t,r'[i]?=some t)\/r'[i]?=some s
 |_,_,_,_, .nil,e=>by simp at e
 |_,_,0,_, .no h,e=>by simp at e;subst e;exact .inl ⟨rfl,_,rfl⟩
 |_,_,0,_, .eq h,e=>by simp at e;subst e;exact .inr rfl
 |_,_,i+1,_, .no h,e=>by simpa using Wk.at (i:=i) h (by simpa using e)
 |_,_,i+1,_, .eq h,e=>by simpa using Wk.at (i:=i) h (by simpa using e)
theorem Wk.len{r r':Rh}(h:Wk r r'):r.length=r'.length:=by
 induction h with
 |nil=>rfl
 |no _ ih=>simp[ih]
 |eq _ ih=>simp[ih]
theorem Wd.wk{ρ':Rh}(W:Wd G nb ρ' σ H)(h:Wk ρ ρ'):Wd G nb ρ σ H where
 ay:=W.ay
 live:=W.live
 old:=W.old
 dJ:=W.dJ
 gA:=W.gA
 len:=by rw[h.len];exact W.len
 gB:=W.gB
 eU:=W.eU
 ok:=fun i s e=>by
  rcases h.at e with ⟨rfl,t,e'⟩|e'
  ·obtain⟨x,e1,_⟩:=W.ok i t e';exact⟨x,e1,trivial⟩
  ·exact W.ok i s e'
 apart:=fun i j a f as c g cs hij e1 e2=>by
  rcases h.at e1 with ⟨z,_⟩|lB
  ·cases z
  rcases h.at e2 with ⟨z,_⟩|e2'
  ·cases z
  exact W.apart i j a f as c g cs hij lB e2'
 fG:=fun i j a f as c g cs hij e1 e2=>by
  rcases h.at e1 with ⟨z,_⟩|lB
  ·cases z
  rcases h.at e2 with ⟨z,_⟩|e2'
  ·cases z
  exact W.fG i j a f as c g cs hij lB e2'
 dP:=fun i j c s hij e1 e2 a ha=>by
  rcases h.at e1 with ⟨z,_⟩|lB
  ·cases z
  rcases h.at e2 with ⟨z,_⟩|e2'
  ·subst z;exact fun z=>by cases z
  exact W.dP i j c s hij lB e2' a ha
theorem Wd.more(W:Wd G nb ρ σ H)(hp:H p=none){o:HO}:Wd G (fun a=>nb a\/a=p) ρ σ (upd H p o):=by
 have hS:cy H (upd H p o):=cH hp
 have hN:NB G.B p:=fun b l e z=>by
  subst z
  obtain⟨_,_,_,_,_,h1,_⟩:=W.ay _ _ e
  rw[h1] at hp;cases hp
 have W':=W.step (Step.same W.ay hS)
 have hA:∀f a,G.S (fun a=>nb a\/a=p) f a->(G.S nb f a\/a=p):=fun f a z=>by
  rcases z with (z|z)|z|z|z
  ·exact .inl (.inl z)
  ·exact .inr z
  ·exact .inl (.inr (.inl z))
  ·exact .inl (.inr (.inr (.inl z)))
  ·exact .inl (.inr (.inr (.inr z)))
 refine⟨W'.ay,fun a n=>?_,W'.old,fun a n q=>?_,W.gA,W.len,W.gB,fun h m=>(((W.eU h m).fresh hp).av (hA h.1)).keep (bz.of hS),fun i s e=>?_,W.apart,W.fG,W.dP⟩
 ·rcases n with n|n
  ·exact W'.live a n
  ·subst n;rw[aY];exact jA _
 ·rcases n with n|n
  ·exact W.dJ a n q
  ·subst n
   cases e:G.H0 a with
   |none=>rfl
   |some o=>rw[W.old a o q e] at hp;cases hp
 ·obtain⟨x,e1,h⟩:=W.ok i s e
  refine⟨x,e1,?_⟩
  cases s with
  |no=>trivial
  |d f d=>obtain⟨v,e,h⟩:=h;exact⟨v,e,((h.fresh hp).av (hA f)).keep (bz.of hS)⟩
  |own a f ds=>obtain⟨e,n,q,xs,hx,hd⟩:=h;exact⟨e, .inl n,q,xs,hS _ _ hx,((hd.fresh hp).av (hA f)).keep (bz.of hS)⟩
  |ay=>exact h
  |raw v=>exact h
  |bW a f ds=>obtain⟨e,n,q,xs,hx,hd⟩:=h;exact⟨e, .inl n,q,xs,hS _ _ hx,((hd.fresh hp).av (hA f)).keep (bz.of hS)⟩
  |cu c=>obtain⟨e,n,q⟩:=h;exact⟨e,fun a ha=>⟨.inl (n a ha).1,(n a ha).2⟩,c.keep (.of fun a o _ e=>hS a o e) (c.av (hA c.f) (c.fresh hp q))⟩
theorem Wd.write(W:Wd G nb ρ σ H){o:HO}(hp:nb p)(hN:NB G.B p)(ho:∀(i:Nat) a f ds,ρ[i]?=some (.own a f ds)->a≠p)(hod:∀(i:Nat) a f ds,ρ[i]?=some (.bW a f ds)->a≠p)(hoc:∀(i:Nat) c,ρ[i]?=some (.cu c)->p∉c.F):Wd G nb ρ σ (upd H p o):=by
  have hl:∀b l,G.B=some (b,l)->p≠l:=fun b l e z=>by
    obtain⟨_,_,_,_,_,_,h2,_⟩:=W.gB b l e
    rw[<-z,W.dJ p hp hN] at h2;cases h2
  have hB:jS G.B (upd H p o):=fun b l e=>(W.ay b l e).put2 ⟨hN b l e,hl b l e⟩
  have bt:∀f,bz (G.S nb f) H (upd H p o):=fun f=>bz.set (.inl hp)
  refine⟨hB,fun a n=>?_,fun a o' n e=>?_,W.dJ,W.gA,W.len,W.gB,fun h m=>(W.eU h m).keep (bt h.1),fun i s e=>?_,W.apart,W.fG,W.dP⟩
  · by_cases z:a=p
    · subst z;rw[aY];exact jA _
    · rw[aB z];exact W.live a n
  · have z:a≠p:=fun z=>by subst z;rw[W.dJ a hp n] at e;cases e
    rw[aB z];exact W.old a o' n e
  · obtain⟨x,e1,h⟩:=W.ok i s e
    refine⟨x,e1,?_⟩
    cases s with
    |no=>trivial
    |d f d=>obtain⟨v,e,h⟩:=h;exact⟨v,e,h.keep (bt f)⟩
    |own a f ds=>obtain⟨e',n,q,xs,hx,hd⟩:=h;exact⟨e',n,q,xs,by rw[aB (ho i a f ds e)];exact hx,hd.keep (bt f)⟩
    |ay=>exact h
    |raw v=>exact h
    |bW a f ds=>obtain⟨e',n,q,xs,hx,hd⟩:=h;exact⟨e',n,q,xs,by rw[aB (hod i a f ds e)];exact hx,hd.keep (bt f)⟩
    | cu c =>
      obtain⟨e',n,q⟩:=h
      refine⟨e',n,c.keep (.of fun a o' ha e''=>?_) q⟩
      rw[aB]
      · exact e''
      · rintro rfl
        rcases ha with ha|ha
        · exact ha (.inl hp)
        · exact hoc i c e ha
end
end L2
set_option maxRecDepth 100000
set_option maxHeartbeats 1000000
namespace L2
open PySem PySem.Spec PyProof.Rows
abbrev Pd:=Bool->PyData->Prop
def Ev(G:Gx)(ρ:Rh)(te:TE)(Φ:Pd):Prop:=∀nb σ H (Q:VK),Wd G nb ρ σ H->(∀f v H' d,Φ f d->Step G.B H H'->ai (G.S nb f) H' d v->Q v H')->te σ H Q
def aD(G:Gx)(ρ:Rh)(te:TE)(Φ:Bool->List PyData->Prop):Prop:=∀nb σ H (Q:VK),Wd G nb ρ σ H->
 (∀f a xs H' ds,Φ f ds->Step G.B H H'->H a=none->H' a=some (.lst xs)->af (fun x=>G.S nb f x\/x=a) H' ds xs->Q (.ref a) H')->te σ H Q
def Tv(G:Gx)(ρ:Rh)(tt:TT)(Φ:Bool->Prop):Prop:=∀nb σ H (Q:Bool->Hp->Prop),Wd G nb ρ σ H->(∀b H',Φ b->Step G.B H H'->Q b H')->tt σ H Q
def Ov(G:Gx)(ρ:Rh)(to:TO)(Φ:Option Int->Prop):Prop:=∀nb σ H (Q:Option Int->Hp->Prop),Wd G nb ρ σ H->(∀o H',Φ o->Step G.B H H'->Q o H')->to σ H Q
abbrev Fd:=Bool×PyData
def kH(G:Gx)(nb:Addr->Prop)(H:Hp):List Fd->List V->Prop
 |[],vs=>vs=[]
 |e::es,vs=>∃v ws,vs=v::ws/\ai (G.S nb e.1) H e.2 v/\kH G nb H es ws
def Av(G:Gx)(ρ:Rh)(ta:TA)(Φ:List Fd->Prop):Prop:=∀nb σ H (Q:List V->Hp->Prop),Wd G nb ρ σ H->(∀es vs H',Φ es->Step G.B H H'->kH G nb H' es vs->Q vs H')->ta σ H Q
def Gv(G:Gx)(ρ:Rh)(g:TG)(f:Bool)(d:PyData)(Φ:Rh->Prop):Prop:=∀nb σ H v (Q:St->Hp->Prop),Wd G nb ρ σ H->ai (G.S nb f) H d v->(∀σ' ρ',Φ ρ'->Wd G nb ρ' σ' H->Q σ' H)->g v σ H Q
def sN(G:Gx)(ρ:Rh)(g:iH)(f:Bool)(ds:List PyData)(Φ:Rh->Prop):Prop:=∀nb σ H vs (Q:St->Hp->Prop),Wd G nb ρ σ H->af (G.S nb f) H ds vs->(∀σ' ρ',Φ ρ'->Wd G nb ρ' σ' H->Q σ' H)->g vs σ H Q
structure DE where
 nx:Rh->Prop
 rt:Pd
 bk:Rh->Prop:=fun _=>False
 ct:Rh->Prop:=fun _=>False
 rw:(Addr->Prop)->Rh->V->Hp->Prop:=fun _ _ _ _=>False
structure Be(G:Gx)(E:DE)(D:Ends):Prop where
 nx:∀nb ρ σ H,E.nx ρ->Wd G nb ρ σ H->D.nx σ H
 bk:∀nb ρ σ H,E.bk ρ->Wd G nb ρ σ H->D.bk σ H
 ct:∀nb ρ σ H,E.ct ρ->Wd G nb ρ σ H->D.ct σ H
 rt:∀nb ρ σ f v H d,E.rt f d->Wd G nb ρ σ H->ai (G.S (fun _=>False) f) H d v->D.rt v H
 rw:∀nb ρ σ v H,E.rw nb ρ v H->Wd G nb ρ σ H->D.rt v H
def Sv(G:Gx)(ρ:Rh)(ts:TS)(E:DE):Prop:=∀nb σ H D,Wd G nb ρ σ H->Be G E D->ts D σ H
def iB:PyData->Bool
 | .none=>true| .bool _=>true| .int _=>true| .str _=>true|_=>false
def toV:PyData->V
 | .bool b=> .bl b| .int i=> .int i| .str x=> .str x|_=> .aL
section
variable{nb bB:Addr->Prop}{H H':Hp}{d e:PyData}{v:V}
theorem ai.sc(h:iB d=true):ai nb H d (toV d):=by
 cases d<;>first|(cases h;done)|(unfold ai;rfl)
theorem ai.VS(h:iB d=true)(q:ai nb H d v):v=toV d:=by
 cases d<;>first|(cases h;done)|(unfold ai at q;exact q)
theorem ai.ia(h:iB d=true)(q:ai nb H d v):ai bB H' d v:=by
 rw[q.VS h];exact .sc h
theorem af.ia:∀{ds:List PyData} {xs:List V},ds.all iB=true->af nb H ds xs->af bB H' ds xs
  |[],_,_,q=>by unfold af at q⊢;exact q
  | d :: ds, _, h, q => by
    rw[qD,fK] at h
    unfold af at q⊢
    obtain⟨y,ys,e,h1,h2⟩:=q
    exact⟨y,ys,e,h1.ia h.1,af.ia h.2 h2⟩
end
section
variable{G:Gx}{ρ:Rh}{Φ Ψ:Pd}{ta tb te:TE}{t:TA}{i:Nat}{f g:Bool}{d e:PyData}{ds es:List PyData}{K:PySem.W.Frag}
theorem Ev.mono(h:Ev G ρ te Ψ)(q:∀f d,Ψ f d->Φ f d):Ev G ρ te Φ:=fun nb σ H Q W z=>h nb σ H Q W fun f v H' d p=>z f v H' d (q f d p)
theorem aD.ev(h:aD G ρ te fun f ds=>Φ f (.list ds)):Ev G ρ te Φ:=fun nb σ H Q W z=>h nb σ H Q W fun f a xs H' ds p st n e hd=>
 z f _ H' _ p st (.lst (W.fresh n) e (hd.av fun _ x=> .inl x))
namespace Ev
theorem var(e:ρ[i]?=some (.d f d))(h:Φ f d):Ev G ρ (dG i) Φ:=fun nb σ H Q W z=>by
 obtain⟨x,e1,v,rfl,hd⟩:=W.ok i _ e
 exact⟨v,e1,z f v H d h (.refl W.ay) hd⟩
theorem int{n:Int}(h:Φ true (.int n)):Ev G ρ (tC (.int n)) Φ:=fun nb σ H Q W z=>z true _ H _ h (.refl W.ay) (.int n)
theorem bl{b:Bool}(h:Φ true (.bool b)):Ev G ρ (tC (.bl b)) Φ:=fun nb σ H Q W z=>z true _ H _ h (.refl W.ay) (.bl b)
theorem aL(h:Φ true .none):Ev G ρ (tC .aL) Φ:=fun nb σ H Q W z=>z true _ H _ h (.refl W.ay) .aL
theorem jw{r:R2}(h:Ev G ρ ta fun f x=>Ev G ρ tb fun g y=>∀nb σ H u v (Q:VK),Wd G nb ρ σ H->ai (G.S nb f) H x u->ai (G.S nb g) H y v->(∀f w H' d,Φ f d->Step G.B H H'->ai (G.S nb f) H' d w->Q w H')->r u v H Q):Ev G ρ (cK r ta tb) Φ:=fun nb σ H Q W z=>
 h nb σ H _ W fun f v1 H1 d1 p1 s1 q1=>p1 nb σ H1 _ (W.step s1) fun g v2 H2 d2 p2 s2 q2=>p2 nb σ H2 _ _ _ ((W.step s1).step s2) (q1.keep s2.cN) q2 fun f w H' d p st q=>z f w H' d p (s1.trans (s2.trans st)) q
theorem rI{C:Int->Int->Prop}{k:Int->Int->Int}(h:Ev G ρ ta fun _ x=>∃i,x= .int i/\Ev G ρ tb fun _ y=>∃j,y= .int j/\C i j/\Φ true (.int (k i j))):Ev G ρ (cK (L2.rI C fun i j=> .int (k i j)) ta tb) Φ:=
 jw (h.mono fun f x ⟨i,ex,q⟩=>q.mono fun g y ⟨j,ey,hc,p⟩ nb σ H u v Q W hu hv z=>by
  subst ex ey;exact⟨i,j,hu.bZ,hv.bZ,hc,z true _ H _ p (.refl W.ay) (.int _)⟩)
theorem je{k:Int->Int->Int}(h:Ev G ρ ta fun _ x=>∃i,x= .int i/\Ev G ρ tb fun _ y=>∃j,y= .int j/\Φ true (.int (k i j))):Ev G ρ (cK (L2.je fun i j=> .int (k i j)) ta tb) Φ:=
 jw (h.mono fun f x ⟨i,ex,q⟩=>q.mono fun g y ⟨j,ey,p⟩ nb σ H u v Q W hu hv z=>by
  subst ex ey;exact⟨i,j,hu.bZ,hv.bZ,z true _ H _ p (.refl W.ay) (.int _)⟩)
theorem Wy{k:Int->Int->Bool}(h:Ev G ρ ta fun _ x=>∃i,x= .int i/\Ev G ρ tb fun _ y=>∃j,y= .int j/\Φ true (.bool (k i j))):Ev G ρ (cK (L2.je fun i j=> .bl (k i j)) ta tb) Φ:=
 jw (h.mono fun f x ⟨i,ex,q⟩=>q.mono fun g y ⟨j,ey,p⟩ nb σ H u v Q W hu hv z=>by
  subst ex ey;exact⟨i,j,hu.bZ,hv.bZ,z true _ H _ p (.refl W.ay) (.bl _)⟩)
theorem un{r:V->Hp->VK->Prop}(h:Ev G ρ ta fun f x=>∀nb σ H u (Q:VK),Wd G nb ρ σ H->ai (G.S nb f) H x u->(∀f w H' d,Φ f d->Step G.B H H'->ai (G.S nb f) H' d w->Q w H')->r u H Q):Ev G ρ (C8 r ta) Φ:=fun nb σ H Q W z=>
 h nb σ H _ W fun f v1 H1 d1 p1 s1 q1=>p1 nb σ H1 _ _ (W.step s1) q1 fun f w H' d p st q=>z f w H' d p (s1.trans st) q
theorem rU{k:Int->Int}(h:Ev G ρ ta fun _ x=>∃i,x= .int i/\Φ true (.int (k i))):Ev G ρ (C8 (L2.rU fun i=> .int (k i)) ta) Φ:=
 un (h.mono fun f x ⟨i,ex,p⟩ nb σ H u Q W hu z=>by subst ex;exact⟨i,hu.bZ,z true _ H _ p (.refl W.ay) (.int _)⟩)
end Ev
inductive jf:PyData->PyData->Bool->Prop
 |ii (i j:Int):jf (.int i) (.int j) (decide (i=j))
 |ni (i:Int):jf .none (.int i) false
 |YO (i:Int):jf (.int i) .none false
 |nn:jf .none .none true
 |bb (a b:Bool):jf (.bool a) (.bool b) (a==b)
 |ss (x:Str):jf (.str x) (.str x) true
 |sd (x y:Str):jf (.str x) (.str y) (decide (x=y))
theorem jf.v{nb bB:Addr->Prop}{H:Hp}{x y:PyData}{b:Bool}{u v:V}(h:jf x y b)(hu:ai nb H x u)(hv:ai bB H y v):zU u v=true/\decide (u=v)=b:=by
 cases h<;>(unfold ai at hu hv;subst hu hv;refine⟨rfl,?_⟩)
 ·exact R.BB
 ·rfl
 ·rfl
 ·rfl
 ·rename_i a b;cases a<;>cases b<;>rfl
 ·exact decide_eq_true rfl
 ·rename_i x y
  by_cases c:x=y
  ·subst c;rw[decide_eq_true rfl,decide_eq_true rfl]
  ·rw[decide_eq_false c,decide_eq_false (fun z=>c (V.str.inj z))]
namespace Ev
theorem eq(h:Ev G ρ ta fun _ x=>Ev G ρ tb fun _ y=>∃b,jf x y b/\Φ true (.bool b)):Ev G ρ (cK BP ta tb) Φ:=
 jw (h.mono fun f x q=>q.mono fun g y ⟨b,e,p⟩ nb σ H u v Q W hu hv z=>by
  obtain⟨h1,h2⟩:=e.v hu hv
  exact⟨h1,by rw[h2];exact z true _ H _ p (.refl W.ay) (.bl _)⟩)
theorem ne(h:Ev G ρ ta fun _ x=>Ev G ρ tb fun _ y=>∃b,jf x y b/\Φ true (.bool !b)):Ev G ρ (cK Ak ta tb) Φ:=
 jw (h.mono fun f x q=>q.mono fun g y ⟨b,e,p⟩ nb σ H u v Q W hu hv z=>by
  obtain⟨h1,h2⟩:=e.v hu hv
  exact⟨h1,by rw[h2];exact z true _ H _ p (.refl W.ay) (.bl _)⟩)
theorem Nc{ng:Bool}(h:Ev G ρ ta fun _ x=>Ev G ρ tb fun _ y=>SeqAt.shaped x=true/\SeqAt.shaped y=true/\Φ true (.bool (PyData.eqv x y !=ng))):Ev G ρ (cK (B6 ng) ta tb) Φ:=
 jw (h.mono fun f x q=>q.mono fun g y ⟨h1,h2,p⟩ nb σ H u v Q W hu hv z=>
  ⟨G.S nb false,x,y,hu.av (cT (fun z=>by cases z) fun _ z=>z),hv.av (cT (fun z=>by cases z) fun _ z=>z),h1,h2,z true _ H _ p (.refl W.ay) (.bl _)⟩)
end Ev
def vA:PyData->Bool
 | .none=>true
 |_=>false
theorem II{nb:Addr->Prop}{H:Hp}{d:PyData}{v:V}(h:ai nb H d v):decide (v= .aL)=vA d:=by
 cases d<;>unfold ai at h
 all_goals first
  |(subst h;rfl)
  |(obtain⟨a,xs,rfl,_⟩:=h;rfl)
  |exact h.elim
namespace Ev
theorem is(h:Ev G ρ ta fun _ x=>Φ true (.bool (vA x))):Ev G ρ (cK IT ta (tC .aL)) Φ:=
 jw (h.mono fun f x p=>Ev.aL fun nb σ H u v Q W hu hv z=>⟨hv.wG,by rw[II hu];exact z true _ H _ p (.refl W.ay) (.bl _)⟩)
theorem WH(h:Ev G ρ ta fun _ x=>Φ true (.bool !vA x)):Ev G ρ (cK vq ta (tC .aL)) Φ:=
 jw (h.mono fun f x p=>Ev.aL fun nb σ H u v Q W hu hv z=>⟨hv.wG,by rw[II hu];exact z true _ H _ p (.refl W.ay) (.bl _)⟩)
end Ev
theorem af.bH{nb:Addr->Prop}{H:Hp}{ds:List PyData}{xs:List V}{k:Int}{e:PyData}(h:af nb H ds xs)(q:L2.bH ds k=some e):∃v,L2.bH xs k=some v/\ai nb H e v:=by
 unfold L2.bH at q⊢
 rw[h.length]
 cases z:dM ds.length k with
 |none=>rw[z] at q;cases q
 |some j=>rw[z] at q;exact h.get q
namespace Ev
theorem MH(h:Ev G ρ ta fun f x=>∃ds,x= .list ds/\Ev G ρ tb fun _ y=>∃k,y= .int k/\∃e,bH ds k=some e/\Φ f e):Ev G ρ (cK (bX K) ta tb) Φ:=
 jw (h.mono fun f x ⟨ds,ex,q⟩=>q.mono fun g y ⟨k,ey,e,he,p⟩ nb σ H u v Q W hu hv z=>by
  subst ex ey
  obtain⟨a,xs,rfl,n,hx,hd⟩:=hu.cQ
  obtain⟨w,hw,hD⟩:=hd.bH he
  exact⟨a,xs,k,w,rfl,hv.bZ, .of hx,hw,z f _ H _ p (.refl W.ay) hD⟩)
theorem UY(h:Ev G ρ ta fun f x=>∃ds,x= .tuple ds/\Ev G ρ tb fun _ y=>∃k,y= .int k/\∃e,bH ds k=some e/\Φ f e):Ev G ρ (cK (bK K) ta tb) Φ:=
 jw (h.mono fun f x ⟨ds,ex,q⟩=>q.mono fun g y ⟨k,ey,e,he,p⟩ nb σ H u v Q W hu hv z=>by
  subst ex ey
  obtain⟨a,xs,rfl,n,hx,hd⟩:=hu.ofT
  obtain⟨w,hw,hD⟩:=hd.bH he
  exact⟨a,xs,k,w,rfl,hv.bZ, .of hx,hw,z f _ H _ p (.refl W.ay) hD⟩)
theorem Vh{a:Addr}(e:ρ[i]?=some (.own a f ds))(h:Ev G ρ tb fun _ y=>∃k,y= .int k/\∃e,bH ds k=some e/\Φ f e):Ev G ρ (cK (bX K) (dG i) tb) Φ:=fun nb σ H Q W z=>by
 obtain⟨x,e1,h1,h2,h3,xs,hx,hd⟩:=W.ok i _ e
 subst h1
 refine⟨.ref a,e1,h nb σ H _ W fun g w H1 y ⟨k,ey,e',he,p⟩ s1 hv=>?_⟩
 subst ey
 obtain⟨u,hu,hD⟩:=(hd.keep s1.cN).bH he
 exact⟨a,xs,k,u,rfl,hv.bZ, .of (s1.1 _ _ h3 hx),hu,z f _ H1 _ p s1 hD⟩
theorem BE(h:Ev G ρ ta fun _ x=>∃b,x= .bool b/\if b=true then Ev G ρ tb Φ else Φ true (.bool false)):Ev G ρ (Dz ta tb) Φ:=fun nb σ H Q W z=>
 h nb σ H _ W fun f v H1 d ⟨b,e,q⟩ s1 hv=>by
  subst e
  refine⟨b,by unfold ai at hv;exact hv,?_⟩
  cases b with
  |true=>rw[if_pos rfl] at q⊢;exact q nb σ H1 _ (W.step s1) fun f v H' d p st=>z f v H' d p (s1.trans st)
  |false=>rw[if_neg dH] at q⊢;exact z true _ H1 _ q s1 (.bl false)
theorem Qz(h:Ev G ρ ta fun _ x=>∃b,x= .bool b/\if b=true then Φ true (.bool true) else Ev G ρ tb Φ):Ev G ρ (Jg ta tb) Φ:=fun nb σ H Q W z=>
 h nb σ H _ W fun f v H1 d ⟨b,e,q⟩ s1 hv=>by
  subst e
  refine⟨b,by unfold ai at hv;exact hv,?_⟩
  cases b with
  |false=>rw[if_neg dH] at q⊢;exact q nb σ H1 _ (W.step s1) fun f v H' d p st=>z f v H' d p (s1.trans st)
  |true=>rw[if_pos rfl] at q⊢;exact z true _ H1 _ q s1 (.bl true)
theorem Kf{c:TT}(h:Tv G ρ c fun b=>if b=true then Ev G ρ ta Φ else Ev G ρ tb Φ):Ev G ρ (Ld c ta tb) Φ:=fun nb σ H Q W z=>
 h nb σ H _ W fun b H1 q s1=>by
  cases b with
  |true=>rw[if_pos rfl] at q⊢;exact q nb σ H1 _ (W.step s1) fun f v H' d p st=>z f v H' d p (s1.trans st)
  |false=>rw[if_neg dH] at q⊢;exact q nb σ H1 _ (W.step s1) fun f v H' d p st=>z f v H' d p (s1.trans st)
end Ev
namespace Tv
variable{Θ:Bool->Prop}{t u:TT}
theorem test(h:Ev G ρ te fun _ x=>∃b,x= .bool b/\Θ b):Tv G ρ (Dd te) Θ:=fun nb σ H Q W z=>
 h nb σ H _ W fun f v H1 d ⟨b,e,q⟩ s1 hv=>by subst e;exact⟨b,by unfold ai at hv;exact hv,z b H1 q s1⟩
theorem and(h:Tv G ρ t fun b=>if b=true then Tv G ρ u Θ else Θ false):Tv G ρ (Cz t u) Θ:=fun nb σ H Q W z=>
 h nb σ H _ W fun b H1 q s1=>by
  cases b with
  |true=>rw[if_pos rfl] at q⊢;exact q nb σ H1 _ (W.step s1) fun b H' p st=>z b H' p (s1.trans st)
  |false=>rw[if_neg dH] at q⊢;exact z false H1 q s1
theorem or(h:Tv G ρ t fun b=>if b=true then Θ true else Tv G ρ u Θ):Tv G ρ (GV t u) Θ:=fun nb σ H Q W z=>
 h nb σ H _ W fun b H1 q s1=>by
  cases b with
  |false=>rw[if_neg dH] at q⊢;exact q nb σ H1 _ (W.step s1) fun b H' p st=>z b H' p (s1.trans st)
  |true=>rw[if_pos rfl] at q⊢;exact z true H1 q s1
theorem not(h:Tv G ρ t fun b=>Θ (!b)):Tv G ρ (KH t) Θ:=fun nb σ H Q W z=>h nb σ H _ W fun b H1 q s1=>z _ H1 q s1
theorem xA(h:Θ true):Tv G ρ xh Θ:=fun nb σ H Q W z=>z true H h (.refl W.ay)
end Tv
def Ic(K:PySem.W.Frag)(ta:TE):TT:=fun σ H Q=>ta σ H fun x H1=>∃k,yM K x H1 k/\Q k H1
theorem Tv.NW{Θ:Bool->Prop}(h:Ev G ρ te fun _ x=>∃b,x= .bool b/\Θ b):Tv G ρ (Ic K te) Θ:=fun nb σ H Q W z=>
 h nb σ H _ W fun f v H1 d ⟨b,e,q⟩ s1 hv=>by subst e;exact⟨b,by unfold ai at hv;subst hv;rfl,z b H1 q s1⟩
namespace Av
variable{Θ:List Fd->Prop}
theorem nil(h:Θ []):Av G ρ cL Θ:=fun nb σ H Q W z=>z [] [] H h (.refl W.ay) rfl
theorem cons(h:Ev G ρ te fun f d=>Av G ρ t fun es=>Θ ((f,d)::es)):Av G ρ (cA te t) Θ:=fun nb σ H Q W z=>
 h nb σ H _ W fun f v H1 d p1 s1 q1=>p1 nb σ H1 _ (W.step s1) fun es vs H2 p2 s2 q2=>z _ _ H2 p2 (s1.trans s2) ⟨v,vs,rfl,q1.keep s2.cN,q2⟩
theorem Mx{is:List Int}(h:Θ (is.map fun i=>(true, .int i))):Av G ρ (wD is) Θ:=fun nb σ H Q W z=>z _ _ H h (.refl W.ay) (by
 clear h
 induction is with
 |nil=>rfl
 |cons i r ih=>exact⟨_,_,rfl, .int i,ih⟩)
end Av
def jr(es:List Fd):Bool:=es.all (·.1)
theorem kH.all{nb:Addr->Prop}{H:Hp}:∀{es:List Fd} {vs:List V} {f:Bool},kH G nb H es vs->(f=true->jr es=true)->af (G.S nb f) H (es.map (·.2)) vs
  |[],_,_,h,_=>by unfold kH at h;subst h;exact .nil
  | e :: es, _, f, h, hf => by
    obtain⟨v,ws,rfl,h1,h2⟩:=h
    refine .cons (h1.av (cT (fun z=>?_) fun _ z=>z)) (h2.all fun z=>?_)
    · have:=hf z;simp only[jr,qD,fK] at this;exact this.1
    · have:=hf z;simp only[jr,qD,fK] at this;exact this.2
theorem kH.len{nb:Addr->Prop}{H:Hp}{es:List Fd}{vs:List V}(h:kH G nb H es vs):vs.length=es.length:=by
 have:=(h.all (f:=false) (fun z=>by cases z)).length
 simpa using this
namespace Ev
theorem tup(h:Av G ρ t fun es=>es.length<=10000/\Φ (jr es) (.tuple (es.map (·.2)))):Ev G ρ (pZ t) Φ:=fun nb σ H Q W z=>
 h nb σ H _ W fun es vs H1 ⟨hl,p⟩ s1 q1=>⟨cX (by rw[q1.len];exact hl) (by decide),fun a ha=>z _ _ _ _ p (s1.trans (.same (W.step s1).ay (cH ha)))
  (.tup ((W.step s1).fresh ha) aY ((q1.all fun z=>z).keep (bz.of (cH ha))))⟩
end Ev
theorem aD.lst{Φ:Bool->List PyData->Prop}(h:Av G ρ t fun es=>es.length<=10000/\Φ (jr es) (es.map (·.2))):aD G ρ (oN t) Φ:=fun nb σ H Q W z=>
  h nb σ H _ W fun es vs H1 ⟨hl,p⟩ s1 q1=>⟨cX (by rw[q1.len];exact hl) (by decide),fun a ha=>by
    have W1:=W.step s1
    refine z _ a vs _ _ p (s1.trans (.same W1.ay (cH ha))) ?_ aY (((q1.all fun z=>z).fresh ha).keep (bz.of (cH ha)))
    cases e:H a with
    |none=>rfl
    | some o =>
      by_cases n:NB G.B a
      · rw[s1.1 a o n e] at ha;cases ha
      · exact absurd ha (NB.lZ s1.2 n)⟩
theorem Ev.lst(h:Av G ρ t fun es=>es.length<=10000/\Φ (jr es) (.list (es.map (·.2)))):Ev G ρ (oN t) Φ:=(aD.lst (Φ:=fun f ds=>Φ f (.list ds)) h).ev
end
end L2
set_option maxRecDepth 100000
set_option maxHeartbeats 1000000
namespace L2
open PySem PySem.Spec PyProof.Rows
def gc(K:PySem.W.Frag):List V->Hp->VK->Prop:=fun xs H Q=>∃p ys,xs=[.ref p]/\(aS K H p ys\/gE K H p ys)/\Q (.int ys.length) H
theorem iF{X:Cx}:gR X (.builtin "len") (gc X.K):=EV
def JE:List V->Hp->VK->Prop:=fun xs H Q=>∃i j,xs=[.int i, .int j]/\Q (.int (if j<i then j else i)) H
def Gq:List V->Hp->VK->Prop:=fun xs H Q=>(∃i,xs=[.int i]/\Q (.int i) H)\/∃k,xs=[.bl k]/\Q (.int (if k then 1 else 0)) H
theorem L1{X:Cx}(hc:X.calm=true):gR X (.builtin "min") JE:=W8 hc
theorem U8{X:Cx}:gR X (.type "int") Gq:=Rg
def gz{α:Type}(xs:List α)(lo hi:Option Int):List α:=(xs.drop (HT.eB xs.length 0 lo)).take (HT.eB xs.length xs.length hi-HT.eB xs.length 0 lo)
theorem af.cut{nb:Addr->Prop}{H:Hp}{ds:List PyData}{xs:List V}{lo hi:Option Int}(h:af nb H ds xs):af nb H (gz ds lo hi) (lJ xs lo hi):=by
 unfold gz lJ
 rw[h.length]
 exact(h.drop _).take _
def cV(ds:List PyData):Bool:=ds.all iB
section
variable{G:Gx}{ρ:Rh}{Φ Ψ:Pd}{ta tb te:TE}{t:TA}{i:Nat}{f g:Bool}{d e:PyData}{ds es:List PyData}{K:PySem.W.Frag}
theorem Wd.none_of{nb:Addr->Prop}{σ:St}{H H1:Hp}{a:Addr}(W:Wd G nb ρ σ H)(s1:Step G.B H H1)(ha:H1 a=none):H a=none:=by
  cases e:H a with
  |none=>rfl
  | some o =>
    by_cases n:NB G.B a
    · rw[s1.1 a o n e] at ha;cases ha
    · exact absurd ha (NB.lZ s1.2 n)
theorem aD.fin{nb:Addr->Prop}{σ:St}{H H1:Hp}{Q:VK}{Φ:Bool->List PyData->Prop}{a:Addr}{xs:List V}(W:Wd G nb ρ σ H)(s1:Step G.B H H1)(ha:H1 a=none)(hd:af (G.S nb f) H1 ds xs)(p:Φ (f||cV ds) ds)
  (z:∀f a xs H' ds,Φ f ds->Step G.B H H'->H a=none->H' a=some (.lst xs)->af (fun x=>G.S nb f x\/x=a) H' ds xs->Q (.ref a) H'):Q (.ref a) (upd H1 a (.lst xs)):=by
 refine z _ a xs _ ds p (s1.trans (.same s1.2 (cH ha))) (W.none_of s1 ha) aY ?_
 cases hs:cV ds with
 |true=>exact af.ia hs hd
 |false=>rw[sj];exact(hd.fresh ha).keep (bz.of (cH ha))
namespace Ov
variable{Θ:Option Int->Prop}
theorem none(h:Θ none):Ov G ρ yP Θ:=fun nb σ H Q W z=>z _ H h (.refl W.ay)
theorem some(h:Ev G ρ te fun _ x=>∃k,x= .int k/\Θ (some k)):Ov G ρ (DC te) Θ:=fun nb σ H Q W z=>
 h nb σ H _ W fun f v H1 d ⟨k,e,q⟩ s1 hv=>by subst e;exact⟨k,hv.bZ,z _ H1 q s1⟩
end Ov
namespace aD
variable{Θ:Bool->List PyData->Prop}
theorem sl{tl th:TO}(h:Ev G ρ te fun f x=>∃ds,x= .list ds/\Ov G ρ tl fun lo=>Ov G ρ th fun hi=>Θ (f||cV (gz ds lo hi)) (gz ds lo hi)):aD G ρ (tF (kM K) te tl th) Θ:=fun nb σ H Q W z=>
 h nb σ H _ W fun f v H1 d ⟨ds,e,q⟩ s1 hv=>q nb σ H1 _ (W.step s1) fun lo H2 q2 s2=>q2 nb σ H2 _ ((W.step s1).step s2) fun hi H3 q3 s3=>by
  subst e
  obtain⟨a,xs,rfl,n,hx,hd⟩:=((hv.keep s2.cN).keep s3.cN).cQ
  exact⟨a,xs,rfl, .of hx,fun p hp=>aD.fin W (s1.trans (s2.trans s3)) hp hd.cut q3 z⟩
theorem listOf(h:Ev G ρ te fun f x=>∃ds,(x= .list ds\/x= .tuple ds)/\Θ (f||cV ds) ds):aD G ρ (gC (pV K) (cA te cL)) Θ:=fun nb σ H Q W z=>
 h nb σ H _ W fun f v H1 d ⟨ds,e,q⟩ s1 hv=>by
  rcases e with e|e
  ·subst e
   obtain⟨a,xs,rfl,n,hx,hd⟩:=hv.cQ
   exact⟨a,xs,rfl, .inl (.of hx),fun p hp=>aD.fin W s1 hp hd q z⟩
  ·subst e
   obtain⟨a,xs,rfl,n,hx,hd⟩:=hv.ofT
   exact⟨a,xs,rfl, .inr (.of hx),fun p hp=>aD.fin W s1 hp hd q z⟩
theorem cat(h:Ev G ρ ta fun f x=>∃ds,x= .list ds/\Ev G ρ tb fun g y=>∃es,y= .list es/\ds.length+es.length<=10000/\Θ ((f && g)||cV (ds++es)) (ds++es)):aD G ρ (cK D8 ta tb) Θ:=fun nb σ H Q W z=>
 h nb σ H _ W fun f v H1 d ⟨ds,e,q⟩ s1 hv=>q nb σ H1 _ (W.step s1) fun g u H2 d2 ⟨es,e2,hl,p⟩ s2 hu=>by
  subst e e2
  obtain⟨a,xs,rfl,n,hx,hd⟩:=(hv.keep s2.cN).cQ
  obtain⟨c,ys,rfl,m,hy,hc⟩:=hu.cQ
  refine⟨a,c,xs,ys,rfl,rfl,hx,hy,cX (by rw[hd.length,hc.length];exact hl) (by decide),fun p' hp=>aD.fin (f:=f && g) W (s1.trans s2) hp ?_ p z⟩
  exact af.append (hd.av (cT (fun z=>(fK _ _▸z).1) fun _ z=>z)) (hc.av (cT (fun z=>(fK _ _▸z).2) fun _ z=>z))
end aD
namespace Ev
theorem sl{tl th:TO}(h:Ev G ρ te fun f x=>∃ds,x= .list ds/\Ov G ρ tl fun lo=>Ov G ρ th fun hi=>Φ (f||cV (gz ds lo hi)) (.list (gz ds lo hi))):Ev G ρ (tF (kM K) te tl th) Φ:=(aD.sl (Θ:=fun f ds=>Φ f (.list ds)) h).ev
theorem listOf(h:Ev G ρ te fun f x=>∃ds,(x= .list ds\/x= .tuple ds)/\Φ (f||cV ds) (.list ds)):Ev G ρ (gC (pV K) (cA te cL)) Φ:=(aD.listOf (Θ:=fun f ds=>Φ f (.list ds)) h).ev
theorem cat(h:Ev G ρ ta fun f x=>∃ds,x= .list ds/\Ev G ρ tb fun g y=>∃es,y= .list es/\ds.length+es.length<=10000/\Φ ((f && g)||cV (ds++es)) (.list (ds++es))):Ev G ρ (cK D8 ta tb) Φ:=(aD.cat (Θ:=fun f ds=>Φ f (.list ds)) h).ev
theorem LS(h:Ev G ρ te fun _ x=>∃ds,x= .list ds/\Φ true (.int ds.length)):Ev G ρ (gC (gc K) (cA te cL)) Φ:=fun nb σ H Q W z=>
 h nb σ H _ W fun f v H1 d ⟨ds,e,q⟩ s1 hv=>by
  subst e
  obtain⟨a,xs,rfl,n,hx,hd⟩:=hv.cQ
  exact⟨a,xs,rfl, .inl (.of hx),by rw[hd.length];exact z true _ H1 _ q s1 (.int _)⟩
theorem WT{a:Addr}(e:ρ[i]?=some (.own a f ds))(h:Φ true (.int ds.length)):Ev G ρ (gC (gc K) (cA (dG i) cL)) Φ:=fun nb σ H Q W z=>by
 obtain⟨x,e1,h1,h2,h3,xs,hx,hd⟩:=W.ok i _ e
 subst h1
 exact⟨.ref a,e1,a,xs,rfl, .inl (.of hx),by rw[hd.length];exact z true _ H _ h (.refl W.ay) (.int _)⟩
theorem min2(h:Ev G ρ ta fun _ x=>∃i,x= .int i/\Ev G ρ tb fun _ y=>∃j,y= .int j/\Φ true (.int (if j<i then j else i))):Ev G ρ (gC JE (cA ta (cA tb cL))) Φ:=fun nb σ H Q W z=>
 h nb σ H _ W fun f v H1 d ⟨i,e,q⟩ s1 hv=>q nb σ H1 _ (W.step s1) fun g u H2 d2 ⟨j,e2,p⟩ s2 hu=>by
  subst e e2
  exact⟨i,j,by rw[hv.bZ,hu.bZ],z true _ H2 _ p (s1.trans s2) (.int _)⟩
theorem EK(h:Ev G ρ ta fun _ x=>∃b,x= .bool b/\Φ true (.int (if b then 1 else 0))):Ev G ρ (gC Gq (cA ta cL)) Φ:=fun nb σ H Q W z=>
 h nb σ H _ W fun f v H1 d ⟨b,e,q⟩ s1 hv=>by subst e;unfold ai at hv;subst hv;exact .inr ⟨b,rfl,z true _ H1 _ q s1 (.int _)⟩
end Ev
abbrev DF:=List PyData->Pd->Prop
def bI(n:Nat)(F:DF):Sp:=fun vs H Q _=>vs.length=n/\∃(nb:Addr->Prop) (ds:List PyData),ir nb H/\af nb H ds vs/\F ds fun f d=>∀v H',cy H H'->ai (fun a=>nb a\/(f=true/\H a≠none)) H' d v->Q v H'
def iK(n:Nat)(F:DF):Sp:=fun vs H Q _=>vs.length=n/\∃(b l:Addr) (ws:List V) (nb:Addr->Prop) (ds:List PyData),vs= .ref b::ws/\dz H b l/\ir nb H/\nb b/\af nb H ds ws/\
 F ds fun f d=>∀v H',bz (Nb b) H H'->dz H' b l->ai (fun a=>nb a\/(f=true/\H a≠none)) H' d v->Q v H'
def dQ(F:DF):Prop:=∀ds (Φ Ψ:Pd),F ds Φ->(∀f d,Φ f d->Ψ f d)->F ds Ψ
theorem Ev.dB{n:Nat}{F:DF}(hm:dQ F)(h:Av G ρ t fun es=>es.length=n/\F (es.map (·.2)) fun f d=>Φ (f||jr es) d):Ev G ρ (iS (bI n F) [] E0 t) Φ:=fun nb σ H Q W z=>
 h nb σ H _ W fun es vs H1 ⟨hl,p⟩ s1 q1=>by
  have W1:=W.step s1
  rw[jz]
  refine⟨by rw[q1.len,hl],G.S nb (jr es),es.map (·.2),W1.iy,q1.all fun z=>z,hm _ _ _ p fun f d hp v H' sm hd=>z _ v H' d hp (s1.trans (.same W1.ay sm)) (hd.av fun a q=>?_)⟩
  cases f with
  |false=>rw[uc] at q;exact .inl q
  |true=>exact .inr ⟨rfl,W1.iy a q⟩
theorem Step.tZ{b l:Addr}{H H':Hp}(hB:G.B=some (b,l))(bt:bz (Nb b) H H')(B':dz H' b l):Step G.B H H':=
 ⟨fun a o n e=>bt a o (n b l hB) e,fun b' l' e=>by rw[hB] at e;cases e;exact B'⟩
theorem Wd.u7{nb:Addr->Prop}{σ:St}{H:Hp}(W:Wd G nb ρ σ H)(e:ρ[i]?=some .ay):∃b l,G.B=some (b,l)/\σ[i]?=some (some (.ref b))/\dz H b l:=by
 obtain⟨x,e1,b,l,hB,rfl⟩:=W.ok i _ e
 exact⟨b,l,hB,e1,W.ay b l hB⟩
theorem Ev.qy{n:Nat}{F:DF}(hm:dQ F)(e:ρ[i]?=some .ay)(h:Av G ρ t fun es=>es.length+1=n/\F (es.map (·.2)) fun f d=>Φ (f||jr es) d):Ev G ρ (iS (iK n F) [] E0 (cA (dG i) t)) Φ:=fun nb σ H Q W z=>by
 obtain⟨b,l,hB,e1,B⟩:=W.u7 e
 refine⟨.ref b,e1,h nb σ H _ W fun es vs H1 ⟨hl,p⟩ s1 q1=>?_⟩
 have W1:=W.step s1
 show iK n F ((V.ref b::vs)++[]) H1 Q E0
 rw[jz]
 have hb:∀f,G.S nb f b:=fun f=> .inr (.inr (.inl fun n=>n b l hB rfl))
 refine⟨by rw[fB,q1.len,hl],b,l,vs,G.S nb (jr es),es.map (·.2),rfl,W1.ay b l hB,W1.iy,hb _,q1.all fun z=>z,hm _ _ _ p fun f d hp v H' bt B' hd=>z _ v H' d hp (s1.trans (.tZ hB bt B')) (hd.av fun a q=>?_)⟩
 cases f with
 |false=>rw[uc] at q;exact .inl q
 |true=>exact .inr ⟨rfl,W1.iy a q⟩
theorem Ev.draw(e:ρ[i]?=some .ay)(h:Ev G ρ te fun _ x=>∃m:Int,x= .int m/\0<m/\Sm m/\∀r:Int,0<=r->r<m->Φ true (.int r)):Ev G ρ (iS kY [] E0 (cA (dG i) (cA te cL))) Φ:=fun nb σ H Q W z=>by
 obtain⟨b,l,hB,e1,B⟩:=W.u7 e
 refine⟨.ref b,e1,h nb σ H _ W fun f v H1 d ⟨m,ed,h1,h2,p⟩ s1 hv=>?_⟩
 subst ed
 exact⟨b,l,m,by rw[hv.bZ];rfl,s1.2 b l hB,h1,h2,fun r H' r1 r2 bt B'=>z true _ H' _ (p r r1 r2) (s1.trans (.tZ hB bt B')) (.int r)⟩
theorem Ev.prime(e:ρ[i]?=some .ay)(h:∀p:Int,Lc p->Φ true (.int p)):Ev G ρ (iS MG [] E0 (cA (dG i) cL)) Φ:=fun nb σ H Q W z=>by
 obtain⟨b,l,hB,e1,B⟩:=W.u7 e
 exact⟨.ref b,e1,b,l,rfl,B,fun p H' hp bt B'=>z true _ H' _ (h p hp) (.tZ hB bt B') (.int p)⟩
theorem Ev.total(h:Av G ρ t fun es=>∃(p:Int) (prs:List (Int×Int)) (wd:List (Option Int)),es.map (·.2)=[.int p, .list (prs.map pairD), .list (wd.map fE)]/\0<p/\(∀pr∈prs,0<=pr.1/\pr.1<wd.length/\Sm pr.2)/\(∀x,some x∈wd->Sm x)/\Φ true (.int (aV prs wd%p))):
  Ev G ρ (iS wz [] E0 t) Φ:=fun nb σ H Q W z=>
 h nb σ H _ W fun es vs H1 ⟨p,prs,wd,e,h1,h2,h3,q⟩ s1 q1=>by
  have hd:=q1.all (f:=false) (fun z=>by cases z)
  rw[e] at hd
  unfold af at hd
  obtain⟨y,ys,rfl,d1,hd⟩:=hd
  unfold af at hd
  obtain⟨y2,ys,rfl,d2,hd⟩:=hd
  unfold af at hd
  obtain⟨y3,ys,rfl,d3,hd⟩:=hd
  unfold af at hd
  subst hd
  exact⟨G.S nb false,p,y2,y3,prs,wd,by rw[d1.bZ];rfl,d2,d3,h1,h2,h3,z true _ H1 _ q s1 (.int _)⟩
theorem Ev.whole(h:Ev G ρ te fun _ x=>∃n,x= .int n/\Φ true (.bool true)):Ev G ρ (iS xW [] E0 (cA te cL)) Φ:=fun nb σ H Q W z=>
 h nb σ H _ W fun f v H1 d ⟨n,e,q⟩ s1 hv=>by subst e;exact⟨n,by rw[hv.bZ];rfl,z true _ H1 _ q s1 (.bl _)⟩
namespace Gv
variable{Θ:Rh->Prop}
theorem name(h:Θ (ρ.set i (.d f d))):Gv G ρ (eX i) f d Θ:=fun nb σ H v Q W hv z=>z _ _ h (W.lG hv)
theorem rL(h:Θ (ρ.set i (.d false d))):Gv G ρ (eX i) f d Θ:=fun nb σ H v Q W hv z=>z _ _ h (W.lG (hv.av (cT (fun z=>by cases z) fun _ z=>z)))
theorem Gj(hs:iB d=true)(h:Θ (ρ.set i (.d true d))):Gv G ρ (eX i) f d Θ:=fun nb σ H v Q W hv z=>z _ _ h (W.lG (hv.ia hs))
theorem iD{n:Int}(h:Θ (ρ.set i (.d true (.int n)))):Gv G ρ (eX i) f (.int n) Θ:=Gj rfl h
theorem Rm{n:Bool}(h:Θ (ρ.set i (.d true (.bool n)))):Gv G ρ (eX i) f (.bool n) Θ:=Gj rfl h
theorem tup{n:Nat}{u:iH}(hl:ds.length=n)(h:sN G ρ u f ds Θ):Gv G ρ (rB K n u) f (.tuple ds) Θ:=fun nb σ H v Q W hv z=>by
 obtain⟨a,xs,rfl,m,hx,hd⟩:=hv.ofT
 exact⟨a,xs,rfl, .of hx,by rw[hd.length];exact hl,h nb σ H xs Q W hd z⟩
theorem DB(h:Θ ρ):sN G ρ t6 f [] Θ:=fun nb σ H vs Q W hv z=>by unfold af at hv;exact⟨hv,z _ _ h W⟩
theorem tD{u:TG}{us:iH}(h:Gv G ρ u f d fun iI=>sN G iI us f ds Θ):sN G ρ (qF u us) f (d::ds) Θ:=fun nb σ H vs Q W hv z=>by
 unfold af at hv
 obtain⟨y,ys,rfl,h1,h2⟩:=hv
 exact⟨y,ys,rfl,h nb σ H y _ W h1 fun σ' ρ' q W'=>q nb σ' H ys Q W' h2 z⟩
end Gv
namespace Sv
variable{E:DE}{s u:TS}
theorem seq(h:Sv G ρ s {E with nx:=fun iI=>Sv G iI u E}):Sv G ρ (jK s u) E:=fun nb σ H D W K=>h nb σ H _ W ⟨fun bB ρ' σ' H' q W'=>q bB σ' H' D W' K,K.bk,K.ct,K.rt,K.rw⟩
theorem next(h:E.nx ρ):Sv G ρ Cd E:=fun nb σ H D W K=>K.nx nb ρ σ H h W
theorem brk(h:E.bk ρ):Sv G ρ NK E:=fun nb σ H D W K=>K.bk nb ρ σ H h W
theorem cont(h:E.ct ρ):Sv G ρ Rv E:=fun nb σ H D W K=>K.ct nb ρ σ H h W
theorem asg{g:TG}(h:Ev G ρ te fun f d=>Gv G ρ g f d E.nx):Sv G ρ (ff te g) E:=fun nb σ H D W K=>h nb σ H _ W fun f v H1 d q s1 hv=>q nb σ H1 v _ (W.step s1) hv fun σ' ρ' p W'=>K.nx nb ρ' σ' H1 p W'
theorem drop(h:Ev G ρ te fun _ _=>E.nx ρ):Sv G ρ (nD te) E:=fun nb σ H D W K=>h nb σ H _ W fun f v H1 d q s1 hv=>K.nx nb ρ σ H1 q (W.step s1)
theorem ret(h:Ev G ρ te E.rt):Sv G ρ (vK te) E:=fun nb σ H D W K=>h nb σ H _ W fun f v H1 d q s1 hv=>K.rt nb ρ σ f v H1 d q (W.step s1) (hv.av (cT (fun z=>z) fun _ z=>z.elim))
theorem IW{a:Addr}(e:ρ[i]?=some (.own a f ds))(h:E.rt f (.list ds)):Sv G ρ (vK (dG i)) E:=fun nb σ H D W K=>by
 obtain⟨x,e1,h1,h2,h3,xs,hx,hd⟩:=W.ok i _ e
 subst h1
 refine⟨.ref a,e1,K.rt nb ρ σ f _ H _ h W (.lst (fun z=>?_) hx (hd.av (cT (fun z=>z) fun _ z=>z.elim)))⟩
 rcases z with z|z|z|z
 ·exact z
 ·exact W.gA a z (W.dJ a h2 h3)
 ·exact z h3
 ·exact z.2 (W.dJ a h2 h3)
theorem qY{c:TT}(h:Tv G ρ c fun b=>if b=true then Sv G ρ s E else Sv G ρ u E):Sv G ρ (AY c s u) E:=fun nb σ H D W K=>h nb σ H _ W fun b H1 q s1=>by
 cases b with
 |true=>rw[if_pos rfl] at q⊢;exact q nb σ H1 D (W.step s1) K
 |false=>rw[if_neg dH] at q⊢;exact q nb σ H1 D (W.step s1) K
theorem wu{nb:Addr->Prop}{σ:St}{H H1:Hp}{a:Addr}{xs:List V}(W:Wd G nb ρ σ H)(s1:Step G.B H H1)(ha:H a=none)(e:H1 a=some (.lst xs))(hd:af (fun x=>G.S nb f x\/x=a) H1 ds xs):
    Wd G (fun x=>nb x\/x=a) (ρ.set i (.own a f ds)) (σ.set i (some (.ref a))) H1:=by
  have hN:NB G.B a:=fun b l e z=>by
    subst z
    obtain⟨_,_,_,_,_,h1,_⟩:=W.ay _ _ e
    rw[h1] at ha;cases ha
  have hA:∀f x,G.S (fun x=>nb x\/x=a) f x->(G.S nb f x\/x=a):=fun f x z=>by
    rcases z with (z|z)|z|z|z
    · exact .inl (.inl z)
    · exact .inr z
    · exact .inl (.inr (.inl z))
    · exact .inl (.inr (.inr (.inl z)))
    · exact .inl (.inr (.inr (.inr z)))
  have W1:=W.step s1
  have W2:Wd G (fun x=>nb x\/x=a) ρ σ H1:=by
    refine⟨W1.ay,fun x n=>?_,W1.old,fun x n q=>?_,W.gA,W.len,W.gB,fun h m=>(((W.eU h m).fresh ha).keep (s1.but fun x z=> .inl (.inr (.inr (.inl z))))).av (hA h.1),fun j s e'=>?_,W.apart,W.fG,W.dP⟩
    · rcases n with n|n
      · exact W1.live x n
      · subst n;rw[e];exact jA _
    · rcases n with n|n
      · exact W.dJ x n q
      · subst n
        cases z:G.H0 x with
        |none=>rfl
        |some o=>rw[W.old x o q z] at ha;cases ha
    · obtain⟨x,e1,h⟩:=W.ok j s e'
      refine⟨x,e1,?_⟩
      cases s with
      |no=>trivial
      |d f d=>obtain⟨v,e,h⟩:=h;exact⟨v,e,((h.fresh ha).keep (s1.but fun x z=> .inl (.inr (.inr (.inl z))))).av (hA f)⟩
      |own c f es=>obtain⟨e,n,q,xs,hx,hd⟩:=h;exact⟨e, .inl n,q,xs,s1.1 _ _ q hx,((hd.fresh ha).keep (s1.but fun x z=> .inl (.inr (.inr (.inl z))))).av (hA f)⟩
      |ay=>exact h
      |raw v=>exact h
      |bW c f es=>obtain⟨e,n,q,xs,hx,hd⟩:=h;exact⟨e, .inl n,q,xs,s1.1 _ _ q hx,((hd.fresh ha).keep (s1.but fun x z=> .inl (.inr (.inr (.inl z))))).av (hA f)⟩
      | cu c =>
        obtain⟨e,n,q⟩:=h
        refine⟨e,fun a ha=>⟨.inl (n a ha).1,(n a ha).2⟩,c.av (hA c.f) (c.keep (.of fun x o hx e=>s1.1 x o ?_ e) (c.fresh ha q))⟩
        rcases hx with hx|hx
        · exact gU fun z=>hx (.inl (.inr (.inr (.inl z))))
        · exact(n x hx).2
  refine W2.set ⟨rfl, .inr rfl,hN,xs,e,hd.av (hA f)⟩ ?_ (fun _ _ _ z=>by cases z) (fun x hx j t hj ht hc=>?_)
  rotate_left
  · have hx:x=a:=bF.mp hx
    subst hx
    rcases hc with ⟨c,z⟩|⟨c,rfl⟩
    · cases z
    · exact fun z=>W.live x ((W.ok j _ ht).choose_spec.2.2.1 x z).1 ha
  rintro a' f' ds' ⟨rfl,rfl,rfl⟩ j c g cs hj hc z
  subst z
  obtain⟨x,e1,h1,h2,h3,ys,hy,_⟩:=W.ok j _ hc
  rw[hy] at ha;cases ha
theorem kF(h:aD G ρ te fun f ds=>∀a,E.nx (ρ.set i (.own a f ds))):Sv G ρ (ff te (eX i)) E:=fun nb σ H D W K=>h nb σ H _ W fun f a xs H1 ds q s1 ha e hd=>K.nx _ _ _ H1 (q a) (wu W s1 ha e hd)
theorem HG(h:aD G ρ te fun f ds=>∀a,E.nx (ρ.set i (.own a f ds))):Sv G ρ (yF i te) E:=fun nb σ H D W K=>h nb σ H _ W fun f a xs H1 ds q s1 ha e hd=>K.nx _ _ _ H1 (q a) (wu W s1 ha e hd)
theorem oF{nb:Addr->Prop}{σ:St}{H:Hp}{a:Addr}{xs:List V}(W:Wd G nb ρ σ H)(e:ρ[i]?=some (.own a f ds))(hd:af (G.S nb g) H es xs):Wd G nb (ρ.set i (.own a g es)) σ (upd H a (.lst xs)):=by
  obtain⟨x,e1,h1,h2,h3,ys,hy,_⟩:=W.ok i _ e
  subst h1
  have hil:i<ρ.length:=(aP.mp e).1
  have W0:Wd G nb (ρ.set i .no) (σ.set i (some (.ref a))) H:=W.set trivial fun _ _ _ z=>by cases z
  have W1:Wd G nb (ρ.set i .no) (σ.set i (some (.ref a))) (upd H a (.lst xs)):=W0.write h2 h3 (fun j c f' cs hc=>by
    by_cases hij:i=j
    · subst hij;rw[dO hil] at hc;cases hc
    · rw[bQ hij] at hc
      exact(W.apart i j _ _ _ _ _ _ hij e hc).symm
   ) (fun j c f' cs hc z => by
      subst z
      have hij:i≠j:=fun z=>by subst z;rw[dO hil] at hc;cases hc
      rw[bQ hij] at hc
      obtain⟨_,_,_,_,_,ps,hp,_⟩:=W.ok j _ hc
      rw[hy] at hp;cases hp) (fun j c hc z=>by
      have hij:i≠j:=fun z=>by subst z;rw[dO hil] at hc;cases hc
      rw[bQ hij] at hc
      exact W.dP j i c _ (bx hij) hc e a z (bF.mpr rfl))
  have W2:=W1.set (i:=i) (s:= .own a g es) (x:=some (.ref a)) ⟨rfl,h2,h3,xs,aY,hd.keep (bz.set (.inl h2))⟩ (by
    rintro a' f' ds' ⟨rfl,rfl,rfl⟩ j c g' cs hj hc
    rw[bQ (bx hj)] at hc
    exact W.apart i j _ _ _ _ _ _ (bx hj) e hc) (fun _ _ _ z=>by cases z) (fun x hx j t hj ht hc z=>by
    rw[bQ (bx hj)] at ht
    have hx:x=a:=bF.mp hx
    subst hx
    rcases hc with ⟨c,q⟩|⟨c,rfl⟩
    · cases q
    · exact W.dP j i c _ hj ht e x z (bF.mpr rfl))
  rw[kX,kX] at W2
  have:σ.set i (some (.ref a))=σ:=by
    apply kI
    intro j
    by_cases hij:i=j
    · subst hij;rw[dO (by rw[W.len];exact hil),e1]
    · rw[bQ hij]
  rwa[this] at W2
theorem append{a:Addr}(e:ρ[i]?=some (.own a f ds))(h:Ev G ρ te fun g d=>ds.length<10000/\E.nx (ρ.set i (.own a (f && g) (ds++[d])))):Sv G ρ (nD (sI K "list" Kh (dG i) (cA te cL))) E:=fun nb σ H D W KK=>by
 obtain⟨x,e1,h1,h2,h3,xs,hx,hd⟩:=W.ok i _ e
 subst h1
 refine⟨.ref a,e1, .inl ⟨rfl,_,aS.of hx⟩,h nb σ H _ W fun g v H1 d ⟨hl,q⟩ s1 hv=>?_⟩
 have W1:=W.step s1
 have sS:=s1.1 _ _ h3 hx
 refine⟨a,xs,v,rfl,rfl,sS,eg (by rw[hd.length];exact hl) (by decide),KK.nx nb _ _ _ q (oF W1 e ?_)⟩
 exact af.snoc (hv.av (cT (fun z=>(fK _ _▸z).2) fun _ z=>z)) ((hd.keep s1.cN).av (cT (fun z=>(fK _ _▸z).1) fun _ z=>z))
theorem af.set'{nb:Addr->Prop}{H:Hp}{x:V}(hd:ai nb H d x):∀{ds:List PyData} {xs:List V} (j:Nat),af nb H ds xs->af nb H (ds.set j d) (xs.set j x)
 |[],_,j,h=>by unfold af at h;subst h;exact .nil
 |e::ds,_,0,h=>by unfold af at h;obtain⟨y,ys,rfl,h1,h2⟩:=h;exact .cons hd h2
 |e::ds,_,j+1,h=>by unfold af at h;obtain⟨y,ys,rfl,h1,h2⟩:=h;exact .cons h1 (af.set' hd j h2)
theorem nU{a:Addr}(e:ρ[i]?=some (.own a f ds))(h:Ev G ρ te fun g d=>Ev G ρ tb fun _ y=>∃k j,y= .int k/\dM ds.length k=some j/\E.nx (ρ.set i (.own a (f && g) (ds.set j d)))):Sv G ρ (ff te (oq (dG i) tb qu)) E:=fun nb σ H D W KK=>
 h nb σ H _ W fun g v H1 d q s1 hv=>by
  obtain⟨x,e1,h1,h2,h3,xs,hx,hd⟩:=(W.step s1).ok i _ e
  subst h1
  refine⟨.ref a,e1,q nb σ H1 _ (W.step s1) fun g' u H2 y ⟨k,j,ey,hj,p⟩ s2 hu=>?_⟩
  subst ey
  have W2:=(W.step s1).step s2
  refine⟨a,xs,k,j,rfl,hu.bZ,s2.1 _ _ h3 hx,by rw[hd.length];exact hj,KK.nx nb _ _ _ p (oF W2 e ?_)⟩
  exact af.set' ((hv.keep s2.cN).av (cT (fun z=>(fK _ _▸z).2) fun _ z=>z)) j ((hd.keep s2.cN).av (cT (fun z=>(fK _ _▸z).1) fun _ z=>z))
theorem share{nb:Addr->Prop}{σ:St}{H:Hp}{a:Addr}(W:Wd G nb ρ σ H)(e:ρ[i]?=some (.own a f ds)):Wd G (fun x=>nb x/\x≠a) (ρ.set i (.d f (.list ds))) σ H:=by
  obtain⟨x,e1,h1,h2,h3,xs,hx,hd⟩:=W.ok i _ e
  subst h1
  have hil:i<ρ.length:=(aP.mp e).1
  have W0:Wd G nb (ρ.set i .no) (σ.set i (some (.ref a))) H:=W.set trivial fun _ _ _ z=>by cases z
  have W1:Wd G (fun x=>nb x/\x≠a) (ρ.set i .no) (σ.set i (some (.ref a))) H:=by
    refine⟨W0.ay,fun x n=>W0.live x n.1,W0.old,fun x n=>W0.dJ x n.1,W0.gA,W0.len,W0.gB,fun h m=>(W0.eU h m).av (cT (fun z=>z) fun _ z=>z.1),fun j s e'=>?_,W0.apart,W0.fG,W0.dP⟩
    obtain⟨x,lB,h⟩:=W0.ok j s e'
    refine⟨x,lB,?_⟩
    have hij:s≠ .no->i≠j:=fun n z=>by subst z;rw[dO hil] at e';cases e';exact n rfl
    cases s with
    |no=>trivial
    |d f d=>obtain⟨v,e,h⟩:=h;exact⟨v,e,h.av (cT (fun z=>z) fun _ z=>z.1)⟩
    | own c f es =>
      obtain⟨e2,n,q,xs,hx,hd⟩:=h
      have hij:=hij (by intro z;cases z)
      rw[bQ hij] at e'
      exact⟨e2,⟨n,(W.apart i j _ _ _ _ _ _ hij e e').symm⟩,q,xs,hx,hd.av (cT (fun z=>z) fun _ z=>z.1)⟩
    |ay=>exact h
    |raw v=>exact h
    | bW c f es =>
      obtain⟨e2,n,q,ps,hp,hd⟩:=h
      have hca:c≠a:=fun z=>by subst z;rw[hx] at hp;cases hp
      exact⟨e2,⟨n,hca⟩,q,ps,hp,hd.av (cT (fun z=>z) fun _ z=>z.1)⟩
    | cu c =>
      obtain⟨e2,n,q⟩:=h
      have hij:=hij (by intro z;cases z)
      rw[bQ hij] at e'
      exact⟨e2,fun x hx=>⟨⟨(n x hx).1,fun z=>W.dP j i c _ (bx hij) e' e x hx (by rw[z];exact bF.mpr rfl)⟩,(n x hx).2⟩,c.av (cT (fun z=>z) fun _ z=>z.1) q⟩
  have W2:=W1.lG (i:=i) (f:=f) (d:= .list ds) (v:= .ref a) (.lst (fun z=>by
    rcases z with z|z|z|z
    · exact z.2 rfl
    · exact W.gA a z (W.dJ a h2 h3)
    · exact z h3
    · exact z.2 (W.dJ a h2 h3)) hx (hd.av (cT (fun z=>z) fun _ z=>z.1)))
  rw[kX,kX] at W2
  have:σ.set i (some (.ref a))=σ:=by
    apply kI
    intro j
    by_cases hij:i=j
    · subst hij;rw[dO (by rw[W.len];exact hil),e1]
    · rw[bQ hij]
  rwa[this] at W2
theorem kZ{a:Addr}(i:Nat)(e:ρ[i]?=some (.own a f ds))(h:Sv G (ρ.set i (.d f (.list ds))) s E):Sv G ρ s E:=fun nb σ H D W K=>h _ σ H D (share W e) K
theorem wk{ρ':Rh}(w:Wk ρ' ρ)(h:Sv G ρ' s E):Sv G ρ s E:=fun nb σ H D W K=>h nb σ H D (W.wk w) K
end Sv
end
end L2
set_option maxRecDepth 100000
set_option maxHeartbeats 1000000
namespace L2
open PySem PySem.Spec PyProof.Rows
abbrev Gx.hd(G:Gx)(f:Bool)(d:PyData)(v:V):Gx:={G with hold:=(f, .d d,v)::G.hold}
section
variable{G:Gx}{ρ bM:Rh}{Φ Ψ:Pd}{ta tb te:TE}{t:TA}{i:Nat}{f g:Bool}{d e:PyData}{ds es:List PyData}{K:PySem.W.Frag}
theorem Wd.hd{nb:Addr->Prop}{σ:St}{H:Hp}{v:V}(W:Wd G nb ρ σ H)(h:ai (G.S nb f) H d v):Wd (G.hd f d v) nb ρ σ H:=
 ⟨W.ay,W.live,W.old,W.dJ,W.gA,W.len,W.gB,fun x m=>by
  rcases bq.mp m with e|m
  ·subst e;exact h
  ·exact W.eU x m,fun i s e=>by
   obtain⟨x,e1,h⟩:=W.ok i s e
   refine⟨x,e1,?_⟩
   cases s<;>exact h,W.apart,W.fG,W.dP⟩
theorem Wd.c8{nb:Addr->Prop}{σ:St}{H:Hp}{v:V}(W:Wd (G.hd f d v) nb ρ σ H):Wd G nb ρ σ H/\ai (G.S nb f) H d v:=
 ⟨⟨W.ay,W.live,W.old,W.dJ,W.gA,W.len,W.gB,fun x m=>W.eU x (bY _ m),fun i s e=>by
   obtain⟨x,e1,h⟩:=W.ok i s e
   refine⟨x,e1,?_⟩
   cases s<;>exact h,W.apart,W.fG,W.dP⟩,W.eU _ (dj ..)⟩
namespace Sv
variable{E:DE}{s:TS}{gt:TG}
def tR(G:Gx)(ρ:Rh)(n:Nat)(it:Nat->PyData->Prop)(fi:Bool)(gt:TG)(s:TS)(E:DE):Prop:=
 ∃I:Nat->Rh->Prop,I 0 ρ/\(∀i d ρ',it i d->I i ρ'->Gv G ρ' gt fi d fun gM=>Sv G gM s {nx:=I (i+1),rt:=E.rt,bk:=E.nx,ct:=I (i+1),rw:=E.rw})/\∀ρ',I n ρ'->E.nx ρ'
theorem N4{lo:Int}{n:Nat}{nb:Addr->Prop}{σ:St}{H:Hp}{D:Ends}(W:Wd G nb ρ σ H)(KK:Be G E D)(h:tR G ρ n (fun i d=>i<n/\d= .int (lo+i)) true gt s E):
  ∃W:Nat->Nat->St->Hp->Prop,(∃m,W 0 m σ H)/\∀i m σ H,W i m σ H->
   ((jc lo n).stop i H/\D.nx σ H)\/((jc lo n).go i H/\∃N:St->Hp->Prop,(∀σ' H',N σ' H'->∃m',m'<m/\W (i+1) m' σ' H')/\∀x H',(jc lo n).lI i H x H'->gt x σ H' fun σ2 H2=>s {D with nx:=N,ct:=N,bk:=D.nx} σ2 H2):=by
 obtain⟨I,h0,ht,he⟩:=h
 refine ym (fun i σ H=>∃nb ρ',I i ρ'/\Wd G nb ρ' σ H) ⟨nb,ρ,h0,W⟩ ?_ ?_
 ·rintro i σ H hi ⟨nb,ρ',hI,W⟩
  refine ht i _ ρ' ⟨hi,rfl⟩ hI nb σ H _ _ W (.int _) fun σ2 gM q W2=>q nb σ2 H _ W2 ?_
  exact⟨fun nb ρ σ H q W=>⟨nb,ρ,q,W⟩,KK.nx,fun nb ρ σ H q W=>⟨nb,ρ,q,W⟩,KK.rt,KK.rw⟩
 ·rintro σ H ⟨nb,ρ',hI,W⟩
  exact KK.nx nb ρ' σ H (he ρ' hI) W
theorem oS(h:Ev G ρ te fun _ x=>∃n:Int,x= .int n/\ -(2^62)<=n/\n<2^62/\tR G ρ n.toNat (fun i d=>i<n.toNat/\d= .int (0+i)) true gt s E):Sv G ρ (qp (uI (cA te cL)) gt s) E:=fun nb σ H D W KK=>
 h nb σ H _ W fun f v H1 x ⟨n,ex,h1,h2,q⟩ s1 hv=>by
  subst ex
  rw[hv.bZ]
  exact⟨n,rfl,h1,h2,N4 (W.step s1) KK q⟩
theorem forL(h:Ev G ρ te fun f x=>∃ds,x= .list ds/\∀v,tR (G.hd f (.list ds) v) ρ ds.length (fun i d=>ds[i]?=some d) f gt s E):Sv G ρ (qp (sX K te) gt s) E:=fun nb σ H D W KK=>
 h nb σ H _ W fun f v H1 x ⟨ds,ex,q⟩ s1 hv=>by
  subst ex
  obtain⟨I,h0,ht,he⟩:=q v
  have W1:=(W.step s1).hd hv
  obtain⟨a,xs,rfl,n,hx,hd⟩:=hv.cQ
  have key:∀{nb ρ' σ H},Wd (G.hd f (.list ds) (.ref a)) nb ρ' σ H->∃xs,H a=some (.lst xs)/\af (G.S nb f) H ds xs:=fun W=>by
   obtain⟨a',xs',e',_,h',d'⟩:=W.c8.2.cQ
   cases e'
   exact⟨xs',h',d'⟩
  refine⟨a,rfl,⟨xs, .of hx⟩,?_⟩
  refine⟨fun i m σ H=>m=ds.length-i/\i<=ds.length/\∃nb ρ',I i ρ'/\Wd (G.hd f (.list ds) (.ref a)) nb ρ' σ H,⟨ds.length,by simp,fW _,nb,ρ,h0,W1⟩,?_⟩
  rintro i m σ H ⟨rfl,hi,nb,ρ',hI,W⟩
  obtain⟨ys,hy,hD⟩:=key W
  have hl:=hD.length
  by_cases hlt:i<ds.length
  ·refine .inr ⟨⟨ys,ys[i]'(by omega), .of hy,aF _⟩,fun σ H=>∃nb ρ',I (i+1) ρ'/\Wd (G.hd f (.list ds) (.ref a)) nb ρ' σ H,fun σ' H' q=>⟨ds.length-(i+1),by omega,rfl,hlt,q⟩,fun x H' y=>?_⟩
   obtain⟨e,y⟩:=y
   subst e
   have hx:=y ys (.of hy)
   obtain⟨x',hx',dx⟩:=hD.get (aF hlt)
   rw[hx] at hx';cases hx'
   refine ht i _ ρ' (aF hlt) hI nb σ _ _ _ W dx fun σ2 gM q W2=>q nb σ2 _ _ W2 ?_
   exact⟨fun nb ρ σ H q W=>⟨nb,ρ,q,W⟩,fun nb ρ σ H q W=>KK.nx nb ρ σ H q W.c8.1,fun nb ρ σ H q W=>⟨nb,ρ,q,W⟩,fun nb ρ σ f v H d q W hv=>KK.rt nb ρ σ f v H d q W.c8.1 hv,fun nb ρ σ v H q W=>KK.rw nb ρ σ v H q W.c8.1⟩
  ·have e:i=ds.length:=by omega
   subst e
   exact .inl ⟨⟨ys, .of hy,by omega⟩,KK.nx nb ρ' σ H (he ρ' hI) W.c8.1⟩
theorem Fp{c:TT}(I:Rh->Prop)(μ:Rh->Nat)(h0:I ρ)(h:∀ρ',I ρ'->Tv G ρ' c fun b=>if b=true then Sv G ρ' s {nx:=fun gM=>I gM/\μ gM<μ ρ',rt:=E.rt,bk:=E.nx,ct:=fun gM=>I gM/\μ gM<μ ρ',rw:=E.rw} else E.nx ρ'):Sv G ρ (Ej c s) E:=fun nb σ H D W KK=>by
  refine⟨fun m σ H=>∃nb ρ',I ρ'/\Wd G nb ρ' σ H/\m=μ ρ',⟨_,nb,ρ,h0,W,rfl⟩,?_⟩
  rintro m σ H ⟨nb,ρ',hI,W,rfl⟩
  refine h ρ' hI nb σ H _ W fun b H1 q s1=>?_
  cases b with
  | true =>
    rw[if_pos rfl] at q⊢
    refine⟨fun σ' H'=>∃nb gM,(I gM/\μ gM<μ ρ')/\Wd G nb gM σ' H',fun σ' H' ⟨nb,gM,⟨q1,q2⟩,W2⟩=>⟨μ gM,q2,nb,gM,q1,W2,rfl⟩,q nb σ H1 _ (W.step s1) ?_⟩
    exact⟨fun nb ρ σ H q W=>⟨nb,ρ,q,W⟩,KK.nx,fun nb ρ σ H q W=>⟨nb,ρ,q,W⟩,KK.rt,KK.rw⟩
  |false=>rw[if_neg dH] at q⊢;exact KK.nx nb ρ' σ H1 q (W.step s1)
end Sv
def kc(mp:List (Option Nat))(ρ:Rh):Rh:=mp.map fun o=>match o with|none=> .no|some j=>match ρ[j]? with|some s=>s|none=> .no
theorem zG{mp:List (Option Nat)}(h:(mp.filterMap id).Nodup):∀{i j k:Nat},mp[i]?=some (some k)->mp[j]?=some (some k)->i=j:=by
  induction mp with
  |nil=>intro i j k e;simp at e
  | cons o r ih =>
    intro i j k e1 e2
    have hr:(r.filterMap id).Nodup:=by
      cases o with
      |none=>simpa using h
      |some x=>rw[KQ (by rfl)] at h;exact(iE.mp h).2
    have hn:∀{m:Nat},r[m]?=some (some k)->o≠some k:=fun{m} hm e=>by
      subst e
      rw[KQ (by rfl)] at h
      exact(iE.mp h).1 (Br.mpr ⟨some k,aW hm,rfl⟩)
    cases i with
    | zero =>
      cases j with
      |zero=>rfl
      |succ j=>simp at e1 e2;exact absurd e1 (hn e2)
    | succ i =>
      cases j with
      |zero=>simp at e1 e2;exact absurd e2 (hn e1)
      |succ j=>simp at e1 e2;rw[ih hr e1 e2]
theorem Wd.eZ{nb:Addr->Prop}{σ:St}{H:Hp}{mp:List (Option Nat)}(W:Wd G nb ρ σ H)(hm:(mp.filterMap id).Nodup):Wd G nb (kc mp ρ) (eZ mp σ) H:=by
  have hat:∀{i:Nat} {s:Sl},(kc mp ρ)[i]?=some s->s= .no\/∃k,mp[i]?=some (some k)/\ρ[k]?=some s:=fun{i s} e=>by
    unfold kc at e
    rw[bu] at e
    obtain⟨o,ho,e⟩:=jx.mp e
    cases o with
    |none=>exact .inl e.symm
    | some k =>
      cases hk:ρ[k]? with
      |none=>simp only[hk] at e;exact .inl e.symm
      |some s'=>simp only[hk] at e;subst e;exact .inr ⟨k,ho,hk⟩
  refine⟨W.ay,W.live,W.old,W.dJ,W.gA,by unfold L2.eZ kc;rw[ak,ak],W.gB,W.eU,fun i s e=>?_,fun i j a f as c g cs hij e1 e2=>?_,fun i j a f as c g cs hij e1 e2=>?_,fun i j c t hij e1 e2 a ha=>?_⟩
  · have hi:i<mp.length:=by have:=(aP.mp e).1;unfold kc at this;rwa[ak] at this
    rcases hat e with rfl|⟨k,hk,hs⟩
    · exact⟨_,by unfold L2.eZ;rw[bu,aF hi];rfl,trivial⟩
    · obtain⟨x,e1,h⟩:=W.ok k s hs
      refine⟨x,?_,h⟩
      unfold L2.eZ
      rw[bu,hk]
      simp only[Option.map_some,e1]
  · rcases hat e1 with z|⟨k,hk,hs⟩
    · cases z
    rcases hat e2 with z|⟨k',hk',hs'⟩
    · cases z
    exact W.apart k k' a f as c g cs (fun z=>by subst z;exact hij (zG hm hk hk')) hs hs'
  · rcases hat e1 with z|⟨k,hk,hs⟩
    · cases z
    rcases hat e2 with z|⟨k',hk',hs'⟩
    · cases z
    exact W.fG k k' a f as c g cs (fun z=>by subst z;exact hij (zG hm hk hk')) hs hs'
  · rcases hat e1 with z|⟨k,hk,hs⟩
    · cases z
    rcases hat e2 with z|⟨k',hk',hs'⟩
    · subst z;exact fun z=>by cases z
    exact W.dP k k' c t (fun z=>by subst z;exact hij (zG hm hk hk')) hs hs' a ha
def KA(ρ:Rh)(acc:Addr):Prop:=(∀(j:Nat) a f ds,ρ[j]?=some (.own a f ds)->a≠acc)/\∀(j:Nat) c,ρ[j]?=some (.cu c)->acc∉c.F
def gS(G:Gx)(bM:Rh)(n:Nat)(it:Nat->PyData->Prop)(fi:Bool)(gt:TG)(tc:TT)(te:TE)(Θ:Bool->List PyData->Prop):Prop:=
 ∃(fl:Bool) (I:Nat->List PyData->Prop),I 0 []/\(∀i d ds,it i d->ds.length<=i->I i ds->Gv G bM gt fi d fun iI=>Wk bM iI/\Tv G iI tc fun b=>if b=true then Ev G iI te fun f e=>(fl=true->f=true)/\I (i+1) (ds++[e]) else I (i+1) ds)/\
  ∀ds,ds.length<=n->I n ds->Θ (fl||cV ds) ds
theorem rF{gt:TG}{tc:TT}{nb:Addr->Prop}{acc:Addr}{σ:St}{H H1:Hp}{x:V}{fi fl:Bool}{I:Nat->List PyData->Prop}{xs:List V}{N:St->Hp->Prop}{ds:List PyData}{n:Nat}(hn:n<=10000)(hi:i<n)
    (W:Wd G nb bM σ H) (ha:nb acc) (hN:NB G.B acc) (hno:KA bM acc) (st:Step G.B H1 H) (hacc:H1 acc=none) (hx:H acc=some (.lst xs)) (hd:af (G.S nb fl) H ds xs) (hl:ds.length<=i) (hxd:ai (G.S nb fi) H d x)
    (h:Gv G bM gt fi d fun iI=>Wk bM iI/\Tv G iI tc fun b=>if b=true then Ev G iI te fun f e=>(fl=true->f=true)/\I (i+1) (ds++[e]) else I (i+1) ds)
    (z:∀σ' H' ds' xs',Wd G nb bM σ' H'->Step G.B H1 H'->H' acc=some (.lst xs')->af (G.S nb fl) H' ds' xs'->ds'.length<=i+1->I (i+1) ds'->N σ' H'):
    gt x σ H fun σ2 H2=>tc σ2 H2 fun b H3=>if b=true then te σ2 H3 fun v H4=>∃ys,H4 acc=some (.lst ys)/\ys.length<sizeLine/\N σ2 (upd H4 acc (.lst (ys++[v]))) else N σ2 H3:=by
  refine h nb σ H x _ W hxd fun σ2 iI ⟨wk,q⟩ W2=>q nb σ2 H _ W2 fun b H3 q3 s3=>?_
  have Kl:=s3.1 _ _ hN hx
  have GI:=hd.keep (s3.cN (nb:=nb) (f:=fl))
  cases b with
  | false =>
    rw[if_neg dH] at q3⊢
    exact z σ2 H3 ds xs ((W2.step s3).wk wk) (st.trans s3) Kl GI (by omega) q3
  | true =>
    rw[if_pos rfl] at q3⊢
    refine q3 nb σ2 H3 _ (W2.step s3) fun f v H4 e ⟨hf,hI⟩ s4 hv=>?_
    have Gk:=s4.1 _ _ hN Kl
    have Vz:=GI.keep (s4.cN (nb:=nb) (f:=fl))
    have hlen:=hd.length
    refine⟨xs,Gk,eg (show xs.length<10001 by omega) (by decide),?_⟩
    have W4:Wd G nb bM σ2 H4:=((W2.step s3).step s4).wk wk
    have bt:bz (G.S nb fl) H4 (upd H4 acc (.lst (xs++[v]))):=bz.set (.inl ha)
    have W5:Wd G nb bM σ2 (upd H4 acc (.lst (xs++[v]))):=W4.write ha hN hno.1 (fun j a f ds e z=>by
      subst z
      obtain⟨_,_,_,_,_,ps,hp,_⟩:=W4.ok j _ e
      rw[Gk] at hp;cases hp) hno.2
    refine z σ2 _ (ds++[e]) (xs++[v]) W5 ⟨fun a o n q=>?_,W5.ay⟩ aY (af.snoc ((hv.av (cT hf fun _ z=>z)).keep bt) (Vz.keep bt)) (by rw[fm,j3];omega) hI
    have hne:a≠acc:=fun z=>by subst z;rw[hacc] at q;cases q
    rw[aB hne]
    exact(st.trans (s3.trans s4)).1 a o n q
theorem se{nb:Addr->Prop}{σ:St}{H:Hp}{a:Addr}(W:Wd G nb ρ σ H)(ha:H a=none):KA ρ a:=by
 refine⟨fun j c f ds e z=>?_,fun j c e z=>?_⟩
 ·subst z
  obtain⟨x,e1,h1,h2,h3,ys,hy,_⟩:=W.ok j _ e
  rw[hy] at ha;cases ha
 ·obtain⟨x,e1,h1,h2,h3⟩:=W.ok j _ e
  exact W.live a (h2 a z).1 ha
theorem Sg{nb:Addr->Prop}{a:Addr}{f:Bool}:∀x,(G.S nb f x\/x=a)->G.S (fun x=>nb x\/x=a) f x:=fun x z=>by
 rcases z with (z|z|z|z)|z
 ·exact .inl (.inl z)
 ·exact .inr (.inl z)
 ·exact .inr (.inr (.inl z))
 ·exact .inr (.inr (.inr z))
 ·exact .inl (.inr z)
theorem qw{nb:Addr->Prop}{acc:Addr}{H H1 H':Hp}{σ:St}{Q:VK}{Θ:Bool->List PyData->Prop}{xs:List V}{ds:List PyData}{fl:Bool}(W:Wd G nb ρ σ H)(s1:Step G.B H H1)(hacc:H1 acc=none)(s2:Step G.B H1 H')(hx:H' acc=some (.lst xs))(hd:af (G.S (fun x=>nb x\/x=acc) fl) H' ds xs)(p:Θ (fl||cV ds) ds)
  (z:∀f a xs H' ds,Θ f ds->Step G.B H H'->H a=none->H' a=some (.lst xs)->af (fun x=>G.S nb f x\/x=a) H' ds xs->Q (.ref a) H'):Q (.ref acc) H':=by
 refine z _ acc xs H' ds p (s1.trans s2) (W.none_of s1 hacc) hx ?_
 cases hs:cV ds with
 |true=>exact af.ia hs hd
 |false=>rw[sj];exact hd.av Sg
theorem NB.new{B:Bg}{H:Hp}{a:Addr}(h:jS B H)(ha:H a=none):NB B a:=gU fun z=>NB.lZ h z ha
namespace aD
variable{Θ:Bool->List PyData->Prop}{gt:TG}{tc:TT}{mp:List (Option Nat)}
theorem QN{lo:Int}{n:Nat}{nb:Addr->Prop}{σ:St}{H H1:Hp}{Q:VK}(W:Wd G nb ρ σ H)(s1:Step G.B H H1)(hm:(mp.filterMap id).Nodup)(cM:kc mp ρ=bM)(hn:n<=10000)(h:gS G bM n (fun i d=>i<n/\d= .int (lo+i)) true gt tc te Θ)
  (z:∀f a xs H' ds,Θ f ds->Step G.B H H'->H a=none->H' a=some (.lst xs)->af (fun x=>G.S nb f x\/x=a) H' ds xs->Q (.ref a) H') (acc:Addr) (hacc:H1 acc=none):mG (jc lo n) gt tc te acc (fun H'=>Q (.ref acc) H') (eZ mp σ) (upd H1 acc (.lst [])):=by
 obtain⟨fl,I,h0,ht,he⟩:=h
 have W0:Wd G nb bM (L2.eZ mp σ) H1:=by rw[<-cM];exact(W.step s1).eZ hm
 have W1:=W0.more hacc (o:= .lst [])
 have hN:=NB.new s1.2 hacc
 have hno:=se W0 hacc
 have jG:Step G.B H1 (upd H1 acc (.lst [])):= .same s1.2 (cH hacc)
 refine R.K6 (fun i σ H=>∃ds xs,Wd G (fun x=>nb x\/x=acc) bM σ H/\Step G.B H1 H/\H acc=some (.lst xs)/\af (G.S (fun x=>nb x\/x=acc) fl) H ds xs/\ds.length<=i/\I i ds) ⟨[],[],W1,jG,aY, .nil,bh _,h0⟩ ?_ ?_
 ·rintro i σ H hi ⟨ds,xs,W,st,hx,hd,hl,hI⟩
  exact rF hn hi W (.inr rfl) hN hno st hacc hx hd hl (.int _) (ht i _ ds ⟨hi,rfl⟩ hl hI) fun σ' H' ds' xs' W' st' hx' hd' hl' hI'=>⟨ds',xs',W',st',hx',hd',hl',hI'⟩
 ·rintro σ H' ⟨ds,xs,W',st,hx,hd,hl,hI⟩
  exact qw W s1 hacc st hx hd (he ds hl hI) z
theorem mw{t0:TE}(hm:(mp.filterMap id).Nodup)(cM:kc mp ρ=bM)(h:Ev G ρ t0 fun _ x=>∃n:Int,x= .int n/\ -10000<=n/\n<=10000/\gS G bM n.toNat (fun i d=>i<n.toNat/\d= .int (0+i)) true gt tc te Θ):aD G ρ (kG (uI (cA t0 cL)) gt tc te mp) Θ:=fun nb σ H Q W z=>
 h nb σ H _ W fun f v H1 x ⟨n,ex,h1,h2,q⟩ s1 hv=>by
  subst ex
  rw[hv.bZ]
  exact⟨n,rfl,by omega,by omega,QN W s1 hm cM (by omega) q z⟩
theorem jY{t0:TE}(hm:(mp.filterMap id).Nodup)(cM:kc mp ρ=bM)(h:Ev G ρ t0 fun fi x=>∃es,x= .list es/\es.length<=10000/\∀v,gS (G.hd fi (.list es) v) bM es.length (fun i d=>es[i]?=some d) fi gt tc te Θ):aD G ρ (kG (sX K t0) gt tc te mp) Θ:=fun nb σ H Q W z=>
 h nb σ H _ W fun fi v H1 x ⟨es,ex,hn,q⟩ s1 hv=>by
  subst ex
  obtain⟨fl,I,h0,ht,he⟩:=q v
  have W0:=(W.step s1).hd hv
  obtain⟨a,xs,rfl,n,hx,hd⟩:=hv.cQ
  refine⟨a,rfl,⟨xs, .of hx⟩,fun acc hacc=>?_⟩
  have mQ:Wd (G.hd fi (.list es) (.ref a)) nb bM (L2.eZ mp σ) H1:=by rw[<-cM];exact W0.eZ hm
  have W1:=mQ.more hacc (o:= .lst [])
  have hN:=NB.new s1.2 hacc
  have hno:=se mQ hacc
  have jG:Step G.B H1 (upd H1 acc (.lst [])):= .same s1.2 (cH hacc)
  have nq:NB G.B a:=gU fun z=>n (.inr (.inr (.inl z)))
  refine R.Jr (xs:=xs) (fun i σ H=>∃ds ys,Wd (G.hd fi (.list es) (.ref a)) (fun x=>nb x\/x=acc) bM σ H/\Step G.B H1 H/\H acc=some (.lst ys)/\af (G.S (fun x=>nb x\/x=acc) fl) H ds ys/\ds.length<=i/\I i ds) ⟨[],[],W1,jG,aY, .nil,bh _,h0⟩ ?_ ?_ ?_
  ·rintro i σ H hi ⟨ds,ys,W,st,_⟩
   exact .of (st.1 _ _ nq hx)
  ·rintro i x σ H hi ⟨ds,ys,W,st,hy,hd',hl,hI⟩
   obtain⟨a',xs',e',_,h',d'⟩:=W.c8.2.cQ
   cases e'
   rw[st.1 _ _ nq hx] at h';cases h'
   have hil:i<es.length:=by have:=(aP.mp hi).1;have:=d'.length;omega
   obtain⟨x',hx',dx⟩:=d'.get (aF hil)
   rw[hi] at hx';cases hx'
   exact rF (G:=G.hd fi (.list es) (.ref a)) hn hil W (.inr rfl) hN hno st hacc hy hd' hl dx (ht i _ ds (aF hil) hl hI) fun σ' H' ds' xs' W' st' hx' hd' hl' hI'=>⟨ds',xs',W',st',hx',hd',hl',hI'⟩
  ·rintro σ H' ⟨ds,ys,W',st,hy,hd',hl,hI⟩
   rw[hd.length] at hl hI
   exact qw W s1 hacc st hy hd' (he ds hl hI) z
end aD
end
end L2
set_option maxRecDepth 100000
set_option maxHeartbeats 1000000
namespace L2
open PySem PySem.Spec PyProof.Rows
section
variable{ρ:Rh}{t:TS}{N:List Str}{vs:List V}{ds:List PyData}{nb:Addr->Prop}{H:Hp}{Q:VK}{Φ:Pd}{b l:Addr}
theorem jJ{xs:List V}(h:af nb H ds xs){i:Nat}{s:Sl}(e:(ds.map (Sl.d false))[i]?=some s):∃v d,xs[i]?=some v/\s= .d false d/\ai nb H d v:=by
 rw[bu] at e
 obtain⟨d,hd,e⟩:=jx.mp e
 obtain⟨v,hv,q⟩:=h.get hd
 exact⟨v,d,hv,e.symm,q⟩
theorem Sv.gv(hl:ir nb H)(hd:af nb H ds vs)(aI:∀f d v H',Φ f d->cy H H'->ai (fun a=>nb a\/(f=true/\H a≠none)) H' d v->Q v H')
  (cM:ρ=ds.map (Sl.d false)++List.replicate (N.length-ds.length) .no) (h:Sv ⟨none,H,nb,[]⟩ ρ t {nx:=fun _=>Φ true .none,rt:=Φ}):t {nx:=fun _ H'=>Q .aL H',rt:=Q} (start N vs) H:=by
 have hlen:=hd.length
 have sm:∀{bB ρ' σ' H'},Wd ⟨none,H,nb,[]⟩ bB ρ' σ' H'->cy H H':=fun W a o e=>W.old a o (fun _ _ z=>(by cases z)) e
 refine h (fun _=>False) _ H _ ⟨fun _ _ z=>(by cases z),fun _ z=>z.elim,fun _ _ _ e=>e,fun _ z=>z.elim,hl,?_,fun _ _ z=>(by cases z),fun _ m=>(by cases m),fun i s e=>?_,?_,?_,?_⟩ ⟨fun bB ρ' σ' H' q W=>aI _ _ _ _ q (sm W) .aL,fun _ _ _ _ q _=>q.elim,fun _ _ _ _ q _=>q.elim,fun bB ρ' σ' f v H' d q W hv=>aI f d v H' q (sm W) (hv.av fun a z=>?_),fun _ _ _ _ _ q _=>q.elim⟩
 ·rw[cM];unfold start;simp[hlen]
 ·rw[cM] at e
  unfold start
  by_cases hi:i<ds.length
  ·rw[fY (by rw[ak];exact hi)] at e
   obtain⟨v,d,hv,rfl,q⟩:=jJ hd e
   refine⟨some v,?_,v,rfl,q.av fun a z=>?_⟩
   ·rw[fY (by rw[ak,hlen];exact hi),bu,hv];rfl
   ·rcases z with z|z|z|z
    ·exact z.elim
    ·exact z
    ·exact absurd (fun _ _ z=>(by cases z)) z
    ·cases z.1
  ·rw[gp (by rw[ak];omega),fj] at e
   split at e
   ·rename_i h'
    cases e
    refine⟨none,?_,trivial⟩
    rw[ak] at h'
    rw[gp (by rw[ak];omega),fj,if_pos (by rw[ak,hlen];exact h')]
   ·cases e
 ·intro i j a f as c g cs hij e1
  rw[cM] at e1
  by_cases hi:i<ds.length
  ·rw[fY (by rw[ak];exact hi)] at e1
   obtain⟨_,_,_,z,_⟩:=jJ hd e1
   cases z
  ·rw[gp (by rw[ak];omega),fj] at e1
   split at e1<;>cases e1
 ·intro i j a f as c g cs hij e1
  rw[cM] at e1
  by_cases hi:i<ds.length
  ·rw[fY (by rw[ak];exact hi)] at e1
   obtain⟨_,_,_,z,_⟩:=jJ hd e1
   cases z
  ·rw[gp (by rw[ak];omega),fj] at e1
   split at e1<;>cases e1
 ·intro i j c t hij e1
  rw[cM] at e1
  by_cases hi:i<ds.length
  ·rw[fY (by rw[ak];exact hi)] at e1
   obtain⟨_,_,_,z,_⟩:=jJ hd e1
   cases z
  ·rw[gp (by rw[ak];omega),fj] at e1
   split at e1<;>cases e1
 ·rcases z with z|z
  ·exact .inr (.inl z)
  ·exact .inr (.inr (.inr z))
theorem Sv.rV(hB:dz H b l)(hl:ir nb H)(hb:nb b)(hd:af nb H ds vs)(aI:∀f d v H',Φ f d->bz (Nb b) H H'->dz H' b l->ai (fun a=>nb a\/(f=true/\H a≠none)) H' d v->Q v H')
    (cM:ρ= .ay::ds.map (Sl.d false)++List.replicate (N.length-(ds.length+1)) .no) (h:Sv ⟨some (b,l),H,nb,[]⟩ ρ t {nx:=fun _=>Φ true .none,rt:=Φ}):t {nx:=fun _ H'=>Q .aL H',rt:=Q} (start N (.ref b::vs)) H:=by
  have hlen:=hd.length
  have lV:∀a,a≠b->NB (some (b,l)) a:=fun a n b' l' e=>by cases e;exact n
  have Xs:∀a,¬NB (some (b,l)) a->a=b:=fun a n=>gU fun z=>n (lV a z)
  have bt:∀{bB ρ' σ' H'},Wd ⟨some (b,l),H,nb,[]⟩ bB ρ' σ' H'->bz (Nb b) H H':=fun W a o n e=>W.old a o (lV a n) e
  have bg:∀{bB ρ' σ' H'},Wd ⟨some (b,l),H,nb,[]⟩ bB ρ' σ' H'->dz H' b l:=fun W=>W.ay b l rfl
  refine h (fun _=>False) _ H _ ⟨fun b' l' e=>(by cases e;exact hB),fun _ z=>z.elim,fun _ _ _ e=>e,fun _ z=>z.elim,hl,?_,fun b' l' e=>(by cases e;exact hB),fun _ m=>(by cases m),fun i s e=>?_,?_,?_,?_⟩ ⟨fun bB ρ' σ' H' q W=>aI _ _ _ _ q (bt W) (bg W) .aL,fun _ _ _ _ q _=>q.elim,fun _ _ _ _ q _=>q.elim,fun bB ρ' σ' f v H' d q W hv=>aI f d v H' q (bt W) (bg W) (hv.av fun a z=>?_),fun _ _ _ _ _ q _=>q.elim⟩
  · rw[cM];unfold start;simp[hlen]
  · rw[cM] at e
    unfold start
    cases i with
    |zero=>simp at e;subst e;exact⟨some (.ref b),by simp,b,l,rfl,rfl⟩
    | succ i =>
      simp only[jT,jI,bC,fB] at e⊢
      by_cases hi:i<ds.length
      · rw[fY (by rw[ak];exact hi)] at e
        obtain⟨v,d,hv,rfl,q⟩:=jJ hd e
        refine⟨some v,?_,v,rfl,q.av fun a z=>?_⟩
        · rw[fY (by rw[ak,hlen];exact hi),bu,hv];rfl
        · rcases z with z|z|z|z
          · exact z.elim
          · exact z
          · rw[Xs a z];exact hb
          · cases z.1
      · rw[gp (by rw[ak];omega),fj] at e
        split at e
        · rename_i h'
          cases e
          refine⟨none,?_,trivial⟩
          rw[ak] at h'
          rw[gp (by rw[ak];omega),fj,if_pos (by rw[ak,hlen];exact h')]
        · cases e
  · intro i j a f as c g cs hij e1
    rw[cM] at e1
    cases i with
    |zero=>simp at e1
    | succ i =>
      simp only[jT,jI] at e1
      by_cases hi:i<ds.length
      · rw[fY (by rw[ak];exact hi)] at e1
        obtain⟨_,_,_,z,_⟩:=jJ hd e1
        cases z
      · rw[gp (by rw[ak];omega),fj] at e1
        split at e1<;>cases e1
  · intro i j a f as c g cs hij e1
    rw[cM] at e1
    cases i with
    |zero=>simp at e1
    | succ i =>
      simp only[jT,jI] at e1
      by_cases hi:i<ds.length
      · rw[fY (by rw[ak];exact hi)] at e1
        obtain⟨_,_,_,z,_⟩:=jJ hd e1
        cases z
      · rw[gp (by rw[ak];omega),fj] at e1
        split at e1<;>cases e1
  · intro i j c t hij e1
    rw[cM] at e1
    cases i with
    |zero=>simp at e1
    | succ i =>
      simp only[jT,jI] at e1
      by_cases hi:i<ds.length
      · rw[fY (by rw[ak];exact hi)] at e1
        obtain⟨_,_,_,z,_⟩:=jJ hd e1
        cases z
      · rw[gp (by rw[ak];omega),fj] at e1
        split at e1<;>cases e1
  · rcases z with z|z
    · exact .inr (.inl z)
    · exact .inr (.inr (.inr z))
def Ef(b l:Addr)(H:Hp):Gx:=⟨some (b,l),H,fun _=>False,[]⟩
theorem L8{a:Addr}{m:Nat}(hB:dz H b l):Wd (Ef b l H) (fun _=>False) (.raw (.ref a):: .ay::List.replicate m .no) (some (.ref a)::some (.ref b)::List.replicate m none) H:=by
  refine⟨fun b' l' e=>(by cases e;exact hB),fun _ z=>z.elim,fun _ _ _ e=>e,fun _ z=>z.elim,fun _ z=>z.elim,by simp,fun b' l' e=>(by cases e;exact hB),fun _ m=>(by cases m),fun i s e=>?_,?_,?_,?_⟩
  · match i with
    |0=>simp at e;subst e;exact⟨_,rfl,rfl⟩
    |1=>simp at e;subst e;exact⟨some (.ref b),rfl,b,l,rfl,rfl⟩
    | i + 2 =>
      simp only[jI,fj] at e⊢
      split at e
      · rename_i h;cases e;exact⟨none,if_pos h,trivial⟩
      · cases e
  · intro i j a f as c g cs hij e1
    match i with
    |0=>simp at e1
    |1=>simp at e1
    | i + 2 =>
      simp only[jI,fj] at e1
      split at e1<;>cases e1
  · intro i j a f as c g cs hij e1
    match i with
    |0=>simp at e1
    |1=>simp at e1
    | i + 2 =>
      simp only[jI,fj] at e1
      split at e1<;>cases e1
  · intro i j c t hij e1
    match i with
    |0=>simp at e1
    |1=>simp at e1
    | i + 2 =>
      simp only[jI,fj] at e1
      split at e1<;>cases e1
theorem Ev.YL{G:Gx}{i:Nat}{a:Addr}{ns:List Int}{K:PySem.W.Frag}(e:ρ[i]?=some (.raw (.ref a)))(hS:aS K G.H0 a (ns.map V.int))(h:Φ true (.int ns.length)):Ev G ρ (gC (gc K) (cA (dG i) cL)) Φ:=fun nb σ H Q W z=>by
 obtain⟨x,e1,h1⟩:=W.ok i _ e
 have h1:x=some (.ref a):=h1
 subst h1
 have hS':aS K H a (ns.map V.int):=by
  rcases hS with hr|hk
  ·have hn:NB G.B a:=fun b l hb z=>by
    subst z
    obtain⟨_,_,_,_,_,g1,_⟩:=W.gB _ _ hb
    rcases hr with hr|⟨o,hr⟩
    ·rw[g1] at hr
     have:=HO.lst.inj (fN hr)
     cases ns with
     |nil=>cases this
     |cons n r=>rw[bC] at this;cases (uF this).1
    ·rw[g1] at hr;cases hr
   rcases hr with hr|⟨o,hr⟩
   ·exact .inl (.inl (W.old _ _ hn hr))
   ·exact .inl (.inr ⟨o,W.old _ _ hn hr⟩)
  ·exact .inr hk
 refine⟨.ref a,e1,a,_,rfl, .inl hS',?_⟩
 rw[ak]
 exact z true _ H _ h (.refl W.ay) (.int _)
theorem Nq{D:Ends}(h2:∀H,D.rt (.bl true) H):Be (Ef b l H) {nx:=fun _=>False,rt:=fun _ d=>d= .bool true} D:=
 ⟨fun _ _ _ _ q _=>q.elim,fun _ _ _ _ q _=>q.elim,fun _ _ _ _ q _=>q.elim,fun _ _ _ f v H d q _ hv=>by subst q;unfold ai at hv;subst hv;exact h2 H,fun _ _ _ _ _ q _=>q.elim⟩
end
namespace R
theorem di{P:Int->Prop}{i:Int}(h:P i):∃j,PyData.int i= .int j/\P j:=⟨i,rfl,h⟩
theorem db{P:Bool->Prop}{i:Bool}(h:P i):∃j,PyData.bool i= .bool j/\P j:=⟨i,rfl,h⟩
theorem dl{P:List PyData->Prop}{i:List PyData}(h:P i):∃j,PyData.list i= .list j/\P j:=⟨i,rfl,h⟩
theorem dt{P:List PyData->Prop}{i:List PyData}(h:P i):∃j,PyData.tuple i= .tuple j/\P j:=⟨i,rfl,h⟩
theorem Sq{P:List PyData->Prop}{i:List PyData}(h:P i):∃j,(PyData.list i= .list j\/PyData.list i= .tuple j)/\P j:=⟨i, .inl rfl,h⟩
theorem VC{P:List PyData->Prop}{i:List PyData}(h:P i):∃j,(PyData.tuple i= .list j\/PyData.tuple i= .tuple j)/\P j:=⟨i, .inr rfl,h⟩
theorem Sx{P:Bool->Prop}{i j:Int}(h:P (decide (i=j))):∃b,jf (.int i) (.int j) b/\P b:=⟨_, .ii i j,h⟩
theorem at_{ds:List PyData}{k:Int}{e:PyData}{P:PyData->Prop}(h:bH ds k=some e)(q:P e):∃e,bH ds k=some e/\P e:=⟨e,h,q⟩
theorem Tf{A:Prop}(q:A):([]:List Fd).length<=10000/\A:=⟨by decide,q⟩
theorem Ss{C A:Prop}(c:C)(q:A):C/\A:=⟨c,q⟩
end R
theorem gx{n:Nat}{F:DF}{vs:List V}{H:Hp}{Q:VK}{E:XK}(h:bI n F vs H Q E):∃(nb:Addr->Prop) (ds:List PyData) (Φ:Pd),ir nb H/\af nb H ds vs/\(∀f d v H',Φ f d->cy H H'->ai (fun a=>nb a\/(f=true/\H a≠none)) H' d v->Q v H')/\F ds Φ:=by
 obtain⟨_,nb,ds,h1,h2,h3⟩:=h
 exact⟨nb,ds,_,h1,h2,fun f d v H' q=>q v H',h3⟩
theorem tO{n:Nat}{F:DF}{vs:List V}{H:Hp}{Q:VK}{E:XK}(h:iK n F vs H Q E):∃(b l:Addr) (ws:List V) (nb:Addr->Prop) (ds:List PyData) (Φ:Pd),vs= .ref b::ws/\dz H b l/\ir nb H/\nb b/\af nb H ds ws/\(∀f d v H',Φ f d->bz (Nb b) H H'->dz H' b l->ai (fun a=>nb a\/(f=true/\H a≠none)) H' d v->Q v H')/\F ds Φ:=by
 obtain⟨_,b,l,ws,nb,ds,e,hB,h1,hb,h2,h3⟩:=h
 exact⟨b,l,ws,nb,ds,_,e,hB,h1,hb,h2,fun f d v H' q=>q v H',h3⟩
end L2
set_option maxRecDepth 100000
set_option maxHeartbeats 1000000
namespace L2
open PySem PySem.Spec PyProof.Rows
abbrev az:=List (Int×Int)
abbrev Wo:=List (Option Int)
abbrev br(prs:az):PyData:= .list (prs.map pairD)
abbrev lN(wd:Wo):PyData:= .list (wd.map fE)
abbrev bV(p n:Int)(cs:List az):PyData:= .tuple [.int p, .int n, .list (cs.map br)]
def Po(prs:az)(m:Nat):Prop:=∀pr∈prs,0<=pr.1/\pr.1<m/\Sm pr.2
def WQ(wd:Wo):Prop:=∀x,some x∈wd->Sm x
theorem ny{α β:Type}{xs:List α}(φ:α->β){k:Int}{m:Nat}(h0:0<=k)(h1:k<m)(hm:m=xs.length):∃x,xs[k.toNat]?=some x/\bH (xs.map φ) k=some (φ x):=by
 have hk:k.toNat<xs.length:=by omega
 exact⟨xs[k.toNat],aF hk,fh h0 (by rw[bu,aF hk];rfl)⟩
theorem fq{α β:Type}{xs:List α}{φ:α->β}{i:Nat}{d:β}(h:(xs.map φ)[i]?=some d):∃x,xs[i]?=some x/\d=φ x:=by
 rw[bu] at h
 obtain⟨x,hx,e⟩:=jx.mp h
 exact⟨x,hx,e.symm⟩
theorem take_snoc{α:Type}{xs:List α}{i:Nat}{x:α}(h:xs[i]?=some x):xs.take (i+1)=xs.take i++[x]:=by
 rw[nZ,h];rfl
theorem qb(o:Option Int):vA (fE o)=o.isNone:=by cases o<;>rfl
end L2
set_option maxRecDepth 100000
set_option maxHeartbeats 4000000
namespace L2
open PySem PySem.Spec PyProof.Rows
structure Eu(p b L lt r t:Int):Prop where
 l0:0<L
 r0:0<=r
 lp:L<=p
 rp:r<=p
 lc:∃k,L=lt*b+p*k
 rc:∃k,r=t*b+p*k
 dv:∀d,d∣L->d∣r->d∣p/\d∣b%p
 sz:(t.natAbs:Int)*L+(lt.natAbs:Int)*r<=p
theorem Eu.start{p b:Int}(hp:2<=p):Eu p b p 0 (b%p) 1:=by
 have m1:=eG b (show p≠0 by omega)
 have m2:=e7 b (show 0<p by omega)
 refine⟨by omega,m1,yO _,by omega,⟨1,by rw[fF,mV,oK]⟩,⟨-(b/p),?_⟩,fun d h1 h2=>⟨h1,h2⟩,?_⟩
 ·have:=yr b p
  rw[qv,Int.mul_neg]
  omega
 ·show(1:Int)*p+0*(b%p)<=p
  rw[qv,fF]
  omega
theorem Eu.tb{p b L lt r t:Int}(h:Eu p b L lt r t): -p<=t/\t<=p:=by
 have h1:(t.natAbs:Int)*1<=(t.natAbs:Int)*L:=zm (by have:=h.l0;omega) (by omega)
 have h2:0<=(lt.natAbs:Int)*r:=Int.mul_nonneg (by omega) h.r0
 have:=h.sz
 omega
theorem Eu.next{p b L lt r t:Int}(h:Eu p b L lt r t)(hr:0<r):Eu p b r t (L-L/r*r) (lt-L/r*t)/\L-L/r*r<r:=by
 have e:=yr L r
 have m1:=eG L (show r≠0 by omega)
 have m2:=e7 L hr
 have e':L-L/r*r=L%r:=by rw[nY (L/r) r];omega
 have q0:0<=L/r:=ya (by have:=h.l0;omega) (by omega)
 obtain⟨k1,c1⟩:=h.lc
 obtain⟨k2,c2⟩:=h.rc
 refine⟨⟨hr,by omega,h.rp,by have:=h.rp;omega,h.rc,⟨k1-L/r*k2,?_⟩,fun d d1 d2=>?_,?_⟩,by omega⟩
 ·rw[Int.sub_mul,kU]
  generalize L/r=q at*
  have z:q*r=q*(t*b)+q*(p*k2):=by rw[<-Int.mul_add,<-c2]
  have z1:q*(t*b)=q*t*b:=(rA q t b).symm
  have z2:q*(p*k2)=p*(q*k2):=by rw[<-rA,nY q p,rA]
  omega
 ·have dL:d∣L:=by
   have z:d∣(L-L/r*r)+L/r*r:=q9 d2 (ou d1)
   have z2:(L-L/r*r)+L/r*r=L:=by omega
   rwa[z2] at z
  exact h.dv d dL d1
 ·generalize L/r=q at*
  have a1:((lt-q*t).natAbs:Int)<=(lt.natAbs:Int)+q*(t.natAbs:Int):=by
   have b1:(lt-q*t).natAbs<=lt.natAbs+(q*t).natAbs:=by omega
   have b2:((q*t).natAbs:Int)=q*(t.natAbs:Int):=by
    rw[Int.natAbs_mul]
    have:(q.natAbs:Int)=q:=by omega
    rw[Int.natCast_mul,this]
   omega
  have a2:((lt-q*t).natAbs:Int)*r<=((lt.natAbs:Int)+q*(t.natAbs:Int))*r:=Int.mul_le_mul_of_nonneg_right a1 (by omega)
  have a3:((lt.natAbs:Int)+q*(t.natAbs:Int))*r=(lt.natAbs:Int)*r+q*(t.natAbs:Int)*r:=Int.add_mul _ _ _
  have a4:(t.natAbs:Int)*(L-q*r)=(t.natAbs:Int)*L-q*(t.natAbs:Int)*r:=by
   rw[kU,<-rA,nY (t.natAbs:Int) q]
  have:=h.sz
  omega
theorem KZ{α:Type}{us:List α}(h:us.length=1):∃a,us=[a]:=by
  cases us with
  |nil=>cases h
  | cons a us =>
    cases us with
    |nil=>exact⟨a,rfl⟩
    |cons _ _=>cases h
theorem ln2{α:Type}{us:List α}(h:us.length=2):∃a b,us=[a,b]:=by
  cases us with
  |nil=>cases h
  | cons a us =>
    obtain⟨b,rfl⟩:=KZ (us:=us) (D4 h)
    exact⟨a,b,rfl⟩
theorem Ge{α:Type}{us:List α}(h:us.length=3):∃a b c,us=[a,b,c]:=by
  cases us with
  |nil=>cases h
  | cons a us =>
    obtain⟨b,c,rfl⟩:=ln2 (us:=us) (D4 h)
    exact⟨a,b,c,rfl⟩
theorem SS{α:Type}{us:List α}(h:us.length=4):∃a b c d,us=[a,b,c,d]:=by
  cases us with
  |nil=>cases h
  | cons a us =>
    obtain⟨b,c,d,rfl⟩:=Ge (us:=us) (D4 h)
    exact⟨a,b,c,d,rfl⟩
end L2
set_option maxRecDepth 100000
set_option maxHeartbeats 1000000
set_option maxRecDepth 100000
set_option maxHeartbeats 4000000
set_option maxRecDepth 100000
set_option maxHeartbeats 4000000
namespace L2
open PySem PySem.Spec PyProof.Rows
section
variable{prog:Program}{w:World}{A:Around}{R:Result->Shared->Prop}{I:Addr}{fp wr:List Addr}{G:Array GenState->Array GenState->Prop}{n:Nat}{P:Nat->Value->Prop}{St:Nat->Shared->Prop}{bt:Bool}
abbrev met(val:Nat->Int)(i:Nat):Int->Bool:=fun k=>(firstMet val i).any (· ==k)
end
end L2
set_option maxRecDepth 100000
set_option maxHeartbeats 4000000
set_option maxRecDepth 100000
set_option maxHeartbeats 4000000
set_option maxRecDepth 100000
set_option maxHeartbeats 4000000
set_option maxRecDepth 100000
set_option maxHeartbeats 4000000
set_option maxRecDepth 100000
set_option maxHeartbeats 4000000
namespace L2
open PySem PySem.Spec PyProof.Rows
theorem J5:∀{ns:List Int} {us:List Value},Vals (ns.map V.int) us->IntsAre us ns
  |[],_, .nil=> .nil
  | n :: ns, _, .cons r t => by
    obtain⟨k,rfl⟩:=r
    exact .cons n k (J5 t)
theorem JW:∀{us:List Value} {ns:List Int},IntsAre us ns->Vals (ns.map V.int) us
 |_,_, .nil=> .nil
 |_,_, .cons k t h=> .cons ⟨t,rfl⟩ (JW h)
end L2
set_option maxRecDepth 100000
set_option maxHeartbeats 4000000
set_option maxRecDepth 100000
set_option maxHeartbeats 4000000
set_option maxRecDepth 100000
set_option maxHeartbeats 4000000
set_option maxRecDepth 100000
set_option maxHeartbeats 4000000
set_option maxRecDepth 100000
set_option maxHeartbeats 4000000
set_option maxRecDepth 100000
set_option maxHeartbeats 4000000
set_option maxRecDepth 100000
set_option maxHeartbeats 4000000
set_option maxRecDepth 100000
set_option maxHeartbeats 4000000
set_option maxRecDepth 100000
set_option maxHeartbeats 4000000
set_option maxRecDepth 100000
set_option maxHeartbeats 4000000
set_option maxRecDepth 100000
set_option maxHeartbeats 4000000
set_option maxRecDepth 100000
set_option maxHeartbeats 4000000
namespace L2
open PySem PySem.Spec PyProof.Rows
def Kd:List V->Hp->VK->Prop:=fun xs H Q=>∃j:Int,xs=[.int j]/\∀a,H a=none->Q (.ref a) (upd H a (.mq 0 j))
def zL:List V->Hp->VK->Prop:=fun xs H Q=>∃(a:Addr) (lo hi:Int),xs=[.ref a]/\H a=some (.mq lo hi)/\(-10000<=lo/\lo<=10000/\ -10000<=hi/\hi<=10000)/\∀l,H l=none->Q (.ref l) (upd H l (.lst (((List.range (hi-lo).toNat).map fun(i:Nat)=>lo+(i:Int)).map V.int)))
def uO(K:PySem.W.Frag):List V->Hp->VK->Prop:=fun xs H Q=>∃p,∃ns:List Int,xs=[.ref p]/\aS K H p (ns.map V.int)/\Q (.int ns.sum) H
def qd(K:PySem.W.Frag):List V->Hp->VK->Prop:=fun xs H Q=>∃p,∃bs:List Bool,xs=[.ref p]/\aS K H p (bs.map V.bl)/\Q (.bl (bs.all id)) H
section
variable{X:Cx}
theorem Bc:gR X (.type "range") Kd:=by
 intro pins s σ H xs us Q I rv h
 obtain⟨j,rfl,q⟩:=h
 obtain⟨u,rfl,ru⟩:=vals1 rv
 obtain⟨t,rfl⟩:=ru
 refine call_range_1 ?_
 exact⟨.ref s.heap.objs.size,_,I.laid (t':=s.toks+1+1) (o:= .mq 0 j) (fun b o e=>dw _ e) (bh _) ⟨_,_,_,gH _ rfl⟩,rfl,q _ (I.hok.fresh (bh _))⟩
theorem Du(hc:X.calm=true):gR X (.type "list") zL:=by
  intro pins s σ H xs us Q I rv h
  obtain⟨a,lo,hi,rfl,hH,hb,q⟩:=h
  obtain⟨u,rfl,ru⟩:=vals1 rv
  cases ru
  obtain⟨t,u,v,e⟩:=(show cD X.prog X.w H s.heap a (.mq lo hi) from I.hok a _ hH)
  refine call_list_range (n:=(hi-lo).toNat) (I.ok.hd hc) (show IsRange s.heap a lo hi 1 t u v from e) (small_one (by omega) (by omega) (by omega) (by omega)) (rangeSize_nat lo hi) (by omega) fun h' tk acc c' kp hl hi'=>?_
  have vv:Vals (((List.range (hi-lo).toNat).map fun(i:Nat)=>lo+(i:Int)).map V.int) acc.toList:=by
    have key:∀(n:Nat) (l:List Value),l.length=n->∀b:Int,(∀(j:Nat) (v:Value),l[j]?=some v->∃t,v=Value.int (b+(j:Int)) t)->Vals (((List.range n).map fun(i:Nat)=>b+(i:Int)).map V.int) l:=by
      intro n
      induction n with
      |zero=>intro l hl b _;rw[tB.mp hl];exact .nil
      | succ n ih =>
        intro l hl b hv
        cases l with
        |nil=>cases hl
        | cons x r =>
          obtain⟨t,e⟩:=hv 0 x rfl
          rw[Kv,bC,bC]
          refine .cons ⟨t,by simpa using e⟩ ?_
          have:=ih r (by simpa using hl) (b+1) (fun j v e=>by
            obtain⟨t,z⟩:=hv (j+1) v (by simpa using e)
            exact⟨t,by rw[z];congr 1;omega⟩)
          rw[fZ] at this⊢
          rw[fZ]
          have e:∀i:Nat,((V.int∘fun(i:Nat)=>b+(i:Int))∘Nat.succ) i=(V.int∘fun(i:Nat)=>b+1+(i:Int)) i:=fun i=>by
            show V.int (b+((i+1:Nat):Int))=V.int (b+1+(i:Int));congr 1;omega
          rw[nk fun i _=>e i]
          exact this
    refine key _ _ (by rw[sr];exact hi'.1) lo fun j v e=>?_
    obtain⟨t,z⟩:=hi'.2 j v (by rw[<-qg];exact e)
    exact⟨t,by rw[z];congr 1;omega⟩
  refine⟨.ref s.heap.objs.size,_,I.laid (t':=tk) (o:= .lst (((List.range (hi-lo).toNat).map fun(i:Nat)=>lo+(i:Int)).map V.int)) kp (bh _) ⟨?_,acc.toList,c',vv,by simpa using hl⟩,rfl,q _ (I.hok.fresh (bh _))⟩
  rw[ak,ak,fk]
  exact cX (show(hi-lo).toNat<=20000 by omega) (by decide)
theorem Jw(hc:X.calm=true):gR X (.builtin "sum") (uO X.K):=by
 intro pins s σ H xs us Q I rv h
 obtain⟨p,ns,rfl,hp,q⟩:=h
 obtain⟨u,rfl,ru⟩:=vals1 rv
 cases ru
 obtain⟨its,rs,il,hz⟩:=I.list hp
 have hI:=J5 rs
 obtain⟨ys,e⟩:=hI.allInts.items
 have hn:=hI.numsOf
 refine sum_intListG (xs:=ys) (I.ok.hd hc) (by rw[<-e];exact il.isList) fun h' tk t' kp=>?_
 have e2:preSum (numAt ys) ys.size=ns.sum:=by
  rw[preSum_eq,xF (by simp),<-nums_intItems,<-e,<-hn]
 rw[e2]
 exact⟨.int ns.sum,H,I.kept kp,⟨_,rfl⟩,q⟩
theorem tX(hc:X.calm=true):gR X (.builtin "all") (qd X.K):=by
  intro pins s σ H xs us Q I rv h
  obtain⟨p,bs,rfl,hp,q⟩:=h
  obtain⟨u,rfl,ru⟩:=vals1 rv
  cases ru
  obtain⟨its,rs,il,hz⟩:=I.list hp
  have hl:=rs.length
  have hv:∀(i:Nat) (v:Value),its.toArray[i]?=some v->v= .bool (bs.getD i false):=fun i v e=>by
    have hi:i<bs.length:=by
      have:=(Array.getElem?_eq_some_iff.mp e).1
      rw[ak] at hl
      simp at this;omega
    obtain⟨u,hu,ru⟩:=rs.get (i:=i) (x:= .bl bs[i]) (by rw[bu,aF hi];rfl)
    rw[GR,hu] at e
    cases e
    rw[bf,aF hi]
    exact ru
  have ll:=il.isList
  have hlt:p<s.heap.objs.size:=by obtain⟨o,e,_⟩:=ll;exact bG e
  refine call_all_walk (wpAny_pyIter_list ll ⟨s.heap.objs.size,_,_,_,_,_,fun i=>bs.getD i false,rfl,Walks.list (A:=X.A.in1) (I.ok.hd hc) _ p (dW hlt) its.toArray,⟨⟨_,gH _ rfl,rfl,rfl⟩,ll.push _⟩,fun i v s Q E hP hQ=>?_,fun h' tk kp=>?_⟩)
  · rw[hv i v hP];exact wpAny_truthy_bool hQ
  · have e:(List.range its.toArray.size).all (fun i=>bs.getD i false)=bs.all id:=by
      have hs:its.toArray.size=bs.length:=by rw[ak] at hl;simp;omega
      rw[hs]
      clear hv hl rs q hp hs hz
      induction bs with
      |nil=>rfl
      | cons b r ih =>
        rw[fB,Kv,qD,qD,vm]
        simpa[Function.comp_def] using congrArg (b && ·) ih
    rw[e]
    refine⟨.bl (bs.all id),H,I.kept fun b o q=>kp b o (fun m=>?_) (dw _ q),rfl,q⟩
    have:=bF.mp m
    rw[this] at q
    exact absurd (bG q) (g5 _)
end
section
variable{G:Gx}{ρ:Rh}{te:TE}{K:PySem.W.Frag}{Φ:Pd}
theorem aD.Dq{Θ:Bool->List PyData->Prop}(h:Ev G ρ te fun _ x=>∃n:Int,x= .int n/\ -10000<=n/\n<=10000/\Θ true (((List.range n.toNat).map fun(i:Nat)=>(0:Int)+(i:Int)).map .int)):aD G ρ (gC zL (cA (gC Kd (cA te cL)) cL)) Θ:=fun nb σ H Q W z=>
 h nb σ H _ W fun f v H1 x ⟨n,ex,h1,h2,q⟩ s1 hv=>by
  subst ex
  rw[hv.bZ]
  refine⟨n,rfl,fun a ha=>⟨a,0,n,rfl,aY,by omega,fun l hl=>?_⟩⟩
  rw[nC]
  exact aD.fin (f:=true) W (s1.trans (.same s1.2 (cH ha))) hl (DR _) q z
theorem Ev.sum(h:Ev G ρ te fun _ x=>∃ns:List Int,x= .list (ns.map .int)/\Φ true (.int ns.sum)):Ev G ρ (gC (uO K) (cA te cL)) Φ:=fun nb σ H Q W z=>
 h nb σ H _ W fun f v H1 x ⟨ns,ex,q⟩ s1 hv=>by
  subst ex
  obtain⟨a,xs,rfl,na,hx,hd⟩:=hv.cQ
  have e:=CK hd
  subst e
  exact⟨a,ns,rfl, .of hx,z true _ H1 _ q s1 (.int _)⟩
theorem Hz{nb:Addr->Prop}{H:Hp}:∀{is:List Bool} {xs:List V},af nb H (is.map PyData.bool) xs->xs=is.map V.bl
  |[],_,h=>by unfold List.map af at h;exact h
  | i :: is, _, h => by
    rw[bC] at h
    unfold af at h
    obtain⟨y,ys,rfl,h1,h2⟩:=h
    unfold ai at h1
    rw[bC,h1,Hz h2]
theorem Ev.all(h:Ev G ρ te fun _ x=>∃bs:List Bool,x= .list (bs.map .bool)/\Φ true (.bool (bs.all id))):Ev G ρ (gC (qd K) (cA te cL)) Φ:=fun nb σ H Q W z=>
 h nb σ H _ W fun f v H1 x ⟨bs,ex,q⟩ s1 hv=>by
  subst ex
  obtain⟨a,xs,rfl,na,hx,hd⟩:=hv.cQ
  have e:=Hz hd
  subst e
  exact⟨a,bs,rfl, .of hx,z true _ H1 _ q s1 (.bl _)⟩
end
end L2
set_option maxRecDepth 100000
set_option maxHeartbeats 4000000
namespace L2
open PySem PySem.Spec PyProof.Rows
def JM:PyData->String->Bool
 | .bool _,T=>T=="bool" ||T=="int"
 | .int _,T=>T=="int"
 | .str _,T=>T=="str"
 | .list _,T=>T=="list"
 | .tuple _,T=>T=="tuple"
 |_,_=>false
def Kn:PyData->String
 | .none=> "NoneType" | .bool _=> "bool" | .int _=> "int" | .str _=> "str" | .list _=> "list" | .tuple _=> "tuple" | .dict _=> "dict"
theorem OD{K:PySem.W.Frag}{nb:Addr->Prop}{H:Hp}{d:PyData}{v:V}(h:ai nb H d v):iX K H v (.type (Kn d)):=by
 cases d<;>unfold ai at h
 ·subst h;exact .aL
 ·subst h;exact .bl _
 ·subst h;exact .int _
 ·subst h;exact .str _
 ·obtain⟨a,xs,rfl,_,e,_⟩:=h;exact .lst e
 ·obtain⟨a,xs,rfl,_,e,_⟩:=h;exact .tup e
 ·obtain⟨a,xs,rfl,_,e,_⟩:=h;exact e.elim .dK fun⟨_,e⟩=> .G6 e
def Io(T:String):Prop:=T="int" \/T="bool" \/T="list" \/T="tuple" \/T="str"
theorem Lo{K:PySem.W.Frag}{d:PyData}{T:String}(hT:Io T):PySem.W.kitOne K (.type (Kn d)) (.type T)=some (JM d T):=by
 rcases hT with rfl|rfl|rfl|rfl|rfl<;>cases d<;>(with_unfolding_all rfl)
section
variable{G:Gx}{ρ:Rh}{ta tb te:TE}{K:PySem.W.Frag}{Φ:Pd}{T U:String}
theorem Ev.Ra(hT:Io T)(h:Ev G ρ te fun _ x=>Φ true (.bool (JM x T))):Ev G ρ (gC (mY K) (cA te (cA (tC (.ty T)) cL))) Φ:=fun nb σ H Q W z=>
 h nb σ H _ W fun f v H1 d q s1 hv=>⟨v,T,_,_,rfl,OD hv,Lo hT,z true _ H1 _ q s1 (.bl _)⟩
theorem Ev.O9(h:Ev G ρ te fun _ x=>∃ds,(x= .list ds\/x= .tuple ds)/\Φ true (.int ds.length)):Ev G ρ (gC (gc K) (cA te cL)) Φ:=fun nb σ H Q W z=>
 h nb σ H _ W fun f v H1 d ⟨ds,e,q⟩ s1 hv=>by
  rcases e with e|e
  ·subst e
   obtain⟨a,xs,rfl,n,hx,hd⟩:=hv.cQ
   exact⟨a,xs,rfl, .inl (.of hx),by rw[hd.length];exact z true _ H1 _ q s1 (.int _)⟩
  ·subst e
   obtain⟨a,xs,rfl,n,hx,hd⟩:=hv.ofT
   exact⟨a,xs,rfl, .inr (.of hx),by rw[hd.length];exact z true _ H1 _ q s1 (.int _)⟩
theorem Ev.KC(h:Ev G ρ ta fun f x=>∃ds,(x= .list ds\/x= .tuple ds)/\Ev G ρ tb fun _ y=>∃k,y= .int k/\∃e,bH ds k=some e/\Φ f e):Ev G ρ (cK (SR K) ta tb) Φ:=
 Ev.jw (h.mono fun f x ⟨ds,ex,q⟩=>q.mono fun g y ⟨k,ey,e,he,p⟩ nb σ H u v Q W hu hv z=>by
  subst ey
  rcases ex with ex|ex
  ·subst ex
   obtain⟨a,xs,rfl,n,hx,hd⟩:=hu.cQ
   obtain⟨w,hw,hD⟩:=hd.bH he
   exact .inl ⟨a,xs,k,w,rfl,hv.bZ, .of hx,hw,z f _ H _ p (.refl W.ay) hD⟩
  ·subst ex
   obtain⟨a,xs,rfl,n,hx,hd⟩:=hu.ofT
   obtain⟨w,hw,hD⟩:=hd.bH he
   exact .inr (.inl ⟨a,xs,k,w,rfl,hv.bZ, .of hx,hw,z f _ H _ p (.refl W.ay) hD⟩))
end
end L2
set_option maxRecDepth 100000
set_option maxHeartbeats 4000000
namespace L2
open PySem PySem.Spec PyProof.Rows
section
variable{G:Gx}{ρ bM:Rh}{te:TE}{gt:TG}{n i:Nat}{it:Nat->PyData->Prop}{fi:Bool}{Θ:Bool->List PyData->Prop}{E:DE}
theorem ql(os:List Int):cV (os.map PyData.int)=true:=by
 unfold cV
 rw[jQ]
 intro x hx
 obtain⟨y,_,rfl⟩:=aN.mp hx
 rfl
theorem gS.rel{α:Type}(φ:α->PyData)(fl:Bool)(P:Nat->α->Prop)(ht:∀i d,it i d->Gv G bM gt fi d fun iI=>Wk bM iI/\Ev G iI te fun f e=>(fl=true->f=true)/\∃r:α,e=φ r/\P i r)
  (h:∀os:List α,os.length=n->(∀(i:Nat) x,os[i]?=some x->P i x)->Θ (fl||cV (os.map φ)) (os.map φ)):gS G bM n it fi gt xh te Θ:=by
 refine⟨fl,fun i ds=>ds.length=i/\∃os:List α,ds=os.map φ/\∀(i:Nat) x,os[i]?=some x->P i x,⟨rfl,[],rfl,fun j x e=>by simp at e⟩,?_,?_⟩
 ·rintro i d ds hd hl ⟨hl2,os,rfl,ho⟩
  refine fun nb σ H v Q W hv z=>ht i d hd nb σ H v Q W hv fun σ' ρ' ⟨w,q⟩ W'=>z σ' ρ' ⟨w,Tv.xA (Ah (q.mono fun f e ⟨hf,r,ee,hr⟩=>⟨hf,?_,os++[r],?_,fun j x hj=>?_⟩))⟩ W'
  ·rw[fm,j3,hl2]
  ·rw[ee];simp
  ·rw[ak] at hl2
   rcases Nat.lt_trichotomy j os.length with h|h|h
   ·exact ho j x (by rwa[fY h] at hj)
   ·subst h
    simp at hj
    subst hj
    rw[hl2];exact hr
   ·rw[gP (by rw[fm,j3];omega)] at hj
    cases hj
 ·rintro ds hl ⟨hl2,os,rfl,ho⟩
  exact h os (by rw[ak] at hl2;exact hl2) ho
theorem Sv.Ij(h:∀a,E.nx (ρ.set i (.own a true []))):Sv G ρ (ff (oN cL) (eX i)) E:=Sv.kF (aD.lst (Av.nil ⟨by decide,fun a=>h a⟩))
end
def OQ:R2:=fun x y H Q=>∃a b:Bool,x= .bl a/\y= .bl b/\Q (.bl (a==b)) H
theorem Ev.Ye{G:Gx}{ρ:Rh}{ta:TE}{b:Bool}{Φ:Pd}(h:Ev G ρ ta fun _ x=>∃a,x= .bool a/\Φ true (.bool (a==b))):Ev G ρ (cK OQ ta (tC (.bl b))) Φ:=fun nb σ H Q W z=>
 h nb σ H _ W fun f v H1 d ⟨a,e,q⟩ s1 hv=>by
  subst e
  unfold ai at hv
  subst hv
  exact⟨a,b,rfl,rfl,z true _ H1 _ q s1 (.bl _)⟩
theorem jn{X:Cx}{K:PySem.W.Frag}{a:Expr}{ta:TE}(hK:X.K=K)(ha:PE X a ta)(he:∀whole,isTrue a X.env whole=(do let v<-whole;standAt a.pos;holding [v] (truthy v))):PT X a (Ic K ta):=by
 subst hK
 exact Ql ha he
theorem g7{X:Cx}{K:PySem.W.Frag}{es:List Expr}{k:Nat}{t:iH}{n:Nat}{pos:Pos}(hK:X.K=K)(hc:X.calm=true)(h:rM X es t)(hn:(assignEach es X.env).length=n:=by rfl)(hst:(assignEach es X.env).findIdx? (·.1)=none:=by rfl):PG X (.Tuple es k pos) (rB K n t):=by
 subst hK
 exact FF hc h hn hst
theorem J0(ds:List PyData):PyData.eqv (.list ds) (.list [])=ds.isEmpty:=by cases ds<;>simp[PyData.eqv,PyData.eqvAll]
theorem IP(cs:List az):PyData.depthAll (cs.map br)<=2/\PyData.canLayAll0 (cs.map br)=true:=by
  induction cs with
  |nil=>simp[PyData.depthAll,PyData.canLayAll0]
  | cons a r ih =>
    have h:=FE a
    simp[PyData.depthAll,PyData.depth,PyData.canLayAll0,PyData.canLay0,ih.2,h.2.2]
    have:=ih.1
    have:=h.2.1
    omega
theorem Sv.p6{G:Gx}{ρ:Rh}{s:TS}{E:DE}(I:Rh->Prop)(h:Sv G ρ s {E with nx:=I})(hI:∀ρ',I ρ'->E.nx ρ'):Sv G ρ s E:=fun nb σ H D W K=>h nb σ H D W ⟨fun nb ρ σ H q W=>K.nx nb ρ σ H (hI ρ q) W,K.bk,K.ct,K.rt,K.rw⟩
theorem pick{L:List Int}{k:Int}(h0:0<=k)(h1:k<L.length)(P:Int->Prop)(hP:∀x∈L,P x):∃x,bH (L.map PyData.int) k=some (.int x)/\P x:=by
 have hL:k.toNat<L.length:=by omega
 exact⟨L[k.toNat],fh h0 (by rw[bu,aF hL];rfl),hP _ (c6 hL)⟩
end L2
set_option maxRecDepth 100000
set_option maxHeartbeats 4000000
namespace L2
open PySem PySem.Spec PyProof.Rows
theorem Az{α:Type}{xs:List α}{k:Int}(h0:0<=k)(h1:k<=xs.length):gz xs none (some k)=xs.take k.toNat:=by
 unfold gz HT.eB
 simp only[Ec,Nat.sub_zero]
 congr 1
 first|omega|(split<;>omega)
theorem Th(a b:az)(wd:Wo):aV (a++b) wd=aV a wd+aV b wd:=by
 unfold aV;rw[cE,qQ]
end L2
set_option maxRecDepth 100000
set_option maxHeartbeats 4000000
namespace L2
open PySem PySem.Spec PyProof.Rows
theorem Gi:∀xs ys:List Int,PyData.eqvAll (xs.map PyData.int) (ys.map PyData.int)=decide (xs=ys)
  |[],[]=>by simp[PyData.eqvAll]
  |[],y::ys=>by simp[PyData.eqvAll]
  |x::xs,[]=>by simp[PyData.eqvAll]
  | x :: xs, y :: ys => by
    simp only[bC,PyData.eqvAll,Gi xs ys]
    have:PyData.eqv (.int x) (.int y)=decide (x=y):=by rw[k9];simp[PyData.eqv]
    rw[this,k9]
    simp
theorem UD(xs ys:List Int):PyData.eqv (.list (xs.map .int)) (.list (ys.map .int))=decide (xs=ys):=by
 simp only[PyData.eqv]
 exact Gi xs ys
theorem shaped_ints(xs:List Int):SeqAt.shaped (.list (xs.map .int))=true:=by
 have h:=QU (xs.map some)
 have e:(xs.map some).map fE=xs.map PyData.int:=by rw[fZ];rfl
 rw[e] at h
 unfold SeqAt.shaped
 simp[PyData.canLay0,PyData.depth,h.1,h.2]
theorem Xa{w:List Int}{pr:Int×Int}{x:Int}(h:w[pr.1.toNat]?=some x):jC (w.map some) pr=pr.2*x:=by
 unfold jC
 rw[bu,h];rfl
end L2
set_option maxRecDepth 100000
set_option maxHeartbeats 4000000
namespace L2
open PySem PySem.Spec PyProof.Rows
def FW(K:PySem.W.Frag)(te:TE)(ts:TO):TE:=fun σ H Q=>te σ H fun x H1=>ts σ H1 fun k H2=>k=some (-1)/\∃a xs,x= .ref a/\aS K H2 a xs/\∀p,H2 p=none->Q (.ref p) (upd H2 p (.lst xs.reverse))
theorem af.rev{nb:Addr->Prop}{H:Hp}:∀{ds:List PyData} {xs:List V},af nb H ds xs->af nb H ds.reverse xs.reverse
  |[],xs,h=>by unfold af at h;subst h;exact .nil
  | d :: ds, xs, h => by
    unfold af at h
    obtain⟨y,ys,e,h1,h2⟩:=h
    subst e
    rw[List.reverse_cons,List.reverse_cons]
    exact af.append (af.rev h2) (.cons h1 .nil)
section
variable{G:Gx}{ρ:Rh}{Φ:Pd}{ta tb te:TE}{K:PySem.W.Frag}
theorem aD.rev{ts:TO}{Θ:Bool->List PyData->Prop}(h:Ev G ρ te fun f x=>∃ds,x= .list ds/\Ov G ρ ts fun o=>o=some (-1)/\Θ (f||cV ds.reverse) ds.reverse):aD G ρ (FW K te ts) Θ:=fun nb σ H Q W z=>
 h nb σ H _ W fun f v H1 d ⟨ds,e,q⟩ s1 hv=>q nb σ H1 _ (W.step s1) fun o H2 ⟨eo,q2⟩ s2=>by
  subst e
  obtain⟨a,xs,rfl,n,hx,hd⟩:=(hv.keep s2.cN).cQ
  exact⟨eo,a,xs,rfl, .of hx,fun p hp=>aD.fin W (s1.trans s2) hp hd.rev q2 z⟩
theorem Ev.rev{ts:TO}(h:Ev G ρ te fun f x=>∃ds,x= .list ds/\Ov G ρ ts fun o=>o=some (-1)/\Φ (f||cV ds.reverse) (.list ds.reverse)):Ev G ρ (FW K te ts) Φ:=(aD.rev (Θ:=fun f ds=>Φ f (.list ds)) h).ev
theorem Ev.YC{ng:Bool}(h:Ev G ρ ta fun _ x=>∃k:Int,x= .int k/\Ev G ρ tb fun _ y=>∃ns:List Int,y= .list (ns.map .int)/\Φ true (.bool (decide (k∈ns) !=ng))):Ev G ρ (cK (Tt K ng) ta tb) Φ:=fun nb σ H Q W z=>
 h nb σ H _ W fun f v H1 d ⟨k,e,q⟩ s1 hv=>q nb σ H1 _ (W.step s1) fun g u H2 d2 ⟨ns,e2,p⟩ s2 hu=>by
  subst e e2
  have hk:=hv.bZ
  subst hk
  obtain⟨a,xs,rfl,na,hx,hd⟩:=hu.cQ
  have ex:=CK hd
  subst ex
  refine⟨a,ns.map V.int,rfl, .inl (.of hx),rfl,?_,?_⟩
  ·rw[jQ]
   intro x hx
   obtain⟨o,_,rfl⟩:=aN.mp hx
   rfl
  ·have e:p8 (V.int k) (ns.map V.int)=decide (k∈ns):=by
    unfold p8
    rw[List.any_map,k9,C9,decide_eq_true_eq]
    constructor
    ·rintro⟨o,m,h⟩
     have:o=k:=eq_of_beq h
     exact this▸m
    ·intro m
     exact⟨k,m,beq_self_eq_true k⟩
   have e2:(if ng=true then !p8 (V.int k) (ns.map V.int) else p8 (V.int k) (ns.map V.int))=(decide (k∈ns) !=ng):=by
    rw[e]
    cases ng<;>simp
   rw[e2]
   exact z true _ H2 _ p (s1.trans s2) (.bl _)
end
theorem pU(p n:Int)(cs:List az):SeqAt.shaped (bV p n cs)=true:=by
 have h1:=IP cs
 unfold SeqAt.shaped bV
 simp[PyData.canLay0,PyData.canLayAll0,PyData.depth,PyData.depthAll,h1.2]
 have:=h1.1
 omega
end L2
set_option maxRecDepth 100000
set_option maxHeartbeats 1000000
namespace PC
def aM(n:Nat):Prop:=2<=n/\∀d,d∣n->d=1\/d=n
def tr(q:Nat):Nat->Nat->Bool
 |0,_=>false
 |f+1,d=>if q<d*d then true else if q%d=0 then false else tr q f (d+1)
theorem JN{q:Nat}:∀{f d:Nat},tr q f d=true->∀e,d<=e->e*e<=q->q%e≠0
  |0,_,h=>by simp[tr] at h
  | f + 1, d, h => by
    intro e hde hee
    unfold tr at h
    by_cases h1:q<d*d
    · have:=Nat.mul_le_mul hde hde
      omega
    · rw[if_neg h1] at h
      by_cases h2:q%d=0
      · rw[if_pos h2] at h;cases h
      · rw[if_neg h2] at h
        by_cases h3:d=e
        · rw[<-h3];exact h2
        · exact JN h e (by omega) hee
theorem Jd{q:Nat}(h2:2<=q)(h:∀e,2<=e->e*e<=q->q%e≠0):aM q:=by
 refine⟨h2,fun d hd=>?_⟩
 obtain⟨e,he⟩:=hd
 by_cases d1:d=1
 ·exact .inl d1
 by_cases e1:e=1
 ·right;rw[he,e1,uS]
 exfalso
 have d0:d≠0:=fun z=>by rw[z,u6] at he;omega
 have e0:e≠0:=fun z=>by rw[z,Nat.mul_zero] at he;omega
 by_cases hle:d<=e
 ·refine h d (by omega) (by rw[he];exact Nat.mul_le_mul_left d hle) ?_
  rw[he];exact Nat.mul_mod_right d e
 ·refine h e (by omega) (by rw[he];exact Nat.mul_le_mul_right e (by omega)) ?_
  rw[he];exact Nat.mul_mod_left d e
theorem cC(f:Nat){q:Nat}(h2:2<=q)(h:tr q f 2=true):aM q:=Jd h2 (JN h)
def pw(N:Nat):Nat->Nat->Nat->Nat->Nat
 |0,_,_,acc=>acc
 |f+1,e,g,acc=>pw N f (e/2) (g*g%N) (if e%2=1 then acc*g%N else acc)
theorem JK{N:Nat}:∀(f e g acc:Nat),e<2^f->pw N f e g acc%N=acc*g^e%N
  | 0, e, g, acc, h => by
    have:e=0:=by simp at h;exact h
    subst this
    simp[pw]
  | f + 1, e, g, acc, h => by
    have h2:e/2<2^f:=by rw[CW] at h;omega
    unfold pw
    rw[JK f _ _ _ h2]
    have e2:g^e=(g*g)^(e/2)*g^(e%2):=by
      conv=>lhs;rw[<-Dy e 2]
      rw[xu,Nat.pow_mul,Nat.pow_two]
    have m1:(g*g%N)^(e/2)%N=(g*g)^(e/2)%N:=(Nat.pow_mod _ _ _).symm
    rw[e2]
    by_cases ho:e%2=1
    · rw[if_pos ho,ho,Nat.pow_one,l5,m1,C3,<-l5]
      congr 1
      rw[qL,nA g]
    · have ho':e%2=0:=by omega
      rw[if_neg ho,ho',Ez,uS,l5,m1,<-l5]
theorem RP{P:Nat->Prop}:∀n,P n->∃m,P m/\∀k,k<m->¬P k:=by
  intro n
  induction n using Nat.strongRecOn with
  | _ n ih =>
    intro h
    by_cases hk:∃k,k<n/\P k
    · obtain⟨k,hk1,hk2⟩:=hk
      exact ih k hk1 hk2
    · exact⟨n,h,fun k hk1 hk2=>hk ⟨k,hk1,hk2⟩⟩
theorem J8:∀(n:Nat) (f:Nat->Nat),(∀i,i<n+1->f i<n)->∃i j,i<j/\j<n+1/\f i=f j
  |0,f,h=>absurd (h 0 (by omega)) (by omega)
  | n + 1, f, h => by
    by_cases he:∃i,i<n+1/\f i=f (n+1)
    · obtain⟨i,h1,h2⟩:=he
      exact⟨i,n+1,h1,by omega,h2⟩
    · have hne:∀i,i<n+1->f i≠f (n+1):=fun i hi e=>he ⟨i,hi,e⟩
      have X6:=h (n+1) (by omega)
      obtain⟨i,j,h1,h2,h3⟩:=J8 n (fun i=>if f i=n then f (n+1) else f i) (fun i hi=>by
        have g1:=h i (by omega)
        have g2:=hne i hi
        by_cases c:f i=n
        · simp only[c,if_true]
          have:f (n+1)≠n:=fun z=>g2 (c.trans z.symm)
          omega
        · simp only[c,if_false]
          omega)
      refine⟨i,j,h1,by omega,?_⟩
      have gi:=hne i (by omega)
      have gj:=hne j (by omega)
      by_cases ci:f i=n
      · by_cases cj:f j=n
        · rw[ci,cj]
        · simp only[ci,cj,if_true,if_false] at h3
          exact absurd h3.symm gj
      · by_cases cj:f j=n
        · simp only[ci,cj,if_true,if_false] at h3
          exact absurd h3 gi
        · simpa only[ci,cj,if_false] using h3
def j7:List (Nat×Nat)->Nat
 |[]=>1
 |qe::r=>Nat.lcm (qe.1^qe.2) (j7 r)
theorem IA{o:Nat}:∀{fs:List (Nat×Nat)},(∀qe∈fs,qe.1^qe.2∣o)->j7 fs∣o
 |[],_=>⟨o,by simp[j7]⟩
 |qe::r,h=>Nat.lcm_dvd (h qe dj) (IA fun x hx=>h x (bY _ hx))
theorem So{q m:Nat}(hq:aM q)(h:¬q∣m):Nat.Coprime q m:=by
 rcases hq.2 _ (Nat.gcd_dvd_left q m) with e|e
 ·exact e
 ·exact absurd (e▸Nat.gcd_dvd_right q m) h
theorem Wc{q m:Nat}(h:Nat.Coprime q m)(e:Nat):Nat.Coprime (q^e) m:=Nat.Coprime.pow_left e h
theorem Np(a b c d:Nat):(a%d)*(b%d)%d*(c%d)%d=a*b*c%d:=by
 rw[<-l5 a b,<-l5 (a*b) c]
theorem FP{N g d:Nat}{fs:List (Nat×Nat)}(hN:2<=N)(hd:d∣N)(d1:1<d)(h1:g^(N-1)%N=1%N)
  (hq:∀qe∈fs,aM qe.1/\qe.1^qe.2∣N-1/\Nat.gcd (g^((N-1)/qe.1)%N+(N-1)) N=1):j7 fs<d:=by
 have down:∀{a b:Nat},a%N=b%N->a%d=b%d:=fun{a b} e=>by
  rw[<-zE a hd,e,zE b hd]
 have one:1%d=1:=Nat.mod_eq_of_lt d1
 have f1:g^(N-1)%d=1:=by rw[down h1,one]
 obtain⟨o,⟨o0,o1⟩,Jp⟩:=RP (P:=fun k=>0<k/\g^k%d=1) (N-1) ⟨by omega,f1⟩
 have per:∀q r:Nat,g^(o*q+r)%d=g^r%d:=fun q r=>by
  rw[xu,Nat.pow_mul,l5,Nat.pow_mod,o1,Nat.one_pow,one,ye,C3]
 have PY:∀k,g^k%d=1->o∣k:=fun k hk=>by
  have e:=Dy k o
  rw[<-e,per] at hk
  by_cases h0:k%o=0
  ·exact JO h0
  ·exact absurd ⟨by omega,hk⟩ (Jp (k%o) (Nat.mod_lt _ o0))
 have od:=PY _ f1
 have parts:j7 fs∣o:=IA fun qe vS=>by
  obtain⟨pq,⟨c,hc⟩,gq⟩:=hq qe vS
  obtain⟨m,hm⟩:=od
  by_cases sZ:qe.1∣m
  ·exfalso
   obtain⟨m',hm'⟩:=sZ
   have q0:0<qe.1:=by have:=pq.1;omega
   have ek:(N-1)/qe.1=o*m':=by
    rw[hm,hm',show o*(qe.1*m')=qe.1*(o*m') by rw[<-qL,nA o,qL],Nat.mul_div_cancel_left _ q0]
   have e1:g^((N-1)/qe.1)%d=1:=by
    have:=per m' 0
    rw[Nat.add_zero,Ez,one] at this
    rw[ek];exact this
   have e2:d∣g^((N-1)/qe.1)%N+(N-1):=by
    have e3:(g^((N-1)/qe.1)%N)%d=1:=by rw[zE _ hd];exact e1
    obtain⟨k,hk⟩:=hd
    have e4:=Dy (g^((N-1)/qe.1)%N) d
    rw[e3] at e4
    refine⟨(g^((N-1)/qe.1)%N)/d+k,?_⟩
    rw[Nat.mul_add,<-hk]
    omega
   have e5:=Nat.dvd_gcd e2 hd
   rw[gq] at e5
   have:=As (by omega) e5
   omega
  ·have cp:=Wc (So pq sZ) qe.2
   have Xz:qe.1^qe.2∣o*m:=⟨c,by rw[<-hm];exact hc⟩
   exact cp.dvd_of_dvd_mul_right Xz
 have Pg:o<d:=by
  refine Nat.lt_of_not_le fun hle=>?_
  have unit:∀i,i<=N-1->(g^i%d)*(g^(N-1-i)%d)%d=1:=fun i hi=>by
   rw[<-l5,<-xu,show i+(N-1-i)=N-1 by omega];exact f1
  have YI:o<=N-1:=As (by omega) od
  have pos:∀i,i<o->0<g^i%d:=fun i hi=>by
   refine Nat.pos_of_ne_zero fun z=>?_
   have:=unit i (by omega)
   rw[z,u6,Nat.zero_mod] at this
   cases this
  obtain⟨i,j,h1,h2,h3⟩:=J8 (d-1) (fun i=>g^i%d-1) (fun i hi=>by
   have a1:=pos i (by omega)
   have a2:=Nat.mod_lt (g^i) (show d>0 by omega)
   omega)
  have pi:=pos i (by omega)
  have pj:=pos j (by omega)
  have e:g^i%d=g^j%d:=by omega
  have ej:g^j=g^i*g^(j-i):=by rw[<-xu,show i+(j-i)=j by omega]
  have u:=unit i (by omega)
  have k1:g^(j-i)%d=1:=by
   have w:(g^i%d)*(g^(N-1-i)%d)%d*(g^(j-i)%d)%d=(g^j%d)*(g^(N-1-i)%d)%d:=by
    rw[Np,<-l5 (g^j),ej]
    congr 1
    rw[qL,qL,nA (g^(N-1-i))]
   rw[u,ye,C3,<-e,u] at w
   exact w
  exact Jp (j-i) (by omega) ⟨by omega,k1⟩
 exact Nat.lt_of_le_of_lt (As o0 parts) Pg
theorem LR{N g:Nat}(fs:List (Nat×Nat))(hN:2<=N)(h1:g^(N-1)%N=1%N)
  (hq:∀qe∈fs,aM qe.1/\qe.1^qe.2∣N-1/\Nat.gcd (g^((N-1)/qe.1)%N+(N-1)) N=1) (hF:N<(j7 fs+1)*(j7 fs+1)):aM N:=by
 refine⟨hN,fun d hd=>?_⟩
 obtain⟨e,he⟩:=id hd
 by_cases d1:d=1
 ·exact .inl d1
 by_cases e1:e=1
 ·right;rw[he,e1,uS]
 exfalso
 have d0:d≠0:=fun z=>by rw[z,u6] at he;omega
 have e0:e≠0:=fun z=>by rw[z,Nat.mul_zero] at he;omega
 have b1:=FP hN hd (by omega) h1 hq
 have b2:=FP hN ⟨d,by rw[he,nA]⟩ (show 1<e by omega) h1 hq
 have:=Nat.mul_le_mul (show j7 fs+1<=d from b1) (show j7 fs+1<=e from b2)
 omega
def EG(N g:Nat)(fs:List (Nat×Nat)):Bool:=
 decide (2<=N) && decide (N<2^140) &&(pw N 140 (N-1) g 1%N==1) && fs.all (fun qe=>((N-1)%qe.1^qe.2==0) &&(Nat.gcd (pw N 140 ((N-1)/qe.1) g 1%N+(N-1)) N==1)) && decide (N<(j7 fs+1)*(j7 fs+1))
theorem c7{N:Nat}(g:Nat)(fs:List (Nat×Nat))(hp:∀qe∈fs,aM qe.1)(h:EG N g fs=true):aM N:=by
 unfold EG at h
 simp only[fK,decide_eq_true_eq,beq_iff_eq,jQ] at h
 obtain⟨⟨⟨⟨h1,h2⟩,h3⟩,h4⟩,h5⟩:=h
 have P:∀e,e<=N-1->pw N 140 e g 1%N=g^e%N:=fun e he=>by
  rw[JK 140 e g 1 (by omega),ye]
 refine LR (g:=g) fs h1 (by rw[<-P _ (bh _),h3,Nat.mod_eq_of_lt (by omega)]) (fun qe vS=>?_) h5
 obtain⟨g1,g2⟩:=h4 qe vS
 refine⟨hp qe vS,JO g1,?_⟩
 rw[<-P _ (Nat.div_le_self _ _)]
 exact g2
end PC
set_option maxRecDepth 100000
set_option maxHeartbeats 1000000
namespace PC
theorem CD:aM 2:=cC 4 (by decide) (by decide+kernel)
theorem RX:aM 3:=cC 4 (by decide) (by decide+kernel)
theorem Xi:aM 5:=cC 5 (by decide) (by decide+kernel)
theorem EA:aM 7:=cC 5 (by decide) (by decide+kernel)
theorem PM:aM 11:=cC 6 (by decide) (by decide+kernel)
theorem OI:aM 101:=cC 13 (by decide) (by decide+kernel)
theorem VV:aM 10007:=cC 103 (by decide) (by decide+kernel)
theorem LU:aM 65537:=cC 259 (by decide) (by decide+kernel)
theorem NY:aM 1000003:=cC 1003 (by decide) (by decide+kernel)
theorem Vm:aM 17:=cC 7 (by decide) (by decide+kernel)
theorem R1:aM 998244353:=c7 3 [(17,1),(7,1),(2,23)] (fun qe h=>by
 simp only[bq,cR,or_false] at h
 rcases h with rfl|rfl|rfl
 ·exact Vm
 ·exact EA
 ·exact CD) (by decide+kernel)
theorem MM:aM 148721:=cC 388 (by decide) (by decide+kernel)
theorem MU:aM 500000003:=c7 2 [(148721,1)] (fun qe h=>by
 simp only[bq,cR,or_false] at h
 subst h;exact MM) (by decide+kernel)
theorem LO:aM 1000000007:=c7 2 [(500000003,1)] (fun qe h=>by
 simp only[bq,cR,or_false] at h
 subst h;exact MU) (by decide+kernel)
theorem Lg:aM 331:=cC 21 (by decide) (by decide+kernel)
theorem Ir:aM 151:=cC 15 (by decide) (by decide+kernel)
theorem L5:aM 2147483647:=c7 3 [(331,1),(151,1)] (fun qe h=>by
 simp only[bq,cR,or_false] at h
 rcases h with rfl|rfl
 ·exact Lg
 ·exact Ir) (by decide+kernel)
theorem Qg:aM 250049:=cC 503 (by decide) (by decide+kernel)
theorem Tp:aM 26005097:=c7 2 [(250049,1)] (fun qe h=>by
 simp only[bq,cR,or_false] at h
 subst h;exact Qg) (by decide+kernel)
theorem LW:aM 1000000000039:=c7 2 [(26005097,1)] (fun qe h=>by
 simp only[bq,cR,or_false] at h
 subst h;exact Tp) (by decide+kernel)
theorem Qn:aM 234931:=cC 487 (by decide) (by decide+kernel)
theorem OJ:aM 8740842787:=c7 2 [(234931,1)] (fun qe h=>by
 simp only[bq,cR,or_false] at h
 subst h;exact Qn) (by decide+kernel)
theorem XE:aM 52445056723:=c7 2 [(8740842787,1)] (fun qe h=>by
 simp only[bq,cR,or_false] at h
 subst h;exact OJ) (by decide+kernel)
theorem U9:aM 1000000000000000003:=c7 2 [(52445056723,1)] (fun qe h=>by
 simp only[bq,cR,or_false] at h
 subst h;exact XE) (by decide+kernel)
theorem WR:aM 15331:=cC 126 (by decide) (by decide+kernel)
theorem Qa:aM 2131:=cC 49 (by decide) (by decide+kernel)
theorem V5:aM 5594472617641:=c7 2 [(15331,1),(2131,1)] (fun qe h=>by
 simp only[bq,cR,or_false] at h
 rcases h with rfl|rfl
 ·exact WR
 ·exact Qa) (by decide+kernel)
theorem Vu:aM 18446744073709551557:=c7 2 [(5594472617641,1)] (fun qe h=>by
 simp only[bq,cR,or_false] at h
 subst h;exact V5) (by decide+kernel)
theorem UG:aM 1321:=cC 39 (by decide) (by decide+kernel)
theorem LA:aM 61:=cC 10 (by decide) (by decide+kernel)
theorem Vy:aM 2305843009213693951:=c7 3 [(1321,1),(331,1),(151,1),(61,1)] (fun qe h=>by
 simp only[bq,cR,or_false] at h
 rcases h with rfl|rfl|rfl|rfl
 ·exact UG
 ·exact Lg
 ·exact Ir
 ·exact LA) (by decide+kernel)
theorem N3:aM 8707:=cC 96 (by decide) (by decide+kernel)
theorem NN:aM 1913:=cC 46 (by decide) (by decide+kernel)
theorem TU:aM 2931542417:=c7 3 [(8707,1),(1913,1)] (fun qe h=>by
 simp only[bq,cR,or_false] at h
 rcases h with rfl|rfl
 ·exact N3
 ·exact NN) (by decide+kernel)
theorem To:aM 2113:=cC 48 (by decide) (by decide+kernel)
theorem VX:aM 683:=cC 29 (by decide) (by decide+kernel)
theorem O5:aM 618970019642690137449562111:=c7 3 [(2931542417,1),(2113,1),(683,1)] (fun qe h=>by
 simp only[bq,cR,or_false] at h
 rcases h with rfl|rfl|rfl
 ·exact TU
 ·exact To
 ·exact VX) (by decide+kernel)
theorem Vj:aM 1097:=cC 36 (by decide) (by decide+kernel)
theorem Rp:aM 131:=cC 14 (by decide) (by decide+kernel)
theorem Qh:aM 67254877:=c7 2 [(1097,1),(131,1)] (fun qe h=>by
 simp only[bq,cR,or_false] at h
 rcases h with rfl|rfl
 ·exact Vj
 ·exact Rp) (by decide+kernel)
theorem WY:aM 28059810762433:=c7 3 [(67254877,1)] (fun qe h=>by
 simp only[bq,cR,or_false] at h
 subst h;exact Qh) (by decide+kernel)
theorem Qp:aM 53:=cC 10 (by decide) (by decide+kernel)
theorem S5:aM 37:=cC 9 (by decide) (by decide+kernel)
theorem UW:aM 13:=cC 6 (by decide) (by decide+kernel)
theorem VI:aM 20394401:=c7 3 [(53,1),(37,1),(13,1)] (fun qe h=>by
 simp only[bq,cR,or_false] at h
 rcases h with rfl|rfl|rfl
 ·exact Qp
 ·exact S5
 ·exact UW) (by decide+kernel)
theorem M4:aM 162259276829213363391578010288127:=c7 3 [(28059810762433,1),(20394401,1)] (fun qe h=>by
 simp only[bq,cR,or_false] at h
 rcases h with rfl|rfl
 ·exact WY
 ·exact VI) (by decide+kernel)
theorem T5:aM 699053:=cC 839 (by decide) (by decide+kernel)
theorem Wv:aM 77158673929:=c7 3 [(699053,1)] (fun qe h=>by
 simp only[bq,cR,or_false] at h
 subst h;exact T5) (by decide+kernel)
theorem Xb:aM 649657:=cC 809 (by decide) (by decide+kernel)
theorem Xc:aM 92737:=cC 307 (by decide) (by decide+kernel)
theorem PB:aM 170141183460469231731687303715884105727:=c7 3 [(77158673929,1),(649657,1),(92737,1)] (fun qe h=>by
 simp only[bq,cR,or_false] at h
 rcases h with rfl|rfl|rfl
 ·exact Wv
 ·exact Xb
 ·exact Xc) (by decide+kernel)
theorem QS:aM 7963:=cC 92 (by decide) (by decide+kernel)
theorem PV:aM 3011:=cC 57 (by decide) (by decide+kernel)
theorem QM:aM 575438233:=c7 2 [(7963,1),(3011,1)] (fun qe h=>by
 simp only[bq,cR,or_false] at h
 rcases h with rfl|rfl
 ·exact QS
 ·exact PV) (by decide+kernel)
theorem Lx:aM 52316542391429:=c7 2 [(575438233,1)] (fun qe h=>by
 simp only[bq,cR,or_false] at h
 subst h;exact QM) (by decide+kernel)
theorem Og:aM 104633084782859:=c7 2 [(52316542391429,1)] (fun qe h=>by
 simp only[bq,cR,or_false] at h
 subst h;exact Lx) (by decide+kernel)
theorem OM:aM 179:=cC 16 (by decide) (by decide+kernel)
theorem RO:aM 31:=cC 8 (by decide) (by decide+kernel)
theorem Na:aM 7935071:=c7 2 [(179,1),(31,1)] (fun qe h=>by
 simp only[bq,cR,or_false] at h
 rcases h with rfl|rfl
 ·exact OM
 ·exact RO) (by decide+kernel)
theorem VE:aM 15870143:=c7 2 [(7935071,1)] (fun qe h=>by
 simp only[bq,cR,or_false] at h
 subst h;exact Na) (by decide+kernel)
theorem M1:aM 401321030361983486780957614729:=c7 2 [(104633084782859,1),(15870143,1)] (fun qe h=>by
 simp only[bq,cR,or_false] at h
 rcases h with rfl|rfl
 ·exact Og
 ·exact VE) (by decide+kernel)
theorem Tr:aM 1000000000000000000000000000000000000003:=c7 2 [(401321030361983486780957614729,1)] (fun qe h=>by
 simp only[bq,cR,or_false] at h
 subst h;exact M1) (by decide+kernel)
theorem XT:aM 25733:=cC 163 (by decide) (by decide+kernel)
theorem Vf:aM 1151:=cC 36 (by decide) (by decide+kernel)
theorem Td:aM 4916701379:=c7 2 [(25733,1),(1151,1)] (fun qe h=>by
 simp only[bq,cR,or_false] at h
 rcases h with rfl|rfl
 ·exact XT
 ·exact Vf) (by decide+kernel)
theorem Xl:aM 83:=cC 12 (by decide) (by decide+kernel)
theorem Me:aM 23:=cC 7 (by decide) (by decide+kernel)
theorem MN:aM 1676254721:=c7 5 [(83,1),(23,1),(7,3)] (fun qe h=>by
 simp only[bq,cR,or_false] at h
 rcases h with rfl|rfl|rfl
 ·exact Xl
 ·exact Me
 ·exact EA) (by decide+kernel)
theorem U0:aM 149927568276670622397029177:=c7 2 [(4916701379,1),(1676254721,1)] (fun qe h=>by
 simp only[bq,cR,or_false] at h
 rcases h with rfl|rfl
 ·exact Td
 ·exact MN) (by decide+kernel)
theorem TX:aM 9999999999999999999999999999999999999983:=c7 2 [(149927568276670622397029177,1)] (fun qe h=>by
 simp only[bq,cR,or_false] at h
 subst h;exact U0) (by decide+kernel)
end PC
namespace L2
open PC
def gZ(p:Int):Prop:=2<=p/\∀d:Int,0<d->d∣p->d=1\/d=p
theorem fu{n:Nat}(h:aM n):gZ (n:Int):=by
 refine⟨by have:=h.1;omega,fun d d0 hd=>?_⟩
 obtain⟨k,rfl⟩:=Kg (Int.le_of_lt d0)
 rcases h.2 k (Int.natCast_dvd_natCast.mp hd) with e|e
 ·left;rw[e];rfl
 ·right;rw[e]
theorem SM{p:Int}(h2:2<=p)(h:xD p):gZ p:=by
 obtain⟨n,rfl⟩:=Kg (show 0<=p by omega)
 refine fu (Jd (by omega) fun e e1 e2 e3=>?_)
 refine h (e:Int) (by omega) (by rw[<-Int.natCast_mul];exact Int.ofNat_le.mpr e2) ?_
 have:=congrArg (Nat.cast:Nat->Int) e3
 simpa using this
theorem Xx:∀p∈t9,gZ p:=by
 intro p hp
 simp only[t9,bq,cR,or_false] at hp
 rcases hp with rfl|rfl|rfl|rfl|rfl|rfl|rfl|rfl|rfl|rfl|rfl|rfl|rfl|rfl|rfl|rfl|rfl|rfl|rfl|rfl|rfl|rfl
 ·exact fu CD
 ·exact fu RX
 ·exact fu Xi
 ·exact fu EA
 ·exact fu CD
 ·exact fu PM
 ·exact fu OI
 ·exact fu VV
 ·exact fu LU
 ·exact fu NY
 ·exact fu R1
 ·exact fu LO
 ·exact fu L5
 ·exact fu LW
 ·exact fu U9
 ·exact fu Vu
 ·exact fu Vy
 ·exact fu O5
 ·exact fu M4
 ·exact fu PB
 ·exact fu Tr
 ·exact fu TX
def uE:Sp:=fun vs H Q _=>∃p b:Int,vs=[.int p, .int b]/\gZ p/\p<10^40/\b%p≠0/\∀u:Int,0<=u->u<p->(∃k,u*b=1+p*k)->Q (.int u) H
end L2
set_option maxRecDepth 100000
set_option maxHeartbeats 4000000
set_option maxRecDepth 100000
set_option maxHeartbeats 4000000
namespace L2
open PySem PySem.Spec PyProof.Rows
section
variable{X:Cx}{pins:List (Addr×Obj)}{σ:List (Option V)}{H:Hp}{s:Shared}{h':Heap}
theorem Inv.I0{t':Nat}{e it T:Addr}{o:HO}(I:Inv X pins σ H s)(k:∀b u,b≠e->b≠it->s.heap.get? b=some u->h'.get? b=some u)(fe:iA X pins H e)(fi:iA X pins H it)(hT:s.heap.objs.size<=T)(Af:T≠e)(nu:T≠it)
  (le:∃u,s.heap.get? e=some u) (li:∃u,s.heap.get? it=some u) (new:cD X.prog X.w (upd H T o) h' T o):Inv X pins σ (upd H T o) {s with heap:=h',toks:=t'}:=by
 have hn:=I.hok.fresh hT
 obtain⟨e0,e1,e2,e3,e4,e5⟩:=fe
 obtain⟨i0,i1,i2,i3,i4,i5⟩:=fi
 have ne:∀b u,H b=some u->b≠e:=fun b u q z=>by rw[z,e0] at q;cases q
 have ni:∀b u,H b=some u->b≠it:=fun b u q z=>by rw[z,i0] at q;cases q
 have nT:∀b u,H b=some u->b≠T:=fun b u q z=>by rw[z,hn] at q;cases q
 refine I.step (g':=s.gens) (d':=s.drawn) (ch:=[e,it]) (fun b hb=>?_) (fun b o _ _ hc q _=>k b o (fun z=>hc (by simp[z])) (fun z=>hc (by simp[z])) q) (fun b o _ _ hc q _=>⟨o.slots,k b o (fun z=>hc (by simp[z])) (fun z=>hc (by simp[z])) q⟩)
  (fun b o hc q n=>?_) (fun b o hc q=>⟨o,k b o (fun z=>hc (by simp[z])) (fun z=>hc (by simp[z])) q⟩) (fun b xs q=>by rw[aB (nT b _ q)];exact q) (fun b o u q=>by rw[aB (nT b _ q)];exact q) (fun b ps q=>⟨#[],by rw[aB (nT b _ q),q];simp⟩) (fun m hm=>?_) (fun b u q=>?_) I.bare
 ·rcases(show b=e\/b=it by simpa using hb) with z|z
  ·subst z;exact⟨e3,e1,e4,e5⟩
  ·subst z;exact⟨i3,i1,i4,i5⟩
 ·rw[aB (fun z=>absurd (eg (bG q) (by rw[z];exact hT)) (g5 _))];exact n
 ·obtain⟨o,es,ep,ho,r⟩:=hm
  exact⟨o,es,ep,k _ o (bx e1) (bx i1) ho,r⟩
 ·by_cases hb:b=T
  ·subst hb;rw[aY] at q;cases q;exact new
  ·rw[aB hb] at q
   refine(I.hok b u q).stay (fun c v hc z=>?_) (fun c z=>by rw[aB (nT c _ z)];exact z) fun c xs z=>by rw[aB (nT c _ z)];exact z
   rcases hc with y|y
   ·subst y;exact k _ v (ne _ u q) (ni _ u q) z
   ·exact k c v (ne c _ y) (ni c _ y) z
theorem Inv.JY{t':Nat}{e it:Addr}(I:Inv X pins σ H s)(k:∀b u,b≠e->b≠it->s.heap.get? b=some u->h'.get? b=some u)(fe:iA X pins H e)(fi:iA X pins H it):Inv X pins σ H {s with heap:=h',toks:=t'}:=by
 obtain⟨e0,e1,e2,e3,e4,e5⟩:=fe
 obtain⟨i0,i1,i2,i3,i4,i5⟩:=fi
 have ne:∀b u,H b=some u->b≠e:=fun b u q z=>by rw[z,e0] at q;cases q
 have ni:∀b u,H b=some u->b≠it:=fun b u q z=>by rw[z,i0] at q;cases q
 refine I.step (g':=s.gens) (d':=s.drawn) (ch:=[e,it]) (fun b hb=>?_) (fun b o _ _ hc q _=>k b o (fun z=>hc (by simp[z])) (fun z=>hc (by simp[z])) q) (fun b o _ _ hc q _=>⟨o.slots,k b o (fun z=>hc (by simp[z])) (fun z=>hc (by simp[z])) q⟩)
  (fun _ _ _ _ n=>n) (fun b o hc q=>⟨o,k b o (fun z=>hc (by simp[z])) (fun z=>hc (by simp[z])) q⟩) (fun _ _ q=>q) (fun _ _ _ q=>q) (fun b ps q=>⟨#[],by rw[q];simp⟩) (fun m hm=>?_) (fun b u q=>?_) I.bare
 ·rcases(show b=e\/b=it by simpa using hb) with z|z
  ·subst z;exact⟨e3,e1,e4,e5⟩
  ·subst z;exact⟨i3,i1,i4,i5⟩
 ·obtain⟨o,es,ep,ho,r⟩:=hm
  exact⟨o,es,ep,k _ o (bx e1) (bx i1) ho,r⟩
 ·refine(I.hok b u q).stay (fun c v hc z=>?_) (fun c z=>z) fun c xs z=>z
  rcases hc with y|y
  ·subst y;exact k _ v (ne _ u q) (ni _ u q) z
  ·exact k c v (ne c _ y) (ni c _ y) z
end
def wQ(K:PySem.W.Frag)(a:Addr):It:=
 ⟨fun i H=>∃xs x,aS K H a xs/\xs[i]?=some x,fun i H x H'=>∃p y,x= .ref p/\H p=none/\(∀xs,aS K H a xs->xs[i]?=some y)/\H'=upd H p (.tup [.int i,y]),fun i H=>∃xs,aS K H a xs/\xs.length=i⟩
theorem LM{P:Program}{w:World}{K:PySem.W.Frag}{elts:List Expr}{k:Nat}{pos:Pos}(a e it:Addr)(hei:e≠it):
  Turn P w K (.Tuple elts k pos) (wQ K a) [e,it] e (fun i h=>(∃old,IsEnum h e it i old)/\h.IsListIter it a i) where
 mem:=by simp
 obj:=fun i h st b hb=>by
  obtain⟨⟨old,s1⟩,⟨o,e1,c,d⟩⟩:=st
  rcases(show b=e\/b=it by simpa using hb) with z|z
  ·subst z
   exact⟨_,s1,fun v z=>by
    have z':Data.fields _=Data.cell v:=z
    cases z'⟩
  ·subst z
   exact⟨o,e1,fun v z=>by rw[d] at z;cases z⟩
 keep:=fun i h h' st k=>⟨let ⟨old,s1⟩:=st.1;⟨old,k e (by simp) _ s1⟩,st.2.at fun o q=>k it (by simp) o q⟩
 item:=by
  intro X hP hw hK hc i pins s σ H E I hf st hg
  subst hP hw hK
  obtain⟨xs,x,hq,hx⟩:=hg
  obtain⟨its,rv,p,hz⟩:=I.list hq
  obtain⟨u,hu,ru⟩:=rv.get hx
  have fe:=hf e (by simp)
  have fi:=hf it (by simp)
  obtain⟨⟨old,s1⟩,s2⟩:=st
  obtain⟨ol,l1,l2,l3⟩:=id p.isList
  obtain⟨oi,i1,i2,i3⟩:=id s2
  have yS:a≠e:=fun z=>by
   subst z
   rw[s1] at l1;cases l1
   exact absurd l2 (by simp)
  have hai:a≠it:=fun z=>by
   subst z
   rw[i1] at l1;cases l1
   rw[i2] at l2
   exact absurd l2 (by simp)
  have W:=WalksT.enumerate (prog:=X.prog) (w:=X.w) (I.ok.hd hc) e it a hei yS hai its.toArray
  have hi:i<its.toArray.size:=by
   have:=(aP.mp hu).1
   simpa using this
  refine W.item i s _ _ hi ⟨⟨old,s1⟩,s2,p.isList⟩ fun T vals h' tk hv hT Eh oG kp=>⟨.ref T,rfl,?_⟩
  refine W.go elts k pos i T _ _ _ oG fun h'' st' rT=>?_
  obtain⟨t,x',hx',AF⟩:=hv
  have NC:x'=u:=by
   have:its.toArray[i]?=some u:=by simpa using hu
   rw[hx'] at this;exact fN this
  subst NC AF
  have DS:=W.apart i T h' oG
  obtain⟨_,_,_,Af,nu⟩:=oG
  obtain⟨oT,t1,t2,nT,t3⟩:=Eh
  have t1':=rT T oT DS t1
  refine⟨.ref T,upd H T (.tup [.int i,x]),I.I0 (fun b v h1 h2 q=>rT b v (by simp[h1,h2]) (kp b v (by simp[h1,h2]) q)) fe fi hT Af nu ⟨_,s1⟩ ⟨_,i1⟩ ?_,rfl,⟨T,x,rfl,I.hok.fresh hT,fun ys hy=>by rw[I.vE hy hq];exact hx,rfl⟩,⟨st'.1,st'.2.1⟩,fun b hb=>?_⟩
  ·exact⟨by show 2<=sizeLine;decide,[.int i t,x'], .cons ⟨t,rfl⟩ (.cons ru .nil),oT,t1',t2,nT,t3⟩
  ·rw[aB,(hf b hb).1]
   rcases(show b=e\/b=it by simpa using hb) with z|z
   ·rw[z];exact bx Af
   ·rw[z];exact bx nu
 done:=by
  intro X hP hw hK hc i pins s σ H E I hf st hg
  subst hP hw hK
  obtain⟨xs,hq,hx⟩:=hg
  obtain⟨its,rv,p,hz⟩:=I.list hq
  have fe:=hf e (by simp)
  have fi:=hf it (by simp)
  obtain⟨⟨old,s1⟩,s2⟩:=st
  obtain⟨ol,l1,l2,l3⟩:=id p.isList
  obtain⟨oi,i1,i2,i3⟩:=id s2
  have hl:=rv.length
  have yS:a≠e:=fun z=>by
   subst z
   rw[s1] at l1;cases l1
   exact absurd l2 (by simp)
  have hai:a≠it:=fun z=>by
   subst z
   rw[i1] at l1;cases l1
   rw[i2] at l2
   exact absurd l2 (by simp)
  have W:=WalksT.enumerate (prog:=X.prog) (w:=X.w) (I.ok.hd hc) e it a hei yS hai its.toArray
  have hn:its.toArray.size=i:=by rw[cG];omega
  refine W.done s _ _ (by rw[hn];exact⟨⟨old,s1⟩,s2,p.isList⟩) fun h' tk kp=>⟨rfl,?_⟩
  exact I.JY (fun b v h1 h2 q=>kp b v (by simp[h1,h2]) q) fe fi
 self:=fun _ _ _ _ _ st h=>let ⟨old,s1⟩:=st.1;wpAny_pyIter_enum s1 h
def zf(K:PySem.W.Frag)(tl:TE):TI:=fun σ H R=>tl σ H fun x H1=>∃a,x= .ref a/\(∃xs,aS K H1 a xs)/\R (wQ K a) H1
theorem vO{X:Cx}{K:PySem.W.Frag}{elts:List Expr}{k:Nat}{tpos:Pos}{l:Expr}{tl:TE}{p pos:Pos}(hK:X.K=K)(hg:Gl X "enumerate")(hm:X.mg "enumerate"=none)(hl:PE X l tl)(hs:starEach [l] X.env=[(false,eval l X.env)]:=by rfl):
    PI X (.Tuple elts k tpos) (.Call (.Name "enumerate" p) [l] [] pos) (zf K tl):=by
  subst hK
  intro pins s σ H R I h
  have ha:PA X [l] (cA tl cL):=aa hl ao (by rw[hs];rfl)
  refine Call_ (lM I hg hm boot_enumerate (oW (aO (ha pos pins s σ H (fun vs H1=>match vs with|[x]=>∃a,x= .ref a/\(∃xs,aS X.K H1 a xs)/\R (wQ X.K a) H1|_=>False) I h) fun us s1 ⟨vs,H1,I1,r1,q1⟩=>?_) hs rfl))
  cases r1 with
  |nil=>exact q1.elim
  | cons r rr =>
    cases rr with
    |cons _ _=>exact q1.elim
    |nil=>
    obtain⟨a,e2,⟨xs,hq⟩,q⟩:=q1
    subst e2
    cases r
    obtain⟨its,rv,p,hz⟩:=I1.list hq
    obtain⟨m,hn,_⟩:=I1.loc
    refine enum_rows (h₀:={objs:= #[]}) (L:=X.env.locals) (m:=m) ⟨hn,fun b o z=>?_,fW _⟩ p.isList fun h' e1 e2 e3 e4 kp ne n1 n2 _ _=>?_
    · cases z
    refine wpAny_pyIter_enum e1 ?_
    have I2:Inv X pins σ H1 {s1 with heap:=h'}:=I1.kept (t':=s1.toks) kp
    refine⟨s1.heap.objs.size+1,[s1.heap.objs.size+1,s1.heap.objs.size],_,_,H1,rfl,I2,LM a _ _ ne,⟨⟨_,e1⟩,e2⟩,fun b hb=>?_,q⟩
    rcases(show b=s1.heap.objs.size+1\/b=s1.heap.objs.size by simpa using hb) with z|z
    · subst z;exact I1.om (tE _) (I1.hok.fresh (tE _))
    · subst z;exact I1.om (bh _) (I1.hok.fresh (bh _))
end L2
set_option maxRecDepth 100000
set_option maxHeartbeats 4000000
namespace L2
open PySem PySem.Spec PyProof.Rows
theorem R.Tn{K:PySem.W.Frag}{a:Addr}{xs:List V}{g:TG}{tc:TT}{te:TE}{acc:Addr}{Qe:Hp->Prop}{σ:St}{H:Hp}(Pv:Nat->St->Hp->Prop)(h0:Pv 0 σ H)(hl:∀i σ H,i<=xs.length->Pv i σ H->aS K H a xs)
  (hs:∀i x σ H p,xs[i]?=some x->Pv i σ H->H p=none->g (.ref p) σ (upd H p (.tup [.int i,x])) fun σ2 H2=>tc σ2 H2 fun b H3=>if b=true then te σ2 H3 fun v H4=>∃ys,H4 acc=some (.lst ys)/\ys.length<sizeLine/\Pv (i+1) σ2 (upd H4 acc (.lst (ys++[v]))) else Pv (i+1) σ2 H3)
  (hd:∀σ H,Pv xs.length σ H->Qe H):mG (wQ K a) g tc te acc Qe σ H:=by
 refine⟨fun i m σ H=>m=xs.length-i/\i<=xs.length/\Pv i σ H,⟨xs.length,by simp,fW _,h0⟩,?_⟩
 rintro i m σ H ⟨rfl,hi,p⟩
 have q:=hl i σ H hi p
 by_cases hlt:i<xs.length
 ·refine .inr ⟨⟨xs,xs[i],q,by simp[hlt]⟩,Pv (i+1),fun σ' H' p'=>⟨xs.length-(i+1),by omega,rfl,hlt,p'⟩,fun x H' y=>?_⟩
  obtain⟨pp,y,e,hn,hy,e2⟩:=y
  subst e e2
  exact hs i y σ H pp (hy xs q) p hn
 ·have e:i=xs.length:=by omega
  subst e
  exact .inl ⟨⟨xs,q,rfl⟩,hd σ H p⟩
section
variable{G:Gx}{ρ bM:Rh}{te:TE}{s:TS}{gt:TG}{E:DE}{K:PySem.W.Frag}{Θ:Bool->List PyData->Prop}{tc:TT}{mp:List (Option Nat)}
theorem Sv.CZ(h:Ev G ρ te fun f x=>∃ds,x= .list ds/\∀v,tR (G.hd f (.list ds) v) ρ ds.length (fun i d=>∃e,ds[i]?=some e/\d= .tuple [.int i,e]) f gt s E):Sv G ρ (qp (zf K te) gt s) E:=fun nb σ H D W KK=>
 h nb σ H _ W fun f v H1 x ⟨ds,ex,q⟩ s1 hv=>by
  subst ex
  obtain⟨I,h0,ht,he⟩:=q v
  have W1:=(W.step s1).hd hv
  obtain⟨a,xs,rfl,n,hx,hd⟩:=hv.cQ
  have key:∀{nb ρ' σ H},Wd (G.hd f (.list ds) (.ref a)) nb ρ' σ H->∃xs,H a=some (.lst xs)/\af (G.S nb f) H ds xs:=fun W=>by
   obtain⟨a',xs',e',_,h',d'⟩:=W.c8.2.cQ
   cases e'
   exact⟨xs',h',d'⟩
  refine⟨a,rfl,⟨xs, .of hx⟩,?_⟩
  refine⟨fun i m σ H=>m=ds.length-i/\i<=ds.length/\∃nb ρ',I i ρ'/\Wd (G.hd f (.list ds) (.ref a)) nb ρ' σ H,⟨ds.length,by simp,fW _,nb,ρ,h0,W1⟩,?_⟩
  rintro i m σ H ⟨rfl,hi,nb,ρ',hI,W⟩
  obtain⟨ys,hy,hD⟩:=key W
  have hl:=hD.length
  by_cases hlt:i<ds.length
  ·refine .inr ⟨⟨ys,ys[i]'(by omega), .of hy,aF _⟩,fun σ H=>∃nb ρ',I (i+1) ρ'/\Wd (G.hd f (.list ds) (.ref a)) nb ρ' σ H,fun σ' H' q=>⟨ds.length-(i+1),by omega,rfl,hlt,q⟩,fun x H' y=>?_⟩
   obtain⟨p,y,e,hn,hz,e2⟩:=y
   subst e e2
   have hx:=hz ys (.of hy)
   obtain⟨x',hx',dx⟩:=hD.get (aF hlt)
   rw[hx] at hx';cases hx'
   have st:Step (G.hd f (.list ds) (.ref a)).B H (upd H p (.tup [.int i,y])):= .same W.ay (cH hn)
   refine ht i _ ρ' ⟨_,aF hlt,rfl⟩ hI nb σ _ _ _ (W.step st) (.tup (W.fresh hn) aY (.cons (.int _) (.cons (dx.keep st.cN) .nil))) fun σ2 gM q W2=>q nb σ2 _ _ W2 ?_
   exact⟨fun nb ρ σ H q W=>⟨nb,ρ,q,W⟩,fun nb ρ σ H q W=>KK.nx nb ρ σ H q W.c8.1,fun nb ρ σ H q W=>⟨nb,ρ,q,W⟩,fun nb ρ σ f v H d q W hv=>KK.rt nb ρ σ f v H d q W.c8.1 hv,fun nb ρ σ v H q W=>KK.rw nb ρ σ v H q W.c8.1⟩
  ·have e:i=ds.length:=by omega
   subst e
   exact .inl ⟨⟨ys, .of hy,by omega⟩,KK.nx nb ρ' σ H (he ρ' hI) W.c8.1⟩
theorem aD.Oj{t0:TE}(hm:(mp.filterMap id).Nodup)(cM:kc mp ρ=bM)(h:Ev G ρ t0 fun fi x=>∃es,x= .list es/\es.length<=10000/\∀v,gS (G.hd fi (.list es) v) bM es.length (fun i d=>∃e,es[i]?=some e/\d= .tuple [.int i,e]) fi gt tc te Θ):aD G ρ (kG (zf K t0) gt tc te mp) Θ:=fun nb σ H Q W z=>
 h nb σ H _ W fun fi v H1 x ⟨es,ex,hn,q⟩ s1 hv=>by
  subst ex
  obtain⟨fl,I,h0,ht,he⟩:=q v
  have W0:=(W.step s1).hd hv
  obtain⟨a,xs,rfl,n,hx,hd⟩:=hv.cQ
  refine⟨a,rfl,⟨xs, .of hx⟩,fun acc hacc=>?_⟩
  have mQ:Wd (G.hd fi (.list es) (.ref a)) nb bM (L2.eZ mp σ) H1:=by rw[<-cM];exact W0.eZ hm
  have W1:=mQ.more hacc (o:= .lst [])
  have hN:=NB.new s1.2 hacc
  have hno:=se mQ hacc
  have jG:Step G.B H1 (upd H1 acc (.lst [])):= .same s1.2 (cH hacc)
  have nq:NB G.B a:=gU fun z=>n (.inr (.inr (.inl z)))
  refine R.Tn (xs:=xs) (fun i σ H=>∃ds ys,Wd (G.hd fi (.list es) (.ref a)) (fun x=>nb x\/x=acc) bM σ H/\Step G.B H1 H/\H acc=some (.lst ys)/\af (G.S (fun x=>nb x\/x=acc) fl) H ds ys/\ds.length<=i/\I i ds/\H a=some (.lst xs)) ⟨[],[],W1,jG,aY, .nil,bh _,h0,jG.1 _ _ nq hx⟩ ?_ ?_ ?_
  ·rintro i σ H hi ⟨ds,ys,W,st,_,_,_,_,ha⟩
   exact .of ha
  ·rintro i x σ H p hi ⟨ds,ys,W,st,hy,hd',hl,hI,ha⟩ hp
   obtain⟨a',xs',e',_,h',d'⟩:=W.c8.2.cQ
   cases e'
   rw[ha] at h';cases h'
   have hil:i<es.length:=by have:=(aP.mp hi).1;have:=d'.length;omega
   obtain⟨x',hx',dx⟩:=d'.get (aF hil)
   rw[hi] at hx';cases hx'
   have st2:Step (G.hd fi (.list es) (.ref a)).B H (upd H p (.tup [.int i,x])):= .same W.ay (cH hp)
   have hap:acc≠p:=fun z=>by subst z;rw[hp] at hy;cases hy
   have YH:a≠p:=fun z=>by subst z;rw[hp] at ha;cases ha
   refine rF (G:=G.hd fi (.list es) (.ref a)) hn hil (W.step st2) (.inr rfl) hN hno (st.trans st2) hacc (by rw[aB hap];exact hy) (hd'.keep st2.cN) hl (.tup (W.fresh hp) aY (.cons (.int _) (.cons (dx.keep st2.cN) .nil))) (ht i _ ds ⟨_,aF hil,rfl⟩ hl hI) fun σ' H' ds' xs' W' st' hx' hd' hl' hI'=>⟨ds',xs',W',st',hx',hd',hl',hI',st'.1 _ _ nq hx⟩
  ·rintro σ H' ⟨ds,ys,W',st,hy,hd',hl,hI,_⟩
   rw[hd.length] at hl hI
   exact qw W s1 hacc st hy hd' (he ds hl hI) z
end
end L2
set_option maxRecDepth 100000
set_option maxHeartbeats 4000000
namespace L2
open PySem PySem.Spec PyProof.Rows
section
variable{G:Gx}{ρ:Rh}{Φ:Pd}{te:TE}{t:TA}{i n:Nat}{f:Bool}{ds:List PyData}{Θ:List PyData->Prop}
theorem Ev.tupS(h:Av G ρ t fun es=>es.length<=10000/\Φ (jr es||cV (es.map (·.2))) (.tuple (es.map (·.2)))):Ev G ρ (pZ t) Φ:=fun nb σ H Q W z=>
 h nb σ H _ W fun es vs H1 ⟨hl,p⟩ s1 q1=>⟨cX (by rw[q1.len];exact hl) (by decide),fun a ha=>z _ _ _ _ p (s1.trans (.same (W.step s1).ay (cH ha))) (by
  cases hs:cV (es.map (·.2)) with
  |true=>rw[u5];exact .tup ((W.step s1).fresh ha) aY ((q1.all (f:=false) fun z=>by cases z).ia hs)
  |false=>rw[sj];exact .tup ((W.step s1).fresh ha) aY ((q1.all fun z=>z).keep (bz.of (cH ha))))⟩
theorem Ev.UO(h:Ev G ρ te fun _ x=>∃n:Int,x= .int n/\2<=n/\n<=10002/\∀r:Int,gZ r->r<10^40->Φ true (.int r)):Ev G ρ (iS AG [] E0 (cA te cL)) Φ:=fun nb σ H Q W z=>
 h nb σ H _ W fun f v H1 d ⟨n,e,h1,h2,p⟩ s1 hv=>by
  subst e
  exact⟨n,by rw[hv.bZ];rfl,h1,h2,fun r H' sm r1 r2 r3=>z true _ H' _ (p r (SM r1 r3) (by omega)) (s1.trans (.same (W.step s1).ay sm)) (.int r)⟩
theorem Ev.str{x:Str}(h:Φ true (.str x)):Ev G ρ (tC (.str x)) Φ:=fun nb σ H Q W z=>z true _ H _ h (.refl W.ay) (by unfold ai;rfl)
end
theorem Eu.fin{p b L lt t:Int}(h:Eu p b L lt 0 t)(hp:gZ p)(hb:b%p≠0):∃k,lt%p*b=1+p*k:=by
 obtain⟨g1,g2⟩:=h.dv L (Int.dvd_refl L) (Int.dvd_zero L)
 have m1:=eG b (show p≠0 by have:=hp.1;omega)
 have m2:=e7 b (show 0<p by have:=hp.1;omega)
 have hL:L=1:=by
  rcases hp.2 L h.l0 g1 with e|e
  ·exact e
  ·exfalso
   rw[e] at g2
   have:=mO (by omega) g2
   omega
 obtain⟨k,hk⟩:=h.lc
 have e:=yr lt p
 refine⟨-k-lt/p*b,?_⟩
 have e2:lt%p=lt-p*(lt/p):=by omega
 rw[e2,Int.sub_mul,kU,Int.mul_neg,rA]
 omega
noncomputable def sol(p b a:Int):Int:=open Classical in if h:∃x,0<=x/\x<p/\∃k,b*x-a=p*k then Classical.choose h else 0
def D5(wd:Wo):List Int:=((List.range wd.length).filter fun i=>wd[i]?==some none).map fun(i:Nat)=>(i:Int)
theorem gf{X:Cx}{K:PySem.W.Frag}{tg l:Expr}{tl:TE}(hK:X.K=K)(hl:PE X l tl):PI X tg l (sX K tl):=by subst hK;exact OX hl
end L2
set_option maxRecDepth 100000
set_option maxHeartbeats 4000000
namespace L2
open PySem PySem.Spec PyProof.Rows
def cnt(wd:Wo):Nat:=wd.countP fun o=>o.isNone
section
variable{G:Gx}{ρ:Rh}{Φ:Pd}{ta tb te:TE}{E:DE}{K:PySem.W.Frag}
theorem Ev.YB{tl th:TO}(h:Ev G ρ te fun f x=>∃ds,x= .tuple ds/\Ov G ρ tl fun lo=>Ov G ρ th fun hi=>¬(HT.eB ds.length 0 lo=0/\HT.eB ds.length ds.length hi=ds.length)/\Φ f (.tuple (gz ds lo hi))):Ev G ρ (tF (Sd K) te tl th) Φ:=fun nb σ H Q W z=>
 h nb σ H _ W fun f v H1 d ⟨ds,e,q⟩ s1 hv=>q nb σ H1 _ (W.step s1) fun lo H2 q2 s2=>q2 nb σ H2 _ ((W.step s1).step s2) fun hi H3 ⟨hn,q3⟩ s3=>by
  subst e
  obtain⟨a,xs,rfl,n,hx,hd⟩:=((hv.keep s2.cN).keep s3.cN).ofT
  have W3:=((W.step s1).step s2).step s3
  refine⟨a,xs,rfl, .of hx,by rw[hd.length];exact hn,fun p hp=>?_⟩
  exact z f _ _ _ q3 (s1.trans (s2.trans (s3.trans (.same W3.ay (cH hp))))) (.tup (W3.fresh hp) aY (hd.cut.keep (bz.of (cH hp))))
theorem Ev.XY(h:Ev G ρ ta fun f x=>∃ds,x= .tuple ds/\ds≠[]/\Ev G ρ tb fun g y=>∃es,y= .tuple es/\es≠[]/\ds.length+es.length<=10000/\Φ (f && g) (.tuple (ds++es))):Ev G ρ (cK (P9 K) ta tb) Φ:=fun nb σ H Q W z=>
 h nb σ H _ W fun f v H1 d ⟨ds,e,hne,q⟩ s1 hv=>q nb σ H1 _ (W.step s1) fun g u H2 d2 ⟨es,e2,Nr,hl,p⟩ s2 hu=>by
  subst e e2
  obtain⟨a,xs,rfl,n,hx,hd⟩:=(hv.keep s2.cN).ofT
  obtain⟨c,ys,rfl,m,hy,hc⟩:=hu.ofT
  have W2:=(W.step s1).step s2
  have sJ:=hd.length
  have hyl:=hc.length
  refine⟨a,c,xs,ys,rfl,rfl, .of hx, .of hy,fun z=>hne (tB.mp (by rw[<-sJ,z];rfl)),cX (by rw[sJ,hyl];exact hl) (by decide),fun z=>absurd (tB.mp (by rw[<-hyl,z];rfl)) Nr,fun _ q hq=>?_⟩
  refine z (f && g) _ _ _ p (s1.trans (s2.trans (.same W2.ay (cH hq)))) (.tup (W2.fresh hq) aY ?_)
  exact(af.append (hd.av (cT (fun z=>(fK _ _▸z).1) fun _ z=>z)) (hc.av (cT (fun z=>(fK _ _▸z).2) fun _ z=>z))).keep (bz.of (cH hq))
end
end L2
set_option maxRecDepth 100000
set_option maxHeartbeats 4000000
namespace L2
open PySem PySem.Spec PyProof.Rows
def vp(es:List Fd):Bool:=es.all fun e=>e.1||iB e.2
section
variable{G:Gx}{ρ:Rh}{Φ:Pd}{t:TA}{te:TE}
theorem kH.Jy{nb:Addr->Prop}{H:Hp}:∀{es:List Fd} {vs:List V} {f:Bool},kH G nb H es vs->(f=true->vp es=true)->af (G.S nb f) H (es.map (·.2)) vs
  |[],_,_,h,_=>by unfold kH at h;subst h;exact .nil
  | e :: es, _, f, h, hf => by
    obtain⟨v,ws,rfl,h1,h2⟩:=h
    have hh:f=true->(e.1||iB e.2)=true/\vp es=true:=fun z=>by
      have:=hf z
      unfold vp at this
      rw[qD,fK] at this
      exact this
    refine .cons ?_ (h2.Jy fun z=>(hh z).2)
    cases hs:iB e.2 with
    |true=>exact h1.ia hs
    |false=>exact h1.av (cT (fun z=>by have:=(hh z).1;rw[hs,sj] at this;exact this) fun _ z=>z)
theorem Ev.Mt(h:Av G ρ t fun es=>es.length<=10000/\Φ (vp es) (.tuple (es.map (·.2)))):Ev G ρ (pZ t) Φ:=fun nb σ H Q W z=>
 h nb σ H _ W fun es vs H1 ⟨hl,p⟩ s1 q1=>⟨cX (by rw[q1.len];exact hl) (by decide),fun a ha=>z _ _ _ _ p (s1.trans (.same (W.step s1).ay (cH ha)))
  (.tup ((W.step s1).fresh ha) aY ((q1.Jy fun z=>z).keep (bz.of (cH ha))))⟩
end
def Vi:R2:=fun x y H Q=>∃a b:Bool,x= .bl a/\y= .bl b/\Q (.bl (!(a==b))) H
theorem Ev.Yb{G:Gx}{ρ:Rh}{ta:TE}{b:Bool}{Φ:Pd}(h:Ev G ρ ta fun _ x=>∃a,x= .bool a/\Φ true (.bool (!(a==b)))):Ev G ρ (cK Vi ta (tC (.bl b))) Φ:=fun nb σ H Q W z=>
 h nb σ H _ W fun f v H1 d ⟨a,e,q⟩ s1 hv=>by
  subst e
  unfold ai at hv
  subst hv
  exact⟨a,b,rfl,rfl,z true _ H1 _ q s1 (.bl _)⟩
abbrev aR(r:List Int):PyData:= .list (r.map .int)
end L2
set_option maxRecDepth 100000
set_option maxHeartbeats 4000000
namespace L2
open PySem PySem.Spec PyProof.Rows
theorem af.Hg{S:Addr->Prop}{H:Hp}:∀{ds:List PyData} {xs:List V},ds.length=xs.length->(∀(i:Nat) d x,ds[i]?=some d->xs[i]?=some x->ai S H d x)->af S H ds xs
 |[],[],_,_=> .nil
 |[],_::_,h,_=>by simp at h
 |_::_,[],h,_=>by simp at h
 |d::ds,x::xs,h,q=> .cons (q 0 d x rfl rfl) (af.Hg (by simpa using h) fun i d' x' e1 e2=>q (i+1) d' x' (by simpa using e1) (by simpa using e2))
end L2
set_option maxRecDepth 100000
namespace L2
open PySem PySem.Spec PyProof.Rows
section
variable{κ:Type}[DecidableEq κ]
def iV(kvs:List (κ×V))(k:κ):Option V:=(kvs.find? fun kv=>decide (kv.1=k)).map (·.2)
def putK(kvs:List (κ×V))(k:κ)(v:V):List (κ×V):=
 if(kvs.any fun kv=>decide (kv.1=k))=true then kvs.map (fun kv=>if kv.1=k then(kv.1,v) else kv) else kvs++[(k,v)]
theorem Pk{k:κ}:iV ([]:List (κ×V)) k=none:=rfl
theorem xx{p:κ×V}{r:List (κ×V)}{k:κ}(e:p.1=k):iV (p::r) k=some p.2:=by simp[iV,mS,e]
theorem wc{p:κ×V}{r:List (κ×V)}{k:κ}(e:¬p.1=k):iV (p::r) k=iV r k:=by simp[iV,mS,e]
theorem Dh(k:κ):∀kvs:List (κ×V),(kvs.any fun kv=>decide (kv.1=k))=(iV kvs k).isSome
  |[]=>rfl
  | p :: r => by
    rw[uL]
    by_cases e:p.1=k
    · simp only[xx e,decide_eq_true e,uM,Option.isSome_some]
    · rw[wc e,decide_eq_false e,uc];exact Dh k r
theorem JG(kvs:List (κ×V))(k:κ)(v:V):(putK kvs k v).length<=kvs.length+1:=by
 unfold putK
 split
 ·rw[ak];omega
 ·rw[fm,fB,List.length_nil];omega
theorem iY.ug{o:Option V}{u:Option Value}(r:iY o u):o.isSome=u.isSome:=by
  cases o with
  | none => cases u with
    |none=>rfl
    |some _=>exact(show False from r).elim
  | some _ => cases u with
    |none=>exact(show False from r).elim
    |some _=>rfl
theorem KV.val{kvs:List (κ×V)}{vs:List (κ×Value)}(r:KV kvs vs)(k:κ):iY (iV kvs k) (valueAt vs k):=by
  unfold KV at r
  induction r with
  |nil=>exact True.intro
  | @cons p q ps qs h t ih =>
    obtain⟨h1,h2⟩:=h
    by_cases e:p.1=k
    · have e':q.1=k:=h1.symm.trans e
      have b:valueAt (q::qs) k=some q.2:=by simp[valueAt,mS,e']
      rw[xx e,b];exact h2
    · have e':¬q.1=k:=fun z=>e (h1.trans z)
      have b:valueAt (q::qs) k=valueAt qs k:=by simp[valueAt,mS,e']
      rw[wc e,b];exact ih
theorem KV.any{kvs:List (κ×V)}{vs:List (κ×Value)}(r:KV kvs vs)(k:κ):(kvs.any fun kv=>decide (kv.1=k))=vs.any fun kv=>decide (kv.1=k):=by
 unfold KV at r
 induction r with
 |nil=>rfl
 |cons h t ih=>rw[uL,uL,ih,h.1]
theorem KV.repl{kvs:List (κ×V)}{vs:List (κ×Value)}(r:KV kvs vs)(k:κ){y:V}{u:Value}(ry:RelV y u):
    KV (kvs.map fun kv=>if kv.1=k then(kv.1,y) else kv) (vs.map fun kv=>if kv.1=k then(kv.1,u) else kv):=by
  unfold KV at r⊢
  induction r with
  |nil=>exact .nil
  | @cons p q ps qs h t ih =>
    rw[bC,bC]
    refine .cons ?_ ih
    obtain⟨h1,h2⟩:=h
    by_cases e:p.1=k
    · rw[if_pos e,if_pos (h1.symm.trans e)];exact⟨h1,ry⟩
    · rw[if_neg e,if_neg (fun z=>e (h1.trans z))];exact⟨h1,h2⟩
theorem KV.put{kvs:List (κ×V)}{vs:List (κ×Value)}(r:KV kvs vs)(k:κ){y:V}{u:Value}(ry:RelV y u):KV (putK kvs k y) (stored vs k u):=by
 unfold putK stored
 rw[r.any k]
 by_cases e:(vs.any fun kv=>decide (kv.1=k))=true
 ·rw[if_pos e,if_pos e];exact r.repl k ry
 ·rw[if_neg e,if_neg e];exact Paired.snoc r ⟨rfl,ry⟩
theorem KV.keys{kvs:List (κ×V)}{vs:List (κ×Value)}(r:KV kvs vs):kvs.map (·.1)=vs.map (·.1):=by
 unfold KV at r
 induction r with
 |nil=>rfl
 |cons h t ih=>rw[bC,bC,ih,h.1]
theorem KV.length{kvs:List (κ×V)}{vs:List (κ×Value)}(r:KV kvs vs):kvs.length=vs.length:=Paired.length r
end
theorem qz{P:Program}{w:World}{k:Key}{u:Value}(r:RelV (kV k) u):(dX P w).is k u=true:=by
 cases k with
 |inl i=>obtain⟨t,e⟩:=(show∃t,u=Value.int i t from r);subst e;exact Uc P w i t
 |inr x=>obtain⟨t,e⟩:=(show∃t,u=Value.str x t from r);subst e;exact LV P w x t
theorem JC{P:Program}{w:World}:∀{ks:List Key} {us:List Value},Vals (ks.map kV) us->ItemsAre (dX P w) ks us
  |[],_,r=>by rw[pA] at r;cases r;exact .nil
  | k :: ks, _, r => by
    rw[bC] at r
    cases r with
    |cons h t=>exact .cons (qz h) (JC t)
abbrev KT(H:Hp):List (List Key×V)->List (List Key×Addr×Value)->Prop:=Paired fun p q=>p.1=q.1/\H q.2.1=some (.tup (p.1.map kV))/\RelV p.2 q.2.2
theorem KT.val{H:Hp}{kvs:List (List Key×V)}{xs:List (List Key×Addr×Value)}(r:KT H kvs xs)(k:List Key):iY (iV kvs k) ((atKey xs k).map (·.2)):=by
  induction r with
  |nil=>exact True.intro
  | @cons p q ps qs h t ih =>
    obtain⟨h1,_,h2⟩:=h
    by_cases e:p.1=k
    · have e':q.1=k:=h1.symm.trans e
      have b:atKey (q::qs) k=some q.2:=by simp[atKey,mS,e']
      rw[xx e,b];exact h2
    · have e':¬q.1=k:=fun z=>e (h1.trans z)
      have b:atKey (q::qs) k=atKey qs k:=by simp[atKey,mS,e']
      rw[wc e,b];exact ih
section
variable{P:Program}{w:World}{H:Hp}{h:Heap}{a:Addr}
theorem K7{u:HO}(ok:dD P w H h)(e:Rd H a u):cD P w H h a u:=e.ok ok
theorem oZ{kvs:List (Key×V)}(ok:dD P w H h)(e:Rd H a (.dK kvs)):kvs.length<=sizeLine/\(a==sysModules)=false/\∃vs,KV kvs vs/\h.DictOf (dX P w) a vs:=
 show cD P w H h a (.dK kvs) from K7 ok e
theorem Km{kvs:List (Key×V)}(ok:dD P w H h)(e:H a=some (.dK kvs)):kvs.length<=sizeLine/\(a==sysModules)=false/\∃vs,KV kvs vs/\h.DictOf (dX P w) a vs:=oZ ok (.inl e)
theorem yD{ks:List Key}(ok:dD P w H h)(e:H a=some (.tup (ks.map kV))):(tupleKind (dX P w)).is h ks a:=by
 obtain⟨_,its,r,o,h1,h2,n,h3⟩:=(show cD P w H h a (.tup (ks.map kV)) from ok a _ e)
 exact⟨o,its.toArray,n,h1,h2,h3,by simpa using JC r⟩
theorem JB{kvs:List (List Key×V)}(ok:dD P w H h)(e:Rd H a (.dT kvs)):kvs.length<=sizeLine/\(a==sysModules)=false/\
    ∃xs,KT H kvs xs/\h.DictOfH (tupleKind (dX P w)) a xs:=by
  obtain⟨z,y,xs,r,o,es,ep,h1,h2,h3,h4,h5⟩:=(show cD P w H h a (.dT kvs) from K7 ok e)
  refine⟨z,y,xs,r,o,es,ep,h1,h2,h3,h4,fun x hx=>?_,h5⟩
  have all:∀{l:List (List Key×V)} {m:List (List Key×Addr×Value)},KT H l m->∀x∈m,(tupleKind (dX P w)).is h x.1 x.2.1:=by
    intro l m q
    induction q with
    |nil=>intro x hx;exact nomatch hx
    | @cons p q ps qs hq t ih =>
      intro x hx
      rcases bq.mp hx with e|hx
      · subst e
        exact yD ok (by rw[<-hq.1];exact hq.2.1)
      · exact ih x hx
  exact all r x hx
end
def Cy(H:Hp)(a:Addr)(y:V)(r:Option V):Prop:=
 (∃kvs k,Rd H a (.dK kvs)/\y=kV k/\r=iV kvs k)\/∃kvs k b,Rd H a (.dT kvs)/\y= .ref b/\H b=some (.tup (k.map kV))/\r=iV kvs k
section
variable{X:Cx}{pins:List (Addr×Obj)}{σ:St}{H:Hp}{s:Shared}{a:Addr}{y v:V}{u r:Value}{o:Option V}{A:Around}{E:Value->Shared->Prop}
theorem Inv.big(I:Inv X pins σ H s):sysModules<s.heap.objs.size:=by
 have h:mainGlobals<s.heap.objs.size:=(I.mod.glob.keeps I.bk).lt
 exact wY (by decide) h
theorem Xn{Q:Value->Shared->Prop}(hu:A.units+1<cLine)(I:Inv X pins σ H s)(g:Cy H a y o)(ry:RelV y u)(h:∀s',Inv X pins σ H s'->Q (.bool o.isSome) s'):
  wpAny (model X.prog X.w) A (compareOp .In u (.ref a)) Q E s:=by
 rcases g with ⟨kvs,k,e,ey,l⟩|⟨kvs,k,b,e,ey,eb,l⟩
 ·subst ey
  obtain⟨z,hd,vs,rel,dd⟩:=oZ I.hok e
  refine wpAny_in_of (qz ry) hd dd.mapOf ?_
  rw[<-(rel.val k).ug,<-l]
  exact h _ (I.tok _)
 ·subst ey
  cases (show u=Value.ref b from ry)
  obtain⟨z,hd,xs,rel,dd⟩:=JB I.hok e
  refine wpAny_in_heap (tupleKind_room_in1 hu) (yD I.hok eb) hd dd ?_
  have q:=(rel.val k).ug
  rw[CG] at q
  rw[<-q,<-l]
  exact h _ (I.tok _)
theorem S0{Q:Value->Shared->Prop}(hu:A.units+1<cLine)(I:Inv X pins σ H s)(g:Cy H a y o)(ry:RelV y u)(h:∀s',Inv X pins σ H s'->Q (.bool (!o.isSome)) s'):
  wpAny (model X.prog X.w) A (compareOp .NotIn u (.ref a)) Q E s:=by
 rcases g with ⟨kvs,k,e,ey,l⟩|⟨kvs,k,b,e,ey,eb,l⟩
 ·subst ey
  obtain⟨z,hd,vs,rel,dd⟩:=oZ I.hok e
  refine wpAny_notIn_of (qz ry) hd dd.mapOf ?_
  rw[<-(rel.val k).ug,<-l]
  exact h _ (I.tok _)
 ·subst ey
  cases (show u=Value.ref b from ry)
  obtain⟨z,hd,xs,rel,dd⟩:=JB I.hok e
  refine wpAny_notIn_heap (tupleKind_room_in1 hu) (yD I.hok eb) hd dd ?_
  have q:=(rel.val k).ug
  rw[CG] at q
  rw[<-q,<-l]
  exact h _ (I.tok _)
theorem Qu{h':Heap}{t':Nat}{ob:HO}(I:Inv X pins σ H s)(mu:sq (H a))(hs:Heap.SameBut a s.heap h')(he:∃q,h'.get? a=some q)(new:cD X.prog X.w (upd H a ob) h' a ob):
  Inv X pins σ (upd H a ob) {s with heap:=h',toks:=t'}:=
 I.write (x:=a) (e:=a) mu (.inl rfl) (fun b q hb z=>(hs.2 b hb).trans z) he new
theorem Kc{P:Program}{w:World}{H':Hp}{h':Heap}{kvs:List (Key×V)}{vs:List (Key×Value)}(z:kvs.length<=sizeLine)(hd:(a==sysModules)=false)(rel:KV kvs vs)(dd:h'.DictOf (dX P w) a vs):
  cD P w H' h' a (.dK kvs):=⟨z,hd,vs,rel,dd⟩
end
theorem WI{P:Program}{w:World}{H:Hp}(h:Heap)(hb:sysModules<h.objs.size):cD P w H (h.push {cls:= .type "dict",data:= .dict #[]}) h.objs.size (.dK []):=
 ⟨fW _,beq_eq_false_iff_ne.mpr (bx (dW hb)),[], .nil,Heap.DictOf.new h⟩
def La:TE:=fun _ H Q=>∀p,H p=none->Q (.ref p) (upd H p (.dK []))
section
variable{X:Cx}{pos:Pos}
theorem RU:PE X (.Dict [] [] pos) La:=fun pins s σ H Q I h=>
 wpAny_Dict_empty ⟨.ref s.heap.objs.size,_,I.laid (a:=s.heap.objs.size) (o:= .dK []) (t':=s.toks) (fun _ _ q=>dw _ q) (bh _) (WI s.heap I.big),rfl,h _ (I.hok.fresh (bh _))⟩
end
def m8(kvs more:List (Key×V)):List (Key×V):=more.foldl (fun acc kv=>putK acc kv.1 kv.2) kvs
theorem KV.merge:∀{more:List (Key×V)} {rs:List (Key×Value)} {kvs:List (Key×V)} {vs:List (Key×Value)},KV more rs->KV kvs vs->KV (m8 kvs more) (merged vs rs):=by
  intro more rs kvs vs r
  unfold KV at r
  induction r generalizing kvs vs with
  |nil=>intro q;exact q
  | @cons p q ps qs h t ih =>
    intro r0
    have e:KV (putK kvs p.1 p.2) (stored vs q.1 q.2):=by
      have:=r0.put p.1 h.2
      rw[<-h.1];exact this
    exact ih e
theorem JU:∀(more kvs:List (Key×V)),(m8 kvs more).length<=kvs.length+more.length
  |[],kvs=>by show kvs.length<=kvs.length+0;omega
  | p :: r, kvs => by
    have h1:=JU r (putK kvs p.1 p.2)
    have h2:=JG kvs p.1 p.2
    show(m8 (putK kvs p.1 p.2) r).length<=_
    rw[fB];omega
end L2
/-THE LAST THEOREM (shape;LID,My.*are yours):
   My.Adr:a structure of the addresses that your layer names (classes,functions);My.Txt K t:a structure (Prop) of the equations over K;
   My.txt_mk:{K} {implicit addresses ..} (e1:nsIn K mainGlobals "law"=some (some (.ref f))) (e2:K.lookup f=some ⟨oc,od, .func (fnOf "law" "law" params body scope dV kV doc pm an cdv ct),sl⟩) (e3:codeIn K cdv "law"=true) .. :∃t,My.Txt K t
set_option maxRecDepth 100000 in
set_option maxHeartbeats 0 in
(the tactic k_is has no namespace:write k_is)-/
set_option maxRecDepth 100000
set_option maxHeartbeats 4000000
namespace L2
open PySem PySem.Spec PyProof.Rows
section
variable{prog:Program}{w:World}{A:Around}{E:Value->Shared->Prop}{s:Shared}
theorem OY{T:String}{r d:Addr}{n:Nat}{P:Nat->Value->Prop}{OK:Heap->Prop}{Q:List Value->Shared->Prop}(K:PySem.W.KdlSrc prog w T r d n P OK)(hh:A.handled=none)(hok:OK s.heap)(hn:n<=sizeLine)
  (hQ:∀h' tk' items,(∀b o,s.heap.get? b=some o->h'.get? b=some o)->s.heap.objs.size<=h'.objs.size->items.length=n->(∀(i:Nat) v,items[i]?=some v->P i v)->Q items {s with heap:=h',toks:=tk'}):wpAny (model prog w) A (collect (.ref r)) Q E s:=by
 obtain⟨lr,ld⟩:=K.there _ hok
 unfold collect
 refine wpAny_bind (wpAny_runValue (codeAny_builtin PySem.F.entry_proto_collect ?_))
 rw[qC PySem.F.plain_proto_collect _]
 show wpAny _ A.in1 (newList []>>=fun l=>again (.builtin "list.__iadd__" ⟨[l, .ref r],[]⟩)) _ _ s
 refine wpAny_bind (wpAny_newObj_type ?_)
 refine wpAny_pure ⟨plainId_quiet EN _,codeAny_builtin PySem.F.entry_list_iadd ?_⟩
 rw[qC EN _]
 have gL:(s.heap.push ({cls:= .type "list",data:= .seq ([]:List Value).toArray}:Obj)).get? s.heap.objs.size=some {cls:= .type "list",data:= .seq ([]:List Value).toArray}:=gH _ rfl
 show wpAny _ A.in1 (Builtin.List.listExtendWith (.ref s.heap.objs.size) (.ref r) (.ref s.heap.objs.size)) _ _ {s with heap:=s.heap.push ({cls:= .type "list",data:= .seq ([]:List Value).toArray}:Obj)}
 refine PySem.W.kdl_extend (A:=A) (R:=fun r s'=>match r with
    | .ok (.ret v)=>wpAny (model prog w) A (match v with| .ref x=>(do match(<-load x).data with| .seq xs _=>pure xs.toList|_=>unsupported "internal:collect")|_=>unsupported "internal:collect") Q E s'
    | .ok _=>False
    | .error e=>E e s') (s:={s with heap:=s.heap.push ({cls:= .type "list",data:= .seq ([]:List Value).toArray}:Obj)}) K hh (K.keep _ _ hok fun b _ o e=>dw _ e) s.heap.objs.size (kE lr) (kE ld) _ _ gL (fun h' tk acc' c' hk hS hacc=>?_) hn
 refine wpAny_bind (wpAny_load hS (wpAny_pure ?_))
 refine hQ h' tk acc'.toList (fun b o e=>hk b o (dW (bG e)) (dw _ e)) (pY (bG hS)) (by rw[sr];exact hacc.1) fun i v e=>hacc.2 i v (by rw[<-qg];exact e)
theorem Pq{a:Addr}{vs:List (Key×Value)}{ms:List Int}{Q:Value->Shared->Prop}(hh:A.handled=none)(lo:(a==sysModules)=false)(hd:s.heap.DictOf (dX prog w) a vs)(hk:vs.map (·.1)=ms.map Sum.inl)(h64:ms.length<64)
    (h:∀h' tk' (l:Addr) (out:List Value) (ns:List Int) (e:Nat),(∀b o,s.heap.get? b=some o->h'.get? b=some o)->s.heap.objs.size<=l->h'.get? l=some (seqObj "list" out.toArray e)->IntsAre out ns->ns.Pairwise (· <= ·)->ns.Perm ms->
      Q (.ref l) {s with heap:=h',toks:=tk'}):wpAny (model prog w) A (call (.builtin "sorted") [.ref a]) Q E s:=by
  obtain⟨ep,hat⟩:=hd.dictAt
  have hvl:vs.length=ms.length:=by have:=congrArg List.length hk;simpa using this
  refine Calls.call_function_entry kind_sorted plain_sorted entry_sorted (args_sorted1 _) ?_
  unfold Builtin.«sorted»
  refine wpAny_bind (m:=checkCount "sorted" 1 1 _) (wpAny_pure (wpAny_bind ?_))
  refine OY (A:=A.in1) (PySem.W.kdl_dict lo) hh hat (by rw[hvl];exact cX (pY h64) (by decide)) fun h1 TJ items k1 k2 hil hit=>?_
  have hI:IntsAre items ms:=by
    have key:∀(its:List Value) (us:List (Key×Value)) (ms:List Int),us.map (·.1)=ms.map Sum.inl->its.length=us.length->(∀(i:Nat) v,its[i]?=some v->∃k x,us[i]?=some (k,x)/\(dX prog w).is k v=true)->IntsAre its ms:=by
      intro its
      induction its with
      | nil =>
        intro us ms e l _
        cases us with
        | nil => cases ms with
          |nil=>exact .nil
          |cons _ _=>cases e
        |cons _ _=>cases l
      | cons v its ih =>
        intro us ms e l hp
        cases us with
        |nil=>cases l
        | cons u us => cases ms with
          |nil=>cases e
          | cons m ms =>
            have e1:u.1=Sum.inl m:=by injection e
            have e2:us.map (·.1)=ms.map Sum.inl:=by injection e
            obtain⟨k,x,q1,q2⟩:=hp 0 v rfl
            have q1:u=(k,x):=by simpa using q1
            subst q1
            have e1:k=Sum.inl m:=e1
            subst e1
            obtain⟨t,rfl⟩:=Ar (k:=m) (v:=v) q2
            exact .cons m t (ih us ms e2 (by simpa using l) fun i v q=>by simpa using hp (i+1) v (by simpa using q))
    exact key items vs ms hk hil hit
  have hlen:items.length=ms.length:=by rw[hil,hvl]
  refine wpAny_bind (wpAny_newList ?_)
  have gL:(h1.push (seqObj "list" items.toArray 0)).get? h1.objs.size=some (seqObj "list" items.toArray 0):=gH _ rfl
  refine wpAny_bind (wpAny_holding (wpAny_call_entry slot_list_sort ⟨_,gL,rfl⟩ entry_list_sort (list_sort_tree gL hI (by omega) fun out ns' a1 a2 a3=>⟨_,rfl,?_⟩) (args_list_sort _)))
  obtain⟨e,he⟩:=sortedHeap_at (out:=out) gL
  refine wpAny_pure ⟨_,rfl,h _ TJ h1.objs.size out.toList ns' e (fun b o q=>?_) k2 (by simpa using he) a1 a3 a2⟩
  have lb:=bG (k1 b o q)
  rw[sortedHeap_old (dW lb) (by rw[pS];exact xy lb)]
  exact dw _ (k1 b o q)
end
def AD:List V->Hp->VK->Prop:=fun xs H Q=>∃a,∃kvs:List (Key×V),∃ms:List Int,xs=[.ref a]/\Rd H a (.dK kvs)/\kvs.map (·.1)=ms.map Sum.inl/\ms.length<64/\
 ∀l (rs:List Int),H l=none->rs.Pairwise (· <= ·)->rs.Perm ms->Q (.ref l) (upd H l (.lst (rs.map V.int)))
theorem P7{X:Cx}(hc:X.calm=true):gR X (.builtin "sorted") AD:=by
 intro pins s σ H xs us Q I rv h
 obtain⟨a,kvs,ms,rfl,hH,hk,h64,q⟩:=h
 obtain⟨u,rfl,ru⟩:=vals1 rv
 cases ru
 obtain⟨z,hd,vs,rel,dd⟩:=oZ I.hok hH
 refine Pq (I.ok.hd hc) hd dd (by rw[<-rel.keys];exact hk) h64 fun h' tk' l out ns e kp hl gl hI pw pp=>?_
 have new:cD X.prog X.w (upd H l (.lst (ns.map V.int))) h' l (.lst (ns.map V.int)):=by
  refine⟨?_,out,e,JW hI,gl⟩
  rw[ak,pp.length_eq];exact cX (pY h64) (by decide)
 exact⟨.ref l,_,I.laid (t':=tk') kp hl new,rfl,q _ _ (I.hok.fresh hl) pw pp⟩
section
variable{X:Cx}
def tw:R2:=fun x y H Q=>∃a kvs k v,x= .ref a/\y=kV k/\Rd H a (.dK kvs)/\iV kvs k=some v/\Q v H
theorem GO:we X tw:=by
 intro value slice pins s σ H x y v u Q I rx ry h hs
 obtain⟨a,kvs,k,z,rfl,rfl,hH,hv,q⟩:=h
 cases rx
 obtain⟨hz,hd,vs,rel,dd⟩:=oZ I.hok hH
 have hT:=dd.typeIs (s:=s)
 obtain⟨w',hw,rw'⟩:=iY.some_of (v:=z) (o:=valueAt vs k) (by rw[<-hv];exact rel.val k)
 unfold subscriptTail
 refine wpAny_bind ?_
 rw[getitemInPython_of_ne hT.not_modules]
 refine wpAny_bind (wpAny_specialOf hT PySem.F.slot_dict_getitem.lookup ?_)
 have fin:wpAny (model X.prog X.w) X.A (subscripted slice false (.ref a) u) (fun r s₃=>wpAny (model X.prog X.w) X.A (letTemporaryGo value (.ref a) r>>=fun _=>pure r) (EP X pins σ Q) X.xe s₃) X.xe s:=by
  rw[hs]
  refine wpAny_operating (wpAny_getItem_of (qz ry) dd.mapOf hw ?_)
  exact wpAny_bind (wpAny_letTemporaryGo (wpAny_pure ⟨z,H,I.tok _,rw',q⟩))
 first
  |exact wpAny_pure (wpAny_bind fin)
  |exact wpAny_bind (wpAny_pure (wpAny_bind fin))
  |exact wpAny_bind fin
def yX:V->V->V->Hp->(Hp->Prop)->Prop:=fun o i v H Q=>∃a kvs k,o= .ref a/\i=kV k/\H a=some (.dK kvs)/\kvs.length<sizeLine/\Q (upd H a (.dK (putK kvs k v)))
theorem set_dict:Ay X yX:=by
 intro pins s σ H o i v ov iv u Q I ro ri rv h
 obtain⟨a,kvs,k,rfl,rfl,hH,Yz,q⟩:=h
 cases ro
 obtain⟨z,hd,vs,rel,dd⟩:=Km I.hok hH
 have hz:vs.length<=sizeLine:=by rw[<-rel.length];exact z
 have hl:(putK kvs k v).length<=sizeLine:=by have:=JG kvs k v;omega
 refine wpAny_setItem_pairs (hsz:=hz) (qz ri) dd fun h' E8 hs=>?_
 have he:∃q,h'.get? a=some q:=let ⟨q,_,_,hq,_⟩:=E8;⟨q,hq⟩
 exact⟨_,Qu I (by rw[hH];exact True.intro) hs he (Kc hl hd (rel.put k rv) E8),q⟩
end
end L2
set_option maxRecDepth 100000
set_option maxHeartbeats 4000000
set_option maxRecDepth 100000
set_option maxHeartbeats 4000000
namespace L2
abbrev Cn:=List (Int×Int)
structure Ho(cs:Cn):Prop where
 mq:∀c∈cs,0<=c.1/\c.1<=12/\0<=c.2/\c.2<=10^7
 nd:(cs.map (·.1)).Nodup
 len:cs.length<=14
 pos:∃c∈cs,0<c.1/\0<c.2
def JS:Cn->Rat->Rat
 |[],_=>0
 |c::r,v=>(if 0<c.1 then((c.1*c.2:Int):Rat)*v^(c.1.toNat-1) else 0)+JS r v
def EY:Cn->Int
 |[]=>0
 |c::r=>c.1*c.2+EY r
def IJ(cs:Cn)(v:Rat):Rat:=JS cs v/(EY cs:Int)
def Xe(l c:Cn)(s v:Rat):Rat:=s*IJ l (1-IJ c (1-v))
section
variable{l c:Cn}{s:Rat}(hl:Ho l)(hc:Ho c)(s0:0<=s)
include hl hc s0
end
def Kz(x:Rat):Int:= -((-x).floor)
end L2
namespace L2
structure Gw where
 l:Cn
 c:Cn
 s:Rat
 u:Int
def Gw.gr(g:Gw)(x:Int):Rat:=Xe g.l g.c g.s ((x:Rat)/g.u)*g.u
def Gw.lo(g:Gw):Nat->Int
 |0=>(g.s*g.u).floor
 |k+1=>(g.gr (g.lo k)).floor
def Gw.hi(g:Gw):Nat->Int
 |0=>Kz (g.s*g.u)
 |k+1=>Kz (g.gr (g.hi k))
end L2
set_option maxRecDepth 100000
set_option maxHeartbeats 4000000
namespace L2
open PySem PySem.Spec PyProof.Rows
@[reducible] def Yc(g:Gw)(k:Nat):PyData:= .tuple [.int (g.lo k), .int (g.hi k)]
@[reducible] def YQ(n:Nat):PyData:= .tuple [.str "falls", .int n]
@[reducible] def X4(x:Int):PyData:= .tuple [.str "stays", .int x]
@[reducible] def Yq:PyData:= .tuple [.str "open"]
def Lz(K:PySem.W.Frag)(n:Nat)(t:iH):TG:=fun v σ H Q=>∃a xs,v= .ref a/\aS K H a xs/\xs.length=n/\t xs σ H Q
theorem Gv.lst{G:Gx}{ρ:Rh}{f:Bool}{ds:List PyData}{K:PySem.W.Frag}{Θ:Rh->Prop}{n:Nat}{u:iH}(hl:ds.length=n)(h:sN G ρ u f ds Θ):Gv G ρ (Lz K n u) f (.list ds) Θ:=fun nb σ H v Q W hv z=>by
 obtain⟨a,xs,rfl,m,hx,hd⟩:=hv.cQ
 exact⟨a,xs,rfl, .of hx,by rw[hd.length];exact hl,h nb σ H xs Q W hd z⟩
end L2
set_option maxRecDepth 100000
set_option maxHeartbeats 4000000
namespace L2
open PySem PySem.Spec PyProof.Rows PySem.W
section
variable{n:Nat}{cmp:Nat->Nat->(Bool->Shared->Prop)->Shared->Prop}{s:Shared}
variable(h0:0<n)(hc:∀i j C,i<n->j<n->(∀b,C b s)->cmp i j C s)
include h0 hc
end
theorem aD.oU{G:Gx}{ρ:Rh}{te tb:TE}{Θ:Bool->List PyData->Prop}(h:Ev G ρ te fun f d=>Ev G ρ tb fun _ y=>∃k,y= .int k/\k<=10000/\ -(10000)<=k/\∀g,Θ g (List.replicate k.toNat d)):aD G ρ (cK qR (oN (cA te cL)) tb) Θ:=fun nb σ H Q W z=>
 h nb σ H _ W fun f v H1 d' q s1 hv=>by
  refine⟨by show 1<=sizeLine;decide,fun p hp=>?_⟩
  have W1:=W.step s1
  have s2:Step G.B H1 (upd H1 p (.lst [v])):= .same W1.ay (cH hp)
  refine q nb σ _ _ (W1.step s2) fun g u H2 d2 ⟨k,e2,h1,h2,p2⟩ s3 hu=>?_
  subst e2
  have hN:NB G.B p:=fun b l e z=>by
   subst z
   exact NB.lZ (B:=G.B) (a:=p) s1.2 (fun z=>z _ _ e rfl) hp
  refine⟨p,k,[v],rfl,hu.bZ,s3.1 _ _ hN aY,by omega,by omega,?_,fun a ha=>?_⟩
  ·show 1*k.toNat<=sizeLine
   exact cX (show 1*k.toNat<=10000 by omega) (by decide)
  ·have hv2:=(hv.keep s2.cN).keep s3.cN
   have hd:af (G.S nb f) H2 (List.replicate k.toNat d') (List.replicate k.toNat [v]).flatten:=by
    induction k.toNat with
    |zero=>exact .nil
    |succ m ih=>rw[nV,nV,sY];exact .cons hv2 ih
   exact aD.fin (f:=f) W (s1.trans (s2.trans s3)) ha hd (p2 _) z
end L2
set_option maxRecDepth 100000
set_option maxHeartbeats 4000000
namespace L2
open PySem PySem.Spec PyProof.Rows PySem.W
section
variable{n:Nat}{key:Nat->Int}{cmp:Nat->Nat->(Bool->Shared->Prop)->Shared->Prop}{s:Shared}
variable(h0:0<n)(hc:∀i j C,i<n->j<n->C (decide (key i<key j)) s->cmp i j C s)
include h0 hc
end
end L2
set_option maxRecDepth 100000
set_option maxHeartbeats 4000000
set_option maxRecDepth 100000
set_option maxHeartbeats 4000000
namespace L2
open PySem PySem.Spec PyProof.Rows
@[reducible] def Yv(l c:Cn)(u p:Int):Gw:=⟨l,c,(p:Rat)/u,u⟩
end L2
set_option maxRecDepth 100000
set_option maxHeartbeats 4000000
namespace L2
open PySem PySem.Spec PyProof.Rows
theorem Ev.lend{G:Gx}{ρ:Rh}{te:TE}{Φ:Pd}{a:Addr}{f:Bool}{ds:List PyData}(i:Nat)(e:ρ[i]?=some (.own a f ds))(h:Ev G (ρ.set i (.d f (.list ds))) te fun _ d=>iB d=true/\Φ true d):Ev G ρ te Φ:=fun nb σ H Q W z=>
 h _ σ H Q (Sv.share W e) fun f v H' d ⟨hs,p⟩ st hv=>z true v H' d p st (hv.ia hs)
theorem Tv.lend{G:Gx}{ρ:Rh}{t:TT}{Θ:Bool->Prop}{a:Addr}{f:Bool}{ds:List PyData}(i:Nat)(e:ρ[i]?=some (.own a f ds))(h:Tv G (ρ.set i (.d f (.list ds))) t Θ):Tv G ρ t Θ:=fun nb σ H Q W z=>
 h _ σ H Q (Sv.share W e) z
end L2
set_option maxRecDepth 100000
set_option maxHeartbeats 4000000
namespace L2
open PySem PySem.Spec PyProof.Rows
theorem NV:typeLookup (.type "list") "keys"=pure none:=by rw[typeLookup_type,builtinLookup_eq_fast];kernel_rfl
theorem S9:typeLookup (.type "list") "__getattr__"=pure none:=by rw[typeLookup_type,builtinLookup_eq_fast];kernel_rfl
section
variable{prog:Program}{w:World}{A:Around}{E:Value->Shared->Prop}{h:Heap}{g:Array GenState}{d:Drawn}{t:Nat}{os:OsState}{a:Addr}{o:Obj}
theorem Tc{tk:Tok}{Q:Fin->Shared->Prop}{xs:Array Value}{n:Nat}(hh:A.handled=none)(hx:h.get? a=some (seqObj "list" xs n))
  (hq:∀h' tk e,Heap.NewAttrErr h h' e (.ref a) "keys" ->E (.ref e) ⟨h',g,d,tk,os⟩):
  wpAny (model prog w) A (Builtin.«object.__getattribute__» ⟨[.ref a, .str "keys" tk],[]⟩) Q E ⟨h,g,d,t,os⟩:=by
 have hT:(⟨h,g,d,t,os⟩:Shared).TypeIs (.ref a) "list":=⟨_,hx,rfl⟩
 have f4:=NV
 unfold Builtin.«object.__getattribute__»
 repeat (any_goals (first|assumption|wp_step))
 exact wpAny_raiseAttrError hh hq (attrMsg_fits (by decide+kernel) (by size_fits))
theorem Wz{tk:Tok}{R:Result->Shared->Prop}{xs:Array Value}{n:Nat}(hh:A.handled=none)(hx:h.get? a=some (seqObj "list" xs n))(hq:∀h' tk e,Heap.NewAttrErr h h' e (.ref a) "keys" ->R (.error (.ref e)) ⟨h',g,d,tk,os⟩):
  codeAny (model prog w) A (.call (.builtin "list.__getattribute__") ⟨[.ref a, .str "keys" tk],[]⟩) R ⟨h,g,d,t,os⟩:=
 codeAny_call_builtin vf.plain PySem.F.entry_list_ga (vf.check _ _ _ _ _ _ _ _ (show(⟨h,g,d,t,os⟩:Shared).TypeIs (.ref a) "list" from⟨_,hx,rfl⟩) (PySem.F.args_list_getattribute_2 _ _) (Tc (by exact hh) hx hq))
theorem O1{Q:Option Value->Shared->Prop}{xs:Array Value}{n:Nat}(hh:A.handled=none)(hx:h.get? a=some (seqObj "list" xs n))
  (hq:∀h' tk,(∀b ob,h.get? b=some ob->h'.get? b=some ob)->Q none ⟨h',g,d,tk,os⟩):wpAny (model prog w) A (getAttr? (.ref a) "keys") Q E ⟨h,g,d,t,os⟩:=by
 have hT:(⟨h,g,d,t,os⟩:Shared).TypeIs (.ref a) "list":=⟨_,hx,rfl⟩
 have f1:=sub_AttributeError
 have f2:=vf.lookup
 have f3:=vf.bind (.ref a)
 have f5:=S9
 unfold getAttr? getAttrBy? getAttrBy
 repeat (any_goals (first|assumption|wp_step))
 refine Wz hh hx fun h' tk e hx'=>?_
 obtain⟨t',u',he⟩:=hx'.there
 unfold getattributeRaised
 repeat (any_goals (first|assumption|wp_step))
 exact hq _ _ hx'.keeps
end
end L2
set_option maxRecDepth 100000
set_option maxHeartbeats 4000000
namespace L2
open PySem PySem.Spec PyProof.Rows
theorem HZ:entryFor table "dict.update.loop"=some Builtin.«dict.update.loop» :=entryFor_of_tree (by kernel_rfl)
theorem xS:plainId "dict.update.loop"=true:=by decide+kernel
def wN(P:Program)(w:World)(h:Heap)(v:Value)(p:Key×Value):Prop:=∃a o m ku,v= .ref a/\h.get? a=some o/\o.cls= .type "tuple" /\o.data= .seq #[ku,p.2] m/\(dX P w).is p.1 ku=true
section
variable{prog:Program}{w:World}{A:Around}{E:Value->Shared->Prop}{s:Shared}
theorem Ma{R:Result->Shared->Prop}{d it l:Addr}{its:List Value}{ps:List (Key×Value)}(hh:A.in1.handled=none)(hdl:d≠l)(hdi:d≠it)(hil:l≠it)(hlen:its.length=ps.length)(hsz:its.length<=10000):
    ∀(k i:Nat) (s:Shared) (t:Tok),its.length-i=k->i<=its.length->s.heap.IsListIter it l i->s.heap.IsList l its.toArray->(∀(j:Nat) (v:Value) (p:Key×Value),its[j]?=some v->ps[j]?=some p->wN prog w s.heap v p)->(∀(j:Nat) (v:Value),its[j]?=some v->v≠Value.ref d/\v≠Value.ref it)->
      s.heap.DictOf (dX prog w) d (merged [] (ps.take i))->(merged [] (ps.take i)).length<=i->
      (∀h' tk,(∀b o,b≠d->b≠it->s.heap.get? b=some o->h'.get? b=some o)->h'.DictOf (dX prog w) d (merged [] ps)->R (.ok (.ret .none)) {s with heap:=h',toks:=tk})->
      codeAny (model prog w) A (.builtin "dict.update.loop" ⟨[.ref d, .ref it, .int i t, .none],[]⟩) R s:=by
  intro k
  induction k with
  | zero =>
    intro i s t hk hi hit hl hp hne hD hDl hR
    have hin:i=its.length:=by omega
    subst hin
    refine codeAny_builtin HZ ?_
    rw[qC xS _]
    show wpAny _ A.in1 (pyNext (.ref it)>>=_) _ _ s
    refine wpAny_bind (wpAny_pyNext_list_end hh hit hl (by simp) fun h' he=>?_)
    show wpAny _ A.in1 (ret Value.none) _ _ _
    rw[hlen,eE] at hD
    exact wpAny_pure (hR h' s.toks (fun b o _ n e=>he b o n e) (hD.extBut he hdi))
  | succ k ih =>
    intro i s t hk hi hit hl hp hne hD hDl hR
    have hlt:i<its.length:=by omega
    obtain⟨v,hv⟩:∃v,its[i]?=some v:=⟨_,aF hlt⟩
    obtain⟨p,hpp⟩:∃p,ps[i]?=some p:=⟨_,aF (by omega)⟩
    obtain⟨hn1,hn2⟩:=hne i v hv
    obtain⟨a,o,m,ku,rfl,g1,g2,g3,g4⟩:=hp i v p hv hpp
    have had:a≠d:=fun z=>hn1 (by rw[z])
    have hai:a≠it:=fun z=>hn2 (by rw[z])
    refine codeAny_builtin HZ ?_
    rw[qC xS _]
    show wpAny _ A.in1 (pyNext (.ref it)>>=_) _ _ s
    refine wpAny_bind (wpAny_pyNext_list_item hit hl (x:= .ref a) (by simpa using hv) fun h1 Ub BW=>?_)
    have qK:h1.get? a=some o:=(BW.2 a hai).trans g1
    have hT:(⟨h1,s.gens,s.drawn,s.toks,s.os⟩:Shared).TypeIs (.ref a) "tuple":=⟨o,qK,g2⟩
    show wpAny _ A.in1 (holding [Value.ref a] _>>=_) _ _ _
    refine wpAny_bind (wpAny_holding (wpAny_bind (wpAny_tryCatch ?_)))
    show wpAny _ A.in1 (Builtin.Dict.pairItems (.ref a)) _ _ _
    unfold Builtin.Dict.pairItems
    refine wpAny_bind (wpAny_typeOf hT ?_)
    rw[if_pos (by decide)]
    refine wpAny_bind (wpAny_seqItems qK g3 (wpAny_pure ?_))
    show wpAny _ A.in1 (holding [ku,p.2] (dictSet d ku p.2)) _ _ _
    have uJ:h1.DictOf (dX prog w) d (merged [] (ps.take i)):=hD.sameBut BW hdi
    refine wpAny_holding (wpAny_dictSet_pairs (s:=⟨h1,s.gens,s.drawn,s.toks,s.os⟩) g4 uJ (fun h2 rN HU=>?_) (cX hDl (cX hi (cX hsz (by decide)))))
    have e:stored (merged [] (ps.take i)) p.1 p.2=merged [] (ps.take (i+1)):=by rw[take_snoc hpp];unfold merged;rw[rZ];rfl
    rw[e] at rN
    have kk:∀b o,b≠d->b≠it->s.heap.get? b=some o->h2.get? b=some o:=fun b o n1 n2 z=>(HU.2 b n1).trans ((BW.2 b n2).trans z)
    refine wpAny_pure ⟨plainId_quiet xS _,ih (i+1) ⟨h2,s.gens,s.drawn,s.toks+1,s.os⟩ _ (by omega) hlt ?_ ?_ ?_ hne rN ?_ fun h' tk k' CL=>?_⟩
    · exact Ub.at fun o z=>(HU.2 it (bx hdi)).trans z
    · exact hl.at fun o z=>kk l o (bx hdl) hil z
    · intro j v' p' hv' j0
      obtain⟨hn1,hn2⟩:=hne j v' hv'
      obtain⟨a,o,m,ku,rfl,q1,q2,q3,q4⟩:=hp j v' p' hv' j0
      exact⟨a,o,m,ku,rfl,kk a o (fun z=>hn1 (by rw[z])) (fun z=>hn2 (by rw[z])) q1,q2,q3,q4⟩
    · rw[<-e]
      unfold stored
      split
      · rw[ak];omega
      · rw[fm,j3];omega
    · exact hR h' tk (fun b o n1 n2 z=>k' b o n1 n2 (kk b o n1 n2 z)) CL
theorem P0{l:Addr}{its:List Value}{n:Nat}{ps:List (Key×Value)}{Q:Value->Shared->Prop}(hh:A.handled=none)(hlo:s.heap.get? l=some (seqObj "list" its.toArray n))(hlen:its.length=ps.length)(hsz:its.length<=10000)
  (hp:∀(j:Nat) (v:Value) (p:Key×Value),its[j]?=some v->ps[j]?=some p->wN prog w s.heap v p)
  (h:∀h' tk,h'.DictOf (dX prog w) s.heap.objs.size (merged [] ps)->(∀b o,s.heap.get? b=some o->h'.get? b=some o)->Q (.ref s.heap.objs.size) {s with heap:=h',toks:=tk}):
  wpAny (model prog w) A (call (.type "dict") [.ref l]) Q E s:=by
 refine callType_codes (Q₁:=fun obj s₁=>obj= .ref s.heap.objs.size/\s₁={s with heap:=s.heap.push {cls:= .type "dict",data:= .dict #[]}}) PySem.F.kt_called_dict (PySem.F.kt_typeCall_dict_1 _) PySem.F.entry_dict_init (kt_code_dict_new _ ⟨rfl,rfl⟩) ?_
 rintro obj s₁ ⟨rfl,rfl⟩
 have hnew:(s.heap.push {cls:= .type "dict",data:= .dict #[]}).DictOf (dX prog w) s.heap.objs.size []:=Heap.DictOf.new s.heap
 have hl1:(s.heap.push {cls:= .type "dict",data:= .dict #[]}).get? l=some (seqObj "list" its.toArray n):=dw _ hlo
 have tH:l<s.heap.objs.size:=bG hlo
 refine⟨hnew.typeIs,PySem.F.args_dict_init_2 _ _,?_⟩
 unfold Builtin.«dict.__init__»
 refine wpAny_bind ?_
 unfold Builtin.Dict.selfAndRest
 refine wpAny_bind (wpAny_notOrdered_dict hnew.typeIs ?_)
 show wpAny _ _ (pure (s.heap.objs.size,[Value.ref l])) _ _ _
 refine wpAny_pure ?_
 show wpAny _ _ (Builtin.Dict.updateFrom "dict.__init__" s.heap.objs.size (.ref l) [] .none) _ _ _
 unfold Builtin.Dict.updateFrom
 refine wpAny_bind (wpAny_typeOf (T:="list") ⟨_,hl1,rfl⟩ ?_)
 rw[if_pos (by decide)]
 refine wpAny_bind (O1 (A:=A.in1.in1) hh hl1 fun h1 tk k1=>?_)
 rw[if_pos (show(none:Option Value).isNone=true from rfl)]
 refine wpAny_bind (wpAny_rule (wpAny_bind ?_))
 have hl2:h1.get? l=some (seqObj "list" its.toArray n):=k1 _ _ hl1
 have uJ:h1.DictOf (dX prog w) s.heap.objs.size []:=let ⟨o',es,ep,ho,r⟩:=hnew;⟨o',es,ep,k1 _ _ ho,r⟩
 have hs1:s.heap.objs.size<h1.objs.size:=by obtain⟨o',es,ep,ho,_⟩:=uJ;exact bG ho
 have FQ:h1.IsList l its.toArray:=⟨_,hl2,rfl,n,rfl⟩
 refine wpAny_pyIter_list FQ ?_
 refine wpAny_pure ⟨plainId_quiet xS _,?_⟩
 refine Ma (A:=A.in1) (its:=its) (ps:=ps) hh (bx (dW tH)) (dW hs1) (dW (wY tH hs1)) hlen hsz its.length 0 _ _ (by omega) (fW _) ⟨_,gH _ rfl,rfl,rfl⟩ (FQ.push _) ?_ ?_ (uJ.push _) (bh _) fun h' tk' k' CL=>?_
 ·intro j v p hv hpp
  obtain⟨a,o,m,ku,rfl,q1,q2,q3,q4⟩:=hp j v p hv hpp
  exact⟨a,o,m,ku,rfl,dw _ (k1 _ _ (dw _ q1)),q2,q3,q4⟩
 ·intro j v hv
  obtain⟨p,hpp⟩:∃p,ps[j]?=some p:=⟨_,aF (by have:=(aP.mp hv).1;omega)⟩
  obtain⟨a,o,m,ku,rfl,q1,_⟩:=hp j v p hv hpp
  have la:=bG q1
  refine⟨fun z=>?_,fun z=>?_⟩
  ·cases z;exact absurd la (g5 _)
  ·have z':a=h1.objs.size:=by cases z;rfl
   rw[z'] at la
   exact absurd (wY la hs1) (g5 _)
 ·refine⟨rfl,h h' tk' CL fun b o z=>?_⟩
  have lb:=bG z
  exact k' b o (dW lb) (dW (wY lb hs1)) (dw _ (k1 _ _ (dw _ z)))
end
def Ek:List V->Hp->VK->Prop:=fun xs H Q=>∃(l:Addr) (ys:List V) (kvs:List (Key×V)),xs=[.ref l]/\H l=some (.lst ys)/\ys.length=kvs.length/\ys.length<=10000/\
 (∀(j:Nat) (y:V) (p:Key×V),ys[j]?=some y->kvs[j]?=some p->∃a,y= .ref a/\H a=some (.tup [kV p.1,p.2]))/\∀d,H d=none->Q (.ref d) (upd H d (.dK (m8 [] kvs)))
theorem Qm{X:Cx}(hc:X.calm=true):gR X (.type "dict") Ek:=by
  intro pins s σ H xs us Q I rv h
  obtain⟨l,ys,kvs,rfl,hH,hlen,hsz,hy,q⟩:=h
  obtain⟨u,rfl,ru⟩:=vals1 rv
  cases ru
  obtain⟨_,its,n,rs,h1⟩:=(show cD X.prog X.w H s.heap l (.lst ys) from I.hok l _ hH)
  have hli:=rs.length
  have key:∃ps:List (Key×Value),KV kvs ps/\∀(j:Nat) (v:Value) (p:Key×Value),its[j]?=some v->ps[j]?=some p->wN X.prog X.w s.heap v p:=by
    have gen:∀(ys:List V) (its:List Value) (kvs:List (Key×V)),Vals ys its->ys.length=kvs.length->(∀(j:Nat) (y:V) (p:Key×V),ys[j]?=some y->kvs[j]?=some p->∃a,y= .ref a/\H a=some (.tup [kV p.1,p.2]))->∃ps:List (Key×Value),KV kvs ps/\∀(j:Nat) (v:Value) (p:Key×Value),its[j]?=some v->ps[j]?=some p->wN X.prog X.w s.heap v p:=by
      intro ys
      induction ys with
      | nil =>
        intro its kvs r e _
        cases r
        cases kvs with
        |nil=>exact⟨[], .nil,fun j v p z=>by simp at z⟩
        |cons _ _=>cases e
      | cons y ys ih =>
        intro its kvs r e hq
        cases r with
        | cons r1 r2 =>
          cases kvs with
          |nil=>cases e
          | cons kv kvs =>
            obtain⟨ps,g1,g2⟩:=ih _ kvs r2 (by simpa using e) fun j y p a b=>hq (j+1) y p (by simpa using a) (by simpa using b)
            obtain⟨a,rfl,ha⟩:=hq 0 y kv rfl rfl
            cases r1
            obtain⟨_,its2,qH,o,w1,w2,m,w3⟩:=(show cD X.prog X.w H s.heap a (.tup [kV kv.1,kv.2]) from I.hok a _ ha)
            cases qH with
            | cons x1 x2 =>
              cases x2 with
              | cons y1 y2 =>
                cases y2
                refine⟨(kv.1,_)::ps, .cons ⟨rfl,y1⟩ g1,fun j v p a b=>?_⟩
                cases j with
                | zero =>
                  simp at a b
                  subst a b
                  exact⟨_,o,m,_,rfl,w1,w2,w3,qz x1⟩
                |succ j=>exact g2 j v p (by simpa using a) (by simpa using b)
    exact gen ys its kvs rs hlen hy
  obtain⟨ps,rel,hps⟩:=key
  have hpl:=rel.length
  refine P0 (I.ok.hd hc) h1 (by omega) (by omega) hps fun h' tk' hD k=>?_
  have hml:=JU kvs []
  have new:cD X.prog X.w (upd H s.heap.objs.size (.dK (m8 [] kvs))) h' s.heap.objs.size (.dK (m8 [] kvs)):=by
    refine Kc (cX hml (cX (show _<=10000 by simp;omega) (by decide))) ?_ (rel.merge .nil) hD
    have hb:=I.big
    have:s.heap.objs.size≠sysModules:=kE hb
    simpa using this
  exact⟨.ref s.heap.objs.size,_,I.laid (t':=tk') k (bh _) new,rfl,q _ (I.hok.fresh (bh _))⟩
end L2
set_option maxRecDepth 100000
set_option maxHeartbeats 4000000
namespace L2
open PySem PySem.Spec PyProof.Rows
abbrev Ks:=List (Int×PyData)
def iZ(ks:Ks)(k:Int):Option PyData:=(ks.find? fun p=>decide (p.1=k)).map (·.2)
def kr(ks:Ks)(k:Int):Bool:=ks.any fun p=>decide (p.1=k)
def lq(ks:Ks)(k:Int)(d:PyData):Ks:=if kr ks k then ks.map fun p=>if p.1=k then(p.1,d) else p else ks++[(k,d)]
theorem Nv(ks:Ks)(k:Int):(iZ ks k).isSome=kr ks k:=by
  unfold iZ kr
  rw[CG]
  induction ks with
  |nil=>rfl
  | cons p r ih =>
    rw[mS,uL]
    by_cases h:p.1=k
    · simp[h]
    · simp only[h,decide_false,uc];exact ih
theorem ER{ks:Ks}{k:Int}:kr ks k=true↔k∈ks.map (·.1):=by
 unfold kr
 rw[C9,aN]
 constructor
 ·rintro⟨p,h1,h2⟩;exact⟨p,h1,by simpa using h2⟩
 ·rintro⟨p,h1,h2⟩;exact⟨p,h1,by simpa using h2⟩
theorem TF{k:Int}:iZ [] k=none:=rfl
theorem pB{p:Int×PyData}{r:Ks}{k:Int}:iZ (p::r) k=if p.1=k then some p.2 else iZ r k:=by
 unfold iZ
 rw[mS]
 by_cases h:p.1=k<;>simp[h]
theorem Yj{ks:Ks}{k j:Int}{d:PyData}:iZ (ks++[(k,d)]) j=match iZ ks j with|some x=>some x|none=>if j=k then some d else none:=by
  induction ks with
  | nil =>
    rw[List.nil_append,pB,TF]
    by_cases h:k=j
    · subst h;simp
    · have h':¬j=k:=fun z=>h z.symm
      simp[h,h']
  | cons p r ih =>
    rw[jT,pB,pB,ih]
    by_cases h:p.1=j<;>simp[h]
section
variable{S:Addr->Prop}{H:Hp}
theorem au.val:∀{ks:Ks} {ps:List (Key×V)} (k:Int),au S H (ks.map bJ) ps->match iZ ks k with|some d=>∃v,iV ps (Sum.inl k)=some v/\ai S H d v|none=>iV ps (Sum.inl k)=none
  |[],ps,k,h=>by unfold au at h;subst h;exact Pk
  | p :: r, ps, k, h => by
    rw[bC] at h
    unfold au at h
    obtain⟨q,qs,rfl,h1,h2⟩:=h
    unfold bP at h1
    obtain⟨h3,h4⟩:=h1
    have h3:q.1=Sum.inl p.1:=h3
    rw[pB]
    have ih:=au.val k h2
    by_cases e:p.1=k
    · rw[if_pos e]
      refine⟨q.2,?_,h4⟩
      rw[xx (by rw[h3,e])]
    · rw[if_neg e,wc (fun z=>e (by rw[h3] at z;exact yq z))]
      exact ih
theorem au.snoc:∀{ks:Ks} {ps:List (Key×V)} {k:Int} {d:PyData} {v:V},au S H (ks.map bJ) ps->ai S H d v->au S H ((ks++[(k,d)]).map bJ) (ps++[(Sum.inl k,v)])
  | [], ps, k, d, v, h, hd => by
    unfold au at h;subst h
    show au S H [bJ (k,d)] [(Sum.inl k,v)]
    unfold au
    exact⟨_,_,rfl,by unfold bP;exact⟨rfl,hd⟩,by unfold au;rfl⟩
  | p :: r, ps, k, d, v, h, hd => by
    rw[bC] at h
    unfold au at h
    obtain⟨q,qs,rfl,h1,h2⟩:=h
    rw[jT,bC,jT]
    unfold au
    exact⟨q,_,rfl,h1,au.snoc h2 hd⟩
theorem au.repl:∀{ks:Ks} {ps:List (Key×V)} {k:Int} {d:PyData} {v:V},au S H (ks.map bJ) ps->ai S H d v->au S H ((ks.map fun p=>if p.1=k then(p.1,d) else p).map bJ) (ps.map fun kv=>if kv.1=Sum.inl k then(kv.1,v) else kv)
  |[],ps,k,d,v,h,hd=>by unfold au at h;subst h;simp only[pA];unfold au;rfl
  | p :: r, ps, k, d, v, h, hd => by
    rw[bC] at h
    unfold au at h
    obtain⟨q,qs,rfl,h1,h2⟩:=h
    rw[bC,bC,bC]
    unfold bP at h1
    obtain⟨h3,h4⟩:=h1
    have h3:q.1=Sum.inl p.1:=h3
    unfold au
    refine⟨_,_,rfl,?_,au.repl h2 hd⟩
    by_cases e:p.1=k
    · rw[if_pos e,if_pos (by rw[h3,e])]
      unfold bP
      exact⟨h3,hd⟩
    · rw[if_neg e,if_neg (fun z=>e (by rw[h3] at z;exact yq z))]
      unfold bP
      exact⟨h3,h4⟩
theorem au.any:∀{ks:Ks} {ps:List (Key×V)} (k:Int),au S H (ks.map bJ) ps->(ps.any fun kv=>decide (kv.1=Sum.inl k))=kr ks k:=fun{ks ps} k h=>by
 rw[Dh,<-Nv]
 have:=au.val k h
 cases hv:iZ ks k with
 |none=>rw[hv] at this;rw[this];rfl
 |some d=>rw[hv] at this;obtain⟨v,e,_⟩:=this;rw[e];rfl
theorem au.put{ks:Ks}{ps:List (Key×V)}{k:Int}{d:PyData}{v:V}(h:au S H (ks.map bJ) ps)(hd:ai S H d v):au S H ((lq ks k d).map bJ) (putK ps (Sum.inl k) v):=by
 unfold lq putK
 rw[au.any k h]
 split
 ·exact au.repl h hd
 ·exact au.snoc h hd
theorem au.len:∀{ks:Ks} {ps:List (Key×V)},au S H (ks.map bJ) ps->ps.length=ks.length
  |[],ps,h=>by unfold au at h;subst h;rfl
  | p :: r, ps, h => by
    rw[bC] at h
    unfold au at h
    obtain⟨q,qs,rfl,_,h2⟩:=h
    simp[au.len h2]
theorem au.keys:∀{ks:Ks} {ps:List (Key×V)},au S H (ks.map bJ) ps->ps.map (·.1)=(ks.map (·.1)).map Sum.inl
  |[],ps,h=>by unfold au at h;subst h;rfl
  | p :: r, ps, h => by
    rw[bC] at h
    unfold au at h
    obtain⟨q,qs,rfl,h1,h2⟩:=h
    unfold bP at h1
    have h3:q.1=Sum.inl p.1:=h1.1
    simp[au.keys h2,h3]
end
def oX(G:Gx)(ρ:Rh)(te:TE)(Φ:Bool->Ks->Prop):Prop:=∀nb σ H (Q:VK),Wd G nb ρ σ H->
 (∀f a ps H' ks,Φ f ks->Step G.B H H'->H a=none->H' a=some (.dK ps)->au (fun x=>G.S nb f x\/x=a) H' (ks.map bJ) ps->Q (.ref a) H')->te σ H Q
section
variable{G:Gx}{ρ bM:Rh}{Φ Ψ:Pd}{ta tb te:TE}{t:TA}{i:Nat}{f g:Bool}{d e:PyData}{ks:Ks}{K:PySem.W.Frag}{E:DE}{Θ:Bool->Ks->Prop}
theorem Wd.grow{nb:Addr->Prop}{σ:St}{H H1:Hp}{a:Addr}{o:HO}(W:Wd G nb ρ σ H)(s1:Step G.B H H1)(ha:H a=none)(e:H1 a=some o):Wd G (fun x=>nb x\/x=a) ρ σ H1/\NB G.B a/\∀f x,G.S (fun x=>nb x\/x=a) f x->(G.S nb f x\/x=a):=by
  have hN:NB G.B a:=NB.new W.ay ha
  have hA:∀f x,G.S (fun x=>nb x\/x=a) f x->(G.S nb f x\/x=a):=fun f x z=>by
    rcases z with (z|z)|z|z|z
    · exact .inl (.inl z)
    · exact .inr z
    · exact .inl (.inr (.inl z))
    · exact .inl (.inr (.inr (.inl z)))
    · exact .inl (.inr (.inr (.inr z)))
  have W1:=W.step s1
  refine⟨?_,hN,hA⟩
  refine⟨W1.ay,fun x n=>?_,W1.old,fun x n q=>?_,W.gA,W.len,W.gB,fun h m=>(((W.eU h m).fresh ha).keep (s1.but fun x z=> .inl (.inr (.inr (.inl z))))).av (hA h.1),fun j s e'=>?_,W.apart,W.fG,W.dP⟩
  · rcases n with n|n
    · exact W1.live x n
    · subst n;rw[e];exact jA _
  · rcases n with n|n
    · exact W.dJ x n q
    · subst n
      cases z:G.H0 x with
      |none=>rfl
      |some o=>rw[W.old x o q z] at ha;cases ha
  · obtain⟨x,e1,h⟩:=W.ok j s e'
    refine⟨x,e1,?_⟩
    cases s with
    |no=>trivial
    |d f d=>obtain⟨v,e,h⟩:=h;exact⟨v,e,((h.fresh ha).keep (s1.but fun x z=> .inl (.inr (.inr (.inl z))))).av (hA f)⟩
    |own c f es=>obtain⟨e,n,q,xs,hx,hd⟩:=h;exact⟨e, .inl n,q,xs,s1.1 _ _ q hx,((hd.fresh ha).keep (s1.but fun x z=> .inl (.inr (.inr (.inl z))))).av (hA f)⟩
    |ay=>exact h
    |raw v=>exact h
    |bW c f es=>obtain⟨e,n,q,xs,hx,hd⟩:=h;exact⟨e, .inl n,q,xs,s1.1 _ _ q hx,((hd.fresh ha).keep (s1.but fun x z=> .inl (.inr (.inr (.inl z))))).av (hA f)⟩
    | cu c =>
      obtain⟨e,n,q⟩:=h
      refine⟨e,fun a ha=>⟨.inl (n a ha).1,(n a ha).2⟩,c.av (hA c.f) (c.keep (.of fun x o hx e=>s1.1 x o ?_ e) (c.fresh ha q))⟩
      rcases hx with hx|hx
      · exact gU fun z=>hx (.inl (.inr (.inr (.inl z))))
      · exact(n x hx).2
theorem RY{nb:Addr->Prop}{σ:St}{H H1:Hp}{a:Addr}{ps:List (Key×V)}(W:Wd G nb ρ σ H)(s1:Step G.B H H1)(ha:H a=none)(e:H1 a=some (.dK ps))(hd:au (fun x=>G.S nb f x\/x=a) H1 (ks.map bJ) ps):
  Wd G (fun x=>nb x\/x=a) (ρ.set i (.bW a f ks)) (σ.set i (some (.ref a))) H1:=by
 obtain⟨W2,hN,hA⟩:=W.grow s1 ha e
 refine W2.set ⟨rfl, .inr rfl,hN,ps,e,hd.av (hA f)⟩ (fun _ _ _ z=>by cases z) ?_ (fun x hx j t hj ht hc=>?_)
 rotate_left
 ·have hx:x=a:=bF.mp hx
  subst hx
  rcases hc with ⟨c,z⟩|⟨c,rfl⟩
  ·cases z
  ·exact fun z=>W.live x ((W.ok j _ ht).choose_spec.2.2.1 x z).1 ha
 rintro a' f' ds' ⟨rfl,rfl,rfl⟩ j c g cs hj hc z
 subst z
 obtain⟨x,e1,h1,h2,h3,ys,hy,_⟩:=W.ok j _ hc
 rw[hy] at ha;cases ha
theorem Sv.GP(h:oX G ρ te fun f ks=>∀a,E.nx (ρ.set i (.bW a f ks))):Sv G ρ (ff te (eX i)) E:=fun nb σ H D W K=>h nb σ H _ W fun f a ps H1 ks q s1 ha e hd=>K.nx _ _ _ H1 (q a) (RY W s1 ha e hd)
theorem oX.new(h:Θ true []):oX G ρ La Θ:=fun nb σ H Q W z p hp=>z true p [] _ [] h (.same W.ay (cH hp)) hp aY (by unfold au;rfl)
@[reducible] def AA(p:Int×PyData):PyData:= .tuple [.int p.1,p.2]
def nK(ks:Ks)(more:Ks):Ks:=more.foldl (fun acc p=>lq acc p.1 p.2) ks
theorem Jk{S:Addr->Prop}{H:Hp}:∀{more:Ks} {ms:List (Key×V)} {ks:Ks} {ps:List (Key×V)},au S H (more.map bJ) ms->au S H (ks.map bJ) ps->au S H ((nK ks more).map bJ) (m8 ps ms)
  |[],ms,ks,ps,h,g=>by unfold au at h;subst h;exact g
  | p :: r, ms, ks, ps, h, g => by
    rw[bC] at h
    unfold au at h
    obtain⟨q,qs,rfl,h1,h2⟩:=h
    unfold bP at h1
    obtain⟨k,v⟩:=q
    have h3:k=Sum.inl p.1:=h1.1
    subst h3
    show au S H ((nK (lq ks p.1 p.2) r).map bJ) (m8 (putK ps (Sum.inl p.1) v) qs)
    exact Jk (more:=r) h2 (au.put g h1.2)
theorem oX.PJ(h:Ev G ρ te fun f x=>∃es:Ks,x= .list (es.map AA)/\es.length<=10000/\Θ f (nK [] es)):oX G ρ (gC Ek (cA te cL)) Θ:=fun nb σ H Q W z=>
  h nb σ H _ W fun f v H1 x ⟨es,ex,hl,q⟩ s1 hv=>by
    subst ex
    obtain⟨a,xs,rfl,n,hx,hd⟩:=hv.cQ
    have key:∀{es:Ks} {xs:List V},af (G.S nb f) H1 (es.map AA) xs->∃kvs:List (Key×V),xs.length=kvs.length/\(∀(j:Nat) (y:V) (p:Key×V),xs[j]?=some y->kvs[j]?=some p->∃a,y= .ref a/\H1 a=some (.tup [kV p.1,p.2]))/\au (G.S nb f) H1 (es.map bJ) kvs:=by
      intro es
      induction es with
      |nil=>intro xs h;unfold af at h;subst h;exact⟨[],rfl,fun j y p z=>by simp at z,by simp only[pA];unfold au;rfl⟩
      | cons e es ih =>
        intro xs h
        rw[bC] at h
        unfold af at h
        obtain⟨y,ys,rfl,h1,h2⟩:=h
        obtain⟨kvs,g1,g2,g3⟩:=ih h2
        obtain⟨b,ws,rfl,bB,hb,hws⟩:=h1.ofT
        unfold af at hws
        obtain⟨w1,wr,rfl,k1,hws⟩:=hws
        unfold af at hws
        obtain⟨w2,wr,rfl,k2,hws⟩:=hws
        unfold af at hws
        subst hws
        rw[k1.bZ] at hb
        refine⟨(Sum.inl e.1,w2)::kvs,by simp[g1],fun j y p a b'=>?_,?_⟩
        · cases j with
          |zero=>simp at a b';subst a b';exact⟨b,rfl,hb⟩
          |succ j=>exact g2 j y p (by simpa using a) (by simpa using b')
        · rw[bC]
          unfold au
          exact⟨_,_,rfl,by unfold bP;exact⟨rfl,k2⟩,g3⟩
    obtain⟨kvs,g1,g2,g3⟩:=key hd
    have hlx:=hd.length
    rw[ak] at hlx
    refine⟨a,xs,kvs,rfl,hx,g1,by omega,g2,fun p hp=>?_⟩
    have Ww:au (G.S nb f) H1 (([]:Ks).map bJ) []:=by simp only[pA];unfold au;rfl
    exact z f p _ _ _ q (s1.trans (.same s1.2 (cH hp))) (W.none_of s1 hp) aY (((Jk g3 Ww).fresh hp).keep (bz.of (cH hp)))
theorem N8{nb:Addr->Prop}{σ:St}{H:Hp}{a:Addr}{ps:List (Key×V)}{ks':Ks}(W:Wd G nb ρ σ H)(e:ρ[i]?=some (.bW a f ks))(hd:au (G.S nb g) H (ks'.map bJ) ps):Wd G nb (ρ.set i (.bW a g ks')) σ (upd H a (.dK ps)):=by
 obtain⟨x,e1,h1,h2,h3,ys,hy,_⟩:=W.ok i _ e
 subst h1
 have hil:i<ρ.length:=(aP.mp e).1
 have W0:Wd G nb (ρ.set i .no) (σ.set i (some (.ref a))) H:=W.set trivial fun _ _ _ z=>by cases z
 have W1:Wd G nb (ρ.set i .no) (σ.set i (some (.ref a))) (upd H a (.dK ps)):=W0.write h2 h3 (fun j c f' cs hc z=>by
   subst z
   have hij:i≠j:=fun z=>by subst z;rw[dO hil] at hc;cases hc
   rw[bQ hij] at hc
   obtain⟨_,_,_,_,_,ps,hp,_⟩:=W.ok j _ hc
   rw[hy] at hp;cases hp) (fun j c f' cs hc=>by
   by_cases hij:i=j
   ·subst hij;rw[dO hil] at hc;cases hc
   ·rw[bQ hij] at hc
    exact(W.fG i j _ _ _ _ _ _ hij e hc).symm) (fun j c hc z=>by
   have hij:i≠j:=fun z=>by subst z;rw[dO hil] at hc;cases hc
   rw[bQ hij] at hc
   exact W.dP j i c _ (bx hij) hc e a z (bF.mpr rfl))
 have W2:=W1.set (i:=i) (s:= .bW a g ks') (x:=some (.ref a)) ⟨rfl,h2,h3,ps,aY,hd.keep (bz.set (.inl h2))⟩ (fun _ _ _ z=>by cases z) (by
  rintro a' f' ds' ⟨rfl,rfl,rfl⟩ j c g' cs hj hc
  rw[bQ (bx hj)] at hc
  exact W.fG i j _ _ _ _ _ _ (bx hj) e hc) (fun x hx j t hj ht hc z=>by
  rw[bQ (bx hj)] at ht
  have hx:x=a:=bF.mp hx
  subst hx
  rcases hc with ⟨c,q⟩|⟨c,rfl⟩
  ·cases q
  ·exact W.dP j i c _ hj ht e x z (bF.mpr rfl))
 rw[kX,kX] at W2
 have:σ.set i (some (.ref a))=σ:=by
  apply kI
  intro j
  by_cases hij:i=j
  ·subst hij;rw[dO (by rw[W.len];exact hil),e1]
  ·rw[bQ hij]
 rwa[this] at W2
theorem Sv.Tq{a:Addr}(e:ρ[i]?=some (.bW a f ks))(h:Ev G ρ te fun g d=>Ev G ρ tb fun _ y=>∃k,y= .int k/\ks.length<10000/\E.nx (ρ.set i (.bW a (f && g) (lq ks k d)))):Sv G ρ (ff te (oq (dG i) tb yX)) E:=fun nb σ H D W KK=>
 h nb σ H _ W fun g v H1 d q s1 hv=>by
  obtain⟨x,e1,h1,h2,h3,ps,hp,hd⟩:=(W.step s1).ok i _ e
  subst h1
  refine⟨.ref a,e1,q nb σ H1 _ (W.step s1) fun g' u H2 y ⟨k,ey,hl,p⟩ s2 hu=>?_⟩
  subst ey
  have W2:=(W.step s1).step s2
  have hlen:=hd.len
  refine⟨a,ps, .inl k,rfl,hu.bZ,s2.1 _ _ h3 hp,eg (by rw[hlen];exact hl) (by decide),KK.nx nb _ _ _ p (N8 W2 e ?_)⟩
  exact au.put ((hd.keep s2.cN).av (cT (fun z=>(fK _ _▸z).1) fun _ z=>z)) ((hv.keep s2.cN).av (cT (fun z=>(fK _ _▸z).2) fun _ z=>z))
namespace Ev
theorem Yl{a:Addr}(e:ρ[i]?=some (.bW a f ks))(h:Ev G ρ tb fun _ y=>∃k,y= .int k/\∃d,iZ ks k=some d/\Φ f d):Ev G ρ (cK tw (dG i) tb) Φ:=fun nb σ H Q W z=>by
 obtain⟨x,e1,h1,h2,h3,ps,hp,hd⟩:=W.ok i _ e
 subst h1
 refine⟨.ref a,e1,h nb σ H _ W fun g w H1 y ⟨k,ey,d,hv,p⟩ s1 hw=>?_⟩
 subst ey
 have:=au.val k (hd.keep s1.cN)
 rw[hv] at this
 obtain⟨v,hv',hD⟩:=this
 exact⟨a,ps, .inl k,v,rfl,hw.bZ, .inl (s1.1 _ _ h3 hp),hv',z f _ H1 _ p s1 hD⟩
end Ev
end
def Ck(ng:Bool):R2:=fun x y H Q=>∃a o,y= .ref a/\Cy H a x o/\Q (.bl (o.isSome !=ng)) H
theorem IV{X:Cx}(hu:X.A.units+64<cLine):dY X (compareOp .In) (Ck false):=by
 intro pins s σ H x y v u Q I rx ry h
 obtain⟨a,o,rfl,g,q⟩:=h
 cases ry
 exact Xn (by omega) I g rx fun s' I'=>⟨.bl o.isSome,H,I',rfl,by simpa using q⟩
theorem Le{X:Cx}(hu:X.A.units+64<cLine):dY X (compareOp .NotIn) (Ck true):=by
 intro pins s σ H x y v u Q I rx ry h
 obtain⟨a,o,rfl,g,q⟩:=h
 cases ry
 exact S0 (by omega) I g rx fun s' I'=>⟨.bl (!o.isSome),H,I',rfl,by simpa using q⟩
section
variable{G:Gx}{ρ:Rh}{Φ:Pd}{ta tb te:TE}{i:Nat}{f:Bool}{ks:Ks}{K:PySem.W.Frag}{E:DE}
theorem Gu{nb:Addr->Prop}{σ:St}{H:Hp}{a:Addr}(W:Wd G nb ρ σ H)(e:ρ[i]?=some (.bW a f ks)):Wd G (fun x=>nb x/\x≠a) (ρ.set i (.d f (.dict (ks.map bJ)))) σ H:=by
  obtain⟨x,e1,h1,h2,h3,xs,hx,hd⟩:=W.ok i _ e
  subst h1
  have hil:i<ρ.length:=(aP.mp e).1
  have W0:Wd G nb (ρ.set i .no) (σ.set i (some (.ref a))) H:=W.set trivial fun _ _ _ z=>by cases z
  have W1:Wd G (fun x=>nb x/\x≠a) (ρ.set i .no) (σ.set i (some (.ref a))) H:=by
    refine⟨W0.ay,fun x n=>W0.live x n.1,W0.old,fun x n=>W0.dJ x n.1,W0.gA,W0.len,W0.gB,fun h m=>(W0.eU h m).av (cT (fun z=>z) fun _ z=>z.1),fun j s e'=>?_,W0.apart,W0.fG,W0.dP⟩
    obtain⟨x,lB,h⟩:=W0.ok j s e'
    refine⟨x,lB,?_⟩
    have hij:s≠ .no->i≠j:=fun n z=>by subst z;rw[dO hil] at e';cases e';exact n rfl
    cases s with
    |no=>trivial
    |d f d=>obtain⟨v,e,h⟩:=h;exact⟨v,e,h.av (cT (fun z=>z) fun _ z=>z.1)⟩
    | own c f es =>
      obtain⟨e2,n,q,ys,hy,hd'⟩:=h
      have hca:c≠a:=fun z=>by subst z;rw[hx] at hy;cases hy
      exact⟨e2,⟨n,hca⟩,q,ys,hy,hd'.av (cT (fun z=>z) fun _ z=>z.1)⟩
    |ay=>exact h
    |raw v=>exact h
    | bW c f es =>
      obtain⟨e2,n,q,ps,hp,hd'⟩:=h
      have hij:=hij (by intro z;cases z)
      rw[bQ hij] at e'
      exact⟨e2,⟨n,(W.fG i j _ _ _ _ _ _ hij e e').symm⟩,q,ps,hp,hd'.av (cT (fun z=>z) fun _ z=>z.1)⟩
    | cu c =>
      obtain⟨e2,n,q⟩:=h
      have hij:=hij (by intro z;cases z)
      rw[bQ hij] at e'
      exact⟨e2,fun x hx=>⟨⟨(n x hx).1,fun z=>W.dP j i c _ (bx hij) e' e x hx (by rw[z];exact bF.mpr rfl)⟩,(n x hx).2⟩,c.av (cT (fun z=>z) fun _ z=>z.1) q⟩
  have W2:=W1.lG (i:=i) (f:=f) (d:= .dict (ks.map bJ)) (v:= .ref a) (by
    unfold ai
    refine⟨a,xs,rfl,fun z=>?_, .inl hx,hd.av (cT (fun z=>z) fun _ z=>z.1)⟩
    rcases z with z|z|z|z
    · exact z.2 rfl
    · exact W.gA a z (W.dJ a h2 h3)
    · exact z h3
    · exact z.2 (W.dJ a h2 h3))
  rw[kX,kX] at W2
  have:σ.set i (some (.ref a))=σ:=by
    apply kI
    intro j
    by_cases hij:i=j
    · subst hij;rw[dO (by rw[W.len];exact hil),e1]
    · rw[bQ hij]
  rwa[this] at W2
theorem Sv.Iz{s:TS}{a:Addr}(i:Nat)(e:ρ[i]?=some (.bW a f ks))(h:Sv G (ρ.set i (.d f (.dict (ks.map bJ)))) s E):Sv G ρ s E:=fun nb σ H D W K=>h _ σ H D (Gu W e) K
theorem Ev.wJ{ng:Bool}(h:Ev G ρ ta fun _ y=>∃k,y= .int k/\Ev G ρ tb fun _ x=>∃ks:Ks,x= .dict (ks.map bJ)/\Φ true (.bool (kr ks k !=ng))):Ev G ρ (cK (Ck ng) ta tb) Φ:=
 Ev.jw (h.mono fun f x ⟨k,ex,q⟩=>q.mono fun g y ⟨ks,ey,p⟩ nb σ H u v Q W hu hv z=>by
  subst ex ey
  unfold ai at hv
  obtain⟨a,ps,rfl,n,hp,hd⟩:=hv
  refine⟨a,_,rfl,by rw[hu.bZ];exact .inl ⟨ps, .inl k,hp,rfl,rfl⟩,?_⟩
  have:(iV ps (Sum.inl k)).isSome=kr ks k:=by rw[<-Dh];exact au.any k hd
  rw[this]
  exact z true _ H _ p (.refl W.ay) (.bl _))
theorem Ev.HB(h:Ev G ρ ta fun f x=>∃ks:Ks,x= .dict (ks.map bJ)/\Ev G ρ tb fun _ y=>∃k,y= .int k/\∃d,iZ ks k=some d/\Φ f d):Ev G ρ (cK tw ta tb) Φ:=
 Ev.jw (h.mono fun f x ⟨ks,ex,q⟩=>q.mono fun g y ⟨k,ey,d,hv',p⟩ nb σ H u v Q W hu hv z=>by
  subst ex ey
  unfold ai at hu
  obtain⟨a,ps,rfl,n,hp,hd⟩:=hu
  have:=au.val k hd
  rw[hv'] at this
  obtain⟨w,hw,hD⟩:=this
  exact⟨a,ps, .inl k,w,rfl,hv.bZ,hp,hw,z f _ H _ p (.refl W.ay) hD⟩)
end
end L2
set_option maxRecDepth 100000
set_option maxHeartbeats 4000000
set_option maxRecDepth 100000
set_option maxHeartbeats 4000000
namespace L2
open PySem PySem.Spec PyProof.Rows
structure OW(n:Int)(cs:List az):Prop where
 n0:1<=n
 n1:n<=10
 c0:cs≠[]
 c1:cs.length<=8
 ok:∀prs∈cs,prs≠[]/\prs.length<=4/\(prs.map (·.1)).Pairwise (· < ·)/\∀pr∈prs,0<=pr.1/\pr.1<n
section
variable{n:Int}{cs:List az}(h:OW n cs)
include h
end
end L2
set_option maxRecDepth 100000
set_option maxHeartbeats 4000000
namespace L2
open PySem PySem.Spec PyProof.Rows
theorem WU:∀m n:Nat,∃u v:Int,u*m+v*n=(Nat.gcd m n:Int):=fun m n=>by
  induction m,n using Nat.gcd.induction with
  |H0 n=>exact⟨0,1,by simp⟩
  | H1 m n hm ih =>
    obtain⟨u,v,e⟩:=ih
    rw[Nat.gcd_rec]
    refine⟨v-u*(n/m:Nat),u,?_⟩
    rw[<-e]
    have h:(n:Int)=((n%m:Nat):Int)+(m:Int)*((n/m:Nat):Int):=by exact_mod_cast (Nat.mod_add_div n m).symm
    generalize ((n/m:Nat):Int)=z at h⊢
    generalize ((n%m:Nat):Int)=y at h⊢
    rw[h]
    grind
theorem VM{p b a:Int}(hp:gZ p)(hb:b%p≠0):∃k,b*sol p b a-a=p*k:=by
 have p2:=hp.1
 have hex:∃x,0<=x/\x<p/\∃k,b*x-a=p*k:=by
  have hg:Nat.gcd p.natAbs b.natAbs=1:=by
   have d1:(Int.gcd p b:Int)∣p:=Int.gcd_dvd_left ..
   have d2:(Int.gcd p b:Int)∣b:=Int.gcd_dvd_right ..
   have h0:0<(Int.gcd p b:Int):=by
    have:Int.gcd p b≠0:=fun z=>by have:=(Int.gcd_eq_zero_iff.mp z).1;omega
    omega
   rcases hp.2 _ h0 d1 with e|e
   ·show Int.gcd p b=1
    omega
   ·rw[e] at d2;exact absurd (yj d2) hb
  obtain⟨u,v,e⟩:=WU p.natAbs b.natAbs
  rw[hg] at e
  obtain⟨v',e'⟩:∃v',u*p+v'*b=1:=by
   have wF:(p.natAbs:Int)=p:=by omega
   rw[wF] at e
   rcases(show(b.natAbs:Int)=b\/(b.natAbs:Int)= -b by omega) with h|h<;>rw[h] at e
   ·exact⟨v,e⟩
   ·exact⟨-v,by have e2:u*p+v* -b=1:=e;rw[<-e2];grind⟩
  refine⟨(v'*a)%p,eG _ (by omega),e7 _ (by omega),?_⟩
  have h1:=Int.emod_add_mul_ediv (v'*a) p
  generalize v'*a/p=t at h1
  generalize hx:v'*a%p=x at h1
  refine⟨-u*a-b*t,?_⟩
  have:b*x=b*(v'*a)-b*(p*t):=by rw[<-h1];grind
  rw[this]
  have h2:b*(v'*a)=(1-u*p)*a:=by rw[<-e'];grind
  rw[h2]
  grind
 unfold sol
 rw[dif_pos hex]
 exact(Classical.choose_spec hex).2.2
end L2
set_option maxRecDepth 100000
set_option maxHeartbeats 4000000
namespace L2
open PySem PySem.Spec PyProof.Rows
theorem af.era{nb:Addr->Prop}{H:Hp}:∀{ds:List PyData} {xs:List V} (m:Nat),af nb H ds xs->af nb H (ds.eraseIdx m) (xs.eraseIdx m)
 |[],_,m,h=>by unfold af at h;subst h;exact .nil
 |e::ds,_,0,h=>by unfold af at h;obtain⟨y,ys,rfl,h1,h2⟩:=h;exact h2
 |e::ds,_,m+1,h=>by unfold af at h;obtain⟨y,ys,rfl,h1,h2⟩:=h;exact .cons h1 (af.era m h2)
section
variable{X:Cx}
theorem Vals.ins{y:V}{u:Value}(r:RelV y u):∀{xs:List V} {us:List Value} (k:Nat),Vals xs us->Vals (xs.take k++y::xs.drop k) (us.take k++u::us.drop k)
 |_,_,0,h=> .cons r h
 |[],_,k+1,h=>by cases h;exact .cons r .nil
 |_::_,_,k+1, .cons a h=> .cons a (Vals.ins r k h)
def EJ:V->List V->Hp->VK->Prop:=fun x vs H Q=>∃l xs y,∃i:Int,x= .ref l/\vs=[.int i,y]/\H l=some (.lst xs)/\0<=i/\i<=xs.length/\xs.length<10000/\Q .aL (upd H l (.lst (xs.take i.toNat++y::xs.drop i.toNat)))
theorem Tu:qh X "list.insert" EJ:=by
  intro pins s σ H x vs v us Q I rx rv h
  obtain⟨l,xs,y,i,rfl,rfl,hH,h0,h1,hz,q⟩:=h
  cases rx
  cases rv with
  | cons r1 r2 =>
    obtain⟨t,rfl⟩:=r1
    obtain⟨u,rfl,ru⟩:=vals1 r2
    obtain⟨z,its,n,r,hl,e⟩:=I.kJ hH
    have hfit:¬(!Builtin.List.listFitsIndex i)=true:=by
      have:=fitsIndex_both (k:=i) (by omega) (by omega)
      simpa using this
    refine call_meets HW ⟨_,e,rfl⟩ PySem.F.entry_list_insert (PySem.F.args_list_insert_3 _ _ _) (AutoSeq1.list_insert_list_int_val_1 l its.toArray n i t u hfit (by rw[cG];omega)) ⟨e,?_⟩
    refine⟨.aL,_,I.qf (its':=its.take i.toNat++u::its.drop i.toNat) hH e ?_ (Vals.ins ru i.toNat r) ?_,rfl,q⟩
    · have hk:(if i<0 then(i+((its.toArray.size:Nat):Int)).toNat else min i.toNat its.toArray.size)=i.toNat:=by
        rw[if_neg (by omega),cG];omega
      simp only[hk]
      apply Array.ext'
      simp[xF]
    · rw[fm,fB,cZ,iR]
      have:sizeLine=sizeLine:=rfl
      rw[sizeLine_eq]
      omega
end
section
variable{G:Gx}{ρ:Rh}{te:TE}{E:DE}{i j:Nat}{f:Bool}{ds:List PyData}{K:PySem.W.Frag}
theorem Sv.Q6{a:Addr}(e:ρ[i]?=some (.own a f ds))(h:Ev G ρ te fun _ y=>∃(m:Nat) (d:PyData),y= .int (m:Int)/\m<2^62/\ds[m]?=some d/\E.nx ((ρ.set i (.own a f (ds.eraseIdx m))).set j (.d f d))):
  Sv G ρ (ff (sI K "list" Dt (dG i) (cA te cL)) (eX j)) E:=fun nb σ H D W KK=>by
 obtain⟨x,e1,h1,h2,h3,xs,hx,hd⟩:=W.ok i _ e
 subst h1
 refine⟨.ref a,e1, .inl ⟨rfl,_,aS.of hx⟩,h nb σ H _ W fun g v H1 y ⟨m,d,ey,hm,Pe,q⟩ s1 hv=>?_⟩
 subst ey
 have hk:=hv.bZ
 subst hk
 have W1:=W.step s1
 have sS:=s1.1 _ _ h3 hx
 have hd1:=hd.keep s1.cN
 obtain⟨y',hy',hD⟩:=hd1.get Pe
 have hml:m<xs.length:=(aP.mp hy').1
 have hix:seqIndex? (m:Int) xs.length=some m:=by
  have:dM xs.length (m:Int)=some m:=by
   unfold dM
   rw[if_pos (by omega),if_pos (by omega),fX]
  exact(t8 this).1
 refine⟨a,xs,(m:Int),m,y',rfl,rfl,sS,by omega,by omega,hix,hy',?_⟩
 have W2:=oF W1 e (hd1.era m)
 exact KK.nx nb _ _ _ q (W2.lG (hD.keep (bz.set (.inl h2))))
theorem af.ins{nb:Addr->Prop}{H:Hp}{d:PyData}{x:V}(hd:ai nb H d x):∀{ds:List PyData} {xs:List V} (k:Nat),af nb H ds xs->af nb H (ds.take k++d::ds.drop k) (xs.take k++x::xs.drop k)
 |_,_,0,h=> .cons hd h
 |[],_,k+1,h=>by unfold af at h;subst h;exact .cons hd .nil
 |e::ds,_,k+1,h=>by unfold af at h;obtain⟨y,ys,rfl,h1,h2⟩:=h;exact .cons h1 (af.ins hd k h2)
theorem Sv.insert{a:Addr}{tb:TE}(e:ρ[i]?=some (.own a f ds))(h:Ev G ρ te fun _ y=>∃k:Int,y= .int k/\0<=k/\k<=ds.length/\ds.length<10000/\Ev G ρ tb fun g d=>E.nx (ρ.set i (.own a (f && g) (ds.take k.toNat++d::ds.drop k.toNat)))):
  Sv G ρ (nD (sI K "list" EJ (dG i) (cA te (cA tb cL)))) E:=fun nb σ H D W KK=>by
 obtain⟨x,e1,h1,h2,h3,xs,hx,hd⟩:=W.ok i _ e
 subst h1
 refine⟨.ref a,e1, .inl ⟨rfl,_,aS.of hx⟩,h nb σ H _ W fun g0 v H1 y ⟨k,ey,k0,k1,hl,q⟩ s1 hv=>?_⟩
 subst ey
 have hk:=hv.bZ
 subst hk
 refine q nb σ H1 _ (W.step s1) fun g u H2 d p s2 hu=>?_
 have W2:=(W.step s1).step s2
 have oR:=s2.1 _ _ h3 (s1.1 _ _ h3 hx)
 have hd2:=(hd.keep s1.cN).keep s2.cN
 have hlen:=hd.length
 refine⟨a,xs,u,k,rfl,rfl,oR,k0,by omega,by omega,KK.nx nb _ _ _ p (oF W2 e ?_)⟩
 exact af.ins (hu.av (cT (fun z=>(fK _ _▸z).2) fun _ z=>z)) _ (hd2.av (cT (fun z=>(fK _ _▸z).1) fun _ z=>z))
end
end L2
set_option maxRecDepth 100000
set_option maxHeartbeats 4000000
namespace L2
open PySem PySem.Spec PyProof.Rows
theorem Mq{H:Hp}{a:Addr}{xs ys:List (Key×V)}(h:Rd H a (.dK xs))(g:Rd H a (.dK ys)):xs=ys:=by
 rcases h with h|⟨o,h⟩<;>rcases g with g|⟨u,g⟩<;>rw[h] at g<;>cases g<;>rfl
theorem pF.fn:∀{d e:PyData} {k:Key},pF d k->pF e k->d=e
  | .int i, e, k, h, g => by
    have h:k= .inl i:=h
    cases e<;>first|exact g.elim|(have g:k=_:=g;rw[h] at g;injection g with g;subst g;rfl)|(have g:k=_:=g;rw[h] at g;cases g)
  | .str i, e, k, h, g => by
    have h:k= .inr i:=h
    cases e<;>first|exact g.elim|(have g:k=_:=g;rw[h] at g;injection g with g;subst g;rfl)|(have g:k=_:=g;rw[h] at g;cases g)
  | .none,_,_,h,_=>h.elim
  | .bool _,_,_,h,_=>h.elim
  | .list _,_,_,h,_=>h.elim
  | .tuple _,_,_,h,_=>h.elim
  | .dict _,_,_,h,_=>h.elim
mutual
theorem ai.fn{S S':Addr->Prop}{H:Hp}:∀{d e:PyData} {v:V},ai S H d v->ai S' H e v->d=e
  | .none, e, v, h, g => by
    unfold ai at h;subst h
    cases e<;>unfold ai at g<;>first|rfl|(cases g;done)|(obtain⟨_,_,z,_⟩:=g;cases z)
  | .bool b, e, v, h, g => by
    unfold ai at h;subst h
    cases e<;>unfold ai at g<;>first|(cases g;done)|(cases g;rfl)|(obtain⟨_,_,z,_⟩:=g;cases z)
  | .int b, e, v, h, g => by
    unfold ai at h;subst h
    cases e<;>unfold ai at g<;>first|(cases g;done)|(cases g;rfl)|(obtain⟨_,_,z,_⟩:=g;cases z)
  | .str b, e, v, h, g => by
    unfold ai at h;subst h
    cases e<;>unfold ai at g<;>first|(cases g;done)|(cases g;rfl)|(obtain⟨_,_,z,_⟩:=g;cases z)
  | .list ds, e, v, h, g => by
    unfold ai at h
    obtain⟨a,xs,rfl,n,hx,hd⟩:=h
    cases e<;>unfold ai at g<;>first|(cases g;done)|skip
    all_goals (obtain⟨a',xs',z,n',hx',hd'⟩:=g;cases z)
    all_goals first
      |(rcases hx' with hx'|⟨o,hx'⟩<;>rw[hx] at hx'<;>cases hx';done)
      |(rw[hx] at hx';cases hx';done)
      |(rw[hx] at hx';cases hx';rw[af.fn hd hd'])
  | .tuple ds, e, v, h, g => by
    unfold ai at h
    obtain⟨a,xs,rfl,n,hx,hd⟩:=h
    cases e<;>unfold ai at g<;>first|(cases g;done)|skip
    all_goals (obtain⟨a',xs',z,n',hx',hd'⟩:=g;cases z)
    all_goals first
      |(rcases hx' with hx'|⟨o,hx'⟩<;>rw[hx] at hx'<;>cases hx';done)
      |(rw[hx] at hx';cases hx';done)
      |(rw[hx] at hx';cases hx';rw[af.fn hd hd'])
  | .dict ds, e, v, h, g => by
    unfold ai at h
    obtain⟨a,xs,rfl,n,hx,hd⟩:=h
    cases e<;>unfold ai at g<;>first|(cases g;done)|skip
    all_goals (obtain⟨a',xs',z,n',hx',hd'⟩:=g;cases z)
    all_goals first
      |(rcases hx with hx|⟨o,hx⟩<;>rw[hx] at hx'<;>cases hx';done)
      |(rw[au.fn hd (by rw[Mq hx hx'];exact hd')])
theorem af.fn{S S':Addr->Prop}{H:Hp}:∀{ds es:List PyData} {vs:List V},af S H ds vs->af S' H es vs->ds=es
  | [], es, vs, h, g => by
    unfold af at h;subst h
    cases es with
    |nil=>rfl
    |cons e es=>unfold af at g;obtain⟨_,_,z,_⟩:=g;cases z
  | d :: ds, es, vs, h, g => by
    unfold af at h
    obtain⟨y,ys,rfl,h1,h2⟩:=h
    cases es with
    |nil=>unfold af at g;cases g
    | cons e es =>
      unfold af at g
      obtain⟨y',ys',z,g1,g2⟩:=g
      cases z
      rw[ai.fn h1 g1,af.fn h2 g2]
theorem au.fn{S S':Addr->Prop}{H:Hp}:∀{ds es:List (PyData×PyData)} {vs:List (Key×V)},au S H ds vs->au S' H es vs->ds=es
  | [], es, vs, h, g => by
    unfold au at h;subst h
    cases es with
    |nil=>rfl
    |cons e es=>unfold au at g;obtain⟨_,_,z,_⟩:=g;cases z
  | d :: ds, es, vs, h, g => by
    unfold au at h
    obtain⟨y,ys,rfl,h1,h2⟩:=h
    cases es with
    |nil=>unfold au at g;cases g
    | cons e es =>
      unfold au at g
      obtain⟨y',ys',z,g1,g2⟩:=g
      cases z
      rw[bP.fn h1 g1,au.fn h2 g2]
theorem bP.fn{S S':Addr->Prop}{H:Hp}:∀{d e:PyData×PyData} {v:Key×V},bP S H d v->bP S' H e v->d=e
  | (k, d), (k', e), v, h, g => by
    unfold bP at h g
    rw[pF.fn h.1 g.1,ai.fn h.2 g.2]
end
mutual
theorem ai.out{S:Addr->Prop}{H:Hp}{c:Addr}{D:PyData}(hc:ai S H D (.ref c)):∀{d:PyData} {v:V},sizeOf d<sizeOf D->ai S H d v->ai (fun x=>S x\/x=c) H d v
  | .none,_,_,h=>by unfold ai at h⊢;exact h
  | .bool _,_,_,h=>by unfold ai at h⊢;exact h
  | .int _,_,_,h=>by unfold ai at h⊢;exact h
  | .str _,_,_,h=>by unfold ai at h⊢;exact h
  | .list ds, v, hs, h => by
    have h0:=h
    unfold ai at h⊢
    obtain⟨a,xs,rfl,n,hx,hd⟩:=h
    refine⟨a,xs,rfl,fun z=>z.elim n fun z=>?_,hx,af.out hc (by simp at hs;omega) hd⟩
    subst z
    rw[ai.fn hc h0] at hs
    exact absurd hs (g5 _)
  | .tuple ds, v, hs, h => by
    have h0:=h
    unfold ai at h⊢
    obtain⟨a,xs,rfl,n,hx,hd⟩:=h
    refine⟨a,xs,rfl,fun z=>z.elim n fun z=>?_,hx,af.out hc (by simp at hs;omega) hd⟩
    subst z
    rw[ai.fn hc h0] at hs
    exact absurd hs (g5 _)
  | .dict ds, v, hs, h => by
    have h0:=h
    unfold ai at h⊢
    obtain⟨a,xs,rfl,n,hx,hd⟩:=h
    refine⟨a,xs,rfl,fun z=>z.elim n fun z=>?_,hx,au.out hc (by simp at hs;omega) hd⟩
    subst z
    rw[ai.fn hc h0] at hs
    exact absurd hs (g5 _)
theorem af.out{S:Addr->Prop}{H:Hp}{c:Addr}{D:PyData}(hc:ai S H D (.ref c)):∀{ds:List PyData} {vs:List V},sizeOf ds<sizeOf D->af S H ds vs->af (fun x=>S x\/x=c) H ds vs
  |[],_,_,h=>by unfold af at h⊢;exact h
  | d :: ds, _, hs, h => by
    unfold af at h⊢
    obtain⟨y,ys,e,h1,h2⟩:=h
    exact⟨y,ys,e,ai.out hc (by simp at hs;omega) h1,af.out hc (by simp at hs;omega) h2⟩
theorem au.out{S:Addr->Prop}{H:Hp}{c:Addr}{D:PyData}(hc:ai S H D (.ref c)):∀{ds:List (PyData×PyData)} {vs:List (Key×V)},sizeOf ds<sizeOf D->au S H ds vs->au (fun x=>S x\/x=c) H ds vs
  |[],_,_,h=>by unfold au at h⊢;exact h
  | d :: ds, _, hs, h => by
    unfold au at h⊢
    obtain⟨y,ys,e,h1,h2⟩:=h
    exact⟨y,ys,e,bP.out hc (by simp at hs;omega) h1,au.out hc (by simp at hs;omega) h2⟩
theorem bP.out{S:Addr->Prop}{H:Hp}{c:Addr}{D:PyData}(hc:ai S H D (.ref c)):∀{d:PyData×PyData} {v:Key×V},sizeOf d<sizeOf D->bP S H d v->bP (fun x=>S x\/x=c) H d v
  | (k, d), _, hs, h => by
    unfold bP at h⊢
    exact⟨h.1,ai.out hc (by simp at hs;omega) h.2⟩
end
def gb(G:Gx)(ρ:Rh)(te:TE)(Φ:PyData->Prop):Prop:=∀nb σ H (Q:VK),Wd G nb ρ σ H->(∀v H' d,Φ d->Step G.B H H'->ai (fun a=>H a≠none) H' d v->Q v H')->te σ H Q
section
variable{G:Gx}{ρ:Rh}{ta tb te:TE}{t:TA}{E:DE}{i j k m:Nat}{f:Bool}{K:PySem.W.Frag}{Φ:PyData->Prop}
theorem Wd.Gg{nb:Addr->Prop}{σ:St}{H H1:Hp}{a:Addr}(W:Wd G nb ρ σ H)(s:Step G.B H H1)(h:H a≠none):H1 a≠none:=fun e=>h (W.none_of s e)
theorem gb.qy{n:Nat}{F:DF}(hm:dQ F)(e:ρ[i]?=some .ay)(h:Av G ρ t fun es=>es.length+1=n/\F (es.map (·.2)) fun f d=>f=true/\Φ d):gb G ρ (iS (iK n F) [] E0 (cA (dG i) t)) Φ:=fun nb σ H Q W z=>by
 obtain⟨b,l,hB,e1,B⟩:=W.u7 e
 refine⟨.ref b,e1,h nb σ H _ W fun es vs H1 ⟨hl,p⟩ s1 q1=>?_⟩
 have W1:=W.step s1
 show iK n F ((V.ref b::vs)++[]) H1 Q E0
 rw[jz]
 have hb:∀f,G.S nb f b:=fun f=> .inr (.inr (.inl fun n=>n b l hB rfl))
 refine⟨by rw[fB,q1.len,hl],b,l,vs,G.S nb (jr es),es.map (·.2),rfl,W1.ay b l hB,W1.iy,hb _,q1.all fun z=>z,hm _ _ _ p fun f d ⟨hf,hp⟩ v H' bt B' hd=>z v H' d hp (s1.trans (.tZ hB bt B')) (hd.av fun a q=>?_)⟩
 exact .inr ⟨hf,W.Gg s1 q⟩
theorem gb.dB{n:Nat}{F:DF}(hm:dQ F)(h:Av G ρ t fun es=>es.length=n/\F (es.map (·.2)) fun f d=>f=true/\Φ d):gb G ρ (iS (bI n F) [] E0 t) Φ:=fun nb σ H Q W z=>
 h nb σ H _ W fun es vs H1 ⟨hl,p⟩ s1 q1=>by
  have W1:=W.step s1
  rw[jz]
  refine⟨by rw[q1.len,hl],G.S nb (jr es),es.map (·.2),W1.iy,q1.all fun z=>z,hm _ _ _ p fun f d ⟨hf,hp⟩ v H' sm hd=>z v H' d hp (s1.trans (.same W1.ay sm)) (hd.av fun a q=>?_)⟩
  exact .inr ⟨hf,W.Gg s1 q⟩
theorem Wd.M5{nb:Addr->Prop}{σ:St}{H H1:Hp}{c:Addr}{ds:List PyData}(W:Wd G nb ρ σ H)(s1:Step G.B H H1)(h:ai (fun a=>H a≠none) H1 (.list ds) (.ref c)):
  Wd G (fun x=>nb x\/x=c) (ρ.set i (.own c true ds)) (σ.set i (some (.ref c))) H1:=by
 have h0:=h
 obtain⟨c',xs,e,n,hx,hd⟩:=h.cQ
 cases e
 have hc:H c=none:=gU fun z=>n z
 refine Sv.wu W s1 hc hx ((af.out h0 (by simp) hd).av fun x z=>?_)
 rcases z with z|z
 ·exact .inl (W.iy x z)
 ·exact .inr z
theorem gb.R5{Θ:Bool->List PyData->Prop}(h:gb G ρ te fun d=>∃ds,d= .list ds/\Θ true ds):aD G ρ te Θ:=fun nb σ H Q W z=>
 h nb σ H _ W fun v H' d ⟨ds,e,p⟩ st hd=>by
  subst e
  have h0:=hd
  obtain⟨c,xs,rfl,n,hx,hds⟩:=hd.cQ
  have hc:H c=none:=gU fun z=>n z
  refine z true c xs H' ds p st hc hx ((af.out h0 (by simp) hds).av fun x z=>?_)
  rcases z with z|z
  ·exact .inl (W.iy x z)
  ·exact .inr z
end
end L2
set_option maxRecDepth 100000
set_option maxHeartbeats 1000000
set_option maxRecDepth 100000
set_option maxHeartbeats 4000000
namespace L2
open PySem PySem.Spec PyProof.Rows
def QV(lU:List Int)(prs:az):Nat:=(prs.filter fun pr=>decide (pr.1∈lU)).length
def Ji(cs:List az)(lU:List Int):Bool:=cs.all fun prs=>decide (QV lU prs≠1)
end L2
set_option maxRecDepth 100000
set_option maxHeartbeats 4000000
namespace L2
open PySem PySem.Spec PyProof.Rows
section
variable{G:Gx}{ρ:Rh}{t0:TE}{E:DE}{i0 j:Nat}{f:Bool}{K K2:PySem.W.Frag}
theorem Sv.JQ{i:Nat}{te:TE}{a:Addr}{ds:List PyData}(e:ρ[i]?=some (.own a f ds))(h:Ev G ρ te fun _ y=>∃(m:Nat),y= .int (m:Int)/\m<ds.length/\m<2^62/\E.nx (ρ.set i (.own a f (ds.eraseIdx m)))):
  Sv G ρ (nD (sI K "list" Dt (dG i) (cA te cL))) E:=fun nb σ H D W KK=>by
 obtain⟨x,e1,h1,h2,h3,xs,hx,hd⟩:=W.ok i _ e
 subst h1
 refine⟨.ref a,e1, .inl ⟨rfl,_,aS.of hx⟩,h nb σ H _ W fun g v H1 y ⟨m,ey,hm,hm2,q⟩ s1 hv=>?_⟩
 subst ey
 have hk:=hv.bZ
 subst hk
 have W1:=W.step s1
 have sS:=s1.1 _ _ h3 hx
 have hd1:=hd.keep s1.cN
 obtain⟨y',hy',hD⟩:=hd1.get (aF hm)
 have hml:m<xs.length:=(aP.mp hy').1
 have hix:seqIndex? (m:Int) xs.length=some m:=by
  have:dM xs.length (m:Int)=some m:=by
   unfold dM
   rw[if_pos (by omega),if_pos (by omega),fX]
  exact(t8 this).1
 refine⟨a,xs,(m:Int),m,y',rfl,rfl,sS,by omega,by omega,hix,hy',?_⟩
 exact KK.nx nb _ _ _ q (Sv.oF W1 e (hd1.era m))
end
end L2
set_option maxRecDepth 100000
set_option maxHeartbeats 4000000
namespace L2
open PySem PySem.Spec PyProof.Rows
section
variable{G:Gx}{ρ:Rh}{ta tb te:TE}{t:TA}{E:DE}{i j m n:Nat}{f:Bool}{K K2 K3:PySem.W.Frag}{Φ:Pd}
theorem gb.Uy{Ψ:PyData->Prop}{a:Addr}{ks:Ks}(i:Nat)(e:ρ[i]?=some (.bW a f ks))(h:gb G (ρ.set i (.d f (.dict (ks.map bJ)))) te Ψ):gb G ρ te Ψ:=fun nb σ H Q W z=>h _ σ H Q (Gu W e) z
theorem Ev.Iu(h:gb G ρ te fun d=>Φ true d):Ev G ρ te Φ:=fun nb σ H Q W z=>h nb σ H Q W fun v H' d p st hd=>z true v H' d p st (hd.av fun a q=>W.iy a q)
end
structure EZ(cs:List az)(lU g:List Int):Prop where
 sub:∃q:Int->Bool,g=lU.filter q
 out:Ji cs g=true
 max:∀T:List Int,(∀x∈T,x∈lU)->Ji cs T=true->∀x∈T,x∈g
@[reducible] def Yg(S:List Int):Ks:=S.map fun x=>(x,PyData.bool true)
end L2
set_option maxRecDepth 100000
set_option maxHeartbeats 4000000
namespace L2
open PySem PySem.Spec PyProof.Rows
theorem EZ.mem{cs:List az}{lU g:List Int}(h:EZ cs lU g):∀x∈g,x∈lU:=fun x hx=>by
 obtain⟨q,e⟩:=h.sub
 rw[e] at hx
 exact(iP.mp hx).1
end L2
set_option maxRecDepth 100000
set_option maxHeartbeats 4000000
namespace L2
open PySem PySem.Spec PyProof.Rows
def Fi(row:List Int):Int:=match row.getLast? with|none=>0|some l=>l+1
def Q7(n:Int)(row:List Int):List Int:=(List.range (n-Fi row).toNat).map fun(i:Nat)=>Fi row+(i:Int)
def ext(n:Int)(row:List Int):List (List Int):=(Q7 n row).map fun p=>row++[p]
@[reducible] def YN:Option (List Int)->PyData
 |none=> .none
 |some r=>aR r
end L2
set_option maxRecDepth 100000
set_option maxHeartbeats 4000000
namespace L2
open PySem PySem.Spec PyProof.Rows
section
variable{G:Gx}{ρ:Rh}{Φ:Pd}{t:TA}{te:TE}
theorem Sv.NZ{i:Nat}{E:DE}(h:gb G ρ te fun d=>(∃ds,d= .list ds/\∀a,E.nx (ρ.set i (.own a true ds)))\/(iB d=true/\E.nx (ρ.set i (.d true d)))):Sv G ρ (ff te (eX i)) E:=fun nb σ H D W K=>
 h nb σ H _ W fun v H1 d hd st hv=>by
  rcases hd with ⟨ds,rfl,q⟩|⟨hs,q⟩
  ·have h0:=hv
   obtain⟨c,xs,rfl,_⟩:=hv.cQ
   exact K.nx _ _ _ _ (q c) (Wd.M5 (i:=i) W st h0)
  ·exact K.nx nb _ _ _ q ((W.step st).lG (i:=i) (f:=true) (hv.ia hs))
theorem Sv.clear{i:Nat}{E:DE}{a:Addr}{f:Bool}{ds:List PyData}{K:PySem.W.Frag}(e:ρ[i]?=some (.own a f ds))(h:E.nx (ρ.set i (.own a true []))):Sv G ρ (nD (tN K "list" E9 (dG i))) E:=fun nb σ H D W KK=>by
 obtain⟨x,e1,h1,h2,h3,xs,hx,hd⟩:=W.ok i _ e
 subst h1
 exact⟨.ref a,e1, .inl ⟨rfl,_,aS.of hx⟩,a,xs,rfl,rfl,hx,KK.nx nb _ _ _ h (Sv.oF W e .nil)⟩
end
end L2
set_option maxRecDepth 100000
set_option maxHeartbeats 4000000
namespace L2
open PySem PySem.Spec PyProof.Rows
section
variable{X:Cx}{pins:List (Addr×Obj)}{σ:List (Option V)}{H:Hp}{s:Shared}{h':Heap}
theorem Inv.UJ{t':Nat}{ch:List Addr}{T:Addr}{o:HO}(I:Inv X pins σ H s)(k:∀b u,b∉ch->s.heap.get? b=some u->h'.get? b=some u)(f:∀b∈ch,iA X pins H b)(hT:s.heap.objs.size<=T)(zR:T∉ch)
  (new:cD X.prog X.w (upd H T o) h' T o):Inv X pins σ (upd H T o) {s with heap:=h',toks:=t'}:=by
 have hn:=I.hok.fresh hT
 have ne:∀b u,H b=some u->b∉ch:=fun b u q z=>by rw[(f b z).1] at q;cases q
 have nT:∀b u,H b=some u->b≠T:=fun b u q z=>by rw[z,hn] at q;cases q
 have nl:X.env.locals∉ch:=fun z=>(f _ z).2.1 rfl
 refine I.step (g':=s.gens) (d':=s.drawn) (ch:=ch) (fun b hb=>?_) (fun b o _ _ hc q _=>k b o hc q) (fun b o _ _ hc q _=>⟨o.slots,k b o hc q⟩)
  (fun b o hc q n=>?_) (fun b o hc q=>⟨o,k b o hc q⟩) (fun b xs q=>by rw[aB (nT b _ q)];exact q) (fun b o u q=>by rw[aB (nT b _ q)];exact q) (fun b ps q=>⟨#[],by rw[aB (nT b _ q),q];simp⟩) (fun m hm=>?_) (fun b u q=>?_) I.bare
 ·obtain⟨e0,e1,e2,e3,e4,e5⟩:=f b hb
  exact⟨e3,e1,e4,e5⟩
 ·rw[aB (fun z=>absurd (eg (bG q) (by rw[z];exact hT)) (g5 _))];exact n
 ·obtain⟨o,es,ep,ho,r⟩:=hm
  exact⟨o,es,ep,k _ o nl ho,r⟩
 ·by_cases hb:b=T
  ·subst hb;rw[aY] at q;cases q;exact new
  ·rw[aB hb] at q
   refine(I.hok b u q).stay (fun c v hc z=>?_) (fun c z=>by rw[aB (nT c _ z)];exact z) fun c xs z=>by rw[aB (nT c _ z)];exact z
   rcases hc with y|y
   ·subst y;exact k _ v (ne _ u q) z
   ·exact k c v (ne c _ y) z
theorem Inv.Vv{t':Nat}{ch:List Addr}(I:Inv X pins σ H s)(k:∀b u,b∉ch->s.heap.get? b=some u->h'.get? b=some u)(f:∀b∈ch,iA X pins H b):Inv X pins σ H {s with heap:=h',toks:=t'}:=by
 have ne:∀b u,H b=some u->b∉ch:=fun b u q z=>by rw[(f b z).1] at q;cases q
 have nl:X.env.locals∉ch:=fun z=>(f _ z).2.1 rfl
 refine I.step (g':=s.gens) (d':=s.drawn) (ch:=ch) (fun b hb=>?_) (fun b o _ _ hc q _=>k b o hc q) (fun b o _ _ hc q _=>⟨o.slots,k b o hc q⟩)
  (fun _ _ _ _ n=>n) (fun b o hc q=>⟨o,k b o hc q⟩) (fun _ _ q=>q) (fun _ _ _ q=>q) (fun b ps q=>⟨#[],by rw[q];simp⟩) (fun m hm=>?_) (fun b u q=>?_) I.bare
 ·obtain⟨e0,e1,e2,e3,e4,e5⟩:=f b hb
  exact⟨e3,e1,e4,e5⟩
 ·obtain⟨o,es,ep,ho,r⟩:=hm
  exact⟨o,es,ep,k _ o nl ho,r⟩
 ·refine(I.hok b u q).stay (fun c v hc z=>?_) (fun c z=>z) fun c xs z=>z
  rcases hc with y|y
  ·subst y;exact k _ v (ne _ u q) z
  ·exact k c v (ne c _ y) z
end
def xG(K:PySem.W.Frag)(a b:Addr):It:=
 ⟨fun i H=>∃xs ys x y,aS K H a xs/\aS K H b ys/\xs[i]?=some x/\ys[i]?=some y,fun i H v H'=>∃p x y,v= .ref p/\H p=none/\(∀xs,aS K H a xs->xs[i]?=some x)/\(∀ys,aS K H b ys->ys[i]?=some y)/\H'=upd H p (.tup [x,y]),fun i H=>∃xs ys,aS K H a xs/\aS K H b ys/\min xs.length ys.length=i⟩
def IM(z TI TO i1 i2 a b:Addr)(i:Nat)(h:Heap):Prop:=IsZip h z TI TO .none/\IsPair h TI (.ref i1) (.ref i2)/\(∃u v,IsPair h TO u v)/\h.IsListIter i1 a i/\h.IsListIter i2 b i
theorem IG{X:Cx}{z TI TO i1 i2 a b:Addr}{h:Heap}{i:Nat}{xs ys:Array Value}(h1:h.IsList a xs)(h2:h.IsList b ys)(st:IM z TI TO i1 i2 a b i h)(hd:[z,TI,TO,i1,i2].Nodup):ZipApart z TI TO i1 i2 a b:=by
 obtain⟨s1,s2,⟨u,v,s3⟩,s4,s5⟩:=st
 have n1:∀{l:Addr} {xs:Array Value},h.IsList l xs->l≠z/\l≠TO/\l≠i1/\l≠i2:=fun{l xs} hl=>by
  obtain⟨ol,l1,l2,l3⟩:=hl
  refine⟨fun q=>?_,fun q=>?_,fun q=>?_,fun q=>?_⟩
  ·subst q;rw[s1] at l1;cases l1;exact absurd l2 (by simp)
  ·subst q;rw[s3] at l1;cases l1;exact absurd l2 (by simp)
  ·subst q
   obtain⟨oi,e1,e2,e3⟩:=s4
   rw[e1] at l1;cases l1;rw[e2] at l2;exact absurd l2 (by simp)
  ·subst q
   obtain⟨oi,e1,e2,e3⟩:=s5
   rw[e1] at l1;cases l1;rw[e2] at l2;exact absurd l2 (by simp)
 obtain⟨a1,a2,a3,a4⟩:=n1 h1
 obtain⟨b1,b2,b3,b4⟩:=n1 h2
 simp only[iE,bq,cR,not_or,or_false,not_false_eq_true,List.nodup_nil,and_true] at hd
 obtain⟨⟨d1,d2,d3,d4⟩,⟨d5,d6,d7⟩,⟨d8,d9⟩,sQ⟩:=hd
 exact⟨bx d1,bx d2,bx d3,bx d4,d5,d6,d7,d8,d9,sQ,a1,a2,a3,a4,b1,b2,b3,b4⟩
theorem RE{P:Program}{w:World}{K:PySem.W.Frag}{elts:List Expr}{k:Nat}{pos:Pos}(z TI TO i1 i2 a b:Addr)(hd:[z,TI,TO,i1,i2].Nodup):
  Turn P w K (.Tuple elts k pos) (xG K a b) [z,TI,TO,i1,i2] z (IM z TI TO i1 i2 a b) where
 mem:=by simp
 obj:=fun i h st c hc=>by
  obtain⟨s1,s2,⟨u,v,s3⟩,⟨o4,e4,c4,d4⟩,⟨o5,e5,c5,d5⟩⟩:=st
  have hc:c=z\/c=TI\/c=TO\/c=i1\/c=i2:=by simpa using hc
  rcases hc with q|q|q|q|q
  ·subst q;exact⟨_,s1,fun v z=>by have z':Data.fields _=Data.cell v:=z;cases z'⟩
  ·subst q;exact⟨_,s2,fun v z=>by have z':Data.seq _ _=Data.cell v:=z;cases z'⟩
  ·subst q;exact⟨_,s3,fun v z=>by have z':Data.seq _ _=Data.cell v:=z;cases z'⟩
  ·subst q;exact⟨o4,e4,fun v z=>by rw[d4] at z;cases z⟩
  ·subst q;exact⟨o5,e5,fun v z=>by rw[d5] at z;cases z⟩
 keep:=fun i h h' st k=>by
  obtain⟨s1,s2,⟨u,v,s3⟩,s4,s5⟩:=st
  exact⟨k z (by simp) _ s1,k TI (by simp) _ s2,⟨u,v,k TO (by simp) _ s3⟩,s4.at fun o q=>k i1 (by simp) o q,s5.at fun o q=>k i2 (by simp) o q⟩
 item:=by
  intro X hP hw hK hc i pins s σ H E I hf st hg
  subst hP hw hK
  obtain⟨xs,ys,x,y,hq1,hq2,hx,hy⟩:=hg
  obtain⟨its,rv,p,hz⟩:=I.list hq1
  obtain⟨its2,qH,p2,hz2⟩:=I.list hq2
  obtain⟨u,hu,ru⟩:=rv.get hx
  obtain⟨u2,Gm,NJ⟩:=qH.get hy
  have D:=IG (X:=X) p.isList p2.isList st hd
  have W:=WalksT.zip2 (prog:=X.prog) (w:=X.w) (I.ok.hd hc) z TI TO i1 i2 a b D its.toArray its2.toArray
  have hi:i<min its.toArray.size its2.toArray.size:=by
   have h1:=(aP.mp hu).1
   have h2:=(aP.mp Gm).1
   rw[cG,cG]
   omega
  obtain⟨s1,s2,s3,s4,s5⟩:=id st
  refine W.item i s _ _ hi ⟨s1,s2,s3,s4,s5,p.isList,p2.isList⟩ fun T vals h' tk hv hT Eh oG kp=>⟨.ref T,rfl,?_⟩
  refine W.go elts k pos i T _ _ _ oG fun h'' st' rT=>?_
  obtain⟨x',y',hx',hy',AF⟩:=hv
  have e1:x'=u:=by
   have:its.toArray[i]?=some u:=by simpa using hu
   rw[hx'] at this;exact fN this
  have e2:y'=u2:=by
   have:its2.toArray[i]?=some u2:=by simpa using Gm
   rw[hy'] at this;exact fN this
  subst e1 e2 AF
  have DS:=W.apart i T h' oG
  have hTI:T≠TI:=fun q=>by
   rw[q] at hT
   exact absurd (bG s2) (Nat.not_lt.mpr hT)
  obtain⟨_,_,_,_,_,_,_,t1,t2,t3,t4⟩:=oG
  obtain⟨oT,g1,g2,nT,g3⟩:=Eh
  have qK:=rT T oT DS g1
  have zR:T∉[z,TI,TO,i1,i2]:=by simp[t1,hTI,t2,t3,t4]
  refine⟨.ref T,upd H T (.tup [x,y]),I.UJ (ch:=[z,TI,TO,i1,i2]) (fun c v hc q=>rT c v (fun m=>hc (by simp at m⊢;rcases m with m|m|m|m<;>simp[m])) (kp c v (fun m=>hc (by simp at m⊢;rcases m with m|m|m|m<;>simp[m])) q)) hf hT zR ?_,rfl,⟨T,x,y,rfl,I.hok.fresh hT,fun zs hy=>by rw[I.vE hy hq1];exact hx,fun zs hy'=>by rw[I.vE hy' hq2];exact hy,rfl⟩,?_,fun c hc=>?_⟩
  ·exact⟨by show 2<=sizeLine;decide,[x',y'], .cons ru (.cons NJ .nil),oT,qK,g2,nT,g3⟩
  ·obtain⟨q1,q2,q3,q4,q5,_,_⟩:=st'
   exact⟨q1,q2,q3,q4,q5⟩
  ·rw[aB (fun q=>zR (by rw[<-q];exact hc)),(hf c hc).1]
 done:=by
  intro X hP hw hK hc i pins s σ H E I hf st hg
  subst hP hw hK
  obtain⟨xs,ys,hq1,hq2,hx⟩:=hg
  obtain⟨its,rv,p,hz⟩:=I.list hq1
  obtain⟨its2,qH,p2,hz2⟩:=I.list hq2
  have D:=IG (X:=X) p.isList p2.isList st hd
  have W:=WalksT.zip2 (prog:=X.prog) (w:=X.w) (I.ok.hd hc) z TI TO i1 i2 a b D its.toArray its2.toArray
  have l1:=rv.length
  have l2:=qH.length
  have hn:min its.toArray.size its2.toArray.size=i:=by rw[cG,cG,<-l1,<-l2];exact hx
  obtain⟨s1,s2,s3,s4,s5⟩:=id st
  refine W.done s _ _ (by rw[hn];exact⟨s1,s2,s3,s4,s5,p.isList,p2.isList⟩) fun h' tk kp=>⟨rfl,?_⟩
  exact I.Vv (ch:=[z,TI,TO,i1,i2]) (fun c v hc q=>kp c v (fun m=>hc (by simp at m⊢;rcases m with m|m|m|m<;>simp[m])) q) hf
 self:=fun _ _ _ _ _ st h=>wpAny_pyIter_zip st.1 h
def yT(K:PySem.W.Frag)(ta tb:TE):TI:=fun σ H R=>ta σ H fun x H1=>tb σ H1 fun y H2=>∃a b,x= .ref a/\y= .ref b/\(∃xs,aS K H2 a xs)/\(∃ys,aS K H2 b ys)/\R (xG K a b) H2
theorem ES{X:Cx}{K:PySem.W.Frag}{elts:List Expr}{k:Nat}{tpos:Pos}{l1 l2:Expr}{ta tb:TE}{p pos:Pos}(hK:X.K=K)(hg:Gl X "zip")(hm:X.mg "zip"=none)(ha:PE X l1 ta)(hb:PE X l2 tb)(hs:starEach [l1,l2] X.env=[(false,eval l1 X.env),(false,eval l2 X.env)]:=by rfl)(hs2:starEach [l2] X.env=[(false,eval l2 X.env)]:=by rfl)(hpl:(backTo pos (starEach [l2] X.env)).any (·.1)=false:=by rfl):
    PI X (.Tuple elts k tpos) (.Call (.Name "zip" p) [l1,l2] [] pos) (yT K ta tb):=by
  subst hK
  intro pins s σ H R I h
  have hA:PA X [l1,l2] (cA ta (cA tb cL)):=aa ha (aa hb ao (by rw[hs2];rfl)) (by rw[hs,hs2])
  refine Call_ (lM I hg hm boot_zip (oW (aO (hA pos pins s σ H (fun vs H1=>match vs with|[x,y]=>∃a b,x= .ref a/\y= .ref b/\(∃xs,aS X.K H1 a xs)/\(∃ys,aS X.K H1 b ys)/\R (xG X.K a b) H1|_=>False) I h) fun us s1 ⟨vs,H1,I1,r1,q1⟩=>?_) (by rw[hs,hs2]) hpl))
  cases r1 with
  |nil=>exact q1.elim
  | cons r rr =>
    cases rr with
    |nil=>exact q1.elim
    |cons r2 rr=>
    cases rr with
    |cons _ _=>exact q1.elim
    |nil=>
    obtain⟨a,b,e1,e2,⟨xs,hq⟩,⟨ys,hq2⟩,q⟩:=q1
    subst e1 e2
    cases r
    cases r2
    obtain⟨its,rv,p,hz⟩:=I1.list hq
    obtain⟨its2,qH,p2,hz2⟩:=I1.list hq2
    refine call_zip_2 p.isList p2.isList fun h' hz hTI hTO hi1 hi2 hsz hk=>?_
    refine wpAny_pyIter_zip hz ?_
    have I2:Inv X pins σ H1 {s1 with heap:=h'}:=I1.kept (t':=s1.toks) hk
    refine⟨s1.heap.objs.size+4,[s1.heap.objs.size+4,s1.heap.objs.size+2,s1.heap.objs.size+3,s1.heap.objs.size,s1.heap.objs.size+1],_,_,H1,rfl,I2,RE _ _ _ _ _ a b (by simp),⟨hz,hTI,⟨_,_,hTO⟩,hi1,hi2⟩,fun b hb=>?_,q⟩
    have hb':s1.heap.objs.size<=b:=by
      simp only[bq,cR,or_false] at hb
      rcases hb with z|z|z|z|z<;>subst z
      · exact ve _ _
      · exact ve _ _
      · exact ve _ _
      · exact bh _
      · exact ve _ _
    exact I1.om hb' (I1.hok.fresh hb')
theorem R.Lq{K:PySem.W.Frag}{a b:Addr}{xs ys:List V}{g:TG}{tc:TT}{te:TE}{acc:Addr}{Qe:Hp->Prop}{σ:St}{H:Hp}(hlen:ys.length=xs.length)(Pv:Nat->St->Hp->Prop)(h0:Pv 0 σ H)(hl:∀i σ H,i<=xs.length->Pv i σ H->aS K H a xs/\aS K H b ys)
  (hs:∀i x y σ H p,xs[i]?=some x->ys[i]?=some y->Pv i σ H->H p=none->g (.ref p) σ (upd H p (.tup [x,y])) fun σ2 H2=>tc σ2 H2 fun b H3=>if b=true then te σ2 H3 fun v H4=>∃ys,H4 acc=some (.lst ys)/\ys.length<sizeLine/\Pv (i+1) σ2 (upd H4 acc (.lst (ys++[v]))) else Pv (i+1) σ2 H3)
  (hd:∀σ H,Pv xs.length σ H->Qe H):mG (xG K a b) g tc te acc Qe σ H:=by
 refine⟨fun i m σ H=>m=xs.length-i/\i<=xs.length/\Pv i σ H,⟨xs.length,by simp,fW _,h0⟩,?_⟩
 rintro i m σ H ⟨rfl,hi,p⟩
 obtain⟨q,q2⟩:=hl i σ H hi p
 by_cases hlt:i<xs.length
 ·refine .inr ⟨⟨xs,ys,xs[i],ys[i]'(by omega),q,q2,by simp[hlt],aF _⟩,Pv (i+1),fun σ' H' p'=>⟨xs.length-(i+1),by omega,rfl,hlt,p'⟩,fun x H' y=>?_⟩
  obtain⟨pp,y,y2,e,hn,hy,Wq,e2⟩:=y
  subst e e2
  exact hs i y y2 σ H pp (hy xs q) (Wq ys q2) p hn
 ·have e:i=xs.length:=by omega
  subst e
  exact .inl ⟨⟨xs,ys,q,q2,by omega⟩,hd σ H p⟩
section
variable{G:Gx}{ρ bM:Rh}{te:TE}{s:TS}{gt:TG}{E:DE}{K:PySem.W.Frag}{Θ:Bool->List PyData->Prop}{tc:TT}{mp:List (Option Nat)}
theorem aD.Rj{t1 t2:TE}(hm:(mp.filterMap id).Nodup)(cM:kc mp ρ=bM)(h:Ev G ρ t1 fun f1 x=>∃es,x= .list es/\cV es=true/\es.length<=10000/\∀v,Ev (G.hd f1 (.list es) v) ρ t2 fun f2 y=>∃dU,y= .list dU/\cV dU=true/\dU.length=es.length/\∀v2,gS ((G.hd f1 (.list es) v).hd f2 (.list dU) v2) bM es.length (fun i d=>∃e e2,es[i]?=some e/\dU[i]?=some e2/\d= .tuple [e,e2]) true gt tc te Θ):aD G ρ (kG (yT K t1 t2) gt tc te mp) Θ:=fun nb σ H Q W z=>
 h nb σ H _ W fun f1 v H0 x ⟨es,ex,hs,hn,q⟩ s0 hv=>by
  subst ex
  have Wa:=(W.step s0).hd hv
  refine q v nb σ H0 _ Wa fun f2 v2 H1 y ⟨dU,ey,hs2,hlen,q⟩ s1 hv2=>?_
  subst ey
  obtain⟨fl,I,h0,ht,he⟩:=q v2
  have W0:=(Wa.step s1).hd hv2
  obtain⟨_,hv'⟩:=(Wa.step s1).c8
  obtain⟨a,xs,rfl,n,hx,hd⟩:=hv'.cQ
  obtain⟨b,tK,rfl,n2,oR,hd2⟩:=hv2.cQ
  have l1:=hd.length
  have l2:=hd2.length
  refine⟨a,b,rfl,rfl,⟨xs, .of hx⟩,⟨tK, .of oR⟩,fun acc hacc=>?_⟩
  have mQ:Wd ((G.hd f1 (.list es) (.ref a)).hd f2 (.list dU) (.ref b)) nb bM (L2.eZ mp σ) H1:=by rw[<-cM];exact W0.eZ hm
  have W1:=mQ.more hacc (o:= .lst [])
  have Dw:Step G.B H H1:=s0.trans s1
  have hN:=NB.new Dw.2 hacc
  have hno:=se mQ hacc
  have jG:Step G.B H1 (upd H1 acc (.lst [])):= .same Dw.2 (cH hacc)
  have nq:NB G.B a:=gU fun z=>n (.inr (.inr (.inl z)))
  have Gy:NB G.B b:=gU fun z=>n2 (.inr (.inr (.inl z)))
  refine R.Lq (xs:=xs) (ys:=tK) (by omega) (fun i σ H=>∃ds ys,Wd ((G.hd f1 (.list es) (.ref a)).hd f2 (.list dU) (.ref b)) (fun x=>nb x\/x=acc) bM σ H/\Step G.B H1 H/\H acc=some (.lst ys)/\af (G.S (fun x=>nb x\/x=acc) fl) H ds ys/\ds.length<=i/\I i ds/\H a=some (.lst xs)/\H b=some (.lst tK)) ⟨[],[],W1,jG,aY, .nil,bh _,h0,jG.1 _ _ nq hx,jG.1 _ _ Gy oR⟩ ?_ ?_ ?_
  ·rintro i σ H hi ⟨ds,ys,W,st,_,_,_,_,ha,hb⟩
   exact⟨.of ha, .of hb⟩
  ·rintro i x y σ H p hi hi2 ⟨ds,ys,W,st,hy,hd',hl,hI,ha,hb⟩ hp
   have hil:i<es.length:=by have:=(aP.mp hi).1;omega
   obtain⟨x',hx',dx⟩:=hd.get (aF hil)
   rw[hi] at hx';cases hx'
   obtain⟨y',hy',dy⟩:=hd2.get (aF (show i<dU.length by omega))
   rw[hi2] at hy';cases hy'
   have st2:Step ((G.hd f1 (.list es) (.ref a)).hd f2 (.list dU) (.ref b)).B H (upd H p (.tup [x,y])):= .same W.ay (cH hp)
   have hap:acc≠p:=fun z=>by subst z;rw[hp] at hy;cases hy
   have sx:=jQ.mp hs _ (c6 hil)
   have sy:=jQ.mp hs2 _ (c6 (show i<dU.length by omega))
   refine rF (G:=(G.hd f1 (.list es) (.ref a)).hd f2 (.list dU) (.ref b)) hn hil (W.step st2) (.inr rfl) hN hno (st.trans st2) hacc (by rw[aB hap];exact hy) (hd'.keep st2.cN) hl (.tup (W.fresh hp) aY (.cons (dx.ia sx) (.cons (dy.ia sy) .nil))) (ht i _ ds ⟨_,_,aF hil,aF (show i<dU.length by omega),rfl⟩ hl hI) fun σ' H' ds' xs' W' st' hx' hd' hl' hI'=>⟨ds',xs',W',st',hx',hd',hl',hI',st'.1 _ _ nq hx,st'.1 _ _ Gy oR⟩
  ·rintro σ H' ⟨ds,ys,W',st,hy,hd',hl,hI,_⟩
   rw[show xs.length=es.length by omega] at hl hI
   exact qw W Dw hacc st hy hd' (he ds hl hI) z
end
end L2
set_option maxRecDepth 100000
set_option maxHeartbeats 4000000
namespace L2
open PySem PySem.Spec PyProof.Rows
abbrev mU(h:Heap)(e it:Addr)(i:Int)(z:Value)(b:Bool)(old:Value):Prop:=
 h.get? e=some {cls:= .type "enumerate",dict:=none,data:= .fields #[z, .bool b, .ref it,rawInt i, .none,old],slots:= #[]}
def qO(h:Heap)(e it:Addr)(i:Int):Prop:=∃(z:Value) (b:Bool) (old:Value),(z= .none\/∃a:Int,z=rawInt a)/\mU h e it i z b old
section
variable{prog:Program}{w:World}{A:Around}{E:Value->Shared->Prop}{s:Shared}
theorem SW{M:Model}{a:Addr}{Q:Option Obj->Shared->Prop}(h:Q (s.heap.get? a) s):wpAny M A (loadIfAlive a) Q E s:=fun Γ p _=>by
 show Sem.wp M Γ (.loadIfAlive a .pure) _ _ _ _
 rw[Sem.wp_loadIfAlive]
 exact h
theorem OA{e it l:Addr}{i:Nat}{items:Array Value}{x:Value}{Q:Option Value->Shared->Prop}(he:qO s.heap e it i)(hit:s.heap.IsListIter it l i)(hl:s.heap.IsList l items)(hx:items[i]?=some x)(hne:e≠it)
    (hQ:∀h',qO h' e it ((i:Int)+1)->h'.IsListIter it l (i+1)->h'.get? s.heap.objs.size=some {cls:= .type "tuple",data:= .seq #[.int i s.toks,x]}->h'.objs.size=s.heap.objs.size+1->
      (∀b o,b≠e->b≠it->s.heap.get? b=some o->h'.get? b=some o)->Q (some (.ref s.heap.objs.size)) {s with heap:=h',toks:=s.toks+1}):wpAny (model prog w) A (pyNext (.ref e)) Q E s:=by
  obtain⟨z,fb,old,hz,he⟩:=he
  have hT:s.TypeIs (.ref e) "enumerate":=⟨_,he,rfl⟩
  unfold pyNext
  refine wpAny_bind (wpAny_attempt (wpAny_callSpecial?_slot (name:=Str.ofString "__next__") hT xr (wpAny_call_entry xr hT F.entry_enumerate_next ?_ (F.args_enumerate_next_1 _))))
  obtain⟨hp,gg,dd,tk,ss⟩:=s
  show wpAny _ _ (field (.ref e) 2>>=_) _ _ ⟨hp,gg,dd,tk,ss⟩
  refine wpAny_bind (wpAny_field he rfl (x:= .ref it) rfl ?_)
  refine wpAny_bind (wpAny_nextOf_list_item hit hl hx fun k1 j1 m1=>?_)
  replace m1:Heap.SameBut it hp k1:=m1
  have n1:mU k1 e it i z fb old:=(m1.2 e hne).trans he
  show wpAny _ _ (field (.ref e) 3>>=_) _ _ ⟨k1,gg,dd,tk,ss⟩
  refine wpAny_bind (wpAny_field n1 rfl (x:=rawInt i) rfl ?_)
  show wpAny _ _ (field (.ref e) 4>>=_) _ _ ⟨k1,gg,dd,tk,ss⟩
  refine wpAny_bind (wpAny_field n1 rfl (x:= .none) rfl ?_)
  show wpAny _ _ (mkInt i>>=_) _ _ ⟨k1,gg,dd,tk,ss⟩
  refine wpAny_bind (wpAny_mkInt ?_)
  show wpAny _ _ (setField (.ref e) 3 (rawInt ((i:Int)+1))>>=_) _ _ ⟨k1,gg,dd,tk+1,ss⟩
  refine wpAny_bind (wpAny_setField_rec n1 (by simp) fun k2 n2 m2=>?_)
  replace m2:Heap.SameBut e k1 k2:=m2
  replace n2:mU k2 e it ((i:Int)+1) z fb old:=n2
  show wpAny _ _ (setField (.ref e) 4 .none>>=_) _ _ ⟨k2,gg,dd,tk+1,ss⟩
  refine wpAny_bind (wpAny_setField_rec n2 (by simp) fun k3 n3 m3=>?_)
  replace m3:Heap.SameBut e k2 k3:=m3
  replace n3:mU k3 e it ((i:Int)+1) z fb old:=n3
  show wpAny _ _ (newTuple [.int i tk,x]>>=_) _ _ ⟨k3,gg,dd,tk+1,ss⟩
  refine wpAny_bind (wpAny_newTuple ?_)
  have n4:mU (k3.push {cls:= .type "tuple",data:= .seq #[.int i tk,x]}) e it ((i:Int)+1) z fb old:=dw _ n3
  generalize hk:k3.push {cls:= .type "tuple",data:= .seq #[.int i tk,x]}=k4 at n4
  have hsz:k3.objs.size=hp.objs.size:=by rw[m3.1,m2.1,m1.1]
  have hel:e<hp.objs.size:=bG he
  have t4:k4.get? hp.objs.size=some {cls:= .type "tuple",data:= .seq #[.int i tk,x]}:=by rw[<-hk,<-hsz];exact gH _ rfl
  have z4:k4.objs.size=hp.objs.size+1:=by rw[<-hk,pS,hsz]
  have o4:∀b o,b≠e->b≠it->hp.get? b=some o->k4.get? b=some o:=fun b o c1 c2 q=>by
    rw[<-hk];exact dw _ (m3.extBut b o c1 (m2.extBut b o c1 (m1.extBut b o c2 q)))
  have j4:k4.IsListIter it l (i+1):=by
    rw[<-hk];obtain⟨o,ho,r⟩:=(j1.extBut m2.extBut (bx hne)).extBut m3.extBut (bx hne);exact⟨o,dw _ ho,r⟩
  rw[hsz]
  show wpAny _ _ (Builtin.SmallTypes.ownedTupleIsFree (.ref e)>>=_) _ _ ⟨k4,gg,dd,tk+1,ss⟩
  clear hk n3 m3 n2 m2 n1 m1 j1 hsz k3 k2 k1
  have fin:∀k5,qO k5 e it ((i:Int)+1)->Heap.SameBut e k4 k5->Q (some (.ref hp.objs.size)) ⟨k5,gg,dd,tk+1,ss⟩:=fun k5 r m=>by
    refine hQ k5 r (j4.extBut m.extBut (bx hne)) (m.extBut _ _ (kE hel) t4) (by rw[m.1];exact z4) fun b o c1 c2 q=>m.extBut b o c1 (o4 b o c1 c2 q)
  have free:∀(QQ:Fin->Shared->Prop) (EE:Value->Shared->Prop),(∀k5,qO k5 e it ((i:Int)+1)->Heap.SameBut e k4 k5->QQ (.done (.ret (.ref hp.objs.size))) ⟨k5,gg,dd,tk+1,ss⟩)->wpAny (model prog w) A.in1 (do
      rule "enumerate.__next__.owned-tuple-again"
      let old<-field (.ref e) 5
      setField (.ref e) 5 x
      Builtin.SmallTypes.ownedTupleHandOut (.ref e) (.ref hp.objs.size)
      letGo [old] [.ref hp.objs.size]
      ret (.ref hp.objs.size)) QQ EE ⟨k4,gg,dd,tk+1,ss⟩:=by
    intro QQ EE hF
    refine wpAny_bind (wpAny_rule ?_)
    refine wpAny_bind (wpAny_field n4 rfl (x:=old) rfl ?_)
    refine wpAny_bind (wpAny_setField_rec n4 (by simp) fun k5 n5 m5=>?_)
    replace m5:Heap.SameBut e k4 k5:=m5
    replace n5:mU k5 e it ((i:Int)+1) z fb x:=n5
    refine wpAny_bind ?_
    unfold Builtin.SmallTypes.ownedTupleHandOut
    refine wpAny_bind (wpAny_setField_rec n5 (by simp) fun k6 n6 m6=>?_)
    replace m6:Heap.SameBut e k5 k6:=m6
    replace n6:mU k6 e it ((i:Int)+1) (rawInt hp.objs.size) fb x:=n6
    refine wpAny_setField_rec n6 (by simp) fun k7 n7 m7=>?_
    replace m7:Heap.SameBut e k6 k7:=m7
    replace n7:mU k7 e it ((i:Int)+1) (rawInt hp.objs.size) false x:=n7
    refine wpAny_bind (wpAny_letGo (wpAny_pure (hF k7 ⟨_,_,_, .inr ⟨_,rfl⟩,n7⟩ ?_)))
    exact⟨by rw[m7.1,m6.1,m5.1],fun b hb=>((m7.2 b hb).trans (m6.2 b hb)).trans (m5.2 b hb)⟩
  refine wpAny_bind ?_
  unfold Builtin.SmallTypes.ownedTupleIsFree
  rcases hz with rfl|⟨a,rfl⟩
  · refine wpAny_bind (wpAny_field n4 rfl (x:= .none) rfl (wpAny_pure ?_))
    exact free _ _ fun k5 r m=>⟨_,rfl,wpAny_pure (fin k5 r m)⟩
  · refine wpAny_bind (wpAny_field n4 rfl (x:=rawInt a) rfl ?_)
    refine wpAny_bind (SW ?_)
    cases hal:k4.get? a.toNat with
    | none =>
      refine wpAny_pure ?_
      exact free _ _ fun k5 r m=>⟨_,rfl,wpAny_pure (fin k5 r m)⟩
    | some ob =>
      refine wpAny_bind (wpAny_field n4 rfl (x:= .bool fb) rfl ?_)
      cases fb with
      |true=>exact wpAny_pure (wpAny_pure ⟨_,rfl,wpAny_pure (fin k4 ⟨_,_,_, .inr ⟨a,rfl⟩,n4⟩ ⟨rfl,fun _ _=>rfl⟩)⟩)
      | false =>
        refine wpAny_bind (wpAny_setField_rec n4 (by simp) fun k5 n5 m5=>?_)
        exact wpAny_pure (wpAny_pure ⟨_,rfl,wpAny_pure (fin k5 ⟨_,_,_, .inr ⟨a,rfl⟩,n5⟩ m5)⟩)
theorem SY{e it l:Addr}{i:Nat}{items:Array Value}{Q:Option Value->Shared->Prop}(hh:A.handled=none)(he:qO s.heap e it i)(hit:s.heap.IsListIter it l i)(hl:s.heap.IsList l items)(hx:items[i]?=none)
  (hQ:∀h',Heap.ExtBut it s.heap h'->Q none {s with heap:=h'}):wpAny (model prog w) A (pyNext (.ref e)) Q E s:=by
 obtain⟨z,fb,old,hz,he⟩:=he
 have hT:s.TypeIs (.ref e) "enumerate":=⟨_,he,rfl⟩
 unfold pyNext
 refine wpAny_bind (wpAny_attempt (wpAny_callSpecial?_slot (name:=Str.ofString "__next__") hT xr (wpAny_call_entry xr hT F.entry_enumerate_next ?_ (F.args_enumerate_next_1 _))))
 show wpAny _ _ (field (.ref e) 2>>=_) _ _ _
 refine wpAny_bind (wpAny_field he rfl (x:= .ref it) rfl ?_)
 refine wpAny_bind (wpAny_nextOf_list_end hh hit hl hx fun k1 y q1 q2=>?_)
 obtain⟨o,ho,hc⟩:=q2
 refine wpAny_bind (wpAny_isInstance (T:="StopIteration") (b:=true) ⟨o,ho,hc⟩ isSubtype_stop ?_)
 exact wpAny_pure (hQ _ q1)
def BQ(h:Heap)(n0:Nat)(items:Array Value)(acc:Array Value)(i:Nat):Prop:=acc.size=i/\∀(j:Nat) v,acc[j]?=some v->∃(T:Addr) (t:Nat) (x:Value),v= .ref T/\items[j]?=some x/\n0<=T/\h.get? T=some {cls:= .type "tuple",data:= .seq #[.int j t,x]}
theorem MT{R:Result->Shared->Prop}(hh:A.handled=none){e it l S:Addr}{items:Array Value}{n0:Nat}(hei:e≠it)(hle:l≠e)(hli:l≠it)(Hw:S≠e)(Bw:S≠it)(TQ:l≠S)(XR:e<n0)(hi0:it<n0)(vQ:S<n0)(hn:items.size<=sizeLine)(res:Value):
    ∀(k i:Nat) (s:Shared) (acc:Array Value) (c:Nat),items.size-i=k->i<=items.size->n0<=s.heap.objs.size->qO s.heap e it i->s.heap.IsListIter it l i->s.heap.IsList l items->s.heap.get? S=some {cls:= .type "list",dict:=none,data:= .seq acc c,slots:= #[]}->BQ s.heap n0 items acc i->
    (∀h' tk acc' c',(∀b o,b≠S->b≠e->b≠it->s.heap.get? b=some o->h'.get? b=some o)->h'.get? S=some {cls:= .type "list",dict:=none,data:= .seq acc' c',slots:= #[]}->BQ h' n0 items acc' items.size->R (.ok (.ret res)) {s with heap:=h',toks:=tk})->
    codeAny (model prog w) A (.builtin "list.extend.loop" ⟨[.ref S, .ref e,res],[]⟩) R s:=by
  intro k
  induction k with
  | zero =>
    intro i s acc c hk hi hsz he hit hl hS hacc hR
    have hin:i=items.size:=by omega
    subst hin
    refine codeAny_builtin F.entry_extend_loop ?_
    rw[qC BZ _]
    show wpAny _ A.in1 (pyNext (.ref e)>>=_) _ _ s
    refine wpAny_bind (SY hh he hit hl (by simp) fun k1 q1=>?_)
    refine wpAny_pure (hR k1 _ acc c (fun b o _ _ c3 q=>q1 b o c3 q) (q1 _ _ Bw hS) ⟨hacc.1,fun j v q=>?_⟩)
    obtain⟨T,t,x,h1,h2,h3,h4⟩:=hacc.2 j v q
    exact⟨T,t,x,h1,h2,h3,q1 _ _ (kE (eg hi0 h3)) h4⟩
  | succ k ih =>
    intro i s acc c hk hi hsz he hit hl hS hacc hR
    have hlt:i<items.size:=by omega
    refine codeAny_builtin F.entry_extend_loop ?_
    rw[qC BZ _]
    show wpAny _ A.in1 (pyNext (.ref e)>>=_) _ _ s
    refine wpAny_bind (OA he hit hl (Jq hlt) hei fun k1 r1 j1 t1 z1 o1=>?_)
    have Bu:=o1 S _ Hw Bw hS
    show wpAny _ A.in1 (updateSeq S (·.push (.ref s.heap.objs.size))>>=_) _ _ _
    refine wpAny_bind ?_
    have mj:∀b o,b≠S->k1.get? b=some o->(k1.update S (Obj.mapSeq (·.push (.ref s.heap.objs.size)))).get? b=some o:=fun b o hb q=>(pL _ _ (bx hb)).trans q
    obtain⟨zz,fb,old,hz,r1⟩:=r1
    refine wpAny_updateSeq Bu rfl (wpAny_pure ⟨plainId_quiet BZ _,ih (i+1) _ (acc.push (.ref s.heap.objs.size)) _ (by omega) hlt ?_ ⟨zz,fb,old,hz,mj e _ (bx Hw) r1⟩ ?_ ?_ (rE _ Bu rfl) ⟨by rw[Array.size_push,hacc.1],fun j v q=>?_⟩ fun k2 tk acc' c' o2 h2 a2=>hR k2 tk acc' c' (fun b o c1 c2 c3 q=>o2 b o c1 c2 c3 (mj b o c1 (o1 b o c2 c3 q))) h2 a2⟩) (by rw[hacc.1];omega) (by show(acc.push (Value.ref s.heap.objs.size)).size<=sizeLine+1;rw[Array.size_push,hacc.1];omega)
    · show n0<=(k1.update S (Obj.mapSeq (·.push (.ref s.heap.objs.size)))).objs.size
      rw[(xq ..).1,z1]
      omega
    · exact j1.at fun o q=>mj it o (bx Bw) q
    · exact(hl.at fun o q=>o1 l o hle hli q).at fun o q=>mj l o TQ q
    · rw[Array.getElem?_push] at q
      split at q
      · rename_i hj
        cases q
        have:j=i:=by rw[hj,hacc.1]
        subst this
        exact⟨_,_,_,rfl,Jq hlt,hsz,mj _ _ (kE (eg vQ hsz)) t1⟩
      · obtain⟨T,t,x,h1,h2,h3,h4⟩:=hacc.2 j v q
        exact⟨T,t,x,h1,h2,h3,mj _ _ (kE (eg vQ h3)) (o1 _ _ (kE (eg XR h3)) (kE (eg hi0 h3)) h4)⟩
end
section
variable{prog:Program}{w:World}{A:Around}{E:Value->Shared->Prop}{s:Shared}
theorem WG:typeLookup (.type "enumerate") "__len__"=pure none:=by rw[typeLookup_type,builtinLookup_eq_fast];kernel_rfl
theorem U1:typeLookup (.type "enumerate") "__length_hint__"=pure none:=by rw[typeLookup_type,builtinLookup_eq_fast];kernel_rfl
theorem UZ{r:Addr}{Q:Bool->Shared->Prop}(hT:s.TypeIs (.ref r) "enumerate")(h:Q true s):wpAny (model prog w) A (Builtin.List.listLengthHint (.ref r)) Q E s:=by
 unfold Builtin.List.listLengthHint
 refine wpAny_bind (wpAny_specialOf hT WG ?_)
 refine wpAny_ite_split (fun hab=>absurd hab (by decide)) (fun _=>?_)
 refine wpAny_ite_split (fun hab=>absurd hab (by decide)) (fun _=>?_)
 exact wpAny_bind (wpAny_specialOf hT U1 (wpAny_pure h))
theorem Ly{Q:Value->Shared->Prop}(hh:A.handled=none){e it l:Addr}{old:Value}{items:Array Value}(he:IsEnum s.heap e it 0 old)(hit:s.heap.IsListIter it l 0)(hl:s.heap.IsList l items)(hei:e≠it)(hle:l≠e)(hli:l≠it)(hn:items.size<=sizeLine)
  (hQ:∀h' tk acc' c',(∀b o,b≠e->b≠it->s.heap.get? b=some o->h'.get? b=some o)->h'.get? s.heap.objs.size=some {cls:= .type "list",dict:=none,data:= .seq acc' c',slots:= #[]}->BQ h' (s.heap.objs.size+1) items acc' items.size->Q (.ref s.heap.objs.size) {s with heap:=h',toks:=tk}):
  wpAny (model prog w) A (call (.type "list") [.ref e]) Q E s:=by
 have e0:e<s.heap.objs.size:=bG he
 have i0:it<s.heap.objs.size:=by obtain⟨_,q,_⟩:=hit;exact bG q
 have l0:l<s.heap.objs.size:=by obtain⟨_,q,_⟩:=hl;exact bG q
 refine callType_codes (Q₁:=fun obj s₁=>obj= .ref s.heap.objs.size/\s₁={s with heap:=s.heap.push {cls:= .type "list",data:= .seq #[]}}) PySem.F.called_list (PySem.F.typeCall_list_1 _) PySem.F.entry_list_init (code_list_new _ ⟨rfl,rfl⟩) fun obj s₁ h₁=>?_
 obtain⟨rfl,rfl⟩:=h₁
 have q1:(s.heap.push {cls:= .type "list",data:= .seq #[]}).get? s.heap.objs.size=some {cls:= .type "list",data:= .seq #[]}:=gH _ rfl
 refine⟨⟨_,q1,rfl⟩,PySem.F.args_list_init_2 _ _,?_⟩
 have o1:∀b o,s.heap.get? b=some o->(s.heap.push {cls:= .type "list",data:= .seq #[]}).get? b=some o:=fun b o q=>dw _ q
 have z1:(s.heap.push {cls:= .type "list",data:= .seq #[]}).objs.size=s.heap.objs.size+1:=pS ..
 generalize s.heap.push {cls:= .type "list",data:= .seq #[]}=k1 at q1 o1 z1
 generalize hS:s.heap.objs.size=S at*
 show wpAny _ _ (do let old<-Builtin.List.listItems (.ref S);Builtin.List.listUpdate (.ref S) (fun _=> #[]);letGo old.toList.reverse;Builtin.List.listExtendWith (.ref S) (.ref e) .none) _ _ _
 refine wpAny_bind ?_
 unfold Builtin.List.listItems
 refine wpAny_bind (wpAny_seqItems q1 rfl (wpAny_pure ?_))
 show wpAny _ _ (updateSeq S (fun _=> #[])>>=fun _=>letGo (#[]:Array Value).toList.reverse>>=fun _=>Builtin.List.listExtendWith (.ref S) (.ref e) .none) _ _ _
 refine wpAny_bind (wpAny_updateSeq q1 rfl ?_)
 have q2:=rE (Obj.mapSeq (fun _=>(#[]:Array Value))) q1 rfl
 have o2:∀b o,b≠S->k1.get? b=some o->(k1.update S (Obj.mapSeq (fun _=>(#[]:Array Value)))).get? b=some o:=fun b o hb q=>(pL _ _ (bx hb)).trans q
 have z2:(k1.update S (Obj.mapSeq (fun _=>(#[]:Array Value)))).objs.size=S+1:=by rw[(xq ..).1,z1]
 refine wpAny_bind (wpAny_letGo ?_)
 generalize k1.update S (Obj.mapSeq (fun _=>(#[]:Array Value)))=k2 at q2 o2 z2
 have ne:e≠S:=dW e0
 have ni:it≠S:=dW i0
 have nl:l≠S:=dW l0
 have r2:IsEnum k2 e it 0 old:=o2 _ _ ne (o1 _ _ he)
 have j2:k2.IsListIter it l 0:=hit.at fun o q=>o2 _ _ ni (o1 _ _ q)
 have m2:k2.IsList l items:=hl.at fun o q=>o2 _ _ nl (o1 _ _ q)
 unfold Builtin.List.listExtendWith
 refine wpAny_bind (wpAny_typeOf (T:="enumerate") ⟨_,r2,rfl⟩ ?_)
 have h1:Builtin.List.listSameRef (.ref S) (.ref e)=false:=by simp[Builtin.List.listSameRef,bx ne]
 simp only[h1,show(Value.type "enumerate"==Value.type "list")=false by decide,show(Value.type "enumerate"==Value.type "tuple")=false by decide,sj,Bool.false_eq_true,if_false]
 refine wpAny_bind (wpAny_pyIter_enum r2 ?_)
 refine wpAny_bind (wpAny_holding (UZ ⟨_,r2,rfl⟩ ?_))
 refine wpAny_ite_split (fun _=>?_) (fun hab=>absurd rfl hab)
 refine wpAny_bind (wpAny_rule ?_)
 refine wpAny_bind ?_
 show wpAny _ _ (updateSeq S (·.push .none)>>=fun _=>updateSeq S (·.pop)) _ _ _
 refine wpAny_bind (wpAny_updateSeq q2 rfl ?_)
 have q3:=rE (Obj.mapSeq (·.push Value.none)) q2 rfl
 have o3:∀b o,b≠S->k2.get? b=some o->(k2.update S (Obj.mapSeq (·.push Value.none))).get? b=some o:=fun b o hb q=>(pL _ _ (bx hb)).trans q
 have z3:(k2.update S (Obj.mapSeq (·.push Value.none))).objs.size=S+1:=by rw[(xq ..).1,z2]
 generalize k2.update S (Obj.mapSeq (·.push Value.none))=k3 at q3 o3 z3
 refine wpAny_updateSeq (hz:=by seq_fits) q3 rfl ?_
 have q4:=rE (Obj.mapSeq (·.pop)) q3 rfl
 have o4:∀b o,b≠S->k3.get? b=some o->(k3.update S (Obj.mapSeq (·.pop))).get? b=some o:=fun b o hb q=>(pL _ _ (bx hb)).trans q
 have z4:(k3.update S (Obj.mapSeq (·.pop))).objs.size=S+1:=by rw[(xq ..).1,z3]
 refine wpAny_pure ⟨plainId_quiet PySem.F.plain_extend_loop _,?_⟩
 refine MT (A:=A.in1) (n0:=S+1) (items:=items) (l:=l) (it:=it) hh hei hle hli (bx ne) (bx ni) nl (xy e0) (xy i0) (CJ _) hn .none items.size 0 {s with heap:=k3.update S (Obj.mapSeq (·.pop))} #[] _ (by omega) (fW _) ?_ ⟨_,_,_, .inl rfl,o4 _ _ ne (o3 _ _ ne r2)⟩ (j2.at fun o q=>o4 _ _ ni (o3 _ _ ni q)) (m2.at fun o q=>o4 _ _ nl (o3 _ _ nl q)) q4 ⟨rfl,fun j v q=>by simp at q⟩ fun h' tk acc' c' mj qS qA=>?_
 ·exact qi z4.symm
 exact⟨rfl,hQ h' tk acc' c' (fun b o c1 c2 q=>by
  have c0:b≠S:=fun z=>by subst z;exact absurd (bG q) (by rw[hS];exact g5 _)
  exact mj b o c0 c1 c2 (o4 _ _ c0 (o3 _ _ c0 (o2 _ _ c0 (o1 _ _ q))))) qS qA⟩
end
section
variable{X:Cx}{pins:List (Addr×Obj)}{σ:List (Option V)}{H H':Hp}{s:Shared}{h':Heap}
theorem Inv.M7{t':Nat}(I:Inv X pins σ H s)(k:∀b u,s.heap.get? b=some u->h'.get? b=some u)(sm:cy H H')(new:∀b u,H' b=some u->H b=some u\/(s.heap.objs.size<=b/\cD X.prog X.w H' h' b u)):Inv X pins σ H' {s with heap:=h',toks:=t'}:=by
  refine I.step (g':=s.gens) (d':=s.drawn) (ch:=[]) (fun b hb=>by cases hb) (fun b o _ _ _ q _=>k b o q) (fun b o _ _ _ q _=>⟨o.slots,k b o q⟩)
    (fun b o _ q n=>?_) (fun b o _ q=>⟨o,k b o q⟩) (fun b xs q=>sm b _ q) (fun b o u q=>sm b _ q) (fun b ps q=>⟨#[],by rw[sm b _ q];simp⟩) (fun m hm=>?_) (fun b u q=>?_) I.bare
  · cases e:H' b with
    |none=>rfl
    | some u =>
      rcases new b u e with z|⟨z,_⟩
      · rw[n] at z;cases z
      · exact absurd (eg (bG q) z) (g5 _)
  · obtain⟨o,es,ep,ho,r⟩:=hm
    exact⟨o,es,ep,k _ o ho,r⟩
  · rcases new b u q with z|⟨_,z⟩
    · exact(I.hok b u z).stay (fun c v _ y=>k c v y) (fun c y=>sm c _ y) fun c xs y=>sm c _ y
    · exact z
end
def K4(K:PySem.W.Frag)(tl:TE):TE:=fun σ H Q=>tl σ H fun x H1=>∃a xs,x= .ref a/\aS K H1 a xs/\∀(S:Addr) (Ts:List Addr) (H':Hp),Ts.length=xs.length->H1 S=none->cy H1 H'->H' S=some (.lst (Ts.map V.ref))->(∀(j:Nat) T x,Ts[j]?=some T->xs[j]?=some x->H1 T=none/\T≠S/\H' T=some (.tup [.int j,x]))->Q (.ref S) H'
theorem O3{X:Cx}{K:PySem.W.Frag}{l:Expr}{tl:TE}{p1 p2 pos1 pos2:Pos}(hK:X.K=K)(hc:X.calm=true)(O4:Gl X "list")(hm1:X.mg "list"=none)(VP:Gl X "enumerate")(hm2:X.mg "enumerate"=none)(hl:PE X l tl)(hs:starEach [l] X.env=[(false,eval l X.env)]:=by rfl)
    (hs1:starEach [.Call (.Name "enumerate" p2) [l] [] pos2] X.env=[(false,eval (.Call (.Name "enumerate" p2) [l] [] pos2) X.env)]:=by rfl):
    PE X (.Call (.Name "list" p1) [.Call (.Name "enumerate" p2) [l] [] pos2] [] pos1) (K4 K tl):=by
  subst hK
  intro pins s σ H Q I h
  have ha:PA X [l] (cA tl cL):=aa hl ao (by rw[hs];rfl)
  refine Call_ (lM I O4 hm1 boot_list (oW ?_ hs1 rfl))
  rw[hs1]
  refine Calls.spliced_cons ?_
  refine Call_ (lM I VP hm2 boot_enumerate (oW (aO (ha pos2 pins s σ H (fun vs H1=>match vs with|[x]=>∃a xs,x= .ref a/\aS X.K H1 a xs/\∀(S:Addr) (Ts:List Addr) (H':Hp),Ts.length=xs.length->H1 S=none->cy H1 H'->H' S=some (.lst (Ts.map V.ref))->(∀(j:Nat) T x,Ts[j]?=some T->xs[j]?=some x->H1 T=none/\T≠S/\H' T=some (.tup [.int j,x]))->Q (.ref S) H'|_=>False) I h) fun us s1 ⟨vs,H1,I1,r1,q1⟩=>?_) hs rfl))
  cases r1 with
  |nil=>exact q1.elim
  | cons r rr =>
    cases rr with
    |cons _ _=>exact q1.elim
    |nil=>
    obtain⟨a,xs,e2,hq,q⟩:=q1
    subst e2
    cases r
    obtain⟨its,rv,p,hz⟩:=I1.list hq
    obtain⟨m,hn,_⟩:=I1.loc
    refine enum_rows (h₀:={objs:= #[]}) (L:=X.env.locals) (m:=m) ⟨hn,fun b o z=>?_,fW _⟩ p.isList fun h' e1 e2 e3 e4 kp ne n1 n2 _ _=>?_
    · cases z
    refine Calls.spliced_nil ?_
    have I2:Inv X pins σ H1 {s1 with heap:=h'}:=I1.kept (t':=s1.toks) kp
    have hlt:s1.heap.objs.size+1<h'.objs.size:=bG e1
    have hal:a<s1.heap.objs.size:=by obtain⟨_,e,_⟩:=p.isList;exact bG e
    have hlen:=rv.length
    refine Ly (I.ok.hd hc) e1 e2 e3 ne n1 n2 (by rw[cG,<-hlen];exact hz) fun h2 tk acc c k2 hS hA=>?_
    have Sk:∃Ts:List Addr,acc.toList=Ts.map Value.ref:=by
      have:∀L:List Value,(∀v∈L,∃T,v=Value.ref T)->∃Ts:List Addr,L=Ts.map Value.ref:=by
        intro L
        induction L with
        |nil=>exact fun _=>⟨[],rfl⟩
        | cons v L ih =>
          intro hv
          obtain⟨T,rfl⟩:=hv v (dj ..)
          obtain⟨Ts,rfl⟩:=ih fun w hw=>hv w (bY _ hw)
          exact⟨T::Ts,rfl⟩
      refine this _ fun v hv=>?_
      obtain⟨j,hj⟩:=dZ hv
      obtain⟨T,_,_,e,_⟩:=hA.2 j v (by rw[<-qg];exact hj)
      exact⟨T,e⟩
    obtain⟨Ts,wg⟩:=Sk
    have jb:Ts.length=xs.length:=by
      have h1:=hA.1
      rw[<-sr,wg,ak,cG] at h1
      omega
    have at':∀(j:Nat) T x,Ts[j]?=some T->xs[j]?=some x->h'.objs.size+1<=T/\∃t u,RelV x u/\h2.get? T=some {cls:= .type "tuple",data:= .seq #[.int j t,u]}:=fun j T x hT hx=>by
      obtain⟨T',t,u,e,hu,hge,ho⟩:=hA.2 j (.ref T) (by rw[<-qg,wg,bu,hT];rfl)
      cases e
      obtain⟨u',Um,ru⟩:=rv.get hx
      have:u'=u:=by
        rw[GR] at hu
        rw[Um] at hu
        exact fN hu
      subst this
      exact⟨hge,t,u',ru,ho⟩
    have inj:∀(i j:Nat) T,Ts[i]?=some T->Ts[j]?=some T->i=j:=fun i j T h1 h3=>by
      have hi:=(aP.mp h1).1
      have hj:=(aP.mp h3).1
      obtain⟨_,t,u,_,g1⟩:=at' i T _ h1 (aF (by omega))
      obtain⟨_,t',u',_,g2⟩:=at' j T _ h3 (aF (by omega))
      rw[g1] at g2
      injection g2 with g2
      injection g2 with _ _ g2
      injection g2 with g2 _
      injection g2 with g2
      injection g2 with g2 _
      injection g2 with g2 _
      exact Int.ofNat.inj g2
    have hge:∀T∈Ts,h'.objs.size+1<=T:=fun T hT=>by
      obtain⟨j,hj⟩:=dZ hT
      have hj':=(aP.mp hj).1
      exact(at' j T _ hj (aF (by omega))).1
    have hsz:s1.heap.objs.size<=h'.objs.size:=by omega
    have fS:H1 h'.objs.size=none:=I1.hok.fresh hsz
    have fT:∀T∈Ts,H1 T=none:=fun T hT=>I1.hok.fresh (cX hsz (Nat.le_of_succ_le (hge T hT)))
    have BN:∀T∈Ts,T≠h'.objs.size:=fun T hT z=>absurd (hge T hT) (by rw[z];exact Nat.not_succ_le_self _)
    obtain⟨H',eS,eT,eO⟩:∃H':Hp,H' h'.objs.size=some (.lst (Ts.map V.ref))/\(∀(j:Nat) T x,Ts[j]?=some T->xs[j]?=some x->H' T=some (.tup [.int j,x]))/\∀b,b≠h'.objs.size->b∉Ts->H' b=H1 b:=by
      refine⟨fun b=>if b=h'.objs.size then some (.lst (Ts.map V.ref)) else match Ts.findIdx? (fun T=>T==b) with|some j=>(xs[j]?).map fun x=>HO.tup [.int j,x]|none=>H1 b,if_pos rfl,fun j T x hT hx=>?_,fun b h1 h3=>?_⟩
      · have hTm:=aW hT
        show(if _ then _ else _)=_
        rw[if_neg (BN T hTm)]
        have:Ts.findIdx? (fun T'=>T'==T)=some j:=by
          cases e:Ts.findIdx? (fun T'=>T'==T) with
          | none =>
            rw[KU] at e
            have:=e T hTm
            simp at this
          | some i =>
            rw[List.findIdx?_eq_some_iff_getElem] at e
            obtain⟨hi,h4,_⟩:=e
            have:Ts[i]=T:=by simpa using h4
            rw[inj i j T (by rw[aF hi,this]) hT]
        rw[this]
        show(xs[j]?).map _=_
        rw[hx]
        rfl
      · show(if _ then _ else _)=_
        rw[if_neg h1]
        have:Ts.findIdx? (fun T'=>T'==b)=none:=by
          rw[KU]
          intro T hT
          have:T≠b:=fun z=>h3 (z▸hT)
          simpa using this
        rw[this]
    have sm:cy H1 H':=fun b u hb=>by
      rw[eO b (fun z=>by rw[z,fS] at hb;cases hb) (fun z=>by rw[fT b z] at hb;cases hb)]
      exact hb
    refine⟨.ref h'.objs.size,H',?_,rfl,q _ Ts H' jb fS sm eS fun j T x h1 h3=>⟨fT T (aW h1),BN T (aW h1),eT j T x h1 h3⟩⟩
    have kk:∀b u,s1.heap.get? b=some u->h2.get? b=some u:=fun b u hb=>k2 b u (dW (xy (bG hb))) (dW (bG hb)) (kp b u hb)
    refine I1.M7 (t':=tk) kk sm fun b u hb=>?_
    by_cases c1:b=h'.objs.size
    · subst c1
      rw[eS] at hb;cases hb
      refine .inr ⟨hsz,by rw[ak,jb];exact hz,Ts.map Value.ref,c,?_,?_⟩
      · clear eS eT eO sm q hA hS wg at' inj hge fT BN jb
        induction Ts with
        |nil=>exact .nil
        |cons T Ts ih=>exact .cons rfl ih
      · rw[<-wg,Array.toArray_toList];exact hS
    · by_cases c2:b∈Ts
      · obtain⟨j,hj⟩:=dZ c2
        have hj':=(aP.mp hj).1
        have hx:xs[j]?=some (xs[j]'(by omega)):=aF (by omega)
        rw[eT j b _ hj hx] at hb;cases hb
        obtain⟨g1,t,w,ru,ho⟩:=at' j b _ hj hx
        exact .inr ⟨cX hsz (Nat.le_of_succ_le g1),by show 2<=sizeLine;decide,[.int j t,w], .cons ⟨t,rfl⟩ (.cons ru .nil),_,ho,rfl,_,rfl⟩
      · rw[eO b c1 c2] at hb
        exact .inl hb
section
variable{G:Gx}{ρ:Rh}{te:TE}{K:PySem.W.Frag}{Θ:Bool->List PyData->Prop}
theorem aD.XS(h:Ev G ρ te fun _ x=>∃ds,x= .list ds/\cV ds=true/\Θ true (ds.zipIdx.map fun q=> .tuple [.int q.2,q.1])):aD G ρ (K4 K te) Θ:=fun nb σ H Q W z=>
 h nb σ H _ W fun f v H1 x ⟨ds,ex,hsc,q⟩ s1 hv=>by
  subst ex
  obtain⟨a,xs,rfl,n,hx,hd⟩:=hv.cQ
  have hl:=hd.length
  refine⟨a,xs,rfl, .of hx,fun S Ts H' jb hS sm eS eT=>?_⟩
  have st:Step G.B H H':=s1.trans (.same s1.2 sm)
  have vQ:H S=none:=by
   cases e:H S with
   |none=>rfl
   |some o=>rw[s1.1 S o (NB.new s1.2 hS) e] at hS;cases hS
  refine z true S _ H' _ q st vQ eS ?_
  refine af.Hg (by rw[ak,ak,List.length_zipIdx];omega) fun j d w hj hw=>?_
  rw[bu,sG] at hj
  rw[bu] at hw
  obtain⟨T,hT,rfl⟩:=jx.mp hw
  have hjl:j<ds.length:=by have:=(aP.mp hT).1;omega
  rw[aF hjl] at hj
  have ed:d= .tuple [.int j,ds[j]]:=by simpa using hj.symm
  subst ed
  obtain⟨x,Vo,dx⟩:=hd.get (aF hjl)
  obtain⟨g1,g2,g3⟩:=eT j T x hT Vo
  have sx:=jQ.mp hsc _ (c6 hjl)
  have pH:H T=none:=by
   cases e:H T with
   |none=>rfl
   |some o=>rw[s1.1 T o (NB.new s1.2 g1) e] at g1;cases g1
  refine .tup (fun y=>?_) g3 (.cons (.int _) (.cons (dx.ia sx) .nil))
  rcases y with y|y
  ·exact W.fresh pH y
  ·exact g2 y
end
end L2
set_option maxRecDepth 100000
set_option maxHeartbeats 4000000
namespace L2
open PySem PySem.Spec PyProof.Rows
def aj:(Nat->Int)->List Int->Int
 |_,[]=>0
 |f,x::xs=>f 0*x+aj (fun i=>f (i+1)) xs
def mulR(p c:Int)(r:List Int):List Int:=r.map fun x=>c*x%p
def fV(p c:Int)(r o:List Int):List Int:=List.zipWith (fun x y=>(x-c*y)%p) r o
def gI(r:List Int)(i:Nat):Int:=r.getD i 0
structure aK(p:Int)(w:Nat)(r:List Int):Prop where
 len:r.length=w
 rg:∀x∈r,0<=x/\x<p
theorem aK.g{p:Int}{w i:Nat}{r:List Int}(h:aK p w r)(hp:0<p):0<=gI r i/\gI r i<p:=by
 unfold gI
 rw[bf]
 cases e:r[i]? with
 |none=>exact⟨yO 0,hp⟩
 |some x=>exact h.rg x (aW e)
theorem aK.at{p:Int}{w i:Nat}{r:List Int}(h:aK p w r)(hi:i<w):r[i]?=some (gI r i):=by
 unfold gI
 rw[bf,aF (by rw[h.len];exact hi)]
 rfl
theorem Cg(p c:Int):∀(f:Nat->Int) (r:List Int),∃k,aj f (mulR p c r)=c*aj f r+p*k
  |_,[]=>⟨0,by simp[aj,mulR]⟩
  | f, x :: xs => by
    obtain⟨k,hk⟩:=Cg p c (fun i=>f (i+1)) xs
    refine⟨k-f 0*(c*x/p),?_⟩
    show f 0*(c*x%p)+aj _ (mulR p c xs)=c*(f 0*x+aj _ xs)+_
    rw[hk,iC]
    grind
theorem BH(p c:Int):∀(f:Nat->Int) (r o:List Int),r.length=o.length->∃k,aj f (fV p c r o)=aj f r-c*aj f o+p*k
  |_,[],[],_=>⟨0,by simp[aj,fV]⟩
  |_,[],_::_,h=>by simp at h
  |_,_::_,[],h=>by simp at h
  | f, x :: xs, y :: ys, h => by
    obtain⟨k,hk⟩:=BH p c (fun i=>f (i+1)) xs ys (by simpa using h)
    refine⟨k-f 0*((x-c*y)/p),?_⟩
    show f 0*((x-c*y)%p)+aj _ (fV p c xs ys)=(f 0*x+aj _ xs)-c*(f 0*y+aj _ ys)+_
    rw[hk,iC]
    grind
theorem Hx{p c:Int}{r:List Int}{i:Nat}(hi:i<r.length):gI (mulR p c r) i=c*gI r i%p:=by
 unfold gI mulR
 rw[bf,bu,bf,aF hi]
 rfl
theorem OP{p c:Int}{r o:List Int}{i:Nat}(hi:i<r.length)(ho:i<o.length):gI (fV p c r o) i=(gI r i-c*gI o i)%p:=by
 unfold gI fV
 rw[bf,qZ,bf,bf,aF hi,aF ho]
 rfl
theorem aK.mul{p c:Int}{w:Nat}{r:List Int}(h:aK p w r)(hp:0<p):aK p w (mulR p c r):=by
 refine⟨by unfold mulR;rw[ak,h.len],fun x hx=>?_⟩
 obtain⟨y,_,rfl⟩:=aN.mp hx
 exact⟨eG _ (by omega),e7 _ hp⟩
theorem aK.less{p c:Int}{w:Nat}{r o:List Int}(h:aK p w r)(h2:aK p w o)(hp:0<p):aK p w (fV p c r o):=by
 refine⟨by unfold fV;rw[nW,h.len,h2.len];omega,fun x hx=>?_⟩
 obtain⟨i,hi⟩:=dZ hx
 unfold fV at hi
 rw[qZ] at hi
 cases e1:r[i]?<;>cases e2:o[i]?<;>rw[e1,e2] at hi<;>simp at hi
 subst hi
 exact⟨eG _ (by omega),e7 _ hp⟩
theorem VW{p:Int}{w:Nat}{r o:List Int}(h:aK p w r)(h2:aK p w o):fV p 0 r o=r:=by
 apply nJ
 ·unfold fV;rw[nW,h.len,h2.len];omega
 ·intro i h3 h4
  have e:(fV p 0 r o)[i]'h3=(r[i]-0*o[i]'(by rw[h2.len,<-h.len];exact h4))%p:=uZ ..
  rw[e]
  obtain⟨a,b⟩:=h.rg _ (c6 h4)
  rw[fF,nC,jh a b]
def gy(p inv:Int)(R:List (List Int))(k pl:Nat):List (List Int):=
 (R.map fun r=>fV p (gI r pl) r (mulR p inv (R.getD k []))).set k (mulR p inv (R.getD k []))
def i8(p:Int)(w:Nat)(R:List (List Int)):Prop:=∀r∈R,aK p w r
def mH(p:Int)(R R':List (List Int)):Prop:=∀f:Nat->Int,(∀r∈R,p∣aj f r)↔∀r∈R',p∣aj f r
theorem mH.refl(p:Int)(R:List (List Int)):mH p R R:=fun _=>Iff.rfl
theorem mH.trans{p:Int}{R R' JR:List (List Int)}(a:mH p R R')(b:mH p R' JR):mH p R JR:=fun f=>(a f).trans (b f)
section
variable{p inv:Int}{w k pl:Nat}{R:List (List Int)}
theorem r6:(gy p inv R k pl).length=R.length:=by unfold gy;rw[gn,ak]
theorem JV{i:Nat}{r:List Int}(h:(gy p inv R k pl)[i]?=some r)(hk:k<R.length):∃r0,R[i]?=some r0/\((i=k/\r=mulR p inv r0)\/(i≠k/\r=fV p (gI r0 pl) r0 (mulR p inv (R.getD k [])))):=by
 unfold gy at h
 by_cases c:k=i
 ·subst c
  rw[dO (by rw[ak];exact hk)] at h
  refine⟨R[k],aF hk, .inl ⟨rfl,?_⟩⟩
  rw[bf,aF hk] at h
  exact(fN h).symm
 ·rw[bQ c,bu] at h
  obtain⟨r0,e,h⟩:=jx.mp h
  exact⟨r0,e, .inr ⟨fun z=>c z.symm,h.symm⟩⟩
theorem SX(hR:i8 p w R)(hp:0<p)(hk:k<R.length):i8 p w (gy p inv R k pl):=fun r hr=>by
 obtain⟨i,hi⟩:=dZ hr
 obtain⟨r0,e,⟨_,rfl⟩|⟨_,rfl⟩⟩:=JV hi hk
 ·exact(hR r0 (aW e)).mul hp
 ·have:aK p w (R.getD k []):=by rw[bf,aF hk];exact hR _ (c6 hk)
  exact(hR r0 (aW e)).less (this.mul hp) hp
theorem Wx(hR:i8 p w R)(hp:0<p)(hk:k<R.length)(hinv:∃j,inv*gI (R.getD k []) pl=1+p*j):mH p R (gy p inv R k pl):=by
 have hkk:R.getD k []=R[k]:=by rw[bf,aF hk];rfl
 have k8:aK p w R[k]:=hR _ (c6 hk)
 obtain⟨j,hj⟩:=hinv
 rw[hkk] at hj
 intro f
 obtain⟨k1,e1⟩:=Cg p inv f R[k]
 constructor
 ·intro h r hr
  obtain⟨i,hi⟩:=dZ hr
  obtain⟨r0,e,⟨_,rfl⟩|⟨_,rfl⟩⟩:=JV hi hk
  ·obtain⟨k2,e2⟩:=Cg p inv f r0
   rw[e2]
   exact q9 (ou (h r0 (aW e))) (xE ..)
  ·rw[hkk]
   obtain⟨k2,e2⟩:=BH p (gI r0 pl) f r0 (mulR p inv R[k]) (by rw[(hR r0 (aW e)).len,(k8.mul hp).len])
   rw[e2,e1]
   refine q9 (Int.dvd_sub (h r0 (aW e)) (ou ?_)) (xE ..)
   exact q9 (ou (h _ (c6 hk))) (xE ..)
 ·intro h
  have hown:p∣aj f (mulR p inv R[k]):=by
   refine h _ ?_
   have:(gy p inv R k pl)[k]?=some (mulR p inv R[k]):=by
    unfold gy
    rw[dO (by rw[ak];exact hk),hkk]
   exact aW this
  intro r hr
  obtain⟨i,hi⟩:=dZ hr
  by_cases c:i=k
  ·subst c
   rw[aF hk] at hi
   cases hi
   rw[e1] at hown
   obtain⟨q,hq⟩:=hown
   refine⟨gI R[i] pl*(q-k1)-aj f R[i]*j,?_⟩
   have:aj f R[i]=(inv*gI R[i] pl-p*j)*aj f R[i]:=by rw[hj];grind
   rw[this]
   grind
  ·have hm:fV p (gI r pl) r (mulR p inv R[k])∈gy p inv R k pl:=by
    have:(gy p inv R k pl)[i]?=some (fV p (gI r pl) r (mulR p inv R[k])):=by
     unfold gy
     rw[bQ (fun z=>c z.symm),bu,hi,hkk]
     rfl
    exact aW this
   obtain⟨k2,e2⟩:=BH p (gI r pl) f r (mulR p inv R[k]) (by rw[(hR r hr).len,(k8.mul hp).len])
   have h3:=h _ hm
   rw[e2] at h3
   have:aj f r=(aj f r-gI r pl*aj f (mulR p inv R[k])+p*k2)+gI r pl*aj f (mulR p inv R[k])-p*k2:=by omega
   rw[this]
   exact Int.dvd_sub (q9 h3 (ou hown)) (xE ..)
theorem ic{R:List (List Int)}{i:Nat}(hi:i<R.length):R.getD i []=R[i]:=by rw[bf,aF hi];rfl
theorem Bv{i d:Nat}(hR:i8 p w R)(hp:0<p)(hk:k<R.length)(hi:i<R.length)(hd:d<w):
  gI ((gy p inv R k pl).getD i []) d=if i=k then inv*gI (R.getD k []) d%p else(gI (R.getD i []) d-gI (R.getD i []) pl*(inv*gI (R.getD k []) d%p))%p:=by
 have k8:aK p w R[k]:=hR _ (c6 hk)
 have EX:aK p w R[i]:=hR _ (c6 hi)
 unfold gy
 rw[bf]
 by_cases c:i=k
 ·subst c
  rw[if_pos rfl,dO (by rw[ak];exact hi),ic hi]
  exact Hx (by rw[EX.len];exact hd)
 ·rw[if_neg c,bQ (fun z=>c z.symm),bu,aF hi,ic hk,ic hi]
  show gI (fV p (gI R[i] pl) R[i] (mulR p inv R[k])) d=_
  rw[OP (by rw[EX.len];exact hd) (by rw[(k8.mul hp).len];exact hd),Hx (by rw[k8.len];exact hd)]
end
theorem pre_of{D D1 D2:List Nat}{x d:Nat}(e:D++[d]=D1++x::D2)(hx:x∈D)(hn:x∉D1):∃D3,D=D1++x::D3:=by
 rcases List.eq_nil_or_concat D2 with rfl|⟨D3,y,rfl⟩
 ·have h:=List.append_inj' e rfl
  rw[h.1] at hx
  exact absurd hx hn
 ·have e':D++[d]=(D1++x::D3)++[y]:=by rw[e];simp
  exact⟨D3,(List.append_inj' e' rfl).1⟩
structure c9(p:Int)(w:Nat)(R0 R:List (List Int))(T:List (Nat×Nat))(D:List Nat):Prop where
 ok:i8 p w R
 len:R.length=R0.length
 sp:mH p R0 R
 nd:(T.map (·.1)).Nodup
 rg:∀q∈T,q.1<R.length/\q.2∈D
 one:∀q∈T,∀i<R.length,gI (R.getD i []) q.2=if i=q.1 then 1 else 0
 zero:∀i<R.length,i∉T.map (·.1)->∀d∈D,gI (R.getD i []) d=0
 ah:∀D1 D2 q,q∈T->D=D1++q.2::D2->q.2∉D1->∀d∈D1,gI (R.getD q.1 []) d=0
section
variable{p inv:Int}{w k d:Nat}{R R0:List (List Int)}{T:List (Nat×Nat)}{D:List Nat}
theorem c9.init(h:i8 p w R):c9 p w R R [] []:=⟨h,rfl, .refl _ _, .nil,(fun q hq=>by cases hq),(fun q hq=>by cases hq),(fun _ _ _ d hd=>by cases hd),fun _ _ q hq=>by cases hq⟩
theorem c9.skip(h:c9 p w R0 R T D)(hz:∀i<R.length,i∉T.map (·.1)->gI (R.getD i []) d=0):c9 p w R0 R T (D++[d]):=
 ⟨h.ok,h.len,h.sp,h.nd,fun q hq=>⟨(h.rg q hq).1,kD _ (h.rg q hq).2⟩,h.one,fun i hi hn e he=>by
  rcases fJ.mp he with z|z
  ·exact h.zero i hi hn e z
  ·rw[bF.mp z];exact hz i hi hn,fun D1 D2 q hq e hn x hx=>by
  obtain⟨D3,e3⟩:=pre_of e (h.rg q hq).2 hn
  exact h.ah D1 D3 q hq e3 hn x hx⟩
theorem c9.take(h:c9 p w R0 R T D)(hp:1<p)(Pp:∀e∈D,e<w)(vY:d<w)(hk:k<R.length)(gX:k∉T.map (·.1))(hne:gI (R.getD k []) d≠0)(hinv:∃j,inv*gI (R.getD k []) d=1+p*j):c9 p w R0 (gy p inv R k d) (T++[(k,d)]) (D++[d]):=by
 have hp0:0<p:=by omega
 have e1:inv*gI (R.getD k []) d%p=1:=by
  obtain⟨j,hj⟩:=hinv
  rw[hj,Bk,jh (by omega) hp]
 have hk0:∀e∈D,gI (R.getD k []) e=0:=fun e he=>h.zero k hk gX e he
 have ud:∀e∈D,∀i<R.length,gI ((gy p inv R k d).getD i []) e=if i=k then 0 else gI (R.getD i []) e:=fun e he i hi=>by
  rw[Bv h.ok hp0 hk hi (Pp e he),hk0 e he]
  by_cases c:i=k
  ·rw[if_pos c,if_pos c,dI,pC]
  ·rw[if_neg c,if_neg c,dI,pC,dI,nC]
   have hr:aK p w (R.getD i []):=by rw[ic hi];exact h.ok _ (c6 hi)
   obtain⟨a,b⟩:=hr.g (i:=e) hp0
   exact jh a b
 have FN:∀i<R.length,gI ((gy p inv R k d).getD i []) d=if i=k then 1 else 0:=fun i hi=>by
  rw[Bv h.ok hp0 hk hi vY,e1]
  by_cases c:i=k
  ·rw[if_pos c,if_pos c]
  ·rw[if_neg c,if_neg c,oK,Int.sub_self,pC]
 refine⟨SX h.ok hp0 hk,by rw[r6,h.len],h.sp.trans (Wx h.ok hp0 hk hinv),?_,fun q hq=>?_,fun q hq i hi=>?_,fun i hi hn e he=>?_,fun D1 D2 q hq e hn x hx=>?_⟩
 ·rw[cE,Ea]
  refine⟨h.nd,by simp,fun a ha b hb=>?_⟩
  rw[List.map_singleton,bF] at hb
  rw[hb]
  exact fun z=>gX (by rw[show a=k from z] at ha;exact ha)
 ·rw[r6]
  rcases fJ.mp hq with z|z
  ·exact⟨(h.rg q z).1,kD _ (h.rg q z).2⟩
  ·rw[bF.mp z];exact⟨hk,iM _ (by simp)⟩
 ·rw[r6] at hi
  rcases fJ.mp hq with z|z
  ·rw[ud _ (h.rg q z).2 i hi]
   have OE:k≠q.1:=fun y=>gX (y▸kj z)
   by_cases c:i=k
   ·rw[if_pos c,if_neg (by rw[c];exact OE)]
   ·rw[if_neg c,h.one q z i hi]
  ·rw[bF.mp z];exact FN i hi
 ·rw[r6] at hi
  rw[cE,fJ,not_or] at hn
  have hik:i≠k:=fun y=>hn.2 (by rw[y];simp)
  rcases fJ.mp he with z|z
  ·rw[ud e z i hi,if_neg hik]
   exact h.zero i hi hn.1 e z
  ·rw[bF.mp z,FN i hi,if_neg hik]
 ·rcases fJ.mp hq with z|z
  ·obtain⟨D3,e3⟩:=pre_of e (h.rg q z).2 hn
   have AM:x∈D:=by rw[e3];exact kD _ hx
   rw[ud x AM q.1 (h.rg q z).1,if_neg (fun y=>gX (by rw[<-y];exact kj z))]
   exact h.ah D1 D3 q z e3 hn x hx
  ·rw[bF.mp z] at e hn⊢
   have AM:x∈D:=by
    have hx':x∈D++[d]:=by rw[e];exact kD _ hx
    rcases fJ.mp hx' with y|y
    ·exact y
    ·rw[bF.mp y] at hx;exact absurd hx hn
   rw[ud x AM k hk,if_pos rfl]
end
theorem nS(f g:Nat->Int):∀r:List Int,aj (fun i=>f i+g i) r=aj f r+aj g r
  |[]=>by simp[aj]
  | x :: xs => by
    show(f 0+g 0)*x+aj _ xs=(f 0*x+aj _ xs)+(g 0*x+aj _ xs)
    rw[nS (fun i=>f (i+1)) (fun i=>g (i+1)) xs]
    grind
theorem jq:∀(f:Nat->Int) (r:List Int),(∀i<r.length,f i*gI r i=0)->aj f r=0
  |_,[],_=>rfl
  | f, x :: xs, h => by
    show f 0*x+aj _ xs=0
    rw[jq (fun i=>f (i+1)) xs fun i hi=>h (i+1) (by simpa using hi)]
    have:f 0*x=0:=h 0 (by simp)
    omega
theorem lQ:∀(f:Nat->Int) (r:List Int) (pl:Nat),pl<r.length->(∀i<r.length,i≠pl->f i*gI r i=0)->aj f r=f pl*gI r pl
  |_,[],_,h,_=>by simp at h
  | f, x :: xs, 0, _, h => by
    show f 0*x+aj _ xs=f 0*x
    rw[jq (fun i=>f (i+1)) xs fun i hi=>h (i+1) (by simpa using hi) (by omega)]
    omega
  | f, x :: xs, pl + 1, hl, h => by
    show f 0*x+aj _ xs=f (pl+1)*gI xs pl
    rw[lQ (fun i=>f (i+1)) xs pl (by simpa using hl) fun i hi c=>h (i+1) (by simpa using hi) (by omega)]
    have:f 0*x=0:=h 0 (by simp) (by omega)
    omega
theorem wL:∀(f:Nat->Int) (r:List Int) (i:Nat) (x:Int),i<r.length->aj f (r.set i x)=aj f r+f i*(x-gI r i)
  |_,[],_,_,h=>by simp at h
  | f, y :: ys, 0, x, _ => by
    show f 0*x+aj _ ys=f 0*y+aj _ ys+f 0*(x-y)
    grind
  | f, y :: ys, i + 1, x, h => by
    show f 0*y+aj _ (ys.set i x)=f 0*y+aj _ ys+f (i+1)*(x-gI ys i)
    rw[wL (fun i=>f (i+1)) ys i x (by simpa using h)]
    grind
theorem tY:∀(f:Nat->Int) (n:Nat),aj f (List.replicate n 0)=0
  |_,0=>rfl
  | f, n + 1 => by
    show f 0*0+aj _ (List.replicate n 0)=0
    rw[tY]
    omega
theorem Ev.inv{G:Gx}{ρ:Rh}{t:TA}{Φ:Pd}(h:Av G ρ t fun es=>∃p b:Int,es.map (·.2)=[.int p, .int b]/\gZ p/\p<10^40/\b%p≠0/\∀u:Int,0<=u->u<p->(∃k,u*b=1+p*k)->Φ true (.int u)):
  Ev G ρ (iS uE [] E0 t) Φ:=fun nb σ H Q W z=>
 h nb σ H _ W fun es vs H1 ⟨p,b,e,h1,h2,h3,q⟩ s1 q1=>by
  have hd:=q1.all (f:=false) (fun z=>by cases z)
  rw[e] at hd
  unfold af at hd
  obtain⟨x,ys,rfl,d1,hd⟩:=hd
  unfold af at hd
  obtain⟨y,zs,rfl,d2,hd⟩:=hd
  unfold af at hd
  subst hd
  rw[d1.bZ,d2.bZ]
  exact⟨p,b,rfl,h1,h2,h3,fun u u0 u1 u2=>z true _ H1 _ (q u u0 u1 u2) s1 (.int u)⟩
structure cP(p n:Int)(cs:List az):Prop where
 hp:gZ p
 cO:p<10^40
 n0:1<=n
 n1:n<=400
 cl:cs.length<=500
 ok:∀prs∈cs,(prs.map (·.1)).Nodup/\prs.length<=1000/\∀pr∈prs,0<=pr.1/\pr.1<n/\0<=pr.2/\pr.2<p
def g6(r:List Int)(prs:az):List Int:=prs.foldl (fun r pr=>r.set pr.1.toNat pr.2) r
def jl(n m c:Nat)(prs:az):List Int:=(g6 (List.replicate (n+m) 0) prs).set (n+c) 1
def dh(n m:Nat)(cs:List az):List (List Int):=cs.zipIdx.map fun q=>jl n m q.2 q.1
theorem ow:∀(prs:az) (r:List Int),(g6 r prs).length=r.length
  |[],_=>rfl
  | pr :: prs, r => by
    show(g6 (r.set pr.1.toNat pr.2) prs).length=_
    rw[ow prs,gn]
theorem K0:∀(prs:az) (r:List Int) (x:Int),x∈g6 r prs->x∈r\/x∈prs.map (·.2)
  |[],_,x,h=> .inl h
  | pr :: prs, r, x, h => by
    rcases K0 prs (r.set pr.1.toNat pr.2) x h with z|z
    · rcases lX z with y|y
      · exact .inl y
      · exact .inr (by rw[y];simp)
    · exact .inr (by rw[bC];exact bY _ z)
theorem vZ:∀(prs:az) (r:List Int) (i:Nat),(∀pr∈prs,pr.1.toNat≠i)->gI (g6 r prs) i=gI r i
  |[],_,_,_=>rfl
  | pr :: prs, r, i, h => by
    show gI (g6 (r.set pr.1.toNat pr.2) prs) i=_
    rw[vZ prs _ i fun q hq=>h q (bY _ hq)]
    unfold gI
    rw[bf,bQ (h pr (dj ..)),bf]
theorem Lb(f:Nat->Int):∀(prs:az) (r:List Int),(prs.map (·.1)).Nodup->(∀pr∈prs,0<=pr.1/\pr.1.toNat<r.length/\gI r pr.1.toNat=0)->aj f (g6 r prs)=aj f r+(prs.map fun pr=>f pr.1.toNat*pr.2).sum
  |[],r,_,_=>by simp[g6]
  | pr :: prs, r, hn, h => by
    rw[bC,iE] at hn
    obtain⟨h0,h1,h2⟩:=h pr (dj ..)
    show aj f (g6 (r.set pr.1.toNat pr.2) prs)=_
    rw[Lb f prs _ hn.2 fun q hq=>?_,wL f r _ _ h1,h2,bC,rW]
    · grind
    · obtain⟨g0,g1,g2⟩:=h q (bY _ hq)
      refine⟨g0,by rw[gn];exact g1,?_⟩
      have:pr.1.toNat≠q.1.toNat:=fun z=>hn.1 (by
        have e:pr.1=q.1:=by omega
        rw[e];exact kj hq)
      unfold gI
      rw[bf,bQ this,<-bf]
      exact g2
theorem lR(n i:Nat):gI (List.replicate n 0) i=0:=by
 unfold gI
 rw[bf,fj]
 split<;>rfl
section
variable{p n:Int}{cs:List az}{prs:az}{m c:Nat}
theorem D0(f:Nat->Int)(hn:(prs.map (·.1)).Nodup)(h:∀pr∈prs,0<=pr.1/\pr.1<n)(n0:0<=n)(hc:c<m):aj f (jl n.toNat m c prs)=(prs.map fun pr=>f pr.1.toNat*pr.2).sum+f (n.toNat+c):=by
 unfold jl
 have h1:gI (g6 (List.replicate (n.toNat+m) 0) prs) (n.toNat+c)=0:=by
  rw[vZ _ _ _ fun pr aC=>by have:=h pr aC;omega,lR]
 rw[wL _ _ _ _ (by rw[ow,fy];omega),h1,Lb f prs _ hn fun pr aC=>?_,tY]
 ·omega
 ·have:=h pr aC
  exact⟨this.1,by rw[fy];omega,lR ..⟩
theorem Hu(hp:1<p)(h:∀pr∈prs,0<=pr.2/\pr.2<p):aK p (n.toNat+m) (jl n.toNat m c prs):=by
 unfold jl
 refine⟨by rw[gn,ow,fy],fun x hx=>?_⟩
 rcases lX hx with z|z
 ·rcases K0 _ _ _ z with y|y
  ·rw[nE] at y;omega
  ·obtain⟨pr,aC,rfl⟩:=aN.mp y
   exact h pr aC
 ·omega
theorem Ce{r:List Int}(h:r∈dh n.toNat m cs):∃c prs,cs[c]?=some prs/\r=jl n.toNat m c prs:=by
 obtain⟨q,hq,rfl⟩:=aN.mp h
 obtain⟨i,hi⟩:=dZ hq
 rw[sG] at hi
 obtain⟨x,e,h2⟩:=jx.mp hi
 subst h2
 exact⟨_,x,by simpa using e,by simp⟩
theorem lY:(dh n.toNat m cs).length=cs.length:=by unfold dh;rw[ak,List.length_zipIdx]
theorem C0{c:Nat}(h:cs[c]?=some prs):jl n.toNat m c prs∈dh n.toNat m cs:=by
 unfold dh
 refine aN.mpr ⟨(prs,c),?_,rfl⟩
 refine aW (i:=c) ?_
 rw[sG,h]
 simp
theorem cP.rows(h:cP p n cs):i8 p (n.toNat+cs.length) (dh n.toNat cs.length cs):=fun r hr=>by
 obtain⟨c,prs,e,rfl⟩:=Ce hr
 exact Hu h.hp.1 fun pr aC=>((h.ok prs (aW e)).2.2 pr aC).2.2
end
def cJ(wd:Wo)(i:Nat):Int:=match wd[i]? with
 |some (some x)=>x
 |_=>0
theorem JI(wd:Wo):∀(xs:List Int) (k:Nat),((xs.zipIdx k).map fun q=>jC wd ((q.2:Int),q.1)).sum=aj (fun i=>cJ wd (k+i)) xs
  |[],_=>rfl
  | x :: xs, k => by
    rw[List.zipIdx_cons,bC,rW,JI wd xs (k+1)]
    show _=cJ wd (k+0)*x+aj _ xs
    have e:(fun i=>cJ wd (k+1+i))=fun i=>cJ wd (k+(i+1)):=by funext i;rw[show k+1+i=k+(i+1) by omega]
    rw[e]
    congr 1
    unfold jC cJ
    simp only[fX,Nat.add_zero]
    cases wd[k]? with
    |none=>simp
    |some o=>cases o<;>simp[nY]
theorem Aq:∀(f:Nat->Int) (r:List Int) (n:Nat),(∀i,n<=i->f i=0)->aj f (r.take n)=aj f r
  |_,[],_,_=>by simp
  | f, x :: xs, 0, h => by
    rw[yu,jq f (x::xs) fun i _=>by rw[h i (fW _),fF]]
    rfl
  | f, x :: xs, n + 1, h => by
    show f 0*x+aj _ (xs.take n)=f 0*x+aj _ xs
    rw[Aq (fun i=>f (i+1)) xs n fun i hi=>h (i+1) (by omega)]
theorem Pf{wd:Wo}{r:List Int}{n:Nat}(hw:wd.length=n):aV ((r.take n).zipIdx.map fun q=>((q.2:Int),q.1)) wd=aj (cJ wd) r:=by
 unfold aV
 rw[fZ]
 have:=JI wd (r.take n) 0
 simp only[Nat.zero_add] at this
 rw[<-Aq (cJ wd) r n fun i hi=>?_]
 ·exact this
 ·unfold cJ
  rw[gP (by omega)]
def jW(wd:Wo):List Nat:=(List.range wd.length).filter fun i=>wd[i]?==some none
theorem qj{wd:Wo}{i:Nat}:i∈jW wd↔wd[i]?=some none:=by
 unfold jW
 rw[iP,dS,beq_iff_eq]
 exact⟨fun h=>h.2,fun h=>⟨(aP.mp h).1,h⟩⟩
structure FI(p n:Int)(wd:Wo)(R:List (List Int))(T:List (Nat×Nat))(i:Nat)(v:List Int):Prop where
 len:v.length=n.toNat
 rg:∀x∈v,0<=x/\x<p
 known:∀(j:Nat) x,wd[j]?=some (some x)->gI v j=x
 Dk:∀q∈T,q.1<i->gI v q.2= -(aj (cJ wd) (R.getD q.1 []))%p
 rest:∀j,wd[j]?=some none->(∀q∈T,q.2=j->i<=q.1)->gI v j=0
 free:∀k<i,k∉T.map (·.1)->p∣aj (cJ wd) (R.getD k [])
theorem c9.inj{p:Int}{w:Nat}{R0 R:List (List Int)}{T:List (Nat×Nat)}{D:List Nat}(h:c9 p w R0 R T D){a b:Nat×Nat}(ha:a∈T)(hb:b∈T)(e:a.2=b.2):a.1=b.1:=by
 have h1:=h.one a ha a.1 (h.rg a ha).1
 have h2:=h.one b hb a.1 (h.rg a ha).1
 rw[if_pos rfl] at h1
 rw[<-e,h1] at h2
 by_cases c:a.1=b.1
 ·exact c
 ·rw[if_neg c] at h2;omega
theorem jo{r:List Int}{i:Nat}{x:Int}(hi:i<r.length)(j:Nat):gI (r.set i x) j=if j=i then x else gI r j:=by
 unfold gI
 rw[bf]
 by_cases c:j=i
 ·subst c;rw[dO hi,if_pos rfl];rfl
 ·rw[bQ (fun z=>c z.symm),if_neg c,bf]
section
variable{p n:Int}{wd:Wo}{R R0:List (List Int)}{T:List (Nat×Nat)}{i w:Nat}{v:List Int}
theorem FI.init(hp:0<p)(hwl:wd.length=n.toNat)(iU:∀x,some x∈wd->0<=x/\x<p):FI p n wd R T 0 (wd.map fun o=>o.getD 0):=by
 refine⟨by rw[ak];exact hwl,fun x hx=>?_,fun j x e=>?_,(fun q _ h=>absurd h (uD _)),fun j e _=>?_,(fun k h=>absurd h (uD _))⟩
 ·obtain⟨o,ho,rfl⟩:=aN.mp hx
  cases o with
  |none=>exact⟨yO 0,hp⟩
  |some y=>exact iU y ho
 ·unfold gI;rw[bf,bu,e];rfl
 ·unfold gI;rw[bf,bu,e];rfl
theorem FI.take(h:FI p n wd R T i v)(hp:0<p)(hwl:wd.length=n.toNat)(hS:c9 p w R0 R T (jW wd)){pl:Nat}(hq:(i,pl)∈T):FI p n wd R T (i+1) (v.set pl (-(aj (cJ wd) (R.getD i []))%p)):=by
  have oY:wd[pl]?=some none:=qj.mp (hS.rg _ hq).2
  have hpl:pl<v.length:=by rw[h.len,<-hwl];exact(aP.mp oY).1
  refine⟨by rw[gn];exact h.len,fun x hx=>?_,fun j x e=>?_,fun q tV hlt=>?_,fun j e hj=>?_,fun k hk gX=>?_⟩
  · rcases lX hx with z|z
    · exact h.rg x z
    · rw[z];exact⟨eG _ (by omega),e7 _ hp⟩
  · rw[jo hpl,if_neg (fun z=>by rw[z,oY] at e;cases e)]
    exact h.known j x e
  · rw[jo hpl]
    by_cases c:q.2=pl
    · have:=hS.inj tV hq c
      rw[if_pos c,this]
    · rw[if_neg c]
      refine h.Dk q tV ?_
      have:q.1≠i:=fun z=>c (by
        have hk:=hS.nd
        have h1:(q.1,q.2)∈T:=tV
        rw[z] at h1
        have:∀(T:List (Nat×Nat)),(T.map (·.1)).Nodup->∀a b:Nat×Nat,a∈T->b∈T->a.1=b.1->a=b:=by
          intro T
          induction T with
          |nil=>intro _ a b ha;cases ha
          | cons t T ih =>
            intro hn a b ha hb e
            rw[bC,iE] at hn
            rcases bq.mp ha with y|y<;>rcases bq.mp hb with y2|y2
            · rw[y,y2]
            · exact absurd (aN.mpr ⟨b,y2,by rw[<-e,y]⟩) hn.1
            · exact absurd (aN.mpr ⟨a,y,by rw[e,y2]⟩) hn.1
            · exact ih hn.2 a b y y2 e
        have:=this T hk _ _ h1 hq rfl
        exact congrArg Prod.snd this)
      omega
  · rw[jo hpl]
    by_cases c:j=pl
    · have:=hj _ hq c.symm
      exact absurd this (by show¬i+1<=i;omega)
    · rw[if_neg c]
      exact h.rest j e fun q tV z=>by have:=hj q tV z;omega
  · by_cases c:k=i
    · exact absurd (c▸aN.mpr ⟨_,hq,rfl⟩) gX
    · exact h.free k (by omega) gX
theorem FI.pass(h:FI p n wd R T i v)(hi:i∉T.map (·.1))(hz:p∣aj (cJ wd) (R.getD i [])):FI p n wd R T (i+1) v:=by
 refine⟨h.len,h.rg,h.known,fun q hq hlt=>?_,fun j e hj=>h.rest j e fun q hq z=>by have:=hj q hq z;omega,fun k hk gX=>?_⟩
 ·have:q.1≠i:=fun z=>hi (z▸kj hq)
  exact h.Dk q hq (by omega)
 ·by_cases c:k=i
  ·subst c;exact hz
  ·exact h.free k (by omega) gX
theorem FI.rows(h:FI p n wd R T R.length v)(hp:0<p)(hwl:wd.length=n.toNat)(hS:c9 p w R0 R T (jW wd))(hw:n.toNat<=w):∀r∈R,p∣aj (gI v) r:=by
  intro r hr
  obtain⟨k,hk⟩:=dZ hr
  have mZ:=(aP.mp hk).1
  have hg:R.getD k []=r:=by rw[bf,hk];rfl
  have hrl:=(hS.ok r hr).len
  obtain⟨hf,wW⟩:∃hf:Nat->Int,∀i,hf i=if wd[i]?=some none then gI v i else 0:=⟨_,fun _=>rfl⟩
  have split:gI v=fun i=>cJ wd i+hf i:=by
    funext i
    rw[wW]
    unfold cJ
    cases e:wd[i]? with
    | none =>
      have:gI v i=0:=by
        unfold gI
        have:wd.length<=i:=List.getElem?_eq_none_iff.mp e
        rw[bf,gP (by rw[h.len];omega)]
        rfl
      rw[this];simp
    | some o =>
      cases o with
      |none=>simp
      |some x=>rw[h.known i x e];simp
  rw[split,nS]
  by_cases c:k∈T.map (·.1)
  · obtain⟨q,hq,rfl⟩:=aN.mp c
    have oY:wd[q.2]?=some none:=qj.mp (hS.rg q hq).2
    have hq2:q.2<r.length:=by
      have:=(aP.mp oY).1
      omega
    have h1:=hS.one q hq q.1 mZ
    rw[if_pos rfl,hg] at h1
    rw[lQ hf r q.2 hq2 fun i hi hne=>?_,h1,wW,if_pos oY,oK,h.Dk q hq mZ,hg,iC]
    · exact⟨-(-(aj (cJ wd) r)/p),by grind⟩
    · rw[wW]
      by_cases cl:wd[i]?=some none
      · rw[if_pos cl]
        by_cases ct:∃q'∈T,q'.2=i
        · obtain⟨q',hq',e⟩:=ct
          have h2:=hS.one q' hq' q.1 mZ
          have:q.1≠q'.1:=fun z=>hne (by
            have h3:=hS.one q' hq' q'.1 (hS.rg q' hq').1
            have h4:=hS.nd
            rw[<-e]
            have key:∀(T:List (Nat×Nat)),(T.map (·.1)).Nodup->∀a b:Nat×Nat,a∈T->b∈T->a.1=b.1->a=b:=by
              intro T
              induction T with
              |nil=>intro _ a b ha;cases ha
              | cons t T ih =>
                intro hn a b ha hb e
                rw[bC,iE] at hn
                rcases bq.mp ha with y|y<;>rcases bq.mp hb with y2|y2
                · rw[y,y2]
                · exact absurd (aN.mpr ⟨b,y2,by rw[<-e,y]⟩) hn.1
                · exact absurd (aN.mpr ⟨a,y,by rw[e,y2]⟩) hn.1
                · exact ih hn.2 a b y y2 e
            exact congrArg Prod.snd (key T h4 q' q hq' hq z.symm))
          rw[if_neg this,hg,e] at h2
          rw[h2,dI]
        · rw[h.rest i cl fun q' hq' e=>absurd ⟨q',hq',e⟩ ct,fF]
      · rw[if_neg cl,fF]
  · rw[jq hf r fun i hi=>?_,jg]
    · have:=h.free k mZ c
      rw[hg] at this
      exact this
    · rw[wW]
      by_cases cl:wd[i]?=some none
      · have:=hS.zero k mZ c i (qj.mpr cl)
        rw[hg] at this
        rw[this,dI]
      · rw[if_neg cl,fF]
end
structure lP(p n:Int)(cs:List az)(wd:Wo)(v:List Int):Prop where
 len:v.length=n.toNat
 rg:∀x∈v,0<=x/\x<p
 known:∀(j:Nat) x,wd[j]?=some (some x)->gI v j=x
 JJ:∀prs∈cs,p∣aV prs (v.map some)
theorem iw{v:List Int}{n:Int}(hv:v.length=n.toNat):∀(prs:az),(∀pr∈prs,0<=pr.1/\pr.1<n)->aV prs (v.map some)=(prs.map fun pr=>gI v pr.1.toNat*pr.2).sum
  |[],_=>rfl
  | pr :: prs, h => by
    show jC _ pr+aV prs _=_
    rw[iw hv prs fun q hq=>h q (bY _ hq),bC,rW]
    congr 1
    obtain⟨h0,h1⟩:=h pr (dj ..)
    unfold jC gI
    rw[bu,bf,aF (show pr.1.toNat<v.length by omega)]
    exact nY ..
theorem FI.word{p n:Int}{cs:List az}{wd:Wo}{R:List (List Int)}{T:List (Nat×Nat)}{v:List Int}(hN:cP p n cs)(h:FI p n wd R T R.length v)(hwl:wd.length=n.toNat)(hS:c9 p (n.toNat+cs.length) (dh n.toNat cs.length cs) R T (jW wd)):lP p n cs wd v:=by
 have p2:=hN.hp.1
 have n0:=hN.n0
 refine⟨h.len,h.rg,h.known,fun prs cW=>?_⟩
 have key:=(hS.sp (gI v)).mpr (h.rows (by omega) hwl hS (by omega))
 obtain⟨c,hc⟩:=dZ cW
 have hcl:=(aP.mp hc).1
 have:=key _ (C0 (n:=n) (m:=cs.length) hc)
 obtain⟨g1,g2,g3⟩:=hN.ok prs cW
 have aC:∀pr∈prs,0<=pr.1/\pr.1<n:=fun pr aC=>⟨(g3 pr aC).1,(g3 pr aC).2.1⟩
 rw[D0 (gI v) g1 aC (by omega) hcl] at this
 have z:gI v (n.toNat+c)=0:=by
  unfold gI
  rw[bf,gP (by rw[h.len];omega)]
  rfl
 rw[z,jg] at this
 rw[iw h.len prs aC]
 exact this
def co(prs:az)(j:Nat):Int:=(prs.map fun pr=>if pr.1.toNat=j then pr.2 else 0).sum
def bS:List az->List Int->Nat->Int
 |prs::cs,x::xs,j=>co prs j*x+bS cs xs j
 |_,_,_=>0
theorem IZ(p u:Int)(j:Nat):∀(cs:List az) (xs:List Int),∃k,bS cs (mulR p u xs) j=u*bS cs xs j+p*k
  |[],_=>⟨0,by simp[bS]⟩
  |_::_,[]=>⟨0,by simp[bS,mulR]⟩
  | prs :: cs, x :: xs => by
    obtain⟨k,hk⟩:=IZ p u j cs xs
    refine⟨k-co prs j*(u*x/p),?_⟩
    show co prs j*(u*x%p)+bS cs (mulR p u xs) j=u*(co prs j*x+bS cs xs j)+_
    rw[hk,iC]
    grind
theorem Ke:∀(n:Nat) (f:Nat->Int) (r:List Int),n<=r.length->aj f r=aj f (r.take n)+aj (fun i=>f (n+i)) (r.drop n)
  |0,f,r,_=>by simp[aj]
  |n+1,f,[],h=>by simp at h
  | n + 1, f, x :: xs, h => by
    show f 0*x+aj _ xs=(f 0*x+aj _ (xs.take n))+aj _ (xs.drop n)
    rw[Ke n (fun i=>f (i+1)) xs (by simpa using h),Int.add_assoc]
    congr 2
    congr 1
    funext i
    rw[show n+i+1=n+1+i by omega]
theorem Hv(j:Nat):∀(cs:List az) (xs:List Int),xs.length=cs.length->aj (fun i=> -(co (cs.getD i []) j)) xs= -bS cs xs j
  |[],[],_=>rfl
  |[],_::_,h=>by simp at h
  |_::_,[],h=>by simp at h
  | prs :: cs, x :: xs, h => by
    show-(co prs j)*x+aj (fun i=> -(co (cs.getD i []) j)) xs= -(co prs j*x+bS cs xs j)
    rw[Hv j cs xs (by simpa using h)]
    grind
theorem GU{p n:Int}{cs:List az}{R:List (List Int)}{T:List (Nat×Nat)}{D:List Nat}(hN:cP p n cs)(hS:c9 p (n.toNat+cs.length) (dh n.toNat cs.length cs) R T D){r:List Int}(hr:r∈R){j:Nat}(hj:j<n.toNat):p∣gI r j-bS cs (r.drop n.toNat) j:=by
 have n0:=hN.n0
 obtain⟨f,ef⟩:∃f:Nat->Int,∀i,f i=if i=j then 1 else if n.toNat<=i then-(co (cs.getD (i-n.toNat) []) j) else 0:=⟨_,fun _=>rfl⟩
 have h0:∀r∈dh n.toNat cs.length cs,p∣aj f r:=fun r0 hr0=>by
  obtain⟨c,prs,e,rfl⟩:=Ce hr0
  obtain⟨g1,g2,g3⟩:=hN.ok prs (aW e)
  have hcl:=(aP.mp e).1
  rw[D0 f g1 (fun pr aC=>⟨(g3 pr aC).1,(g3 pr aC).2.1⟩) (by omega) hcl,ef (n.toNat+c),if_neg (by omega),if_pos (by omega),show n.toNat+c-n.toNat=c by omega]
  have e1:cs.getD c []=prs:=by rw[bf,e];rfl
  have e2:(prs.map fun pr=>f pr.1.toNat*pr.2).sum=co prs j:=by
   unfold co
   congr 1
   apply nk
   intro pr aC
   have:=g3 pr aC
   rw[ef]
   by_cases c:pr.1.toNat=j
   ·rw[if_pos c,if_pos c,qv]
   ·rw[if_neg c,if_neg c,if_neg (by omega),fF]
  rw[e1,e2]
  exact⟨0,by omega⟩
 have h1:=(hS.sp f).mp h0 r hr
 have hl:=(hS.ok r hr).len
 rw[Ke n.toNat f r (by omega),lQ f (r.take n.toNat) j (by rw[cZ];omega) fun i hi hne=>?_] at h1
 ·have e3:(fun i=>f (n.toNat+i))=fun i=> -(co (cs.getD i []) j):=by
   funext i
   rw[ef,if_neg (by omega),if_pos (by omega),show n.toNat+i-n.toNat=i by omega]
  have e4:gI (r.take n.toNat) j=gI r j:=by
   unfold gI
   rw[bf,nF hj,bf]
  rw[e3,Hv j cs (r.drop n.toNat) (by rw[iR];omega),ef,if_pos rfl,e4,qv] at h1
  exact h1
 ·rw[cZ] at hi
  rw[ef,if_neg hne,if_neg (by omega),fF]
theorem Fv{p u:Int}:∀(f:Nat->Int) (a b:List Int),a.length=b.length->(∀i<a.length,p∣gI a i-u*gI b i)->p∣aj f a-u*aj f b
  |_,[],[],_,_=>by simp[aj]
  |_,[],_::_,h,_=>by simp at h
  |_,_::_,[],h,_=>by simp at h
  | f, x :: xs, y :: ys, h, hh => by
    obtain⟨k,hk⟩:=Fv (u:=u) (fun i=>f (i+1)) xs ys (by simpa using h) fun i hi=>hh (i+1) (by simpa using hi)
    obtain⟨k2,hk2⟩:=hh 0 (by simp)
    have hk2:x-u*y=p*k2:=hk2
    refine⟨f 0*k2+k,?_⟩
    show(f 0*x+aj _ xs)-u*(f 0*y+aj _ ys)=_
    have e1:x=u*y+p*k2:=by omega
    have e2:aj (fun i=>f (i+1)) xs=u*aj (fun i=>f (i+1)) ys+p*k:=by omega
    rw[e2,e1]
    grind
structure t7(p n:Int)(cs:List az)(wd:Wo)(aE:List Int):Prop where
 len:aE.length=cs.length
 rg:∀x∈aE,0<=x/\x<p
 Iq:∀rw:List Int,rw.length=n.toNat->(∀i<n.toNat,p∣gI rw i-bS cs aE i)->(∀i,wd[i]?=some none->p∣gI rw i)/\p∣aj (cJ wd) rw-1
theorem Uk{p n:Int}{cs:List az}{wd:Wo}{R:List (List Int)}{T:List (Nat×Nat)}{k:Nat}{u:Int}(hN:cP p n cs)(hwl:wd.length=n.toNat)(hS:c9 p (n.toNat+cs.length) (dh n.toNat cs.length cs) R T (jW wd))(hk:k<R.length)(gX:k∉T.map (·.1))
  (hu:∃j,u*(aj (cJ wd) (R.getD k [])%p)=1+p*j):t7 p n cs wd (mulR p u ((R.getD k []).drop n.toNat)):=by
 have p2:=hN.hp.1
 rw[ic hk] at hu⊢
 have hr:=hS.ok _ (c6 hk)
 have hl:=hr.len
 have hd:aK p cs.length (R[k].drop n.toNat):=⟨by rw[iR];omega,fun x hx=>hr.rg x (wU hx)⟩
 refine⟨(hd.mul (by omega)).len,(hd.mul (by omega)).rg,fun B4 hrl hrw=>?_⟩
 have Ig:∀i<n.toNat,p∣gI B4 i-u*gI R[k] i:=fun i hi=>by
  obtain⟨a,ha⟩:=hrw i hi
  obtain⟨b,hb⟩:=IZ p u i cs (R[k].drop n.toNat)
  obtain⟨c,hc⟩:=GU hN hS (c6 hk) hi
  refine⟨a+b-u*c,?_⟩
  have e1:gI B4 i=bS cs (mulR p u (R[k].drop n.toNat)) i+p*a:=by omega
  have e2:gI R[k] i=bS cs (R[k].drop n.toNat) i+p*c:=by omega
  rw[e1,e2,hb]
  grind
 refine⟨fun i hi=>?_,?_⟩
 ·have hil:i<n.toNat:=by have:=(aP.mp hi).1;omega
  have:=Ig i hil
  have z:=hS.zero k hk gX i (qj.mpr hi)
  rw[ic hk] at z
  rw[z,dI,nC] at this
  exact this
 ·have h1:=Fv (p:=p) (u:=u) (cJ wd) B4 (R[k].take n.toNat) (by rw[cZ];omega) fun i hi=>by
   have e4:gI (R[k].take n.toNat) i=gI R[k] i:=by
    unfold gI
    rw[bf,nF (by omega),bf]
   rw[e4]
   exact Ig i (by omega)
  rw[Aq (cJ wd) R[k] n.toNat fun i hi=>by unfold cJ;rw[gP (by omega)]] at h1
  obtain⟨a,ha⟩:=h1
  obtain⟨b,hb⟩:=hu
  rw[iC] at hb
  refine⟨a+b+u*(aj (cJ wd) R[k]/p),?_⟩
  grind
def nR:Sp:=fun vs H Q _=>∃(nb:Addr->Prop) (p n:Int) (cs:List az) (v:V),vs=[v]/\ir nb H/\ai nb H (bV p n cs) v/\cs.length<=10000/\
 ∀T L xs H',cy H H'->H T=none->H L=none->H' T=some (.tup [.int p, .int n, .ref L])->H' L=some (.lst xs)->af (fun a=>nb a\/a=L) H' (cs.map br) xs->Q (.ref T) H'
section
variable{G:Gx}{ρ:Rh}{t:TA}{Φ:Pd}{E:DE}{K:PySem.W.Frag}{i j k:Nat}
theorem Fy{S:Addr->Prop}{H:Hp}{d:PyData}{vs:List V}(h:af S H [d] vs):∃v,vs=[v]/\ai S H d v:=by
 unfold af at h
 obtain⟨v,r,rfl,h1,h⟩:=h
 unfold af at h
 subst h
 exact⟨v,rfl,h1⟩
theorem Ev.xU(h:Av G ρ t fun es=>∃(p n:Int) (cs:List az),es.map (·.2)=[bV p n cs]/\cs.length<=10000/\Φ false (bV p n cs)):Ev G ρ (iS nR [] E0 t) Φ:=fun nb σ H Q W z=>
 h nb σ H _ W fun es vs H1 ⟨p,n,cs,e,hl,q⟩ s1 q1=>by
  have hd:=q1.all (f:=false) (fun z=>by cases z)
  rw[e] at hd
  obtain⟨v,rfl,hv⟩:=Fy hd
  have W1:=W.step s1
  refine⟨G.S nb false,p,n,cs,v,rfl,W1.iy,hv,hl,fun T L xs H' sm hT hL eT eL hds=>?_⟩
  have pH:¬G.S nb false T:=fun y=>absurd hT (W1.iy T y)
  have zc:¬G.S nb false L:=fun y=>absurd hL (W1.iy L y)
  refine z false _ H' _ q (s1.trans (.same s1.2 sm)) (.tup pH eT (.cons (.int _) (.cons (.int _) (.cons (.lst zc eL (hds.av fun a y=> .inl y)) .nil))))
theorem Sv.Qi(hij:i≠k/\j≠k)(h:Av G ρ t fun es=>∃(p n:Int) (cs:List az),es.map (·.2)=[bV p n cs]/\cs.length<=10000/\∀c,E.nx (((ρ.set k (.own c false (cs.map br))).set i (.d true (.int p))).set j (.d true (.int n)))):
  Sv G ρ (ff (iS nR [] E0 t) (rB K 3 (qF (eX i) (qF (eX j) (qF (eX k) t6))))) E:=fun nb σ H D W KK=>
 h nb σ H _ W fun es vs H1 ⟨p,n,cs,e,hl,q⟩ s1 q1=>by
  have hd:=q1.all (f:=false) (fun z=>by cases z)
  rw[e] at hd
  obtain⟨v,rfl,hv⟩:=Fy hd
  have W1:=W.step s1
  refine⟨G.S nb false,p,n,cs,v,rfl,W1.iy,hv,hl,fun T L xs H' sm hT hL eT eL hds=>?_⟩
  have W2:=Wd.lG (i:=j) (f:=true) (d:= .int n) (v:= .int n) (Wd.lG (i:=i) (f:=true) (d:= .int p) (v:= .int p) (wu (i:=k) W1 (.same s1.2 sm) hL eL hds) (.int p)) (.int n)
  refine⟨T,_,rfl, .of eT,rfl,_,_,rfl,_,_,rfl,_,_,rfl,rfl,?_⟩
  have e1:((σ.set k (some (V.ref L))).set i (some (.int p))).set j (some (.int n))=((σ.set i (some (.int p))).set j (some (.int n))).set k (some (V.ref L)):=by
   rw[List.set_comm _ _ (bx hij.1),List.set_comm _ _ (bx hij.2)]
  have h9:=KK.nx _ _ _ _ (q L) W2
  rw[e1] at h9
  exact h9
end
theorem Sa{N:List Str}{vs:List V}{ds:List PyData}{nb:Addr->Prop}{H:Hp}{ρ:Rh}{P:St->Hp->Prop}(hl:ir nb H)(hd:af nb H ds vs)(cM:ρ=ds.map (Sl.d false)++List.replicate (N.length-ds.length) .no)
  (h:∀bB σ H1,Wd ⟨none,H,nb,[]⟩ bB ρ σ H1->P σ H1):P (start N vs) H:=
 Sv.gv (t:=fun _ σ H1=>P σ H1) (Φ:=fun _ _=>False) (Q:=fun _ _=>True) hl hd (fun _ _ _ _ z=>z.elim) cM (fun bB σ H1 _ W _=>h bB σ H1 W)
theorem CU(j:Nat)(prs:az)(x:Int):∀(cs:List az) (xs:List Int),cs.length=xs.length->bS (cs++[prs]) (xs++[x]) j=bS cs xs j+co prs j*x
  |[],[],_=>by simp[bS]
  |[],_::_,h=>by simp at h
  |_::_,[],h=>by simp at h
  | q :: cs, y :: ys, h => by
    show co q j*y+bS (cs++[prs]) (ys++[x]) j=co q j*y+bS cs ys j+_
    rw[CU j prs x cs ys (by simpa using h)]
    omega
theorem Kq(prs:az)(pr:Int×Int)(j:Nat):co (prs++[pr]) j=co prs j+if pr.1.toNat=j then pr.2 else 0:=by
 unfold co
 rw[cE,qQ]
 simp
structure iu(p n:Int)(cs:List az)(aE:List Int)(c:Nat)(prs:az)(x:Int)(r:List Int):Prop where
 ok:aK p n.toNat r
 sum:∀i<n.toNat,p∣gI r i-(bS (cs.take c) (aE.take c) i+co prs i*x)
theorem iu.step{p n:Int}{cs:List az}{aE:List Int}{c:Nat}{prs:az}{x:Int}{r:List Int}{pr:Int×Int}(h:iu p n cs aE c prs x r)(hp:0<p)(h0:0<=pr.1)(h1:pr.1<n):iu p n cs aE c (prs++[pr]) x (r.set pr.1.toNat ((gI r pr.1.toNat+pr.2*x)%p)):=by
 have hl:=h.ok.len
 refine⟨⟨by rw[gn];exact hl,fun y hy=>?_⟩,fun i hi=>?_⟩
 ·rcases lX hy with z|z
  ·exact h.ok.rg y z
  ·rw[z];exact⟨eG _ (by omega),e7 _ hp⟩
 ·rw[jo (by omega),Kq]
  obtain⟨k,hk⟩:=h.sum i hi
  by_cases cc:i=pr.1.toNat
  ·subst cc
   rw[if_pos rfl,if_pos rfl,iC]
   refine⟨k-(gI r pr.1.toNat+pr.2*x)/p,?_⟩
   have:gI r pr.1.toNat=bS (cs.take c) (aE.take c) pr.1.toNat+co prs pr.1.toNat*x+p*k:=by omega
   generalize hd:(gI r pr.1.toNat+pr.2*x)/p=dd
   rw[this]
   grind
  ·rw[if_neg cc,if_neg (fun z=>cc z.symm),jg]
   exact⟨k,hk⟩
theorem iu.start{p n:Int}{cs:List az}{aE:List Int}{c:Nat}{x y:Int}{r:List Int}(h:iu p n cs aE c [] x r):iu p n cs aE c [] y r:=by
 refine⟨h.ok,fun i hi=>?_⟩
 have:=h.sum i hi
 simp[co] at this⊢
 exact this
theorem iu.init{p n:Int}{cs:List az}{aE:List Int}(hp:0<p):iu p n cs aE 0 [] 0 (List.replicate n.toNat 0):=by
 refine⟨⟨fy,fun x hx=>by rw[nE] at hx;omega⟩,fun i hi=>?_⟩
 rw[lR]
 simp[bS,co]
def kK(p:Int)(m:Nat)(prs:az):Prop:=(prs.map (·.1)).Nodup/\prs.length<=1000/\∀pr∈prs,0<=pr.1/\pr.1<m/\1<=pr.2/\pr.2<p
theorem aK.put{p:Int}{w i:Nat}{r:List Int}{x:Int}(h:aK p w r)(h0:0<=x)(h1:x<p):aK p w (r.set i x):=by
 refine⟨by rw[gn];exact h.len,fun y hy=>?_⟩
 rcases lX hy with z|z
 ·exact h.rg y z
 ·rw[z];exact⟨h0,h1⟩
def gY(r:List Int)(i:Nat):az:=((List.range i).filter fun k=>decide (gI r k≠0)).map fun(k:Nat)=>((k:Int),gI r k)
theorem Jl{p:Int}{w:Nat}{r:List Int}(h:aK p w r)(hp:0<p)(hw:w<=1000):kK p w (gY r w):=by
 refine⟨?_,?_,fun pr aC=>?_⟩
 ·unfold gY
  rw[fZ]
  show(List.map (fun(k:Nat)=>(k:Int)) _).Nodup
  rw[List.Nodup,jV]
  exact(rQ.filter _).imp fun{a b} h z=>h (by omega)
 ·unfold gY
  rw[ak]
  exact cX (Bf ..) (by rw[fk];exact hw)
 ·obtain⟨k,hk,rfl⟩:=aN.mp aC
  rw[iP,dS] at hk
  have h1:=h.g (i:=k) hp
  have h2:gI r k≠0:=by simpa using hk.2
  exact⟨by show(0:Int)<=k;omega,by show(k:Int)<w;omega,by show 1<=gI r k;omega,h1.2⟩
theorem BF(r:List Int)(i:Nat):gY r (i+1)=gY r i++if gI r i≠0 then[((i:Int),gI r i)] else[]:=by
 unfold gY
 rw[xK,wV,cE]
 congr 1
 by_cases c:gI r i=0<;>simp[c]
theorem gb.Qf{G:Gx}{ρ:Rh}{te:TE}{f:Bool}{Ψ:PyData->Prop}{a:Addr}{ds:List PyData}(i:Nat)(e:ρ[i]?=some (.own a f ds))(h:gb G (ρ.set i (.d f (.list ds))) te Ψ):gb G ρ te Ψ:=fun nb σ H Q W z=>h _ σ H Q (Sv.share W e) z
end L2
set_option maxRecDepth 100000
set_option maxHeartbeats 4000000
namespace L2
open PySem PySem.Spec PyProof.Rows
theorem N9{P:Program}{w:World}{k:Key}{v:Value}(h:(dX P w).is k v=true):RelV (kV k) v:=by
 cases k with
 |inl i=>obtain⟨t,rfl⟩:=Ar (k:=i) (v:=v) h;exact⟨t,rfl⟩
 |inr x=>obtain⟨t,rfl⟩:=Value.isStrOf_shape (v:=v) h;exact⟨t,rfl⟩
def wO(X:Cx)(a:Addr):Prop:=∀o u,X.H₀ a≠some (.bR o u)
section
variable{X:Cx}{pins:List (Addr×Obj)}{σ:List (Option V)}{H:Hp}{s:Shared}
theorem Inv.freeze{a:Addr}{ps:List (Key×V)}{o:Obj}(I:Inv X pins σ H s)(h:H a=some (.dK ps))(ho:s.heap.get? a=some o):Inv X pins σ (upd H a (.bR o (.dK ps))) s:=by
 have ne:∀b u,H b=some u->(∀z,u≠ .dK z)->b≠a:=fun b u q z e=>by subst e;rw[h] at q;cases q;exact z _ rfl
 have nn:∀b,H b=none->b≠a:=fun b q e=>by subst e;rw[h] at q;cases q
 refine I.step (h':=s.heap) (g':=s.gens) (d':=s.drawn) (t':=s.toks) (ch:=[]) (fun _ z=>nomatch z) (fun b o _ _ _ e _=>e) (fun b o _ _ _ e _=>⟨o.slots,e⟩) (fun b o _ e n=>by rw[aB (nn b n)];exact n) (fun b o _ e=>⟨o,e⟩)
  (fun b xs q=>by rw[aB (ne b _ q (fun z=>nofun))];exact q) (fun b o u q=>by rw[aB (ne b _ q (fun z=>nofun))];exact q) (fun b p q=>⟨#[],by rw[aB (ne b _ q (fun z=>nofun)),q];simp⟩) (fun m hm=>hm) (fun b u q=>?_) I.bare
 by_cases hb:b=a
 ·subst hb
  rw[aY] at q;cases q
  refine⟨ho,(I.hok b _ h).stay (fun c v hc z=>z) (fun c z=>?_) fun c xs z=>?_⟩
  ·rw[aB (ne c _ z (fun z=>nofun))];exact z
  ·rw[aB (ne c _ z (fun z=>nofun))];exact z
 ·rw[aB hb] at q
  refine(I.hok b u q).stay (fun c v hc z=>z) (fun c z=>?_) fun c xs z=>?_
  ·rw[aB (ne c _ z (fun z=>nofun))];exact z
  ·rw[aB (ne c _ z (fun z=>nofun))];exact z
theorem Inv.m9{a:Addr}{ps:List (Key×V)}{o:Obj}(I:Inv X pins σ H s)(h:H a=some (.bR o (.dK ps)))(nf:wO X a):Inv X pins σ (upd H a (.dK ps)) s:=by
 have ne:∀b u,H b=some u->(∀z z',u≠ .bR z z')->b≠a:=fun b u q z e=>by subst e;rw[h] at q;cases q;exact z _ _ rfl
 have nn:∀b,H b=none->b≠a:=fun b q e=>by subst e;rw[h] at q;cases q
 refine⟨I.ok,I.os,I.bare,⟨I.base.keep,I.base.slot,fun b o q n hx=>?_,I.base.there,fun b xs q=>?_,fun b o u q=>?_,fun b p q=>?_⟩,I.loc,I.cell,?_,fun x c e=>?_,fun p hp=>?_,fun b u q=>?_,I.len⟩
 ·have z:=I.base.free b o q n hx
  rw[aB (nn b z)];exact z
 ·have z:=I.base.tups b xs q
  rw[aB (ne b _ z (fun _ z=>nofun))];exact z
 ·have z:=I.base.ko b o u q
  have:b≠a:=fun e=>by subst e;exact nf _ _ q
  rw[aB this];exact z
 ·obtain⟨m,z⟩:=I.base.lS b p q
  exact⟨m,by rw[aB (ne b _ z (fun _ z=>nofun))];exact z⟩
 ·rw[aB (nn _ I.free)];exact I.free
 ·rw[aB (nn _ (I.jF x c e))];exact I.jF x c e
 ·obtain⟨z1,z2,z3⟩:=I.pin p hp
  exact⟨z1,by rw[aB (nn _ z2)];exact z2,z3⟩
 ·by_cases hb:b=a
  ·subst hb
   rw[aY] at q;cases q
   have w:=(show cD X.prog X.w H s.heap b (.dK ps) from(Rd.ok (.inr ⟨o,h⟩) I.hok))
   refine w.stay (fun c v hc z=>z) (fun c z=>?_) fun c xs z=>?_
   ·rw[aB (ne c _ z (fun _ z=>nofun))];exact z
   ·rw[aB (ne c _ z (fun _ z=>nofun))];exact z
  ·rw[aB hb] at q
   refine(I.hok b u q).stay (fun c v hc z=>z) (fun c z=>?_) fun c xs z=>?_
   ·rw[aB (ne c _ z (fun _ z=>nofun))];exact z
   ·rw[aB (ne c _ z (fun _ z=>nofun))];exact z
end
def wB(NF:Addr->Prop)(Q:Hp->Prop)(H:Hp):Prop:=Q H\/∃a o ps,H a=some (.bR o (.dK ps))/\NF a/\Q (upd H a (.dK ps))
def zZ(NF:Addr->Prop)(te:TE):TE:=fun σ H Q=>te σ H fun v=>wB NF (Q v)
section
variable{X:Cx}
theorem wB.inv{pins:List (Addr×Obj)}{σ:St}{H:Hp}{s:Shared}{Q:Hp->Prop}(I:Inv X pins σ H s)(h:wB (wO X) Q H):∃H',Inv X pins σ H' s/\Q H':=by
 rcases h with h|⟨a,o,ps,e,nf,q⟩
 ·exact⟨H,I,h⟩
 ·exact⟨_,I.m9 e nf,q⟩
theorem Xy{e:Expr}{te:TE}(h:PE X e te):PE X e (zZ (wO X) te):=by
 intro pins s σ H Q I q
 refine aO (h pins s σ H _ I q) fun u s1 ⟨x,H1,I1,r1,q1⟩=>?_
 obtain⟨H8,I8,q8⟩:=wB.inv I1 q1
 exact⟨x,H8,I8,r1,q8⟩
end
structure Mv(H H':Hp):Prop where
 lst:∀b xs,H b=some (.lst xs)->H' b=some (.lst xs)
 tup:∀b xs,H b=some (.tup xs)->H' b=some (.tup xs)
 bW:∀b ps,Rd H b (.dK ps)->Rd H' b (.dK ps)
mutual
theorem ai.mv{S:Addr->Prop}{H H':Hp}(m:Mv H H'):∀{d:PyData} {v:V},ai S H d v->ai S H' d v
 | .none,_,h=>by unfold ai at h⊢;exact h
 | .bool _,_,h=>by unfold ai at h⊢;exact h
 | .int _,_,h=>by unfold ai at h⊢;exact h
 | .str _,_,h=>by unfold ai at h⊢;exact h
 | .list ds,_,h=>by unfold ai at h⊢;obtain⟨a,xs,e,n,s,r⟩:=h;exact⟨a,xs,e,n,m.lst _ _ s,af.mv m r⟩
 | .tuple ds,_,h=>by unfold ai at h⊢;obtain⟨a,xs,e,n,s,r⟩:=h;exact⟨a,xs,e,n,m.tup _ _ s,af.mv m r⟩
 | .dict kvs,_,h=>by unfold ai at h⊢;obtain⟨a,xs,e,n,s,r⟩:=h;exact⟨a,xs,e,n,m.bW _ _ s,au.mv m r⟩
theorem af.mv{S:Addr->Prop}{H H':Hp}(m:Mv H H'):∀{ds:List PyData} {vs:List V},af S H ds vs->af S H' ds vs
 |[],_,h=>by unfold af at h⊢;exact h
 |d::ds,_,h=>by unfold af at h⊢;obtain⟨y,ys,e,h1,h2⟩:=h;exact⟨y,ys,e,ai.mv m h1,af.mv m h2⟩
theorem au.mv{S:Addr->Prop}{H H':Hp}(m:Mv H H'):∀{ds:List (PyData×PyData)} {vs:List (Key×V)},au S H ds vs->au S H' ds vs
 |[],_,h=>by unfold au at h⊢;exact h
 |d::ds,_,h=>by unfold au at h⊢;obtain⟨y,ys,e,h1,h2⟩:=h;exact⟨y,ys,e,bP.mv m h1,au.mv m h2⟩
theorem bP.mv{S:Addr->Prop}{H H':Hp}(m:Mv H H'):∀{d:PyData×PyData} {v:Key×V},bP S H d v->bP S H' d v
 |(k,d),_,h=>by unfold bP at h⊢;exact⟨h.1,ai.mv m h.2⟩
end
theorem Mv.bR{H:Hp}{a:Addr}{o:Obj}{ps:List (Key×V)}(h:H a=some (.dK ps)):Mv H (upd H a (.bR o (.dK ps))) where
 lst:=fun b xs q=>by rw[aB (fun e=>by subst e;rw[h] at q;cases q)];exact q
 tup:=fun b xs q=>by rw[aB (fun e=>by subst e;rw[h] at q;cases q)];exact q
 bW:=fun b qs q=>by
  by_cases e:b=a
  ·subst e
   rcases q with q|⟨u,q⟩
   ·rw[h] at q;cases q;exact .inr ⟨o,aY⟩
   ·rw[h] at q;cases q
  ·rcases q with q|⟨u,q⟩
   ·exact .inl (by rw[aB e];exact q)
   ·exact .inr ⟨u,by rw[aB e];exact q⟩
theorem Mv.m9{H:Hp}{a:Addr}{o:Obj}{ps:List (Key×V)}(h:H a=some (.bR o (.dK ps))):Mv H (upd H a (.dK ps)) where
 lst:=fun b xs q=>by rw[aB (fun e=>by subst e;rw[h] at q;cases q)];exact q
 tup:=fun b xs q=>by rw[aB (fun e=>by subst e;rw[h] at q;cases q)];exact q
 bW:=fun b qs q=>by
  by_cases e:b=a
  ·subst e
   rcases q with q|⟨u,q⟩
   ·rw[h] at q;cases q
   ·rw[h] at q;cases q;exact .inl aY
  ·rcases q with q|⟨u,q⟩
   ·exact .inl (by rw[aB e];exact q)
   ·exact .inr ⟨u,by rw[aB e];exact q⟩
def jP(a:Addr)(u:HO)(H:Hp):Hp:=fun b=>if b=a/\H a≠none then some u else H b
theorem pN{a b:Addr}{u:HO}{H:Hp}:jP a u H b=none↔H b=none:=by
 unfold jP
 by_cases c:b=a/\H a≠none
 ·rw[if_pos c]
  constructor
  ·intro z;cases z
  ·intro z;rw[c.1] at z;exact absurd z c.2
 ·rw[if_neg c]
theorem uu{a b:Addr}{u:HO}{H:Hp}(h:b≠a):jP a u H b=H b:=by
 unfold jP;rw[if_neg (fun z=>h z.1)]
abbrev Gx.fz(G:Gx)(a:Addr)(o:Obj)(ps:List (Key×V)):Gx:={G with H0:=jP a (.bR o (.dK ps)) G.H0,hold:=(false, .fz o ps, .ref a)::G.hold}
section
variable{G:Gx}{ρ bM:Rh}{Φ Ψ:Pd}{ta tb te:TE}{t:TA}{i:Nat}{f g:Bool}{d e:PyData}{ds es:List PyData}{K:PySem.W.Frag}{nb:Addr->Prop}{σ:St}{H:Hp}{a:Addr}{o:Obj}{ps:List (Key×V)}
theorem Gx.v7{b:Addr}:(G.fz a o ps).S nb f b↔G.S nb f b:=by
 unfold Gx.S
 constructor
 ·rintro(z|z|z|⟨z,q⟩)
  ·exact .inl z
  ·exact .inr (.inl z)
  ·exact .inr (.inr (.inl z))
  ·exact .inr (.inr (.inr ⟨z,fun w=>q (pN.mpr w)⟩))
 ·rintro(z|z|z|⟨z,q⟩)
  ·exact .inl z
  ·exact .inr (.inl z)
  ·exact .inr (.inr (.inl z))
  ·exact .inr (.inr (.inr ⟨z,fun w=>q (pN.mp w)⟩))
theorem dz.mv{H H':Hp}{b l:Addr}(h:dz H b l)(k:∀c xs,H c=some (.lst xs)->H' c=some (.lst xs)):dz H' b l:=by
 obtain⟨ns,x1,x2,x3,x4,h1,h2,h3⟩:=h
 exact⟨ns,x1,x2,x3,x4,k _ _ h1,k _ _ h2,h3⟩
theorem Wd.freeze(W:Wd G nb ρ σ H)(h:H a=some (.dK ps))(hS:¬G.S nb false a)(hT:∀f c v,(f,HD.th c,v)∈G.hold->a∉c.F):Wd (G.fz a o ps) nb ρ σ (upd H a (.bR o (.dK ps))):=by
  have mv:=Mv.bR (o:=o) h
  have hN:NB G.B a:=gU fun z=>hS (.inr (.inr (.inl z)))
  have hnb:¬nb a:=fun z=>hS (.inl z)
  have hG:∀u,G.H0 a=some u->u= .dK ps:=fun u e=>by have:=W.old a u hN e;rw[h] at this;exact(fN this).symm
  have toS:∀f b,(G.fz a o ps).S nb f b->G.S nb f b:=fun f b z=>Gx.v7.mp z
  refine⟨fun b l e=>(W.ay b l e).mv mv.lst,fun b n=>?_,fun b u n e=>?_,fun b n q=>pN.mpr (W.dJ b n q),fun b n e=>W.gA b n (pN.mp e),W.len,fun b l e=>(W.gB b l e).mv fun c xs q=>?_,fun x m=>?_,fun i s e=>?_,W.apart,W.fG,W.dP⟩
  · by_cases hb:b=a
    · subst hb;exact absurd n hnb
    · rw[aB hb];exact W.live b n
  · by_cases hb:b=a
    · subst hb
      rw[aY]
      change jP b _ G.H0 b=some u at e
      unfold jP at e
      by_cases c:b=b/\G.H0 b≠none
      · rw[if_pos c] at e;exact e
      · rw[if_neg c] at e;exact absurd ⟨rfl,by rw[e];exact jA _⟩ c
    · rw[aB hb]
      change jP a _ G.H0 b=some u at e
      rw[uu hb] at e
      exact W.old b u n e
  · have hc:c≠a:=fun z=>by subst z;have:=hG _ q;cases this
    show jP a _ G.H0 c=_
    rw[uu hc];exact q
  · rcases bq.mp m with e|m
    · subst e
      exact⟨a,rfl,fun z=>hS (toS _ _ z),aY⟩
    · have w:=W.eU x m
      obtain⟨f,x,v⟩:=x
      cases x with
      |d x=>exact(ai.mv mv w).av (toS f)
      | fz u qs =>
        obtain⟨c,e1,e2,e3⟩:=w
        by_cases hc:c=a
        · subst hc
          rw[h] at e3;cases e3
        · exact⟨c,e1,fun z=>e2 (toS _ _ z),by rw[aB hc];exact e3⟩
      | th c =>
        have hc:=hT f c v m
        obtain⟨e,n,q⟩:=w
        exact⟨e,fun b hb=>⟨fun z=>(n b hb).1 (toS _ _ z),by rw[aB (fun z=>by subst z;exact hc hb)];exact(n b hb).2⟩,c.av (toS f) (c.keep ⟨fun b hb o e=>by rw[aB (fun z=>by subst z;exact hc hb)];exact e,fun b xs _=>mv.lst b xs,fun b xs _=>mv.tup b xs,fun b qs _=>mv.bW b qs⟩ q)⟩
  · obtain⟨x,e1,w⟩:=W.ok i s e
    refine⟨x,e1,?_⟩
    cases s with
    |no=>trivial
    |d f d=>obtain⟨v,e,w⟩:=w;exact⟨v,e,(ai.mv mv w).av (toS f)⟩
    |own c f es=>obtain⟨e,n,q,xs,hx,hd⟩:=w;exact⟨e,n,q,xs,mv.lst _ _ hx,(af.mv mv hd).av (toS f)⟩
    |ay=>exact w
    |raw v=>exact w
    | bW c f es =>
      obtain⟨e,n,q,xs,hx,hd⟩:=w
      exact⟨e,n,q,xs,by rw[aB (fun z=>by subst z;exact hnb n)];exact hx,(au.mv mv hd).av (toS f)⟩
    | cu c =>
      obtain⟨e,n,q⟩:=w
      exact⟨e,n,c.av (toS c.f) (c.keep ⟨fun b hb o e=>by rw[aB (fun z=>by subst z;exact hnb (n _ hb).1)];exact e,fun b xs _=>mv.lst b xs,fun b xs _=>mv.tup b xs,fun b qs _=>mv.bW b qs⟩ q)⟩
theorem Wd.m9(W:Wd (G.fz a o ps) nb ρ σ H)(hG:∀u,G.H0 a=some u->u= .dK ps)(hF:∀f o' qs v,(f,HD.fz o' qs,v)∈G.hold->v≠ .ref a)(hT:∀f c v,(f,HD.th c,v)∈G.hold->a∉c.F):Wd G nb ρ σ (upd H a (.dK ps))/\H a=some (.bR o (.dK ps)):=by
  obtain⟨a',ea,hS',h⟩:=(show gJ ((G.fz a o ps).S nb false) H (.fz o ps) (.ref a) from W.eU _ (dj ..))
  cases ea
  have mv:=Mv.m9 h
  have toS:∀f b,G.S nb f b->(G.fz a o ps).S nb f b:=fun f b z=>Gx.v7.mpr z
  have hS:¬G.S nb false a:=fun z=>hS' (toS _ _ z)
  have hN:NB G.B a:=gU fun z=>hS (.inr (.inr (.inl z)))
  have hnb:¬nb a:=fun z=>hS (.inl z)
  refine⟨⟨fun b l e=>(W.ay b l e).mv mv.lst,fun b n=>?_,fun b u n e=>?_,fun b n q=>pN.mp (W.dJ b n q),fun b n e=>W.gA b n (pN.mpr e),W.len,fun b l e=>(W.gB b l e).mv fun c xs q=>?_,fun x m=>?_,fun i s e=>?_,W.apart,W.fG,W.dP⟩,h⟩
  · by_cases hb:b=a
    · subst hb;exact absurd n hnb
    · rw[aB hb];exact W.live b n
  · by_cases hb:b=a
    · subst hb
      rw[aY,hG u e]
    · rw[aB hb]
      exact W.old b u n (by show jP a _ G.H0 b=_;rw[uu hb];exact e)
  · change jP a _ G.H0 c=_ at q
    by_cases hc:c=a
    · subst hc
      unfold jP at q
      by_cases z:c=c/\G.H0 c≠none
      · rw[if_pos z] at q;cases q
      · rw[if_neg z] at q;exact q
    · rw[uu hc] at q;exact q
  · have w:=W.eU x (bY _ m)
    obtain⟨f,x,v⟩:=x
    cases x with
    |d x=>exact(ai.mv mv w).av (toS f)
    | fz u qs =>
      obtain⟨c,e1,e2,e3⟩:=w
      subst e1
      have hc:c≠a:=fun z=>hF f u qs _ m (by rw[z])
      exact⟨c,rfl,fun z=>e2 (toS _ _ z),by rw[aB hc];exact e3⟩
    | th c =>
      have hc:=hT f c v m
      obtain⟨e,n,q⟩:=w
      exact⟨e,fun b hb=>⟨fun z=>(n b hb).1 (toS _ _ z),by rw[aB (fun z=>by subst z;exact hc hb)];exact(n b hb).2⟩,c.av (toS f) (c.keep ⟨fun b hb o e=>by rw[aB (fun z=>by subst z;exact hc hb)];exact e,fun b xs _=>mv.lst b xs,fun b xs _=>mv.tup b xs,fun b qs _=>mv.bW b qs⟩ q)⟩
  · obtain⟨x,e1,w⟩:=W.ok i s e
    refine⟨x,e1,?_⟩
    cases s with
    |no=>trivial
    |d f d=>obtain⟨v,e,w⟩:=w;exact⟨v,e,(ai.mv mv w).av (toS f)⟩
    |own c f es=>obtain⟨e,n,q,xs,hx,hd⟩:=w;exact⟨e,n,q,xs,mv.lst _ _ hx,(af.mv mv hd).av (toS f)⟩
    |ay=>exact w
    |raw v=>exact w
    | bW c f es =>
      obtain⟨e,n,q,xs,hx,hd⟩:=w
      exact⟨e,n,q,xs,by rw[aB (fun z=>by subst z;exact hnb n)];exact hx,(au.mv mv hd).av (toS f)⟩
    | cu c =>
      obtain⟨e,n,q⟩:=w
      exact⟨e,n,c.av (toS c.f) (c.keep ⟨fun b hb o e=>by rw[aB (fun z=>by subst z;exact hnb (n _ hb).1)];exact e,fun b xs _=>mv.lst b xs,fun b xs _=>mv.tup b xs,fun b qs _=>mv.bW b qs⟩ q)⟩
abbrev Gx.hz(G:Gx)(a:Addr)(o:Obj)(ps:List (Key×V)):Gx:={G with hold:=(false, .fz o ps, .ref a)::G.hold}
theorem Wd.hz(W:Wd G nb ρ σ H)(hS:¬G.S nb false a)(h:H a=some (.bR o (.dK ps))):Wd (G.hz a o ps) nb ρ σ H:=
 ⟨W.ay,W.live,W.old,W.dJ,W.gA,W.len,W.gB,fun x m=>by
  rcases bq.mp m with e|m
  ·subst e;exact⟨a,rfl,hS,h⟩
  ·exact W.eU x m,fun i s e=>by
   obtain⟨x,e1,h⟩:=W.ok i s e
   refine⟨x,e1,?_⟩
   cases s<;>exact h,W.apart,W.fG,W.dP⟩
theorem Wd.FO(W:Wd (G.hz a o ps) nb ρ σ H):Wd G nb ρ σ H/\H a=some (.bR o (.dK ps)):=by
 refine⟨⟨W.ay,W.live,W.old,W.dJ,W.gA,W.len,W.gB,fun x m=>W.eU x (bY _ m),fun i s e=>by
   obtain⟨x,e1,h⟩:=W.ok i s e
   refine⟨x,e1,?_⟩
   cases s<;>exact h,W.apart,W.fG,W.dP⟩,?_⟩
 obtain⟨a',ea,_,h⟩:=(show gJ ((G.hz a o ps).S nb false) H (.fz o ps) (.ref a) from W.eU _ (dj ..))
 cases ea
 exact h
end
end L2
set_option maxRecDepth 100000
set_option maxHeartbeats 4000000
namespace L2
open PySem PySem.Spec PyProof.Rows
theorem Sv.lift{G:Gx}{ρ:Rh}{s:TS}{E:DE}{f:Bool}{ds:List PyData}{a:Addr}(i:Nat)(e:ρ[i]?=some (.own a f ds))(hs:cV ds=true)(h:Sv G (ρ.set i (.own a true ds)) s E):Sv G ρ s E:=fun nb σ H D W K=>by
 obtain⟨x,e1,h1,h2,h3,xs,hx,hd⟩:=W.ok i _ e
 have W':=Sv.oF (g:=true) W e (af.ia (bB:=G.S nb true) (H':=H) hs hd)
 have:upd H a (.lst xs)=H:=by
  funext b
  by_cases c:b=a
  ·subst c;rw[aY,hx]
  ·rw[aB c]
 rw[this] at W'
 exact h nb σ H D W' K
end L2
set_option maxRecDepth 100000
set_option maxHeartbeats 4000000
namespace L2
open PySem PySem.Spec PyProof.Rows
theorem C1(g h:Nat->Int):∀(l:List Nat) (f:Nat->Int),aj f (l.map fun j=>g j+h j)=aj f (l.map g)+aj f (l.map h)
  |[],_=>rfl
  | j :: l, f => by
    show f 0*(g j+h j)+aj _ _=(f 0*g j+aj _ _)+(f 0*h j+aj _ _)
    rw[C1 g h l]
    grind
theorem KN(g:Nat->Int)(x:Int):∀(l:List Nat) (f:Nat->Int),aj f (l.map fun j=>g j*x)=aj f (l.map g)*x
  |[],_=>by simp[aj]
  | j :: l, f => by
    show f 0*(g j*x)+aj _ _=(f 0*g j+aj _ _)*x
    rw[KN g x l]
    grind
theorem jU{n i:Nat}(g:Nat->Int)(h:i<n):gI ((List.range n).map g) i=g i:=by
 unfold gI
 rw[bf,bu,vg h]
 rfl
theorem pT{n:Nat}(f:Nat->Int):∀prs:az,(∀pr∈prs,pr.1.toNat<n)->aj f ((List.range n).map (co prs))=(prs.map fun pr=>f pr.1.toNat*pr.2).sum
  | [], _ => by
    rw[jq _ _ fun i hi=>by rw[ak,fk] at hi;rw[jU _ hi];show f i*0=0;rw[dI]]
    rfl
  | pr :: prs, h => by
    have e:(co (pr::prs))=fun j=>(if pr.1.toNat=j then pr.2 else 0)+co prs j:=by funext j;rfl
    rw[e,C1,pT f prs fun q hq=>h q (bY _ hq),bC,rW]
    have hp:=h pr (dj ..)
    congr 1
    rw[lQ f _ pr.1.toNat (by rw[ak,fk];exact hp) fun i hi hne=>?_,jU _ hp,if_pos rfl]
    rw[ak,fk] at hi
    rw[jU _ hi,if_neg (fun z=>hne z.symm),dI]
theorem EB{p n:Int}{v:List Int}(hv:v.length=n.toNat):∀(cs:List az) (aE:List Int),(∀prs∈cs,∀pr∈prs,0<=pr.1/\pr.1<n)->(∀prs∈cs,p∣aV prs (v.map some))->p∣aj (gI v) ((List.range n.toNat).map (bS cs aE))
  | [], aE, _, _ => by
    refine⟨0,?_⟩
    rw[dI]
    refine jq _ _ fun i hi=>?_
    rw[ak,fk] at hi
    rw[jU _ hi]
    show gI v i*0=0
    rw[dI]
  | prs :: cs, [], _, _ => by
    refine⟨0,?_⟩
    rw[dI]
    refine jq _ _ fun i hi=>?_
    rw[ak,fk] at hi
    rw[jU _ hi]
    show gI v i*0=0
    rw[dI]
  | prs :: cs, x :: aE, h1, h2 => by
    have e:bS (prs::cs) (x::aE)=fun j=>co prs j*x+bS cs aE j:=by funext j;rfl
    have hr:=h1 prs (dj ..)
    rw[e,C1,KN,pT _ _ fun pr aC=>by have:=hr pr aC;omega,<-iw hv prs hr]
    obtain⟨a,ha⟩:=h2 prs (dj ..)
    obtain⟨b,hb⟩:=EB hv cs aE (fun q hq=>h1 q (bY _ hq)) fun q hq=>h2 q (bY _ hq)
    exact⟨a*x+b,by rw[ha,hb];grind⟩
theorem zk{p:Int}:∀(f:Nat->Int) (r s:List Int),r.length=s.length->(∀i<r.length,p∣f i*(gI r i-gI s i))->p∣aj f r-aj f s
  |_,[],[],_,_=>⟨0,by simp[aj]⟩
  | f, x :: r, y :: s, hl, h => by
    obtain⟨a,ha⟩:=zk (fun i=>f (i+1)) r s (by simpa using hl) fun i hi=>h (i+1) (by simpa using hi)
    obtain⟨b,hb⟩:=h 0 (by simp)
    have hb:f 0*(x-y)=p*b:=hb
    refine⟨b+a,?_⟩
    show(f 0*x+aj _ r)-(f 0*y+aj _ s)=_
    grind
theorem U5(f g:Nat->Int)(r:List Int):aj f r=aj g r+aj (fun i=>f i-g i) r:=by
 rw[<-nS]
 congr 1
 funext i
 omega
theorem lP.row{p n:Int}{cs:List az}{wd:Wo}{w:List Int}(hN:cP p n cs)(h:lP p n cs wd w)(aE:List Int):p∣aj (gI w) ((List.range n.toNat).map (bS cs aE)):=
 EB h.len cs aE (fun prs cW pr aC=>⟨((hN.ok prs cW).2.2 pr aC).1,((hN.ok prs cW).2.2 pr aC).2.1⟩) h.JJ
theorem lP.kn{p n:Int}{cs:List az}{wd:Wo}{w:List Int}(h:lP p n cs wd w){i:Nat}(hi:i<wd.length):gI w i-cJ wd i=if wd[i]?=some none then gI w i else 0:=by
  unfold cJ
  rw[aF hi]
  cases e:wd[i] with
  |none=>simp
  | some x =>
    have:=h.known i x (by rw[aF hi,e])
    rw[if_neg (by simp)]
    dsimp only
    omega
theorem Nl{p n:Int}{cs:List az}{wd:Wo}{w aE:List Int}(hN:cP p n cs)(hwl:wd.length=n.toNat)(h:t7 p n cs wd aE)(hw:lP p n cs wd w):False:=by
 have p2:=hN.hp.1
 obtain⟨g1,g2⟩:=h.Iq ((List.range n.toNat).map (bS cs aE)) (by rw[ak,fk]) fun i hi=>⟨0,by rw[jU _ hi];omega⟩
 have h1:=hw.row hN aE
 have h2:=zk (p:=p) (fun i=>gI w i-cJ wd i) ((List.range n.toNat).map (bS cs aE)) (List.replicate n.toNat 0) (by rw[ak,fk,fy]) fun i hi=>by
  rw[ak,fk] at hi
  rw[hw.kn (by omega)]
  have z:gI (List.replicate n.toNat 0) i=0:=by unfold gI;rw[bf,fj];split<;>rfl
  rw[z,nC]
  split
  ·rename_i e
   exact ou (g1 i e)
  ·rw[fF];exact⟨0,by omega⟩
 rw[tY,nC] at h2
 rw[U5 (gI w) (cJ wd)] at h1
 obtain⟨a,ha⟩:=h1
 obtain⟨b,hb⟩:=h2
 obtain⟨c,hc⟩:=g2
 have:p*(a-b-c)=1:=by rw[kU,kU];omega
 have hd:p∣1:=⟨_,this.symm⟩
 have:=mO (by decide) hd
 omega
theorem GW:∀(f:Nat->Int) (xs:List Int) (x:Int),aj f (xs++[x])=aj f xs+f xs.length*x
  |f,[],x=>by simp[aj]
  | f, y :: ys, x => by
    show f 0*y+aj _ (ys++[x])=_
    rw[GW]
    show _=f 0*y+aj _ ys+_
    rw[fB]
    omega
theorem EM{n:Int}{v r:List Int}(hv:v.length=n.toNat)(hr:r.length=n.toNat):aV (gY r n.toNat) (v.map some)=aj (gI v) r:=by
  rw[iw (n:=n) hv _ fun pr aC=>by
    unfold gY at aC
    obtain⟨k,hk,rfl⟩:=aN.mp aC
    have:=dS.mp (iP.mp hk).1
    dsimp only
    omega]
  have key:∀i,i<=n.toNat->((gY r i).map fun pr=>gI v pr.1.toNat*pr.2).sum=aj (gI v) (r.take i):=by
    intro i
    induction i with
    |zero=>intro _;rfl
    | succ i ih =>
      intro hi
      have e:r[i]?=some r[i]:=aF (by omega)
      have g:gI r i=r[i]:=by unfold gI;rw[bf,e];rfl
      rw[BF,cE,qQ,ih (by omega),take_snoc e,GW,cZ,pM (by omega),g]
      by_cases c:r[i]=0
      · rw[if_neg (by simpa using c),c]
        simp
      · rw[if_pos c]
        simp
  rw[key _ (bh _),<-hr,eE]
theorem R4{p l:Int}{v r:List Int}{pr:Int×Int}{S:Int}(hp:0<p)(hi:pr.1.toNat<r.length)(h:p∣aj (gI v) r-l*S):p∣aj (gI v) (r.set pr.1.toNat ((gI r pr.1.toNat+l*pr.2)%p))-l*(S+gI v pr.1.toNat*pr.2):=by
 rw[wL _ _ _ _ hi,iC]
 obtain⟨a,ha⟩:=h
 refine⟨a-gI v pr.1.toNat*((gI r pr.1.toNat+l*pr.2)/p),?_⟩
 grind
end L2
set_option maxRecDepth 100000
set_option maxHeartbeats 4000000
namespace L2
open PySem PySem.Spec PyProof.Rows
theorem oE{P:(Addr->Prop)->Prop}{H:Hp}(hP:∀{S S':Addr->Prop},(∀a,S' a->S a)->P S->P S')(hf:∀{S:Addr->Prop} {p:Addr},H p=none->P S->P fun a=>S a\/a=p):∀{L:List Addr} {S:Addr->Prop},(∀a∈L,H a=none)->P S->P fun a=>S a\/a∈L
 |[],S,_,h=>hP (fun a z=>z.elim (fun z=>z) fun z=>by cases z) h
 | p :: L, S, hL, h => hP (fun a z => by
   rcases z with z|z
   ·exact .inl (.inl z)
   ·rcases bq.mp z with z|z
    ·exact .inr z
    ·exact .inl (.inr z)) (hf (hL p (dj ..)) (oE hP hf (L:=L) (fun a m=>hL a (bY _ m)) h))
section
variable{G:Gx}{ρ:Rh}{nb:Addr->Prop}{σ:St}{H H1:Hp}{i:Nat}{L:List Addr}{c c':Cu}{f:Bool}{d:PyData}{p:Addr}{o:HO}{E:DE}
theorem Wd.Uq(W:Wd G nb ρ σ H)(s1:Step G.B H H1)(ha:∀a∈L,H a=none)(e:∀a∈L,H1 a≠none):Wd G (fun x=>nb x\/x∈L) ρ σ H1/\(∀a∈L,NB G.B a)/\∀f x,G.S (fun x=>nb x\/x∈L) f x->(G.S nb f x\/x∈L):=by
  have hN:∀a∈L,NB G.B a:=fun a m=>NB.new W.ay (ha a m)
  have hA:∀f x,G.S (fun x=>nb x\/x∈L) f x->(G.S nb f x\/x∈L):=fun f x z=>by
    rcases z with (z|z)|z|z|z
    · exact .inl (.inl z)
    · exact .inr z
    · exact .inl (.inr (.inl z))
    · exact .inl (.inr (.inr (.inl z)))
    · exact .inl (.inr (.inr (.inr z)))
  have W1:=W.step s1
  have fD:∀{S:Addr->Prop} {d:PyData} {v:V},ai S H d v->ai (fun a=>S a\/a∈L) H d v:=fun{S d v} h=>oE (P:=fun S=>ai S H d v) (fun z h=>ai.av z h) (fun hp h=>ai.fresh hp h) ha h
  have Vw:∀{S:Addr->Prop} {d:List PyData} {v:List V},af S H d v->af (fun a=>S a\/a∈L) H d v:=fun{S d v} h=>oE (P:=fun S=>af S H d v) (fun z h=>af.av z h) (fun hp h=>af.fresh hp h) ha h
  have Sy:∀{S:Addr->Prop} {d:List (PyData×PyData)} {v:List (Key×V)},au S H d v->au (fun a=>S a\/a∈L) H d v:=fun{S d v} h=>oE (P:=fun S=>au S H d v) (fun z h=>au.av z h) (fun hp h=>au.fresh hp h) ha h
  have fH:∀{S:Addr->Prop} {d:HD} {v:V},gJ S H d v->gJ (fun a=>S a\/a∈L) H d v:=fun{S d v} h=>oE (P:=fun S=>gJ S H d v) (fun z h=>gJ.av h z) (fun hp h=>gJ.fresh h hp) ha h
  refine⟨?_,hN,hA⟩
  refine⟨W1.ay,fun x n=>?_,W1.old,fun x n q=>?_,W.gA,W.len,W.gB,fun h m=>((fH (W.eU h m)).keep (s1.but fun x z=> .inl (.inr (.inr (.inl z))))).av (hA h.1),fun j s e'=>?_,W.apart,W.fG,W.dP⟩
  · rcases n with n|n
    · exact W1.live x n
    · exact e x n
  · rcases n with n|n
    · exact W.dJ x n q
    · cases z:G.H0 x with
      |none=>rfl
      |some o=>have:=ha x n;rw[W.old x o q z] at this;cases this
  · obtain⟨x,e1,h⟩:=W.ok j s e'
    refine⟨x,e1,?_⟩
    cases s with
    |no=>trivial
    |d f d=>obtain⟨v,e,h⟩:=h;exact⟨v,e,((fD h).keep (s1.but fun x z=> .inl (.inr (.inr (.inl z))))).av (hA f)⟩
    |own c f es=>obtain⟨e,n,q,xs,hx,hd⟩:=h;exact⟨e, .inl n,q,xs,s1.1 _ _ q hx,((Vw hd).keep (s1.but fun x z=> .inl (.inr (.inr (.inl z))))).av (hA f)⟩
    |ay=>exact h
    |raw v=>exact h
    |bW c f es=>obtain⟨e,n,q,xs,hx,hd⟩:=h;exact⟨e, .inl n,q,xs,s1.1 _ _ q hx,((Sy hd).keep (s1.but fun x z=> .inl (.inr (.inr (.inl z))))).av (hA f)⟩
    | cu c =>
      obtain⟨e,n,q⟩:=h
      refine⟨e,fun a ha=>⟨.inl (n a ha).1,(n a ha).2⟩,c.av (hA c.f) (c.keep (.of fun x o hx e=>s1.1 x o ?_ e) (oE (P:=fun S=>c.P S H) (fun z h=>c.av z h) (fun hp h=>c.fresh hp h) ha q))⟩
      rcases hx with hx|hx
      · exact gU fun z=>hx (.inl (.inr (.inr (.inl z))))
      · exact(n x hx).2
theorem o7.MQ{x:Option V}{s:Sl}(h:o7 G nb H x s):∀a∈s.adr,nb a/\NB G.B a:=by
 cases s with
 |own a f ds=>intro x hx;rw[bF.mp hx];exact⟨h.2.1,h.2.2.1⟩
 |bW a f ds=>intro x hx;rw[bF.mp hx];exact⟨h.2.1,h.2.2.1⟩
 |cu c=>exact h.2.1
 |no=>intro _ z;cases z
 |d _ _=>intro _ z;cases z
 |ay=>intro _ z;cases z
 |raw _=>intro _ z;cases z
theorem Wd.Mn(W:Wd G nb ρ σ H)(s1:Step G.B H H1)(ha:∀a∈c.F,H a=none)(e:∀a∈c.F,H1 a≠none)(hP:c.P (fun x=>G.S nb c.f x\/x∈c.F) H1):Wd G (fun x=>nb x\/x∈c.F) (ρ.set i (.cu c)) (σ.set i (some c.v)) H1:=by
 obtain⟨W2,hN,hA⟩:=W.Uq s1 ha e
 refine W2.set ⟨rfl,fun a m=>⟨.inr m,hN a m⟩,c.av (hA c.f) hP⟩ (fun _ _ _ z=>by cases z) (fun _ _ _ z=>by cases z) (fun x hx j t hj ht hc z=>?_)
 obtain⟨y,e1,h⟩:=W.ok j _ ht
 exact W.live x (h.MQ x z).1 (ha x hx)
theorem Wd.VU(W:Wd G nb ρ σ H)(e:ρ[i]?=some (.cu c))(hp:p∈c.F)(hv:c'.v=c.v)(hF:∀a∈c'.F,a∈c.F)(h:c'.P (G.S nb c'.f) (upd H p o)):Wd G nb (ρ.set i (.cu c')) σ (upd H p o):=by
 obtain⟨x,e1,h1,h2,h3⟩:=W.ok i _ e
 subst h1
 have hil:i<ρ.length:=(aP.mp e).1
 have W0:Wd G nb (ρ.set i .no) (σ.set i (some c.v)) H:=W.set trivial fun _ _ _ z=>by cases z
 have other:∀(j:Nat) s,(ρ.set i .no)[j]?=some s->s≠ .no->p∉s.adr:=fun j s hs hn=>by
  have hij:i≠j:=fun z=>by subst z;rw[dO hil] at hs;cases hs;exact hn rfl
  rw[bQ hij] at hs
  exact W.dP i j c s hij e hs p hp
 have W1:Wd G nb (ρ.set i .no) (σ.set i (some c.v)) (upd H p o):=W0.write (h2 p hp).1 (h2 p hp).2 (fun j a f ds hs z=>other j _ hs (by intro z;cases z) (bF.mpr z.symm)) (fun j a f ds hs z=>other j _ hs (by intro z;cases z) (bF.mpr z.symm)) (fun j c hs=>other j _ hs (by intro z;cases z))
 have W2:=W1.set (i:=i) (s:= .cu c') (x:=some c.v) ⟨by rw[hv],fun a m=>h2 a (hF a m),h⟩ (fun _ _ _ z=>by cases z) (fun _ _ _ z=>by cases z) (fun x hx j t hj ht hc=>by
  rw[bQ (bx hj)] at ht
  exact W.dP i j c t (bx hj) e ht x (hF x hx))
 rw[kX,kX] at W2
 have:σ.set i (some c.v)=σ:=by
  apply kI
  intro j
  by_cases hij:i=j
  ·subst hij;rw[dO (by rw[W.len];exact hil),e1]
  ·rw[bQ hij]
 rwa[this] at W2
end
end L2
set_option maxRecDepth 100000
set_option maxHeartbeats 4000000
namespace L2
open PySem PySem.Spec PyProof.Rows
abbrev Lw:=Int×Addr×List PyData
section
variable{G:Gx}{ρ:Rh}{ta tb te tk:TE}{E:DE}{i:Nat}{f:Bool}{K:PySem.W.Frag}{Φ:Pd}{a:Addr}{rows:List Lw}
theorem aD.Vp{Θ:Bool->List PyData->Prop}(h:Ev G ρ te fun _ x=>∃ks:Ks,x= .dict (ks.map bJ)/\ks.length<64/\∀rs:List Int,rs.Pairwise (· <= ·)->rs.Perm (ks.map (·.1))->Θ true (rs.map .int)):aD G ρ (gC AD (cA te cL)) Θ:=fun nb σ H Q W z=>
 h nb σ H _ W fun f v H1 x ⟨ks,ex,hl,q⟩ s1 hv=>by
  subst ex
  unfold ai at hv
  obtain⟨a,ps,rfl,n,hp,hd⟩:=hv
  refine⟨a,ps,ks.map (·.1),rfl,hp,au.keys hd,by rw[ak];exact hl,fun l rs hl' hw j8=>?_⟩
  exact aD.fin (f:=true) W s1 hl' (DR rs) (q rs hw j8) z
end
end L2
set_option maxRecDepth 100000
set_option maxHeartbeats 4000000
set_option maxRecDepth 100000
set_option maxHeartbeats 4000000
namespace L2
open PySem PySem.Spec PyProof.Rows
def kN(p d:Addr):HO:= .ext fun h=>h.IsItemsView p d
def GX:V->List V->Hp->VK->Prop:=fun x vs H Q=>∃a kvs,x= .ref a/\vs=[]/\Rd H a (.dK kvs)/\∀p,H p=none->Q (.ref p) (upd H p (kN p a))
section
variable{X:Cx}
theorem UX:rj X "dict.items" GX:=by
 intro pins s σ H x vs v us Q I rx rv h
 obtain⟨a,kvs,rfl,rfl,hH,q⟩:=h
 cases rx
 have nO:=rv.zero
 subst nO
 obtain⟨z,hd,ps,rel,dd⟩:=oZ I.hok hH
 refine call_meetsIn Ky dd.typeIs PySem.F.entry_dict_items (PySem.F.args_dict_items_1 _) (meets_dict_items (dX X.prog X.w) a hd) ⟨⟨ps,dd⟩,?_⟩
 have new:cD X.prog X.w (upd H s.heap.objs.size (kN s.heap.objs.size a)) (s.heap.push {cls:= .type "dict_items",data:= .fields #[.ref a]}) s.heap.objs.size (kN s.heap.objs.size a):=by
  refine⟨⟨_,gH _ rfl,rfl,rfl⟩,⟨_,gH _ rfl⟩,fun h1 h2 z k=>?_⟩
  obtain⟨o,ho,r⟩:=z
  exact⟨o,k o ho,r⟩
 exact⟨.ref s.heap.objs.size,_,I.laid (t':=s.toks) (fun b o e=>dw _ e) (bh _) new,rfl,q _ (I.hok.fresh (bh _))⟩
end
@[reducible] def Yr(t:Int×Int×Int):PyData:= .tuple [.int t.1, .int t.2.1, .int t.2.2]
end L2
set_option maxRecDepth 100000
set_option maxHeartbeats 4000000
namespace L2
open PySem PySem.Spec PyProof.Rows
def brk(p:Int)(cs:List az)(ws:List Int):Nat:=cs.countP fun prs=>decide (aV prs (ws.map some)%p≠0)
end L2
set_option maxRecDepth 100000
set_option maxHeartbeats 4000000
set_option maxRecDepth 100000
set_option maxHeartbeats 4000000
set_option maxRecDepth 100000
set_option maxHeartbeats 4000000
namespace L2
open PySem PySem.Spec PyProof.Rows
structure mT(P:Program)(w:World)(K:PySem.W.Frag)(mg:Str->Option Value)(base:Heap)(C:Addr)(m:Str)(k:Nat)(ps:List Str)(sp:Sp):Prop where
 cl:gF K C
 ex:∃f fd,bE P w K mg base bL k f fd ps sp/\Binds K fd ps []/\Meth K C m f
structure Bo(P:Program)(w:World)(K:PySem.W.Frag)(mg:Str->Option Value)(base:Heap)(C:Addr)(x:Str)(k:Nat)(ps:List Str)(sp:Sp):Prop where
 ex:∃f fd,bE P w K mg base bL k f fd ps sp/\Binds K fd ps []/\Mk K C f/\mg x=some (.ref C)
section
variable{X:Cx}{C:Addr}{k:Nat}{ps:List Str}{sp:Sp}{x m:Str}{p pos apos:Pos}{e o:Expr}{es:List Expr}{ta:TE}{t:TA}
theorem Gf{pl:Sem Bool}(c:mT X.prog X.w X.K X.mg X.base C m k ps sp)(he:PE X o ta)(hr:dR k X.A)(ha:PA X (e::es) t)
  (hst:starEach (e::es) X.env=(false,eval e X.env)::starEach es X.env:=by rfl) (hpl:(backTo pos (starEach es X.env)).any (·.1)=false:=by rfl)
  (ht : eval (.Call (.Attribute o m apos) (e :: es) [] pos) X.env = (do
   let ov<-eval o X.env
   standAt apos.atName
   let (f,first)<-holding [ov] (getMethod ov m pl)
   callWith pos f first (backTo pos (starEach (e::es) X.env)) (backToKw pos (keywordEach [] X.env))):=by rfl):
  PE X (.Call (.Attribute o m apos) (e::es) [] pos) (sW C m sp [] E0 ta t):=by
 obtain⟨f,fd,F,b,mm⟩:=c.ex
 exact QJ (pl:=pl) he c.cl mm F hr b .nil uy ha hst hpl ht
theorem OC{pl:Sem Bool}(c:mT X.prog X.w X.K X.mg X.base C m k ps sp)(he:PE X o ta)(hr:dR k X.A)
  (ht : eval (.Call (.Attribute o m apos) [] [] pos) X.env = (do
   let ov<-eval o X.env
   standAt apos.atName
   let (f,first)<-holding [ov] (getMethod ov m pl)
   callWith pos f first (backTo pos (starEach [] X.env)) (backToKw pos (keywordEach [] X.env))):=by rfl):
  PE X (.Call (.Attribute o m apos) [] [] pos) (sW C m sp [] E0 ta cL):=by
 obtain⟨f,fd,F,b,mm⟩:=c.ex
 exact UQ (pl:=pl) he c.cl mm F hr b .nil uy ht
theorem VB(c:Bo X.prog X.w X.K X.mg X.base C x k ps sp)(hr:dR (k+1) X.A)(ha:PA X (e::es) t)(hg:Gl X x:=by rfl)
  (hdb:(x==("__debug__":Str))=false:=by decide) (he:starEach (e::es) X.env=(false,eval e X.env)::starEach es X.env:=by rfl) (hpl:(backTo pos (starEach es X.env)).any (·.1)=false:=by rfl):
  PE X (.Call (.Name x p) (e::es) [] pos) (uN C sp [] E0 t):=by
 obtain⟨f,fd,F,b,M,m⟩:=c.ex
 exact UN M F hr hg m b .nil uy ha hdb he hpl
end
structure DV(c c':Cu)(H H':Hp):Prop where
 v:c'.v=c.v
 f:c'.f=false
 sub:∀a∈c.F,a∈c'.F
 new:∀a∈c'.F,a∈c.F\/H a=none
 kp:∀a o,a∉c.F->H a=some o->H' a=some o
 lv:∀a∈c'.F,H' a≠none
abbrev CF:=Cu->List PyData->(Cu->Pd)->Prop
def Hj(F:CF):Prop:=∀c ds (Φ Ψ:Cu->Pd),F c ds Φ->(∀c f d,Φ c f d->Ψ c f d)->F c ds Ψ
def wC(n:Nat)(F:CF):Sp:=fun vs H Q _=>vs.length=n/\∃(nb:Addr->Prop) (c:Cu) (ws:List V) (ds:List PyData),vs=c.v::ws/\ir nb H/\(∀a∈c.F,nb a)/\c.f=false/\c.P nb H/\af nb H ds ws/\
 F c ds fun c' f d=>∀v H',DV c c' H H'->c'.P (fun a=>nb a\/a∈c'.F) H'->ai (fun a=>nb a\/a∈c'.F\/(f=true/\H a≠none)) H' d v->Q v H'
def oz(F:List Addr)(H:Hp)(nb:Addr->Prop):Gx:=⟨none,fun a=>if a∈F then none else H a,fun a=>nb a/\a∉F,[]⟩
structure CI(c c':Cu):Prop where
 v:c'.v=c.v
 f:c'.f=false
 sub:∀a∈c.F,a∈c'.F
def objE(G:Gx)(c:Cu)(Φ:Cu->Pd):DE where
 nx:=fun ρ=>∃c',ρ[0]?=some (.cu c')/\CI c c'/\Φ c' true .none
 rt:=fun _ _=>False
 rw:=fun nb ρ v H=>∃c' f d,ρ[0]?=some (.cu c')/\CI c c'/\Φ c' f d/\ai (G.S nb f) H d v
section
variable{ρ:Rh}{t:TS}{N:List Str}{ws:List V}{ds:List PyData}{nb:Addr->Prop}{H:Hp}{Q:VK}{Φ:Cu->Pd}{c:Cu}
theorem Sv.Ui(hl:ir nb H)(hF:∀a∈c.F,nb a)(hf:c.f=false)(hP:c.P nb H)(hd:af nb H ds ws)
    (aI:∀c' f d v H',Φ c' f d->DV c c' H H'->c'.P (fun a=>nb a\/a∈c'.F) H'->ai (fun a=>nb a\/a∈c'.F\/(f=true/\H a≠none)) H' d v->Q v H')
    (cM:ρ= .cu c::ds.map (Sl.d false)++List.replicate (N.length-(ds.length+1)) .no) (h:Sv (oz c.F H nb) ρ t (objE (oz c.F H nb) c Φ)):t {nx:=fun _ H'=>Q .aL H',rt:=Q} (start N (c.v::ws)) H:=by
  have hlen:=hd.length
  have lV:∀a,NB (oz c.F H nb).B a:=fun a b l e=>by cases e
  have key:∀{bB ρ' σ' H' c'} {f:Bool} {d:PyData} {v:V},Wd (oz c.F H nb) bB ρ' σ' H'->ρ'[0]?=some (.cu c')->CI c c'->Φ c' f d->ai ((oz c.F H nb).S bB f) H' d v->Q v H':=fun{bB ρ' σ' H' c' f d v} W e up p hv=>by
    obtain⟨x0,e1,h1,h2,h3⟩:=W.ok 0 _ e
    have IB:∀(f:Bool) a,nb a\/a∈c'.F\/(f=true/\H a≠none)->(oz c.F H nb).S bB f a:=fun f a z=>by
      by_cases m:a∈c'.F
      · exact .inl (h2 a m).1
      have m':a∉c.F:=fun z=>m (up.sub a z)
      rcases z with z|z|z
      · exact .inr (.inl ⟨z,m'⟩)
      · exact absurd z m
      · exact .inr (.inr (.inr ⟨z.1,by show(if a∈c.F then none else H a)≠none;rw[if_neg m'];exact z.2⟩))
    refine aI c' f d v H' p ⟨up.v,up.f,up.sub,fun a m=>?_,fun a o n q=>?_,fun a m=>W.live a (h2 a m).1⟩ (c'.av (fun a z=>by rw[up.f];exact IB false a (z.elim .inl fun z=> .inr (.inl z))) h3) (hv.av (IB f))
    · have:=W.dJ a (h2 a m).1 (h2 a m).2
      by_cases z:a∈c.F
      · exact .inl z
      · exact .inr (by have q:(if a∈c.F then none else H a)=none:=this;rwa[if_neg z] at q)
    · exact W.old a o (lV a) (by show(if a∈c.F then none else H a)=_;rw[if_neg n];exact q)
  refine h (fun a=>a∈c.F) _ H _ ⟨fun _ _ z=>(by cases z),fun a z=>hl a (hF a z),fun a o _ e=>?_,fun a z _=>by show(if a∈c.F then none else H a)=none;rw[if_pos z],fun a z=>?_,?_,fun _ _ z=>(by cases z),fun _ m=>(by cases m),fun i s e=>?_,?_,?_,?_⟩ ⟨fun bB ρ' σ' H' ⟨c',e,up,p⟩ W=>key W e up p .aL,fun _ _ _ _ q _=>q.elim,fun _ _ _ _ q _=>q.elim,fun _ _ _ _ _ _ _ q _ _=>q.elim,fun bB ρ' σ' v H' ⟨c',f,d,e,up,p,hv⟩ W=>key W e up p hv⟩
  · have e:(if a∈c.F then none else H a)=some o:=e
    by_cases z:a∈c.F
    · rw[if_pos z] at e;cases e
    · rwa[if_neg z] at e
  · show(if a∈c.F then none else H a)≠none
    rw[if_neg z.2];exact hl a z.1
  · rw[cM];unfold start;simp[hlen]
  · rw[cM] at e
    unfold start
    have av:∀a,(oz c.F H nb).S (fun a=>a∈c.F) false a->nb a:=fun a z=>by
      rcases z with z|z|z|z
      · exact hF a z
      · exact z.1
      · exact absurd (lV a) z
      · cases z.1
    cases i with
    |zero=>simp at e;subst e;exact⟨some c.v,by simp,rfl,fun a m=>⟨m,lV a⟩,by rw[hf];exact c.av av hP⟩
    | succ i =>
      simp only[jT,jI,bC,fB] at e⊢
      by_cases hi:i<ds.length
      · rw[fY (by rw[ak];exact hi)] at e
        obtain⟨v,d,hv,rfl,q⟩:=jJ hd e
        refine⟨some v,?_,v,rfl,q.av av⟩
        rw[fY (by rw[ak,hlen];exact hi),bu,hv];rfl
      · rw[gp (by rw[ak];omega),fj] at e
        split at e
        · rename_i h'
          cases e
          refine⟨none,?_,trivial⟩
          rw[ak] at h'
          rw[gp (by rw[ak];omega),fj,if_pos (by rw[ak,hlen];exact h')]
        · cases e
  all_goals
    have sl:∀{i:Nat} {s:Sl},ρ[i+1]?=some s->s.adr=[]:=fun{i s} e1=>by
      rw[cM] at e1
      simp only[jT,jI] at e1
      by_cases hi:i<ds.length
      · rw[fY (by rw[ak];exact hi)] at e1
        obtain⟨_,_,_,z,_⟩:=jJ hd e1
        subst z;rfl
      · rw[gp (by rw[ak];omega),fj] at e1
        split at e1
        · cases e1;rfl
        · cases e1
    have s0:∀{s:Sl},ρ[0]?=some s->s= .cu c:=fun{s} e1=>by rw[cM] at e1;simp at e1;exact e1.symm
  · intro i j a f as c2 g cs hij e1
    cases i with
    |zero=>cases s0 e1
    |succ i=>cases sl e1
  · intro i j a f as c2 g cs hij e1
    cases i with
    |zero=>cases s0 e1
    |succ i=>cases sl e1
  · intro i j c2 s hij e1 e2 a m
    cases i with
    | zero =>
      cases j with
      |zero=>exact absurd rfl hij
      |succ j=>rw[sl e2];exact fun z=>by cases z
    | succ i =>
      have:=sl e1
      rw[show Sl.adr (.cu c2)=c2.F from rfl] at this
      rw[this] at m;cases m
end
end L2
set_option maxRecDepth 100000
set_option maxHeartbeats 4000000
namespace L2
open PySem PySem.Spec PyProof.Rows
theorem Kp.sub{S:Addr->Prop}{F F':List Addr}{H H':Hp}(k:Kp S F H H')(h:∀a∈F',a∈F):Kp S F' H H':=⟨fun a m=>k.own a (h a m),k.lst,k.tup,k.bW⟩
def Wj(a:Addr)(ds:List PyData):Cu where
 v:= .ref a
 F:=[a]
 f:=false
 P:=fun S H=>∃xs,H a=some (.lst xs)/\af S H ds xs
 keep:=fun k ⟨xs,h,q⟩=>⟨xs,k.own _ (bF.mpr rfl) _ h,af.kp k q⟩
 av:=fun z ⟨xs,h,q⟩=>⟨xs,h,q.av z⟩
 fresh:=fun z ⟨xs,h,q⟩=>⟨xs,h,q.fresh z⟩
inductive Fl where
 |d (d:PyData)|cu (c:Cu)
def Fl.adr:Fl->List Addr
 | .d _=>[]
 | .cu c=>c.F
def kC(S:Addr->Prop)(H:Hp)(v:V):Fl->Prop
 | .d d=>ai S H d v
 | .cu c=>v=c.v/\c.P S H
abbrev Fs:=List (Str×Fl)
def cU(S:Addr->Prop)(H:Hp):Fs->List (Str×V)->Prop
 |[],vs=>vs=[]
 |f::fs,vs=>∃v ws,vs=(f.1,v)::ws/\kC S H v f.2/\cU S H fs ws
def gV(x dx:Addr)(fs:Fs):List Addr:=x::dx::fs.flatMap fun f=>f.2.adr
theorem kC.map{S S':Addr->Prop}{H H':Hp}{v:V}{fl:Fl}(h:kC S H v fl)(hd:∀d v,ai S H d v->ai S' H' d v)(hc:∀c,fl= .cu c->c.P S H->c.P S' H'):kC S' H' v fl:=by
 cases fl with
 |d d=>exact hd _ _ h
 |cu c=>exact⟨h.1,hc c rfl h.2⟩
theorem cU.map{S S':Addr->Prop}{H H':Hp}:∀{fs:Fs} {vs:List (Str×V)},cU S H fs vs->(∀d v,ai S H d v->ai S' H' d v)->(∀f∈fs,∀c,f.2= .cu c->c.P S H->c.P S' H')->cU S' H' fs vs
 |[],_,h,_,_=>h
 |f::fs,_,⟨v,ws,e,h1,h2⟩,hd,hc=>⟨v,ws,e,h1.map hd (hc f (dj ..)),cU.map h2 hd fun g m=>hc g (bY _ m)⟩
theorem FT{x dx:Addr}{fs:Fs}{f:Str×Fl}(h:f∈fs){a:Addr}(m:a∈f.2.adr):a∈gV x dx fs:=bY _ (bY _ (AQ.mpr ⟨f,h,m⟩))
def fP(C x dx:Addr)(fs:Fs):Cu where
 v:= .ref x
 F:=gV x dx fs
 f:=false
 P:=fun S H=>(gV x dx fs).Nodup/\H dx=some (.own x)/\fs.length<=900/\∃vs,H x=some (.ins C dx vs)/\cU S H fs vs
 keep:=fun k ⟨n,h,l,vs,q,r⟩=>⟨n,k.own _ (by simp[gV]) _ h,l,vs,k.own _ (by simp[gV]) _ q,r.map (fun d v z=>ai.kp k z) fun f m c e z=>c.keep (k.sub fun a y=>FT m (by rw[e];exact y)) z⟩
 av:=fun z ⟨n,h,l,vs,q,r⟩=>⟨n,h,l,vs,q,r.map (fun d v y=>y.av z) fun f m c e y=>c.av z y⟩
 fresh:=fun z ⟨n,h,l,vs,q,r⟩=>⟨n,h,l,vs,q,r.map (fun d v y=>y.fresh z) fun f m c e y=>c.fresh z y⟩
theorem cU.get{S:Addr->Prop}{H:Hp}{f:Str}{fl:Fl}:∀{fs:Fs} {vs:List (Str×V)},cU S H fs vs->fs.lookup f=some fl->∃v,vs.lookup f=some v/\kC S H v fl
  |[],_,h,e=>by simp at e
  | (g, x) :: fs, _, ⟨v, ws, e, h1, h2⟩, q => by
    subst e
    rw[fR] at q⊢
    cases hb:(f==g) with
    |true=>rw[hb] at q;cases q;exact⟨v,rfl,h1⟩
    |false=>rw[hb] at q;exact cU.get h2 q
theorem cU.no{S:Addr->Prop}{H:Hp}{f:Str}:∀{fs:Fs} {vs:List (Str×V)},cU S H fs vs->fs.lookup f=none->vs.lookup f=none
  |[],_,h,e=>by unfold cU at h;subst h;rfl
  | (g, x) :: fs, _, ⟨v, ws, e, h1, h2⟩, q => by
    subst e
    rw[fR] at q⊢
    cases hb:(f==g) with
    |true=>rw[hb] at q;cases q
    |false=>rw[hb] at q;exact cU.no h2 q
def iJ(f:Str)(v:Fl):Fs->Fs
 |[]=>[(f,v)]
 |(g,x)::r=>if g=f then(g,v)::r else(g,x)::iJ f v r
theorem cU.put{S:Addr->Prop}{H:Hp}{f:Str}{fl:Fl}{v:V}(hv:kC S H v fl):∀{fs:Fs} {vs:List (Str×V)},cU S H fs vs->cU S H (iJ f fl fs) (gD f v vs)
  |[],_,h=>by unfold cU at h;subst h;exact⟨v,[],rfl,hv,rfl⟩
  | (g, x) :: fs, _, ⟨w, ws, e, h1, h2⟩ => by
    subst e
    unfold iJ gD
    by_cases h:g=f
    · rw[if_pos h,if_pos h];exact⟨v,ws,rfl,hv,h2⟩
    · rw[if_neg h,if_neg h];exact⟨w,_,rfl,h1,cU.put hv h2⟩
theorem cU.len{S:Addr->Prop}{H:Hp}:∀{fs:Fs} {vs:List (Str×V)},cU S H fs vs->vs.length=fs.length
 |[],_,h=>by unfold cU at h;subst h;rfl
 |f::fs,_,⟨v,ws,e,h1,h2⟩=>by subst e;simp[cU.len h2]
theorem fP.is{C x dx:Addr}{fs:Fs}{m:Str}(hm:fs.lookup m=none):∀S H,(fP C x dx fs).P S H->∃a dx' vs,(fP C x dx fs).v= .ref a/\H a=some (.ins C dx' vs)/\vs.lookup m=none:=fun S H ⟨n,h,l,vs,q,r⟩=>⟨x,dx,vs,rfl,q,r.no hm⟩
section
variable{G:Gx}{ρ:Rh}{Φ:Pd}{ta tb te:TE}{t:TA}{i:Nat}{E:DE}{C x dx l:Addr}{fs:Fs}{K:PySem.W.Frag}{f m:Str}{d:PyData}{ds:List PyData}
theorem Wd.XF{nb:Addr->Prop}{σ:St}{H:Hp}(W:Wd G nb ρ σ H)(e:ρ[i]?=some (.cu (fP C x dx fs))):∃vs,σ[i]?=some (some (.ref x))/\(∀a∈gV x dx fs,nb a/\NB G.B a)/\(gV x dx fs).Nodup/\H dx=some (.own x)/\fs.length<=900/\H x=some (.ins C dx vs)/\cU (G.S nb false) H fs vs:=by
 obtain⟨x0,e1,h1,h2,n,h,l,vs,q,r⟩:=W.ok i _ e
 subst h1
 exact⟨vs,e1,h2,n,h,l,q,r⟩
theorem lookup_mem{fl:Fl}:∀{fs:Fs},fs.lookup f=some fl->(f,fl)∈fs
  |[],h=>by simp at h
  | (g, y) :: r, h => by
    rw[fR] at h
    cases hb:(f==g) with
    |true=>rw[hb] at h;cases h;rw[beq_iff_eq.mp hb];exact dj ..
    |false=>rw[hb] at h;exact bY _ (lookup_mem h)
theorem TN{fl:Fl}(hl:fs.lookup f=some fl){a:Addr}(m:a∈fl.adr):a∈gV x dx fs:=FT (lookup_mem hl) m
theorem Gs{fl rR:Fl}(h':rR.adr=fl.adr):∀{fs:Fs},fs.lookup f=some fl->((iJ f rR fs).flatMap fun g=>g.2.adr)=fs.flatMap fun g=>g.2.adr
  |[],h=>by simp at h
  | (g, y) :: r, h => by
    unfold iJ
    rw[fR] at h
    cases hb:(f==g) with
    | true =>
      rw[hb] at h;cases h
      rw[if_pos (beq_iff_eq.mp hb).symm,rX,rX,h']
    | false =>
      rw[hb] at h
      rw[if_neg (fun z=>by rw[z,beq_self_eq_true] at hb;cases hb),rX,rX,Gs h' h]
theorem EW{fl rR:Fl}:∀{fs:Fs},fs.lookup f=some fl->(iJ f rR fs).length=fs.length
  |[],h=>by simp at h
  | (g, y) :: r, h => by
    unfold iJ
    rw[fR] at h
    cases hb:(f==g) with
    |true=>rw[if_pos (beq_iff_eq.mp hb).symm];rfl
    | false =>
      rw[hb] at h
      rw[if_neg (fun z=>by rw[z,beq_self_eq_true] at hb;cases hb),fB,fB,EW h]
theorem kC.wr{S:Addr->Prop}{H:Hp}{v:V}{fl:Fl}{p:Addr}{o:HO}(hS:S p)(hp:p∉fl.adr)(h:kC S H v fl):kC S (upd H p o) v fl:=
 h.map (fun d v z=>z.keep (bz.set hS)) fun c e z=>c.keep (.of fun a o' m q=>by
  rw[aB]
  ·exact q
  ·rintro rfl
   rcases m with m|m
   ·exact m hS
   ·rw[e] at hp;exact hp m) z
theorem cU.HS{S:Addr->Prop}{H:Hp}{p:Addr}{o:HO}(hS:S p):∀{fs:Fs} {vs:List (Str×V)},(p∉fs.flatMap fun g=>g.2.adr)->cU S H fs vs->cU S (upd H p o) fs vs
  |[],_,_,h=>h
  | g :: fs, _, hp, ⟨v, ws, e, h1, h2⟩ => by
    rw[rX,fJ] at hp
    exact⟨v,ws,e,h1.wr hS fun z=>hp (.inl z),cU.HS hS (fun z=>hp (.inr z)) h2⟩
theorem cU.US{S:Addr->Prop}{H:Hp}{fl:Fl}{v:V}{p:Addr}{o:HO}(hS:S p)(hv:kC S (upd H p o) v fl){fs:Fs}{vs:List (Str×V)}(hp:p∉fs.flatMap fun g=>g.2.adr)(h:cU S H fs vs):cU S (upd H p o) (iJ f fl fs) (gD f v vs):=cU.put hv (cU.HS hS hp h)
theorem yR{fl:Fl}:∀{fs:Fs},fs.lookup f=none->iJ f fl fs=fs++[(f,fl)]
  |[],_=>rfl
  | (g, y) :: r, h => by
    unfold iJ
    rw[fR] at h
    cases hb:(f==g) with
    |true=>rw[hb] at h;cases h
    | false =>
      rw[hb] at h
      rw[if_neg (fun z=>by rw[z,beq_self_eq_true] at hb;cases hb),yR h];rfl
theorem Sv.w4(e:ρ[i]?=some (.cu (fP C x dx fs)))(cl:gF K C)(na:gT K C f)(hl:fs.lookup f=none\/∃d0,fs.lookup f=some (.d d0))(hlen:fs.length<900)(h:Ev G ρ te fun _ d=>E.nx (ρ.set i (.cu (fP C x dx (iJ f (.d d) fs))))):Sv G ρ (IS K (dG i) te f) E:=fun nb σ H D W KK=>
 h nb σ H _ W fun fg v H1 d q s1 hv=>by
  have W1:=W.step s1
  obtain⟨vs,e1,h2,n,h3,len,qx,r⟩:=W1.XF e
  have Fg:G.S nb false x:= .inl (h2 x (by simp[gV])).1
  have hn:=n
  unfold gV at hn
  obtain⟨n1,n2⟩:=iE.mp hn
  have hdx:dx≠x:=fun z=>n1 (by rw[z];exact dj ..)
  have hx:x∉fs.flatMap fun g=>g.2.adr:=fun z=>n1 (bY _ z)
  have eF:gV x dx (iJ f (.d d) fs)=gV x dx fs:=by
   unfold gV
   rcases hl with hl|⟨d0,hl⟩
   ·rw[yR hl,List.flatMap_append]
    show _::_::(_++([]++[]))=_
    rw[jz,jz]
   ·rw[Gs (fl:= .d d0) (rR:= .d d) rfl hl]
  have eL:(iJ f (.d d) fs).length<=900:=by
   rcases hl with hl|⟨d0,hl⟩
   ·rw[yR hl,fm,j3];omega
   ·rw[EW hl];exact len
  refine⟨.ref x,e1,x,C,dx,vs,rfl,qx,cl,na,by rw[r.len];omega,KK.nx nb _ _ _ q ?_⟩
  refine W1.VU (c':=fP C x dx (iJ f (.d d) fs)) e (by show x∈gV x dx fs;simp[gV]) rfl (fun a m=>by rw[show(fP C x dx (iJ f (.d d) fs)).F=gV x dx fs from eF] at m;exact m) ?_
  refine⟨by rw[eF];exact n,by rw[aB hdx];exact h3,eL,_,aY,cU.US Fg ?_ hx r⟩
  exact(hv.av (cT (fun z=>by cases z) fun _ z=>z)).keep (bz.set Fg)
def jZ(G:Gx)(ρ:Rh)(ta:TA)(Φ:List PyData->Prop):Prop:=∀nb σ H (Q:List V->Hp->Prop),Wd G nb ρ σ H->(∀ds vs H',Φ ds->Step G.B H H'->af (fun a=>¬NB G.B a) H' ds vs->Q vs H')->ta σ H Q
theorem jZ.nil{Θ:List PyData->Prop}(h:Θ []):jZ G ρ cL Θ:=fun nb σ H Q W z=>z [] [] H h (.refl W.ay) .nil
theorem jZ.cons{Θ:List PyData->Prop}(h:Ev G ρ te fun _ d=>jZ G ρ t fun ds=>Θ (d::ds)):jZ G ρ (cA te t) Θ:=fun nb σ H Q W z=>
 h nb σ H _ W fun f v H1 d p1 s1 q1=>p1 nb σ H1 _ (W.step s1) fun ds vs H2 p2 s2 q2=>z _ _ H2 p2 (s1.trans s2) (.cons ((q1.av fun a y=> .inr (.inr (.inl y))).keep (s2.but fun _ y=>y)) q2)
theorem Sv.make{n:Nat}{F:CF}(hm:Hj F)(h:Av G ρ t fun es=>es.length+1=n/\∀x dx,F (fP C x dx []) (es.map (·.2)) fun c' _ d=>d= .none/\E.nx (ρ.set i (.cu c'))):Sv G ρ (ff (uN C (wC n F) [] E0 t) (eX i)) E:=fun nb σ H D W KK=>
 h nb σ H _ W fun es vs H1 ⟨hl,p⟩ s1 q1 x dx hx hdx hne=>by
  have W1:=W.step s1
  have hsm:cy H1 (upd (upd H1 dx (.own x)) x (.ins C dx [])):=fun a o e=>by
   rw[aB (ig e hx),aB (ig e hdx)];exact e
  have U6:∀a,G.S nb false a->H1 a≠none:=fun a y=>W1.iy a y
  have fD:af (fun a=>G.S nb false a\/a∈[x,dx]) (upd (upd H1 dx (.own x)) x (.ins C dx [])) (es.map (·.2)) vs:=by
   have hq:=q1.all (f:=false) fun z=>by cases z
   generalize es.map (·.2)=dl at hq
   refine af.keep (bz.of hsm) ?_
   exact oE (P:=fun S=>af S H1 dl vs) (fun z h=>af.av z h) (fun hp h=>af.fresh hp h) (L:=[x,dx]) (fun a m=>by
    rcases bq.mp m with m|m
    ·rw[m];exact hx
    ·rw[bF.mp m];exact hdx) hq
  rw[jz]
  refine⟨by rw[fB,q1.len,hl],fun a=>G.S nb false a\/a∈[x,dx],fP C x dx [],vs,es.map (·.2),rfl,fun a y=>?_,fun a m=> .inr m,rfl,?_,fD,hm _ _ _ _ (p x dx) fun c' f d ⟨hd0,hp⟩ v H' to hP hd=>?_⟩
  ·rcases y with y|y
   ·cases e:H1 a with
    |none=>exact absurd e (U6 a y)
    |some o=>rw[hsm a o e];exact jA _
   ·rcases bq.mp y with m|m
    ·rw[m,aY];exact jA _
    ·rw[bF.mp m,aB hne,aY];exact jA _
  ·refine⟨by simp[gV,bx hne],by rw[aB hne,aY],by decide,[],aY,rfl⟩
  ·subst hd0
   refine⟨hd.wG,?_⟩
   have hfr:∀a∈c'.F,H1 a=none:=fun a m=>by
    rcases to.new a m with y|y
    ·rcases bq.mp y with m|m
     ·rw[m];exact hx
     ·rw[bF.mp m];exact hdx
    ·cases e:H1 a with
     |none=>rfl
     |some o=>rw[hsm a o e] at y;cases y
   have st:Step G.B H1 H':=by
    have sm:cy H1 H':=fun a o e=>to.kp a o (fun m=>by
     rcases bq.mp m with m|m
     ·rw[m,hx] at e;cases e
     ·rw[bF.mp m,hdx] at e;cases e) (hsm a o e)
    exact .same W1.ay sm
   have:=W1.Mn (i:=i) (c:=c') st hfr to.lv (c'.av (fun a y=>?_) hP)
   ·rw[to.v] at this
    exact KK.nx _ _ _ _ hp this
   ·rw[to.f] at y
    rcases y with y|y
    ·exact .inl (.inl y)
    ·exact .inr y
end
end L2
set_option maxRecDepth 100000
set_option maxHeartbeats 4000000
namespace L2
open PySem PySem.Spec PyProof.Rows
theorem MI(wd:Wo):cV (wd.map fE)=true:=by
 unfold cV
 rw[jQ]
 intro x hx
 obtain⟨o,_,rfl⟩:=aN.mp hx
 cases o<;>rfl
end L2
set_option maxRecDepth 100000
set_option maxHeartbeats 4000000
set_option maxRecDepth 100000
set_option maxHeartbeats 4000000
set_option maxRecDepth 100000
set_option maxHeartbeats 4000000
set_option maxRecDepth 100000
set_option maxHeartbeats 4000000
namespace L2
open PySem PySem.Spec PyProof.Rows
inductive Oi where
 |own (b:Addr)|dat (x:PyData)
inductive OO where
 |lst (xs:List Oi)|tup (xs:List Oi)|bW (ks:List (Int×Oi))
abbrev Yk:=List (Addr×OO)
end L2
set_option maxRecDepth 100000
set_option maxHeartbeats 4000000
set_option maxRecDepth 100000
set_option maxHeartbeats 4000000
set_option maxRecDepth 100000
set_option maxHeartbeats 4000000
set_option maxRecDepth 100000
set_option maxHeartbeats 4000000
set_option maxRecDepth 100000
set_option maxHeartbeats 4000000
set_option maxRecDepth 100000
set_option maxHeartbeats 4000000
namespace L2
open PySem PySem.Spec PyProof.Rows
theorem T9{α:Type}{xs:List α}{a b:Int}(h0:0<=a)(h1:a<=b)(h2:b<=xs.length):gz xs (some a) (some b)=(xs.drop a.toNat).take (b-a).toNat:=by
 unfold gz HT.eB
 show List.take ((if b<0 then _ else _)-if a<0 then _ else _) (List.drop (if a<0 then _ else _) _)=_
 rw[if_neg (by omega),if_neg (by omega),pM (by omega),pM (by omega)]
 congr 1
 omega
theorem qM{m:Nat}{k:Int}(h0:0<=k)(h1:k<m):dM m k=some k.toNat:=by
 unfold dM
 repeat (first|rw[if_pos (by omega)]|rw[if_neg (by omega)])
theorem Ii{p x:Int}(h:p∣x)(h0:0<=x)(h1:x<p):x=0:=by
 rcases Int.lt_or_eq_of_le h0 with z|z
 ·have:=mO z h
  omega
 ·exact z.symm
theorem cP.take{p n:Int}{cs:List az}(h:cP p n cs)(k:Nat):cP p n (cs.take k):=⟨h.hp,h.cO,h.n0,h.n1,cX (List.length_take_le' ..) h.cl,fun q hq=>h.ok q (nh hq)⟩
def mR(p:Nat):Nat->List (List Int)
 |0=>[[]]
 |n+1=>(List.range p).flatMap fun(a:Nat)=>(mR p n).map fun w=>(a:Int)::w
theorem wZ{p:Int}(hp:0<=p):∀{n:Nat} {w:List Int},w∈mR p.toNat n↔aK p n w
  | 0, w => by
    show w∈[[]]↔_
    rw[bF]
    constructor
    · rintro rfl;exact⟨rfl,fun x h=>by cases h⟩
    · intro h;exact tB.mp h.len
  | n + 1, w => by
    show w∈List.flatMap _ _↔_
    rw[AQ]
    constructor
    · rintro⟨a,ha,hw⟩
      obtain⟨u,hu,rfl⟩:=aN.mp hw
      have h:=(wZ hp).mp hu
      rw[dS] at ha
      refine⟨by rw[fB,h.len],fun x hx=>?_⟩
      rcases bq.mp hx with z|z
      · omega
      · exact h.rg x z
    · intro h
      cases w with
      |nil=>have:=h.len;cases this
      | cons x xs =>
        have hx:=h.rg x (dj ..)
        refine⟨x.toNat,dS.mpr (by omega),aN.mpr ⟨xs,(wZ hp).mpr ⟨?_,fun y hy=>h.rg y (bY _ hy)⟩,?_⟩⟩
        · have:=h.len;rw[fB] at this;omega
        · rw[show((x.toNat:Nat):Int)=x by omega]
theorem Gp(p:Nat):∀n,(mR p n).length=p^n
  |0=>rfl
  | n + 1 => by
    show(List.flatMap _ _).length=_
    rw[Ia]
    have:(List.map (fun a=>((mR p n).map fun w=>((a:Nat):Int)::w).length) (List.range p))=List.replicate p (p^n):=by
      apply nJ
      · simp
      · intro i h1 h2;simp[Gp p n]
    rw[this,Ib,CW,nA]
theorem EU(p:Nat):∀n,(mR p n).Nodup
  |0=>by simp[mR]
  | n + 1 => by
    show(List.flatMap _ _).Nodup
    rw[List.Nodup,G4]
    refine⟨fun a _=>?_,?_⟩
    · rw[jV]
      exact(EU p n).imp fun h z=>h (uF z).2
    · refine(rQ (n:=p)).imp ?_
      intro a b h x hx y hy z
      obtain⟨u,_,rfl⟩:=aN.mp hx
      obtain⟨v,_,rfl⟩:=aN.mp hy
      have:=(uF z).1
      omega
theorem z0{α β:Type}[DecidableEq β](f:α->β):∀(l:List α) (m:List β),l.Nodup->(∀x∈l,f x∈m)->(∀x∈l,∀y∈l,f x=f y->x=y)->l.length<=m.length
  |[],_,_,_,_=>fW _
  | x :: l, m, hn, hm, hi => by
    obtain⟨h1,h2⟩:=iE.mp hn
    have hx:=hm x (dj ..)
    have ih:=z0 f l (m.erase (f x)) h2 (fun y hy=>(List.mem_erase_of_ne (fun z=>h1 (by
      rw[<-hi y (bY _ hy) x (dj ..) z];exact hy))).mpr (hm y (bY _ hy))) fun y hy z hz=>hi y (bY _ hy) z (bY _ hz)
    rw[List.length_erase_of_mem hx] at ih
    have:=List.length_pos_of_mem hx
    rw[fB]
    omega
noncomputable def gk(p n:Nat)(V:List Int->Prop):List (List Int):=(mR p n).filter fun w=> @decide (V w) (Classical.propDecidable _)
theorem mE{p:Int}{n:Nat}{V:List Int->Prop}(hp:0<=p){w:List Int}:w∈gk p.toNat n V↔aK p n w/\V w:=by
 unfold gk
 simp only[iP,wZ hp,decide_eq_true_eq]
theorem JL{p n:Nat}{V:List Int->Prop}:(gk p n V).Nodup:=(EU p n).filter _
def Rk(p:Int)(n:Nat)(V:List Int->Prop)(k:Nat):Prop:=(gk p.toNat n V).length*p.toNat^k=p.toNat^n
section
variable{p:Int}{n k k':Nat}{V V':List Int->Prop}{R:List (List Int)}{r:List Int}
theorem Rk.congr(h:Rk p n V k)(hp:0<=p)(e:∀w,aK p n w->(V w↔V' w)):Rk p n V' k:=by
 have:gk p.toNat n V=gk p.toNat n V':=by
  unfold gk
  refine List.filter_congr fun w hw=>?_
  rw[decide_eq_decide]
  exact e w ((wZ hp).mp hw)
 unfold Rk at h⊢
 rw[<-this];exact h
theorem Rk.uniq(h:Rk p n V k)(h':Rk p n V k')(hp:2<=p):k=k':=by
 unfold Rk at h h'
 have e:=h.trans h'.symm
 have h0:0<(gk p.toNat n V).length:=by
  rcases Nat.eq_zero_or_pos (gk p.toNat n V).length with z|z
  ·rw[z,u6] at h
   have:0<p.toNat^n:=Nat.pow_pos (by omega)
   omega
  ·exact z
 have e2:=Nat.eq_of_mul_eq_mul_left h0 e
 have h1:=(J3 (a:=p.toNat) (by omega)).mp (qi e2)
 have h2:=(J3 (a:=p.toNat) (by omega)).mp (qi e2.symm)
 omega
theorem Rk.all:Rk p n (fun _=>True) 0:=by
 have:gk p.toNat n (fun _=>True)=mR p.toNat n:=by
  unfold gk
  exact List.filter_eq_self.mpr fun w _=>by simp
 unfold Rk
 rw[this,Gp,Ez,uS]
def addW(p:Int)(w:List Int)(a:Int)(v:List Int):List Int:=List.zipWith (fun x y=>(x+a*y)%p) w v
theorem aK.add{w v:List Int}{a:Int}(h:aK p n w)(h2:aK p n v)(hp:0<p):aK p n (addW p w a v):=by
 refine⟨by unfold addW;rw[nW,h.len,h2.len,Nat.min_self],fun x hx=>?_⟩
 unfold addW at hx
 obtain⟨i,hi⟩:=dZ hx
 rw[qZ] at hi
 cases e1:w[i]?<;>cases e2:v[i]?<;>rw[e1,e2] at hi<;>simp at hi
 subst hi
 exact⟨eG _ (by omega),e7 _ hp⟩
theorem j9{r:List Int}{i:Nat}(h:r.length<=i):gI r i=0:=by
 unfold gI;rw[bf,gP h];rfl
theorem uQ{w v:List Int}{a:Int}(h:aK p n w)(h2:aK p n v)(i:Nat):gI (addW p w a v) i=(gI w i+a*gI v i)%p:=by
 by_cases c:i<n
 ·unfold gI addW
  rw[bf,qZ,bf,bf,aF (show i<w.length by rw[h.len];exact c),aF (show i<v.length by rw[h2.len];exact c)]
  rfl
 ·rw[j9 (by unfold addW;rw[nW,h.len,h2.len,Nat.min_self];omega),j9 (by rw[h.len];omega),j9 (by rw[h2.len];omega),dI,jg,pC]
theorem Gb:∀(r:List Int) (f g:Nat->Int),(∀i,p∣f i-g i)->p∣aj f r-aj g r
  |[],_,_,_=>⟨0,by simp[aj]⟩
  | x :: xs, f, g, h => by
    obtain⟨a,ha⟩:=Gb xs (fun i=>f (i+1)) (fun i=>g (i+1)) fun i=>h (i+1)
    obtain⟨b,hb⟩:=h 0
    refine⟨b*x+a,?_⟩
    show(f 0*x+aj _ xs)-(g 0*x+aj _ xs)=_
    have e:f 0=g 0+p*b:=by omega
    rw[e]
    grind
theorem GY(a:Int):∀(f:Nat->Int) (r:List Int),aj (fun i=>a*f i) r=a*aj f r
  |_,[]=>by simp[aj]
  | f, x :: xs => by
    show a*f 0*x+aj (fun i=>a*f (i+1)) xs=a*(f 0*x+aj _ xs)
    rw[GY a (fun i=>f (i+1)) xs]
    grind
theorem oH{w v:List Int}{a:Int}(h:aK p n w)(h2:aK p n v)(r:List Int):p∣aj (gI (addW p w a v)) r-(aj (gI w) r+a*aj (gI v) r):=by
 rw[<-GY,<-nS]
 refine Gb r _ _ fun i=>?_
 rw[uQ h h2,iC]
 exact⟨-((gI w i+a*gI v i)/p),by grind⟩
theorem zH{w v:List Int}{a b:Int}(h:aK p n w)(h2:aK p n v)(hp:0<p)(e:a+b=0):addW p (addW p w a v) b v=w:=by
 have h3:=h.add (a:=a) h2 hp
 have h4:=h3.add (a:=b) h2 hp
 apply nJ
 ·rw[h4.len,h.len]
 ·intro i g1 g2
  have hi:i<n:=by rw[h.len] at g2;exact g2
  have e1:=uQ (a:=b) h3 h2 i
  rw[uQ h h2] at e1
  have e2:gI (addW p (addW p w a v) b v) i=(addW p (addW p w a v) b v)[i]:=by unfold gI;rw[bf,aF g1];rfl
  have e3:gI w i=w[i]:=by unfold gI;rw[bf,aF g2];rfl
  rw[<-e2,e1,<-e3,Int.emod_add_emod,Int.add_assoc,<-Int.add_mul,e,fF,jg]
  have:=h.g (i:=i) hp
  exact jh this.1 this.2
def sO(p:Int)(n:Nat)(V:List Int->Prop):Prop:=∀w v a,aK p n w->aK p n v->V w->V v->V (addW p w a v)
theorem Rk.skip(h:Rk p n V k)(hp:0<=p)(hz:∀w,aK p n w->V w->p∣aj (gI w) r):Rk p n (fun w=>V w/\p∣aj (gI w) r) k:=
 h.congr hp fun w hw=>⟨fun v=>⟨v,hz w hw v⟩,fun v=>v.1⟩
theorem Rk.step(h:Rk p n V k)(hp:gZ p)(hV:sO p n V){v0:List Int}(hv0:aK p n v0)(FD:V v0)(hne:¬p∣aj (gI v0) r):Rk p n (fun w=>V w/\p∣aj (gI w) r) (k+1):=by
 have p2:=hp.1
 have hp0:0<p:=by omega
 obtain⟨v1,hv1,KP,m1,e1⟩:∃v1,aK p n v1/\V v1/\∃m,aj (gI v1) r=1+p*m:=by
  obtain⟨j,hj⟩:=VM (p:=p) (b:=aj (gI v0) r) (a:=1) hp (fun z=>hne (zI z))
  refine⟨addW p v0 (sol p (aj (gI v0) r) 1-1) v0,hv0.add hv0 hp0,hV _ _ _ hv0 hv0 FD FD,?_⟩
  obtain⟨t,ht⟩:=oH (a:=sol p (aj (gI v0) r) 1-1) hv0 hv0 r
  exact⟨t+j,by grind⟩
 have hB:∀w,aK p n w->V w->∀a,p∣aj (gI w) r+a->(V (addW p w a v1)/\p∣aj (gI (addW p w a v1)) r):=fun w hw oh a ha=>by
  refine⟨hV _ _ _ hw hv1 oh KP,?_⟩
  obtain⟨t,ht⟩:=oH (a:=a) hw hv1 r
  obtain⟨s,hs⟩:=ha
  exact⟨t+s+a*m1,by rw[e1] at ht;grind⟩
 obtain⟨Pr,zB⟩:∃Pr:List (Nat×List Int),Pr=(List.range p.toNat).flatMap fun a=>(gk p.toNat n fun w=>V w/\p∣aj (gI w) r).map fun w=>(a,w):=⟨_,rfl⟩
 have ly:∀q,q∈Pr↔q.1<p.toNat/\q.2∈gk p.toNat n fun w=>V w/\p∣aj (gI w) r:=fun q=>by
  rw[zB,AQ]
  constructor
  ·rintro⟨a,ha,hq⟩
   obtain⟨w,hw,rfl⟩:=aN.mp hq
   exact⟨dS.mp ha,hw⟩
  ·rintro⟨ha,hw⟩
   exact⟨q.1,dS.mpr ha,aN.mpr ⟨q.2,hw,rfl⟩⟩
 have YF:Pr.length=p.toNat*(gk p.toNat n fun w=>V w/\p∣aj (gI w) r).length:=by
  rw[zB,Ia]
  have:(List.map (fun a=>((gk p.toNat n fun w=>V w/\p∣aj (gI w) r).map fun w=>((a:Nat),w)).length) (List.range p.toNat))=List.replicate p.toNat (gk p.toNat n fun w=>V w/\p∣aj (gI w) r).length:=by
   apply nJ
   ·simp
   ·intro i h1 h2;simp
  rw[this,Ib]
 have Bm:Pr.Nodup:=by
  rw[zB,List.Nodup,G4]
  refine⟨fun a _=>?_,?_⟩
  ·rw[jV]
   exact JL.imp fun h z=>h (v5 z).2
  ·refine(rQ (n:=p.toNat)).imp ?_
   intro a b h x hx y hy z
   obtain⟨u,_,rfl⟩:=aN.mp hx
   obtain⟨v,_,rfl⟩:=aN.mp hy
   exact h (v5 z).1
 have key:∀w,aK p n w->addW p (addW p w (-(aj (gI w) r%p)) v1) (aj (gI w) r%p) v1=w:=fun w hw=>zH hw hv1 hp0 (by omega)
 have X5:(gk p.toNat n V).length<=Pr.length:=by
  refine z0 (fun w=>((aj (gI w) r%p).toNat,addW p w (-(aj (gI w) r%p)) v1)) _ _ JL (fun w hw=>?_) fun w hw u hu e=>?_
  ·obtain⟨hw,oh⟩:=(mE (by omega)).mp hw
   have m0:=eG (aj (gI w) r) (show p≠0 by omega)
   have m1:=e7 (aj (gI w) r) hp0
   rw[ly]
   refine⟨by show(aj (gI w) r%p).toNat<p.toNat;omega,(mE (by omega)).mpr ⟨hw.add hv1 hp0,hB w hw oh _ ?_⟩⟩
   rw[iC]
   exact⟨aj (gI w) r/p,by omega⟩
  ·obtain⟨hw,oh⟩:=(mE (by omega)).mp hw
   obtain⟨hu,X7⟩:=(mE (by omega)).mp hu
   obtain⟨f1,f2⟩:=v5 e
   have a0:=eG (aj (gI w) r) (show p≠0 by omega)
   have b0:=eG (aj (gI u) r) (show p≠0 by omega)
   have f3:aj (gI w) r%p=aj (gI u) r%p:=by omega
   rw[<-key w hw,<-key u hu,f2,f3]
 have Yt:Pr.length<=(gk p.toNat n V).length:=by
  refine z0 (fun q:Nat×List Int=>addW p q.2 q.1 v1) _ _ Bm (fun q hq=>?_) fun q hq q' hq' e=>?_
  ·obtain⟨_,hw⟩:=(ly q).mp hq
   obtain⟨hw,oh,_⟩:=(mE (by omega)).mp hw
   exact(mE (by omega)).mpr ⟨hw.add hv1 hp0,hV _ _ _ hw hv1 oh KP⟩
  ·obtain⟨ha,hw⟩:=(ly q).mp hq
   obtain⟨hw,oh,s,hs⟩:=(mE (by omega)).mp hw
   obtain⟨ha',qG⟩:=(ly q').mp hq'
   obtain⟨qG,YK,s',hs'⟩:=(mE (by omega)).mp qG
   obtain⟨t,ht⟩:=oH (a:=q.1) hw hv1 r
   obtain⟨t',ht'⟩:=oH (a:=q'.1) qG hv1 r
   have e:addW p q.2 q.1 v1=addW p q'.2 q'.1 v1:=e
   rw[e] at ht
   have hd:p∣(q.1:Int)-q'.1:=⟨t'-t-s+s'+(q'.1:Int)*m1-(q.1:Int)*m1,by rw[e1] at ht ht';grind⟩
   have ea:q.1=q'.1:=by
    rcases Nat.lt_trichotomy q.1 q'.1 with z|z|z
    ·have:=mO (a:=p) (b:=(q'.1:Int)-q.1) (by omega) (by have:=Int.dvd_neg.mpr hd;rwa[Int.neg_sub] at this)
     omega
    ·exact z
    ·have:=mO (a:=p) (b:=(q.1:Int)-q'.1) (by omega) hd
     omega
   have ew:q.2=q'.2:=by
    rw[<-zH (a:=q.1) (b:= -(q.1:Int)) hw hv1 hp0 (by omega),e,ea,zH qG hv1 hp0 (by omega)]
   exact Prod.ext ea ew
 unfold Rk at h⊢
 have:(gk p.toNat n V).length=p.toNat*(gk p.toNat n fun w=>V w/\p∣aj (gI w) r).length:=by omega
 rw[this] at h
 rw[<-h,CW]
 generalize (gk p.toNat n fun w=>V w/\p∣aj (gI w) r).length=L
 generalize p.toNat^k=M
 rw[nA M,<-qL,nA L]
def VR(p:Int)(R:List (List Int))(w:List Int):Prop:=∀r∈R,p∣aj (gI w) r
theorem VR.ln:sO p n (VR p R):=fun w v a hw hv h1 h2 r hr=>by
 obtain⟨t,ht⟩:=oH (a:=a) hw hv r
 obtain⟨x,hx⟩:=h1 r hr
 obtain⟨y,hy⟩:=h2 r hr
 exact⟨t+x+a*y,by rw[hx,hy] at ht;grind⟩
theorem VR.Qw{w:List Int}:VR p (r::R) w↔VR p R w/\p∣aj (gI w) r:=
 ⟨fun h=>⟨fun s hs=>h s (bY _ hs),h r (dj ..)⟩,fun h s hs=>(bq.mp hs).elim (fun e=>e▸h.2) (h.1 s)⟩
theorem VR.nil{w:List Int}:VR p [] w:=fun _ h=>nomatch h
def tU(n pl:Nat):List Int:=(List.range n).map fun i=>if i=pl then 1 else 0
theorem Nj{pl:Nat}(hp:2<=p):aK p n (tU n pl):=by
 refine⟨by unfold tU;rw[ak,fk],fun x hx=>?_⟩
 obtain⟨i,_,rfl⟩:=aN.mp hx
 split<;>omega
theorem BR{pl:Nat}(hpl:pl<n)(i:Nat):gI (tU n pl) i=if i=pl then 1 else 0:=by
 by_cases c:i<n
 ·exact jU (fun i=>if i=pl then 1 else 0) c
 ·rw[j9 (by unfold tU;rw[ak,fk];omega),if_neg (by omega)]
theorem G7{pl:Nat}(hpl:pl<n)(r:List Int):aj (gI (tU n pl)) r=gI r pl:=by
 by_cases c:pl<r.length
 ·rw[lQ _ r pl c fun i _ hne=>by rw[BR hpl,if_neg hne,fF],BR hpl,if_pos rfl,qv]
 ·rw[j9 (by omega)]
  exact jq _ r fun i hi=>by rw[BR hpl,if_neg (by omega),fF]
theorem Rk.Ba(hp:gZ p):∀(L:List (List Int×Nat)),(∀q∈L,q.2<n/\¬p∣gI q.1 q.2)->L.Pairwise (fun a b=>p∣gI b.1 a.2)->Rk p n (VR p (L.map (·.1))) L.length
  |[],_,_=>(Rk.all (p:=p) (n:=n)).congr (by have:=hp.1;omega) fun w _=>⟨fun _=>VR.nil,fun _=>trivial⟩
  | q :: L, h, hl => by
    rw[List.pairwise_cons] at hl
    obtain⟨h1,h2⟩:=h q (dj ..)
    have ih:=Rk.Ba hp L (fun x hx=>h x (bY _ hx)) hl.2
    refine(ih.step hp VR.ln (r:=q.1) (Nj (pl:=q.2) hp.1) (fun r hr=>?_) (by rw[G7 h1];exact h2)).congr (by have:=hp.1;omega) fun w _=>VR.Qw.symm
    obtain⟨x,hx,rfl⟩:=aN.mp hr
    rw[G7 h1]
    exact hl.1 x hx
end
theorem Jv{p a:Int}:∀(f:Nat->Int) (r' r o:List Int),r'.length=r.length->o.length=r.length->(∀i<r.length,p∣gI r' i-(gI r i+a*gI o i))->p∣aj f r'-(aj f r+a*aj f o)
  |_,[],[],[],_,_,_=>⟨0,by simp[aj]⟩
  | f, x :: xs, y :: ys, z :: zs, h1, h2, h => by
    obtain⟨s,hs⟩:=Jv (fun i=>f (i+1)) xs ys zs (by simpa using h1) (by simpa using h2) fun i hi=>h (i+1) (by simpa using hi)
    obtain⟨t,ht⟩:=h 0 (by simp)
    have ht:x-(y+a*z)=p*t:=ht
    refine⟨f 0*t+s,?_⟩
    show(f 0*x+aj _ xs)-((f 0*y+aj _ ys)+a*(f 0*z+aj _ zs))=_
    grind
theorem VR.set{p a:Int}{n i o:Nat}{R:List (List Int)}{r':List Int}{w:List Int}(hR:i8 p n R)(hr:r'.length=n)(hi:i<R.length)(ho:o<R.length)(hne:i≠o)(h:∀k<n,p∣gI r' k-(gI (R.getD i []) k+a*gI (R.getD o []) k)):VR p (R.set i r') w↔VR p R w:=by
 have hil:=(hR _ (c6 hi)).len
 have ie:=(hR _ (c6 ho)).len
 rw[ic hi,ic ho] at h
 have key:=Jv (gI w) r' R[i] R[o] (by omega) (by omega) fun k hk=>h k (by omega)
 obtain⟨t,ht⟩:=key
 have V2:R[o]∈R.set i r':=by
  have:(R.set i r')[o]?=some R[o]:=by rw[bQ hne,aF ho]
  exact aW this
 have Qs:r'∈R.set i r':=by
  have:(R.set i r')[i]?=some r':=dO hi
  exact aW this
 constructor
 ·intro hV r hr
  obtain⟨j,hj⟩:=dZ hr
  by_cases c:i=j
  ·subst c
   rw[aF hi] at hj
   cases hj
   obtain⟨x,hx⟩:=hV _ Qs
   obtain⟨y,hy⟩:=hV _ V2
   exact⟨x-t-a*y,by rw[hx,hy] at ht;grind⟩
  ·have:(R.set i r')[j]?=some r:=by rw[bQ c];exact hj
   exact hV r (aW this)
 ·intro hV r hr
  rcases lX hr with z|z
  ·exact hV r z
  ·subst z
   obtain⟨x,hx⟩:=hV _ (c6 hi)
   obtain⟨y,hy⟩:=hV _ (c6 ho)
   exact⟨t+x+a*y,by rw[hx,hy] at ht;grind⟩
def VN(p:Int)(cs:List az)(w:List Int):Prop:=∀q∈cs,p∣aV q (w.map some)
section
variable{p n:Int}{cs:List az}{R:List (List Int)}{T:List (Nat×Nat)}{k:Nat}
theorem zY{prs:az}{w:List Int}{m c:Nat}(hw:w.length=n.toNat)(n0:0<=n)(hn:(prs.map (·.1)).Nodup)(h:∀pr∈prs,0<=pr.1/\pr.1<n)(hc:c<m):aj (gI w) (jl n.toNat m c prs)=aV prs (w.map some):=by
 rw[D0 (gI w) hn h n0 hc,iw hw prs h,j9 (by omega),jg]
theorem VN.rows(hN:cP p n cs){w:List Int}(hw:w.length=n.toNat):VR p (dh n.toNat cs.length cs) w↔VN p cs w:=by
 have n0:=hN.n0
 constructor
 ·intro h q hq
  obtain⟨c,hc⟩:=dZ hq
  obtain⟨g1,g2,g3⟩:=hN.ok q hq
  have:=h _ (C0 (n:=n) (m:=cs.length) hc)
  rwa[zY hw (by omega) g1 (fun pr aC=>⟨(g3 pr aC).1,(g3 pr aC).2.1⟩) (aP.mp hc).1] at this
 ·intro h r hr
  obtain⟨c,prs,e,rfl⟩:=Ce hr
  obtain⟨g1,g2,g3⟩:=hN.ok prs (aW e)
  rw[zY hw (by omega) g1 (fun pr aC=>⟨(g3 pr aC).1,(g3 pr aC).2.1⟩) (aP.mp e).1]
  exact h prs (aW e)
theorem VN.ln(hN:∀q∈cs,∀pr∈q,0<=pr.1/\pr.1<n):sO p n.toNat (VN p cs):=fun w v a hw hv h1 h2 q hq=>by
 by_cases hp:0<p
 ·have e:=fun(u:List Int) (hu:aK p n.toNat u)=>iw hu.len q (hN q hq)
  have z:∀u:List Int,(q.map fun pr=>gI u pr.1.toNat*pr.2).sum=aj (gI u) ((List.range n.toNat).map (co q)):=fun u=>(pT (gI u) q fun pr aC=>by have:=hN q hq pr aC;omega).symm
  rw[e _ (hw.add hv hp),z]
  obtain⟨t,ht⟩:=oH (a:=a) hw hv ((List.range n.toNat).map (co q))
  obtain⟨x,hx⟩:=h1 q hq
  obtain⟨y,hy⟩:=h2 q hq
  rw[e _ hw,z] at hx
  rw[e _ hv,z] at hy
  exact⟨t+x+a*y,by rw[hx,hy] at ht;grind⟩
 ·have h0:p=0\/p<0:=by omega
  have:∀u:List Int,aK p n.toNat u->u=[]:=fun u hu=>by
   cases u with
   |nil=>rfl
   |cons x xs=>have:=hu.rg x (dj ..);omega
  rw[this w hw] at h1⊢
  exact h1 q hq
theorem c9.rank(hN:cP p n cs)(hS:c9 p (n.toNat+cs.length) (dh n.toNat cs.length cs) R T (List.range n.toNat)):Rk p n.toNat (VN p cs) T.length:=by
 have p2:=hN.hp.1
 have h1:=Rk.Ba (p:=p) (n:=n.toNat) hN.hp (T.map fun q=>(R.getD q.1 [],q.2)) (fun x hx=>by
  obtain⟨q,hq,rfl⟩:=aN.mp hx
  obtain⟨g1,g2⟩:=hS.rg q hq
  refine⟨dS.mp g2,?_⟩
  show¬p∣gI (R.getD q.1 []) q.2
  rw[hS.one q hq q.1 g1,if_pos rfl]
  intro z
  have:=mO (by decide) z
  omega) (by
  rw[jV]
  have hnd:=hS.nd
  rw[List.Nodup,jV] at hnd
  refine Fo (fun{a b} ha hb hne=>?_) hnd
  show p∣gI (R.getD b.1 []) a.2
  rw[hS.one a ha b.1 (hS.rg b hb).1,if_neg (fun z=>hne z.symm)]
  exact⟨0,by omega⟩)
 rw[ak] at h1
 refine h1.congr (by omega) fun w hw=>?_
 rw[<-VN.rows hN hw.len]
 refine Iff.trans ?_ (hS.sp (gI w)).symm
 constructor
 ·intro h r hr
  obtain⟨i,hi⟩:=dZ hr
  have hil:=(aP.mp hi).1
  have hg:R.getD i []=r:=by rw[bf,hi];rfl
  by_cases c:i∈T.map (·.1)
  ·obtain⟨q,hq,rfl⟩:=aN.mp c
   exact h r (aN.mpr ⟨(R.getD q.1 [],q.2),aN.mpr ⟨q,hq,rfl⟩,hg⟩)
  ·refine⟨0,?_⟩
   rw[dI]
   refine jq _ r fun j hj=>?_
   by_cases cj:j<n.toNat
   ·have:=hS.zero i hil c j (dS.mpr cj)
    rw[hg] at this
    rw[this,dI]
   ·rw[j9 (by rw[hw.len];omega),fF]
 ·intro h r hr
  obtain⟨x,hx,rfl⟩:=aN.mp hr
  obtain⟨q,hq,rfl⟩:=aN.mp hx
  have:=(hS.rg q hq).1
  refine h _ ?_
  show R.getD q.1 []∈R
  rw[ic this]
  exact c6 _
end
def kg(w:Nat)(R:List (List Int))(T:List (Nat×Nat)):Prop:=∀i<R.length,i∉T.map (·.1)->gI (R.getD i []) (w-1)=if i+1=R.length then 1 else 0
theorem kg.take{p inv:Int}{w k d:Nat}{R R0:List (List Int)}{T:List (Nat×Nat)}{D:List Nat}(h:kg w R T)(hS:c9 p w R0 R T D)(hp:1<p)(hw:0<w)(hk:k<R.length)(gX:k∉T.map (·.1))(Cb:∀i<k,i∉T.map (·.1)->gI (R.getD i []) d=0):kg w (gy p inv R k d) (T++[(k,d)]):=by
 intro i hi hn
 rw[r6] at hi⊢
 rw[cE,fJ,not_or] at hn
 have hik:i≠k:=fun y=>hn.2 (by rw[y];simp)
 have h1:=h i hi hn.1
 have h2:=h k hk gX
 rw[Bv hS.ok (by omega) hk hi (by omega),if_neg hik]
 have hr:aK p w (R.getD i []):=by rw[ic hi];exact hS.ok _ (c6 hi)
 have hb:=hr.g (i:=w-1) (by omega)
 have e:gI (R.getD i []) d*(inv*gI (R.getD k []) (w-1)%p)=0:=by
  by_cases c:k+1=R.length
  ·rw[Cb i (by omega) hn.1,fF]
  ·rw[h2,if_neg c,dI,pC,dI]
 rw[e,nC,jh hb.1 hb.2,h1]
theorem Mh{p n:Int}{cs:List az}(hN:cP p n cs):kg (n.toNat+cs.length) (dh n.toNat cs.length cs) []:=by
 intro i hi _
 rw[lY] at hi⊢
 have n0:=hN.n0
 have hc:cs[i]?=some cs[i]:=aF hi
 obtain⟨g1,g2,g3⟩:=hN.ok _ (aW hc)
 have e:(dh n.toNat cs.length cs).getD i []=jl n.toNat cs.length i cs[i]:=by
  unfold dh
  rw[bf,bu,sG,hc]
  simp
 rw[e]
 unfold jl
 rw[jo (by rw[ow,fy];omega),vZ _ _ _ fun pr aC=>by have:=g3 pr aC;omega,lR]
 by_cases c:i+1=cs.length
 ·rw[if_pos (by omega),if_pos c]
 ·rw[if_neg (by omega),if_neg c]
section
variable{p n:Int}{cs:List az}{R:List (List Int)}{T:List (Nat×Nat)}{k:Nat}{prs:az}
theorem VA(hN:cP p n (cs++[prs]))(hS:c9 p (n.toNat+(cs++[prs]).length) (dh n.toNat (cs++[prs]).length (cs++[prs])) R T (List.range n.toNat))(hL:kg (n.toNat+(cs++[prs]).length) R T)(hT:cs.length∈T.map (·.1)):
    ∃w,aK p n.toNat w/\VN p cs w/\p∣aV prs (w.map some)+1:=by
  have p2:=hN.hp.1
  have n0:=hN.n0
  have hm:(cs++[prs]).length=cs.length+1:=by simp
  obtain⟨m,em⟩:∃m,m=(cs++[prs]).length:=⟨_,rfl⟩
  rw[<-em] at hS hL hm
  have jj:R.length=m:=by rw[hS.len,lY,<-em]
  obtain⟨w,ew⟩:∃w:List Int,w=(List.range n.toNat).map fun j=>match T.find? (fun q=>q.2==j) with|some q=>(-(gI (R.getD q.1 []) (n.toNat+cs.length)))%p|none=>0:=⟨_,rfl⟩
  have hw:aK p n.toNat w:=by
    rw[ew]
    refine⟨by rw[ak,fk],fun x hx=>?_⟩
    obtain⟨j,_,rfl⟩:=aN.mp hx
    split
    · exact⟨eG _ (by omega),e7 _ (by omega)⟩
    · omega
  have Qv:∀q∈T,gI w q.2=(-(gI (R.getD q.1 []) (n.toNat+cs.length)))%p:=fun q hq=>by
    rw[ew,jU _ (dS.mp (hS.rg q hq).2)]
    cases e:T.find? (fun z=>z.2==q.2) with
    |none=>have:=List.find?_eq_none.mp e q hq;simp at this
    | some z =>
      have hz:=C2 e
      have he:z.2=q.2:=by simpa using C6 e
      show(-(gI (R.getD z.1 []) _))%p=_
      rw[hS.inj hz hq he]
  have hw0:∀j,(∀q∈T,q.2≠j)->gI w j=0:=fun j hj=>by
    by_cases c:j<n.toNat
    · rw[ew,jU _ c]
      cases e:T.find? (fun z=>z.2==j) with
      |none=>rfl
      |some z=>exact absurd (by simpa using C6 e) (hj z (C2 e))
    · exact j9 (by rw[hw.len];omega)
  obtain⟨f,ef⟩:∃f:Nat->Int,∀i,f i=gI w i+if i=n.toNat+cs.length then 1 else 0:=⟨_,fun _=>rfl⟩
  have JZ:∀r:List Int,n.toNat+cs.length<r.length->aj f r=aj (gI w) r+gI r (n.toNat+cs.length):=fun r hr=>by
    have e1:f=fun i=>gI w i+(fun i=>if i=n.toNat+cs.length then(1:Int) else 0) i:=by funext i;exact ef i
    rw[e1,nS,lQ (fun i=>if i=n.toNat+cs.length then(1:Int) else 0) r (n.toNat+cs.length) hr fun i _ hne=>by rw[if_neg hne,fF],if_pos rfl,qv]
  have hall:∀r∈R,p∣aj f r:=fun r hr=>by
    obtain⟨i,hi⟩:=dZ hr
    have hil:=(aP.mp hi).1
    have hg:R.getD i []=r:=by rw[bf,hi];rfl
    have hrl:=(hS.ok r hr).len
    rw[JZ r (by omega)]
    by_cases c:i∈T.map (·.1)
    · obtain⟨q,hq,rfl⟩:=aN.mp c
      have hq2:=dS.mp (hS.rg q hq).2
      have h1:=hS.one q hq q.1 hil
      rw[if_pos rfl,hg] at h1
      rw[lQ (gI w) r q.2 (by omega) fun j hj hne=>?_,h1,oK,Qv q hq,hg,iC]
      · exact⟨-(-(gI r (n.toNat+cs.length))/p),by grind⟩
      · by_cases ct:∃q'∈T,q'.2=j
        · obtain⟨q',hq',rfl⟩:=ct
          have h2:=hS.one q' hq' q.1 hil
          rw[hg] at h2
          have:q.1≠q'.1:=fun z=>by
            rw[if_pos z] at h2
            have h3:=hS.nd
            have key:∀(T:List (Nat×Nat)),(T.map (·.1)).Nodup->∀a b:Nat×Nat,a∈T->b∈T->a.1=b.1->a=b:=by
              intro T
              induction T with
              |nil=>intro _ a b ha;cases ha
              | cons t T ih =>
                intro hn a b ha hb e
                rw[bC,iE] at hn
                rcases bq.mp ha with y|y<;>rcases bq.mp hb with y2|y2
                · rw[y,y2]
                · exact absurd (aN.mpr ⟨b,y2,by rw[<-e,y]⟩) hn.1
                · exact absurd (aN.mpr ⟨a,y,by rw[e,y2]⟩) hn.1
                · exact ih hn.2 a b y y2 e
            exact hne (congrArg Prod.snd (key T h3 q' q hq' hq z.symm))
          rw[h2,if_neg this,dI]
        · rw[hw0 j fun q' hq' e=>ct ⟨q',hq',e⟩,fF]
    · have h4:=hL i hil c
      rw[hg,if_neg (fun z=>c (by rw[show i=cs.length by omega];exact hT)),show n.toNat+m-1=n.toNat+cs.length by omega] at h4
      rw[h4,jg]
      refine⟨0,?_⟩
      rw[dI]
      refine jq _ r fun j hj=>?_
      by_cases cj:j<n.toNat
      · have:=hS.zero i hil c j (dS.mpr cj)
        rw[hg] at this
        rw[this,dI]
      · rw[j9 (by rw[hw.len];omega),fF]
  have L4:=(hS.sp f).mpr hall
  have Hs:∀(c:Nat) q,(cs++[prs])[c]?=some q->p∣aV q (w.map some)+if c=cs.length then 1 else 0:=fun c q hc=>by
    have hcl:=(aP.mp hc).1
    obtain⟨g1,g2,g3⟩:=hN.ok q (aW hc)
    have aC:∀pr∈q,0<=pr.1/\pr.1<n:=fun pr aC=>⟨(g3 pr aC).1,(g3 pr aC).2.1⟩
    have:=L4 _ (C0 (n:=n) (m:=m) hc)
    rw[JZ _ (by have:=(Hu (p:=p) (n:=n) (m:=m) (c:=c) (prs:=q) (by omega) fun pr aC=>(g3 pr aC).2.2).len;omega),zY hw.len (by omega) g1 aC (by omega)] at this
    have e2:gI (jl n.toNat m c q) (n.toNat+cs.length)=if c=cs.length then 1 else 0:=by
      unfold jl
      rw[jo (by rw[ow,fy];omega),vZ _ _ _ fun pr j0=>by have:=aC pr j0;omega,lR]
      by_cases cc:c=cs.length
      · rw[if_pos (by omega),if_pos cc]
      · rw[if_neg (by omega),if_neg cc]
    rw[e2] at this
    exact this
  refine⟨w,hw,fun q hq=>?_,?_⟩
  · obtain⟨c,hc⟩:=dZ hq
    have hcl:=(aP.mp hc).1
    have:=Hs c q (by rw[fY hcl];exact hc)
    rwa[if_neg (by omega),jg] at this
  · have:=Hs cs.length prs (by rw[gp (bh _),Ei];rfl)
    rwa[if_pos rfl] at this
theorem Lm(hN:cP p n (cs++[prs]))(hS:c9 p (n.toNat+(cs++[prs]).length) (dh n.toNat (cs++[prs]).length (cs++[prs])) R T (List.range n.toNat))(hL:kg (n.toNat+(cs++[prs]).length) R T)(hT:cs.length∉T.map (·.1))(aE:List Int)(hfl:aE.length=cs.length)
    (hf:∀i<cs.length,p∣gI aE i+gI (R.getD cs.length []) (n.toNat+i)):∀j<n.toNat,p∣co prs j-bS cs aE j:=by
  intro j hj
  have p2:=hN.hp.1
  have n0:=hN.n0
  have hm:(cs++[prs]).length=cs.length+1:=by simp
  have jj:R.length=cs.length+1:=by rw[hS.len,lY,hm]
  have hlt:cs.length<R.length:=by omega
  have hmem:R.getD cs.length []∈R:=by rw[ic hlt];exact c6 _
  have h1:=GU hN hS hmem hj
  have hrl:=(hS.ok _ hmem).len
  rw[hS.zero cs.length hlt hT j (dS.mpr hj)] at h1
  have h2:=hL cs.length hlt hT
  rw[if_pos (by omega),hm,show n.toNat+(cs.length+1)-1=n.toNat+cs.length by omega] at h2
  obtain⟨r,er⟩:∃r,r=R.getD cs.length []:=⟨_,rfl⟩
  rw[<-er] at h1 h2 hrl hf
  rw[hm] at hrl
  have e:r.drop n.toNat=(r.drop n.toNat).take cs.length++[1]:=by
    apply kI
    intro i
    by_cases c:i<cs.length
    · rw[fY (by rw[cZ,iR];omega),nF c]
    · by_cases c2:i=cs.length
      · subst c2
        rw[gp (by rw[cZ,iR];omega),cZ,iR,show cs.length-min cs.length (r.length-n.toNat)=0 by omega,BI]
        unfold gI at h2
        rw[bf] at h2
        rw[aF (by omega)] at h2⊢
        simp at h2⊢
        exact h2
      · rw[gP (by rw[iR];omega),gP (by rw[fm,cZ,iR,j3];omega)]
  rw[e,CU j prs 1 cs _ (by rw[cZ,iR];omega)] at h1
  have h3:∀(cs:List az) (a b:List Int),a.length=cs.length->b.length=cs.length->(∀i<cs.length,p∣gI a i+gI b i)->p∣bS cs a j+bS cs b j:=by
    intro cs
    induction cs with
    |nil=>intro a b _ _ _;exact⟨0,by simp[bS]⟩
    | cons q cs ih =>
      intro a b ha hb h
      cases a with
      |nil=>simp at ha
      | cons x a =>
        cases b with
        |nil=>simp at hb
        | cons y b =>
          obtain⟨s,hs⟩:=ih a b (by simpa using ha) (by simpa using hb) fun i hi=>h (i+1) (by simpa using hi)
          obtain⟨t,ht⟩:=h 0 (by simp)
          have ht:x+y=p*t:=ht
          refine⟨co q j*t+s,?_⟩
          show(co q j*x+bS cs a j)+(co q j*y+bS cs b j)=_
          grind
  obtain⟨s,hs⟩:=h3 cs aE ((r.drop n.toNat).take cs.length) hfl (by rw[cZ,iR];omega) fun i hi=>by
    have e2:gI ((r.drop n.toNat).take cs.length) i=gI r (n.toNat+i):=by
      unfold gI
      rw[bf,nF hi,BI,bf]
    rw[e2]
    exact hf i hi
  obtain⟨t,ht⟩:=h1
  exact⟨-t-s,by grind⟩
theorem WW{aE:List Int}{w:List Int}(hw:w.length=n.toNat)(hok:∀q∈cs,∀pr∈q,0<=pr.1/\pr.1<n)(aC:∀pr∈prs,0<=pr.1/\pr.1<n)(h:∀j<n.toNat,p∣co prs j-bS cs aE j)(hV:VN p cs w):p∣aV prs (w.map some):=by
 rw[iw hw prs aC,<-pT (n:=n.toNat) (gI w) prs fun pr hp=>by have:=aC pr hp;omega]
 have h1:=EB hw cs aE hok hV
 have h2:=zk (p:=p) (gI w) ((List.range n.toNat).map (co prs)) ((List.range n.toNat).map (bS cs aE)) (by simp) fun i hi=>by
  rw[ak,fk] at hi
  rw[jU _ hi,jU _ hi]
  exact ou (h i hi)
 obtain⟨a,ha⟩:=h1
 obtain⟨b,hb⟩:=h2
 exact⟨a+b,by grind⟩
end
end L2
set_option maxRecDepth 100000
set_option maxHeartbeats 4000000
namespace L2
open PySem PySem.Spec PyProof.Rows
abbrev RF:=Cu->List PyData->Pd->Prop
def rC(F:RF):Prop:=∀c ds (Φ Ψ:Pd),F c ds Φ->(∀f d,Φ f d->Ψ f d)->F c ds Ψ
def jM(n:Nat)(F:RF):Sp:=fun vs H Q _=>vs.length=n/\∃(nb:Addr->Prop) (c:Cu) (ws:List V) (ds:List PyData),vs=c.v::ws/\ir nb H/\(∀a∈c.F,¬nb a/\H a≠none)/\c.P nb H/\af nb H ds ws/\
 F c ds fun f d=>∀v H',cy H H'->ai (fun a=>nb a\/(f=true/\H a≠none)) H' d v->Q v H'
theorem zh{n:Nat}{F:RF}{vs:List V}{H:Hp}{Q:VK}{E:XK}(h:jM n F vs H Q E):∃(nb:Addr->Prop) (c:Cu) (ws:List V) (ds:List PyData) (Φ:Pd),vs=c.v::ws/\ir nb H/\(∀a∈c.F,¬nb a/\H a≠none)/\c.P nb H/\af nb H ds ws/\(∀f d v H',Φ f d->cy H H'->ai (fun a=>nb a\/(f=true/\H a≠none)) H' d v->Q v H')/\F c ds Φ:=by
 obtain⟨_,nb,c,ws,ds,e,h1,h2,h3,h4,h5⟩:=h
 exact⟨nb,c,ws,ds,_,e,h1,h2,h3,h4,fun f d v H' q=>q v H',h5⟩
section
variable{ρ:Rh}{t:TS}{N:List Str}{ws:List V}{ds:List PyData}{nb:Addr->Prop}{H:Hp}{Q:VK}{Φ:Pd}{c:Cu}
abbrev rq(H:Hp)(nb:Addr->Prop)(c:Cu):Gx:=⟨none,H,nb,[(false, .th c,c.v)]⟩
theorem Sv.yk(hl:ir nb H)(hF:∀a∈c.F,¬nb a/\H a≠none)(hP:c.P nb H)(hd:af nb H ds ws)(aI:∀f d v H',Φ f d->cy H H'->ai (fun a=>nb a\/(f=true/\H a≠none)) H' d v->Q v H')
    (cM:ρ= .raw c.v::ds.map (Sl.d false)++List.replicate (N.length-(ds.length+1)) .no) (h:Sv (rq H nb c) ρ t {nx:=fun _=>Φ true .none,rt:=Φ}):t {nx:=fun _ H'=>Q .aL H',rt:=Q} (start N (c.v::ws)) H:=by
  have hlen:=hd.length
  have lV:∀a,NB (rq H nb c).B a:=fun a b l e=>by cases e
  have sm:∀{bB ρ' σ' H'},Wd (rq H nb c) bB ρ' σ' H'->cy H H':=fun W a o e=>W.old a o (lV a) e
  have av:∀a,(rq H nb c).S (fun _=>False) false a->nb a:=fun a z=>by
    rcases z with z|z|z|z
    · exact z.elim
    · exact z
    · exact absurd (lV a) z
    · cases z.1
  have sl:∀{i:Nat} {s:Sl},ρ[i]?=some s->s.adr=[]:=fun{i s} e1=>by
    rw[cM] at e1
    cases i with
    |zero=>simp at e1;subst e1;rfl
    | succ i =>
      simp only[jT,jI] at e1
      by_cases hi:i<ds.length
      · rw[fY (by rw[ak];exact hi)] at e1
        obtain⟨_,_,_,z,_⟩:=jJ hd e1
        subst z;rfl
      · rw[gp (by rw[ak];omega),fj] at e1
        split at e1
        · cases e1;rfl
        · cases e1
  refine h (fun _=>False) _ H _ ⟨fun _ _ z=>(by cases z),fun _ z=>z.elim,fun _ _ _ e=>e,fun _ z=>z.elim,hl,?_,fun _ _ z=>(by cases z),fun x m=>?_,fun i s e=>?_,?_,?_,?_⟩ ⟨fun bB ρ' σ' H' q W=>aI _ _ _ _ q (sm W) .aL,fun _ _ _ _ q _=>q.elim,fun _ _ _ _ q _=>q.elim,fun bB ρ' σ' f v H' d q W hv=>aI f d v H' q (sm W) (hv.av fun a z=>?_),fun _ _ _ _ _ q _=>q.elim⟩
  · rw[cM];unfold start;simp[hlen]
  · rw[bF.mp m]
    exact⟨rfl,fun a m=>⟨fun z=>(hF a m).1 (av a z),(hF a m).2⟩,c.av av hP⟩
  · rw[cM] at e
    unfold start
    cases i with
    |zero=>simp at e;subst e;exact⟨some c.v,by simp,rfl⟩
    | succ i =>
      simp only[jT,jI,bC,fB] at e⊢
      by_cases hi:i<ds.length
      · rw[fY (by rw[ak];exact hi)] at e
        obtain⟨v,d,hv,rfl,q⟩:=jJ hd e
        refine⟨some v,?_,v,rfl,q.av av⟩
        rw[fY (by rw[ak,hlen];exact hi),bu,hv];rfl
      · rw[gp (by rw[ak];omega),fj] at e
        split at e
        · rename_i h'
          cases e
          refine⟨none,?_,trivial⟩
          rw[ak] at h'
          rw[gp (by rw[ak];omega),fj,if_pos (by rw[ak,hlen];exact h')]
        · cases e
  · intro i j a f as c2 g cs hij e1
    cases sl e1
  · intro i j a f as c2 g cs hij e1
    cases sl e1
  · intro i j c2 s hij e1 e2 a m
    have:=sl e1
    rw[show Sl.adr (.cu c2)=c2.F from rfl] at this
    rw[this] at m;cases m
  · rcases z with z|z
    · exact .inr (.inl z)
    · exact .inr (.inr (.inr z))
end
section
variable{G:Gx}{ρ:Rh}{Φ:Pd}{ta tb te:TE}{t:TA}{i n:Nat}{E:DE}{C x dx l:Addr}{fs:Fs}{K:PySem.W.Frag}{f m:Str}{d:PyData}{ds:List PyData}{c:Cu}{F:RF}
theorem O7{nb:Addr->Prop}{σ:St}{H1:Hp}{Q:VK}{vs:List V}(hm:rC F)(W1:Wd G nb ρ σ H1)(q1:af (fun a=>¬NB G.B a) H1 ds vs)(kR:∀a∈c.F,NB G.B a/\H1 a≠none)(lC:c.P (fun a=>¬NB G.B a) H1)(hl:ds.length+1=n)(p:F c ds fun f d=>(f=true\/iB d=true)/\Φ true d)
  (z:∀f v H' d,Φ f d->Step G.B H1 H'->ai (G.S nb f) H' d v->Q v H'):jM n F (c.v::(vs++[])) H1 Q E0:=by
 rw[jz]
 refine⟨by rw[fB,q1.length,hl],fun a=>¬NB G.B a,c,vs,ds,rfl,fun a y=>NB.lZ W1.ay y,fun a m=>⟨fun y=>y (kR a m).1,(kR a m).2⟩,lC,q1,hm _ _ _ _ p fun f d ⟨hf,hp⟩ v H' sm hd=>z true v H' d hp (.same W1.ay sm) ?_⟩
 rcases hf with hf|hf
 ·exact hd.av fun a y=> .inr ⟨hf,W1.iy (f:=true) a y⟩
 ·exact hd.ia hf
theorem TM{nb:Addr->Prop}{σ:St}{H:Hp}(W:Wd G nb ρ σ H)(e:ρ[i]?=some (.cu c))(hcf:c.f=false):(∀a∈c.F,NB G.B a/\H a≠none)/\c.P (fun a=>¬NB G.B a) H:=by
 obtain⟨x0,e1,h1,h2,h3⟩:=W.ok i _ e
 exact⟨fun a m=>⟨(h2 a m).2,W.live a (h2 a m).1⟩,c.av (fun a y=> .inr (.inr (.inl y))) h3⟩
theorem P1{H H1:Hp}(st:Step G.B H H1)(h:(∀a∈c.F,NB G.B a/\H a≠none)/\c.P (fun a=>¬NB G.B a) H):(∀a∈c.F,NB G.B a/\H1 a≠none)/\c.P (fun a=>¬NB G.B a) H1:=by
 refine⟨fun a m=>⟨(h.1 a m).1,KI (h.1 a m).1 st (h.1 a m).2⟩,c.keep (.of fun a o m q=>st.1 a o ?_ q) h.2⟩
 rcases m with m|m
 ·exact gU m
 ·exact(h.1 a m).1
theorem Ev.DJ(hm:rC F)(e:ρ[i]?=some (.cu c))(hcf:c.f=false)(hi:∀S H,c.P S H->∃a dx fs,c.v= .ref a/\H a=some (.ins C dx fs)/\fs.lookup m=none)
  (h:jZ G ρ t fun ds=>ds.length+1=n/\F c ds fun f d=>(f=true\/iB d=true)/\Φ true d):Ev G ρ (sW C m (jM n F) [] E0 (dG i) t) Φ:=fun nb σ H Q W z=>by
 obtain⟨x0,e1,h1,h2,h3⟩:=W.ok i _ e
 subst h1
 obtain⟨a,dx,fs,g1,g2,g3⟩:=hi _ _ h3
 refine⟨c.v,e1,a,dx,fs,g1,g2,g3,h nb σ H _ W fun ds vs H1 ⟨hl,p⟩ s1 q1=>?_⟩
 have k:=P1 s1 (TM W e hcf)
 exact O7 hm (W.step s1) q1 k.1 k.2 hl p fun f v H' d hp st hv=>z f v H' d hp (s1.trans st) hv
theorem Wd.held{nb:Addr->Prop}{σ:St}{H:Hp}{v:V}(W:Wd G nb ρ σ H)(hh:(false,HD.th c,v)∈G.hold):v=c.v/\(∀a∈c.F,¬G.S nb false a/\H a≠none)/\c.P (G.S nb false) H:=W.eU _ hh
inductive qX:Fl->PyData->Prop
 |d {d:PyData}:qX (.d d) d
 |own {l:Addr} {ds:List PyData}:qX (.cu (Wj l ds)) (.list ds)
theorem qX.is{S:Addr->Prop}{H:Hp}{v:V}{fl:Fl}(h:qX fl d)(q:kC S H v fl)(hS:∀a∈fl.adr,¬S a):ai S H d v:=by
 cases h with
 |d=>exact q
 |own=>obtain⟨e,xs,hx,hd⟩:=q;rw[e];exact .lst (hS _ (bF.mpr rfl)) hx hd
theorem Ev.o6{fl:Fl}(e:ρ[i]?=some (.raw (.ref x)))(hh:(false,HD.th (fP C x dx fs),V.ref x)∈G.hold)(cl:gF K C)(na:gT K C f)(hl:fs.lookup f=some fl)(hfl:qX fl d)(h:Φ false d):Ev G ρ (GF K (dG i) f) Φ:=fun nb σ H Q W z=>by
 obtain⟨x0,e1,h1⟩:=W.ok i _ e
 have h1:x0=some (.ref x):=h1
 subst h1
 obtain⟨_,h2,n,h3,len,vs,q,r⟩:=W.held hh
 obtain⟨v,g1,g2⟩:=r.get hl
 exact⟨.ref x,e1,x,C,dx,vs,v,rfl,q,cl,na,g1,z false v H d h (.refl W.ay) (hfl.is g2 fun a m=>(h2 a (TN hl m)).1)⟩
end
end L2
set_option maxRecDepth 100000
set_option maxHeartbeats 4000000
namespace L2
open PySem PySem.Spec PyProof.Rows
def qW(a:Addr)(o:Obj)(ps:List (Key×V)):It:=
 ⟨fun i H=>H a=some (.bR o (.dK ps))/\i<ps.length,fun i H x H'=>∃T p,x= .ref T/\H T=none/\ps[i]?=some p/\H'=upd H T (.tup [kV p.1,p.2]),fun i H=>H a=some (.bR o (.dK ps))/\ps.length=i⟩
theorem KV.at:∀{as:List (Key×V)} {bs:List (Key×Value)} {j:Nat} {p:Key×V} {q:Key×Value},KV as bs->as[j]?=some p->bs[j]?=some q->p.1=q.1/\RelV p.2 q.2:=by
  intro as
  induction as with
  |nil=>intro bs j p q _ h;simp at h
  | cons a0 as ih =>
    intro bs j p q r h1 h2
    cases r with
    | cons r1 r2 =>
      cases j with
      |zero=>simp at h1 h2;subst h1 h2;exact r1
      |succ j=>simp at h1 h2;exact ih r2 h1 h2
theorem Ro{P:Program}{w:World}{K:PySem.W.Frag}{elts:List Expr}{k:Nat}{pos:Pos}(a it:Addr)(hne:a≠it){o:Obj}{ps:List (Key×V)}{vs:List (Key×Value)}{ep:Nat}(rel:KV ps vs)
  (hD:∀h:Heap,h.get? a=some o->h.DictAt (dX P w) a vs ep):Turn P w K (.Tuple elts k pos) (qW a o ps) [it] it (fun i h=>∃ok ov,IsItemIter h it a i vs.length ep ok ov) where
 mem:=by simp
 obj:=fun i h st b hb=>by
  have e:b=it:=by simpa using hb
  subst e
  obtain⟨ok,ov,e⟩:=st
  exact⟨_,e,fun v z=>by
   have z':Data.fields _=Data.cell v:=z
   cases z'⟩
 keep:=fun i h h' st k=>let ⟨ok,ov,e⟩:=st;⟨ok,ov,k it (by simp) _ e⟩
 item:=by
  intro X hP hw hK hc i pins s σ H E I hf st hg
  subst hP hw hK
  obtain⟨hq,hi⟩:=hg
  obtain⟨ho,_⟩:=(show cD X.prog X.w H s.heap a (.bR o (.dK ps)) from I.hok a _ hq)
  have fi:=hf it (by simp)
  obtain⟨ok,ov,st⟩:=st
  have hl:=rel.length
  have yJ:vs[i]?=some vs[i]:=aF (by omega)
  have Cr:ps[i]?=some ps[i]:=aF hi
  obtain⟨r1,r2⟩:=KV.at rel Cr yJ
  generalize vs[i]=kv at yJ r1 r2
  generalize ps[i]=p at Cr r1 r2
  obtain⟨k0,x0⟩:=kv
  refine wpAny_pyNext_items_item (knd:=dX X.prog X.w) st (hD _ ho) yJ fun key h' hk so ht hsz kp=>⟨.ref s.heap.objs.size,rfl,?_⟩
  refine wpAny_letOwnedTupleGo_items so fun h'' st' sb=>?_
  have nu:s.heap.objs.size≠it:=fun z=>absurd (bG st) (by rw[z];exact g5 _)
  have t1:h''.get? s.heap.objs.size=some {cls:= .type "tuple",data:= .seq #[key,x0]}:=(sb.2 _ nu).trans ht
  have hk1:RelV (kV p.1) key:=by rw[r1];exact N9 hk
  refine⟨.ref s.heap.objs.size,upd H s.heap.objs.size (.tup [kV p.1,p.2]),I.I0 (fun b v h1 h2 q=>(sb.2 b h1).trans (kp b v h1 q)) fi fi (bh _) nu nu ⟨_,st⟩ ⟨_,st⟩ ?_,rfl,⟨_,p,rfl,I.hok.fresh (bh _),Cr,rfl⟩,⟨key,x0,st'⟩,fun b hb=>?_⟩
  ·exact⟨by show 2<=sizeLine;decide,[key,x0], .cons hk1 (.cons r2 .nil),_,t1,rfl,_,rfl⟩
  ·rw[aB,(hf b hb).1]
   rw[show b=it by simpa using hb]
   exact bx nu
 done:=by
  intro X hP hw hK hc i pins s σ H E I hf st hg
  subst hP hw hK
  obtain⟨hq,hi⟩:=hg
  obtain⟨ho,_⟩:=(show cD X.prog X.w H s.heap a (.bR o (.dK ps)) from I.hok a _ hq)
  have fi:=hf it (by simp)
  obtain⟨ok,ov,st⟩:=st
  have hl:=rel.length
  refine wpAny_pyNext_items_end (knd:=dX X.prog X.w) (I.ok.hd hc) st (hD _ ho) (gP (by omega)) fun h' kp=>⟨rfl,?_⟩
  exact I.JY (t':=s.toks) (fun b v h1 h2 q=>kp b v h1 q) fi fi
 self:=fun _ _ _ _ _ st h=>let ⟨ok,ov,e⟩:=st;PySem.W.kcp_self e h
section
variable{X:Cx}
def C4(NF:Addr->Prop)(tl:TE):TI:=fun σ H R=>tl σ H fun x H1=>∃p a ps,x= .ref p/\H1 p=some (kN p a)/\p≠a/\((H1 a=some (.dK ps)/\∀o,NF a->R (qW a o ps) (upd H1 a (.bR o (.dK ps))))\/∃o,H1 a=some (.bR o (.dK ps))/\R (qW a o ps) H1)
theorem MK{l:Expr}{elts:List Expr}{k:Nat}{tpos:Pos}{tl:TE}(hl:PE X l tl):PI X (.Tuple elts k tpos) l (C4 (wO X) tl):=by
 intro pins s σ H R I h
 refine aO (hl pins s σ H _ I h) fun v s1 ⟨x,H1,I1,r1,q1⟩=>?_
 obtain⟨p,a,ps,e,hp,hpa,q⟩:=q1
 subst e
 cases r1
 have key:∃o H2,s1.heap.get? a=some o/\H2 a=some (.bR o (.dK ps))/\H2 p=some (kN p a)/\Inv X pins σ H2 s1/\R (qW a o ps) H2:=by
  rcases q with ⟨h1,q⟩|⟨o,h1,q⟩
  ·obtain⟨z,hd,vs,rel,o,es,ep,ho,r⟩:=Km I1.hok h1
   refine⟨o,_,ho,aY,by rw[aB hpa];exact hp,I1.freeze h1 ho,q o fun o' u' z=>?_⟩
   rw[I1.base.ko _ _ _ z] at h1;cases h1
  ·obtain⟨ho,_⟩:=(show cD X.prog X.w H1 s1.heap a (.bR o (.dK ps)) from I1.hok a _ h1)
   exact⟨o,H1,ho,h1,hp,I1,q⟩
 obtain⟨o,H2,ho,h2,hp2,I2,q⟩:=key
 obtain⟨z,hd,vs,rel,dd⟩:=oZ I2.hok (.inr ⟨o,h2⟩)
 obtain⟨hv,_,_⟩:=I2.hok p _ hp2
 obtain⟨ep,hat⟩:=dd.dictAt
 refine wpAny_pyIter_items (knd:=dX X.prog X.w) hv hat ?_
 refine⟨s1.heap.objs.size,[s1.heap.objs.size],_,_,H2,rfl,I2.kept (t':=s1.toks) fun b o e=>dw _ e,Ro a _ (dW (bG ho)) rel (fun h hh=>hat.at' fun o' e=>by rw[ho] at e;cases e;exact hh),⟨_,_,gH _ rfl⟩,fun b hb=>?_,q⟩
 have e:b=s1.heap.objs.size:=by simpa using hb
 subst e
 exact I2.om (bh _) (I2.hok.fresh (bh _))
end
section
variable{G:Gx}{ρ bM:Rh}{ta te:TE}{gt:TG}{K:PySem.W.Frag}{Θ:Bool->List PyData->Prop}{tc:TT}{mp:List (Option Nat)}{nb:Addr->Prop}{σ:St}{H H1:Hp}{a:Addr}{o:Obj}{ps:List (Key×V)}{f:Bool}
theorem FZ{J:It}{G':Gx}{n:Nat}{it:Nat->PyData->Prop}{fi:Bool}{acc:Addr}{Qe:Hp->Prop}(hgo:∀i H,H a=some (.bR o (.dK ps))->i<n->J.go i H)(hst:∀H,H a=some (.bR o (.dK ps))->J.stop n H)(hn:n<=10000)
  (hz:∀{nb ρ σ H},Wd G' nb ρ σ H->H a=some (.bR o (.dK ps))) (hy:∀{nb ρ σ H i x H'},Wd G' nb ρ σ H->i<n->J.lI i H x H'->∃d,it i d/\Step G'.B H H'/\ai (G'.S nb fi) H' d x)
  (W0:Wd G' nb bM σ H1) (hacc:H1 acc=none) (h:gS G' bM n it fi gt tc te Θ)
  (z:∀σ' H' ds xs fl,Wd G' (fun x=>nb x\/x=acc) bM σ' H'->Step G'.B H1 H'->H' acc=some (.lst xs)->af (G'.S (fun x=>nb x\/x=acc) fl) H' ds xs->Θ (fl||cV ds) ds->Qe H'):mG J gt tc te acc Qe σ (upd H1 acc (.lst [])):=by
 obtain⟨fl,I,h0,ht,he⟩:=h
 have W1:=W0.more hacc (o:= .lst [])
 have hN:=NB.new W0.ay hacc
 have hno:=se W0 hacc
 have jG:Step G'.B H1 (upd H1 acc (.lst [])):= .same W0.ay (cH hacc)
 refine⟨fun i m σ H=>m=n-i/\i<=n/\∃ds xs,Wd G' (fun x=>nb x\/x=acc) bM σ H/\Step G'.B H1 H/\H acc=some (.lst xs)/\af (G'.S (fun x=>nb x\/x=acc) fl) H ds xs/\ds.length<=i/\I i ds,⟨n,by simp,fW _,[],[],W1,jG,aY, .nil,bh _,h0⟩,?_⟩
 rintro i m σ H ⟨rfl,hi,ds,xs,W,st,hx,hd,hl,hI⟩
 by_cases hlt:i<n
 ·refine .inr ⟨hgo i H (hz W) hlt,fun σ H=>∃ds xs,Wd G' (fun x=>nb x\/x=acc) bM σ H/\Step G'.B H1 H/\H acc=some (.lst xs)/\af (G'.S (fun x=>nb x\/x=acc) fl) H ds xs/\ds.length<=i+1/\I (i+1) ds,fun σ' H' q=>⟨n-(i+1),by omega,rfl,hlt,q⟩,fun x H' y=>?_⟩
  obtain⟨d,hit,s2,hdx⟩:=hy W hlt y
  exact rF hn hlt (W.step s2) (.inr rfl) hN hno (st.trans s2) hacc (s2.1 _ _ hN hx) (hd.keep s2.cN) hl hdx (ht i d ds hit hl hI) fun σ' H' ds' xs' W' st' hx' hd' hl' hI'=>⟨ds',xs',W',st',hx',hd',hl',hI'⟩
 ·have e:i=n:=by omega
  subst e
  exact .inl ⟨hst H (hz W),z σ H ds xs fl W st hx hd (he ds hl hI)⟩
theorem au.at{S:Addr->Prop}{H:Hp}:∀{ks:Ks} {ps:List (Key×V)} {i:Nat} {p:Int×PyData},au S H (ks.map bJ) ps->ks[i]?=some p->∃v,ps[i]?=some (Sum.inl p.1,v)/\ai S H p.2 v
  |[],_,_,_,_,e=>by simp at e
  | q :: ks, ps, i, p, h, e => by
    rw[bC] at h
    unfold au at h
    obtain⟨y,ys,rfl,h1,h2⟩:=h
    cases i with
    | zero =>
      simp at e
      subst e
      obtain⟨y1,y2⟩:=y
      unfold bJ bP at h1
      obtain⟨g1,g2⟩:=h1
      refine⟨y2,?_,g2⟩
      have qK:y1=Sum.inl q.1:=by
        have g:pF (PyData.int q.1) y1:=g1
        cases g;rfl
      rw[qK];rfl
    |succ i=>exact au.at (i:=i) h2 (by simpa using e)
theorem aD.Oo{NF:Addr->Prop}{t0:TE}(hm:(mp.filterMap id).Nodup)(cM:kc mp ρ=bM)(hnt:∀f c v,(f,HD.th c,v)∉G.hold)
  (h:Ev G ρ t0 fun fi x=>∃ks:Ks,x= .dict (ks.map bJ)/\ks.length<=10000/\∀G':Gx,gS G' bM ks.length (fun i d=>∃p,ks[i]?=some p/\d= .tuple [.int p.1,p.2]) fi gt tc te Θ):aD G ρ (zZ NF (kG (C4 NF (tN K "dict" GX t0)) gt tc te mp)) Θ:=fun nb σ H Q W z=>by
 unfold zZ kG C4 tN
 refine h nb σ H _ W fun fi v H1 x ⟨ks,ex,hn,q⟩ s1 hv=>?_
 subst ex
 have W1:=W.step s1
 have hv0:=hv
 unfold ai at hv
 obtain⟨a,ps,rfl,n,hp,hd⟩:=hv
 have hlen:ps.length=ks.length:=by have:=congrArg List.length (au.keys hd);simpa using this
 have hS:¬G.S nb false a:=fun z=>n (cT (fun w=>by cases w) (fun _ w=>w) a z)
 have hN:NB G.B a:=gU fun z=>hS (.inr (.inr (.inl z)))
 refine⟨?tv,a,ps,rfl,rfl,hp,fun p wF=>?_⟩
 case tv=>
  refine .inr (.inr (.inl ⟨rfl,?_⟩))
  rcases hp with hp|⟨o,hp⟩
  ·exact .inl ⟨_,hp⟩
  ·exact .inr (.inr ⟨_,_,hp⟩)
 have s2:Step G.B H1 (upd H1 p (kN p a)):= .same W1.ay (cH wF)
 have W2:=W1.step s2
 have hpa:p≠a:=fun e=>by
  subst e
  rcases hp with hp|⟨o,hp⟩<;>rw[wF] at hp<;>cases hp
 have hv2:ai (G.S nb fi) (upd H1 p (kN p a)) (.dict (ks.map bJ)) (.ref a):=hv0.keep s2.cN
 have hp2:Rd (upd H1 p (kN p a)) a (.dK ps):=by
  rcases hp with hp|⟨o,hp⟩
  ·exact .inl (by rw[aB (bx hpa)];exact hp)
  ·exact .inr ⟨o,by rw[aB (bx hpa)];exact hp⟩
 generalize Mc:upd H1 p (kN p a)=H2 at s2 W2 hv2 hp2
 have SE:H2 p=some (kN p a):=by rw[<-Mc];exact aY
 have yl:∀{G':Gx} {o:Obj} {nb ρ σ H i x H'},Wd (G'.hd fi (.dict (ks.map bJ)) (.ref a)) nb ρ σ H->H a=some (.bR o (.dK ps))->i<ks.length->(qW a o ps).lI i H x H'->∃d,(∃p,ks[i]?=some p/\d= .tuple [.int p.1,p.2])/\Step (G'.hd fi (.dict (ks.map bJ)) (.ref a)).B H H'/\ai ((G'.hd fi (.dict (ks.map bJ)) (.ref a)).S nb fi) H' d x:=fun{G' o nb ρ σ H i x H'} W ha hi hy=>by
  obtain⟨T,r,rfl,hT,hr,rfl⟩:=hy
  obtain⟨a',ps',e',n',j0,hd'⟩:=(show ai (G'.S nb fi) H (.dict (ks.map bJ)) (.ref a) from W.c8.2)|>fun h=>by unfold ai at h;exact h
  cases e'
  have NQ:ps'=ps:=by
   rcases j0 with j0|⟨o',j0⟩
   ·rw[ha] at j0;cases j0
   ·rw[ha] at j0;cases j0;rfl
  subst NQ
  obtain⟨v,hv,hD⟩:=au.at hd' (aF hi)
  rw[hr] at hv
  cases hv
  have st:Step G'.B H (upd H T (.tup [kV (Sum.inl ks[i].1),v])):= .same W.ay (cH hT)
  exact⟨_,⟨_,aF hi,rfl⟩,st, .tup (W.fresh hT) aY (.cons (.int _) (.cons (hD.keep st.cN) .nil))⟩
 refine⟨p,a,ps,rfl,SE,hpa,?_⟩
 rcases hp2 with hp2|⟨o,hp2⟩
 ·refine .inl ⟨hp2,fun o nf acc hacc=>?_⟩
  have hG:∀u,G.H0 a=some u->u= .dK ps:=fun u e=>by have:=W2.old a u hN e;rw[hp2] at this;exact(fN this).symm
  have hF:∀f o' qs v,(f,HD.fz o' qs,v)∈G.hold->v≠ .ref a:=fun f o' qs v m e=>by
   obtain⟨c,e1,_,e3⟩:=(show gJ (G.S nb f) H2 (.fz o' qs) v from W2.eU _ m)
   rw[e1] at e;cases e
   rw[hp2] at e3;cases e3
  have hT:∀f c v,(f,HD.th c,v)∈G.hold->a∉c.F:=fun f c v m=>absurd m (hnt f c v)
  have mv:=Mv.bR (o:=o) hp2
  have W3:=(W2.freeze (o:=o) hp2 hS hT).hd (f:=fi) (d:= .dict (ks.map bJ)) (v:= .ref a) ((ai.mv mv hv2).av fun b z=>Gx.v7.mp z)
  have W4:Wd ((G.fz a o ps).hd fi (.dict (ks.map bJ)) (.ref a)) nb bM (eZ mp σ) (upd H2 a (.bR o (.dK ps))):=by rw[<-cM];exact W3.eZ hm
  have IF:acc≠a:=fun e=>by subst e;rw[aY] at hacc;cases hacc
  refine FZ (G':=(G.fz a o ps).hd fi (.dict (ks.map bJ)) (.ref a)) (n:=ks.length) (fun i H h hi=>⟨h,by omega⟩) (fun H h=>⟨h,hlen⟩) hn (fun W=>(W.c8.1.m9 hG hF hT).2) (fun W hi hy=>yl (G':=G.fz a o ps) W (W.c8.1.m9 hG hF hT).2 hi hy) W4 hacc (q _) fun σ' H' ds xs fl W' st hx hds ki=>?_
  obtain⟨W5,hz⟩:=W'.c8.1.m9 hG hF hT
  refine .inr ⟨a,o,ps,hz,nf,?_⟩
  have P5:H2 acc=none:=by rw[aB IF] at hacc;exact hacc
  have lO:Step G.B H2 (upd H' a (.dK ps)):=⟨fun b u XG e=>by
   by_cases hb:b=a
   ·subst hb
    rw[hp2] at e;cases e
    exact aY
   ·rw[aB hb]
    exact st.1 b u XG (by rw[aB hb];exact e),W5.ay⟩
  refine qw W (s1.trans s2) P5 lO (by rw[aB IF];exact hx) ((af.mv (Mv.m9 hz) hds).av fun b z=>?_) ki z
  exact Gx.v7.mpr z
 ·refine .inr ⟨o,hp2,fun acc hacc=>?_⟩
  have W3:=(W2.hz hS hp2).hd (f:=fi) (d:= .dict (ks.map bJ)) (v:= .ref a) hv2
  have W4:Wd ((G.hz a o ps).hd fi (.dict (ks.map bJ)) (.ref a)) nb bM (eZ mp σ) H2:=by rw[<-cM];exact W3.eZ hm
  refine FZ (G':=(G.hz a o ps).hd fi (.dict (ks.map bJ)) (.ref a)) (n:=ks.length) (fun i H h hi=>⟨h,by omega⟩) (fun H h=>⟨h,hlen⟩) hn (fun W=>W.c8.1.FO.2) (fun W hi hy=>yl (G':=G.hz a o ps) W W.c8.1.FO.2 hi hy) W4 hacc (q _) fun σ' H' ds xs fl W' st hx hds ki=>?_
  exact .inl (qw W (s1.trans s2) hacc st hx hds ki z)
end
end L2
set_option maxRecDepth 100000
set_option maxHeartbeats 4000000
namespace L2
open PySem PySem.Spec PyProof.Rows
section
variable{G:Gx}{ρ:Rh}{te:TE}{s:TS}{gt:TG}{E:DE}{K:PySem.W.Frag}
theorem Sv.S8{t1 t2:TE}(h:Ev G ρ t1 fun f1 x=>∃es,x= .list es/\cV es=true/\∀v,Ev (G.hd f1 (.list es) v) ρ t2 fun f2 y=>∃dU,y= .list dU/\cV dU=true/\dU.length=es.length/\∀v2,tR ((G.hd f1 (.list es) v).hd f2 (.list dU) v2) ρ es.length (fun i d=>∃e e2,es[i]?=some e/\dU[i]?=some e2/\d= .tuple [e,e2]) true gt s E):Sv G ρ (qp (yT K t1 t2) gt s) E:=fun nb σ H D W KK=>
 h nb σ H _ W fun f1 v H0 x ⟨es,ex,hs,q⟩ s0 hv=>by
  subst ex
  have Wa:=(W.step s0).hd hv
  refine q v nb σ H0 _ Wa fun f2 v2 H1 y ⟨dU,ey,hs2,hlen,q⟩ s1 hv2=>?_
  subst ey
  obtain⟨I,h0,ht,he⟩:=q v2
  have W0:=(Wa.step s1).hd hv2
  obtain⟨_,hv'⟩:=(Wa.step s1).c8
  obtain⟨a,xs,rfl,n,hx,hd⟩:=hv'.cQ
  obtain⟨b,tK,rfl,n2,oR,hd2⟩:=hv2.cQ
  have l1:=hd.length
  have l2:=hd2.length
  have key:∀{nb ρ' σ H},Wd ((G.hd f1 (.list es) (.ref a)).hd f2 (.list dU) (.ref b)) nb ρ' σ H->(∃xs,H a=some (.lst xs)/\af (G.S nb f1) H es xs)/\∃ys,H b=some (.lst ys)/\af (G.S nb f2) H dU ys:=fun W=>by
   obtain⟨a',xs',e',_,h',d'⟩:=W.c8.1.c8.2.cQ
   cases e'
   obtain⟨b',ys',e'',_,h'',d''⟩:=W.c8.2.cQ
   cases e''
   exact⟨⟨xs',h',d'⟩,ys',h'',d''⟩
  refine⟨a,b,rfl,rfl,⟨xs, .of hx⟩,⟨tK, .of oR⟩,?_⟩
  refine⟨fun i m σ H=>m=es.length-i/\i<=es.length/\∃nb ρ',I i ρ'/\Wd ((G.hd f1 (.list es) (.ref a)).hd f2 (.list dU) (.ref b)) nb ρ' σ H,⟨es.length,by simp,fW _,nb,ρ,h0,W0⟩,?_⟩
  rintro i m σ H ⟨rfl,hi,nb,ρ',hI,W⟩
  obtain⟨⟨xs,hx,hD⟩,ys,hy,rN⟩:=key W
  have l1:=hD.length
  have l2:=rN.length
  by_cases hlt:i<es.length
  ·refine .inr ⟨⟨xs,ys,xs[i]'(by omega),ys[i]'(by omega), .of hx, .of hy,aF _,aF _⟩,fun σ H=>∃nb ρ',I (i+1) ρ'/\Wd ((G.hd f1 (.list es) (.ref a)).hd f2 (.list dU) (.ref b)) nb ρ' σ H,fun σ' H' q=>⟨es.length-(i+1),by omega,rfl,hlt,q⟩,fun x H' y=>?_⟩
   obtain⟨p,u,w,e,hn,hz,hz2,e2⟩:=y
   subst e e2
   have hu:=hz xs (.of hx)
   have hw:=hz2 ys (.of hy)
   obtain⟨x',hx',dx⟩:=hD.get (aF hlt)
   rw[hu] at hx';cases hx'
   obtain⟨y',hy',dy⟩:=rN.get (aF (show i<dU.length by omega))
   rw[hw] at hy';cases hy'
   have sx:=jQ.mp hs _ (c6 hlt)
   have sy:=jQ.mp hs2 _ (c6 (show i<dU.length by omega))
   have st:Step ((G.hd f1 (.list es) (.ref a)).hd f2 (.list dU) (.ref b)).B H (upd H p (.tup [u,w])):= .same W.ay (cH hn)
   refine ht i _ ρ' ⟨_,_,aF hlt,aF (show i<dU.length by omega),rfl⟩ hI nb σ _ _ _ (W.step st) (.tup (W.fresh hn) aY (.cons (dx.ia sx) (.cons (dy.ia sy) .nil))) fun σ2 gM q W2=>q nb σ2 _ _ W2 ?_
   exact⟨fun nb ρ σ H q W=>⟨nb,ρ,q,W⟩,fun nb ρ σ H q W=>KK.nx nb ρ σ H q W.c8.1.c8.1,fun nb ρ σ H q W=>⟨nb,ρ,q,W⟩,fun nb ρ σ f v H d q W hv=>KK.rt nb ρ σ f v H d q W.c8.1.c8.1 hv,fun nb ρ σ v H q W=>KK.rw nb ρ σ v H q W.c8.1.c8.1⟩
  ·have e:i=es.length:=by omega
   subst e
   exact .inl ⟨⟨xs,ys, .of hx, .of hy,by omega⟩,KK.nx nb ρ' σ H (he ρ' hI) W.c8.1.c8.1⟩
end
theorem VD{ks:Ks}(nd:(ks.map (·.1)).Nodup):nK [] ks=ks:=by
  have key:∀(S acc:Ks),((acc++S).map (·.1)).Nodup->nK acc S=acc++S:=by
    intro S
    induction S with
    |nil=>intro acc _;simp[nK]
    | cons x S ih =>
      intro acc nd
      have hx:x.1∉acc.map (·.1):=fun z=>by
        rw[cE] at nd
        exact(Ea.mp nd).2.2 x.1 z x.1 (by simp) rfl
      show nK (lq acc x.1 x.2) S=_
      have e:lq acc x.1 x.2=acc++[x]:=by
        unfold lq
        rw[if_neg (by rw[ER];exact hx)]
      rw[e,ih (acc++[x]) (by rw[Ag];exact nd),Ag]
      rfl
  exact key ks [] (by simpa using nd)
theorem OT{r:List Int}{i:Nat}(h:i<r.length):r[i]?=some (gI r i):=by
 unfold gI
 rw[bf,aF h]
 rfl
def uP(q:Int×az):PyData:= .tuple [.int q.1,br q.2]
structure jt(p n:Int)(cs:List az)(sp:List Int)(ru:List (Int×az)):Prop where
 QI:sp.Pairwise (· < ·)
 rg:∀s∈sp,0<=s/\s<n
 OB:(ru.map (·.1)).Nodup
 n9:∀q∈ru,0<=q.1/\q.1<n/\q.1∉sp/\q.2.map (·.1)=sp/\∀pr∈q.2,0<=pr.2/\pr.2<p
 all:∀j:Nat,j<n.toNat->(j:Int)∈sp\/(j:Int)∈ru.map (·.1)
 eqv:∀w,aK p n.toNat w->(VN p cs w↔∀q∈ru,p∣gI w q.1.toNat+aV q.2 (w.map some))
 rank:Rk p n.toNat (VN p cs) ru.length
 cnt:sp.length+ru.length=n.toNat
theorem G9:∀(sp:List Nat) (f:Nat->Int) (r:List Int),sp.Nodup->(∀s∈sp,s<r.length)->aj (fun i=>if i∈sp then f i else 0) r=(sp.map fun s=>f s*gI r s).sum
  |[],f,r,_,_=>jq _ r fun i _=>by simp
  | s :: sp, f, r, hn, hl => by
    obtain⟨h1,h2⟩:=iE.mp hn
    have e:(fun i=>if i∈s::sp then f i else 0)=fun i=>(fun i=>if i=s then f i else 0) i+(fun i=>if i∈sp then f i else 0) i:=by
      funext i
      by_cases c:i=s
      · subst c;simp[h1]
      · simp[c]
    rw[e,nS,G9 sp f r h2 fun x hx=>hl x (bY _ hx),lQ _ r s (hl s (dj ..)) fun i _ c=>by rw[if_neg c,fF],if_pos rfl]
    rfl
theorem PK{w:List Int}{n:Int}(hw:w.length=n.toNat){sp:List Nat}(g:Nat->Int)(h:∀s∈sp,s<n.toNat):aV (sp.map fun(s:Nat)=>((s:Int),g s)) (w.map some)=(sp.map fun s=>gI w s*g s).sum:=by
 rw[iw hw _ fun pr aC=>?_,fZ]
 ·congr 1
 ·obtain⟨s,hs,rfl⟩:=aN.mp aC
  have:=h s hs
  exact⟨by show(0:Int)<=s;omega,by show(s:Int)<n;omega⟩
def gh(n:Nat)(T:List (Nat×Nat)):List Nat:=(List.range n).filter fun j=>decide (j∉T.map (·.2))
def iW(R:List (List Int))(T:List (Nat×Nat)):Ks:=T.map fun q=>((q.2:Int),aR (R.getD q.1 []))
section
variable{p n:Int}{cs:List az}{R R0:List (List Int)}{T:List (Nat×Nat)}{D:List Nat}{w:Nat}
theorem c9.tQ(hS:c9 p w R0 R T D):(T.map (·.2)).Nodup:=by
 have h1:=hS.nd
 rw[List.Nodup,jV] at h1⊢
 exact Fo (fun{a b} ha hb hne z=>hne (hS.inj ha hb z)) h1
theorem Bp:(iW R T).map (·.1)=T.map fun q=>(q.2:Int):=by unfold iW;rw[fZ];rfl
theorem Hy(hS:c9 p w R0 R T D):((iW R T).map (·.1)).Nodup:=by
 rw[Bp]
 have h:=hS.tQ
 rw[List.Nodup,jV] at h⊢
 exact h.imp fun h z=>h (by omega)
theorem Ve(hS:c9 p w R0 R T D){q:Nat×Nat}(hq:q∈T):iZ (iW R T) (q.2:Int)=some (aR (R.getD q.1 [])):=by
  have hn:=Hy hS
  unfold iW at hn⊢
  clear hS
  induction T with
  |nil=>cases hq
  | cons t T ih =>
    rw[bC] at hn⊢
    rw[pB]
    rw[bC,iE] at hn
    rcases bq.mp hq with z|z
    · subst z;rw[if_pos rfl]
    · rw[if_neg (fun y:((t.2:Nat):Int)=q.2=>hn.1 (by
        rw[fZ]
        exact aN.mpr ⟨q,z,y.symm⟩))]
      exact ih z hn.2
theorem UP(k:Nat):kr (iW R T) (k:Int)=decide (k∈T.map (·.2)):=by
 rw[k9,ER,Bp,decide_eq_true_eq]
 constructor
 ·intro h
  obtain⟨q,hq,e⟩:=aN.mp h
  exact aN.mpr ⟨q,hq,by omega⟩
 ·intro h
  obtain⟨q,hq,e⟩:=aN.mp h
  exact aN.mpr ⟨q,hq,by omega⟩
def mW(R:List (List Int))(T:List (Nat×Nat))(sp:List Nat)(pl:Nat):Int×az:=((pl:Int),sp.map fun(s:Nat)=>((s:Int),gI (R.getD ((T.find? fun q=>q.2==pl).elim 0 (·.1)) []) s))
theorem uo(hS:c9 p w R0 R T D){q:Nat×Nat}(hq:q∈T)(sp:List Nat):mW R T sp q.2=((q.2:Int),sp.map fun(s:Nat)=>((s:Int),gI (R.getD q.1 []) s)):=by
  unfold mW
  cases e:T.find? (fun z=>z.2==q.2) with
  |none=>have:=List.find?_eq_none.mp e q hq;simp at this
  | some z =>
    have hz:=C2 e
    have he:z.2=q.2:=by simpa using C6 e
    show(_,_)=_
    rw[show((some z).elim 0 fun x:Nat×Nat=>x.1)=z.1 from rfl,hS.inj hz hq he]
theorem GB(hN:cP p n cs)(hS:c9 p (n.toNat+cs.length) (dh n.toNat cs.length cs) R T (List.range n.toNat)){q:Nat×Nat}(hq:q∈T){w:List Int}(hw:w.length=n.toNat):aj (gI w) (R.getD q.1 [])=gI w q.2+aV ((gh n.toNat T).map fun(s:Nat)=>((s:Int),gI (R.getD q.1 []) s)) (w.map some):=by
  obtain⟨g1,g2⟩:=hS.rg q hq
  have hr:=hS.ok (R.getD q.1 []) (by rw[ic g1];exact c6 _)
  have hrl:=hr.len
  generalize hrr:R.getD q.1 []=r at hrl hr
  have hone:∀q'∈T,gI r q'.2=if q.1=q'.1 then 1 else 0:=fun q' hq'=>by rw[<-hrr];exact hS.one q' hq' q.1 g1
  rw[dS] at g2
  have g9:∀s∈gh n.toNat T,s<n.toNat:=fun s hs=>dS.mp (iP.mp hs).1
  have hnd:(gh n.toNat T).Nodup:=rQ.filter _
  rw[PK hw (gI r) g9,<-G9 (gh n.toNat T) (gI w) r hnd fun s hs=>by have:=g9 s hs;omega]
  have e:gI w=fun i=>(fun i=>if i∈T.map (·.2) then gI w i else 0) i+(fun i=>if i∈gh n.toNat T then gI w i else 0) i:=by
    funext i
    by_cases c:i<n.toNat
    · by_cases c2:i∈T.map (·.2)
      · have:i∉gh n.toNat T:=fun z=>by have:=(iP.mp z).2;simp at this;obtain⟨q',hq',e⟩:=aN.mp c2;exact this q'.1 (by rw[<-e];exact hq')
        simp only[]
        rw[if_pos c2,if_neg this,jg]
      · have:i∈gh n.toNat T:=iP.mpr ⟨dS.mpr c,decide_eq_true c2⟩
        simp only[]
        rw[if_neg c2,if_pos this,mV]
    · have z:gI w i=0:=j9 (by omega)
      simp[z]
  rw[show aj (gI w) r=aj (fun i=>(fun i=>if i∈T.map (·.2) then gI w i else 0) i+(fun i=>if i∈gh n.toNat T then gI w i else 0) i) r from congrArg (fun f=>aj f r) e,nS]
  congr 1
  rw[lQ _ r q.2 (by omega) fun i hi hne=>?_,if_pos (kj hq),hone q hq,if_pos rfl,oK]
  by_cases c2:i∈T.map (·.2)
  · obtain⟨q',hq',rfl⟩:=aN.mp c2
    have:q.1≠q'.1:=fun z=>by
      have h3:=hS.one q' hq' q'.1 (hS.rg q' hq').1
      have h4:=hS.tQ
      have key:∀(T:List (Nat×Nat)),(T.map (·.1)).Nodup->∀a b:Nat×Nat,a∈T->b∈T->a.1=b.1->a=b:=by
        intro T
        induction T with
        |nil=>intro _ a b ha;cases ha
        | cons t T ih =>
          intro hn a b ha hb e
          rw[bC,iE] at hn
          rcases bq.mp ha with y|y<;>rcases bq.mp hb with y2|y2
          · rw[y,y2]
          · exact absurd (aN.mpr ⟨b,y2,by rw[<-e,y]⟩) hn.1
          · exact absurd (aN.mpr ⟨a,y,by rw[e,y2]⟩) hn.1
          · exact ih hn.2 a b y y2 e
      exact hne (congrArg Prod.snd (key T hS.nd q' q hq' hq z.symm))
    rw[hone q' hq',if_neg this,dI]
  · rw[if_neg c2,fF]
theorem jt.of(hN:cP p n cs)(hS:c9 p (n.toNat+cs.length) (dh n.toNat cs.length cs) R T (List.range n.toNat)){P:List Nat}(hP:P.Perm (T.map (·.2))):jt p n cs ((gh n.toNat T).map fun(s:Nat)=>(s:Int)) (P.map (mW R T (gh n.toNat T))):=by
 have p2:=hN.hp.1
 have n0:=hN.n0
 have g9:∀s∈gh n.toNat T,s<n.toNat/\s∉T.map (·.2):=fun s hs=>⟨dS.mp (iP.mp hs).1,of_decide_eq_true (iP.mp hs).2⟩
 have ly:∀pl,pl∈P↔pl∈T.map (·.2):=fun pl=>hP.mem_iff
 have Ip:(P.map (mW R T (gh n.toNat T))).map (·.1)=P.map fun(s:Nat)=>(s:Int):=by rw[fZ];rfl
 have jH:∀q∈T,aK p (n.toNat+cs.length) (R.getD q.1 []):=fun q hq=>by
  have:=(hS.rg q hq).1
  rw[ic this];exact hS.ok _ (c6 _)
 have Bm:P.Nodup:=hP.nodup_iff.mpr hS.tQ
 have hlen:P.length=T.length:=by rw[hP.length_eq,ak]
 refine⟨?_,fun s hs=>?_,?_,fun x hx=>?_,fun j hj=>?_,fun w hw=>?_,?_,?_⟩
 ·rw[jV]
  exact(Fc.filter _).imp fun h=>by omega
 ·obtain⟨k,hk,rfl⟩:=aN.mp hs
  have:=(g9 k hk).1
  omega
 ·rw[Ip,List.Nodup,jV]
  exact Bm.imp fun h z=>h (by omega)
 ·obtain⟨pl,hpl,rfl⟩:=aN.mp hx
  obtain⟨q,hq,rfl⟩:=aN.mp ((ly pl).mp hpl)
  rw[uo hS hq]
  have hr:=dS.mp (hS.rg q hq).2
  refine⟨by show(0:Int)<=q.2;omega,by show(q.2:Int)<n;omega,fun z=>?_,?_,fun pr aC=>?_⟩
  ·obtain⟨s,hs,e⟩:=aN.mp z
   have e:(s:Int)=q.2:=e
   exact(g9 s hs).2 (by rw[show s=q.2 by omega];exact kj hq)
  ·rw[fZ];rfl
  ·obtain⟨s,hs,rfl⟩:=aN.mp aC
   exact(jH q hq).g (by omega)
 ·by_cases c:j∈T.map (·.2)
  ·exact .inr (by rw[Ip];exact aN.mpr ⟨j,(ly j).mpr c,rfl⟩)
  ·exact .inl (aN.mpr ⟨j,iP.mpr ⟨dS.mpr hj,decide_eq_true c⟩,rfl⟩)
 ·rw[<-VN.rows hN hw.len]
  refine(hS.sp (gI w)).trans ?_
  constructor
  ·intro h x hx
   obtain⟨pl,hpl,rfl⟩:=aN.mp hx
   obtain⟨q,hq,rfl⟩:=aN.mp ((ly pl).mp hpl)
   rw[uo hS hq]
   have:=(hS.rg q hq).1
   show p∣gI w ((q.2:Nat):Int).toNat+aV _ _
   rw[fX,<-GB hN hS hq hw.len]
   exact h _ (by rw[ic this];exact c6 _)
  ·intro h r hr
   obtain⟨i,hi⟩:=dZ hr
   have hil:=(aP.mp hi).1
   have hg:R.getD i []=r:=by rw[bf,hi];rfl
   by_cases c:i∈T.map (·.1)
   ·obtain⟨q,hq,rfl⟩:=aN.mp c
    have:=h (mW R T (gh n.toNat T) q.2) (aN.mpr ⟨q.2,(ly q.2).mpr (kj hq),rfl⟩)
    rw[uo hS hq] at this
    have this:p∣gI w ((q.2:Nat):Int).toNat+aV _ _:=this
    rw[fX,<-GB hN hS hq hw.len,hg] at this
    exact this
   ·refine⟨0,?_⟩
    rw[dI]
    refine jq _ r fun j hj=>?_
    by_cases cj:j<n.toNat
    ·have:=hS.zero i hil c j (dS.mpr cj)
     rw[hg] at this
     rw[this,dI]
    ·rw[j9 (by rw[hw.len];omega),fF]
 ·rw[ak,hlen];exact hS.rank hN
 ·rw[ak,ak,hlen]
  unfold gh
  have h1:∀(l:List Nat) (Q:Nat->Bool),(l.filter Q).length+(l.filter fun x=>!Q x).length=l.length:=by
   intro l Q
   induction l with
   |nil=>rfl
   |cons x l ih=>cases h:Q x<;>simp[h]<;>omega
  have h2:=h1 (List.range n.toNat) fun j=>decide (j∉T.map (·.2))
  rw[fk] at h2
  have h3:((List.range n.toNat).filter fun j=>!decide (j∉T.map (·.2))).Perm (T.map (·.2)):=by
   refine(List.perm_ext_iff_of_nodup (rQ.filter _) hS.tQ).mpr fun j=>?_
   rw[iP,dS]
   constructor
   ·rintro⟨_,h⟩
    simpa using h
   ·intro h
    refine⟨?_,by simpa using h⟩
    obtain⟨q,hq,rfl⟩:=aN.mp h
    exact dS.mp (hS.rg q hq).2
  have h4:=h3.length_eq
  rw[ak] at h4
  omega
end
def putL(w:List Int)(sp ls:List Int):List Int:=(sp.zip ls).foldl (fun w q=>w.set q.1.toNat q.2) w
def ji(p:Int)(w:List Int)(ru:List (Int×az)):List Int:=ru.foldl (fun w q=>w.set q.1.toNat (-(aV q.2 (w.map some)%p)%p)) w
def i9(p n:Int)(sp:List Int)(ru:List (Int×az))(ls:List Int):List Int:=ji p (putL (List.replicate n.toNat 0) sp ls) ru
theorem v8:∀(sp ls w:List Int),(putL w sp ls).length=w.length
  |[],_,_=>by simp[putL]
  |_::_,[],_=>by simp[putL]
  | s :: sp, l :: ls, w => by
    show(putL (w.set s.toNat l) sp ls).length=_
    rw[v8 sp ls,gn]
theorem CV{p:Int}:∀(sp ls w:List Int),(∀x∈ls,0<=x/\x<p)->(∀x∈w,0<=x/\x<p)->∀x∈putL w sp ls,0<=x/\x<p
  |[],_,w,_,h=>by simpa[putL] using h
  |_::_,[],w,_,h=>by simpa[putL] using h
  | s :: sp, l :: ls, w, hl, h => by
    show∀x∈putL (w.set s.toNat l) sp ls,_
    refine CV sp ls _ (fun x hx=>hl x (bY _ hx)) fun x hx=>?_
    rcases lX hx with z|z
    · exact h x z
    · rw[z];exact hl l (dj ..)
theorem Gn:∀(sp ls w:List Int) (j:Nat),(∀s∈sp,s.toNat≠j)->gI (putL w sp ls) j=gI w j
  |[],_,w,_,_=>by simp[putL]
  |_::_,[],w,_,_=>by simp[putL]
  | s :: sp, l :: ls, w, j, h => by
    show gI (putL (w.set s.toNat l) sp ls) j=_
    rw[Gn sp ls _ j fun x hx=>h x (bY _ hx)]
    unfold gI
    rw[bf,bQ (h s (dj ..)),bf]
theorem GQ:∀(sp ls w:List Int),sp.Pairwise (· < ·)->(∀s∈sp,0<=s/\s.toNat<w.length)->∀(i:Nat) s l,sp[i]?=some s->ls[i]?=some l->gI (putL w sp ls) s.toNat=l
  |[],_,w,_,_,i,s,l,e,_=>by simp at e
  |_::_,[],w,_,_,i,s,l,_,e=>by simp at e
  | s0 :: sp, l0 :: ls, w, hp, h, i, s, l, e1, e2 => by
    rw[List.pairwise_cons] at hp
    show gI (putL (w.set s0.toNat l0) sp ls) s.toNat=_
    cases i with
    | zero =>
      simp at e1 e2
      subst e1 e2
      have h0:=h s0 (dj ..)
      rw[Gn sp ls _ _ fun x hx=>by have:=hp.1 x hx;have:=h x (bY _ hx);omega,jo h0.2,if_pos rfl]
    | succ i =>
      exact GQ sp ls _ hp.2 (fun x hx=>by rw[gn];exact h x (bY _ hx)) i s l (by simpa using e1) (by simpa using e2)
theorem K9{w w':List Int}{n:Int}(hw:w.length=n.toNat)(qG:w'.length=n.toNat){prs:az}(h:∀pr∈prs,0<=pr.1/\pr.1<n/\gI w pr.1.toNat=gI w' pr.1.toNat):aV prs (w.map some)=aV prs (w'.map some):=by
 rw[iw hw prs fun pr hp=>⟨(h pr hp).1,(h pr hp).2.1⟩,iw qG prs fun pr hp=>⟨(h pr hp).1,(h pr hp).2.1⟩]
 congr 1
 exact nk fun pr hp=>by rw[(h pr hp).2.2]
section
variable{p n:Int}{cs:List az}{sp:List Int}{ru:List (Int×az)}{ls:List Int}
structure lA(p n:Int)(sp:List Int)(ru:List (Int×az))(w0:List Int)(k:Nat)(w:List Int):Prop where
 len:w.length=n.toNat
 rg:∀x∈w,0<=x/\x<p
 out:∀j,(∀q∈ru.take k,q.1.toNat≠j)->gI w j=gI w0 j
 on:∀q∈ru.take k,gI w q.1.toNat= -(aV q.2 (w0.map some)%p)%p
theorem lA.init{w0:List Int}(h1:w0.length=n.toNat)(h2:∀x∈w0,0<=x/\x<p):lA p n sp ru w0 0 w0:=⟨h1,h2,fun _ _=>rfl,fun _ h=>by simp at h⟩
theorem lA.due(hM:jt p n cs sp ru){w0 w:List Int}{k:Nat}(hI:lA p n sp ru w0 k w)(hw0:w0.length=n.toNat){q:Int×az}(hq:q∈ru):aV q.2 (w.map some)=aV q.2 (w0.map some):=by
 obtain⟨g0,g1,g2,g3,g4⟩:=hM.n9 q hq
 refine K9 hI.len hw0 fun pr aC=>?_
 have hs:pr.1∈sp:=by rw[<-g3];exact kj aC
 have:=hM.rg pr.1 hs
 refine⟨this.1,this.2,hI.out _ fun x hx z=>?_⟩
 obtain⟨a0,a1,a2,_⟩:=hM.n9 x (nh hx)
 exact a2 (by rw[show x.1=pr.1 by omega];exact hs)
theorem lA.step(hM:jt p n cs sp ru)(hp:0<p){w0 w:List Int}{k:Nat}(hI:lA p n sp ru w0 k w)(hw0:w0.length=n.toNat){q:Int×az}(hq:ru[k]?=some q):lA p n sp ru w0 (k+1) (w.set q.1.toNat (-(aV q.2 (w.map some)%p)%p)):=by
 have sZ:=aW hq
 obtain⟨g0,g1,g2,g3,g4⟩:=hM.n9 q sZ
 have hlt:q.1.toNat<w.length:=by rw[hI.len];omega
 have hnd:=hM.OB
 rw[hI.due hM hw0 sZ]
 have et:ru.take (k+1)=ru.take k++[q]:=by rw[nZ,hq];rfl
 refine⟨by rw[gn];exact hI.len,fun x hx=>?_,fun j hj=>?_,fun x hx=>?_⟩
 ·rcases lX hx with z|z
  ·exact hI.rg x z
  ·rw[z];exact⟨eG _ (by omega),e7 _ hp⟩
 ·rw[et] at hj
  rw[jo hlt,if_neg (fun z=>hj q (iM _ (bF.mpr rfl)) z.symm)]
  exact hI.out j fun x hx=>hj x (kD _ hx)
 ·rw[et] at hx
  rw[jo hlt]
  rcases fJ.mp hx with z|z
  ·have hne:x.1.toNat≠q.1.toNat:=fun e=>by
    obtain⟨a0,a1,_⟩:=hM.n9 x (nh z)
    obtain⟨i,hi⟩:=dZ z
    have hik:i<k:=by have:=(aP.mp hi).1;rw[cZ] at this;omega
    rw[nF hik] at hi
    rw[List.Nodup,jV,En] at hnd
    obtain⟨l1,e1⟩:=aP.mp hi
    obtain⟨l2,e2⟩:=aP.mp hq
    exact hnd i k l1 l2 hik (by rw[e1,e2];omega)
   rw[if_neg hne]
   exact hI.on x z
  ·rw[bF.mp z,if_pos rfl]
theorem ze(hM:jt p n cs sp ru)(hp:0<p){w0:List Int}(hw0:w0.length=n.toNat)(h2:∀x∈w0,0<=x/\x<p):∀k,k<=ru.length->lA p n sp ru w0 k (ji p w0 (ru.take k))
  |0,_=>by rw[yu];exact .init hw0 h2
  | k + 1, hk => by
    have hq:ru[k]?=some ru[k]:=aF (by omega)
    have e:ji p w0 (ru.take (k+1))=(ji p w0 (ru.take k)).set (ru[k]).1.toNat (-(aV (ru[k]).2 ((ji p w0 (ru.take k)).map some)%p)%p):=by
      rw[nZ,hq]
      unfold ji
      rw[rZ]
      rfl
    rw[e]
    exact(ze hM hp hw0 h2 k (by omega)).step hM hp hw0 hq
theorem jt.made(hM:jt p n cs sp ru)(hp:2<=p)(hl:ls.length=sp.length)(hr:∀x∈ls,0<=x/\x<p):aK p n.toNat (i9 p n sp ru ls)/\VN p cs (i9 p n sp ru ls)/\∀(i:Nat) s l,sp[i]?=some s->ls[i]?=some l->gI (i9 p n sp ru ls) s.toNat=l:=by
 have hw0:(putL (List.replicate n.toNat 0) sp ls).length=n.toNat:=by rw[v8,fy]
 have h2:=CV (p:=p) sp ls (List.replicate n.toNat 0) hr fun x hx=>by rw[nE] at hx;omega
 have hI:=ze hM (by omega) hw0 h2 ru.length (bh _)
 have sL:=fun q hq=>lA.due hM hI hw0 (q:=q) hq
 rw[eE] at hI sL
 have hW:aK p n.toNat (i9 p n sp ru ls):=⟨hI.len,hI.rg⟩
 refine⟨hW,(hM.eqv _ hW).mpr fun q hq=>?_,fun i s l e1 e2=>?_⟩
 ·have h1:=hI.on q (by rw[eE];exact hq)
  show p∣gI (ji p _ ru) q.1.toNat+aV q.2 ((ji p _ ru).map some)
  rw[h1,sL q hq,iC,iC]
  generalize aV q.2 _=X
  exact⟨X/p- -(X-p*(X/p))/p,by grind⟩
 ·have hs:=aW e1
  have ux:=hM.rg s hs
  show gI (ji p _ ru) s.toNat=l
  rw[hI.out s.toNat fun q hq z=>?_]
  ·exact GQ sp ls _ hM.QI (fun s hs=>by have:=hM.rg s hs;rw[fy];omega) i s l e1 e2
  ·rw[eE] at hq
   obtain⟨a0,a1,a2,_⟩:=hM.n9 q hq
   exact a2 (by rw[show q.1=s by omega];exact hs)
theorem jt.uniq(hM:jt p n cs sp ru)(hp:2<=p)(hl:ls.length=sp.length)(hr:∀x∈ls,0<=x/\x<p){w:List Int}(hw:aK p n.toNat w)(hV:VN p cs w)(hs:∀(i:Nat) s l,sp[i]?=some s->ls[i]?=some l->gI w s.toNat=l):w=i9 p n sp ru ls:=by
 obtain⟨h1,h2,h3⟩:=hM.made hp hl hr
 have g9:∀s∈sp,gI w s.toNat=gI (i9 p n sp ru ls) s.toNat:=fun s hs'=>by
  obtain⟨i,hi⟩:=dZ hs'
  have hil:=(aP.mp hi).1
  have hli:ls[i]?=some ls[i]:=aF (by omega)
  rw[hs i s _ hi hli,h3 i s _ hi hli]
 have hall:∀j<n.toNat,gI w j=gI (i9 p n sp ru ls) j:=fun j hj=>by
  rcases hM.all j hj with z|z
  ·have:=g9 _ z
   rwa[fX] at this
  ·obtain⟨q,hq,e⟩:=aN.mp z
   obtain⟨g0,g1,g2,g3,g4⟩:=hM.n9 q hq
   have e1:=(hM.eqv w hw).mp hV q hq
   have e2:=(hM.eqv _ h1).mp h2 q hq
   have e3:aV q.2 (w.map some)=aV q.2 ((i9 p n sp ru ls).map some):=K9 hw.len h1.len fun pr aC=>by
    have hs:pr.1∈sp:=by rw[<-g3];exact kj aC
    have:=hM.rg pr.1 hs
    exact⟨this.1,this.2,g9 _ hs⟩
   rw[e3] at e1
   have ej:q.1.toNat=j:=by omega
   rw[ej] at e1 e2
   have b1:=hw.g (i:=j) (by omega)
   have b2:=h1.g (i:=j) (by omega)
   obtain⟨x,hx⟩:=e1
   obtain⟨y,hy⟩:=e2
   have hd:gI w j-gI (i9 p n sp ru ls) j=p*(x-y):=by rw[kU];omega
   rcases Int.lt_trichotomy (x-y) 0 with z|z|z
   ·have:p*(x-y)<=p*(-1):=zm (by omega) (by omega)
    omega
   ·rw[z] at hd;omega
   ·have:p*1<=p*(x-y):=zm (by omega) (by omega)
    omega
 apply nJ
 ·rw[hw.len,h1.len]
 ·intro i g1 g2
  have:=hall i (by rw[<-hw.len];exact g1)
  unfold gI at this
  rw[bf,bf,aF g1,aF g2] at this
  exact this
end
def rO(p n:Int)(sp:List Int)(ru:List (Int×az)):Fs:=[("p", .d (.int p)),("n", .d (.int n)),("spots", .d (aR sp)),("rules", .d (.list (ru.map uP)))]
theorem iu.Wm{p n:Int}{cs:List az}{aE:List Int}{c:Nat}{prs:az}{x:Int}{r:List Int}(h:iu p n cs aE c prs x r)(hc:cs[c]?=some prs)(hx:aE[c]?=some x):iu p n cs aE (c+1) [] 0 r:=by
 refine⟨h.ok,fun i hi=>?_⟩
 have h1:=(aP.mp hc).1
 have h2:=(aP.mp hx).1
 have e1:cs.take (c+1)=cs.take c++[prs]:=by rw[nZ,hc];rfl
 have e2:aE.take (c+1)=aE.take c++[x]:=by rw[nZ,hx];rfl
 rw[e1,e2,CU i prs x _ _ (by rw[cZ,cZ];omega),dI,jg]
 exact h.sum i hi
theorem Ru{p n:Int}{cs:List az}{sp:List Int}{ru:List (Int×az)}{prs:az}(hM:jt p n cs sp ru)(hp:2<=p)(hok:∀q∈cs,∀pr∈q,0<=pr.1/\pr.1<n)(aC:∀pr∈prs,0<=pr.1/\pr.1<n)(h:∀k<sp.length,p∣aV prs ((i9 p n sp ru ((List.range sp.length).map fun j=>if j=k then 1 else 0)).map some)){w:List Int}(hw:aK p n.toNat w)(hV:VN p cs w):p∣aV prs (w.map some):=by
  have RW:sO p n.toNat (VN p cs):=VN.ln hok
  have Rw:sO p n.toNat (VN p [prs]):=VN.ln fun q hq=>by rw[bF.mp hq];exact aC
  have hun:∀k:Nat,(∀x∈(List.range sp.length).map fun j=>if j=k then(1:Int) else 0,0<=x/\x<p):=fun k x hx=>by
    obtain⟨j,_,rfl⟩:=aN.mp hx
    split<;>omega
  have jd:∀k:Nat,((List.range sp.length).map fun j=>if j=k then(1:Int) else 0).length=sp.length:=fun k=>by rw[ak,fk]
  have key:∀k:Nat,k<=sp.length->∃u,aK p n.toNat u/\VN p cs u/\VN p [prs] u/\∀(i:Nat) s,sp[i]?=some s->gI u s.toNat=if i<k then gI w s.toNat else 0:=by
    intro k
    induction k with
    | zero =>
      intro _
      have hz:aK p n.toNat (List.replicate n.toNat 0):=⟨fy,fun x hx=>by rw[nE] at hx;omega⟩
      have hd:∀q:az,(∀pr∈q,0<=pr.1/\pr.1<n)->p∣aV q ((List.replicate n.toNat 0).map some):=fun q hq=>by
        rw[iw hz.len q hq]
        refine⟨0,?_⟩
        rw[dI]
        rw[show q.map (fun pr=>gI (List.replicate n.toNat 0) pr.1.toNat*pr.2)=q.map fun _=>(0:Int) from nk fun pr _=>by rw[lR,fF]]
        clear hq
        induction q with
        |nil=>rfl
        |cons a q ih=>rw[bC,rW,ih];rfl
      refine⟨_,hz,fun q hq=>hd q (hok q hq),fun q hq=>by rw[bF.mp hq];exact hd prs aC,fun i s _=>by rw[if_neg (by omega)];exact lR _ _⟩
    | succ k ih =>
      intro hk
      obtain⟨u,h1,h2,h3,h4⟩:=ih (by omega)
      obtain⟨m1,m2,m3⟩:=hM.made hp (jd k) (hun k)
      have XX:sp[k]?=some sp[k]:=aF (by omega)
      refine⟨addW p u (gI w (sp[k]).toNat) (i9 p n sp ru ((List.range sp.length).map fun j=>if j=k then 1 else 0)),h1.add m1 (by omega),RW _ _ _ h1 m1 h2 m2,Rw _ _ _ h1 m1 h3 (fun q hq=>by rw[bF.mp hq];exact h k (by omega)),fun i s hi=>?_⟩
      have hil:=(aP.mp hi).1
      rw[uQ h1 m1,h4 i s hi,m3 i s (if i=k then 1 else 0) hi (by rw[bu,vg hil];rfl)]
      have hb:=hw.g (i:=s.toNat) (by omega)
      by_cases c:i=k
      · subst c
        rw[XX] at hi
        cases hi
        rw[if_neg (by omega),if_pos rfl,if_pos (by omega),oK,mV,jh hb.1 hb.2]
      · rw[if_neg c,dI,jg]
        by_cases c2:i<k
        · rw[if_pos c2,if_pos (by omega),jh hb.1 hb.2]
        · rw[if_neg c2,if_neg (by omega),pC]
  obtain⟨u,h1,h2,h3,h4⟩:=key sp.length (bh _)
  have hlr:∀x∈sp.map fun s=>gI w s.toNat,0<=x/\x<p:=fun x hx=>by
    obtain⟨s,_,rfl⟩:=aN.mp hx
    exact hw.g (by omega)
  have e1:=hM.uniq hp (ls:=sp.map fun s=>gI w s.toNat) (ak ..) hlr h1 h2 fun i s l hi hl=>by
    rw[bu,hi] at hl
    cases hl
    rw[h4 i s hi,if_pos (aP.mp hi).1]
  have e2:=hM.uniq hp (ls:=sp.map fun s=>gI w s.toNat) (ak ..) hlr hw hV fun i s l hi hl=>by
    rw[bu,hi] at hl
    cases hl
    rfl
  rw[e2,<-e1]
  exact h3 prs (bF.mpr rfl)
theorem Ti{n:Int}{prs:az}(hn:(prs.map (·.1)).Nodup)(h:∀pr∈prs,0<=pr.1/\pr.1<n):prs.length<=n.toNat:=by
 have:=FL (l₂:=(List.range n.toNat).map fun(i:Nat)=>(i:Int)) hn fun k hk=>by
  obtain⟨pr,aC,rfl⟩:=aN.mp hk
  have:=h pr aC
  exact aN.mpr ⟨pr.1.toNat,dS.mpr (by omega),by omega⟩
 simpa using this
theorem RG{p n:Int}{cs:List az}{prs:az}(hN:cP p n cs)(hl:cs.length<500)(n1:n<400)(g1:(prs.map (·.1)).Nodup)(g3:∀pr∈prs,0<=pr.1/\pr.1<n/\0<=pr.2/\pr.2<p):cP p (n+1) (cs++[prs++[(n,p-1)]]):=by
 have n0:=hN.n0
 have p2:=hN.hp.1
 refine⟨hN.hp,hN.cO,by omega,by omega,by rw[fm];simp;omega,fun q hq=>?_⟩
 rcases fJ.mp hq with z|z
 ·obtain⟨a,b,c⟩:=hN.ok q z
  exact⟨a,b,fun pr aC=>by have:=c pr aC;omega⟩
 ·rw[bF.mp z]
  refine⟨?_,?_,fun pr aC=>?_⟩
  ·rw[cE,Ea]
   refine⟨g1,by simp,fun a ha b hb e=>?_⟩
   obtain⟨pr,aC,rfl⟩:=aN.mp ha
   have:=g3 pr aC
   have hb:b=n:=by simpa using hb
   have e:pr.1=b:=e
   omega
  ·have:=Ti g1 fun pr aC=>⟨(g3 pr aC).1,(g3 pr aC).2.1⟩
   rw[fm]
   simp
   omega
  ·rcases fJ.mp aC with y|y
   ·have:=g3 pr y;omega
   ·rw[bF.mp y];omega
theorem P8{p n:Int}{cs:List az}{prs:az}{w:List Int}(hp:2<=p)(n0:1<=n)(hok:∀q∈cs,∀pr∈q,0<=pr.1/\pr.1<n)(aC:∀pr∈prs,0<=pr.1/\pr.1<n)(hw:aK p n.toNat w)(hV:VN p cs w)(hd:p∣aV prs (w.map some)+1):
  ∃v,lP p (n+1) (cs++[prs++[(n,p-1)]]) (List.replicate n.toNat none++[some 1]) v:=by
 have hz:aK p n.toNat (List.replicate n.toNat 0):=⟨fy,fun x hx=>by rw[nE] at hx;omega⟩
 have hu:=hz.add (a:= -1) hw (by omega)
 have Ew:∀q:az,(∀pr∈q,0<=pr.1/\pr.1<n)->p∣aV q ((addW p (List.replicate n.toNat 0) (-1) w).map some)+aV q (w.map some):=fun q hq=>by
  have z:∀u:List Int,u.length=n.toNat->aV q (u.map some)=aj (gI u) ((List.range n.toNat).map (co q)):=fun u hu=>by rw[iw hu q hq];exact(pT (gI u) q fun pr aC=>by have:=hq pr aC;omega).symm
  rw[z _ hu.len,z _ hw.len]
  obtain⟨t,ht⟩:=oH (a:= -1) hz hw ((List.range n.toNat).map (co q))
  have e0:aj (gI (List.replicate n.toNat 0)) ((List.range n.toNat).map (co q))=0:=jq _ _ fun i _=>by rw[lR,fF]
  exact⟨t,by rw[e0] at ht;omega⟩
 generalize addW p (List.replicate n.toNat 0) (-1) w=u at hu Ew
 have jd:=hu.len
 have hvl:(u++[1]).length=(n+1).toNat:=by rw[fm,jd];simp;omega
 have hg:∀j<n.toNat,gI (u++[1]) j=gI u j:=fun j hj=>by unfold gI;rw[bf,fY (by omega),bf]
 have GA:gI (u++[1]) n.toNat=1:=by unfold gI;rw[bf,gp (by omega),jd,Ei];rfl
 have sL:∀q:az,(∀pr∈q,0<=pr.1/\pr.1<n)->aV q ((u++[1]).map some)=aV q (u.map some):=fun q hq=>by
  rw[iw hvl q fun pr aC=>by have:=hq pr aC;omega,iw jd q hq]
  congr 1
  exact nk fun pr aC=>by have:=hq pr aC;rw[hg _ (by omega)]
 refine⟨u++[1],hvl,fun x hx=>?_,fun j x e=>?_,fun q hq=>?_⟩
 ·rcases fJ.mp hx with z|z
  ·exact hu.rg x z
  ·rw[bF.mp z];omega
 ·by_cases c:j<n.toNat
  ·rw[fY (by rw[fy];exact c),fj,if_pos c] at e
   cases e
  ·have cj:j=n.toNat:=by
    have:=(aP.mp e).1
    rw[fm,fy] at this
    simp at this
    omega
   subst cj
   rw[gp (by rw[fy];exact bh _),fy,Ei] at e
   have e:some (some (1:Int))=some (some x):=e
   cases e
   exact GA
 ·rcases fJ.mp hq with z|z
  ·rw[sL q (hok q z)]
   obtain⟨s,hs⟩:=Ew q (hok q z)
   obtain⟨t,ht⟩:=hV q z
   exact⟨s-t,by rw[kU];omega⟩
  ·rw[bF.mp z,Th,sL prs aC]
   obtain⟨s,hs⟩:=Ew prs aC
   obtain⟨t,ht⟩:=hd
   have e:aV [(n,p-1)] ((u++[1]).map some)=p-1:=by
    rw[iw hvl _ fun pr aC=>by rw[bF.mp aC];exact⟨by show 0<=n;omega,by show n<n+1;omega⟩]
    show gI (u++[1]) n.toNat*(p-1)+0=_
    rw[GA];omega
   rw[e]
   exact⟨s-t+1,by rw[Int.mul_add,kU];omega⟩
end L2
set_option maxRecDepth 100000
set_option maxHeartbeats 4000000
set_option maxRecDepth 100000
set_option maxHeartbeats 8000000
namespace K43
open PySem L2
def top(i:Nat):Stmt:=PySem.Challenge.pw_fewchecks_k43_checks_that_come_of_others.main.body.getD i (.Pass ⟨0,0,0,0⟩)
abbrev DM:Stmt:=top 1
abbrev yo:Stmt:=top 2
abbrev wI:Stmt:=top 4
abbrev zN:Stmt:=top 6
abbrev Cw:Stmt:=top 7
abbrev D7:Stmt:=top 8
abbrev uH:Stmt:=top 9
abbrev vN:Stmt:=top 10
abbrev uT:Stmt:=top 11
abbrev BY:Stmt:=top 12
abbrev wo:Stmt:=top 13
abbrev Cj:Stmt:=top 14
abbrev u9:Stmt:=top 15
abbrev xJ:Stmt:=top 18
abbrev CA:Stmt:=top 19
abbrev Eo:Stmt:=top 20
abbrev uz:Stmt:=top 21
abbrev AW:Stmt:=top 22
abbrev uC:Stmt:=top 23
abbrev wK:Stmt:=top 24
abbrev Bj:Stmt:=top 25
abbrev xj:Stmt:=top 26
abbrev Bd:Stmt:=top 27
abbrev BC:Stmt:=top 28
abbrev qP:Stmt:=top 29
abbrev xC:Stmt:=top 30
abbrev Am:Stmt:=top 31
abbrev wm:Stmt:=top 32
abbrev pI:Stmt:=top 33
abbrev vn:Stmt:=top 34
abbrev Dj:Stmt:=top 35
abbrev zV:Stmt:=top 36
abbrev l7:Stmt:=top 37
abbrev lF:Stmt:=inClass (top 16) 0
abbrev o8:Stmt:=inClass (top 16) 1
abbrev pG:Stmt:=inClass (top 16) 2
abbrev pW:Stmt:=inClass (top 16) 3
local macro_rules| `(tactic|walk_at "d0")=> `(tactic|first|omega|assumption|decide|(unfold Sm at*;omega)|(unfold uh;omega)|(unfold AX;decide)|(unfold AX;omega))
local macro_rules| `(tactic|walk_at "ds")=> `(tactic|((try dsimp only);first|walk_at "d0" |(refine And.intro ?_ ?_<;>walk_at "d0")|(refine Or.inl ?_;walk_at "d0")|(refine Or.inr (And.intro ?_ ?_)<;>walk_at "d0")))
local macro_rules| `(tactic|walk_at "s1")=> `(tactic|with_reducible first
 |refine R.seq ?_|refine R.asg ?_|refine R.setC ?_|refine R.qY ?_|refine R.ret ?_|refine R.next ?_|refine R.c ?_|refine R.op ?_|refine R.test ?_|refine R.bl ?_|refine R.tru ?_
 |refine R.and ?_|refine R.Ox ?_|refine R.cb ?_|refine R.call ?_|refine R.nil ?_|refine R.cons ?_
 |refine R.lst ?_|refine R.sl ?_|refine R.Nf ?_|refine R.part ?_|refine R.UK ?_|refine R.bm ?_|refine R.ON ?_|refine R.Je ?_|refine R.XJ ?_|refine R.RK ?_|refine R.Ms ?_|refine R.xA ?_
 |refine R.je ?_|refine R.Oz ?_|refine R.VJ ?_|refine R.eqNI ?_|refine R.eqIN ?_|refine R.isI ?_|refine R.Jz ?_|refine R.J4 ?_|refine R.bits ?_
 |refine Ah ?_|refine GL ?_|refine R.nilE ?_|refine R.Uj ?_|refine R.S1 ?_|refine R.PX ?_|refine R.ND ?_|refine R.iL ?_|refine R.Vd ?_|refine R.comp ?_)
local macro_rules| `(tactic|walk_at "st")=> `(tactic|repeat (first
 |walk_at "s1"
 |((with_reducible refine' R.var ?h0 ?_);(case h0=>rfl))
 |((with_reducible refine' R.rI ?h1 ?_);(case h1=>walk_at "ds"))
 |((with_reducible refine' R.KC (o:= .lst []) ?h1 ?_);(case h1=>rfl))
 |((with_reducible refine' R.xw ?h0 ?h1 ?_);(case h0=>assumption);(case h1=>rfl))
 |((with_reducible refine' R.ixTM ?h0 ?h1 ?_);(case h0=>assumption);(case h1=>rfl))
 |((with_reducible refine' R.Xw ?h1 ?_);(case h1=>rfl))
 |((with_reducible refine' R.setM ?h0 ?h1 ?_);(case h0=>assumption);(case h1=>rfl))
 |((with_reducible refine' R.RC ?h0 ?_);(case h0=>assumption))
 |((with_reducible refine' R.WE ?h0 ?h1 ?_);(case h0=>walk_at "ds");(case h1=>walk_at "ds"))
 |((with_reducible refine' R.Vq ?h0 ?_);(case h0=>walk_at "ds"))
 |((with_reducible refine' R.vD ?h0 ?_);(case h0=>assumption))
 |((with_reducible refine' R.Gd ?h0 ?_);(case h0=>first|exact R.dT (by omega)|exact R.EI (by omega)|decide))
 |((with_reducible refine' R.Jo ?h0 ?_);(case h0=>first|exact R.dF (by omega)|exact R.Ju (by omega)|decide))
 |(with_reducible refine R.PD ?_)|(with_reducible refine R.Mw ?_)))
local macro_rules| `(tactic|walk_at "fv")=> `(tactic|first|exact Or.inl rfl|exact Or.inr (Or.inl rfl)|exact Or.inr (Or.inr (Or.inl rfl))|exact Or.inr (Or.inr (Or.inr (Or.inl rfl)))|exact Or.inr (Or.inr (Or.inr (Or.inr rfl))))
local macro_rules| `(tactic|walk_at "d1")=> `(tactic|with_reducible first
 |refine Sv.seq ?_|refine Sv.Ij ?_|refine Sv.asg ?_|refine Sv.setCF ?_|refine Sv.qY ?_|refine Sv.ret ?_|refine Sv.next ?_|refine Sv.retN ?_
 |refine Ev.int ?_|refine Ev.bl ?_|refine Ev.aL ?_|refine Ev.je ?_|refine Ev.Wy ?_|refine Ev.rI ?_|refine Ev.rU ?_|refine Ev.eq ?_|refine Ev.ne ?_|refine Ev.is ?_|refine Ev.WH ?_|refine Ev.Nc ?_|refine Ev.str ?_|refine Ev.UO ?_
 |refine Ev.BE ?_|refine Ev.Qz ?_|refine Ev.Kf ?_|refine Tv.test ?_|refine Tv.and ?_|refine Tv.or ?_|refine Tv.not ?_|refine Tv.xA ?_|refine Tv.NW ?_
 |refine Ev.Mt ?_|refine Ev.tupS ?_|refine Ev.tup ?_|refine Ev.lst ?_|refine Av.nil ?_|refine Av.cons ?_|refine Av.Mx ?_|refine Ov.none ?_|refine Ov.some ?_|refine Ev.min2 ?_|refine Ev.max2 ?_|refine Ev.EK ?_|refine Ev.whole ?_
 |refine R.di ?_|refine R.db ?_|refine R.dl ?_|refine R.dt ?_|refine R.Sq ?_|refine R.VC ?_|refine R.Sx ?_|refine R.eqni ?_|refine R.eqin ?_|refine R.eqnn ?_|refine R.eqbb ?_
 |refine Gv.iD ?_|refine Gv.Rm ?_|refine Gv.nameN ?_|refine Gv.nameT ?_|refine Gv.rL ?_|refine Gv.DB ?_|refine Gv.tD ?_|refine Ah ?_|refine GL ?_)
local macro_rules| `(tactic|walk_at "dt")=> `(tactic|repeat (first
 |((with_reducible refine' Sv.IW ?h0 ?_);(case h0=>rfl))
 |((with_reducible refine' Sv.nU ?h0 ?_);(case h0=>rfl))
 |walk_at "d1"
 |((with_reducible refine' Ev.var ?h0 ?_);(case h0=>rfl))
 |((with_reducible refine' Ev.draw ?h0 ?_);(case h0=>rfl))
 |((with_reducible refine' Ev.Vh ?h0 ?_);(case h0=>rfl))
 |((with_reducible refine' Ev.WT ?h0 ?_);(case h0=>rfl))
 |((with_reducible refine' Ev.listOwn ?h0 ?_);(case h0=>rfl))
 |((with_reducible refine' Ev.slOwn ?h0 ?_);(case h0=>rfl))
 |((with_reducible refine' Sv.append ?h0 ?_);(case h0=>rfl))
 |((with_reducible refine' Sv.nU ?h0 ?_);(case h0=>rfl))
 |((with_reducible refine' Sv.IW ?h0 ?_);(case h0=>rfl))
 |((with_reducible refine' Gv.tup ?h0 ?_);(case h0=>rfl))
 |((with_reducible refine' R.at_ ?h0 ?_);(case h0=>first|rfl|assumption))
 |(with_reducible refine Ev.MH ?_)|(with_reducible refine Ev.UY ?_)|(with_reducible refine Ev.listOf ?_)|(with_reducible refine Ev.sl ?_)|(with_reducible refine Ev.cat ?_)|(with_reducible refine Ev.O9 ?_)
 |((with_reducible refine' Ev.Ra ?h0 ?_);(case h0=>walk_at "fv"))
 |((with_reducible refine' Ev.isi2 ?h0 ?h1 ?_);(case h0=>walk_at "fv");(case h1=>walk_at "fv"))
 |(with_reducible refine Ev.all ?_)|(with_reducible refine Ev.sum ?_)
 |((with_reducible refine' R.Tf ?_))
 |((with_reducible refine' R.Gd ?h0 ?_);(case h0=>first|exact R.dT (by omega)|exact R.EI (by omega)|rfl))
 |((with_reducible refine' R.Jo ?h0 ?_);(case h0=>first|exact R.dF (by omega)|exact R.Ju (by omega)|exact dH))
 |((with_reducible refine' R.Ss ?h0 ?_);(case h0=>first|walk_at "ds" |exact sE rfl))))
local macro_rules| `(tactic|walk_at "wk")=> `(tactic|repeat (first|exact Wk.nil|apply Wk.no|apply Wk.eq))
section
variable{P:Program}{w:World}{K:PySem.W.Frag}{mg:Str->Option Value}{base:Heap}{f:Addr}{fd:FuncData}
def sF:DF:=fun ds Φ=>∃(p c:Int) (w:Nat) (r:List Int),ds=[.int p, .int c,aR r]/\0<p/\p<10^40/\aK p w r/\w<=10000/\0<=c/\c<p/\Φ true (aR (mulR p c r))
theorem IC:dQ sF:=by
 intro ds Φ Ψ hm z
 obtain⟨p,c,w,r,e,h1,h2,h3,h4,h5,h6,q⟩:=hm
 exact⟨p,c,w,r,e,h1,h2,h3,h4,h5,h6,z _ _ q⟩
theorem N7:cB ["p","factor","row"] ["p","factor","row"] (aQ vN):=⟨rfl,rfl,rfl,by decide+kernel,rfl,by decide+kernel,by decide+kernel⟩
theorem Qj(F:bT K "times" "times" vN f fd):
  bE P w K mg base bL 1 f fd ["p","factor","row"] (bI 3 sF):=by
 refine F.ok N7 (fun vs H Q E h=>h.1) (fun cdv A outer s H vs Q E hr h=>?_)
 obtain⟨nb,ds,Φ,hlive,hds,aI,hF⟩:=gx h
 obtain⟨p,c,w,r,rfl,hp,gG,hr,hw,c0,c1,q⟩:=hF
 refine⟨_,(@aJ _ _ _ (@bA _ _ _ _ (fL (dN.of (show eH (aQ vN) ["p","factor","row"] _ ["number","p","factor"] [none,some 0,some 1]=true by decide+kernel)) (gf (K:=K) rfl (pv 2)) (fun _ _ _ _=>⟨(aT (i:=0) (by show List.Nodup (["number","p","factor"]:List Str);decide+kernel) rfl (Or.inl rfl)),iT,(@aG _ _ _ _ _ _ _ _ fM (@aG _ _ _ _ _ _ _ _ iN (pv 2) (pv 0)) (pv 1))⟩)))),?_⟩
 refine Sv.gv hlive hds aI (ρ:=[.d false _, .d false _, .d false _]) rfl ?_
 clear aI hds
 have hrl:(r.map PyData.int).length=r.length:=ak ..
 have hl:=hr.len
 have hsm:∀x:Int,0<=x->x<=p->Sm x:=fun x x0 x1=>by unfold Sm;omega
 walk_at "dt"
 refine aD.ev (aD.jY (by decide) rfl ?_)
 walk_at "dt"
 refine fun v=>⟨true,fun i ds=>ds=((r.take i).map fun x=>c*x%p).map PyData.int,rfl,?_,?_⟩
 ·rintro i d ds hd hl' rfl
  obtain⟨x,hx,rfl⟩:=fq hd
  obtain⟨x0,x1⟩:=hr.rg x (aW hx)
  have s1:=hsm c c0 (by omega)
  have s2:=hsm x x0 (by omega)
  walk_at "dt"
  refine⟨by walk_at "wk",?_⟩
  walk_at "dt"
  show _=List.map PyData.int (List.map _ (List.take (i+1) r))
  rw[take_snoc hx,cE,cE]
  rfl
 rintro ds hl' rfl
 rw[hrl,eE]
 exact q
theorem jE:cB ["p","b","last_rest","last_times","rest","times","quotient","next_rest","next_times"] ["p","b"] (aQ DM):=⟨rfl,rfl,rfl,by decide+kernel,rfl,by decide+kernel,by decide+kernel⟩
theorem Ny(F:bT K "inverse" "inverse" DM f fd)(vJ:Callee P w K mg base "times" 1 ["p","factor","row"] (bI 3 sF)):
  bE P w K mg base bL 2 f fd ["p","b"] uE:=by
 refine F.ok jE (fun vs H Q E h=>?_) (fun cdv A outer s H vs Q E hr h=>?_)
 ·obtain⟨p,b,rfl,hp,hp3,hb,q⟩:=h
  rfl
 obtain⟨p,b,rfl,hp,hp3,hb,q⟩:=h
 refine⟨_,(@aA _ _ _ _ _ (@aU _ _ (2) _ _ _ _ jE.nd rfl (Or.inl rfl) (pv 0) (by rfl) (by first|exact .inl rfl|exact .inr rfl|assumption)) (@aA _ _ _ _ _ (@aU _ _ (3) _ _ _ _ jE.nd rfl (Or.inl rfl) aq (by rfl) (by first|exact .inl rfl|exact .inr rfl|assumption)) (@aA _ _ _ _ _ (@aU _ _ (4) _ _ _ _ jE.nd rfl (Or.inl rfl) (@aG _ _ _ _ _ _ _ _ fM (pv 1) (pv 0)) (by rfl) (by first|exact .inl rfl|exact .inr rfl|assumption)) (@aA _ _ _ _ _ (@aU _ _ (5) _ _ _ _ jE.nd rfl (Or.inl rfl) aq (by rfl) (by first|exact .inl rfl|exact .inr rfl|assumption)) (@aA _ _ _ _ _ (@Et _ _ _ _ _ _ eK (@cF _ _ _ _ _ _ _ _ lD (pv 4) aq (bN _)) (@aA _ _ _ _ _ (@aU _ _ (6) _ _ _ _ jE.nd rfl (Or.inl rfl) (@aG _ _ _ _ _ _ _ _ uR (pv 2) (pv 4)) (by rfl) (by first|exact .inl rfl|exact .inr rfl|assumption)) (@aA _ _ _ _ _ (@aU _ _ (7) _ _ _ _ jE.nd rfl (Or.inl rfl) (@aG _ _ _ _ _ _ _ _ kT (pv 2) (@aG _ _ _ _ _ _ _ _ iN (pv 6) (pv 4))) (by rfl) (by first|exact .inl rfl|exact .inr rfl|assumption)) (@aA _ _ _ _ _ (@aU _ _ (8) _ _ _ _ jE.nd rfl (Or.inl rfl) (@aG _ _ _ _ _ _ _ _ kT (pv 3) (@aG _ _ _ _ _ _ _ _ iN (pv 6) (pv 5))) (by rfl) (by first|exact .inl rfl|exact .inr rfl|assumption)) (@aA _ _ _ _ _ (@aU _ _ (2) _ _ _ _ jE.nd rfl (Or.inl rfl) (pv 4) (by rfl) (by first|exact .inl rfl|exact .inr rfl|assumption)) (@aA _ _ _ _ _ (@aU _ _ (3) _ _ _ _ jE.nd rfl (Or.inl rfl) (pv 5) (by rfl) (by first|exact .inl rfl|exact .inr rfl|assumption)) (@aA _ _ _ _ _ (@aU _ _ (4) _ _ _ _ jE.nd rfl (Or.inl rfl) (pv 7) (by rfl) (by first|exact .inl rfl|exact .inr rfl|assumption)) (@aJ _ _ _ (@aU _ _ (5) _ _ _ _ jE.nd rfl (Or.inl rfl) (pv 8) (by rfl) (by first|exact .inl rfl|exact .inr rfl|assumption)))))))))) (@aJ _ _ _ (@bA _ _ _ _ (@aG _ _ _ _ _ _ _ _ fM (pv 3) (pv 0))))))))),?_⟩
 have hp2:=hp.1
 walk_at "st"
 refine O0 (fun σ H1=>H1=H/\∃(L lt r t:Int) (x6 x7 x8:Option V),σ=[some (.int p),some (.int b),some (.int L),some (.int lt),some (.int r),some (.int t),x6,x7,x8]/\Eu p b L lt r t) (fun(σ:St) (_:Hp)=>match σ[4]? with|some (some (V.int r))=>r.toNat|_=>0) ⟨rfl,_,_,_,_,_,_,_,rfl,Eu.start hp2⟩ ?_ ?_
 ·rintro σ H1 ⟨rfl,L,lt,r,t,x6,x7,x8,rfl,E⟩
  obtain⟨t1,t2⟩:=E.tb
  have e1:=E.l0
  have e2:=E.r0
  have e3:=E.lp
  have e4:=E.rp
  walk_at "st"
  refine pX (fun c=>?_) (fun c=>?_)
  ·have c:r≠0:=of_decide_eq_true c
   have hr:0<r:=by omega
   have q1:0<=L/r:=ya (by omega) (by omega)
   have q2:L/r<=L:=Int.ediv_le_self _ (by omega)
   obtain⟨N1,N2⟩:=E.next hr
   walk_at "st"
   refine⟨⟨rfl,_,_,_,_,_,_,_,rfl,N1⟩,?_⟩
   show(L-L/r*r).toNat<r.toNat
   omega
  ·have c:r=0:=by simpa using c
   subst c
   walk_at "st"
   exact q _ (eG _ (by omega)) (e7 _ (by omega)) (E.fin hp hb)
 ·exact fun σ H Q Q' h ⟨v,e,s,k,ek,z⟩=>⟨v,e,s,k,ek,h _ _ z⟩
theorem qU:cB ["p","pairs","word","reached","place","factor"] ["p","pairs","word"] (aQ yo):=⟨rfl,rfl,rfl,by decide+kernel,rfl,by decide+kernel,by decide+kernel⟩
theorem R7(F:bT K "total" "total" yo f fd):
    bE P w K mg base bL 1 f fd ["p","pairs","word"] wz:=by
  refine F.ok qU (fun vs H Q E h=>?_) (fun cdv A outer s H vs Q E hr h=>?_)
  · obtain⟨nb,p,va,vc,prs,wd,rfl,hA,hC,hp,h1,h2,q⟩:=h
    rfl
  obtain⟨nb,p,va,vc,prs,wd,rfl,hA,hC,hp,h1,h2,q⟩:=h
  refine⟨_,(@aA _ _ _ _ _ (@aU _ _ (3) _ _ _ _ qU.nd rfl (Or.inl rfl) aq (by rfl) (by first|exact .inl rfl|exact .inr rfl|assumption)) (@aA _ _ _ _ _ (@fO _ _ _ _ _ _ _ _ eK rfl (gf (K:=K) rfl (pv 1)) (FF rfl (@cg _ _ _ _ _ (aT (i:=4) qU.nd rfl (Or.inl rfl)) (@cg _ _ _ _ _ (aT (i:=5) qU.nd rfl (Or.inl rfl)) gQ (by rfl)) (by rfl))) (@aJ _ _ _ (@eV _ _ _ _ _ _ _ _ (@cF _ _ _ _ _ _ _ _ rG (@aH _ _ _ _ _ _ _ bD (pv 2) (pv 4) (fun _ _=>rfl)) jB (bN _)) (@aJ _ _ _ (@aU _ _ (3) _ _ _ _ qU.nd rfl (Or.inl rfl) (@aG _ _ _ _ _ _ _ _ fM (@aG _ _ _ _ _ _ _ _ dg (pv 3) (@aG _ _ _ _ _ _ _ _ iN (pv 5) (@aH _ _ _ _ _ _ _ bD (pv 2) (pv 4) (fun _ _=>rfl)))) (pv 0)) (by rfl) (by first|exact .inl rfl|exact .inr rfl|assumption))) gu)) (by intro _;rfl)) (@aJ _ _ _ (@bA _ _ _ _ (pv 3))))),?_⟩
  obtain⟨a,xs,rfl,na,ha,da⟩:=hA.cQ
  obtain⟨c,ws,rfl,nc,hc,dc⟩:=hC.cQ
  have sJ:=da.length
  rw[ak] at sJ
  have ew:=GN dc
  subst ew
  walk_at "st"
  refine R.vD (aS.of ha) ?_
  refine IE (xs:=xs) (fun i σ H1=>H1=H/\∃(r:Int) (x y:Option V),σ=[some (.int p),some (.ref a),some (.ref c),some (.int r),x,y]/\r=aV (prs.take i) wd%p) ⟨rfl,0,none,none,rfl,by simp[aV]⟩ ?_ ?_ ?_
  · rintro i σ H1 hi ⟨rfl,_⟩
    exact aS.of ha
  · rintro i x σ H1 hx ⟨rfl,r,y,z,rfl,hr⟩
    have hi:i<prs.length:=by have:=(aP.mp hx).1;omega
    obtain⟨x',hx',dx⟩:=da.get (i:=i) (by rw[bu,aF hi];rfl)
    rw[hx] at hx';cases hx'
    obtain⟨t,rfl,nt,ht⟩:=Mg dx
    obtain⟨g1,g2,g3⟩:=h1 _ (c6 hi)
    have hk:prs[i].fst.toNat<wd.length:=by omega
    have hat:bH (wd.map xR) prs[i].fst=some (xR wd[prs[i].fst.toNat]):=fh g1 (by rw[bu,aF hk];rfl)
    have zq:jC wd prs[i]=match wd[prs[i].fst.toNat] with|some x=>prs[i].snd*x|none=>0:=by
      unfold jC
      rw[aF hk]
      cases wd[prs[i].fst.toNat]<;>rfl
    have hs2:∀x,wd[prs[i].fst.toNat]=some x->Sm x:=fun x e=>h2 x (by rw[<-e];exact c6 hk)
    have hd:=Ax (wd:=wd) hi
    refine R.WX (gE.of ht) rfl ?_
    walk_at "st"
    refine R.xw hc hat ?_
    walk_at "st"
    generalize wd[prs[i].fst.toNat]=o at hat zq hs2⊢
    cases o with
    | none =>
      refine R.J4 ?_
      walk_at "st"
      refine⟨rfl,_,_,_,rfl,?_⟩
      rw[hd,zq,hr,jg]
    | some x =>
      have V7:=hs2 x rfl
      refine R.Jz ?_
      walk_at "st"
      refine R.xw hc hat ?_
      refine R.rI (Or.inr ⟨g3,V7⟩) ?_
      walk_at "st"
      refine⟨rfl,_,_,_,rfl,?_⟩
      rw[hd,zq,hr,Int.emod_add_emod]
  · rintro σ H1 ⟨rfl,r,x,y,rfl,hr⟩
    walk_at "st"
    rw[sJ,eE] at hr
    rw[hr]
    exact q
def CS:DF:=fun ds Φ=>∃wd:Wo,ds=[lN wd]/\wd.length<=10000/\Φ true (.list ((D5 wd).map .int))
theorem Sn:dQ CS:=by
 intro ds Φ Ψ hm z
 obtain⟨wd,e,h,q⟩:=hm
 exact⟨wd,e,h,z _ _ q⟩
theorem MV:cB ["word"] ["word"] (aQ wI):=⟨rfl,rfl,rfl,by decide+kernel,rfl,by decide+kernel,by decide+kernel⟩
theorem UU(F:bT K "lost_of" "lost_of" wI f fd)(iG:mg "enumerate"=none):
    bE P w K mg base bL 1 f fd ["word"] (bI 1 CS):=by
  refine F.ok MV (fun vs H Q E h=>h.1) (fun cdv A outer s H vs Q E hr h=>?_)
  obtain⟨nb,ds,Φ,hlive,hds,aI,hF⟩:=gx h
  obtain⟨wd,rfl,hl,q⟩:=hF
  refine⟨_,(@aJ _ _ _ (@bA _ _ _ _ (fL (dN.of (show eH (aQ wI) ["word"] _ ["place","letter"] [none,none]=true by decide+kernel)) (@vO _ (K) _ _ _ _ _ _ _ rfl rfl iG (pv 0) (by rfl)) (fun _ _ _ _=>⟨(@g7 _ (K) _ _ _ (2) _ rfl rfl (@cg _ _ _ _ _ (aT (i:=0) (by show List.Nodup (["place","letter"]:List Str);decide+kernel) rfl (Or.inl rfl)) (@cg _ _ _ _ _ (aT (i:=1) (by show List.Nodup (["place","letter"]:List Str);decide+kernel) rfl (Or.inl rfl)) gQ (by rfl)) (by rfl)) (by rfl) (by rfl)),(l6 (@cF _ _ _ _ _ _ _ _ w9 (pv 1) jB (bN _))),(pv 0)⟩)))),?_⟩
  refine Sv.gv hlive hds aI (ρ:=[.d false _]) rfl ?_
  clear aI hds
  have HM:(wd.map fE).length=wd.length:=ak ..
  walk_at "dt"
  refine aD.ev (aD.Oj (by decide) rfl ?_)
  walk_at "dt"
  refine fun v=>⟨true,fun i ds=>ds=(((List.range i).filter fun j=>wd[j]?==some none).map fun(j:Nat)=>(j:Int)).map PyData.int,rfl,?_,?_⟩
  · rintro i d ds ⟨e,he,rfl⟩ hl' rfl
    obtain⟨o,ho,rfl⟩:=fq he
    walk_at "dt"
    refine⟨by walk_at "wk",?_⟩
    walk_at "dt"
    rw[qb]
    cases o with
    | none =>
      walk_at "dt"
      show _=List.map _ (List.map _ (List.filter _ (List.range (i+1))))
      rw[xK,wV,Jb (by rw[ho];rfl)]
      simp
    | some x =>
      walk_at "dt"
      show _=List.map _ (List.map _ (List.filter _ (List.range (i+1))))
      rw[xK,wV,Ko (by rw[ho];simp)]
      simp
  · rintro ds hl' rfl
    rw[HM]
    exact q
def uV:DF:=fun ds Φ=>∃(p n:Int) (cs:List az),ds=[bV p n cs]/\cP p n cs/\∀f:Bool,Φ f (.list ((dh n.toNat cs.length cs).map aR))
theorem J7:dQ uV:=by
 intro ds Φ Ψ hm z
 obtain⟨p,n,cs,e,h1,q⟩:=hm
 exact⟨p,n,cs,e,h1,fun f=>z _ _ (q f)⟩
theorem nG:cB ["net","rows","c","pairs","row","place","factor"] ["net"] (aQ zN):=⟨rfl,rfl,rfl,by decide+kernel,rfl,by decide+kernel,by decide+kernel⟩
theorem Wr(F:bT K "rows_of" "rows_of" zN f fd)(iG:mg "enumerate"=none)(cI:mg "len"=none):
  bE P w K mg base bL 1 f fd ["net"] (bI 1 uV):=by
 refine F.ok nG (fun vs H Q E h=>h.1) (fun cdv A outer s H vs Q E hr h=>?_)
 obtain⟨nb,ds,Φ,hlive,hds,aI,hF⟩:=gx h
 obtain⟨p,n,cs,rfl,hN,q⟩:=hF
 refine⟨_,(@aA _ _ _ _ _ (@aU _ _ (1) _ _ _ _ nG.nd rfl (Or.inl rfl) (@gw _ _ _ _ ao) (by rfl) (by first|exact .inl rfl|exact .inr rfl|assumption)) (@aA _ _ _ _ _ (@fO _ _ _ _ _ _ _ _ eK rfl (@vO _ (K) _ _ _ _ _ _ _ rfl rfl iG (@aH _ _ _ _ _ _ (bK K) bU (pv 0) aq (fun _ _=>rfl)) (by rfl)) (@g7 _ (K) _ _ _ (2) _ rfl rfl (@cg _ _ _ _ _ (aT (i:=2) nG.nd rfl (Or.inl rfl)) (@cg _ _ _ _ _ (aT (i:=3) nG.nd rfl (Or.inl rfl)) gQ (by rfl)) (by rfl)) (by rfl) (by rfl)) (@aA _ _ _ _ _ (@aU _ _ (4) _ _ _ _ nG.nd rfl (Or.inl rfl) (@aG _ _ _ _ _ _ _ _ nI (@gw _ _ _ _ (@aa _ _ _ _ _ aq ao rfl)) (@aG _ _ _ _ _ _ _ _ dg (@aH _ _ _ _ _ _ (bK K) bU (pv 0) aq (fun _ _=>rfl)) (@dm _ _ _ _ _ _ _ _ (gc K) iF rfl cI g8 (@aa _ _ _ _ _ (@aH _ _ _ _ _ _ (bK K) bU (pv 0) aq (fun _ _=>rfl)) ao rfl) (by decide) (by decide) (by rfl) (by rfl)))) (by rfl) (by first|exact .inl rfl|exact .inr rfl|assumption)) (@aA _ _ _ _ _ (@fO _ _ _ _ _ _ _ _ eK rfl (gf (K:=K) rfl (pv 3)) (@g7 _ (K) _ _ _ (2) _ rfl rfl (@cg _ _ _ _ _ (aT (i:=5) nG.nd rfl (Or.inl rfl)) (@cg _ _ _ _ _ (aT (i:=6) nG.nd rfl (Or.inl rfl)) gQ (by rfl)) (by rfl)) (by rfl) (by rfl)) (@aJ _ _ _ (@fQ _ _ _ _ _ _ (pv 6) (gO (pv 4) (pv 5) set_list) (by rfl) (by rfl) (by rfl))) (by intro _;rfl)) (@aA _ _ _ _ _ (@fQ _ _ _ _ _ _ aq (gO (pv 4) (@aG _ _ _ _ _ _ _ _ dg (@aH _ _ _ _ _ _ (bK K) bU (pv 0) aq (fun _ _=>rfl)) (pv 2)) set_list) (by rfl) (by rfl) (by rfl)) (@aJ _ _ _ (@pD _ _ _ _ (p9 oJ Hf Fj yh (pv 1) (@aa _ _ _ _ _ (pv 4) ao rfl)) (by rfl)))))) (by intro _;rfl)) (@aJ _ _ _ (@bA _ _ _ _ (pv 1))))),?_⟩
 refine Sv.gv hlive hds aI (ρ:=[.d false _, .no, .no, .no, .no, .no, .no]) rfl ?_
 clear aI hds
 have n0:=hN.n0
 have n1:=hN.n1
 have hcl:=hN.cl
 have gK:(cs.map br).length=cs.length:=ak ..
 refine Sv.seq ?_
 refine Sv.Ij ?_
 intro A1
 refine Sv.seq ?_
 refine Sv.CZ ?_
 walk_at "dt"
 refine fun v=>⟨fun i ρ=>∃(f:Bool) (x2 x3 x4 x5 x6:Sl),ρ=[.d false (bV p n cs), .own A1 f ((dh n.toNat cs.length (cs.take i)).map aR),x2,x3,x4,x5,x6],⟨_,_,_,_,_,_,rfl⟩,?_,?_⟩
 ·rintro i d ρ ⟨e,he,rfl⟩ ⟨f,x2,x3,x4,x5,x6,rfl⟩
  obtain⟨prs,cW,rfl⟩:=fq he
  have hi:=(aP.mp cW).1
  obtain⟨hnd,hpl,aC⟩:=hN.ok prs (aW cW)
  have j8:(prs.map pairD).length=prs.length:=ak ..
  generalize gW:(jK (ff (cK qR _ _) (eX 4)) _:TS)=tl
  walk_at "dt"
  subst gW
  refine Sv.seq ?_
  refine Sv.kF (aD.oU ?_)
  walk_at "dt"
  intro g
  have eN:(n+((cs.map br).length:Int)).toNat=n.toNat+cs.length:=by rw[gK];omega
  rw[eN]
  intro A4
  have hz:List.replicate (n.toNat+cs.length) (PyData.int 0)=(List.replicate (n.toNat+cs.length) (0:Int)).map PyData.int:=by rw[nL]
  rw[hz]
  refine Sv.seq ?_
  refine Sv.forL ?_
  walk_at "dt"
  refine fun v2=>⟨fun j ρ=>∃(g:Bool) (x5 x6:Sl),ρ=[.d false (bV p n cs), .own A1 f ((dh n.toNat cs.length (cs.take i)).map aR), .d true (.int i), .d false (br prs), .own A4 g ((g6 (List.replicate (n.toNat+cs.length) 0) (prs.take j)).map .int),x5,x6],⟨_,_,_,rfl⟩,?_,?_⟩
  ·rintro j d ρ hd ⟨g,x5,x6,rfl⟩
   obtain⟨pr,lE,rfl⟩:=fq hd
   obtain⟨a0,a1,a2,a3⟩:=aC pr (aW lE)
   walk_at "dt"
   have hix:dM ((g6 (List.replicate (n.toNat+cs.length) 0) (prs.take j)).map PyData.int).length pr.1=some pr.1.toNat:=by
    unfold dM
    rw[ak,ow,fy]
    repeat (first|rw[if_pos (by omega)]|rw[if_neg (by omega)])
   refine⟨_,_,rfl,hix,?_⟩
   have es:g6 (List.replicate (n.toNat+cs.length) 0) (prs.take (j+1))=(g6 (List.replicate (n.toNat+cs.length) 0) (prs.take j)).set pr.1.toNat pr.2:=by
    rw[take_snoc lE]
    unfold g6
    rw[rZ]
    rfl
   rw[<-jL,<-es]
   exact⟨_,_,_,rfl⟩
  ·rintro ρ ⟨g,x5,x6,rfl⟩
   rw[j8,eE]
   have hix:dM ((g6 (List.replicate (n.toNat+cs.length) 0) prs).map PyData.int).length (n+(i:Int))=some (n.toNat+i):=by
    unfold dM
    rw[ak,ow,fy]
    repeat (first|rw[if_pos (by omega)]|rw[if_neg (by omega)])
    congr 1
    omega
   refine Sv.seq ?_
   refine Sv.nU rfl ?_
   walk_at "dt"
   refine⟨_,_,rfl,hix,?_⟩
   refine Sv.kZ 4 rfl ?_
   refine Sv.append rfl ?_
   refine Ev.var rfl ?_
   have hrl:(dh n.toNat cs.length (cs.take i)).length=i:=by rw[lY,cZ];omega
   have es:dh n.toNat cs.length (cs.take (i+1))=dh n.toNat cs.length (cs.take i)++[jl n.toNat cs.length i prs]:=by
    unfold dh
    rw[take_snoc cW,List.zipIdx_append,cE]
    simp only[List.zipIdx_cons,List.zipIdx_nil,bC,pA,cZ,Nat.zero_add]
    rw[pM (by omega)]
   refine⟨by rw[ak,hrl];omega,?_⟩
   rw[<-jL]
   have e2:List.map aR (dh n.toNat cs.length (cs.take i))++[PyData.list (((g6 (List.replicate (n.toNat+cs.length) 0) prs).set (n.toNat+i) 1).map PyData.int)]=List.map aR (dh n.toNat cs.length (cs.take (i+1))):=by
    rw[es,cE]
    rfl
   rw[e2]
   exact⟨_,_,_,_,_,_,rfl⟩
 ·rintro ρ ⟨f,x2,x3,x4,x5,x6,rfl⟩
  rw[gK,eE]
  refine Sv.kZ 1 rfl ?_
  walk_at "dt"
  exact q _
def fc(T:List (Nat×Nat)):Ks:=T.map fun q=>((q.1:Int), .int (q.2:Int))
def Ac:DF:=fun ds Φ=>∃(p:Int) (w:Nat) (R:List (List Int)) (T:List (Nat×Nat)) (pl:Nat),ds=[.list (R.map aR), .dict ((fc T).map bJ), .int pl]/\i8 p w R/\0<p/\p<10^40/\R.length<=10000/\T.length<=10000/\pl<w/\w<=10000/\
 ((∀i<R.length,i∉T.map (·.1)->gI (R.getD i []) pl=0)->Φ true .none)/\(∀k:Nat,k<R.length->k∉T.map (·.1)->gI (R.getD k []) pl≠0->(∀i<k,i∉T.map (·.1)->gI (R.getD i []) pl=0)->Φ true (.int k))
theorem Nz:dQ Ac:=by
 intro ds Φ Ψ hm z
 obtain⟨p,w,R,T,pl,e,h1,h2,h3,h4,h5,h6,h7,q1,q2⟩:=hm
 exact⟨p,w,R,T,pl,e,h1,h2,h3,h4,h5,h6,h7,fun h=>z _ _ (q1 h),fun k a b c d=>z _ _ (q2 k a b c d)⟩
theorem w6(T:List (Nat×Nat))(k:Nat):kr (fc T) (k:Int)=decide (k∈T.map (·.1)):=by
 unfold fc kr
 rw[k9,C9,decide_eq_true_eq]
 constructor
 ·rintro⟨q,hq,e⟩
  obtain⟨t,ht,rfl⟩:=aN.mp hq
  have:((t.1:Nat):Int)=k:=by simpa using e
  exact aN.mpr ⟨t,ht,by omega⟩
 ·intro h
  obtain⟨t,ht,e⟩:=aN.mp h
  exact⟨_,kj ht,by simp[e]⟩
theorem Ep:cB ["rows","taken","place","k","row"] ["rows","taken","place"] (aQ D7):=⟨rfl,rfl,rfl,by decide+kernel,rfl,by decide+kernel,by decide+kernel⟩
theorem Oe(F:bT K "first_with" "first_with" D7 f fd)(iG:mg "enumerate"=none):
  bE P w K mg base bL 1 f fd ["rows","taken","place"] (bI 3 Ac):=by
 refine F.ok Ep (fun vs H Q E h=>h.1) (fun cdv A outer s H vs Q E hr h=>?_)
 obtain⟨nb,ds,Φ,hlive,hds,aI,hF⟩:=gx h
 obtain⟨p,w,R,T,pl,rfl,hR,hp,gG,jj,jb,hpl,hw,q1,q2⟩:=hF
 refine⟨_,(@aA _ _ _ _ _ (@fO _ _ _ _ _ _ _ _ eK rfl (@vO _ (K) _ _ _ _ _ _ _ rfl rfl iG (pv 0) (by rfl)) (@g7 _ (K) _ _ _ (2) _ rfl rfl (@cg _ _ _ _ _ (aT (i:=3) Ep.nd rfl (Or.inl rfl)) (@cg _ _ _ _ _ (aT (i:=4) Ep.nd rfl (Or.inl rfl)) gQ (by rfl)) (by rfl)) (by rfl) (by rfl)) (@aJ _ _ _ (@eV _ _ _ _ _ _ _ _ (PW.pt (uW (@cF _ _ _ _ _ _ _ _ (Le hr.units) (pv 3) (pv 1) (by with_unfolding_all rfl)) (xP (@cF _ _ _ _ _ _ _ _ lD (@aH _ _ _ _ _ _ (bX K) bD (pv 4) (pv 2) (fun _ _=>rfl)) aq (bN _))))) (@aJ _ _ _ (@bA _ _ _ _ (pv 3))) gu)) (by intro _;rfl)) (@aJ _ _ _ (@bA _ _ _ _ jB))),?_⟩
 refine Sv.gv hlive hds aI (ρ:=[.d false _, .d false _, .d false _, .no, .no]) rfl ?_
 clear aI hds
 have lW:(R.map aR).length=R.length:=ak ..
 refine Sv.seq ?_
 refine Sv.CZ ?_
 walk_at "dt"
 refine fun v=>⟨fun i ρ=>∃(x3 x4:Sl),ρ=[.d false (.list (R.map aR)), .d false (.dict ((fc T).map bJ)), .d false (.int pl),x3,x4]/\∀j<i,j∉T.map (·.1)->gI (R.getD j []) pl=0,⟨_,_,rfl,fun j hj=>absurd hj (uD _)⟩,?_,?_⟩
 ·rintro i d ρ ⟨e,he,rfl⟩ ⟨x3,x4,rfl,hz⟩
  obtain⟨r,hr,rfl⟩:=fq he
  have hi:=(aP.mp hr).1
  have hrr:=hR r (aW hr)
  have hg:R.getD i []=r:=by rw[bf,hr];rfl
  have hat:bH (r.map PyData.int) (pl:Int)=some (.int (gI r pl)):=fh (by omega) (by rw[bu,fX,hrr.at hpl];rfl)
  have ki:=w6 T i
  walk_at "dt"
  refine Ev.wJ ?_
  walk_at "dt"
  refine⟨fc T,rfl,_,rfl,?_⟩
  rw[ki]
  have hnext:(i∉T.map (·.1)->gI r pl=0)->∀j<i+1,j∉T.map (·.1)->gI (R.getD j []) pl=0:=fun h j hj hn=>by
   by_cases c:j=i
   ·subst c;rw[hg];exact h hn
   ·exact hz j (by omega) hn
  by_cases c:i∈T.map (·.1)
  ·rw[if_neg (by simpa using c)]
   walk_at "dt"
   exact⟨_,_,rfl,hnext fun h=>absurd c h⟩
  ·rw[if_pos (by simpa using c)]
   walk_at "dt"
   by_cases c2:gI r pl=0
   ·walk_at "dt"
    exact⟨_,_,rfl,hnext fun _=>c2⟩
   ·walk_at "dt"
    exact q2 i hi c (by rw[hg];exact c2) hz
 ·rintro ρ ⟨x3,x4,rfl,hz⟩
  walk_at "dt"
  refine q1 fun i hi=>hz i (by rw[lW];exact hi)
def B9:DF:=fun ds Φ=>∃(p c:Int) (w:Nat) (r o:List Int),ds=[.int p,aR r, .int c,aR o]/\0<p/\p<10^40/\aK p w r/\aK p w o/\w<=10000/\0<=c/\c<p/\∀f:Bool,Φ f (aR (fV p c r o))
theorem Uw:dQ B9:=by
 intro ds Φ Ψ hm z
 obtain⟨p,c,w,r,o,e,h1,h2,h3,h4,h5,h6,h7,q⟩:=hm
 exact⟨p,c,w,r,o,e,h1,h2,h3,h4,h5,h6,h7,fun f=>z _ _ (q f)⟩
theorem Om:cB ["p","row","factor","own"] ["p","row","factor","own"] (aQ uT):=⟨rfl,rfl,rfl,by decide+kernel,rfl,by decide+kernel,by decide+kernel⟩
theorem M6(F:bT K "less" "less" uT f fd)(qt:mg "zip"=none):
  bE P w K mg base bL 1 f fd ["p","row","factor","own"] (bI 4 B9):=by
 refine F.ok Om (fun vs H Q E h=>h.1) (fun cdv A outer s H vs Q E hr h=>?_)
 obtain⟨nb,ds,Φ,hlive,hds,aI,hF⟩:=gx h
 obtain⟨p,c,w,r,o,rfl,hp,gG,hr,ho,hw,c0,c1,q⟩:=hF
 refine⟨_,(@aA _ _ _ _ _ (@eV _ _ _ _ _ _ _ _ (@cF _ _ _ _ _ _ _ _ i6 (pv 2) aq (bN _)) (@aJ _ _ _ (@bA _ _ _ _ (pv 1))) gu) (@aJ _ _ _ (@bA _ _ _ _ (fL (dN.of (show eH (aQ uT) ["p","row","factor","own"] _ ["number","other","p","factor"] [none,none,some 0,some 2]=true by decide+kernel)) (@ES _ (K) _ _ _ _ _ _ _ _ _ rfl rfl qt (pv 1) (pv 3) (by rfl) (by rfl) (by rfl)) (fun _ _ _ _=>⟨(@g7 _ (K) _ _ _ (2) _ rfl rfl (@cg _ _ _ _ _ (aT (i:=0) (by show List.Nodup (["number","other","p","factor"]:List Str);decide+kernel) rfl (Or.inl rfl)) (@cg _ _ _ _ _ (aT (i:=1) (by show List.Nodup (["number","other","p","factor"]:List Str);decide+kernel) rfl (Or.inl rfl)) gQ (by rfl)) (by rfl)) (by rfl) (by rfl)),iT,(@aG _ _ _ _ _ _ _ _ fM (@aG _ _ _ _ _ _ _ _ kT (pv 0) (@aG _ _ _ _ _ _ _ _ iN (pv 3) (pv 1))) (pv 2))⟩))))),?_⟩
 refine Sv.gv hlive hds aI (ρ:=[.d false _, .d false _, .d false _, .d false _]) rfl ?_
 clear aI hds
 have hrl:(r.map PyData.int).length=r.length:=ak ..
 have ie:(o.map PyData.int).length=o.length:=ak ..
 have hl:=hr.len
 have hl2:=ho.len
 have hsm:∀x:Int,0<=x->x<=p->Sm x:=fun x x0 x1=>by unfold Sm;omega
 have sc:∀L:List Int,cV (L.map PyData.int)=true:=fun L=>by unfold cV;simp[vm,iB]
 walk_at "dt"
 by_cases cc:c=0
 ·rw[if_pos (decide_eq_true cc)]
  walk_at "dt"
  have:=q false
  rw[cc,VW hr ho] at this
  exact this
 ·rw[if_neg (by simpa using cc)]
  walk_at "dt"
  refine aD.ev (aD.Rj (by decide) rfl ?_)
  walk_at "dt"
  refine⟨sc r,by omega,fun v=>?_⟩
  walk_at "dt"
  refine⟨sc o,by omega,fun v2=>⟨true,fun i ds=>ds=(fV p c (r.take i) (o.take i)).map PyData.int,rfl,?_,?_⟩⟩
  ·rintro i d ds ⟨e,e2,he,he2,rfl⟩ hl' rfl
   obtain⟨x,hx,rfl⟩:=fq he
   obtain⟨y,hy,rfl⟩:=fq he2
   obtain⟨x0,x1⟩:=hr.rg x (aW hx)
   obtain⟨y0,y1⟩:=ho.rg y (aW hy)
   have s1:=hsm c c0 (by omega)
   have s2:=hsm x x0 (by omega)
   have s3:=hsm y y0 (by omega)
   walk_at "dt"
   refine⟨by walk_at "wk",?_⟩
   walk_at "dt"
   show _=List.map PyData.int (fV p c (r.take (i+1)) (o.take (i+1)))
   unfold fV
   rw[take_snoc hx,take_snoc hy,List.zipWith_append (by rw[cZ,cZ];omega),cE]
   rfl
  rintro ds hl' rfl
  rw[hrl,eE,show r.length=o.length by omega,eE]
  exact q _
def CP:DF:=fun ds Φ=>∃(p:Int) (w:Nat) (R:List (List Int)) (k pl:Nat),ds=[.int p, .list (R.map aR), .int k, .int pl]/\gZ p/\p<10^40/\i8 p w R/\R.length<=9000/\k<R.length/\pl<w/\w<=9000/\gI (R.getD k []) pl≠0/\
 ∀(f:Bool) (inv:Int),(∃j,inv*gI (R.getD k []) pl=1+p*j)->Φ f (.list ((gy p inv R k pl).map aR))
theorem Us:dQ CP:=by
 intro ds Φ Ψ hm z
 obtain⟨p,w,R,k,pl,e,h1,h2,h3,h4,h5,h6,h7,h8,q⟩:=hm
 exact⟨p,w,R,k,pl,e,h1,h2,h3,h4,h5,h6,h7,h8,fun f inv h=>z _ _ (q f inv h)⟩
theorem CB:cB ["p","rows","k","place","own","told"] ["p","rows","k","place"] (aQ uH):=⟨rfl,rfl,rfl,by decide+kernel,rfl,by decide+kernel,by decide+kernel⟩
theorem QT(F:bT K "cleared" "cleared" uH f fd)(vJ:Callee P w K mg base "times" 1 ["p","factor","row"] (bI 3 sF))(DI:Callee P w K mg base "inverse" 2 ["p","b"] uE)(Xg:Callee P w K mg base "less" 1 ["p","row","factor","own"] (bI 4 B9)):
  bE P w K mg base bL 3 f fd ["p","rows","k","place"] (bI 4 CP):=by
 refine F.ok CB (fun vs H Q E h=>h.1) (fun cdv A outer s H vs Q E hr h=>?_)
 obtain⟨nb,ds,Φ,hlive,hds,aI,hF⟩:=gx h
 obtain⟨p,w,R,k,pl,rfl,hp,gG,hR,jj,hk,hpl,hw,hne,q⟩:=hF
 refine⟨_,(@aA _ _ _ _ _ (@aU _ _ (4) _ _ _ _ CB.nd rfl (Or.inr rfl) (@aX _ _ _ _ _ _ _ _ _ _ vJ (hr.mono (by decide)) (@aa _ _ _ _ _ (pv 0) (@aa _ _ _ _ _ (@aX _ _ _ _ _ _ _ _ _ _ DI (hr.mono (by decide)) (@aa _ _ _ _ _ (pv 0) (@aa _ _ _ _ _ (@aH _ _ _ _ _ _ (bX K) bD (@aH _ _ _ _ _ _ (bX K) bD (pv 1) (pv 2) (fun _ _=>rfl)) (pv 3) (fun _ _=>rfl)) ao rfl) rfl) (by rfl) (by decide) (by rfl) (by rfl)) (@aa _ _ _ _ _ (@aH _ _ _ _ _ _ (bX K) bD (pv 1) (pv 2) (fun _ _=>rfl)) ao rfl) rfl) rfl) (by rfl) (by decide) (by rfl) (by rfl)) (by rfl) (by first|exact .inl rfl|exact .inr rfl|assumption)) (@aA _ _ _ _ _ (HR (i:=5) CB.nd rfl rfl (dN.of (show eH (aQ uH) ["p","rows","k","place","own","told"] _ ["row","p","place","own"] [none,some 0,some 3,some 4]=true by decide+kernel)) (gf (K:=K) rfl (pv 1)) (fun _ _ _ _=>⟨(aT (i:=0) (by show List.Nodup (["row","p","place","own"]:List Str);decide+kernel) rfl (Or.inl rfl)),iT,(@aX _ _ _ _ _ _ _ _ _ _ Xg (hr.mono (by decide)) (@aa _ _ _ _ _ (pv 1) (@aa _ _ _ _ _ (pv 0) (@aa _ _ _ _ _ (@aH _ _ _ _ _ _ (bX K) bD (pv 0) (pv 2) (fun _ _=>rfl)) (@aa _ _ _ _ _ (pv 3) ao rfl) rfl) rfl) rfl) (by rfl) (by decide) (by rfl) (by rfl))⟩)) (@aA _ _ _ _ _ (@fQ _ _ _ _ _ _ (pv 4) (gO (pv 5) (pv 2) set_list) (by rfl) (by rfl) (by rfl)) (@aJ _ _ _ (@bA _ _ _ _ (pv 5)))))),?_⟩
 refine Sv.gv hlive hds aI (ρ:=[.d false _, .d false _, .d false _, .d false _, .no, .no]) rfl ?_
 clear aI hds
 have p2:=hp.1
 have lW:(R.map aR).length=R.length:=ak ..
 have k8:aK p w R[k]:=hR _ (c6 hk)
 have hkk:R.getD k []=R[k]:=ic hk
 rw[hkk] at hne q
 have YA:bH (R.map aR) (k:Int)=some (aR R[k]):=fh (by omega) (by rw[bu,fX,aF hk];rfl)
 have G8:∀r,aK p w r->bH (r.map PyData.int) (pl:Int)=some (.int (gI r pl)):=fun r h=>fh (by omega) (by rw[bu,fX,h.at hpl];rfl)
 have YG:=G8 R[k] k8
 obtain⟨g0,g1⟩:=k8.g (i:=pl) (by omega)
 have Ni:gI R[k] pl%p≠0:=by rw[jh g0 g1];exact hne
 walk_at "dt"
 refine Ev.dB IC ?_
 walk_at "dt"
 refine Ev.inv ?_
 walk_at "dt"
 refine⟨p,gI R[k] pl,rfl,hp,gG,Ni,fun inv i0 i1 hinv=>?_⟩
 walk_at "dt"
 refine⟨rfl,p,inv,w,R[k],rfl,by omega,gG,k8,by omega,i0,i1,?_⟩
 obtain⟨own,hown⟩:∃own,mulR p inv R[k]=own:=⟨_,rfl⟩
 have Q5:aK p w own:=by rw[<-hown];exact k8.mul (by omega)
 rw[hown]
 refine Gv.name ?_
 refine Sv.seq ?_
 refine Sv.HG ?_
 refine aD.jY (by decide) rfl ?_
 walk_at "dt"
 refine fun v=>⟨false,fun i ds=>ds=((R.take i).map fun r=>fV p (gI r pl) r own).map aR,rfl,?_,?_⟩
 ·rintro i d ds hd hl' rfl
  obtain⟨r,hr,rfl⟩:=fq hd
  have hrr:=hR r (aW hr)
  have Yw:=G8 r hrr
  obtain⟨r0,r1⟩:=hrr.g (i:=pl) (by omega)
  walk_at "dt"
  refine⟨by walk_at "wk",?_⟩
  walk_at "dt"
  refine Ev.dB Uw ?_
  walk_at "dt"
  refine⟨rfl,p,gI r pl,w,r,own,rfl,by omega,gG,hrr,Q5,by omega,r0,r1,fun f=>⟨fun z=>(by cases z),?_⟩⟩
  show _=List.map aR (List.map _ (R.take (i+1)))
  rw[take_snoc hr,cE,cE]
  rfl
 rintro ds hl' rfl
 rw[lW,eE]
 intro A5
 walk_at "dt"
 have hix:dM (List.map aR (List.map (fun r=>fV p (gI r pl) r own) R)).length (k:Int)=some k:=by
  unfold dM
  rw[ak,ak]
  repeat (first|rw[if_pos (by omega)]|rw[if_neg (by omega)])
  simp
 refine⟨_,k,rfl,hix,?_⟩
 refine Sv.kZ 5 rfl ?_
 walk_at "dt"
 rw[<-jL]
 have:=q
 unfold gy at this
 simp only[hkk] at this
 rw[<-hown]
 exact this _ inv hinv
def qc(L:List Nat):PyData:= .list (L.map fun(i:Nat)=> .int (i:Int))
def uB:DF:=fun ds Φ=>∃(p:Int) (w:Nat) (R:List (List Int)) (L:List Nat),ds=[.int p, .list (R.map aR),qc L]/\gZ p/\p<10^40/\i8 p w R/\R.length<=9000/\w<=9000/\(∀d∈L,d<w)/\L.length<=9000/\
 ∀(f:Bool) (R':List (List Int)) (T:List (Nat×Nat)),c9 p w R R' T L->(T.length<=9000/\(kg w R []->kg w R' T))->Φ f (.tuple [.list (R'.map aR), .dict ((fc T).map bJ)])
theorem Hr:dQ uB:=by
 intro ds Φ Ψ hm z
 obtain⟨p,w,R,L,e,h1,h2,h3,h4,h5,h6,h7,q⟩:=hm
 exact⟨p,w,R,L,e,h1,h2,h3,h4,h5,h6,h7,fun f R' T a b=>z _ _ (q f R' T a b)⟩
theorem Nn(T:List (Nat×Nat)){k d:Nat}(h:k∉T.map (·.1)):lq (fc T) (k:Int) (.int d)=fc (T++[(k,d)]):=by
 unfold lq
 rw[w6,if_neg (by simpa using h)]
 unfold fc
 rw[cE]
 rfl
theorem HC{L:List Nat}{i:Nat}{d:PyData}(h:(L.map fun(i:Nat)=>PyData.int (i:Int))[i]?=some d):∃x,L[i]?=some x/\d= .int (x:Int):=by
 rw[bu] at h
 obtain⟨x,e,h⟩:=jx.mp h
 exact⟨x,e,h.symm⟩
theorem rD:cB ["p","rows","places","taken","place","k"] ["p","rows","places"] (aQ Cw):=⟨rfl,rfl,rfl,by decide+kernel,rfl,by decide+kernel,by decide+kernel⟩
theorem Ul(F:bT K "swept" "swept" Cw f fd)(NP:Callee P w K mg base "first_with" 1 ["rows","taken","place"] (bI 3 Ac))(SG:Callee P w K mg base "cleared" 3 ["p","rows","k","place"] (bI 4 CP)):
  bE P w K mg base bL 4 f fd ["p","rows","places"] (bI 3 uB):=by
 refine F.ok rD (fun vs H Q E h=>h.1) (fun cdv A outer s H vs Q E hr h=>?_)
 obtain⟨nb,ds,Φ,hlive,hds,aI,hF⟩:=gx h
 obtain⟨p,w,R,L,rfl,hp,gG,hR,jj,hw,hL,vX,q⟩:=hF
 refine⟨_,(@aA _ _ _ _ _ (@aU _ _ (3) _ _ _ _ rD.nd rfl (Or.inl rfl) RU (by rfl) (by first|exact .inl rfl|exact .inr rfl|assumption)) (@aA _ _ _ _ _ (@fO _ _ _ _ _ _ _ _ eK rfl (gf (K:=K) rfl (pv 2)) (aT (i:=4) rD.nd rfl (Or.inl rfl)) (@aA _ _ _ _ _ (@aU _ _ (5) _ _ _ _ rD.nd rfl (Or.inl rfl) (@aX _ _ _ _ _ _ _ _ _ _ NP (hr.mono (by decide)) (@aa _ _ _ _ _ (pv 1) (@aa _ _ _ _ _ (pv 3) (@aa _ _ _ _ _ (pv 4) ao rfl) rfl) rfl) (by rfl) (by decide) (by rfl) (by rfl)) (by rfl) (by first|exact .inl rfl|exact .inr rfl|assumption)) (@aJ _ _ _ (@eV _ _ _ _ _ _ _ _ (@cF _ _ _ _ _ _ _ _ rG (pv 5) jB (bN _)) (@aA _ _ _ _ _ (@fQ _ _ _ _ _ _ (pv 4) (gO (pv 3) (pv 5) set_dict) (by rfl) (by rfl) (by rfl)) (@aJ _ _ _ (@aU _ _ (1) _ _ _ _ rD.nd rfl (Or.inl rfl) (@aX _ _ _ _ _ _ _ _ _ _ SG (hr.mono (by decide)) (@aa _ _ _ _ _ (pv 0) (@aa _ _ _ _ _ (pv 1) (@aa _ _ _ _ _ (pv 5) (@aa _ _ _ _ _ (pv 4) ao rfl) rfl) rfl) rfl) (by rfl) (by decide) (by rfl) (by rfl)) (by rfl) (by first|exact .inl rfl|exact .inr rfl|assumption)))) gu))) (by intro _;rfl)) (@aJ _ _ _ (@bA _ _ _ _ (@iQ _ _ _ _ _ (@aa _ _ _ _ _ (pv 1) (@aa _ _ _ _ _ (pv 3) ao rfl) rfl)))))),?_⟩
 refine Sv.gv hlive hds aI (ρ:=[.d false _, .d false _, .d false _, .no, .no, .no]) rfl ?_
 clear aI hds
 have p2:=hp.1
 have wj:(L.map fun(i:Nat)=>PyData.int (i:Int)).length=L.length:=ak ..
 refine Sv.seq ?_
 refine Sv.GP (oX.new ?_)
 intro A3
 refine Sv.seq ?_
 refine Sv.forL ?_
 refine Ev.var rfl ?_
 refine⟨_,rfl,fun v=>⟨fun i ρ=>∃(R':List (List Int)) (T:List (Nat×Nat)) (f1 f3:Bool) (x4 x5:Sl),c9 p w R R' T (L.take i)/\(kg w R []->kg w R' T)/\T.length<=i/\ρ=[.d false (.int p), .d f1 (.list (R'.map aR)), .d false (qc L), .bW A3 f3 (fc T),x4,x5],⟨R,[],_,_,_,_,c9.init hR,id,bh _,rfl⟩,?_,?_⟩⟩
 ·rintro i d ρ hd ⟨R',T,f1,f3,x4,x5,hS,hLC,jb,rfl⟩
  obtain⟨pl,hpl,rfl⟩:=HC hd
  have hil:=(aP.mp hpl).1
  have w5:=hL pl (aW hpl)
  have YM:=hS.len
  refine Gv.iD ?_
  refine Sv.seq ?_
  refine Sv.asg ?_
  refine Ev.Iu ?_
  refine gb.Uy 3 rfl ?_
  refine gb.dB Nz ?_
  walk_at "dt"
  refine⟨rfl,p,w,R',T,pl,rfl,hS.ok,by omega,gG,by omega,by omega,w5,by omega,fun hz=>⟨rfl,?_⟩,fun k hk gX hne Cb=>⟨rfl,?_⟩⟩
  ·refine Gv.name ?_
   walk_at "dt"
   refine⟨R',T,_,_,_,_,?_,hLC,by omega,rfl⟩
   rw[take_snoc hpl]
   exact hS.skip hz
  ·refine Gv.name ?_
   generalize gW:(jK (ff (dG 4) (oq (dG 3) (dG 5) yX)) _:TS)=tl
   walk_at "dt"
   subst gW
   refine Sv.seq ?_
   refine Sv.Tq rfl ?_
   walk_at "dt"
   refine⟨by unfold fc;rw[ak];omega,?_⟩
   rw[Nn T gX]
   refine Sv.asg ?_
   refine Ev.dB Us ?_
   walk_at "dt"
   refine⟨rfl,p,w,R',k,pl,rfl,hp,gG,hS.ok,by omega,hk,w5,by omega,hne,fun f inv hinv=>?_⟩
   refine Gv.name ?_
   refine⟨_,_,_,_,_,_,?_,fun z=>(hLC z).take hS (by omega) (by omega) hk gX Cb,by rw[fm,j3];omega,rfl⟩
   rw[take_snoc hpl]
   exact hS.take (by omega) (fun e he=>hL e (nh he)) w5 hk gX hne hinv
 ·rintro ρ ⟨R',T,f1,f3,x4,x5,hS,hLC,jb,rfl⟩
  rw[wj] at jb hS
  rw[eE] at hS
  refine Sv.Iz 3 rfl ?_
  walk_at "dt"
  exact q _ R' T hS ⟨by omega,hLC⟩
def xT:DF:=fun ds Φ=>∃(p n:Int) (cs:List az) (w:Nat) (r:List Int) (wd:Wo),ds=[bV p n cs,aR r,lN wd]/\0<p/\p<10^40/\0<=n/\n<=9000/\n.toNat<=w/\w<=9000/\aK p w r/\wd.length=n.toNat/\(∀x,some x∈wd->0<=x/\x<p)/\Φ true (.int (aj (cJ wd) r%p))
theorem XO:dQ xT:=by
 intro ds Φ Ψ hm z
 obtain⟨p,n,cs,w,r,wd,e,h1,h2,h3,h4,h5,h6,h7,h8,h9,q⟩:=hm
 exact⟨p,n,cs,w,r,wd,e,h1,h2,h3,h4,h5,h6,h7,h8,h9,z _ _ q⟩
theorem Xq:cB ["net","row","word"] ["net","row","word"] (aQ BY):=⟨rfl,rfl,rfl,by decide+kernel,rfl,by decide+kernel,by decide+kernel⟩
theorem Nd(F:bT K "reached_by" "reached_by" BY f fd)(zp:Callee P w K mg base "total" 1 ["p","pairs","word"] wz)(eY:mg "list"=none)(iG:mg "enumerate"=none):
  bE P w K mg base bL 2 f fd ["net","row","word"] (bI 3 xT):=by
 refine F.ok Xq (fun vs H Q E h=>h.1) (fun cdv A outer s H vs Q E hr h=>?_)
 obtain⟨nb,ds,Φ,hlive,hds,aI,hF⟩:=gx h
 obtain⟨p,n,cs,w,r,wd,rfl,hp,gG,n0,n1,nw,hw,hrw,hwl,iU,q⟩:=hF
 refine⟨_,(@aJ _ _ _ (@bA _ _ _ _ (@aX _ _ _ _ _ _ _ _ _ _ zp (hr.mono (by decide)) (@aa _ _ _ _ _ (@aH _ _ _ _ _ _ (bK K) bU (pv 0) aq (fun _ _=>rfl)) (@aa _ _ _ _ _ (@O3 _ (K) _ _ _ _ _ _ rfl rfl rfl eY rfl iG (@mX _ _ _ _ _ _ _ _ _ (kM K) mP (pv 1) oB (@lK _ _ _ (@aH _ _ _ _ _ _ (bK K) bU (pv 0) aq (fun _ _=>rfl)))) (by rfl) (by rfl)) (@aa _ _ _ _ _ (pv 2) ao rfl) rfl) rfl) (by rfl) (by decide) (by rfl) (by rfl)))),?_⟩
 refine Sv.gv hlive hds aI (ρ:=[.d false _, .d false _, .d false _]) rfl ?_
 clear aI hds
 have hrl:(r.map PyData.int).length=r.length:=ak ..
 have hl:=hrw.len
 have hsm:∀x:Int,0<=x->x<=p->Sm x:=fun x x0 x1=>by unfold Sm;omega
 have sc:∀L:List Int,cV (L.map PyData.int)=true:=fun L=>by unfold cV;simp[vm,iB]
 walk_at "dt"
 refine Ev.total ?_
 walk_at "dt"
 refine aD.ev (aD.XS ?_)
 walk_at "dt"
 have lz:gz (r.map PyData.int) none (some n)=(r.take n.toNat).map PyData.int:=by
  unfold gz HT.eB
  simp only[Ec,Nat.sub_zero]
  rw[lH,hrl]
  congr 1
  first|omega|(split<;>omega)
 rw[lz]
 refine⟨sc _,?_⟩
 have e2:List.map (fun q:PyData×Nat=>PyData.tuple [PyData.int (q.2:Int),q.1]) ((r.take n.toNat).map PyData.int).zipIdx=((r.take n.toNat).zipIdx.map fun q=>((q.2:Int),q.1)).map pairD:=by
  rw[List.zipIdx_map,fZ,fZ]
  rfl
 rw[e2]
 walk_at "dt"
 refine⟨p,_,wd,rfl,hp,fun pr aC=>?_,fun x hx=>hsm x (iU x hx).1 (by have:=(iU x hx).2;omega),?_⟩
 ·obtain⟨qq,hq,rfl⟩:=aN.mp aC
  obtain⟨i,hi⟩:=dZ hq
  rw[sG] at hi
  obtain⟨x,e,h2⟩:=jx.mp hi
  subst h2
  have hil:=(aP.mp e).1
  rw[cZ] at hil
  have hx:=hrw.rg x (nh (aW e))
  refine⟨by show(0:Int)<=((0+i:Nat):Int);omega,by show((0+i:Nat):Int)<(wd.length:Int);omega,hsm x hx.1 (by omega)⟩
 ·rw[Pf hwl]
  exact q
def B5:DF:=fun ds Φ=>∃(p n:Int) (cs:List az) (wd:Wo),ds=[bV p n cs,lN wd]/\cP p n cs/\wd.length=n.toNat/\(∀x,some x∈wd->0<=x/\x<p)/\
 (∀v,lP p n cs wd v->Φ true (.tuple [.str "word",aR v]))/\∀aE,t7 p n cs wd aE->Φ true (.tuple [.str "none",aR aE])
theorem Te:dQ B5:=by
 intro ds Φ Ψ hm z
 obtain⟨p,n,cs,wd,e,h1,h2,h3,q1,q2⟩:=hm
 exact⟨p,n,cs,wd,e,h1,h2,h3,fun v h=>z _ _ (q1 v h),fun v h=>z _ _ (q2 v h)⟩
theorem MF{T:List (Nat×Nat)}{k:Nat}(h:k∈T.map (·.1)):∃pl,(k,pl)∈T/\iZ (fc T) (k:Int)=some (.int (pl:Int)):=by
  induction T with
  |nil=>cases h
  | cons t T ih =>
    show∃pl,_/\iZ (((t.1:Int),PyData.int (t.2:Int))::fc T) (k:Int)=_
    rw[pB]
    by_cases c:t.1=k
    · refine⟨t.2,by rw[<-c];exact dj ..,?_⟩
      rw[if_pos (by show((t.1:Nat):Int)=k;omega)]
    · rw[bC] at h
      obtain⟨pl,h1,h2⟩:=ih ((bq.mp h).resolve_left fun z=>c z.symm)
      refine⟨pl,bY _ h1,?_⟩
      rw[if_neg (by show¬((t.1:Nat):Int)=k;omega)]
      exact h2
theorem mJ:cB ["net","word","p","found","taken","told","k","row","reached"] ["net","word"] (aQ wo):=⟨rfl,rfl,rfl,by decide+kernel,rfl,by decide+kernel,by decide+kernel⟩
theorem XN(F:bT K "filled" "filled" wo f fd)(Ad:Callee P w K mg base "swept" 4 ["p","rows","places"] (bI 3 uB))(Aw:Callee P w K mg base "rows_of" 1 ["net"] (bI 1 uV))(RA:Callee P w K mg base "lost_of" 1 ["word"] (bI 1 CS))(NO:Callee P w K mg base "reached_by" 2 ["net","row","word"] (bI 3 xT))(vJ:Callee P w K mg base "times" 1 ["p","factor","row"] (bI 3 sF))(DI:Callee P w K mg base "inverse" 2 ["p","b"] uE)(iG:mg "enumerate"=none):
    bE P w K mg base bL 5 f fd ["net","word"] (bI 2 B5):=by
  refine F.ok mJ (fun vs H Q E h=>h.1) (fun cdv A outer s H vs Q E hr h=>?_)
  obtain⟨nb,ds,Φ,hlive,hds,aI,hF⟩:=gx h
  obtain⟨p,n,cs,wd,rfl,hN,hwl,iU,q1,q2⟩:=hF
  refine⟨_,(@aA _ _ _ _ _ (@aU _ _ (2) _ _ _ _ mJ.nd rfl (Or.inl rfl) (@aH _ _ _ _ _ _ (bK K) bU (pv 0) aq (fun _ _=>rfl)) (by rfl) (by first|exact .inl rfl|exact .inr rfl|assumption)) (@aA _ _ _ _ _ (@aU _ _ (3) _ _ _ _ mJ.nd rfl (Or.inl rfl) (@aX _ _ _ _ _ _ _ _ _ _ Ad (hr.mono (by decide)) (@aa _ _ _ _ _ (pv 2) (@aa _ _ _ _ _ (@aX _ _ _ _ _ _ _ _ _ _ Aw (hr.mono (by decide)) (@aa _ _ _ _ _ (pv 0) ao rfl) (by rfl) (by decide) (by rfl) (by rfl)) (@aa _ _ _ _ _ (@aX _ _ _ _ _ _ _ _ _ _ RA (hr.mono (by decide)) (@aa _ _ _ _ _ (pv 1) ao rfl) (by rfl) (by decide) (by rfl) (by rfl)) ao rfl) rfl) rfl) (by rfl) (by decide) (by rfl) (by rfl)) (by rfl) (by first|exact .inl rfl|exact .inr rfl|assumption)) (@aA _ _ _ _ _ (@aU _ _ (4) _ _ _ _ mJ.nd rfl (Or.inl rfl) (@aH _ _ _ _ _ _ (bK K) bU (pv 3) aq (fun _ _=>rfl)) (by rfl) (by first|exact .inl rfl|exact .inr rfl|assumption)) (@aA _ _ _ _ _ (HR (i:=5) mJ.nd rfl rfl (dN.of (show eH (aQ wo) ["net","word","p","found","taken","told","k","row","reached"] _ ["letter"] [none]=true by decide+kernel)) (gf (K:=K) rfl (pv 1)) (fun _ _ _ _=>⟨(aT (i:=0) (by show List.Nodup (["letter"]:List Str);decide+kernel) rfl (Or.inl rfl)),iT,(@um _ _ _ _ _ _ _ _ (@cF _ _ _ _ _ _ _ _ w9 (pv 0) jB (bN _)) aq (pv 0))⟩)) (@aA _ _ _ _ _ (@fO _ _ _ _ _ _ _ _ eK rfl (@vO _ (K) _ _ _ _ _ _ _ rfl rfl iG (@aH _ _ _ _ _ _ (bK K) bU (pv 3) aq (fun _ _=>rfl)) (by rfl)) (@g7 _ (K) _ _ _ (2) _ rfl rfl (@cg _ _ _ _ _ (aT (i:=6) mJ.nd rfl (Or.inl rfl)) (@cg _ _ _ _ _ (aT (i:=7) mJ.nd rfl (Or.inl rfl)) gQ (by rfl)) (by rfl)) (by rfl) (by rfl)) (@aA _ _ _ _ _ (@aU _ _ (8) _ _ _ _ mJ.nd rfl (Or.inl rfl) (@aX _ _ _ _ _ _ _ _ _ _ NO (hr.mono (by decide)) (@aa _ _ _ _ _ (pv 0) (@aa _ _ _ _ _ (pv 7) (@aa _ _ _ _ _ (pv 1) ao rfl) rfl) rfl) (by rfl) (by decide) (by rfl) (by rfl)) (by rfl) (by first|exact .inl rfl|exact .inr rfl|assumption)) (@aJ _ _ _ (@eV _ _ _ _ _ _ _ _ (@cF _ _ _ _ _ _ _ _ (IV hr.units) (pv 6) (pv 4) (by with_unfolding_all rfl)) (@aJ _ _ _ (@fQ _ _ _ _ _ _ (@aG _ _ _ _ _ _ _ _ fM (@AJ _ _ _ _ _ _ yg (pv 8)) (pv 2)) (gO (pv 5) (@aH _ _ _ _ _ _ (tw) GO (pv 4) (pv 6) (fun _ _=>rfl)) set_list) (by rfl) (by rfl) (by rfl))) (@aJ _ _ _ (@eV _ _ _ _ _ _ _ _ (@cF _ _ _ _ _ _ _ _ lD (pv 8) aq (bN _)) (@aJ _ _ _ (@bA _ _ _ _ (@iQ _ _ _ _ _ (@aa _ _ _ _ _ tW (@aa _ _ _ _ _ (@aX _ _ _ _ _ _ _ _ _ _ vJ (hr.mono (by decide)) (@aa _ _ _ _ _ (pv 2) (@aa _ _ _ _ _ (@aX _ _ _ _ _ _ _ _ _ _ DI (hr.mono (by decide)) (@aa _ _ _ _ _ (pv 2) (@aa _ _ _ _ _ (pv 8) ao rfl) rfl) (by rfl) (by decide) (by rfl) (by rfl)) (@aa _ _ _ _ _ (@mX _ _ _ _ _ _ _ _ _ (kM K) mP (pv 7) (@lK _ _ _ (@aH _ _ _ _ _ _ (bK K) bU (pv 0) aq (fun _ _=>rfl))) oB) ao rfl) rfl) rfl) (by rfl) (by decide) (by rfl) (by rfl)) ao rfl) rfl)))) gu))))) (by intro _;rfl)) (@aJ _ _ _ (@bA _ _ _ _ (@iQ _ _ _ _ _ (@aa _ _ _ _ _ tW (@aa _ _ _ _ _ (pv 5) ao rfl) rfl))))))))),?_⟩
  refine Sv.gv hlive hds aI (ρ:=[.d false _, .d false _, .no, .no, .no, .no, .no, .no, .no]) rfl ?_
  clear aI hds
  have p2:=hN.hp.1
  have cO:=hN.cO
  have n0:=hN.n0
  have n1:=hN.n1
  have hcl:=hN.cl
  have HN:(wd.map fE).length=wd.length:=ak ..
  have tH:(jW wd).length<=wd.length:=by unfold jW;exact cX (Bf ..) (by rw[fk];exact bh _)
  have VZ:PyData.list ((D5 wd).map PyData.int)=qc (jW wd):=by
    unfold D5 qc jW
    rw[fZ]
    rfl
  walk_at "dt"
  refine Ev.dB Hr ?_
  walk_at "dt"
  refine Ev.dB J7 ?_
  walk_at "dt"
  refine⟨rfl,p,n,cs,rfl,hN,fun f0=>?_⟩
  walk_at "dt"
  refine Ev.dB Sn ?_
  walk_at "dt"
  refine⟨rfl,wd,rfl,by omega,?_⟩
  rw[VZ]
  walk_at "dt"
  refine⟨rfl,p,n.toNat+cs.length,dh n.toNat cs.length cs,jW wd,rfl,hN.hp,cO,hN.rows,by rw[lY];omega,by omega,fun d hd=>by have:=(aP.mp (qj.mp hd)).1;omega,by omega,fun f1 R T hS jb=>?_⟩
  have jj:R.length=cs.length:=by rw[hS.len,lY]
  generalize gW:(jK (yF 5 _) _:TS)=tl
  walk_at "dt"
  subst gW
  refine Sv.seq ?_
  refine Sv.HG ?_
  refine aD.jY (by decide) rfl ?_
  walk_at "dt"
  refine fun v=>⟨false,fun i ds=>ds=((wd.take i).map fun o=>o.getD 0).map PyData.int,rfl,?_,?_⟩
  · rintro i d ds hd hl' rfl
    obtain⟨o,ho,rfl⟩:=fq hd
    have GC:List.map PyData.int (List.map (fun o=>Option.getD o 0) (wd.take (i+1)))=List.map PyData.int (List.map (fun o=>Option.getD o 0) (wd.take i))++[PyData.int (o.getD 0)]:=by
      rw[take_snoc ho,cE,cE]
      rfl
    walk_at "dt"
    refine⟨by walk_at "wk",?_⟩
    walk_at "dt"
    rw[qb]
    cases o with
    | none =>
      walk_at "dt"
      exact GC.symm
    | some x =>
      walk_at "dt"
      exact GC.symm
  rintro ds hl' rfl
  rw[HN,eE]
  have hsc:(false||cV (List.map PyData.int (List.map (fun o=>Option.getD o 0) wd)))=true:=by unfold cV;simp[vm,iB]
  rw[hsc]
  intro A5
  refine Sv.seq ?_
  refine Sv.CZ ?_
  walk_at "dt"
  have lW:(R.map aR).length=R.length:=ak ..
  refine fun v=>⟨fun i ρ=>∃(u:List Int) (x6 x7 x8:Sl),FI p n wd R T i u/\ρ=[.d false (bV p n cs), .d false (lN wd), .d true (.int p), .d false (.tuple [.list (R.map aR), .dict ((fc T).map bJ)]), .d false (.dict ((fc T).map bJ)), .own A5 true (u.map .int),x6,x7,x8],⟨_,_,_,_,FI.init (by omega) hwl iU,rfl⟩,?_,?_⟩
  · rintro i d ρ ⟨e,he,rfl⟩ ⟨u,x6,x7,x8,hF,rfl⟩
    obtain⟨r,o9,rfl⟩:=fq he
    have hi:=(aP.mp o9).1
    have hg:R.getD i []=r:=by rw[bf,o9];rfl
    have hrr:=hS.ok r (aW o9)
    have ki:=w6 T i
    walk_at "dt"
    refine Ev.dB XO ?_
    walk_at "dt"
    refine⟨rfl,p,n,cs,n.toNat+cs.length,r,wd,rfl,by omega,cO,by omega,by omega,by omega,by omega,hrr,hwl,iU,?_⟩
    obtain⟨rc,rY⟩:∃x,aj (cJ wd) r%p=x:=⟨_,rfl⟩
    have MJ:0<=rc:=by rw[<-rY];exact eG _ (by omega)
    have Q8:rc<p:=by rw[<-rY];exact e7 _ (by omega)
    rw[rY]
    walk_at "dt"
    refine Ev.wJ ?_
    walk_at "dt"
    refine⟨fc T,rfl,_,rfl,?_⟩
    rw[ki]
    by_cases c:i∈T.map (·.1)
    · rw[if_pos (by simpa using c)]
      obtain⟨pl,hpl,hval⟩:=MF c
      have oY:=qj.mp (hS.rg _ hpl).2
      have w5:=(aP.mp oY).1
      have jd:=hF.len
      refine Sv.nU rfl ?_
      walk_at "dt"
      refine Ev.HB ?_
      walk_at "dt"
      refine⟨fc T,rfl,?_⟩
      walk_at "dt"
      have hix:dM (u.map PyData.int).length (pl:Int)=some pl:=by
        unfold dM
        rw[ak]
        repeat (first|rw[if_pos (by omega)]|rw[if_neg (by omega)])
        simp
      refine⟨_,hval,_,_,rfl,hix,?_⟩
      have en: -rc%p= -(aj (cJ wd) (R.getD i []))%p:=by
        rw[hg,<-rY,iC (aj (cJ wd) r),Int.neg_sub,Int.sub_eq_add_neg,Int.add_comm,Bk]
      rw[<-jL,en]
      exact⟨_,_,_,_,hF.take (by omega) hwl hS hpl,rfl⟩
    · rw[if_neg (by simpa using c)]
      walk_at "dt"
      by_cases c2:rc=0
      · walk_at "dt"
        refine⟨u,_,_,_,hF.pass c ?_,rfl⟩
        rw[hg]
        exact zI (by omega)
      · walk_at "dt"
        refine Ev.dB IC ?_
        walk_at "dt"
        refine Ev.inv ?_
        walk_at "dt"
        refine⟨p,rc,rfl,hN.hp,cO,by rw[jh MJ Q8];exact c2,fun inv i0 i1 hinv=>?_⟩
        walk_at "dt"
        have hrl:=hrr.len
        have hrm:(r.map PyData.int).length=r.length:=ak ..
        have lz:gz (r.map PyData.int) (some n) none=(r.drop n.toNat).map PyData.int:=by
          unfold gz HT.eB
          show List.take (_-if n<0 then _ else _) (List.drop (if n<0 then _ else _) _)=_
          rw[if_neg (by omega),hrm,pM (by omega),pR]
          apply xF
          rw[iR,hrm]
          exact bh _
        rw[lz]
        have hd:aK p cs.length (r.drop n.toNat):=⟨by rw[iR];omega,fun x hx=>hrr.rg x (wU hx)⟩
        refine⟨rfl,p,inv,cs.length,r.drop n.toNat,rfl,by omega,cO,hd,by omega,i0,i1,?_⟩
        walk_at "dt"
        have:=Uk hN hwl hS hi c (u:=inv) (by rw[hg,rY];exact hinv)
        rw[hg] at this
        exact q2 _ this
  · rintro ρ ⟨u,x6,x7,x8,hF,rfl⟩
    rw[lW] at hF
    refine Sv.kZ 5 rfl ?_
    walk_at "dt"
    exact q1 u (hF.word hN hwl hS)
def vt:DF:=fun ds Φ=>∃(p n:Int) (cs:List az),ds=[bV p n cs]/\cP p n cs/\∀(f:Bool) (R:List (List Int)) (T:List (Nat×Nat)),c9 p (n.toNat+cs.length) (dh n.toNat cs.length cs) R T (List.range n.toNat)->kg (n.toNat+cs.length) R T->T.length<=9000->Φ f (.tuple [.list (R.map aR), .dict ((fc T).map bJ)])
theorem FU:dQ vt:=by
 intro ds Φ Ψ hm z
 obtain⟨p,n,cs,e,h1,q⟩:=hm
 exact⟨p,n,cs,e,h1,fun f R T a b c=>z _ _ (q f R T a b c)⟩
theorem SI:cB ["net"] ["net"] (aQ Cj):=⟨rfl,rfl,rfl,by decide+kernel,rfl,by decide+kernel,by decide+kernel⟩
theorem Sh(F:bT K "swept_all" "swept_all" Cj f fd)(Ad:Callee P w K mg base "swept" 4 ["p","rows","places"] (bI 3 uB))(Aw:Callee P w K mg base "rows_of" 1 ["net"] (bI 1 uV))(eY:mg "list"=none)(bO:mg "range"=none):
  bE P w K mg base bL 5 f fd ["net"] (bI 1 vt):=by
 refine F.ok SI (fun vs H Q E h=>h.1) (fun cdv A outer s H vs Q E hr h=>?_)
 obtain⟨nb,ds,Φ,hlive,hds,aI,hF⟩:=gx h
 obtain⟨p,n,cs,rfl,hN,q⟩:=hF
 refine⟨_,(@aJ _ _ _ (@bA _ _ _ _ (@aX _ _ _ _ _ _ _ _ _ _ Ad (hr.mono (by decide)) (@aa _ _ _ _ _ (@aH _ _ _ _ _ _ (bK K) bU (pv 0) aq (fun _ _=>rfl)) (@aa _ _ _ _ _ (@aX _ _ _ _ _ _ _ _ _ _ Aw (hr.mono (by decide)) (@aa _ _ _ _ _ (pv 0) ao rfl) (by rfl) (by decide) (by rfl) (by rfl)) (@aa _ _ _ _ _ (@kq _ _ _ _ _ _ _ _ _ (Du rfl) rfl eY pe (@aa _ _ _ _ _ (@kq _ _ _ _ _ _ _ _ _ Bc rfl bO Ci (@aa _ _ _ _ _ (@aH _ _ _ _ _ _ (bK K) bU (pv 0) aq (fun _ _=>rfl)) ao rfl) (by decide) (by decide) (by rfl) (by rfl)) ao rfl) (by decide) (by decide) (by rfl) (by rfl)) ao rfl) rfl) rfl) (by rfl) (by decide) (by rfl) (by rfl)))),?_⟩
 refine Sv.gv hlive hds aI (ρ:=[.d false _]) rfl ?_
 clear aI hds
 have p2:=hN.hp.1
 have cO:=hN.cO
 have n0:=hN.n0
 have n1:=hN.n1
 have hcl:=hN.cl
 walk_at "dt"
 refine Ev.dB Hr ?_
 walk_at "dt"
 refine Ev.dB J7 ?_
 walk_at "dt"
 refine⟨rfl,p,n,cs,rfl,hN,fun f0=>?_⟩
 walk_at "dt"
 refine aD.ev (aD.Dq ?_)
 walk_at "dt"
 have eL:PyData.list (((List.range n.toNat).map fun(i:Nat)=>(0:Int)+(i:Int)).map .int)=qc (List.range n.toNat):=by
  unfold qc
  rw[fZ]
  congr 1
  apply nk
  intro i _
  show PyData.int (0+(i:Int))=_
  rw[mV]
 refine⟨rfl,p,n.toNat+cs.length,dh n.toNat cs.length cs,List.range n.toNat,by rw[<-eL];rfl,hN.hp,cO,hN.rows,by rw[lY];omega,by omega,fun d hd=>by have:=dS.mp hd;omega,by rw[fk];omega,fun f1 R T hS jb=>?_⟩
 exact q _ R T hS (jb.2 (Mh hN)) jb.1
def zJ:DF:=fun ds Φ=>∃(p n:Int) (cs:List az) (c:Nat) (prs:az),ds=[bV p n cs, .int c]/\cP p n cs/\cs[c]?=some prs/\
 (∀w,aK p n.toNat w->VN p (cs.take c) w->p∣aV prs (w.map some)+1->Φ true .none)/\∀aE:List Int,aK p c aE->(∀j<n.toNat,p∣co prs j-bS (cs.take c) aE j)->Φ true (aR aE)
theorem XD:dQ zJ:=by
 intro ds Φ Ψ hm z
 obtain⟨p,n,cs,c,prs,e,h1,h2,q1,q2⟩:=hm
 exact⟨p,n,cs,c,prs,e,h1,h2,fun w a b c=>z _ _ (q1 w a b c),fun f a b=>z _ _ (q2 f a b)⟩
theorem xm:cB ["net","c","p","n","found"] ["net","c"] (aQ u9):=⟨rfl,rfl,rfl,by decide+kernel,rfl,by decide+kernel,by decide+kernel⟩
theorem QD(F:bT K "comes_of" "comes_of" u9 f fd)(B7:Callee P w K mg base "swept_all" 5 ["net"] (bI 1 vt)):
  bE P w K mg base bL 6 f fd ["net","c"] (bI 2 zJ):=by
 refine F.ok xm (fun vs H Q E h=>h.1) (fun cdv A outer s H vs Q E hr h=>?_)
 obtain⟨nb,ds,Φ,hlive,hds,aI,hF⟩:=gx h
 obtain⟨p,n,cs,c,prs,rfl,hN,hc,q1,q2⟩:=hF
 refine⟨_,(@aA _ _ _ _ _ (@aU _ _ (2) _ _ _ _ xm.nd rfl (Or.inr rfl) (@aH _ _ _ _ _ _ (bK K) bU (pv 0) aq (fun _ _=>rfl)) (by rfl) (by first|exact .inl rfl|exact .inr rfl|assumption)) (@aA _ _ _ _ _ (@aU _ _ (3) _ _ _ _ xm.nd rfl (Or.inl rfl) (@aH _ _ _ _ _ _ (bK K) bU (pv 0) aq (fun _ _=>rfl)) (by rfl) (by first|exact .inl rfl|exact .inr rfl|assumption)) (@aA _ _ _ _ _ (@aU _ _ (4) _ _ _ _ xm.nd rfl (Or.inl rfl) (@aX _ _ _ _ _ _ _ _ _ _ B7 (hr.mono (by decide)) (@aa _ _ _ _ _ (@iQ _ _ _ _ _ (@aa _ _ _ _ _ (pv 2) (@aa _ _ _ _ _ (pv 3) (@aa _ _ _ _ _ (@mX _ _ _ _ _ _ _ _ _ (kM K) mP (@aH _ _ _ _ _ _ (bK K) bU (pv 0) aq (fun _ _=>rfl)) oB (@lK _ _ _ (@aG _ _ _ _ _ _ _ _ dg (pv 1) aq))) ao rfl) rfl) rfl)) ao rfl) (by rfl) (by decide) (by rfl) (by rfl)) (by rfl) (by first|exact .inl rfl|exact .inr rfl|assumption)) (@aA _ _ _ _ _ (@eV _ _ _ _ _ _ _ _ (@cF _ _ _ _ _ _ _ _ (IV hr.units) (pv 1) (@aH _ _ _ _ _ _ (bK K) bU (pv 4) aq (fun _ _=>rfl)) (by with_unfolding_all rfl)) (@aJ _ _ _ (@bA _ _ _ _ jB)) gu) (@aJ _ _ _ (@bA _ _ _ _ (fL (dN.of (show eH (aQ u9) ["net","c","p","n","found"] _ ["factor","p"] [none,some 2]=true by decide+kernel)) (gf (K:=K) rfl (@mX _ _ _ _ _ _ _ _ _ (kM K) mP (@aH _ _ _ _ _ _ (bX K) bD (@aH _ _ _ _ _ _ (bK K) bU (pv 4) aq (fun _ _=>rfl)) (pv 1) (fun _ _=>rfl)) (@lK _ _ _ (pv 3)) (@lK _ _ _ (@aG _ _ _ _ _ _ _ _ dg (pv 3) (pv 1))))) (fun _ _ _ _=>⟨(aT (i:=0) (by show List.Nodup (["factor","p"]:List Str);decide+kernel) rfl (Or.inl rfl)),iT,(@aG _ _ _ _ _ _ _ _ fM (@AJ _ _ _ _ _ _ yg (pv 0)) (pv 1))⟩)))))))),?_⟩
 refine Sv.gv hlive hds aI (ρ:=[.d false _, .d false _, .no, .no, .no]) rfl ?_
 clear aI hds
 have p2:=hN.hp.1
 have cO:=hN.cO
 have n0:=hN.n0
 have n1:=hN.n1
 have hcl:=hN.cl
 have hlt:=(aP.mp hc).1
 have gK:(cs.map br).length=cs.length:=ak ..
 walk_at "dt"
 refine Ev.dB FU ?_
 walk_at "dt"
 have lz:gz (cs.map br) none (some ((c:Int)+1))=(cs.take c++[prs]).map br:=by
  rw[Az (by omega) (by rw[gK];omega),show((c:Int)+1).toNat=c+1 by omega,<-lH,take_snoc hc]
 rw[lz]
 have yC:cP p n (cs.take c++[prs]):=by rw[<-take_snoc hc];exact hN.take _
 have qE:(cs.take c).length=c:=by rw[cZ];omega
 refine⟨rfl,p,n,cs.take c++[prs],rfl,yC,fun f1 R T hS hL jb=>?_⟩
 have jj:R.length=c+1:=by rw[hS.len,lY,fm,qE,j3]
 have hml:(cs.take c++[prs]).length=c+1:=by rw[fm,qE,j3]
 have ki:=w6 T c
 walk_at "dt"
 refine Ev.wJ ?_
 walk_at "dt"
 refine⟨fc T,rfl,_,rfl,?_⟩
 rw[ki]
 by_cases ct:c∈T.map (·.1)
 ·rw[if_pos (by simpa using ct)]
  walk_at "dt"
  obtain⟨w,hw,hV,hd⟩:=VA yC hS hL (by rw[qE];exact ct)
  exact q1 w hw hV hd
 ·rw[if_neg (by simpa using ct)]
  have hlt':c<R.length:=by omega
  obtain⟨r,hr,hat⟩:=ny (xs:=R) (k:=(c:Int)) aR (by omega) (by omega) rfl
  rw[fX] at hr
  have hrr:=hS.ok r (aW hr)
  have hrl:=hrr.len
  have hrm:(r.map PyData.int).length=r.length:=ak ..
  have LK:gz (r.map PyData.int) (some n) (some (n+(c:Int)))=((r.drop n.toNat).take c).map PyData.int:=by
   rw[T9 (by omega) (by omega) (by rw[hrm];omega),show(n+(c:Int)-n).toNat=c by omega,lH,pR]
  walk_at "dt"
  refine aD.ev (aD.jY (by decide) rfl ?_)
  walk_at "dt"
  rw[LK]
  have hdl:((r.drop n.toNat).take c).length=c:=by rw[cZ,iR];omega
  refine⟨by rw[ak,hdl];omega,fun v=>?_⟩
  refine gS.rel PyData.int true (fun i o=>o= -(gI r (n.toNat+i))%p) ?_ fun os ie hos=>?_
  ·rintro i d hd
   obtain⟨x,hx,rfl⟩:=fq hd
   have hi:i<c:=by have:=(aP.mp hx).1;omega
   have ex:x=gI r (n.toNat+i):=by
    rw[nF hi,BI] at hx
    unfold gI
    rw[bf,hx]
    rfl
   walk_at "dt"
   refine⟨by walk_at "wk",?_⟩
   walk_at "dt"
   rw[ex]
  ·rw[ak,hdl] at ie
   have hg:R.getD c []=r:=by rw[bf,hr];rfl
   refine q2 os ⟨ie,fun x hx=>?_⟩ ?_
   ·obtain⟨i,hi⟩:=dZ hx
    rw[hos i x hi]
    exact⟨eG _ (by omega),e7 _ (by omega)⟩
   ·refine Lm yC hS hL (by rw[qE];exact ct) os (by rw[qE];exact ie) fun i hi=>?_
    rw[qE] at hi⊢
    rw[hg]
    have e:=hos i _ (aF (by omega))
    have e2:gI os i=os[i]'(by omega):=by unfold gI;rw[bf,aF (by omega)];rfl
    rw[e2,e,iC]
    exact⟨-(-(gI r (n.toNat+i))/p),by grind⟩
theorem xg:cB ["script","stir","cell"] ["script"] (aQ xJ):=⟨rfl,rfl,rfl,by decide+kernel,rfl,by decide+kernel,by decide+kernel⟩
theorem SV(F:bT K "_law_bag" "_law_bag" xJ f fd)(Dv:mg "abs"=none):
  bE P w K mg base bL 1 f fd ["script"] (HX K):=by
 refine F.ok xg (fun vs H Q E h=>?_) (fun cdv A outer s H vs Q E hr h=>?_)
 ·obtain⟨a,ns,rfl,hS,hl,q⟩:=h
  rfl
 obtain⟨a,ns,rfl,hS,hl,q⟩:=h
 refine⟨_,(@aA _ _ _ _ _ (@aU _ _ (1) _ _ _ _ xg.nd rfl (Or.inl rfl) aq (by rfl) (by first|exact .inl rfl|exact .inr rfl|assumption)) (@aA _ _ _ _ _ (@fO _ _ _ _ _ _ _ _ eK rfl (gf (K:=K) rfl (@mX _ _ _ _ _ _ _ _ _ _ mP (pv 0) oB (@lK _ _ _ aq))) (aT (i:=2) xg.nd rfl (Or.inl rfl)) (@aJ _ _ _ (@aU _ _ (1) _ _ _ _ xg.nd rfl (Or.inl rfl) (@aG _ _ _ _ _ _ _ _ fM (@aG _ _ _ _ _ _ _ _ dg (@aG _ _ _ _ _ _ _ _ dg (@aG _ _ _ _ _ _ _ _ iN (pv 1) aq) (@aG _ _ _ _ _ _ _ _ fM (pv 2) aq)) aq) aq) (by rfl) (by first|exact .inl rfl|exact .inr rfl|assumption))) (by intro _;rfl)) (@aJ _ _ _ (@bA _ _ _ _ (@gw _ _ _ _ (@aa _ _ _ _ _ (fL (dN.of (show eH (aQ xJ) ["script","stir","cell"] _ ["cell"] [none]=true by decide+kernel)) (gf (K:=K) rfl (@mX _ _ _ _ _ _ _ _ _ _ mP (pv 0) oB (@lK _ _ _ aq))) (fun _ _ _ _=>⟨(aT (i:=0) (by show List.Nodup (["cell"]:List Str);decide+kernel) rfl (Or.inl rfl)),iT,(@aG _ _ _ _ _ _ _ _ fM (@dm _ _ _ _ _ _ _ _ _ Rz rfl Dv PyProof.Rows.boot_abs (@aa _ _ _ _ _ (pv 0) ao rfl) (by decide) (by decide) (by rfl) (by rfl)) (@aG _ _ _ _ _ _ _ _ vj aq aq))⟩)) (@aa _ _ _ _ _ aq (@aa _ _ _ _ _ aq (@aa _ _ _ _ _ (pv 1) (@aa _ _ _ _ _ aq ao rfl) rfl) rfl) rfl) rfl)))))),?_⟩
 have Jf:lJ (ns.map V.int) none (some 63)=ns.map V.int:=by
  have e:(ns.map V.int).length=ns.length:=ak _
  show List.take (min 63 (ns.map V.int).length-0) (List.drop 0 (ns.map V.int))=_
  rw[Ec]
  exact xF (by omega)
 walk_at "st"
 refine R.G5 hS fun c hc=>?_
 rw[Jf]
 refine R.vD (aS.of aY) ?_
 refine IE (xs:=ns.map V.int) (fun i σ H1=>∃(st:Int) (x:Option V),σ=[some (.ref a),some (.int st),x]/\0<=st/\st<2147483647/\H1=upd H c (.lst (ns.map V.int))) ⟨19,none,rfl,by omega,by omega,rfl⟩ ?_ ?_ ?_
 ·rintro i σ H1 hi ⟨st,x,rfl,h1,h2,rfl⟩
  exact aS.of aY
 ·rintro i x σ H1 hx ⟨st,y,rfl,h1,h2,rfl⟩
  rw[bu] at hx
  obtain⟨n,_,rfl⟩:=jx.mp hx
  walk_at "st"
  exact⟨_,_,rfl,eG _ (by decide),e7 _ (by decide),rfl⟩
 ·rintro σ H1 ⟨st,x,rfl,h1,h2,rfl⟩
  walk_at "st"
  refine R.G5 ((cH hc).seq hS) fun c2 hc2=>?_
  rw[Jf]
  refine R.vD (aS.of aY) ?_
  intro acc hacc
  refine R.Jr (xs:=ns.map V.int) (fun i σ H2=>∃(x:Option V),σ=[x]/\H2=upd (upd (upd H c (.lst (ns.map V.int))) c2 (.lst (ns.map V.int))) acc (.lst (((ns.take i).map fun n=>(if n<0 then-n else n)%10^60).map V.int))) ⟨none,rfl,rfl⟩ ?_ ?_ ?_
  ·rintro i σ H1 hi ⟨x,rfl,rfl⟩
   refine aS.of ?_
   rw[aB (ig aY hacc)]
   exact aY
  ·rintro i x σ H1 hx ⟨y,rfl,rfl⟩
   rw[bu] at hx
   obtain⟨n,hn,rfl⟩:=jx.mp hx
   walk_at "st"
   refine⟨_,aY,?_,_,rfl,?_⟩
   ·rw[ak,ak,cZ]
    exact FH (by omega)
   ·rw[zX,nZ,hn,cE,cE]
    rfl
  ·rintro σ H1 ⟨x,rfl,rfl⟩
   walk_at "st"
   refine(show BD _ _ _ from⟨by show 5<=sizeLine;decide,fun p hp=>?_⟩)
   have hn1:=ig (aY (H:=upd (upd H c (.lst (ns.map V.int))) c2 (.lst (ns.map V.int))) (a:=acc)) hp
   have s1:cy H (upd (upd (upd H c (.lst (ns.map V.int))) c2 (.lst (ns.map V.int))) acc (.lst (((ns.take (ns.map V.int).length).map fun n=>(if n<0 then-n else n)%10^60).map V.int))):=(cH hc).trans ((cH hc2).trans (cH hacc))
   refine q p acc _ (s1.trans (cH hp)) (s1.free hp) ⟨_,0,0,st,0,aY,by rw[aB hn1];exact aY,?_,?_,by omega,by omega,by omega,h1,h2⟩
   ·intro y hy
    obtain⟨z,_,rfl⟩:=aN.mp hy
    exact⟨eG _ (by decide),e7 _ (by decide)⟩
   ·rw[ak,cZ]
    omega
theorem uU:cB ["bag","many","found","k"] ["bag","many"] (aQ CA):=⟨rfl,rfl,rfl,by decide+kernel,rfl,by decide+kernel,by decide+kernel⟩
theorem Rr(F:bT K "_law_stirred" "_law_stirred" CA f fd)(bO:mg "range"=none):
  bE P w K mg base bL 1 f fd ["bag","many"] kY:=by
 refine F.ok uU (fun vs H Q E h=>?_) (fun cdv A outer s H vs Q E hr h=>?_)
 ·obtain⟨b,l,many,rfl,hB,hm,hs,q⟩:=h
  rfl
 obtain⟨b,l,many,rfl,hB,hm,hs,q⟩:=h
 refine⟨_,(@aA _ _ _ _ _ (@aU _ _ (2) _ _ _ _ uU.nd rfl (Or.inl rfl) aq (by rfl) (by first|exact .inl rfl|exact .inr rfl|assumption)) (@aA _ _ _ _ _ (@fO _ _ _ _ _ _ _ _ eK rfl (@iz _ _ _ _ _ _ rfl bO (@aa _ _ _ _ _ (@aG _ _ _ _ _ _ _ _ dg aq (@aG _ _ _ _ _ _ _ _ uR (zT PySem.F.plainAttrs_int PySem.F.slot_int_bit_length PySem.F.type_int_bit_length Xr (pv 1)) aq)) ao rfl) (by rfl)) (aT (i:=3) uU.nd rfl (Or.inl rfl)) (@aA _ _ _ _ _ (@fQ _ _ _ _ _ _ (@aG _ _ _ _ _ _ _ _ dg (@aH _ _ _ _ _ _ _ bD (pv 0) aq (fun _ _=>rfl)) aq) (gO (pv 0) aq set_list) (by rfl) (by rfl) (by rfl)) (@aA _ _ _ _ _ (@fQ _ _ _ _ _ _ (@aG _ _ _ _ _ _ _ _ fM (@aG _ _ _ _ _ _ _ _ dg (@aG _ _ _ _ _ _ _ _ dg (@aG _ _ _ _ _ _ _ _ dg (@aG _ _ _ _ _ _ _ _ vj (@aH _ _ _ _ _ _ _ bD (pv 0) aq (fun _ _=>rfl)) aq) (@aG _ _ _ _ _ _ _ _ iN aq (@aH _ _ _ _ _ _ _ bD (pv 0) aq (fun _ _=>rfl)))) (@aG _ _ _ _ _ _ _ _ iN aq (@aH _ _ _ _ _ _ _ bD (pv 0) aq (fun _ _=>rfl)))) aq) aq) (gO (pv 0) aq set_list) (by rfl) (by rfl) (by rfl)) (@aJ _ _ _ (@aU _ _ (2) _ _ _ _ uU.nd rfl (Or.inl rfl) (@aG _ _ _ _ _ _ _ _ dg (@aG _ _ _ _ _ _ _ _ iN (pv 2) aq) (@aG _ _ _ _ _ _ _ _ uR (@aH _ _ _ _ _ _ _ bD (pv 0) aq (fun _ _=>rfl)) aq)) (by rfl) (by first|exact .inl rfl|exact .inr rfl|assumption))))) (by intro _;rfl)) (@aJ _ _ _ (@bA _ _ _ _ (@aG _ _ _ _ _ _ _ _ fM (pv 2) (pv 1)))))),?_⟩
 have Yx:=By hs
 walk_at "st"
 refine ym (fun i σ H1=>∃(fv:Int) (x:Option V),σ=[some (.ref b),some (.int many),some (.int fv),x]/\bz (Nb b) H H1/\dz H1 b l) ⟨0,none,rfl,bz.refl _ _,hB⟩ ?_ ?_
 ·rintro i σ H1 hi ⟨fv,x,rfl,bt,ns,j,c,st,n,h1,h2,h3,h4,h5,h6,h7,h8,h9⟩
  have hlb:=KL h1 h2
  walk_at "st"
  refine⟨_,_,rfl,bt.trans (bz.set rfl),?_⟩
  exact dz.put hlb h2 h3 h4 h5 h6 h7 (eG _ (by decide)) (e7 _ (by decide))
 ·rintro σ H1 ⟨fv,x,rfl,bt,B⟩
  walk_at "st"
  exact q _ _ (eG _ (by omega)) (e7 _ hm) bt B
theorem Fb:cB ["bag","many","found"] ["bag","many"] (aQ Eo):=⟨rfl,rfl,rfl,by decide+kernel,rfl,by decide+kernel,by decide+kernel⟩
theorem LB(F:bT K "_law_draw" "_law_draw" Eo f fd)(L6:Callee P w K mg base "_law_stirred" 1 ["bag","many"] kY)(cI:mg "len"=none):
  bE P w K mg base bL 2 f fd ["bag","many"] kY:=by
 refine F.ok Fb (fun vs H Q E h=>?_) (fun cdv A outer s H vs Q E hr h=>?_)
 ·obtain⟨b,l,many,rfl,hB,hm,hs,q⟩:=h
  rfl
 obtain⟨b,l,many,rfl,hB,hm,hs,q⟩:=h
 refine⟨_,(@aA _ _ _ _ _ (@eV _ _ _ _ _ _ _ _ (PW.pt (uW (@cF _ _ _ _ _ _ _ _ i6 (@aH _ _ _ _ _ _ _ bD (pv 0) aq (fun _ _=>rfl)) aq (bN _)) (xP (@cF _ _ _ _ _ _ _ _ wR (@aH _ _ _ _ _ _ _ bD (pv 0) aq (fun _ _=>rfl)) (@dm _ _ _ _ _ _ _ _ _ EV rfl cI g8 (@aa _ _ _ _ _ (@aH _ _ _ _ _ _ _ bD (pv 0) aq (fun _ _=>rfl)) ao rfl) (by decide) (by decide) (by rfl) (by rfl)) (bN _))))) (@aA _ _ _ _ _ (@fQ _ _ _ _ _ _ (@aH _ _ _ _ _ _ _ bD (@aH _ _ _ _ _ _ _ bD (pv 0) aq (fun _ _=>rfl)) (@aH _ _ _ _ _ _ _ bD (pv 0) aq (fun _ _=>rfl)) (fun _ _=>rfl)) (gO (pv 0) aq set_list) (by rfl) (by rfl) (by rfl)) (@aJ _ _ _ (@fQ _ _ _ _ _ _ (@aG _ _ _ _ _ _ _ _ dg (@aH _ _ _ _ _ _ _ bD (pv 0) aq (fun _ _=>rfl)) aq) (gO (pv 0) aq set_list) (by rfl) (by rfl) (by rfl)))) (@aJ _ _ _ (@eV _ _ _ _ _ _ _ _ (@cF _ _ _ _ _ _ _ _ i6 (@aH _ _ _ _ _ _ _ bD (pv 0) aq (fun _ _=>rfl)) aq (bN _)) (@aJ _ _ _ (@bA _ _ _ _ (@aX _ _ _ _ _ _ _ _ _ _ L6 (hr.mono (by decide)) (@aa _ _ _ _ _ (pv 0) (@aa _ _ _ _ _ (pv 1) ao rfl) rfl) (by rfl) (by decide) (by rfl) (by rfl)))) gu))) (@aA _ _ _ _ _ (@aU _ _ (2) _ _ _ _ Fb.nd rfl (Or.inl rfl) (@aG _ _ _ _ _ _ _ _ fM (@aH _ _ _ _ _ _ _ bD (pv 0) aq (fun _ _=>rfl)) (pv 1)) (by rfl) (by first|exact .inl rfl|exact .inr rfl|assumption)) (@aA _ _ _ _ _ (@fQ _ _ _ _ _ _ (@aG _ _ _ _ _ _ _ _ uR (@aH _ _ _ _ _ _ _ bD (pv 0) aq (fun _ _=>rfl)) (pv 1)) (gO (pv 0) aq set_list) (by rfl) (by rfl) (by rfl)) (@aJ _ _ _ (@bA _ _ _ _ (pv 2)))))),?_⟩
 obtain⟨ns,i,c,st,n,h1,h2,h3,h4,h5,h6,h7,h8,h9⟩:=id hB
 have hlb:=KL h1 h2
 have fin:∀(H1:Hp) (i' c':Int),H1 b=some (.lst [.ref l, .int i', .int c', .int st, .int n])->bz (Nb b) H H1->0<=i'->0<=c'->c'<10^60->
   ∀(H2:Hp),H2=upd H1 b (.lst [.ref l, .int i', .int (c'/many), .int st, .int n])->Q (.int (c'%many)) H2:=fun H1 i' c' e1 bt g1 g2 g3 H2 e2=>by
  subst e2
  have hd1:0<=c'/many:=ya g2 (by omega)
  have hd2:c'/many<=c':=Int.ediv_le_self _ g2
  exact q _ _ (eG _ (by omega)) (e7 _ hm) (bt.trans (bz.set rfl)) (dz.put hlb (bt _ _ hlb h2) h3 h4 g1 hd1 (by omega) h8 h9)
 walk_at "st"
 refine pX (fun c1=>?_) (fun c1=>?_)
 ·have c1:c=0:=of_decide_eq_true c1
  walk_at "st"
  refine pX (fun c2=>?_) (fun c2=>?_)
  ·have c2:i<(List.map V.int ns).length:=of_decide_eq_true c2
   rw[ak] at c2
   have hi:i.toNat<ns.length:=by omega
   obtain⟨g1,g2⟩:=h3 _ (c6 hi)
   walk_at "st"
   refine R.xw h2 (v:= .int ns[i.toNat]) (fh h5 (by rw[bu,aF hi];rfl)) ?_
   walk_at "st"
   refine fin (upd H b (.lst [.ref l, .int (i+1), .int ns[i.toNat], .int st, .int n])) (i+1) ns[i.toNat] aY (bz.set rfl) (by omega) g1 g2 _ ?_
   rw[zX]
   rfl
  ·walk_at "st"
   exact⟨b,l,many,rfl,hB,hm,hs,q⟩
 ·have c1:¬c=0:=of_decide_eq_false (Eg.mpr c1)
  walk_at "st"
  exact fin H i c h1 (bz.refl _ _) h5 h6 h7 _ rfl
theorem TR(is:List Int):PyData.eqv (.list (is.map PyData.int)) (.list [])=decide (is=[]):=by
 cases is<;>simp[PyData.eqv,PyData.eqvAll]
theorem Ob(is:List Int):SeqAt.shaped (.list (is.map PyData.int))=true:=by
 have h:PyData.depthAll (is.map PyData.int)=0/\PyData.canLayAll0 (is.map PyData.int)=true:=by
  induction is with
  |nil=>simp[PyData.depthAll,PyData.canLayAll0]
  |cons a r ih=>simp[PyData.depthAll,PyData.depth,PyData.canLayAll0,PyData.canLay0,ih.2,ih.1]
 unfold SeqAt.shaped
 simp[PyData.canLay0,PyData.depth,h.2,h.1]
theorem KR{nb:Addr->Prop}{H:Hp}:∀is:List Int,af nb H (is.map PyData.int) (is.map V.int)
 |[]=>af.nil
 |i::is=>af.cons (.int i) (KR is)
theorem Rb{r:Int}(h0:r<=10100)(h:∀d:Int,2<=d->d<102->¬(d*d<=r/\r%d=0)):xD r:=fun d d1 d2 e=>by
 by_cases hd:d<102
 ·exact h d d1 hd ⟨d2,e⟩
 ·have:102*102<=d*d:=Int.mul_le_mul (by omega) (by omega) (by omega) (by omega)
  omega
theorem Ie:cB ["number","found"] ["number"] (aQ uz):=⟨rfl,rfl,rfl,by decide+kernel,rfl,by decide+kernel,by decide+kernel⟩
theorem OL(F:bT K "_law_prime_from" "_law_prime_from" uz f fd)(bO:mg "range"=none):
  bE P w K mg base bL 1 f fd ["number"] AG:=by
 refine F.ok Ie (fun vs H Q E h=>?_) (fun cdv A outer s H vs Q E hr h=>?_)
 ·obtain⟨n,rfl,hn1,hn2,q⟩:=h
  rfl
 obtain⟨n,rfl,hn1,hn2,q⟩:=h
 refine⟨_,(@aA _ _ _ _ _ (@fO _ _ _ _ _ _ _ _ eK rfl (@Ft _ _ _ _ _ _ _ rfl bO (@aa _ _ _ _ _ (pv 0) (@aa _ _ _ _ _ (@aG _ _ _ _ _ _ _ _ dg (pv 0) aq) ao rfl) rfl) (by rfl) (by rfl)) (aT (i:=1) Ie.nd rfl (Or.inr rfl)) (@aJ _ _ _ (@eV _ _ _ _ _ _ _ _ (@cF _ _ _ _ _ _ _ _ (HY hr.units) (fL (dN.of (show eH (aQ uz) ["number","found"] _ ["k","found"] [none,some 1]=true by decide+kernel)) (@Ft _ _ _ _ _ _ _ rfl bO (@aa _ _ _ _ _ aq (@aa _ _ _ _ _ aq ao rfl) rfl) (by rfl) (by rfl)) (fun _ _ _ _=>⟨(aT (i:=0) (by show List.Nodup (["k","found"]:List Str);decide+kernel) rfl (Or.inl rfl)),(l6 (PW.pt (uW (@cF _ _ _ _ _ _ _ _ Ik (@aG _ _ _ _ _ _ _ _ iN (pv 0) (pv 0)) (pv 1) (bN _)) (xP (@cF _ _ _ _ _ _ _ _ i6 (@aG _ _ _ _ _ _ _ _ fM (pv 1) (pv 0)) aq (bN _)))))),(pv 0)⟩)) (@gw _ _ _ _ ao) (bN _)) (@aJ _ _ _ (@bA _ _ _ _ (pv 1))) gu)) (by intro _;rfl)) (@aJ _ _ _ (@bA _ _ _ _ aq))),?_⟩
 walk_at "st"
 refine ym (fun i σ H1=>cy H H1/\∃(x:Option V),σ=[some (.int n),x]) ⟨cy.refl _,none,rfl⟩ ?_ ?_
 ·rintro i σ H1 hi ⟨s1,x,rfl⟩
  have hi2:(i:Int)<60:=by omega
  walk_at "st"
  intro acc hacc
  refine R.K6 (fun j σ H2=>cy H1 H2/\(∃x:Option V,σ=[x,some (.int (n+i))])/\∃is:List Int,H2 acc=some (.lst (is.map V.int))/\is.length<=j/\(is=[]->∀d:Int,2<=d->d<2+j->¬(d*d<=n+i/\(n+i)%d=0))) ?_ ?_ ?_
  ·exact⟨cH hacc,⟨none,rfl⟩,[],aY,fW _,fun _ d d1 d2=>by omega⟩
  ·rintro j σ H2 hj ⟨s2,⟨x,rfl⟩,is,e2,l2,h2⟩
   have hj2:(j:Int)<100:=by omega
   have next:∀d:Int,d<2+((j+1:Nat):Int)->d<2+j\/d=2+j:=fun d h=>by omega
   walk_at "st"
   refine pX (fun c1=>?_) (fun c1=>?_)
   ·have c1:(2+(j:Int))*(2+j)<=n+i:=of_decide_eq_true c1
    walk_at "st"
    refine pX (fun c2=>?_) (fun c2=>?_)
    ·have c2:(n+i)%(2+(j:Int))=0:=of_decide_eq_true c2
     walk_at "st"
     refine⟨_,e2,?_,?_,⟨_,rfl⟩,is++[2+(j:Int)],?_,?_,fun e=>?_⟩
     ·rw[ak];exact FH (by omega)
     ·exact fun a o h=>by rw[aB (ig h hacc)];exact s2 _ _ h
     ·rw[aY,cE];rfl
     ·rw[fm,j3];omega
     ·simp at e
    ·have c2:¬(n+i)%(2+(j:Int))=0:=of_decide_eq_false (Eg.mpr c2)
     refine⟨s2,⟨_,rfl⟩,is,e2,by omega,fun e d d1 d2=>?_⟩
     rcases next d d2 with h|h
     ·exact h2 e d d1 h
     ·rw[h];exact fun z=>c2 z.2
   ·have c1:¬(2+(j:Int))*(2+j)<=n+i:=of_decide_eq_false (Eg.mpr c1)
    walk_at "st"
    refine⟨s2,⟨_,rfl⟩,is,e2,by omega,fun e d d1 d2=>?_⟩
    rcases next d d2 with h|h
    ·exact h2 e d d1 h
    ·rw[h];exact fun z=>c1 z.1
  ·rintro σ H2 ⟨s2,⟨x,rfl⟩,is,e2,l2,h2⟩
   walk_at "st"
   refine R.LY (by decide) fun p H3 s3 f3 e3=>?_
   refine⟨fun _=>False, .list (is.map PyData.int), .list [], .lst id (s3 _ _ e2) (KR is), .lst id e3 af.nil,Ob is,by decide,?_⟩
   rw[TR]
   walk_at "st"
   have s:cy H H3:=s1.trans (s2.trans s3)
   refine pX (fun c=>?_) (fun c=>?_)
   ·have c:is=[]:=by simpa using c
    walk_at "st"
    exact q _ _ s (by omega) (by omega) (Rb (by omega) fun d d1 d2=>h2 c d d1 (by omega))
   ·walk_at "st"
    exact⟨s,_,rfl⟩
 ·rintro σ H1 ⟨s1,x,rfl⟩
  walk_at "st"
  refine q _ _ s1 (by omega) (by omega) fun d d1 d2=>?_
  have:2*2<=d*d:=Int.mul_le_mul d1 d1 (by omega) (by omega)
  omega
def BU:DF:=fun ds Φ=>ds=[]/\∀p:Int,gZ p->p<10^40->∀f,Φ f (.int p)
theorem Oh:dQ BU:=by
 intro ds Φ Ψ hm z
 obtain⟨e,q⟩:=hm
 exact⟨e,fun p h1 h2 f=>z _ _ (q p h1 h2 f)⟩
theorem NI:∀x∈([2,3,5,7,2,11,101,10007,65537,1000003,998244353,1000000007,2147483647,1000000000039,10^Int.toNat 39+3,10^Int.toNat 40-17,2305843009213693951,618970019642690137449562111,162259276829213363391578010288127,170141183460469231731687303715884105727]:List Int),x∈t9/\x<10^40:=by decide
theorem sD:cB ["bag","some","way"] ["bag"] (aQ AW):=⟨rfl,rfl,rfl,by decide+kernel,rfl,by decide+kernel,by decide+kernel⟩
theorem SD(F:bT K "_law_prime" "_law_prime" AW f fd)(ez:Callee P w K mg base "_law_draw" 2 ["bag","many"] kY)(M9:Callee P w K mg base "_law_prime_from" 1 ["number"] AG):
  bE P w K mg base bL 3 f fd ["bag"] (iK 1 BU):=by
 refine F.ok sD (fun vs H Q E h=>h.1) (fun cdv A outer s H vs Q E hr h=>?_)
 obtain⟨b,l,ws,nb,ds,Φ,rfl,hB,hlive,hnb,hds,aI,hF⟩:=tO h
 obtain⟨rfl,q⟩:=hF
 refine⟨_,(@aA _ _ _ _ _ (@Sf _ 1 _ _ _ _ _ _ sD.nd rfl (Or.inl rfl) rfl (Or.inl rfl)) (@aA _ _ _ _ _ (@aU _ _ (1) _ _ _ _ sD.nd rfl (Or.inl rfl) (@aG _ _ _ _ _ _ _ _ tP (pv 1) (@gw _ _ _ _ (@aa _ _ _ _ _ (@aG _ _ _ _ _ _ _ _ dg (@aG _ _ _ _ _ _ _ _ vj aq aq) aq) (@aa _ _ _ _ _ (@aG _ _ _ _ _ _ _ _ kT (@aG _ _ _ _ _ _ _ _ vj aq aq) aq) (@aa _ _ _ _ _ aq (@aa _ _ _ _ _ aq ao rfl) rfl) rfl) rfl))) (by rfl) (by first|exact .inl rfl|exact .inr rfl|assumption)) (@aA _ _ _ _ _ (@aU _ _ (1) _ _ _ _ sD.nd rfl (Or.inl rfl) (@aG _ _ _ _ _ _ _ _ tP (pv 1) (@gw _ _ _ _ (@aa _ _ _ _ _ aq (@aa _ _ _ _ _ aq ao rfl) rfl))) (by rfl) (by first|exact .inl rfl|exact .inr rfl|assumption)) (@aA _ _ _ _ _ (@aU _ _ (2) _ _ _ _ sD.nd rfl (Or.inl rfl) (@aX _ _ _ _ _ _ _ _ _ _ ez (hr.mono (by decide)) (@aa _ _ _ _ _ (pv 0) (@aa _ _ _ _ _ aq ao rfl) rfl) (by rfl) (by decide) (by rfl) (by rfl)) (by rfl) (by first|exact .inl rfl|exact .inr rfl|assumption)) (@aJ _ _ _ (@bA _ _ _ _ (@um _ _ _ _ _ _ _ _ (@cF _ _ _ _ _ _ _ _ wR (pv 2) aq (bN _)) (@aH _ _ _ _ _ _ (bX K) bD (pv 1) (pv 2) (fun _ _=>rfl)) (@aX _ _ _ _ _ _ _ _ _ _ M9 (hr.mono (by decide)) (@aa _ _ _ _ _ (@aG _ _ _ _ _ _ _ _ dg aq (@aX _ _ _ _ _ _ _ _ _ _ ez (hr.mono (by decide)) (@aa _ _ _ _ _ (pv 0) (@aa _ _ _ _ _ aq ao rfl) rfl) (by rfl) (by decide) (by rfl) (by rfl))) ao rfl) (by rfl) (by decide) (by rfl) (by rfl))))))))),?_⟩
 refine Sv.rV hB hlive hnb hds aI (ρ:=[.ay, .no, .no]) rfl ?_
 clear aI hds
 walk_at "dt"
 intro way w1 w2
 by_cases c:way<20
 ·walk_at "dt"
  obtain⟨m,em,hm1,hm2⟩:=pick (L:=[2,3,5,7,2,11,101,10007,65537,1000003,998244353,1000000007,2147483647,1000000000039,10^Int.toNat 39+3,10^Int.toNat 40-17,2305843009213693951,618970019642690137449562111,162259276829213363391578010288127,170141183460469231731687303715884105727]) (k:=way) w1 (by show _<(20:Int);omega) _ NI
  refine⟨_,em,?_⟩
  exact q m (Xx m hm1) hm2 _
 ·walk_at "dt"
  intro r r1 r2
  walk_at "dt"
  exact fun r' h1 h2=>q r' h1 h2 _
def vV:DF:=fun ds Φ=>∃(p:Int) (prs:az) (wd:Wo),ds=[.int p,br prs,lN wd]/\0<p/\prs.length<=10000/\Po prs wd.length/\WQ wd/\Φ true (.int (aV prs wd%p))
theorem ED:dQ vV:=by
 intro ds Φ Ψ hm z
 obtain⟨p,prs,wd,e,h1,h2,h3,h4,q⟩:=hm
 exact⟨p,prs,wd,e,h1,h2,h3,h4,z _ _ q⟩
theorem Va:cB ["p","pairs","word"] ["p","pairs","word"] (aQ uC):=⟨rfl,rfl,rfl,by decide+kernel,rfl,by decide+kernel,by decide+kernel⟩
theorem PN(F:bT K "_law_sum" "_law_sum" uC f fd)(qN:mg "sum"=none):
    bE P w K mg base bL 1 f fd ["p","pairs","word"] (bI 3 vV):=by
  refine F.ok Va (fun vs H Q E h=>h.1) (fun cdv A outer s H vs Q E hr h=>?_)
  obtain⟨nb,ds,Φ,hlive,hds,aI,hF⟩:=gx h
  obtain⟨p,prs,wd,rfl,hp,hl,h1,h2,q⟩:=hF
  refine⟨_,(@aJ _ _ _ (@bA _ _ _ _ (@aG _ _ _ _ _ _ _ _ fM (@dm _ _ _ _ _ _ _ _ (uO K) (Jw rfl) rfl qN K8 (@aa _ _ _ _ _ (fL (dN.of (show eH (aQ uC) ["p","pairs","word"] _ ["place","factor","word"] [none,none,some 2]=true by decide+kernel)) (gf (K:=K) rfl (pv 1)) (fun _ _ _ _=>⟨(@g7 _ (K) _ _ _ (2) _ rfl rfl (@cg _ _ _ _ _ (aT (i:=0) (by show List.Nodup (["place","factor","word"]:List Str);decide+kernel) rfl (Or.inl rfl)) (@cg _ _ _ _ _ (aT (i:=1) (by show List.Nodup (["place","factor","word"]:List Str);decide+kernel) rfl (Or.inl rfl)) gQ (by rfl)) (by rfl)) (by rfl) (by rfl)),(l6 (@cF _ _ _ _ _ _ _ _ rG (@aH _ _ _ _ _ _ (bX K) bD (pv 2) (pv 0) (fun _ _=>rfl)) jB (bN _))),(@aG _ _ _ _ _ _ _ _ iN (pv 1) (@aH _ _ _ _ _ _ (bX K) bD (pv 2) (pv 0) (fun _ _=>rfl)))⟩)) ao rfl) (by decide) (by decide) (by rfl) (by rfl)) (pv 0)))),?_⟩
  refine Sv.gv hlive hds aI (ρ:=[.d false _, .d false _, .d false _]) rfl ?_
  clear aI hds
  walk_at "dt"
  refine aD.ev (aD.jY (by decide) rfl ?_)
  walk_at "dt"
  refine⟨by rw[ak];exact hl,fun v=>⟨false,fun i ds=>∃ns:List Int,ds=ns.map .int/\ns.sum=aV (prs.take i) wd,⟨[],rfl,by simp[aV]⟩,?_,?_⟩⟩
  · rintro i d ds hd hl' ⟨ns,rfl,hs⟩
    obtain⟨pr,aC,rfl⟩:=fq hd
    obtain⟨g1,g2,g3⟩:=h1 pr (aW aC)
    obtain⟨o,ho,hat⟩:=ny (xs:=wd) fE g1 g2 rfl
    have hi:i<prs.length:=(aP.mp aC).1
    have Bt:=Ax (wd:=wd) hi
    have NT:prs[i]=pr:=(aP.mp aC).2
    rw[NT] at Bt
    walk_at "dt"
    refine⟨by walk_at "wk",?_⟩
    walk_at "dt"
    rw[qb]
    cases o with
    | none =>
      walk_at "dt"
      refine⟨ns,rfl,?_⟩
      rw[Bt,hs]
      unfold jC
      rw[ho];simp
    | some x =>
      have hx:Sm x:=h2 x (aW ho)
      have JA:bH (wd.map fE) pr.1=some (.int x):=hat
      walk_at "dt"
      refine⟨ns++[pr.2*x],by simp,?_⟩
      rw[Bt,qQ,hs]
      unfold jC
      rw[ho];simp
  · rintro ds hl' ⟨ns,rfl,hs⟩
    rw[ak,eE] at hs
    refine⟨ns,rfl,?_⟩
    rw[hs]
    walk_at "dt"
    exact q
theorem WC:cB ["net"] ["net"] (aQ wK):=⟨rfl,rfl,rfl,by decide+kernel,rfl,by decide+kernel,by decide+kernel⟩
theorem S4(F:bT K "_law_copy" "_law_copy" wK f fd)(eY:mg "list"=none):
  bE P w K mg base bL 1 f fd ["net"] nR:=by
 refine F.ok WC (fun vs H Q E h=>?_) (fun cdv A outer s H vs Q E hr h=>?_)
 ·obtain⟨nb,p,n,cs,v,rfl,hlive,hv,hl,q⟩:=h
  rfl
 obtain⟨nb,p,n,cs,v,rfl,hlive,hv,hl,q⟩:=h
 refine⟨_,(@aJ _ _ _ (@bA _ _ _ _ (@iQ _ _ _ _ _ (@aa _ _ _ _ _ (@aH _ _ _ _ _ _ (bK K) bU (pv 0) aq (fun _ _=>rfl)) (@aa _ _ _ _ _ (@aH _ _ _ _ _ _ (bK K) bU (pv 0) aq (fun _ _=>rfl)) (@aa _ _ _ _ _ (fL (dN.of (show eH (aQ wK) ["net"] _ ["pairs"] [none]=true by decide+kernel)) (gf (K:=K) rfl (@aH _ _ _ _ _ _ (bK K) bU (pv 0) aq (fun _ _=>rfl))) (fun _ _ _ _=>⟨(aT (i:=0) (by show List.Nodup (["pairs"]:List Str);decide+kernel) rfl (Or.inl rfl)),iT,(@kq _ _ _ _ _ _ _ _ (pV K) CY rfl eY pe (@aa _ _ _ _ _ (pv 0) ao rfl) (by decide) (by decide) (by rfl) (by rfl))⟩)) ao rfl) rfl) rfl)))),?_⟩
 refine Sa (N:=["net"]) (ds:=[bV p n cs]) (ρ:=[.d false (bV p n cs)]) hlive (.cons hv .nil) rfl fun BA σ1 H1 W1=>?_
 have E1:Ev ⟨none,H,nb,[]⟩ [.d false (bV p n cs)] (cK (bK K) (dG 0) (tC (V.int 0))) fun _ d=>d= .int p:=by walk_at "dt";rfl
 have E2:Ev ⟨none,H,nb,[]⟩ [.d false (bV p n cs)] (cK (bK K) (dG 0) (tC (V.int 1))) fun _ d=>d= .int n:=by walk_at "dt";rfl
 refine E1 BA σ1 H1 _ W1 fun f1 v1 H2 d1 e1 s1 hv1=>?_
 have W2:=W1.step s1
 refine E2 BA σ1 H2 _ W2 fun f2 v2 H3 d2 e2 s2 hv2=>?_
 have W3:=W2.step s2
 subst e1 e2
 have Ws:=hv1.bZ
 have NR:=hv2.bZ
 subst Ws NR
 refine aD.jY (G:=⟨none,H,nb,[]⟩) (ρ:=[.d false (bV p n cs)]) (Θ:=fun _ ds=>ds=cs.map br) (by decide) rfl ?_ BA σ1 H3 _ W3 fun f3 L xs H4 ds e3 s3 hL eL hds=>?_
 ·walk_at "dt"
  refine⟨by rw[ak];exact hl,fun v=>⟨false,fun i ds=>ds=(cs.take i).map br,rfl,?_,?_⟩⟩
  ·rintro i d ds hd hl' rfl
   obtain⟨prs,cW,rfl⟩:=fq hd
   walk_at "dt"
   refine⟨by walk_at "wk",?_⟩
   walk_at "dt"
   refine⟨fun z=>(by cases z),?_⟩
   show _=List.map br (List.take (i+1) cs)
   rw[take_snoc cW,cE]
   rfl
  ·rintro ds hl' rfl
   rw[ak,eE]
 ·subst e3
  have old:∀{bB ρ' σ' H'},Wd ⟨none,H,nb,[]⟩ bB ρ' σ' H'->cy H H':=fun W a o e=>W.old a o (fun _ _ z=>(by cases z)) e
  have W4:=W3.step s3
  have zc:H L=none:=by
   cases e:H L with
   |none=>rfl
   |some o=>rw[old W3 L o e] at hL;cases hL
  refine⟨by show 3<=sizeLine;decide,fun T hT=>?_⟩
  have pH:H T=none:=by
   cases e:H T with
   |none=>rfl
   |some o=>rw[old W4 T o e] at hT;cases hT
  have rP:L≠T:=fun z=>by rw[z,hT] at eL;cases eL
  refine q T L xs _ (fun a o e=>?_) pH zc aY (by rw[aB rP];exact eL) ((hds.av fun a y=>?_).keep fun a o _ e=>?_)
  ·rw[aB (fun z=>by rw[z,pH] at e;cases e)];exact old W4 a o e
  ·rcases y with y|y
   ·exact .inl (.inr (.inl y))
   ·exact .inr y
  ·rw[aB (fun z=>by rw[z,hT] at e;cases e)];exact e
theorem Wg:cB ["found"] ["found"] (aQ Bj):=⟨rfl,rfl,rfl,by decide+kernel,rfl,by decide+kernel,by decide+kernel⟩
theorem Tz(F:bT K "_law_whole" "_law_whole" Bj f fd)(kP:mg "isinstance"=none)(qa:mg "int"=none)(B0:mg "bool"=none):
  bE P w K mg base bL 1 f fd ["found"] xW:=by
 refine F.ok Wg (fun vs H Q E h=>?_) (fun cdv A outer s H vs Q E hr h=>?_)
 ·obtain⟨i,rfl,q⟩:=h
  rfl
 obtain⟨i,rfl,q⟩:=h
 refine⟨_,(@aJ _ _ _ (@bA _ _ _ _ (@uG _ _ _ _ _ _ _ (@dm _ _ _ _ _ _ _ _ (mY K) uf rfl kP xO (@aa _ _ _ _ _ (pv 0) (@aa _ _ _ _ _ (xN (v:= .ty "int") rfl qa Fw rfl) ao rfl) rfl) (by decide) (by decide) (by rfl) (by rfl)) (@xQ _ _ _ _ _ (@Rf _ _ _ _ (@dm _ _ _ _ _ _ _ _ (mY K) uf rfl kP xO (@aa _ _ _ _ _ (pv 0) (@aa _ _ _ _ _ (xN (v:= .ty "bool") rfl B0 PyProof.Rows.boot_bool rfl) ao rfl) rfl) (by decide) (by decide) (by rfl) (by rfl))))))),?_⟩
 walk_at "st"
 refine R.BE ?_
 walk_at "st"
 exact q
def Ey:DF:=fun ds Φ=>∃(p n:Int) (cs:List az),ds=[.int p, .int n, .list (cs.map br)]/\cP p n cs/\cs≠[]/\∀(prs:az),kK p n.toNat prs->(∀v:List Int,v.length=n.toNat->(∀q∈cs,p∣aV q (v.map some))->p∣aV prs (v.map some))->Φ true (br prs)
theorem Vg:dQ Ey:=by
 intro ds Φ Ψ hm z
 obtain⟨p,n,cs,e,h1,h2,q⟩:=hm
 exact⟨p,n,cs,e,h1,h2,fun prs a b=>z _ _ (q prs a b)⟩
theorem pQ:cB ["bag","p","n","checks","row","k","letter","place","factor"] ["bag","p","n","checks"] (aQ xj):=⟨rfl,rfl,rfl,by decide+kernel,rfl,by decide+kernel,by decide+kernel⟩
theorem Lp(F:bT K "_law_summed" "_law_summed" xj f fd)(ez:Callee P w K mg base "_law_draw" 2 ["bag","many"] kY)(bO:mg "range"=none)(cI:mg "len"=none):
  bE P w K mg base bL 3 f fd ["bag","p","n","checks"] (iK 4 Ey):=by
 refine F.ok pQ (fun vs H Q E h=>h.1) (fun cdv A outer s H vs Q E hr h=>?_)
 obtain⟨b,l,ws,nb,ds,Φ,rfl,hB,hlive,hnb,hds,aI,hF⟩:=tO h
 obtain⟨p,n,cs,rfl,hN,hne,q⟩:=hF
 refine⟨_,(@aA _ _ _ _ _ (@aU _ _ (4) _ _ _ _ pQ.nd rfl (Or.inr rfl) (@aG _ _ _ _ _ _ _ _ nI (@gw _ _ _ _ (@aa _ _ _ _ _ aq ao rfl)) (pv 2)) (by rfl) (by first|exact .inl rfl|exact .inr rfl|assumption)) (@aA _ _ _ _ _ (@fO _ _ _ _ _ _ _ _ eK rfl (@iz _ _ _ _ _ _ rfl bO (@aa _ _ _ _ _ (@aG _ _ _ _ _ _ _ _ dg aq (@aX _ _ _ _ _ _ _ _ _ _ ez (hr.mono (by decide)) (@aa _ _ _ _ _ (pv 0) (@aa _ _ _ _ _ aq ao rfl) rfl) (by rfl) (by decide) (by rfl) (by rfl))) ao rfl) (by rfl)) (aT (i:=5) pQ.nd rfl (Or.inl rfl)) (@aA _ _ _ _ _ (@aU _ _ (6) _ _ _ _ pQ.nd rfl (Or.inl rfl) (@aG _ _ _ _ _ _ _ _ dg aq (@aX _ _ _ _ _ _ _ _ _ _ ez (hr.mono (by decide)) (@aa _ _ _ _ _ (pv 0) (@aa _ _ _ _ _ (@aG _ _ _ _ _ _ _ _ kT (pv 1) aq) ao rfl) rfl) (by rfl) (by decide) (by rfl) (by rfl))) (by rfl) (by first|exact .inl rfl|exact .inr rfl|assumption)) (@aJ _ _ _ (@fO _ _ _ _ _ _ _ _ eK rfl (gf (K:=K) rfl (@aH _ _ _ _ _ _ (bX K) bD (pv 3) (@aX _ _ _ _ _ _ _ _ _ _ ez (hr.mono (by decide)) (@aa _ _ _ _ _ (pv 0) (@aa _ _ _ _ _ (@dm _ _ _ _ _ _ _ _ (gc K) iF rfl cI g8 (@aa _ _ _ _ _ (pv 3) ao rfl) (by decide) (by decide) (by rfl) (by rfl)) ao rfl) rfl) (by rfl) (by decide) (by rfl) (by rfl)) (fun _ _=>rfl))) (@g7 _ (K) _ _ _ (2) _ rfl rfl (@cg _ _ _ _ _ (aT (i:=7) pQ.nd rfl (Or.inl rfl)) (@cg _ _ _ _ _ (aT (i:=8) pQ.nd rfl (Or.inl rfl)) gQ (by rfl)) (by rfl)) (by rfl) (by rfl)) (@aJ _ _ _ (@fQ _ _ _ _ _ _ (@aG _ _ _ _ _ _ _ _ fM (@aG _ _ _ _ _ _ _ _ dg (@aH _ _ _ _ _ _ (bX K) bD (pv 4) (pv 7) (fun _ _=>rfl)) (@aG _ _ _ _ _ _ _ _ iN (pv 6) (pv 8))) (pv 1)) (gO (pv 4) (pv 7) set_list) (by rfl) (by rfl) (by rfl))) (by intro _;rfl)))) (by intro _;rfl)) (@aJ _ _ _ (@bA _ _ _ _ (fL (dN.of (show eH (aQ xj) ["bag","p","n","checks","row","k","letter","place","factor"] _ ["k","row"] [none,some 4]=true by decide+kernel)) (@iz _ _ _ _ _ _ rfl bO (@aa _ _ _ _ _ (pv 2) ao rfl) (by rfl)) (fun _ _ _ _=>⟨(aT (i:=0) (by show List.Nodup (["k","row"]:List Str);decide+kernel) rfl (Or.inl rfl)),(l6 (@cF _ _ _ _ _ _ _ _ lD (@aH _ _ _ _ _ _ (bX K) bD (pv 1) (pv 0) (fun _ _=>rfl)) aq (bN _))),(@iQ _ _ _ _ _ (@aa _ _ _ _ _ (pv 0) (@aa _ _ _ _ _ (@aH _ _ _ _ _ _ (bX K) bD (pv 1) (pv 0) (fun _ _=>rfl)) ao rfl) rfl))⟩)))))),?_⟩
 refine Sv.rV hB hlive hnb hds aI (ρ:=[.ay, .d false _, .d false _, .d false _, .no, .no, .no, .no, .no]) rfl ?_
 clear aI hds
 have p2:=hN.hp.1
 have cO:=hN.cO
 have hcl:=hN.cl
 have n0:=hN.n0
 have n1:=hN.n1
 have gK:(cs.map br).length=cs.length:=ak ..
 have hc0:0<cs.length:=List.length_pos_iff.mpr hne
 generalize gW:(jK (ff (cK qR _ _) (eX 4)) _:TS)=tl
 walk_at "dt"
 subst gW
 refine Sv.seq ?_
 refine Sv.kF (aD.oU ?_)
 walk_at "dt"
 intro g0
 have hz:List.replicate n.toNat (PyData.int 0)=(List.replicate n.toNat (0:Int)).map PyData.int:=by rw[nL]
 rw[hz]
 intro A4
 refine Sv.seq ?_
 refine Sv.oS ?_
 walk_at "dt"
 intro many m0 m1
 walk_at "dt"
 refine⟨fun c ρ=>∃(r:List Int) (g:Bool) (x5 x6 x7 x8:Sl),aK p n.toNat r/\(∀v:List Int,v.length=n.toNat->(∀q∈cs,p∣aV q (v.map some))->p∣aj (gI v) r)/\ρ=[.ay, .d false (.int p), .d false (.int n), .d false (.list (cs.map br)), .own A4 g (r.map .int),x5,x6,x7,x8],⟨_,_,_,_,_,_,(iu.init (cs:=[]) (aE:=[]) (by omega)).ok,fun v _ _=>⟨0,by rw[tY,dI]⟩,rfl⟩,?_,?_⟩
 ·rintro c d ρ ⟨hc,rfl⟩ ⟨r,g,x5,x6,x7,x8,hR,rP,rfl⟩
  walk_at "dt"
  intro l0 l1 l2
  walk_at "dt"
  refine Sv.forL ?_
  walk_at "dt"
  intro ci c0 c1
  obtain⟨prs,cW,UA⟩:=ny (xs:=cs) br c0 (by rw[gK] at c1;exact c1) rfl
  obtain⟨g1,g2,g3⟩:=hN.ok prs (aW cW)
  have j8:(prs.map pairD).length=prs.length:=ak ..
  walk_at "dt"
  refine fun v=>⟨fun j ρ=>∃(r:List Int) (g:Bool) (x7 x8:Sl),aK p n.toNat r/\(∀v:List Int,v.length=n.toNat->(∀q∈cs,p∣aV q (v.map some))->p∣aj (gI v) r-(1+l0)*aV (prs.take j) (v.map some))/\ρ=[.ay, .d false (.int p), .d false (.int n), .d false (.list (cs.map br)), .own A4 g (r.map .int), .d true (.int (0+(c:Int))), .d true (.int (1+l0)),x7,x8],⟨_,_,_,_,hR,fun v h1 h2=>by show p∣_-_*0;rw[dI,nC];exact rP v h1 h2,rfl⟩,?_,?_⟩
  ·rintro j d ρ hd ⟨r,g,x7,x8,hJ,hLJ,rfl⟩
   obtain⟨pr,lE,rfl⟩:=fq hd
   obtain⟨a0,a1,a2,a3⟩:=g3 pr (aW lE)
   have hrl:=hJ.len
   have T7:bH (r.map PyData.int) pr.1=some (.int (gI r pr.1.toNat)):=fh a0 (by rw[bu,hJ.at (by omega)];rfl)
   obtain⟨b0,b1⟩:=hJ.g (i:=pr.1.toNat) (by omega)
   have s1:Sm (1+l0):=by unfold Sm;omega
   have s2:Sm pr.2:=by unfold Sm;omega
   have hix:dM (r.map PyData.int).length pr.1=some pr.1.toNat:=by
    unfold dM
    rw[ak]
    repeat (first|rw[if_pos (by omega)]|rw[if_neg (by omega)])
   generalize sR:(ff (cK _ _ _) (oq (dG 4) _ qu):TS)=tl2
   walk_at "dt"
   subst sR
   refine Sv.nU rfl ?_
   walk_at "dt"
   refine⟨_,_,rfl,hix,?_⟩
   rw[<-jL]
   refine⟨_,_,_,_,hJ.put (eG _ (by omega)) (e7 _ (by omega)),fun v h1 h2=>?_,rfl⟩
   have h3:=R4 (l:=1+l0) (pr:=pr) (by omega) (by omega) (hLJ v h1 h2)
   have hjl:=(aP.mp lE).1
   rw[Ax hjl,(aP.mp lE).2,Xa (aF (show pr.1.toNat<v.length by omega))]
   have e:gI v pr.1.toNat=v[pr.1.toNat]'(by omega):=by unfold gI;rw[bf,aF (show pr.1.toNat<v.length by omega)];rfl
   rw[e] at h3
   rw[nY pr.2 (v[pr.1.toNat]'(by omega))]
   exact h3
  ·rintro ρ ⟨r,g,x7,x8,hJ,hLJ,rfl⟩
   refine⟨_,_,_,_,_,_,hJ,fun v h1 h2=>?_,rfl⟩
   have h3:=hLJ v h1 h2
   rw[j8,eE] at h3
   obtain⟨a,ha⟩:=h3
   obtain⟨b,hb⟩:=h2 prs (aW cW)
   exact⟨a+(1+l0)*b,by rw[hb] at ha;grind⟩
 ·rintro ρ ⟨r,g,x5,x6,x7,x8,hR,rP,rfl⟩
  have hrl:=hR.len
  refine Sv.kZ 4 rfl ?_
  walk_at "dt"
  refine aD.ev (aD.mw (by decide) rfl ?_)
  walk_at "dt"
  refine⟨true,fun i ds=>ds=(gY r i).map pairD,rfl,?_,?_⟩
  ·rintro i d ds ⟨hi,rfl⟩ hl' rfl
   have hat:bH (r.map PyData.int) (0+(i:Int))=some (.int (gI r i)):=fh (by omega) (by rw[bu,show(0+(i:Int)).toNat=i by omega,hR.at hi];rfl)
   generalize BX:(pZ _:TE)=tt
   walk_at "dt"
   refine⟨by walk_at "wk",?_⟩
   walk_at "dt"
   have hs:=BF r i
   by_cases c:gI r i=0
   ·rw[if_neg (by simpa using c)] at hs
    walk_at "dt"
    show _=List.map pairD (gY r (i+1))
    rw[hs,jz]
   ·rw[if_pos c] at hs
    walk_at "dt"
    subst BX
    refine Ev.tupS ?_
    walk_at "dt"
    refine⟨fun _=>u5 _,?_⟩
    show _=List.map pairD (gY r (i+1))
    rw[hs,cE,mV]
    rfl
  ·rintro ds hl' rfl
   exact q _ (Jl hR (by omega) (by omega)) fun v h1 h2=>by rw[EM h1 hrl];exact rP v h1 h2
def CT:DF:=fun ds Φ=>∃(p n many:Int) (cs:List az),ds=[bV p n cs, .int many]/\gZ p/\p<10^40/\1<=n/\n<=400/\cs.length<=400/\(∀prs∈cs,kK p n.toNat prs)/\0<=many/\many<=10/\∀(f:Bool) (cs':List az),cs'.length<=cs.length+many.toNat->(∀prs∈cs',kK p n.toNat prs)->(∀v:List Int,v.length=n.toNat->(VN p cs v↔VN p cs' v))->Φ f (bV p n cs')
theorem Xm:dQ CT:=by
 intro ds Φ Ψ hm z
 obtain⟨p,n,m,cs,e,h1,h2,h3,h4,h5,h6,h7,h8,q⟩:=hm
 exact⟨p,n,m,cs,e,h1,h2,h3,h4,h5,h6,h7,h8,fun f c a b d=>z _ _ (q f c a b d)⟩
theorem HA{p n:Int}{cs:List az}(h1:gZ p)(h2:p<10^40)(h3:1<=n)(h4:n<=400)(h5:cs.length<=500)(h6:∀prs∈cs,kK p n.toNat prs):cP p n cs:=
 ⟨h1,h2,h3,h4,h5,fun prs hp=>⟨(h6 prs hp).1,(h6 prs hp).2.1,fun pr aC=>by have:=(h6 prs hp).2.2 pr aC;omega⟩⟩
theorem Nu(cs:List az):SeqAt.shaped (.list (cs.map br))=true:=by
 have h1:=IP cs
 unfold SeqAt.shaped
 simp[PyData.canLay0,PyData.depth,h1.2]
 have:=h1.1
 omega
theorem qm:cB ["bag","net","many","p","n","checks","k","pairs"] ["bag","net","many"] (aQ Bd):=⟨rfl,rfl,rfl,by decide+kernel,rfl,by decide+kernel,by decide+kernel⟩
theorem QH(F:bT K "_law_more" "_law_more" Bd f fd)(nX:Callee P w K mg base "_law_copy" 1 ["net"] nR)(MO:Callee P w K mg base "_law_summed" 3 ["bag","p","n","checks"] (iK 4 Ey))(ez:Callee P w K mg base "_law_draw" 2 ["bag","many"] kY)(bO:mg "range"=none)(cI:mg "len"=none):
  bE P w K mg base bL 4 f fd ["bag","net","many"] (iK 3 CT):=by
 refine F.ok qm (fun vs H Q E h=>h.1) (fun cdv A outer s H vs Q E hr h=>?_)
 obtain⟨b,l,ws,nb,ds,Φ,rfl,hB,hlive,hnb,hds,aI,hF⟩:=tO h
 obtain⟨p,n,many,cs,rfl,hp,gG,n0,n1,hcl,hcs,m0,m1,q⟩:=hF
 refine⟨_,(@aA _ _ _ _ _ (@fQ _ _ _ _ _ _ (@aX _ _ _ _ _ _ _ _ _ _ nX (hr.mono (by decide)) (@aa _ _ _ _ _ (pv 1) ao rfl) (by rfl) (by decide) (by rfl) (by rfl)) (@g7 _ (K) _ _ _ (3) _ rfl rfl (@cg _ _ _ _ _ (aT (i:=3) qm.nd rfl (Or.inl rfl)) (@cg _ _ _ _ _ (aT (i:=4) qm.nd rfl (Or.inl rfl)) (@cg _ _ _ _ _ (aT (i:=5) qm.nd rfl (Or.inl rfl)) gQ (by rfl)) (by rfl)) (by rfl)) (by rfl) (by rfl)) (by rfl) (by rfl) (by rfl)) (@aA _ _ _ _ _ (@fO _ _ _ _ _ _ _ _ eK rfl (@iz _ _ _ _ _ _ rfl bO (@aa _ _ _ _ _ (pv 2) ao rfl) (by rfl)) (aT (i:=6) qm.nd rfl (Or.inl rfl)) (@aA _ _ _ _ _ (@aU _ _ (7) _ _ _ _ qm.nd rfl (Or.inl rfl) (@um _ _ _ _ _ _ _ _ (@cF _ _ _ _ _ _ _ _ (xX hr.units) (pv 5) (@gw _ _ _ _ ao) (bN _)) (@aX _ _ _ _ _ _ _ _ _ _ MO (hr.mono (by decide)) (@aa _ _ _ _ _ (pv 0) (@aa _ _ _ _ _ (pv 3) (@aa _ _ _ _ _ (pv 4) (@aa _ _ _ _ _ (pv 5) ao rfl) rfl) rfl) rfl) (by rfl) (by decide) (by rfl) (by rfl)) (@gw _ _ _ _ ao)) (by rfl) (by first|exact .inl rfl|exact .inr rfl|assumption)) (@aJ _ _ _ (@eV _ _ _ _ _ _ _ _ (@cF _ _ _ _ _ _ _ _ (xX hr.units) (pv 7) (@gw _ _ _ _ ao) (bN _)) (@aJ _ _ _ (@pD _ _ _ _ (p9 oJ HW PySem.F.type_list_insert Tu (pv 5) (@aa _ _ _ _ _ (@aX _ _ _ _ _ _ _ _ _ _ ez (hr.mono (by decide)) (@aa _ _ _ _ _ (pv 0) (@aa _ _ _ _ _ (@aG _ _ _ _ _ _ _ _ dg (@dm _ _ _ _ _ _ _ _ (gc K) iF rfl cI g8 (@aa _ _ _ _ _ (pv 5) ao rfl) (by decide) (by decide) (by rfl) (by rfl)) aq) ao rfl) rfl) (by rfl) (by decide) (by rfl) (by rfl)) (@aa _ _ _ _ _ (pv 7) ao rfl) rfl)) (by rfl))) gu))) (by intro _;rfl)) (@aJ _ _ _ (@bA _ _ _ _ (@iQ _ _ _ _ _ (@aa _ _ _ _ _ (pv 3) (@aa _ _ _ _ _ (pv 4) (@aa _ _ _ _ _ (pv 5) ao rfl) rfl) rfl)))))),?_⟩
 refine Sv.rV hB hlive hnb hds aI (ρ:=[.ay, .d false _, .d false _, .no, .no, .no, .no, .no]) rfl ?_
 clear aI hds
 refine Sv.seq ?_
 refine Sv.Qi (by decide) ?_
 walk_at "dt"
 refine⟨p,n,cs,rfl,by omega,fun A5=>?_⟩
 refine Sv.seq ?_
 refine Sv.oS ?_
 walk_at "dt"
 refine⟨fun i ρ=>∃(g:Bool) (cs':List az) (x6 x7:Sl),cs'.length<=cs.length+i/\(∀prs∈cs',kK p n.toNat prs)/\(∀v:List Int,v.length=n.toNat->(VN p cs v↔VN p cs' v))/\ρ=[.ay, .d false (bV p n cs), .d false (.int many), .d true (.int p), .d true (.int n), .own A5 g (cs'.map br),x6,x7],⟨_,cs,_,_,bh _,hcs,fun _ _=>Iff.rfl,rfl⟩,?_,?_⟩
 ·rintro i d ρ ⟨hi,rfl⟩ ⟨g,cs',x6,x7,hl',hcs',hT,rfl⟩
  refine Gv.iD ?_
  have gK:(cs'.map br).length=cs'.length:=ak ..
  refine Sv.seq ?_
  refine Sv.p6 (fun ρ'=>∃(prs:az) (f7:Bool),kK p n.toNat prs/\(∀v:List Int,v.length=n.toNat->(∀q∈cs',p∣aV q (v.map some))->p∣aV prs (v.map some))/\ρ'=[.ay, .d false (bV p n cs), .d false (.int many), .d true (.int p), .d true (.int n), .own A5 g (cs'.map br), .d true (.int (0+(i:Int))), .d f7 (br prs)]) ?_ ?_
  ·refine Sv.asg ?_
   refine Ev.Kf ?_
   refine Tv.lend 5 rfl ?_
   walk_at "dt"
   refine⟨Nu cs',by decide,_,rfl,?_⟩
   rw[show(PyData.list (List.map br cs')).eqv (PyData.list (List.map (fun x:Fd=>x.snd) []))=(cs'.map br).isEmpty from L2.J0 _]
   by_cases c:cs'=[]
   ·subst c
    rw[if_neg (by decide)]
    walk_at "dt"
    exact⟨[],_,⟨.nil,by decide,(fun _ h=>nomatch h)⟩,(fun _ _ _=>⟨0,by rw[dI];rfl⟩),rfl⟩
   ·rw[if_pos (by cases cs' with|nil=>exact absurd rfl c|cons _ _=>rfl)]
    refine Ev.Iu ?_
    refine gb.Qf 5 rfl ?_
    refine gb.qy Vg rfl ?_
    walk_at "dt"
    refine⟨rfl,p,n,cs',rfl,HA hp gG n0 n1 (by omega) hcs',c,fun prs cW AB=>⟨rfl,?_⟩⟩
    refine Gv.name ?_
    exact⟨prs,_,cW,AB,rfl⟩
  rintro ρ' ⟨prs,f7,cW,AB,rfl⟩
  walk_at "dt"
  refine⟨(FE prs).1,by decide,_,rfl,?_⟩
  rw[show(br prs).eqv (PyData.list (List.map (fun x:Fd=>x.snd) []))=(prs.map pairD).isEmpty from L2.J0 _]
  by_cases c:prs=[]
  ·subst c
   rw[if_neg (by decide)]
   walk_at "dt"
   exact⟨_,_,_,_,by omega,hcs',hT,rfl⟩
  ·rw[if_pos (by cases prs with|nil=>exact absurd rfl c|cons _ _=>rfl)]
   refine Sv.insert rfl ?_
   refine Ev.lend 5 rfl ?_
   walk_at "dt"
   rw[gK]
   intro k k0 k1
   refine⟨rfl,k,rfl,k0,by omega,by omega,?_⟩
   refine Ev.var rfl ?_
   have es:(cs'.map br).take k.toNat++br prs::(cs'.map br).drop k.toNat=(cs'.take k.toNat++prs::cs'.drop k.toNat).map br:=by
    rw[cE,bC,lH,pR]
   rw[es]
   refine⟨_,_,_,_,?_,fun q hq=>?_,fun v h1=>(hT v h1).trans ⟨fun h2 q hq=>?_,fun h2 q hq=>?_⟩,rfl⟩
   ·rw[fm,fB,cZ,iR]
    omega
   ·rcases fJ.mp hq with z|z
    ·exact hcs' q (nh z)
    ·rcases bq.mp z with z|z
     ·rw[z];exact cW
     ·exact hcs' q (wU z)
   ·rcases fJ.mp hq with z|z
    ·exact h2 q (nh z)
    ·rcases bq.mp z with z|z
     ·rw[z];exact AB v h1 h2
     ·exact h2 q (wU z)
   ·refine h2 q ?_
    rw[<-List.take_append_drop k.toNat cs'] at hq
    rcases fJ.mp hq with z|z
    ·exact kD _ z
    ·exact iM _ (bY _ z)
 ·rintro ρ ⟨g,cs',x6,x7,hl',hcs',hT,rfl⟩
  refine Sv.kZ 5 rfl ?_
  walk_at "dt"
  exact q _ cs' (by omega) hcs' hT
def AO:DF:=fun ds Φ=>∃(p n first:Int),ds=[.int p, .int n, .int first]/\2<=p/\p<10^40/\0<=first/\first<n/\n<=400/\∀r:List Int,aK p n.toNat r->gI r first.toNat≠0->(∀j<first.toNat,gI r j=0)->Φ true (aR r)
theorem Uv:dQ AO:=by
 intro ds Φ Ψ hm z
 obtain⟨p,n,first,e,h1,h2,h3,h4,h5,q⟩:=hm
 exact⟨p,n,first,e,h1,h2,h3,h4,h5,fun r a b c=>z _ _ (q r a b c)⟩
theorem AU:cB ["bag","p","n","first","row","k"] ["bag","p","n","first"] (aQ BC):=⟨rfl,rfl,rfl,by decide+kernel,rfl,by decide+kernel,by decide+kernel⟩
theorem Ug(F:bT K "_law_row" "_law_row" BC f fd)(ez:Callee P w K mg base "_law_draw" 2 ["bag","many"] kY)(bO:mg "range"=none):
  bE P w K mg base bL 3 f fd ["bag","p","n","first"] (iK 4 AO):=by
 refine F.ok AU (fun vs H Q E h=>h.1) (fun cdv A outer s H vs Q E hr h=>?_)
 obtain⟨b,l,ws,nb,ds,Φ,rfl,hB,hlive,hnb,hds,aI,hF⟩:=tO h
 obtain⟨p,n,first,rfl,p2,cO,f0,f1,n1,q⟩:=hF
 refine⟨_,(@aA _ _ _ _ _ (@aU _ _ (4) _ _ _ _ AU.nd rfl (Or.inl rfl) (@aG _ _ _ _ _ _ _ _ nI (@gw _ _ _ _ (@aa _ _ _ _ _ aq ao rfl)) (pv 2)) (by rfl) (by first|exact .inl rfl|exact .inr rfl|assumption)) (@aA _ _ _ _ _ (@fO _ _ _ _ _ _ _ _ eK rfl (@iz _ _ _ _ _ _ rfl bO (@aa _ _ _ _ _ (@aX _ _ _ _ _ _ _ _ _ _ ez (hr.mono (by decide)) (@aa _ _ _ _ _ (pv 0) (@aa _ _ _ _ _ aq ao rfl) rfl) (by rfl) (by decide) (by rfl) (by rfl)) ao rfl) (by rfl)) (aT (i:=5) AU.nd rfl (Or.inl rfl)) (@aJ _ _ _ (@fQ _ _ _ _ _ _ (@aX _ _ _ _ _ _ _ _ _ _ ez (hr.mono (by decide)) (@aa _ _ _ _ _ (pv 0) (@aa _ _ _ _ _ (pv 1) ao rfl) rfl) (by rfl) (by decide) (by rfl) (by rfl)) (gO (pv 4) (@aG _ _ _ _ _ _ _ _ dg (pv 3) (@aX _ _ _ _ _ _ _ _ _ _ ez (hr.mono (by decide)) (@aa _ _ _ _ _ (pv 0) (@aa _ _ _ _ _ (@aG _ _ _ _ _ _ _ _ kT (pv 2) (pv 3)) ao rfl) rfl) (by rfl) (by decide) (by rfl) (by rfl))) set_list) (by rfl) (by rfl) (by rfl))) (by intro _;rfl)) (@aA _ _ _ _ _ (@fQ _ _ _ _ _ _ (@aG _ _ _ _ _ _ _ _ dg aq (@aX _ _ _ _ _ _ _ _ _ _ ez (hr.mono (by decide)) (@aa _ _ _ _ _ (pv 0) (@aa _ _ _ _ _ (@aG _ _ _ _ _ _ _ _ kT (pv 1) aq) ao rfl) rfl) (by rfl) (by decide) (by rfl) (by rfl))) (gO (pv 4) (pv 3) set_list) (by rfl) (by rfl) (by rfl)) (@aJ _ _ _ (@bA _ _ _ _ (pv 4)))))),?_⟩
 refine Sv.rV hB hlive hnb hds aI (ρ:=[.ay, .d false _, .d false _, .d false _, .no, .no]) rfl ?_
 clear aI hds
 generalize gW:(jK (ff (cK qR _ _) (eX 4)) _:TS)=tl
 walk_at "dt"
 subst gW
 refine Sv.seq ?_
 refine Sv.kF (aD.oU ?_)
 walk_at "dt"
 intro g0
 have hz:List.replicate n.toNat (PyData.int 0)=(List.replicate n.toNat (0:Int)).map PyData.int:=by rw[nL]
 rw[hz]
 intro A4
 refine Sv.seq ?_
 refine Sv.oS ?_
 walk_at "dt"
 intro many m0 m1
 walk_at "dt"
 refine⟨fun c ρ=>∃(r:List Int) (g:Bool) (x5:Sl),aK p n.toNat r/\(∀j<first.toNat,gI r j=0)/\ρ=[.ay, .d false (.int p), .d false (.int n), .d false (.int first), .own A4 g (r.map .int),x5],⟨_,_,_,(iu.init (cs:=[]) (aE:=[]) (by omega)).ok,fun j _=>lR _ _,rfl⟩,?_,?_⟩
 ·rintro c d ρ ⟨hc,rfl⟩ ⟨r,g,x5,hR,hz,rfl⟩
  have hrl:=hR.len
  walk_at "dt"
  intro x y0 y1
  walk_at "dt"
  intro k k0 k1
  walk_at "dt"
  refine⟨_,_,rfl,qM (by omega) (by rw[ak];omega),?_⟩
  rw[<-jL]
  refine⟨_,_,_,hR.put y0 y1,fun j hj=>?_,rfl⟩
  rw[jo (by omega),if_neg (by omega)]
  exact hz j hj
 ·rintro ρ ⟨r,g,x5,hR,hz,rfl⟩
  have hrl:=hR.len
  walk_at "dt"
  intro x y0 y1
  walk_at "dt"
  refine⟨_,_,rfl,qM (by omega) (by rw[ak];omega),?_⟩
  rw[<-jL]
  refine Sv.lift 4 rfl (ql _) ?_
  walk_at "dt"
  refine q _ (hR.put (by omega) (by omega)) ?_ fun j hj=>?_
  ·rw[jo (by omega),if_pos rfl]
   omega
  ·rw[jo (by omega),if_neg (by omega)]
   exact hz j hj
def xY:DF:=fun ds Φ=>∃(p n many:Int),ds=[.int p, .int n, .int many]/\gZ p/\p<10^40/\1<=n/\n<=400/\0<=many/\many<=n/\∀(f:Bool) (cs:List az),cs.length<=many.toNat+4->(∀prs∈cs,kK p n.toNat prs)->Rk p n.toNat (VN p cs) many.toNat->Φ f (bV p n cs)
theorem UC:dQ xY:=by
 intro ds Φ Ψ hm z
 obtain⟨p,n,m,e,h1,h2,h3,h4,h5,h6,q⟩:=hm
 exact⟨p,n,m,e,h1,h2,h3,h4,h5,h6,fun f c a b d=>z _ _ (q f c a b d)⟩
theorem jO:cB ["bag","p","n","many","more","turns","firsts","rows","k","i","other","letter","checks","row"] ["bag","p","n","many"] (aQ qP):=⟨rfl,rfl,rfl,by decide+kernel,rfl,by decide+kernel,by decide+kernel⟩
theorem O8(F:bT K "_law_ranked" "_law_ranked" qP f fd)(ez:Callee P w K mg base "_law_draw" 2 ["bag","many"] kY)(PF:Callee P w K mg base "_law_more" 4 ["bag","net","many"] (iK 3 CT))(Xp:Callee P w K mg base "_law_row" 3 ["bag","p","n","first"] (iK 4 AO))(eY:mg "list"=none)(bO:mg "range"=none)(cI:mg "len"=none):
  bE P w K mg base bL 5 f fd ["bag","p","n","many"] (iK 4 xY):=by
 refine F.ok jO (fun vs H Q E h=>h.1) (fun cdv A outer s H vs Q E hr h=>?_)
 obtain⟨b,l,ws,nb,ds,Φ,rfl,hB,hlive,hnb,hds,aI,hF⟩:=tO h
 obtain⟨p,n,many,rfl,hp,gG,n0,n1,m0,m1,q⟩:=hF
 refine⟨_,(@aA _ _ _ _ _ (@aU _ _ (4) _ _ _ _ jO.nd rfl (Or.inl rfl) (@aX _ _ _ _ _ _ _ _ _ _ ez (hr.mono (by decide)) (@aa _ _ _ _ _ (pv 0) (@aa _ _ _ _ _ aq ao rfl) rfl) (by rfl) (by decide) (by rfl) (by rfl)) (by rfl) (by first|exact .inl rfl|exact .inr rfl|assumption)) (@aA _ _ _ _ _ (@aU _ _ (5) _ _ _ _ jO.nd rfl (Or.inl rfl) (@aX _ _ _ _ _ _ _ _ _ _ ez (hr.mono (by decide)) (@aa _ _ _ _ _ (pv 0) (@aa _ _ _ _ _ aq ao rfl) rfl) (by rfl) (by decide) (by rfl) (by rfl)) (by rfl) (by first|exact .inl rfl|exact .inr rfl|assumption)) (@aA _ _ _ _ _ (@aU _ _ (6) _ _ _ _ jO.nd rfl (Or.inl rfl) (@kq _ _ _ _ _ _ _ _ _ (Du rfl) rfl eY pe (@aa _ _ _ _ _ (@kq _ _ _ _ _ _ _ _ _ Bc rfl bO Ci (@aa _ _ _ _ _ (pv 2) ao rfl) (by decide) (by decide) (by rfl) (by rfl)) ao rfl) (by decide) (by decide) (by rfl) (by rfl)) (by rfl) (by first|exact .inl rfl|exact .inr rfl|assumption)) (@aA _ _ _ _ _ (@Et _ _ _ _ _ _ eK (@cF _ _ _ _ _ _ _ _ zQ (@dm _ _ _ _ _ _ _ _ (gc K) iF rfl cI g8 (@aa _ _ _ _ _ (pv 6) ao rfl) (by decide) (by decide) (by rfl) (by rfl)) (pv 3) (bN _)) (@aJ _ _ _ (@pD _ _ _ _ (p9 oJ BV yb Cs (pv 6) (@aa _ _ _ _ _ (@aX _ _ _ _ _ _ _ _ _ _ ez (hr.mono (by decide)) (@aa _ _ _ _ _ (pv 0) (@aa _ _ _ _ _ (@dm _ _ _ _ _ _ _ _ (gc K) iF rfl cI g8 (@aa _ _ _ _ _ (pv 6) ao rfl) (by decide) (by decide) (by rfl) (by rfl)) ao rfl) rfl) (by rfl) (by decide) (by rfl) (by rfl)) ao rfl)) (by rfl)))) (@aA _ _ _ _ _ (@aU _ _ (7) _ _ _ _ jO.nd rfl (Or.inr rfl) (fL (dN.of (show eH (aQ qP) ["bag","p","n","many","more","turns","firsts","rows","k","i","other","letter","checks","row"] _ ["first","bag","p","n"] [none,some 0,some 1,some 2]=true by decide+kernel)) (gf (K:=K) rfl (pv 6)) (fun _ _ _ _=>⟨(aT (i:=0) (by show List.Nodup (["first","bag","p","n"]:List Str);decide+kernel) rfl (Or.inl rfl)),iT,(@aX _ _ _ _ _ _ _ _ _ _ Xp (hr.mono (by decide)) (@aa _ _ _ _ _ (pv 1) (@aa _ _ _ _ _ (pv 2) (@aa _ _ _ _ _ (pv 3) (@aa _ _ _ _ _ (pv 0) ao rfl) rfl) rfl) rfl) (by rfl) (by decide) (by rfl) (by rfl))⟩)) (by rfl) (by first|exact .inl rfl|exact .inr rfl|assumption)) (@aA _ _ _ _ _ (@fO _ _ _ _ _ _ _ _ eK rfl (@iz _ _ _ _ _ _ rfl bO (@aa _ _ _ _ _ (pv 5) ao rfl) (by rfl)) (aT (i:=8) jO.nd rfl (Or.inl rfl)) (@aJ _ _ _ (@eV _ _ _ _ _ _ _ _ (@cF _ _ _ _ _ _ _ _ zQ (pv 3) aq (bN _)) (@aA _ _ _ _ _ (@aU _ _ (9) _ _ _ _ jO.nd rfl (Or.inr rfl) (@aX _ _ _ _ _ _ _ _ _ _ ez (hr.mono (by decide)) (@aa _ _ _ _ _ (pv 0) (@aa _ _ _ _ _ (pv 3) ao rfl) rfl) (by rfl) (by decide) (by rfl) (by rfl)) (by rfl) (by first|exact .inl rfl|exact .inr rfl|assumption)) (@aA _ _ _ _ _ (@aU _ _ (10) _ _ _ _ jO.nd rfl (Or.inr rfl) (@aH _ _ _ _ _ _ (bX K) bD (pv 7) (@aG _ _ _ _ _ _ _ _ fM (@aG _ _ _ _ _ _ _ _ dg (@aG _ _ _ _ _ _ _ _ dg (pv 9) aq) (@aX _ _ _ _ _ _ _ _ _ _ ez (hr.mono (by decide)) (@aa _ _ _ _ _ (pv 0) (@aa _ _ _ _ _ (@aG _ _ _ _ _ _ _ _ kT (pv 3) aq) ao rfl) rfl) (by rfl) (by decide) (by rfl) (by rfl))) (pv 3)) (fun _ _=>rfl)) (by rfl) (by first|exact .inl rfl|exact .inr rfl|assumption)) (@aA _ _ _ _ _ (@aU _ _ (11) _ _ _ _ jO.nd rfl (Or.inr rfl) (@aX _ _ _ _ _ _ _ _ _ _ ez (hr.mono (by decide)) (@aa _ _ _ _ _ (pv 0) (@aa _ _ _ _ _ (pv 1) ao rfl) rfl) (by rfl) (by decide) (by rfl) (by rfl)) (by rfl) (by first|exact .inl rfl|exact .inr rfl|assumption)) (@aJ _ _ _ (@fQ _ _ _ _ _ _ (fL (dN.of (show eH (aQ qP) ["bag","p","n","many","more","turns","firsts","rows","k","i","other","letter","checks","row"] _ ["k","p","rows","i","other","letter"] [none,some 1,some 7,some 9,some 10,some 11]=true by decide+kernel)) (@iz _ _ _ _ _ _ rfl bO (@aa _ _ _ _ _ (pv 2) ao rfl) (by rfl)) (fun _ _ _ _=>⟨(aT (i:=0) (by show List.Nodup (["k","p","rows","i","other","letter"]:List Str);decide+kernel) rfl (Or.inl rfl)),iT,(@aG _ _ _ _ _ _ _ _ fM (@aG _ _ _ _ _ _ _ _ dg (@aH _ _ _ _ _ _ (bX K) bD (@aH _ _ _ _ _ _ (bX K) bD (pv 2) (pv 3) (fun _ _=>rfl)) (pv 0) (fun _ _=>rfl)) (@aG _ _ _ _ _ _ _ _ iN (pv 5) (@aH _ _ _ _ _ _ (bX K) bD (pv 4) (pv 0) (fun _ _=>rfl)))) (pv 1))⟩)) (gO (pv 7) (pv 9) set_list) (by rfl) (by rfl) (by rfl)))))) gu)) (by intro _;rfl)) (@aA _ _ _ _ _ (@aU _ _ (12) _ _ _ _ jO.nd rfl (Or.inl rfl) (@gw _ _ _ _ ao) (by rfl) (by first|exact .inl rfl|exact .inr rfl|assumption)) (@aA _ _ _ _ _ (@fO _ _ _ _ _ _ _ _ eK rfl (@iz _ _ _ _ _ _ rfl bO (@aa _ _ _ _ _ (pv 3) ao rfl) (by rfl)) (aT (i:=8) jO.nd rfl (Or.inl rfl)) (@aA _ _ _ _ _ (@aU _ _ (13) _ _ _ _ jO.nd rfl (Or.inr rfl) (p9 oJ BV yb Cs (pv 7) (@aa _ _ _ _ _ (@aX _ _ _ _ _ _ _ _ _ _ ez (hr.mono (by decide)) (@aa _ _ _ _ _ (pv 0) (@aa _ _ _ _ _ (@dm _ _ _ _ _ _ _ _ (gc K) iF rfl cI g8 (@aa _ _ _ _ _ (pv 7) ao rfl) (by decide) (by decide) (by rfl) (by rfl)) ao rfl) rfl) (by rfl) (by decide) (by rfl) (by rfl)) ao rfl)) (by rfl) (by first|exact .inl rfl|exact .inr rfl|assumption)) (@aJ _ _ _ (@pD _ _ _ _ (p9 oJ Hf Fj yh (pv 12) (@aa _ _ _ _ _ (fL (dN.of (show eH (aQ qP) ["bag","p","n","many","more","turns","firsts","rows","k","i","other","letter","checks","row"] _ ["k","row"] [none,some 13]=true by decide+kernel)) (@iz _ _ _ _ _ _ rfl bO (@aa _ _ _ _ _ (pv 2) ao rfl) (by rfl)) (fun _ _ _ _=>⟨(aT (i:=0) (by show List.Nodup (["k","row"]:List Str);decide+kernel) rfl (Or.inl rfl)),(l6 (@cF _ _ _ _ _ _ _ _ lD (@aH _ _ _ _ _ _ (bX K) bD (pv 1) (pv 0) (fun _ _=>rfl)) aq (bN _))),(@iQ _ _ _ _ _ (@aa _ _ _ _ _ (pv 0) (@aa _ _ _ _ _ (@aH _ _ _ _ _ _ (bX K) bD (pv 1) (pv 0) (fun _ _=>rfl)) ao rfl) rfl))⟩)) ao rfl)) (by rfl)))) (by intro _;rfl)) (@aJ _ _ _ (@bA _ _ _ _ (@aX _ _ _ _ _ _ _ _ _ _ PF (hr.mono (by decide)) (@aa _ _ _ _ _ (pv 0) (@aa _ _ _ _ _ (@iQ _ _ _ _ _ (@aa _ _ _ _ _ (pv 1) (@aa _ _ _ _ _ (pv 2) (@aa _ _ _ _ _ (pv 12) ao rfl) rfl) rfl)) (@aa _ _ _ _ _ (pv 4) ao rfl) rfl) rfl) (by rfl) (by decide) (by rfl) (by rfl)))))))))))),?_⟩
 refine Sv.rV hB hlive hnb hds aI (ρ:=[.ay, .d false _, .d false _, .d false _, .no, .no, .no, .no, .no, .no, .no, .no, .no, .no]) rfl ?_
 clear aI hds
 have p2:=hp.1
 generalize gW:(jK (ff (gC zL _) (eX 6)) _:TS)=tl
 walk_at "dt"
 intro more r0 r1
 walk_at "dt"
 intro turns t0 t1
 walk_at "dt"
 subst gW
 refine Sv.seq ?_
 refine Sv.kF (aD.Dq ?_)
 walk_at "dt"
 intro A6
 refine Sv.seq ?_
 refine Sv.p6 (fun ρ=>∃(F:List Int),F.Pairwise (· < ·)/\(∀x∈F,0<=x/\x<n)/\(F.length:Int)=many/\ρ=[.ay, .d false (.int p), .d false (.int n), .d false (.int many), .d true (.int more), .d true (.int turns), .own A6 true (F.map .int), .no, .no, .no, .no, .no, .no, .no]) ?_ ?_
 ·refine Sv.Fp (fun ρ=>∃(F:List Int),F.Pairwise (· < ·)/\(∀x∈F,0<=x/\x<n)/\many<=(F.length:Int)/\F.length<=n.toNat/\ρ=[.ay, .d false (.int p), .d false (.int n), .d false (.int many), .d true (.int more), .d true (.int turns), .own A6 true (F.map .int), .no, .no, .no, .no, .no, .no, .no]) (fun(ρ:Rh)=>match ρ[6]? with|some (Sl.own _ _ ds)=>ds.length|_=>0) ⟨(List.range n.toNat).map fun(i:Nat)=>(0:Int)+(i:Int),?_,?_,?_,?_,rfl⟩ ?_
  ·rw[jV]
   exact Fc.imp fun h=>by omega
  ·intro x hx
   obtain⟨k,hk,rfl⟩:=aN.mp hx
   have:=dS.mp hk
   omega
  ·rw[ak,fk];omega
  ·rw[ak,fk];exact bh _
  rintro ρ' ⟨F,hF1,hF2,hF3,hF4,rfl⟩
  have HJ:(F.map PyData.int).length=F.length:=ak ..
  walk_at "dt"
  by_cases c2:many<(F.map PyData.int).length
  ·rw[if_pos (decide_eq_true c2)]
   refine Sv.JQ rfl ?_
   walk_at "dt"
   intro r r0 r1
   refine⟨r.toNat,by rw[zy r0],by omega,by omega,?_⟩
   rw[show(List.map PyData.int F).eraseIdx r.toNat=List.map PyData.int (F.eraseIdx r.toNat) by rw[qk,qk,cE,lH,pR]]
   refine⟨⟨F.eraseIdx r.toNat,hF1.sublist (List.eraseIdx_sublist ..),fun x hx=>hF2 x (ue hx),?_,cX (List.length_eraseIdx_le ..) hF4,rfl⟩,?_⟩
   ·rw[vM (by omega)];omega
   ·show(List.map _ (F.eraseIdx r.toNat)).length<(List.map _ F).length
    rw[ak,ak,vM (by omega)]
    omega
  ·rw[if_neg (by simpa using c2)]
   exact⟨F,hF1,hF2,by omega,rfl⟩
 rintro ρ' ⟨F,hF1,hF2,hF3,rfl⟩
 have HJ:(F.map PyData.int).length=F.length:=ak ..
 refine Sv.kZ 6 rfl ?_
 refine Sv.seq ?_
 refine Sv.kF ?_
 refine aD.jY (by decide) rfl ?_
 walk_at "dt"
 refine fun v=>?_
 refine gS.rel aR true (fun i r=>∀x,F[i]?=some x->aK p n.toNat r/\gI r x.toNat≠0/\∀j<x.toNat,gI r j=0) ?_ fun R jj hR=>?_
 ·rintro i d hd
  obtain⟨x,hx,rfl⟩:=fq hd
  obtain⟨x0,x1⟩:=hF2 x (aW hx)
  walk_at "dt"
  refine⟨by walk_at "wk",?_⟩
  refine Ev.qy Uv rfl ?_
  walk_at "dt"
  refine⟨rfl,p,n,x,rfl,p2,gG,x0,x1,n1,fun r h1 h2 h3=>?_⟩
  refine⟨fun _=>uM _,r,rfl,fun y hy=>?_⟩
  rw[hx] at hy
  cases hy
  exact⟨h1,h2,h3⟩
 rw[HJ] at jj
 rw[uM]
 have uA:∀(i:Nat) r,R[i]?=some r->∃x,F[i]?=some x/\aK p n.toNat r/\gI r x.toNat≠0/\∀j<x.toNat,gI r j=0:=fun i r hi=>by
  have hil:=(aP.mp hi).1
  have hx:F[i]?=some F[i]:=aF (by omega)
  exact⟨_,hx,hR i r hi _ hx⟩
 have j5:i8 p n.toNat R:=fun r hr=>by
  obtain⟨i,hi⟩:=dZ hr
  obtain⟨x,_,h,_⟩:=uA i r hi
  exact h
 have mD:Rk p n.toNat (VR p R) many.toNat:=by
  have h:=Rk.Ba (p:=p) (n:=n.toNat) hp (List.zipWith (fun r x=>(r,Int.toNat x)) R F) (fun y hy=>?_) ?_
  ·rw[nW,show List.map (fun z:List Int×Nat=>z.1) (List.zipWith (fun r x=>(r,Int.toNat x)) R F)=R from ?_] at h
   ·rw[show min R.length F.length=many.toNat by omega] at h
    exact h
   ·rw[List.map_zipWith]
    apply nJ
    ·rw[nW];omega
    ·intro i g1 g2;rw[uZ]
  ·obtain⟨i,hi⟩:=dZ hy
   rw[qZ] at hi
   have hil:i<R.length:=by
    rcases Nat.lt_or_ge i R.length with z|z
    ·exact z
    ·rw[gP z] at hi;simp at hi
   have hr:R[i]?=some R[i]:=aF hil
   obtain⟨x,hx,h1,h2,h3⟩:=uA i _ hr
   rw[hr,hx] at hi
   simp at hi
   subst hi
   have:=hF2 x (aW hx)
   refine⟨by show x.toNat<n.toNat;omega,fun z=>h2 ?_⟩
   have hb:=h1.g (i:=x.toNat) (by omega)
   exact Ii z hb.1 hb.2
  ·rw[En]
   intro i j g1 g2 hij
   rw[nW] at g1 g2
   rw[uZ,uZ]
   obtain⟨x,hx,h1,h2,h3⟩:=uA j _ (aF (by omega))
   have hlt:=En.mp hF1 i j (by omega) (by omega) hij
   rw[aF (by omega)] at hx
   have hx:=fN hx
   rw[<-hx] at h3
   have:=hF2 F[i] (c6 _)
   show p∣gI R[j] F[i].toNat
   rw[h3 _ (by omega)]
   exact⟨0,by omega⟩
 intro A7
 refine Sv.seq ?_
 refine Sv.oS ?_
 walk_at "dt"
 refine⟨fun i ρ=>∃(R:List (List Int)) (g:Bool) (x8 x9 nj mz:Sl),i8 p n.toNat R/\(R.length:Int)=many/\Rk p n.toNat (VR p R) many.toNat/\ρ=[.ay, .d false (.int p), .d false (.int n), .d false (.int many), .d true (.int more), .d true (.int turns), .d true (.list (F.map .int)), .own A7 g (R.map aR),x8,x9,nj,mz, .no, .no],⟨R,_,_,_,_,_,j5,by omega,mD,rfl⟩,?_,?_⟩
 ·rintro i d ρ ⟨hi,rfl⟩ ⟨R,g,x8,x9,nj,mz,j5,jj,mD,rfl⟩
  clear uA hR
  have lW:(R.map aR).length=R.length:=ak ..
  walk_at "dt"
  by_cases c1:1<many
  ·rw[if_pos (decide_eq_true c1)]
   walk_at "dt"
   intro ii i0 i1
   generalize sR:(jK (ff _ (eX 11)) _:TS)=tl2
   walk_at "dt"
   intro o o0 o1
   walk_at "dt"
   have Hq:=eG (ii+1+o) (show many≠0 by omega)
   have UB:=e7 (ii+1+o) (show 0<many by omega)
   have hne:ii≠(ii+1+o)%many:=fun z=>by
    by_cases cc:ii+1+o<many
    ·rw[jh (by omega) cc] at z;omega
    ·have e:(ii+1+o)%many=ii+1+o-many:=by
      rw[<-Int.sub_emod_right (ii+1+o) many,jh (by omega) (by omega)]
     omega
   generalize Yd:(ii+1+o)%many=oo at Hq UB hne
   obtain⟨ro,zC,Oa⟩:=ny (xs:=R) (k:=oo) aR Hq (by omega) rfl
   obtain⟨ri,o9,YD⟩:=ny (xs:=R) (k:=ii) aR i0 (by omega) rfl
   have Yo:=(j5 ro (aW zC)).len
   have X8:=(j5 ri (aW o9)).len
   refine⟨_,Oa,?_⟩
   walk_at "dt"
   subst sR
   walk_at "dt"
   intro le l0 l1
   walk_at "dt"
   have YJ:(ri.map PyData.int).length=ri.length:=ak ..
   have Yi:(ro.map PyData.int).length=ro.length:=ak ..
   have FJ:=j5 ri (aW o9)
   have Ih:=j5 ro (aW zC)
   refine aD.ev (aD.mw (by decide) rfl ?_)
   walk_at "dt"
   refine gS.rel PyData.int true (fun k x=>x=(gI ri k+le*gI ro k)%p) ?_ fun os ie hos=>?_
   ·rintro k d ⟨hk,rfl⟩
    have ha1:bH (ri.map PyData.int) (0+(k:Int))=some (.int (gI ri k)):=fh (by omega) (by rw[bu,show(0+(k:Int)).toNat=k by omega,FJ.at hk];rfl)
    have ha2:bH (ro.map PyData.int) (0+(k:Int))=some (.int (gI ro k)):=fh (by omega) (by rw[bu,show(0+(k:Int)).toNat=k by omega,Ih.at hk];rfl)
    have b1:=FJ.g (i:=k) (by omega)
    have b2:=Ih.g (i:=k) (by omega)
    have s1:Sm le:=by unfold Sm;omega
    have s2:Sm (gI ro k):=by unfold Sm;omega
    walk_at "dt"
    refine⟨by walk_at "wk",?_⟩
    walk_at "dt"
    rfl
   rw[uM]
   walk_at "dt"
   refine⟨_,_,rfl,qM i0 (by omega),?_⟩
   rw[show PyData.list (os.map PyData.int)=aR os from rfl,<-jL]
   have M0:aK p n.toNat os:=⟨ie,fun x hx=>by
    obtain⟨k,hk⟩:=dZ hx
    rw[hos k x hk]
    exact⟨eG _ (by omega),e7 _ (by omega)⟩⟩
   have gi:R.getD ii.toNat []=ri:=by rw[bf,o9];rfl
   have go:R.getD oo.toNat []=ro:=by rw[bf,zC];rfl
   refine⟨R.set ii.toNat os,_,_,_,_,_,fun r hr=>?_,by rw[gn];exact jj,mD.congr (by omega) fun w hw=>(VR.set (a:=le) (o:=oo.toNat) j5 ie (by omega) (by omega) (by omega) fun k hk=>?_).symm,rfl⟩
   ·rcases lX hr with z|z
    ·exact j5 r z
    ·rw[z];exact M0
   ·have e:=hos k _ (aF (show k<os.length by omega))
    have e2:gI os k=os[k]:=by unfold gI;rw[bf,aF (by omega)];rfl
    rw[gi,go,e2,e,iC]
    exact⟨-((gI ri k+le*gI ro k)/p),by grind⟩
  ·rw[if_neg (by simpa using c1)]
   walk_at "dt"
   exact⟨R,_,_,_,_,_,j5,jj,mD,rfl⟩
 ·rintro ρ ⟨R,g,x8,x9,nj,mz,j5,jj,mD,rfl⟩
  walk_at "dt"
  intro A12
  refine Sv.seq ?_
  refine Sv.oS ?_
  walk_at "dt"
  refine⟨fun i ρ=>∃(R':List (List Int)) (cs:List az) (g g2:Bool) (x8 zS:Sl),i8 p n.toNat R'/\R'.length+i=R.length/\cs.length=i/\(∀prs∈cs,kK p n.toNat prs)/\(∀w,aK p n.toNat w->(VR p R' w/\VN p cs w↔VR p R w))/\ρ=[.ay, .d false (.int p), .d false (.int n), .d false (.int many), .d true (.int more), .d true (.int turns), .d true (.list (F.map .int)), .own A7 g (R'.map aR),x8,x9,nj,mz, .own A12 g2 (cs.map br),zS],⟨R,[],_,_,_,_,j5,rfl,rfl,(fun _ h=>nomatch h),fun w hw=>⟨fun h=>h.1,fun h=>⟨h,fun _ h=>nomatch h⟩⟩,rfl⟩,?_,?_⟩
  ·rintro i d ρ ⟨hi,rfl⟩ ⟨R',cs,g,g2,x8,zS,hR',hl',hcl,hcs,hT,rfl⟩
   have lW:(R'.map aR).length=R'.length:=ak ..
   have gK:(cs.map br).length=cs.length:=ak ..
   refine Gv.iD ?_
   refine Sv.seq ?_
   refine Sv.Q6 rfl ?_
   walk_at "dt"
   intro r r0 r1
   walk_at "dt"
   rw[lW] at r1
   obtain⟨row,jH⟩:∃row,R'[r.toNat]?=some row:=⟨_,aF (by omega)⟩
   refine⟨r.toNat,aR row,by rw[zy r0],by omega,by rw[bu,jH];rfl,?_⟩
   have z7:=hR' row (aW jH)
   have hrl:=z7.len
   have hrm:(row.map PyData.int).length=row.length:=ak ..
   refine Sv.append rfl ?_
   refine aD.ev (aD.mw (by decide) rfl ?_)
   walk_at "dt"
   refine⟨true,fun k ds=>ds=(gY row k).map pairD,rfl,?_,?_⟩
   ·rintro k d ds ⟨hk,rfl⟩ hl' rfl
    have hat:bH (row.map PyData.int) (0+(k:Int))=some (.int (gI row k)):=fh (by omega) (by rw[bu,show(0+(k:Int)).toNat=k by omega,z7.at hk];rfl)
    generalize BX:(pZ _:TE)=tt
    walk_at "dt"
    refine⟨by walk_at "wk",?_⟩
    walk_at "dt"
    have hs:=BF row k
    by_cases c:gI row k=0
    ·rw[if_neg (by simpa using c)] at hs
     walk_at "dt"
     show _=List.map pairD (gY row (k+1))
     rw[hs,jz]
    ·rw[if_pos c] at hs
     walk_at "dt"
     subst BX
     refine Ev.tupS ?_
     walk_at "dt"
     refine⟨fun _=>u5 _,?_⟩
     show _=List.map pairD (gY row (k+1))
     rw[hs,cE,mV]
     rfl
   rintro ds hl2 rfl
   refine⟨by omega,?_⟩
   rw[show(List.map aR R').eraseIdx r.toNat=List.map aR (R'.eraseIdx r.toNat) by rw[qk,qk,cE,lH,pR]]
   have hP:kK p n.toNat (gY row n.toNat):=Jl z7 (by omega) (by omega)
   refine⟨R'.eraseIdx r.toNat,cs++[gY row n.toNat],_,_,_,_,fun s hs=>hR' s (ue hs),?_,by rw[fm,hcl];rfl,fun s hs=>?_,fun w hw=>?_,by rw[cE];rfl⟩
   ·rw[vM (by omega)];omega
   ·rcases fJ.mp hs with z|z
    ·exact hcs s z
    ·rw[bF.mp z];exact hP
   ·rw[<-hT w hw]
    have hd:=EM (n:=n) hw.len hrl
    constructor
    ·rintro⟨h1,h2⟩
     refine⟨fun s hs=>?_,fun s hs=>h2 s (kD _ hs)⟩
     obtain⟨j,hj⟩:=dZ hs
     by_cases c:j=r.toNat
     ·subst c
      rw[jH] at hj
      cases hj
      rw[<-hd]
      exact h2 _ (iM _ (bF.mpr rfl))
     ·refine h1 s ?_
      rw[List.mem_eraseIdx_iff_getElem?]
      exact⟨j,c,hj⟩
    ·rintro⟨h1,h2⟩
     refine⟨fun s hs=>h1 s (ue hs),fun s hs=>?_⟩
     rcases fJ.mp hs with z|z
     ·exact h2 s z
     ·rw[bF.mp z,hd]
      exact h1 _ (aW jH)
  ·rintro ρ ⟨R',cs,g,g2,x8,zS,hR',hl',hcl,hcs,hT,rfl⟩
   have WN:R'=[]:=tB.mp (by omega)
   subst WN
   refine Sv.kZ 12 rfl ?_
   walk_at "dt"
   refine Ev.qy Xm rfl ?_
   walk_at "dt"
   refine⟨rfl,p,n,more,cs,rfl,hp,gG,n0,n1,by omega,hcs,r0,by omega,fun f cs' h1 h2 h3=>?_⟩
   exact q _ cs' (by omega) h2 (mD.congr (by omega) fun w hw=>(hT w hw).symm.trans (Iff.trans ⟨fun h=>h.2,fun h=>⟨VR.nil,h⟩⟩ (h3 w hw.len)))
def rJ:DF:=fun ds Φ=>∃(p many:Int) (v:List Int),ds=[aR v, .int p, .int many]/\(v.length:Int)=many/\v.length<=9000/\(∀x∈v,0<=x/\x<p)/\p<10^40/\Φ true (.bool true)
theorem vd:dQ rJ:=by
 intro ds Φ Ψ hm z
 obtain⟨p,m,v,e,h1,h2,h3,h4,q⟩:=hm
 exact⟨p,m,v,e,h1,h2,h3,h4,z _ _ q⟩
theorem Pc{os:List Bool}(h:∀(i:Nat) o,os[i]?=some o->o=true):os.all id=true:=by
 rw[jQ]
 intro o ho
 obtain⟨i,hi⟩:=dZ ho
 exact h i o hi
theorem Qy:cB ["found","p","many"] ["found","p","many"] (aQ xC):=⟨rfl,rfl,rfl,by decide+kernel,rfl,by decide+kernel,by decide+kernel⟩
theorem RS(F:bT K "_law_letter_list" "_law_letter_list" xC f fd)(N5:Callee P w K mg base "_law_whole" 1 ["found"] xW)(kW:mg "all"=none)(kP:mg "isinstance"=none)(eY:mg "list"=none)(cI:mg "len"=none):
  bE P w K mg base bL 2 f fd ["found","p","many"] (bI 3 rJ):=by
 refine F.ok Qy (fun vs H Q E h=>h.1) (fun cdv A outer s H vs Q E hr h=>?_)
 obtain⟨nb,ds,Φ,hlive,hds,aI,hF⟩:=gx h
 obtain⟨p,many,u,rfl,jd,XZ,hu,cO,q⟩:=hF
 refine⟨_,(@aA _ _ _ _ _ (@eV _ _ _ _ _ _ _ _ (PW.pt (pK (@kB _ _ _ _ (@jn _ (K) _ _ rfl (@dm _ _ _ _ _ _ _ _ (mY K) uf rfl kP xO (@aa _ _ _ _ _ (pv 0) (@aa _ _ _ _ _ (xN (v:= .ty "list") rfl eY pe rfl) ao rfl) rfl) (by decide) (by decide) (by rfl) (by rfl)) (fun _=>rfl))) (qI (@cF _ _ _ _ _ _ _ _ lD (@dm _ _ _ _ _ _ _ _ (gc K) iF rfl cI g8 (@aa _ _ _ _ _ (pv 0) ao rfl) (by decide) (by decide) (by rfl) (by rfl)) (pv 2) (bN _))))) (@aJ _ _ _ (@bA _ _ _ _ jX)) gu) (@aJ _ _ _ (@bA _ _ _ _ (@dm _ _ _ _ _ _ _ _ (qd K) (tX rfl) rfl kW wA (@aa _ _ _ _ _ (fL (dN.of (show eH (aQ xC) ["found","p","many"] _ ["one","p"] [none,some 1]=true by decide+kernel)) (gf (K:=K) rfl (pv 0)) (fun _ _ _ _=>⟨(aT (i:=0) (by show List.Nodup (["one","p"]:List Str);decide+kernel) rfl (Or.inl rfl)),iT,(@uG _ _ _ _ _ _ _ (@aX _ _ _ _ _ _ _ _ _ _ N5 (hr.mono (by decide)) (@aa _ _ _ _ _ (pv 0) ao rfl) (by rfl) (by decide) (by rfl) (by rfl)) (@uG _ _ _ _ _ _ _ (@jy _ _ _ _ _ _ _ _ Ik aq (pv 0) (bN _)) (@xQ _ _ _ _ _ (@jy _ _ _ _ _ _ _ _ wR (pv 0) (pv 1) (bN _)))))⟩)) ao rfl) (by decide) (by decide) (by rfl) (by rfl))))),?_⟩
 refine Sv.gv hlive hds aI (ρ:=[.d false _, .d false _, .d false _]) rfl ?_
 clear aI hds
 have YE:(u.map PyData.int).length=u.length:=ak ..
 walk_at "dt"
 refine aD.ev (aD.jY (by decide) rfl ?_)
 walk_at "dt"
 refine fun v=>?_
 refine gS.rel PyData.bool true (fun i o=>o=true) ?_ fun os ie hos=>⟨os,rfl,?_⟩
 ·rintro i d hd
  obtain⟨x,hx,rfl⟩:=fq hd
  obtain⟨x0,x1⟩:=hu x (aW hx)
  walk_at "dt"
  refine⟨by walk_at "wk",?_⟩
  walk_at "dt"
  exact decide_eq_true x1
 ·rw[Pc hos]
  exact q
def wX:DF:=fun ds Φ=>∃(p n:Int) (cs:List az) (aE:List Int),ds=[bV p n cs,aR aE]/\cP p n cs/\aE.length<=cs.length/\(∀x∈aE,0<=x/\x<p)/\∀rw:List Int,aK p n.toNat rw->(∀i<n.toNat,p∣gI rw i-bS cs aE i)->Φ true (aR rw)
theorem Kw:dQ wX:=by
 intro ds Φ Ψ hm z
 obtain⟨p,n,cs,aE,e,h1,h2,h3,q⟩:=hm
 exact⟨p,n,cs,aE,e,h1,h2,h3,fun r a b=>z _ _ (q r a b)⟩
theorem Dn{i:Nat}:∀{cs:List az} {aE:List Int},aE.length<=cs.length->bS (cs.take aE.length) aE i=bS cs aE i
  |[],[],_=>rfl
  |[],_::_,h=>by simp at h
  |_::_,[],_=>by simp[bS]
  | q :: cs, x :: aE, h => by
    show co q i*x+bS (cs.take aE.length) aE i=co q i*x+bS cs aE i
    rw[Dn (by simpa using h)]
theorem sC:cB ["net","factors","row","c","place","factor"] ["net","factors"] (aQ Am):=⟨rfl,rfl,rfl,by decide+kernel,rfl,by decide+kernel,by decide+kernel⟩
theorem RH(F:bT K "_law_combined" "_law_combined" Am f fd)(bO:mg "range"=none)(cI:mg "len"=none):
  bE P w K mg base bL 1 f fd ["net","factors"] (bI 2 wX):=by
 refine F.ok sC (fun vs H Q E h=>h.1) (fun cdv A outer s H vs Q E hr h=>?_)
 obtain⟨nb,ds,Φ,hlive,hds,aI,hF⟩:=gx h
 obtain⟨p,n,cs,aE,rfl,hN,hfl,hfr,q⟩:=hF
 refine⟨_,(@aA _ _ _ _ _ (@aU _ _ (2) _ _ _ _ sC.nd rfl (Or.inl rfl) (@aG _ _ _ _ _ _ _ _ nI (@gw _ _ _ _ (@aa _ _ _ _ _ aq ao rfl)) (@aH _ _ _ _ _ _ (bK K) bU (pv 0) aq (fun _ _=>rfl))) (by rfl) (by first|exact .inl rfl|exact .inr rfl|assumption)) (@aA _ _ _ _ _ (@fO _ _ _ _ _ _ _ _ eK rfl (@iz _ _ _ _ _ _ rfl bO (@aa _ _ _ _ _ (@dm _ _ _ _ _ _ _ _ (gc K) iF rfl cI g8 (@aa _ _ _ _ _ (pv 1) ao rfl) (by decide) (by decide) (by rfl) (by rfl)) ao rfl) (by rfl)) (aT (i:=3) sC.nd rfl (Or.inl rfl)) (@aJ _ _ _ (@fO _ _ _ _ _ _ _ _ eK rfl (gf (K:=K) rfl (@aH _ _ _ _ _ _ (bX K) bD (@aH _ _ _ _ _ _ (bK K) bU (pv 0) aq (fun _ _=>rfl)) (pv 3) (fun _ _=>rfl))) (@g7 _ (K) _ _ _ (2) _ rfl rfl (@cg _ _ _ _ _ (aT (i:=4) sC.nd rfl (Or.inl rfl)) (@cg _ _ _ _ _ (aT (i:=5) sC.nd rfl (Or.inl rfl)) gQ (by rfl)) (by rfl)) (by rfl) (by rfl)) (@aJ _ _ _ (@fQ _ _ _ _ _ _ (@aG _ _ _ _ _ _ _ _ fM (@aG _ _ _ _ _ _ _ _ dg (@aH _ _ _ _ _ _ (bX K) bD (pv 2) (pv 4) (fun _ _=>rfl)) (@aG _ _ _ _ _ _ _ _ iN (pv 5) (@aH _ _ _ _ _ _ (bX K) bD (pv 1) (pv 3) (fun _ _=>rfl)))) (@aH _ _ _ _ _ _ (bK K) bU (pv 0) aq (fun _ _=>rfl))) (gO (pv 2) (pv 4) set_list) (by rfl) (by rfl) (by rfl))) (by intro _;rfl))) (by intro _;rfl)) (@aJ _ _ _ (@bA _ _ _ _ (pv 2))))),?_⟩
 refine Sv.gv hlive hds aI (ρ:=[.d false _, .d false _, .no, .no, .no, .no]) rfl ?_
 clear aI hds
 have p2:=hN.hp.1
 have cO:=hN.cO
 have hcl:=hN.cl
 have n0:=hN.n0
 have n1:=hN.n1
 have gK:(cs.map br).length=cs.length:=ak ..
 have hfm:(aE.map PyData.int).length=aE.length:=ak ..
 generalize gW:(jK (ff (cK qR _ _) (eX 2)) _:TS)=tl
 walk_at "dt"
 subst gW
 refine Sv.seq ?_
 refine Sv.kF (aD.oU ?_)
 walk_at "dt"
 intro g0
 have hz:List.replicate n.toNat (PyData.int 0)=(List.replicate n.toNat (0:Int)).map PyData.int:=by rw[nL]
 rw[hz]
 intro A2
 refine Sv.seq ?_
 refine Sv.oS ?_
 walk_at "dt"
 refine⟨fun c ρ=>∃(r:List Int) (g:Bool) (x3 x4 x5:Sl),iu p n cs aE c [] 0 r/\ρ=[.d false (bV p n cs), .d false (aR aE), .own A2 g (r.map .int),x3,x4,x5],⟨_,_,_,_,_,iu.init (by omega),rfl⟩,?_,?_⟩
 ·rintro c d ρ ⟨hc,rfl⟩ ⟨r,g,x3,x4,x5,hI,rfl⟩
  have Ml:c<cs.length:=by rw[hfm] at hc;omega
  have cW:cs[c]?=some cs[c]:=aF Ml
  have hfc:aE[c]?=some (aE[c]'(by omega)):=aF (by omega)
  generalize cs[c]=prs at cW
  generalize (aE[c]'(by omega))=x at hfc
  obtain⟨g1,g2,g3⟩:=hN.ok prs (aW cW)
  obtain⟨y0,y1⟩:=hfr x (aW hfc)
  have UA:bH (cs.map br) (0+(c:Int))=some (br prs):=fh (by omega) (by rw[bu,show(0+(c:Int)).toNat=c by omega,cW];rfl)
  have vL:bH (aE.map PyData.int) (0+(c:Int))=some (.int x):=fh (by omega) (by rw[bu,show(0+(c:Int)).toNat=c by omega,hfc];rfl)
  have j8:(prs.map pairD).length=prs.length:=ak ..
  have sx:Sm x:=by unfold Sm;omega
  refine Gv.iD ?_
  refine Sv.forL ?_
  walk_at "dt"
  refine fun v=>⟨fun j ρ=>∃(r:List Int) (g:Bool) (x4 x5:Sl),iu p n cs aE c (prs.take j) x r/\ρ=[.d false (bV p n cs), .d false (aR aE), .own A2 g (r.map .int), .d true (.int (0+(c:Int))),x4,x5],⟨_,_,_,_,hI.start,rfl⟩,?_,?_⟩
  ·rintro j d ρ hd ⟨r,g,x4,x5,hJ,rfl⟩
   obtain⟨pr,lE,rfl⟩:=fq hd
   obtain⟨a0,a1,a2,a3⟩:=g3 pr (aW lE)
   have hrl:=hJ.ok.len
   have T7:bH (r.map PyData.int) pr.1=some (.int (gI r pr.1.toNat)):=fh a0 (by rw[bu,hJ.ok.at (by omega)];rfl)
   obtain⟨b0,b1⟩:=hJ.ok.g (i:=pr.1.toNat) (by omega)
   have s2:Sm pr.2:=by unfold Sm;omega
   have s3:Sm (gI r pr.1.toNat):=by unfold Sm;omega
   have hix:dM (r.map PyData.int).length pr.1=some pr.1.toNat:=by
    unfold dM
    rw[ak]
    repeat (first|rw[if_pos (by omega)]|rw[if_neg (by omega)])
   generalize sR:(ff (cK _ _ _) (oq (dG 2) _ qu):TS)=tl2
   walk_at "dt"
   subst sR
   refine Sv.nU rfl ?_
   walk_at "dt"
   refine⟨_,_,rfl,hix,?_⟩
   have es:prs.take (j+1)=prs.take j++[pr]:=take_snoc lE
   rw[<-jL]
   refine⟨_,_,_,_,?_,rfl⟩
   rw[es]
   exact hJ.step (by omega) a0 a1
  ·rintro ρ ⟨r,g,x4,x5,hJ,rfl⟩
   rw[j8,eE] at hJ
   exact⟨_,_,_,_,_,hJ.Wm cW hfc,rfl⟩
 ·rintro ρ ⟨r,g,x3,x4,x5,hI,rfl⟩
  rw[hfm] at hI
  refine Sv.lift 2 rfl (ql _) ?_
  walk_at "dt"
  refine q r hI.ok (fun i hi=>?_)
  have:=hI.sum i hi
  rw[fX,eE,Dn hfl] at this
  simpa[co] using this
def vR:DF:=fun ds Φ=>∃(p n:Int) (cs:List az) (v:List Int),ds=[bV p n cs,aR v]/\cP p n cs/\v.length=n.toNat/\(∀x∈v,0<=x/\x<p)/\(∀prs∈cs,p∣aV prs (v.map some))/\Φ true (.bool true)
theorem ET:dQ vR:=by
 intro ds Φ Ψ hm z
 obtain⟨p,n,cs,v,e,h1,h2,h3,h4,q⟩:=hm
 exact⟨p,n,cs,v,e,h1,h2,h3,h4,z _ _ q⟩
theorem all_true{os:List Bool}(h:∀(i:Nat) o,os[i]?=some o->o=true):os.all id=true:=by
 rw[jQ]
 intro o ho
 obtain⟨i,hi⟩:=dZ ho
 exact h i o hi
theorem Xv:cB ["net","word"] ["net","word"] (aQ wm):=⟨rfl,rfl,rfl,by decide+kernel,rfl,by decide+kernel,by decide+kernel⟩
theorem SJ(F:bT K "_law_true" "_law_true" wm f fd)(C5:Callee P w K mg base "_law_sum" 1 ["p","pairs","word"] (bI 3 vV))(kW:mg "all"=none):
  bE P w K mg base bL 2 f fd ["net","word"] (bI 2 vR):=by
 refine F.ok Xv (fun vs H Q E h=>h.1) (fun cdv A outer s H vs Q E hr h=>?_)
 obtain⟨nb,ds,Φ,hlive,hds,aI,hF⟩:=gx h
 obtain⟨p,n,cs,u,rfl,hN,jd,hu,htr,q⟩:=hF
 refine⟨_,(@aJ _ _ _ (@bA _ _ _ _ (@dm _ _ _ _ _ _ _ _ (qd K) (tX rfl) rfl kW wA (@aa _ _ _ _ _ (fL (dN.of (show eH (aQ wm) ["net","word"] _ ["pairs","net","word"] [none,some 0,some 1]=true by decide+kernel)) (gf (K:=K) rfl (@aH _ _ _ _ _ _ (bK K) bU (pv 0) aq (fun _ _=>rfl))) (fun _ _ _ _=>⟨(aT (i:=0) (by show List.Nodup (["pairs","net","word"]:List Str);decide+kernel) rfl (Or.inl rfl)),iT,(@jy _ _ _ _ _ _ _ _ i6 (@aX _ _ _ _ _ _ _ _ _ _ C5 (hr.mono (by decide)) (@aa _ _ _ _ _ (@aH _ _ _ _ _ _ (bK K) bU (pv 1) aq (fun _ _=>rfl)) (@aa _ _ _ _ _ (pv 0) (@aa _ _ _ _ _ (pv 2) ao rfl) rfl) rfl) (by rfl) (by decide) (by rfl) (by rfl)) aq (bN _))⟩)) ao rfl) (by decide) (by decide) (by rfl) (by rfl)))),?_⟩
 refine Sv.gv hlive hds aI (ρ:=[.d false _, .d false _]) rfl ?_
 clear aI hds
 have p2:=hN.hp.1
 have cO:=hN.cO
 have hcl:=hN.cl
 have n0:=hN.n0
 have gK:(cs.map br).length=cs.length:=ak ..
 have hD:u.map PyData.int=(u.map some).map fE:=by rw[fZ];rfl
 walk_at "dt"
 refine aD.ev (aD.jY (by decide) rfl ?_)
 walk_at "dt"
 refine fun v=>?_
 refine gS.rel PyData.bool true (fun i o=>o=true) ?_ fun os ie hos=>⟨os,rfl,?_⟩
 ·rintro i d hd
  obtain⟨prs,cW,rfl⟩:=fq hd
  obtain⟨g1,g2,g3⟩:=hN.ok prs (aW cW)
  walk_at "dt"
  refine⟨by walk_at "wk",?_⟩
  walk_at "dt"
  refine Ev.dB ED ?_
  walk_at "dt"
  refine⟨rfl,p,prs,u.map some,by show[_,PyData.list _,PyData.list _]=_;rw[hD],by omega,by omega,fun pr aC=>?_,fun x hx=>?_,?_⟩
  ·have:=g3 pr aC
   rw[ak]
   exact⟨this.1,by omega,by unfold Sm;omega⟩
  ·obtain⟨y,hy,e⟩:=aN.mp hx
   cases e
   have:=hu x hy
   unfold Sm;omega
  ·have:aV prs (u.map some)%p=0:=yj (htr prs (aW cW))
   rw[this]
   walk_at "dt"
   rfl
 ·rw[all_true hos]
  exact q
def Qq(p n:Int)(cs:List az)(wd:Wo)(d:PyData):Prop:=(∃v,lP p n cs wd v/\d= .tuple [.str "word",aR v])\/∃aE,t7 p n cs wd aE/\d= .tuple [.str "none",aR aE]
def Ae:DF:=fun ds Φ=>∃(p n:Int) (cs:List az) (wd:Wo) (d:PyData),ds=[bV p n cs,lN wd,d]/\cP p n cs/\wd.length=n.toNat/\(∀x,some x∈wd->0<=x/\x<p)/\Qq p n cs wd d/\Φ true (.bool true)
theorem LN:dQ Ae:=by
 intro ds Φ Ψ hm z
 obtain⟨p,n,cs,wd,d,e,h1,h2,h3,h4,q⟩:=hm
 exact⟨p,n,cs,wd,d,e,h1,h2,h3,h4,z _ _ q⟩
theorem D6(a b:Str):jf (.str a) (.str b) (decide (a=b)):=jf.sd a b
theorem Ku:∀(f:Nat->Int) (xs:List Int) (x:Int),aj f (xs++[x])=aj f xs+f xs.length*x
  |f,[],x=>by simp[aj]
  | f, y :: ys, x => by
    show f 0*y+aj _ (ys++[x])=(f 0*y+aj _ ys)+f (ys.length+1)*x
    rw[Ku (fun i=>f (i+1)) ys x]
    omega
theorem sM:cB ["net","word","found","p","n","checks","row"] ["net","word","found"] (aQ pI):=⟨rfl,rfl,rfl,by decide+kernel,rfl,by decide+kernel,by decide+kernel⟩
theorem Pj(F:bT K "_law_fills" "_law_fills" pI f fd)(BS:Callee P w K mg base "_law_combined" 1 ["net","factors"] (bI 2 wX))(qT:Callee P w K mg base "_law_letter_list" 2 ["found","p","many"] (bI 3 rJ))(Di:Callee P w K mg base "_law_true" 2 ["net","word"] (bI 2 vR))(kW:mg "all"=none)(kP:mg "isinstance"=none)(D9:mg "tuple"=none)(cI:mg "len"=none)(qN:mg "sum"=none)(bO:mg "range"=none):
    bE P w K mg base bL 3 f fd ["net","word","found"] (bI 3 Ae):=by
  refine F.ok sM (fun vs H Q E h=>h.1) (fun cdv A outer s H vs Q E hr h=>?_)
  obtain⟨nb,ds,Φ,hlive,hds,aI,hF⟩:=gx h
  obtain⟨p,n,cs,wd,d,rfl,hN,hwl,iU,hD,q⟩:=hF
  refine⟨_,(@aA _ _ _ _ _ (@fQ _ _ _ _ _ _ (pv 0) (@g7 _ (K) _ _ _ (3) _ rfl rfl (@cg _ _ _ _ _ (aT (i:=3) sM.nd rfl (Or.inl rfl)) (@cg _ _ _ _ _ (aT (i:=4) sM.nd rfl (Or.inl rfl)) (@cg _ _ _ _ _ (aT (i:=5) sM.nd rfl (Or.inl rfl)) gQ (by rfl)) (by rfl)) (by rfl)) (by rfl) (by rfl)) (by rfl) (by rfl) (by rfl)) (@aA _ _ _ _ _ (@eV _ _ _ _ _ _ _ _ (PW.pt (pK (@kB _ _ _ _ (@jn _ (K) _ _ rfl (@dm _ _ _ _ _ _ _ _ (mY K) uf rfl kP xO (@aa _ _ _ _ _ (pv 2) (@aa _ _ _ _ _ (xN (v:= .ty "tuple") rfl D9 PyProof.Rows.boot_tuple rfl) ao rfl) rfl) (by decide) (by decide) (by rfl) (by rfl)) (fun _=>rfl))) (qI (@cF _ _ _ _ _ _ _ _ lD (@dm _ _ _ _ _ _ _ _ (gc K) iF rfl cI g8 (@aa _ _ _ _ _ (pv 2) ao rfl) (by decide) (by decide) (by rfl) (by rfl)) aq (bN _))))) (@aJ _ _ _ (@bA _ _ _ _ jX)) gu) (@aA _ _ _ _ _ (@eV _ _ _ _ _ _ _ _ (@cF _ _ _ _ _ _ _ _ i6 (@aH _ _ _ _ _ _ (bK K) bU (pv 2) aq (fun _ _=>rfl)) tW (bN _)) (@aA _ _ _ _ _ (@eV _ _ _ _ _ _ _ _ (PW.pt (pK (@kB _ _ _ _ (@jn _ (K) _ _ rfl (@aX _ _ _ _ _ _ _ _ _ _ qT (hr.mono (by decide)) (@aa _ _ _ _ _ (@aH _ _ _ _ _ _ (bK K) bU (pv 2) aq (fun _ _=>rfl)) (@aa _ _ _ _ _ (pv 3) (@aa _ _ _ _ _ (pv 4) ao rfl) rfl) rfl) (by rfl) (by decide) (by rfl) (by rfl)) (fun _=>rfl))) (qI (@kB _ _ _ _ (@jn _ (K) _ _ rfl (@aX _ _ _ _ _ _ _ _ _ _ Di (hr.mono (by decide)) (@aa _ _ _ _ _ (pv 0) (@aa _ _ _ _ _ (@aH _ _ _ _ _ _ (bK K) bU (pv 2) aq (fun _ _=>rfl)) ao rfl) rfl) (by rfl) (by decide) (by rfl) (by rfl)) (fun _=>rfl)))))) (@aJ _ _ _ (@bA _ _ _ _ jX)) gu) (@aJ _ _ _ (@bA _ _ _ _ (@dm _ _ _ _ _ _ _ _ (qd K) (tX rfl) rfl kW wA (@aa _ _ _ _ _ (fL (dN.of (show eH (aQ pI) ["net","word","found","p","n","checks","row"] _ ["k","word","found"] [none,some 1,some 2]=true by decide+kernel)) (@iz _ _ _ _ _ _ rfl bO (@aa _ _ _ _ _ (pv 4) ao rfl) (by rfl)) (fun _ _ _ _=>⟨(aT (i:=0) (by show List.Nodup (["k","word","found"]:List Str);decide+kernel) rfl (Or.inl rfl)),(l6 (@cF _ _ _ _ _ _ _ _ rG (@aH _ _ _ _ _ _ (bX K) bD (pv 1) (pv 0) (fun _ _=>rfl)) jB (bN _))),(@jy _ _ _ _ _ _ _ _ i6 (@aH _ _ _ _ _ _ (bX K) bD (@aH _ _ _ _ _ _ (bK K) bU (pv 2) aq (fun _ _=>rfl)) (pv 0) (fun _ _=>rfl)) (@aH _ _ _ _ _ _ (bX K) bD (pv 1) (pv 0) (fun _ _=>rfl)) (bN _))⟩)) ao rfl) (by decide) (by decide) (by rfl) (by rfl))))) gu) (@aA _ _ _ _ _ (@eV _ _ _ _ _ _ _ _ (PW.pt (pK (@cF _ _ _ _ _ _ _ _ lD (@aH _ _ _ _ _ _ (bK K) bU (pv 2) aq (fun _ _=>rfl)) tW (bN _)) (qI (@kB _ _ _ _ (@jn _ (K) _ _ rfl (@aX _ _ _ _ _ _ _ _ _ _ qT (hr.mono (by decide)) (@aa _ _ _ _ _ (@aH _ _ _ _ _ _ (bK K) bU (pv 2) aq (fun _ _=>rfl)) (@aa _ _ _ _ _ (pv 3) (@aa _ _ _ _ _ (@dm _ _ _ _ _ _ _ _ (gc K) iF rfl cI g8 (@aa _ _ _ _ _ (pv 5) ao rfl) (by decide) (by decide) (by rfl) (by rfl)) ao rfl) rfl) rfl) (by rfl) (by decide) (by rfl) (by rfl)) (fun _=>rfl)))))) (@aJ _ _ _ (@bA _ _ _ _ jX)) gu) (@aA _ _ _ _ _ (@aU _ _ (6) _ _ _ _ sM.nd rfl (Or.inr rfl) (@aX _ _ _ _ _ _ _ _ _ _ BS (hr.mono (by decide)) (@aa _ _ _ _ _ (pv 0) (@aa _ _ _ _ _ (@aH _ _ _ _ _ _ (bK K) bU (pv 2) aq (fun _ _=>rfl)) ao rfl) rfl) (by rfl) (by decide) (by rfl) (by rfl)) (by rfl) (by first|exact .inl rfl|exact .inr rfl|assumption)) (@aA _ _ _ _ _ (@eV _ _ _ _ _ _ _ _ (@kB _ _ _ _ (@jn _ (K) _ _ rfl (@dm _ _ _ _ _ _ _ _ (qd K) (tX rfl) rfl kW wA (@aa _ _ _ _ _ (fL (dN.of (show eH (aQ pI) ["net","word","found","p","n","checks","row"] _ ["k","word","row"] [none,some 1,some 6]=true by decide+kernel)) (@iz _ _ _ _ _ _ rfl bO (@aa _ _ _ _ _ (pv 4) ao rfl) (by rfl)) (fun _ _ _ _=>⟨(aT (i:=0) (by show List.Nodup (["k","word","row"]:List Str);decide+kernel) rfl (Or.inl rfl)),(l6 (@cF _ _ _ _ _ _ _ _ w9 (@aH _ _ _ _ _ _ (bX K) bD (pv 1) (pv 0) (fun _ _=>rfl)) jB (bN _))),(@jy _ _ _ _ _ _ _ _ i6 (@aH _ _ _ _ _ _ (bX K) bD (pv 2) (pv 0) (fun _ _=>rfl)) aq (bN _))⟩)) ao rfl) (by decide) (by decide) (by rfl) (by rfl)) (fun _=>rfl))) (@aJ _ _ _ (@bA _ _ _ _ jX)) gu) (@aJ _ _ _ (@bA _ _ _ _ (@jy _ _ _ _ _ _ _ _ i6 (@aG _ _ _ _ _ _ _ _ fM (@dm _ _ _ _ _ _ _ _ (uO K) (Jw rfl) rfl qN K8 (@aa _ _ _ _ _ (fL (dN.of (show eH (aQ pI) ["net","word","found","p","n","checks","row"] _ ["k","word","row"] [none,some 1,some 6]=true by decide+kernel)) (@iz _ _ _ _ _ _ rfl bO (@aa _ _ _ _ _ (pv 4) ao rfl) (by rfl)) (fun _ _ _ _=>⟨(aT (i:=0) (by show List.Nodup (["k","word","row"]:List Str);decide+kernel) rfl (Or.inl rfl)),(l6 (@cF _ _ _ _ _ _ _ _ rG (@aH _ _ _ _ _ _ (bX K) bD (pv 1) (pv 0) (fun _ _=>rfl)) jB (bN _))),(@aG _ _ _ _ _ _ _ _ iN (@aH _ _ _ _ _ _ (bX K) bD (pv 2) (pv 0) (fun _ _=>rfl)) (@aH _ _ _ _ _ _ (bX K) bD (pv 1) (pv 0) (fun _ _=>rfl)))⟩)) ao rfl) (by decide) (by decide) (by rfl) (by rfl)) (pv 3)) aq (bN _)))))))))),?_⟩
  refine Sv.gv hlive hds aI (ρ:=[.d false _, .d false _, .d false _, .no, .no, .no, .no]) rfl ?_
  clear aI hds
  have p2:=hN.hp.1
  have cO:=hN.cO
  have hcl:=hN.cl
  have n0:=hN.n0
  have n1:=hN.n1
  have HN:(wd.map fE).length=wd.length:=ak ..
  rcases hD with ⟨v,hW,rfl⟩|⟨aE,hFN,rfl⟩
  · have hvl:=hW.len
    walk_at "dt"
    refine⟨_,D6 _ _,_,rfl,?_⟩
    rw[if_pos (by decide)]
    walk_at "dt"
    refine Ev.dB vd ?_
    walk_at "dt"
    refine⟨rfl,p,n,v,rfl,by omega,by omega,hW.rg,cO,?_⟩
    walk_at "dt"
    refine Ev.dB ET ?_
    walk_at "dt"
    refine⟨rfl,p,n,cs,v,rfl,hN,hvl,hW.rg,hW.JJ,?_⟩
    walk_at "dt"
    refine aD.ev (aD.mw (by decide) rfl ?_)
    walk_at "dt"
    refine⟨true,fun i ds=>∃bs:List Bool,ds=bs.map .bool/\bs.all id=true,⟨[],rfl,rfl⟩,?_,?_⟩
    · rintro i d ds ⟨hi,rfl⟩ hl' ⟨bs,rfl,hbs⟩
      obtain⟨o,ho,hat⟩:=ny (xs:=wd) (k:=0+(i:Int)) fE (by omega) (show 0+(i:Int)<wd.length by omega) rfl
      rw[show(0+(i:Int)).toNat=i by omega] at ho
      have vL:bH (v.map PyData.int) (0+(i:Int))=some (.int (gI v i)):=fh (by omega) (by rw[bu,show(0+(i:Int)).toNat=i by omega,(aK.at (p:=p) (w:=n.toNat) ⟨hvl,hW.rg⟩ hi)];rfl)
      walk_at "dt"
      refine⟨by walk_at "wk",?_⟩
      walk_at "dt"
      rw[qb]
      cases o with
      | none =>
        walk_at "dt"
        exact⟨bs,rfl,hbs⟩
      | some x =>
        have hk:=hW.known i x ho
        have JA:bH (wd.map fE) (0+(i:Int))=some (.int x):=hat
        walk_at "dt"
        exact⟨bs++[true],by rw[cE,decide_eq_true hk];rfl,by rw[List.all_append,hbs];rfl⟩
    · rintro ds hl' ⟨bs,rfl,hbs⟩
      refine⟨bs,rfl,?_⟩
      rw[hbs]
      exact q
  · have hfl:=hFN.len
    walk_at "dt"
    refine⟨_,D6 _ _,_,rfl,?_⟩
    rw[if_neg (by decide)]
    walk_at "dt"
    refine⟨_,D6 _ _,_,rfl,?_⟩
    rw[if_neg (by decide)]
    walk_at "dt"
    refine Ev.dB vd ?_
    walk_at "dt"
    refine⟨rfl,p,(cs.map br).length,aE,rfl,by rw[ak];omega,by omega,hFN.rg,cO,?_⟩
    walk_at "dt"
    refine Ev.dB Kw ?_
    walk_at "dt"
    refine⟨rfl,p,n,cs,aE,rfl,hN,qi hfl,hFN.rg,fun r hr hsum=>?_⟩
    obtain⟨hz,h1⟩:=hFN.Iq r hr.len hsum
    have hrl:=hr.len
    walk_at "dt"
    refine aD.ev (aD.mw (by decide) rfl ?_)
    walk_at "dt"
    refine⟨true,fun i ds=>∃bs:List Bool,ds=bs.map .bool/\bs.all id=true,⟨[],rfl,rfl⟩,?_,?_⟩
    · rintro i d ds ⟨hi,rfl⟩ hl' ⟨bs,rfl,hbs⟩
      obtain⟨o,ho,hat⟩:=ny (xs:=wd) (k:=0+(i:Int)) fE (by omega) (show 0+(i:Int)<wd.length by omega) rfl
      rw[show(0+(i:Int)).toNat=i by omega] at ho
      have vL:bH (r.map PyData.int) (0+(i:Int))=some (.int (gI r i)):=fh (by omega) (by rw[bu,show(0+(i:Int)).toNat=i by omega,hr.at hi];rfl)
      walk_at "dt"
      refine⟨by walk_at "wk",?_⟩
      walk_at "dt"
      rw[qb]
      cases o with
      | some x =>
        walk_at "dt"
        exact⟨bs,rfl,hbs⟩
      | none =>
        have hk:gI r i=0:=by
          obtain⟨kk,hkk⟩:=hz i ho
          have:=hr.g (i:=i) (by omega)
          rw[<-jh this.1 this.2];exact yj ⟨kk,hkk⟩
        walk_at "dt"
        exact⟨bs++[true],by rw[cE,decide_eq_true hk];rfl,by rw[List.all_append,hbs];rfl⟩
    · rintro ds hl' ⟨bs,rfl,hbs⟩
      refine⟨bs,rfl,?_⟩
      rw[hbs]
      walk_at "dt"
      refine aD.ev (aD.mw (by decide) rfl ?_)
      walk_at "dt"
      refine⟨true,fun i ds=>∃ns:List Int,ds=ns.map .int/\ns.sum=aj (cJ wd) (r.take i),⟨[],rfl,rfl⟩,?_,?_⟩
      · rintro i d ds ⟨hi,rfl⟩ hl' ⟨ns,rfl,hns⟩
        obtain⟨o,ho,hat⟩:=ny (xs:=wd) (k:=0+(i:Int)) fE (by omega) (show 0+(i:Int)<wd.length by omega) rfl
        rw[show(0+(i:Int)).toNat=i by omega] at ho
        have vL:bH (r.map PyData.int) (0+(i:Int))=some (.int (gI r i)):=fh (by omega) (by rw[bu,show(0+(i:Int)).toNat=i by omega,hr.at hi];rfl)
        have hs:aj (cJ wd) (r.take (i+1))=aj (cJ wd) (r.take i)+cJ wd i*gI r i:=by
          rw[take_snoc (hr.at hi),Ku,cZ,pM (by omega)]
        obtain⟨r0,r1⟩:=hr.g (i:=i) (by omega)
        walk_at "dt"
        refine⟨by walk_at "wk",?_⟩
        walk_at "dt"
        rw[qb]
        cases o with
        | none =>
          walk_at "dt"
          refine⟨ns,rfl,?_⟩
          rw[hs,hns]
          unfold cJ
          rw[ho]
          simp
        | some x =>
          have JA:bH (wd.map fE) (0+(i:Int))=some (.int x):=hat
          obtain⟨x0,x1⟩:=iU x (aW ho)
          have s1:Sm x:=by unfold Sm;omega
          have s2:Sm (gI r i):=by unfold Sm;omega
          walk_at "dt"
          refine⟨ns++[gI r i*x],by rw[cE];rfl,?_⟩
          rw[hs,qQ,hns]
          unfold cJ
          rw[ho]
          simp[nY]
      · rintro ds hl' ⟨ns,rfl,hns⟩
        rw[<-hrl,eE] at hns
        refine⟨ns,rfl,?_⟩
        walk_at "dt"
        rw[hns]
        have:aj (cJ wd) r%p=1:=by
          obtain⟨kk,hkk⟩:=h1
          rw[show aj (cJ wd) r=1+p*kk by omega,Bk,jh (by omega) (by omega)]
        rw[this]
        exact q
def vP(C:Addr):RF:=fun c ds Φ=>∃(x dx:Addr) (fs:Fs) (sp:List Int),c=fP C x dx fs/\fs.lookup ("spots":Str)=some (.d (aR sp))/\ds=[]/\sp.length<=9000/\Φ true (aR sp)
theorem QF{C:Addr}:rC (vP C):=by
 intro c ds Φ Ψ h z
 obtain⟨x,dx,fs,sp,e1,e2,e3,h1,q⟩:=h
 exact⟨x,dx,fs,sp,e1,e2,e3,h1,z _ _ q⟩
theorem SA:cB ["self"] ["self"] (aQ pG):=⟨rfl,rfl,rfl,by decide+kernel,rfl,by decide+kernel,by decide+kernel⟩
theorem Xd(F:bT K "free" "Maker.free" pG f fd){bw:Addr}(fU:gF K bw)(ja:gT K bw "spots")(eY:mg "list"=none):
  bE P w K mg base bL 1 f fd ["self"] (jM 1 (vP bw)):=by
 refine F.ok SA (fun vs H Q E h=>h.1) (fun cdv A outer s H vs Q E hr h=>?_)
 obtain⟨nb,c,ws,ds,Φ,rfl,hlive,kR,lC,hds,aI,hF⟩:=zh h
 obtain⟨x,dx,fs,sp,rfl,hfs,rfl,hl,q⟩:=hF
 refine⟨_,(@aJ _ _ _ (@bA _ _ _ _ (@kq _ _ _ _ _ _ _ _ (pV K) CY rfl eY pe (@aa _ _ _ _ _ (@nN _ _ _ _ _ (pv 0) rfl) ao rfl) (by decide) (by decide) (by rfl) (by rfl)))),?_⟩
 refine Sv.yk hlive kR lC hds aI (ρ:=[.raw _]) rfl ?_
 clear aI hds
 refine Sv.ret ?_
 refine aD.ev (aD.listOf ?_)
 refine Ev.o6 rfl (bF.mpr rfl) fU ja hfs .d ?_
 refine⟨_, .inl rfl,?_⟩
 rw[ql]
 exact q
def vW(C:Addr):RF:=fun c ds Φ=>∃(x dx:Addr) (p n:Int) (cs:List az) (sp:List Int) (ru:List (Int×az)) (ls:List Int),c=fP C x dx (rO p n sp ru)/\ds=[aR ls]/\jt p n cs sp ru/\2<=p/\p<10^40/\(1<=n/\n<=400)/\ls.length=sp.length/\(∀x∈ls,0<=x/\x<p)/\Φ true (aR (i9 p n sp ru ls))
theorem LG{C:Addr}:rC (vW C):=by
 intro c ds Φ Ψ h z
 obtain⟨x,dx,p,n,cs,sp,ru,ls,e1,e2,h1,h2,h3,h4,h5,h6,q⟩:=h
 exact⟨x,dx,p,n,cs,sp,ru,ls,e1,e2,h1,h2,h3,h4,h5,h6,z _ _ q⟩
theorem qJ:cB ["self","letters","word","spot","letter","place","pairs"] ["self","letters"] (aQ pW):=⟨rfl,rfl,rfl,by decide+kernel,rfl,by decide+kernel,by decide+kernel⟩
theorem NU(F:bT K "made" "Maker.made" pW f fd){bw:Addr}(fU:gF K bw)(mC:gT K bw "rules")(nB:gT K bw "n")(ja:gT K bw "spots")(l8:gT K bw "p")(zp:Callee P w K mg base "total" 1 ["p","pairs","word"] wz)(qt:mg "zip"=none):
  bE P w K mg base bL 2 f fd ["self","letters"] (jM 2 (vW bw)):=by
 refine F.ok qJ (fun vs H Q E h=>h.1) (fun cdv A outer s H vs Q E hr h=>?_)
 obtain⟨nb,c,ws,ds,Φ,rfl,hlive,kR,lC,hds,aI,hF⟩:=zh h
 obtain⟨x,dx,p,n,cs,sp,ru,ls,rfl,rfl,hM,p2,cO,⟨n0,n1⟩,tH,hlr,q⟩:=hF
 refine⟨_,(@aA _ _ _ _ _ (@aU _ _ (2) _ _ _ _ qJ.nd rfl (Or.inl rfl) (@aG _ _ _ _ _ _ _ _ nI (@gw _ _ _ _ (@aa _ _ _ _ _ aq ao rfl)) (@nN _ _ _ _ _ (pv 0) rfl)) (by rfl) (by first|exact .inl rfl|exact .inr rfl|assumption)) (@aA _ _ _ _ _ (@fO _ _ _ _ _ _ _ _ eK rfl (@ES _ (K) _ _ _ _ _ _ _ _ _ rfl rfl qt (@nN _ _ _ _ _ (pv 0) rfl) (pv 1) (by rfl) (by rfl) (by rfl)) (@g7 _ (K) _ _ _ (2) _ rfl rfl (@cg _ _ _ _ _ (aT (i:=3) qJ.nd rfl (Or.inl rfl)) (@cg _ _ _ _ _ (aT (i:=4) qJ.nd rfl (Or.inl rfl)) gQ (by rfl)) (by rfl)) (by rfl) (by rfl)) (@aJ _ _ _ (@fQ _ _ _ _ _ _ (pv 4) (gO (pv 2) (pv 3) set_list) (by rfl) (by rfl) (by rfl))) (by intro _;rfl)) (@aA _ _ _ _ _ (@fO _ _ _ _ _ _ _ _ eK rfl (gf (K:=K) rfl (@nN _ _ _ _ _ (pv 0) rfl)) (@g7 _ (K) _ _ _ (2) _ rfl rfl (@cg _ _ _ _ _ (aT (i:=5) qJ.nd rfl (Or.inl rfl)) (@cg _ _ _ _ _ (aT (i:=6) qJ.nd rfl (Or.inl rfl)) gQ (by rfl)) (by rfl)) (by rfl) (by rfl)) (@aJ _ _ _ (@fQ _ _ _ _ _ _ (@aG _ _ _ _ _ _ _ _ fM (@AJ _ _ _ _ _ _ yg (@aX _ _ _ _ _ _ _ _ _ _ zp (hr.mono (by decide)) (@aa _ _ _ _ _ (@nN _ _ _ _ _ (pv 0) rfl) (@aa _ _ _ _ _ (pv 6) (@aa _ _ _ _ _ (pv 2) ao rfl) rfl) rfl) (by rfl) (by decide) (by rfl) (by rfl))) (@nN _ _ _ _ _ (pv 0) rfl)) (gO (pv 2) (pv 5) set_list) (by rfl) (by rfl) (by rfl))) (by intro _;rfl)) (@aJ _ _ _ (@bA _ _ _ _ (pv 2)))))),?_⟩
 refine Sv.yk hlive kR lC hds aI (ρ:=[.raw _, .d false _, .no, .no, .no, .no, .no]) rfl ?_
 clear aI hds
 have L0:=hM.cnt
 have hsm:(sp.map PyData.int).length=sp.length:=ak ..
 have HM:(ls.map PyData.int).length=ls.length:=ak ..
 have hrm:(ru.map uP).length=ru.length:=ak ..
 have Cp:∀w:List Int,aR w=lN (w.map some):=fun w=>by show PyData.list _=PyData.list _;rw[fZ];rfl
 refine Sv.seq ?_
 refine Sv.kF (aD.oU ?_)
 walk_at "dt"
 refine Ev.o6 rfl (bF.mpr rfl) fU nB rfl .d ?_
 refine⟨n,rfl,by omega,by omega,fun g A2=>?_⟩
 have hz:List.replicate n.toNat (PyData.int 0)=(List.replicate n.toNat (0:Int)).map PyData.int:=by rw[nL]
 rw[hz]
 refine Sv.lift 2 rfl (ql _) ?_
 refine Sv.seq ?_
 refine Sv.S8 ?_
 refine Ev.o6 rfl (bF.mpr rfl) fU ja rfl .d ?_
 refine⟨_,rfl,ql _,fun v=>?_⟩
 refine Ev.var rfl ?_
 refine⟨_,rfl,ql _,by omega,fun v2=>?_⟩
 refine⟨fun i ρ=>∃(x3 x4:Sl),ρ=[.raw (.ref x), .d false (aR ls), .own A2 true ((putL (List.replicate n.toNat 0) (sp.take i) (ls.take i)).map .int),x3,x4, .no, .no],⟨.no, .no,rfl⟩,?_,?_⟩
 ·rintro i d ρ ⟨e1,e2,h1,h2,rfl⟩ ⟨x3,x4,rfl⟩
  obtain⟨s,hs,rfl⟩:=fq h1
  obtain⟨l,hl,rfl⟩:=fq h2
  have ux:=hM.rg s (aW hs)
  walk_at "dt"
  refine⟨_,_,rfl,qM ux.1 (by rw[ak,v8,fy];omega),?_⟩
  have es:putL (List.replicate n.toNat 0) (sp.take (i+1)) (ls.take (i+1))=(putL (List.replicate n.toNat 0) (sp.take i) (ls.take i)).set s.toNat l:=by
   have g1:=(aP.mp hs).1
   have g2:=(aP.mp hl).1
   unfold putL
   rw[take_snoc hs,take_snoc hl,List.zip_append (by rw[cZ,cZ];omega),rZ]
   rfl
  rw[<-jL,<-es]
  exact⟨_,_,rfl⟩
 rintro ρ ⟨x3,x4,rfl⟩
 rw[hsm,eE,show ls.take sp.length=ls by rw[<-tH,eE]]
 generalize hw0:putL (List.replicate n.toNat 0) sp ls=w0
 have Mj:w0.length=n.toNat:=by rw[<-hw0,v8,fy]
 have Mi:∀x∈w0,0<=x/\x<p:=by
  rw[<-hw0]
  exact CV sp ls _ hlr fun x hx=>by rw[nE] at hx;omega
 refine Sv.seq ?_
 refine Sv.forL ?_
 refine Ev.o6 rfl (bF.mpr rfl) fU mC rfl .d ?_
 refine⟨_,rfl,fun v=>?_⟩
 refine⟨fun i ρ=>∃(x3 x4 x5 x6:Sl),ρ=[.raw (.ref x), .d false (aR ls), .own A2 true ((ji p w0 (ru.take i)).map .int),x3,x4,x5,x6],⟨_,_,_,_,rfl⟩,?_,?_⟩
 ·rintro i d ρ hd ⟨x3,x4,x5,x6,rfl⟩
  obtain⟨⟨pl,prs⟩,hq,rfl⟩:=fq hd
  have hil:=(aP.mp hq).1
  obtain⟨g0,g1,g2,g3,g4⟩:=hM.n9 _ (aW hq)
  have hI:=ze hM (by omega) Mj Mi i (by omega)
  have GS:=hI.len
  generalize hwi:ji p w0 (ru.take i)=wi at hI GS
  refine Gv.tup rfl ?_
  refine Gv.tD (Gv.iD ?_)
  refine Gv.tD (Gv.rL ?_)
  refine Gv.DB ?_
  refine Sv.nU rfl ?_
  have hh:(false,HD.th (fP bw x dx (rO p n sp ru)),V.ref x)∈((rq H nb (fP bw x dx (rO p n sp ru))).hd false (PyData.list (List.map uP ru)) v).hold:=bY _ (bF.mpr rfl)
  have aC:∀pr∈prs,0<=pr.1/\pr.1<n:=fun pr hp=>by
   refine hM.rg pr.1 ?_
   rw[<-g3]
   exact kj hp
  refine Ev.rI ?_
  refine Ev.rU ?_
  refine Ev.lend 2 rfl ?_
  refine Ev.total ?_
  refine Av.cons (Ev.o6 rfl hh fU l8 rfl .d ?_)
  walk_at "dt"
  refine⟨p,prs,wi.map some,by show[_,_,aR wi]=_;rw[Cp],by omega,fun pr hp=>?_,fun y hy=>?_,?_⟩
  ·have h3:=aC pr hp
   have h4:=g4 pr hp
   refine⟨h3.1,by rw[ak,GS];omega,by unfold Sm;omega⟩
  ·obtain⟨y',hy',e⟩:=aN.mp hy
   cases e
   have:=hI.rg y hy'
   unfold Sm;omega
  refine⟨rfl,?_⟩
  refine⟨_,rfl,_,rfl,?_⟩
  refine Ev.o6 rfl hh fU l8 rfl .d ?_
  refine⟨_,rfl,by omega,?_⟩
  refine Ev.var rfl ?_
  refine⟨_,_,rfl,qM g0 (by rw[ak];omega),?_⟩
  have es:ji p w0 (ru.take (i+1))=wi.set pl.toNat (-(aV prs (wi.map some)%p)%p):=by
   rw[take_snoc hq,<-hwi]
   unfold ji
   rw[rZ]
   rfl
  rw[<-jL]
  exact⟨_,_,_,_,by rw[es];rfl⟩
 ·rintro ρ ⟨x3,x4,x5,x6,rfl⟩
  rw[hrm,eE]
  walk_at "dt"
  rw[<-hw0]
  exact q
def xB(C:Addr):RF:=fun c ds Φ=>∃(x dx:Addr) (fs:Fs) (sp r:List Int),c=fP C x dx fs/\fs.lookup ("spots":Str)=some (.d (aR sp))/\ds=[aR r]/\sp.length<=9000/\(∀s∈sp,0<=s/\s<r.length)/\Φ true (.list (sp.map fun s=>pairD (s,gI r s.toNat)))
theorem Wh{C:Addr}:rC (xB C):=by
 intro c ds Φ Ψ h z
 obtain⟨x,dx,fs,sp,r,e1,e2,e3,h1,h2,q⟩:=h
 exact⟨x,dx,fs,sp,r,e1,e2,e3,h1,h2,z _ _ q⟩
theorem Lh:cB ["self","row"] ["self","row"] (aQ o8):=⟨rfl,rfl,rfl,by decide+kernel,rfl,by decide+kernel,by decide+kernel⟩
theorem QL(F:bT K "at_spots" "Maker.at_spots" o8 f fd){bw:Addr}(fU:gF K bw)(ja:gT K bw "spots"):
  bE P w K mg base bL 1 f fd ["self","row"] (jM 2 (xB bw)):=by
 refine F.ok Lh (fun vs H Q E h=>h.1) (fun cdv A outer s H vs Q E hr h=>?_)
 obtain⟨nb,c,ws,ds,Φ,rfl,hlive,kR,lC,hds,aI,hF⟩:=zh h
 obtain⟨x,dx,fs,sp,r,rfl,hfs,rfl,hl,hs,q⟩:=hF
 refine⟨_,(@aJ _ _ _ (@bA _ _ _ _ (fL (dN.of (show eH (aQ o8) ["self","row"] _ ["spot","row"] [none,some 1]=true by decide+kernel)) (gf (K:=K) rfl (@nN _ _ _ _ _ (pv 0) rfl)) (fun _ _ _ _=>⟨(aT (i:=0) (by show List.Nodup (["spot","row"]:List Str);decide+kernel) rfl (Or.inl rfl)),iT,(@iQ _ _ _ _ _ (@aa _ _ _ _ _ (pv 0) (@aa _ _ _ _ _ (@aH _ _ _ _ _ _ (bX K) bD (pv 1) (pv 0) (fun _ _=>rfl)) ao rfl) rfl))⟩)))),?_⟩
 refine Sv.yk hlive kR lC hds aI (ρ:=[.raw _, .d false _]) rfl ?_
 clear aI hds
 have hsm:(sp.map PyData.int).length=sp.length:=ak ..
 refine Sv.ret ?_
 refine aD.ev (aD.jY (by decide) rfl ?_)
 refine Ev.o6 rfl (bF.mpr rfl) fU ja hfs .d ?_
 refine⟨_,rfl,by omega,fun v=>?_⟩
 refine gS.rel (fun s:Int=>pairD (s,gI r s.toNat)) true (fun i s=>sp[i]?=some s) ?_ fun os ie hos=>?_
 ·rintro i d hd
  obtain⟨s,hsi,rfl⟩:=fq hd
  obtain⟨s0,s1⟩:=hs s (aW hsi)
  have hat:bH (r.map PyData.int) s=some (.int (gI r s.toNat)):=fh s0 (by rw[bu,OT (show s.toNat<r.length by omega)];rfl)
  refine Gv.iD ?_
  refine⟨by walk_at "wk",?_⟩
  refine Ev.tupS ?_
  walk_at "dt"
  exact⟨fun _=>rfl,s,rfl,hsi⟩
 ·rw[hsm] at ie
  have e:os=sp:=by
   apply kI
   intro i
   by_cases c:i<os.length
   ·rw[aF c,hos i _ (aF c)]
   ·rw[gP (by omega),gP (by omega)]
  rw[e]
  exact q
def su(C:Addr):CF:=fun c ds Φ=>∃(x dx:Addr) (p n:Int) (cs:List az),c=fP C x dx []/\ds=[bV p n cs]/\cP p n cs/\n<=60/\∀(sp:List Int) (ru:List (Int×az)),jt p n cs sp ru->Φ (fP C x dx (rO p n sp ru)) true .none
theorem Vt{C:Addr}:Hj (su C):=by
 intro c ds Φ Ψ h z
 obtain⟨x,dx,p,n,cs,e1,e2,h1,h2,q⟩:=h
 exact⟨x,dx,p,n,cs,e1,e2,h1,h2,fun sp ru h=>z _ _ _ (q sp ru h)⟩
theorem zD:cB ["self","net","found","told"] ["self","net"] (aQ lF):=⟨rfl,rfl,rfl,by decide+kernel,rfl,by decide+kernel,by decide+kernel⟩
theorem Xo(F:bT K "__init__" "Maker.__init__" lF f fd){bw:Addr}(fU:gF K bw)(l8:gT K bw "p")(nB:gT K bw "n")(ja:gT K bw "spots")(mC:gT K bw "rules")(Sb:mT P w K mg base bw "at_spots" 1 ["self","row"] (jM 2 (xB bw)))(B7:Callee P w K mg base "swept_all" 5 ["net"] (bI 1 vt))(Cv:mg "dict"=none)(bO:mg "range"=none)(Dr:mg "sorted"=none):
  bE P w K mg base bL 6 f fd ["self","net"] (wC 2 (su bw)):=by
 refine F.ok zD (fun vs H Q E h=>h.1) (fun cdv A outer s H vs Q E hr h=>?_)
 obtain⟨_,nb,c,ws,ds,rfl,hlive,kR,hcf,lC,hds,hF⟩:=h
 obtain⟨Φ,aI,hF⟩:∃Φ:Cu->Pd,(∀c' f d v H',Φ c' f d->DV c c' H H'->c'.P (fun a=>nb a\/a∈c'.F) H'->ai (fun a=>nb a\/a∈c'.F\/(f=true/\H a≠none)) H' d v->Q v H')/\su bw c ds Φ:=⟨_,fun c' f d v H' q=>q v H',hF⟩
 obtain⟨x,dx,p,n,cs,rfl,rfl,hN,vG,q⟩:=hF
 refine⟨_,(@aA _ _ _ _ _ (@aU _ _ (2) _ _ _ _ zD.nd rfl (Or.inr rfl) (@aX _ _ _ _ _ _ _ _ _ _ B7 (hr.mono (by decide)) (@aa _ _ _ _ _ (pv 1) ao rfl) (by rfl) (by decide) (by rfl) (by rfl)) (by rfl) (by first|exact .inl rfl|exact .inr rfl|assumption)) (@aA _ _ _ _ _ (@aU _ _ (3) _ _ _ _ zD.nd rfl (Or.inr rfl) (@kq _ _ _ _ _ _ _ _ (Ek) (Qm rfl) rfl Cv PyProof.Rows.boot_dict (@aa _ _ _ _ _ (@Xy _ _ _ (fL (dN.of (show eH (aQ lF) ["self","net","found","told"] _ ["k","place","found"] [none,none,some 2]=true by decide+kernel)) (@MK _ _ _ _ _ _ (zT PySem.F.plainAttrs_dict Ky PySem.F.type_dict_items UX (@aH _ _ _ _ _ _ (bK K) bU (pv 2) aq (fun _ _=>rfl)))) (fun _ _ _ _=>⟨(@g7 _ (K) _ _ _ (2) _ rfl rfl (@cg _ _ _ _ _ (aT (i:=0) (by show List.Nodup (["k","place","found"]:List Str);decide+kernel) rfl (Or.inl rfl)) (@cg _ _ _ _ _ (aT (i:=1) (by show List.Nodup (["k","place","found"]:List Str);decide+kernel) rfl (Or.inl rfl)) gQ (by rfl)) (by rfl)) (by rfl) (by rfl)),iT,(@iQ _ _ _ _ _ (@aa _ _ _ _ _ (pv 1) (@aa _ _ _ _ _ (@aH _ _ _ _ _ _ (bX K) bD (@aH _ _ _ _ _ _ (bK K) bU (pv 2) aq (fun _ _=>rfl)) (pv 0) (fun _ _=>rfl)) ao rfl) rfl))⟩))) ao rfl) (by decide) (by decide) (by rfl) (by rfl)) (by rfl) (by first|exact .inl rfl|exact .inr rfl|assumption)) (@aA _ _ _ _ _ (@uv _ _ _ _ _ _ _ _ (pv 0) (@aH _ _ _ _ _ _ (bK K) bU (pv 1) aq (fun _ _=>rfl)) rfl) (@aA _ _ _ _ _ (@uv _ _ _ _ _ _ _ _ (pv 0) (@aH _ _ _ _ _ _ (bK K) bU (pv 1) aq (fun _ _=>rfl)) rfl) (@aA _ _ _ _ _ (@uv _ _ _ _ _ _ _ _ (pv 0) (fL (dN.of (show eH (aQ lF) ["self","net","found","told"] _ ["place","told"] [none,some 3]=true by decide+kernel)) (@iz _ _ _ _ _ _ rfl bO (@aa _ _ _ _ _ (@aH _ _ _ _ _ _ (bK K) bU (pv 1) aq (fun _ _=>rfl)) ao rfl) (by rfl)) (fun _ _ _ _=>⟨(aT (i:=0) (by show List.Nodup (["place","told"]:List Str);decide+kernel) rfl (Or.inl rfl)),(l6 (@cF _ _ _ _ _ _ _ _ (Le hr.units) (pv 0) (pv 1) (by with_unfolding_all rfl))),(pv 0)⟩)) rfl) (@aJ _ _ _ (@uv _ _ _ _ _ _ _ _ (pv 0) (fL (dN.of (show eH (aQ lF) ["self","net","found","told"] _ ["place","self","told"] [none,some 0,some 3]=true by decide+kernel)) (gf (K:=K) rfl (@dm _ _ _ _ _ _ _ _ (AD) (P7 rfl) rfl Dr PyProof.Rows.boot_sorted (@aa _ _ _ _ _ (pv 3) ao rfl) (by decide) (by decide) (by rfl) (by rfl))) (fun _ _ _ _=>⟨(aT (i:=0) (by show List.Nodup (["place","self","told"]:List Str);decide+kernel) rfl (Or.inl rfl)),iT,(@iQ _ _ _ _ _ (@aa _ _ _ _ _ (pv 0) (@aa _ _ _ _ _ (@Gf _ _ _ _ _ _ _ _ _ _ _ _ _ _ Sb (pv 1) (hr.mono (by decide)) (@aa _ _ _ _ _ (@aH _ _ _ _ _ _ (tw) GO (pv 2) (pv 0) (fun _ _=>rfl)) ao rfl) (by rfl) (by rfl) (by rfl)) ao rfl) rfl))⟩)) rfl))))))),?_⟩
 refine Sv.Ui hlive kR hcf lC hds aI (ρ:=[.cu _, .d false _, .no, .no]) rfl ?_
 clear aI hds
 have p2:=hN.hp.1
 have n0:=hN.n0
 have hcl:=hN.cl
 walk_at "dt"
 refine Ev.dB FU ?_
 walk_at "dt"
 refine⟨rfl,p,n,cs,rfl,hN,fun f1 R T hS hL jb=>?_⟩
 refine Gv.rL ?_
 refine Sv.seq ?_
 refine Sv.GP (oX.PJ ?_)
 refine aD.ev (aD.Oo (by decide) rfl (fun _ _ _ z=>nomatch z) ?_)
 walk_at "dt"
 refine⟨fc T,rfl,by unfold fc;rw[ak];omega,fun G'=>?_⟩
 have jj:R.length=cs.length:=by rw[hS.len,lY]
 have lW:(R.map aR).length=R.length:=ak ..
 have gW:List.length (fc T)=T.length:=by unfold fc;rw[ak]
 refine gS.rel (fun q:Nat×Nat=>AA ((q.2:Int),aR (R.getD q.1 []))) false (fun i q=>T[i]?=some q) ?_ fun os ie hos=>?_
 ·rintro i d ⟨pp,hp,rfl⟩
  unfold fc at hp
  rw[bu] at hp
  obtain⟨q,IQ,hp⟩:=jx.mp hp
  subst hp
  have xH:=(hS.rg q (aW IQ)).1
  have hat:bH (R.map aR) (q.1:Int)=some (aR (R.getD q.1 [])):=fh (by omega) (by rw[bu,fX,aF xH,ic xH];rfl)
  refine Gv.tup rfl ?_
  refine Gv.tD (Gv.iD ?_)
  refine Gv.tD (Gv.iD ?_)
  refine Gv.DB ?_
  refine⟨by walk_at "wk",?_⟩
  walk_at "dt"
  exact⟨fun z=>(by cases z),q,rfl,IQ⟩
 have Ex:os=T:=by
  rw[gW] at ie
  apply kI
  intro i
  by_cases c:i<os.length
  ·rw[aF c,hos i _ (aF c)]
  ·rw[gP (by omega),gP (by omega)]
 subst Ex
 refine⟨iW R os,by unfold iW;rw[fZ];rfl,by unfold iW;rw[ak];omega,?_⟩
 rw[VD (Hy hS)]
 intro A3
 refine Sv.Iz 3 rfl ?_
 generalize MS:(false||_:Bool)=f3
 clear MS
 refine Sv.seq ?_
 refine Sv.w4 rfl fU l8 (.inl rfl) (sE rfl) ?_
 walk_at "dt"
 refine Sv.w4 rfl fU nB (.inl rfl) (sE rfl) ?_
 walk_at "dt"
 refine Sv.w4 rfl fU ja (.inl rfl) (sE rfl) ?_
 refine aD.ev (aD.mw (by decide) rfl ?_)
 walk_at "dt"
 refine⟨true,fun i ds=>ds=((gh i os).map fun(s:Nat)=>(s:Int)).map PyData.int,rfl,?_,?_⟩
 ·rintro i d ds ⟨hi,rfl⟩ hl' rfl
  have ki:=UP (R:=R) (T:=os) i
  have es:gh (i+1) os=gh i os++if i∈os.map (·.2) then[] else[i]:=by
   unfold gh
   rw[xK,wV]
   congr 1
   by_cases c:i∈os.map (·.2)
   ·rw[if_pos c,Ko (by simpa using c)];rfl
   ·rw[if_neg c,Jb (by simpa using c)];rfl
  refine Gv.iD ?_
  refine⟨by walk_at "wk",?_⟩
  refine Tv.test ?_
  refine Ev.wJ ?_
  walk_at "dt"
  refine⟨iW R os,rfl,_,rfl,?_⟩
  rw[mV,ki]
  by_cases c:i∈os.map (·.2)
  ·rw[if_neg (by simpa using c)]
   rw[if_pos c,jz] at es
   rw[es]
  ·rw[if_pos (by simpa using c)]
   rw[if_neg c] at es
   walk_at "dt"
   show _=List.map PyData.int (List.map (fun(s:Nat)=>(s:Int)) (gh (i+1) os))
   rw[es,cE,cE]
   rfl
 rintro ds hl' rfl
 generalize Ds:gh n.toNat os=spn
 have hsl:spn.length<=n.toNat:=by rw[<-Ds];unfold gh;exact cX (Bf ..) (by rw[fk];exact bh _)
 refine Sv.w4 rfl fU mC (.inl rfl) (sE rfl) ?_
 refine aD.ev (aD.jY (by decide) rfl ?_)
 refine aD.ev (aD.Vp ?_)
 walk_at "dt"
 have mZ:List.length (iW R os)<=n.toNat:=by
  unfold iW
  rw[ak,<-ak (f:=fun q:Nat×Nat=>q.2)]
  have:=FL hS.tQ (l₂:=List.range n.toNat) fun j hj=>by
   obtain⟨q,hq,rfl⟩:=aN.mp hj
   exact(hS.rg q hq).2
  rwa[fk] at this
 refine⟨iW R os,rfl,by omega,fun rs Yy vo=>?_⟩
 rw[Bp] at vo
 have Ys:rs.length=os.length:=by rw[vo.length_eq,ak]
 have X0:os.length<=n.toNat:=by unfold iW at mZ;rwa[ak] at mZ
 have MR:(rs.map PyData.int).length=rs.length:=ak ..
 refine⟨_,rfl,by omega,fun v=>?_⟩
 refine gS.rel uP true (fun i u=>∃q∈os,rs[i]?=some (q.2:Int)/\u=mW R os spn q.2) ?_ fun us jd nO=>?_
 ·rintro i d hd
  obtain⟨s,hsi,rfl⟩:=fq hd
  obtain⟨q,hq,rfl⟩:=aN.mp (vo.mem_iff.mp (aW hsi))
  have xH:=(hS.rg q hq).1
  have jH:aK p (n.toNat+cs.length) (R.getD q.1 []):=by rw[ic xH];exact hS.ok _ (c6 _)
  have hrl:=jH.len
  refine Gv.iD ?_
  refine⟨by walk_at "wk",?_⟩
  refine Ev.tup ?_
  refine Av.cons (Ev.var rfl ?_)
  refine Av.cons ?_
  refine Ev.DJ Wh rfl rfl (fP.is rfl) ?_
  refine jZ.cons ?_
  refine Ev.HB ?_
  walk_at "dt"
  refine⟨iW R os,rfl,?_⟩
  walk_at "dt"
  refine⟨_,Ve hS hq,?_⟩
  refine jZ.nil ?_
  refine⟨rfl,x,dx,_,spn.map fun(s:Nat)=>(s:Int),R.getD q.1 [],rfl,rfl,rfl,by rw[ak];omega,fun s hs=>?_, .inl rfl,?_⟩
  ·obtain⟨k,hk,rfl⟩:=aN.mp hs
   rw[<-Ds] at hk
   have:=dS.mp (iP.mp hk).1
   omega
  walk_at "dt"
  refine⟨fun _=>rfl,mW R os spn q.2,?_,q,hq,hsi,rfl⟩
  rw[uo hS hq]
  show PyData.tuple [_,PyData.list _]=PyData.tuple [_,PyData.list _]
  rw[fZ,fZ]
  rfl
 have R3:us=(rs.map Int.toNat).map (mW R os spn):=by
  rw[MR] at jd
  apply kI
  intro i
  by_cases c:i<us.length
  ·obtain⟨q,hq,h1,h2⟩:=nO i _ (aF c)
   rw[aF c,h2,bu,bu,h1]
   rfl
  ·rw[gP (by omega),gP (by rw[ak,ak];omega)]
 have hP:(rs.map Int.toNat).Perm (os.map (·.2)):=by
  have:=vo.map Int.toNat
  rwa[fZ,show(os.map ((Int.toNat)∘fun q:Nat×Nat=>((q.2:Nat):Int)))=os.map (·.2) from nk fun q _=>fX _] at this
 have hM:=jt.of hN hS hP
 rw[Ds,<-R3] at hM
 exact⟨_,rfl,⟨rfl,rfl,fun a m=>m⟩,q _ _ hM⟩
def Aj:DF:=fun ds Φ=>∃(p n:Int) (cs:List az) (c:Nat) (prs:az),ds=[bV p n cs, .int c]/\cP p n cs/\cs[c]?=some prs/\(∃w,aK p n.toNat w/\VN p (cs.take c) w/\¬p∣aV prs (w.map some))/\n<=60/\Φ true (.bool true)
theorem NG:dQ Aj:=by
 intro ds Φ Ψ hm z
 obtain⟨p,n,cs,c,prs,e,h1,h2,h3,h4,q⟩:=hm
 exact⟨p,n,cs,c,prs,e,h1,h2,h3,h4,z _ _ q⟩
theorem lT:cB ["net","c","p","n","checks","ahead","maker","many","k","word"] ["net","c"] (aQ vn):=⟨rfl,rfl,rfl,by decide+kernel,rfl,by decide+kernel,by decide+kernel⟩
theorem TY(F:bT K "_law_broken" "_law_broken" vn f fd){bw:Addr}(MZ:mT P w K mg base bw "free" 1 ["self"] (jM 1 (vP bw)))(OH:mT P w K mg base bw "made" 2 ["self","letters"] (jM 2 (vW bw)))(UR:Bo P w K mg base bw "Maker" 6 ["self","net"] (wC 2 (su bw)))(nX:Callee P w K mg base "_law_copy" 1 ["net"] nR)(C5:Callee P w K mg base "_law_sum" 1 ["p","pairs","word"] (bI 3 vV))(qT:Callee P w K mg base "_law_letter_list" 2 ["found","p","many"] (bI 3 rJ))(Di:Callee P w K mg base "_law_true" 2 ["net","word"] (bI 2 vR))(cI:mg "len"=none)(bO:mg "range"=none)(qa:mg "int"=none):
  bE P w K mg base bL 8 f fd ["net","c"] (bI 2 Aj):=by
 refine F.ok lT (fun vs H Q E h=>h.1) (fun cdv A outer s H vs Q E hr h=>?_)
 obtain⟨nb,ds,Φ,hlive,hds,aI,hF⟩:=gx h
 obtain⟨p,n,cs,c,prs,rfl,hN,hc,hw,vG,q⟩:=hF
 refine⟨_,(@aA _ _ _ _ _ (@fQ _ _ _ _ _ _ (pv 0) (@g7 _ (K) _ _ _ (3) _ rfl rfl (@cg _ _ _ _ _ (aT (i:=2) lT.nd rfl (Or.inl rfl)) (@cg _ _ _ _ _ (aT (i:=3) lT.nd rfl (Or.inl rfl)) (@cg _ _ _ _ _ (aT (i:=4) lT.nd rfl (Or.inl rfl)) gQ (by rfl)) (by rfl)) (by rfl)) (by rfl) (by rfl)) (by rfl) (by rfl) (by rfl)) (@aA _ _ _ _ _ (@aU _ _ (5) _ _ _ _ lT.nd rfl (Or.inl rfl) (@iQ _ _ _ _ _ (@aa _ _ _ _ _ (pv 2) (@aa _ _ _ _ _ (pv 3) (@aa _ _ _ _ _ (@mX _ _ _ _ _ _ _ _ _ (kM K) mP (pv 4) oB (@lK _ _ _ (pv 1))) ao rfl) rfl) rfl)) (by rfl) (by first|exact .inl rfl|exact .inr rfl|assumption)) (@aA _ _ _ _ _ (@aU _ _ (6) _ _ _ _ lT.nd rfl (Or.inl rfl) (@VB _ _ _ _ _ _ _ _ _ _ _ UR (hr.mono (by decide)) (@aa _ _ _ _ _ (@aX _ _ _ _ _ _ _ _ _ _ nX (hr.mono (by decide)) (@aa _ _ _ _ _ (pv 5) ao rfl) (by rfl) (by decide) (by rfl) (by rfl)) ao rfl) (by rfl) (by decide) (by rfl) (by rfl)) (by rfl) (by first|exact .inl rfl|exact .inr rfl|assumption)) (@aA _ _ _ _ _ (@aU _ _ (7) _ _ _ _ lT.nd rfl (Or.inl rfl) (@dm _ _ _ _ _ _ _ _ (gc K) iF rfl cI g8 (@aa _ _ _ _ _ (@OC _ _ _ _ _ _ _ _ _ _ _ MZ (pv 6) (hr.mono (by decide)) (by rfl)) ao rfl) (by decide) (by decide) (by rfl) (by rfl)) (by rfl) (by first|exact .inl rfl|exact .inr rfl|assumption)) (@aA _ _ _ _ _ (@fO _ _ _ _ _ _ _ _ eK rfl (@iz _ _ _ _ _ _ rfl bO (@aa _ _ _ _ _ (pv 7) ao rfl) (by rfl)) (aT (i:=8) lT.nd rfl (Or.inr rfl)) (@aA _ _ _ _ _ (@aU _ _ (9) _ _ _ _ lT.nd rfl (Or.inl rfl) (@Gf _ _ _ _ _ _ _ _ _ _ _ _ _ _ OH (pv 6) (hr.mono (by decide)) (@aa _ _ _ _ _ (fL (dN.of (show eH (aQ vn) ["net","c","p","n","checks","ahead","maker","many","k","word"] _ ["j","k"] [none,some 8]=true by decide+kernel)) (@iz _ _ _ _ _ _ rfl bO (@aa _ _ _ _ _ (pv 7) ao rfl) (by rfl)) (fun _ _ _ _=>⟨(aT (i:=0) (by show List.Nodup (["j","k"]:List Str);decide+kernel) rfl (Or.inl rfl)),iT,(@kq _ _ _ _ _ _ _ _ _ U8 rfl qa Fw (@aa _ _ _ _ _ (@jy _ _ _ _ _ _ _ _ i6 (pv 0) (pv 1) (bN _)) ao rfl) (by decide) (by decide) (by rfl) (by rfl))⟩)) ao rfl) (by rfl) (by rfl) (by rfl)) (by rfl) (by first|exact .inl rfl|exact .inr rfl|assumption)) (@aA _ _ _ _ _ (@eV _ _ _ _ _ _ _ _ (PW.pt (pK (@kB _ _ _ _ (@jn _ (K) _ _ rfl (@aX _ _ _ _ _ _ _ _ _ _ qT (hr.mono (by decide)) (@aa _ _ _ _ _ (pv 9) (@aa _ _ _ _ _ (pv 2) (@aa _ _ _ _ _ (pv 3) ao rfl) rfl) rfl) (by rfl) (by decide) (by rfl) (by rfl)) (fun _=>rfl))) (qI (@kB _ _ _ _ (@jn _ (K) _ _ rfl (@aX _ _ _ _ _ _ _ _ _ _ Di (hr.mono (by decide)) (@aa _ _ _ _ _ (pv 5) (@aa _ _ _ _ _ (pv 9) ao rfl) rfl) (by rfl) (by decide) (by rfl) (by rfl)) (fun _=>rfl)))))) (@aJ _ _ _ (@bA _ _ _ _ jX)) gu) (@aJ _ _ _ (@eV _ _ _ _ _ _ _ _ (@cF _ _ _ _ _ _ _ _ lD (@aX _ _ _ _ _ _ _ _ _ _ C5 (hr.mono (by decide)) (@aa _ _ _ _ _ (pv 2) (@aa _ _ _ _ _ (@aH _ _ _ _ _ _ (bX K) bD (pv 4) (pv 1) (fun _ _=>rfl)) (@aa _ _ _ _ _ (pv 9) ao rfl) rfl) rfl) (by rfl) (by decide) (by rfl) (by rfl)) aq (bN _)) (@aJ _ _ _ (@bA _ _ _ _ jX)) gu)))) (by intro _;rfl)) (@aJ _ _ _ (@bA _ _ _ _ jX))))))),?_⟩
 refine Sv.gv hlive hds aI (ρ:=[.d false _, .d false _, .no, .no, .no, .no, .no, .no, .no, .no]) rfl ?_
 clear aI hds
 have p2:=hN.hp.1
 have cO:=hN.cO
 have hcl:=hN.cl
 have n0:=hN.n0
 have n1:=hN.n1
 have hlt:=(aP.mp hc).1
 have gK:(cs.map br).length=cs.length:=ak ..
 have hat:bH (cs.map br) (c:Int)=some (br prs):=fh (by omega) (by rw[bu,fX,hc];rfl)
 obtain⟨g1,g2,g3⟩:=hN.ok prs (aW hc)
 have lz:gz (cs.map br) none (some (c:Int))=(cs.take c).map br:=by
  rw[Az (by omega) (by rw[gK];omega),fX,lH]
 have nv:=hN.take c
 have hok:∀q∈cs.take c,∀pr∈q,0<=pr.1/\pr.1<n:=fun q hq pr hp=>⟨((nv.ok q hq).2.2 pr hp).1,((nv.ok q hq).2.2 pr hp).2.1⟩
 have aC:∀pr∈prs,0<=pr.1/\pr.1<n:=fun pr hp=>⟨(g3 pr hp).1,(g3 pr hp).2.1⟩
 generalize gW:(jK (ff (uN _ _ _ _ _) (eX 6)) _:TS)=tl
 walk_at "dt"
 rw[lz]
 subst gW
 refine Sv.seq ?_
 refine Sv.make Vt ?_
 refine Av.cons ?_
 refine Ev.xU ?_
 walk_at "dt"
 refine⟨p,n,cs.take c,rfl,by rw[cZ];omega,?_⟩
 walk_at "dt"
 refine⟨rfl,fun x dx=>⟨x,dx,p,n,cs.take c,rfl,rfl,nv,vG,fun sp ru hM=>⟨rfl,?_⟩⟩⟩
 have L0:=hM.cnt
 refine Sv.seq ?_
 refine Sv.asg ?_
 refine Ev.LS ?_
 refine Ev.DJ QF rfl rfl (fP.is rfl) ?_
 refine jZ.nil ?_
 refine⟨rfl,x,dx,_,sp,rfl,rfl,rfl,by omega, .inl rfl,?_⟩
 refine⟨_,rfl,?_⟩
 refine Gv.iD ?_
 have hsm:(sp.map PyData.int).length=sp.length:=ak ..
 rw[hsm]
 have jd:∀k:Nat,((List.range sp.length).map fun j=>if j=k then(1:Int) else 0).length=sp.length:=fun k=>by rw[ak,fk]
 have hun:∀k:Nat,(∀x∈(List.range sp.length).map fun j=>if j=k then(1:Int) else 0,0<=x/\x<p):=fun k x hx=>by
  obtain⟨j,_,rfl⟩:=aN.mp hx
  split<;>omega
 have Cp:∀w:List Int,aR w=lN (w.map some):=fun w=>by show PyData.list _=PyData.list _;rw[fZ];rfl
 refine Sv.seq ?_
 refine Sv.oS ?_
 walk_at "dt"
 refine⟨fun i ρ=>∃(x8 x9:Sl),(∀k<i,p∣aV prs ((i9 p n sp ru ((List.range sp.length).map fun j=>if j=k then 1 else 0)).map some))/\ρ=[.d false (bV p n cs), .d false (.int c), .d true (.int p), .d true (.int n), .d false (.list (cs.map br)), .d false (bV p n (cs.take c)), .cu (fP bw x dx (rO p n sp ru)), .d true (.int (sp.length:Int)),x8,x9],⟨_,_,(fun k hk=>absurd hk (uD _)),rfl⟩,?_,?_⟩
 ·rintro i d ρ ⟨hi,rfl⟩ ⟨x8,x9,hall,rfl⟩
  rw[fX] at hi
  obtain⟨m1,m2,m3⟩:=hM.made p2 (jd i) (hun i)
  refine Gv.iD ?_
  refine Sv.seq ?_
  refine Sv.asg ?_
  refine Ev.DJ LG rfl rfl (fP.is rfl) ?_
  refine jZ.cons ?_
  refine aD.ev (aD.mw (by decide) rfl ?_)
  walk_at "dt"
  refine gS.rel PyData.int true (fun j x=>x=if j=i then 1 else 0) ?_ fun os ie hos=>?_
  ·rintro j d ⟨hj,rfl⟩
   walk_at "dt"
   refine⟨by walk_at "wk",?_⟩
   refine Ev.EK ?_
   walk_at "dt"
   by_cases cj:j=i
   ·subst cj;simp
   ·rw[if_neg cj,if_neg (by simp;omega)]
  have Ex:os=(List.range sp.length).map fun j=>if j=i then(1:Int) else 0:=by
   rw[fX] at ie
   apply kI
   intro j
   by_cases cj:j<os.length
   ·rw[aF cj,hos j _ (aF cj),bu,vg (by omega)]
    rfl
   ·rw[gP (by omega),gP (by rw[jd];omega)]
  subst Ex
  refine jZ.nil ?_
  refine⟨rfl,x,dx,p,n,cs.take c,sp,ru,_,rfl,rfl,hM,p2,cO,⟨n0,n1⟩,jd i,hun i, .inl rfl,?_⟩
  generalize iU:i9 p n sp ru ((List.range sp.length).map fun j=>if j=i then(1:Int) else 0)=wd at m1 m2 m3
  refine Gv.name ?_
  have hwl:=m1.len
  refine Sv.seq ?_
  refine Sv.qY ?_
  refine Tv.or ?_
  walk_at "dt"
  refine Ev.dB vd ?_
  walk_at "dt"
  refine⟨rfl,p,n,wd,rfl,by omega,by omega,m1.rg,cO,?_⟩
  walk_at "dt"
  refine Ev.dB ET ?_
  walk_at "dt"
  refine⟨rfl,p,n,cs.take c,wd,rfl,nv,hwl,m1.rg,m2,?_⟩
  walk_at "dt"
  refine Ev.dB ED ?_
  walk_at "dt"
  refine⟨rfl,p,prs,wd.map some,by show[_,_,aR wd]=_;rw[Cp],by omega,by omega,fun pr hp=>?_,fun y hy=>?_,?_⟩
  ·have h3:=g3 pr hp
   rw[ak]
   exact⟨h3.1,by omega,by unfold Sm;omega⟩
  ·obtain⟨y',hy',e⟩:=aN.mp hy
   cases e
   have:=m1.rg y hy'
   unfold Sm;omega
  walk_at "dt"
  by_cases cz:aV prs (wd.map some)%p=0
  ·walk_at "dt"
   refine⟨_,_,fun k hk=>?_,rfl⟩
   by_cases ck:k=i
   ·subst ck
    rw[iU]
    exact zI cz
   ·exact hall k (by omega)
  ·walk_at "dt"
   exact q
 ·rintro ρ ⟨x8,x9,hall,rfl⟩
  rw[fX] at hall
  obtain⟨w,h1,h2,h3⟩:=hw
  exact absurd (Ru hM p2 hok aC hall h1 h2) h3
def Al:DF:=fun ds Φ=>∃(p n:Int) (cs:List az) (c:Nat) (prs:az),ds=[bV p n cs, .int c]/\cP p n cs/\cs[c]?=some prs/\(∃w,aK p n.toNat w/\VN p (cs.take c) w/\p∣aV prs (w.map some)+1)/\n<=60/\Φ true (.bool true)
theorem TV:dQ Al:=by
 intro ds Φ Ψ hm z
 obtain⟨p,n,cs,c,prs,e,h1,h2,h3,h4,q⟩:=hm
 exact⟨p,n,cs,c,prs,e,h1,h2,h3,h4,z _ _ q⟩
theorem oV:cB ["net","c","p","n","checks","wider","word","found"] ["net","c"] (aQ Dj):=⟨rfl,rfl,rfl,by decide+kernel,rfl,by decide+kernel,by decide+kernel⟩
theorem Ng(F:bT K "_law_shown" "_law_shown" Dj f fd)(S7:Callee P w K mg base "filled" 5 ["net","word"] (bI 2 B5))(R8:Callee P w K mg base "_law_broken" 8 ["net","c"] (bI 2 Aj))(nX:Callee P w K mg base "_law_copy" 1 ["net"] nR)(O6:Callee P w K mg base "_law_fills" 3 ["net","word","found"] (bI 3 Ae))(eY:mg "list"=none):
  bE P w K mg base bL 9 f fd ["net","c"] (bI 2 Al):=by
 refine F.ok oV (fun vs H Q E h=>h.1) (fun cdv A outer s H vs Q E hr h=>?_)
 obtain⟨nb,ds,Φ,hlive,hds,aI,hF⟩:=gx h
 obtain⟨p,n,cs,c,prs,rfl,hN,hc,hw,vG,q⟩:=hF
 refine⟨_,(@aA _ _ _ _ _ (@fQ _ _ _ _ _ _ (pv 0) (@g7 _ (K) _ _ _ (3) _ rfl rfl (@cg _ _ _ _ _ (aT (i:=2) oV.nd rfl (Or.inl rfl)) (@cg _ _ _ _ _ (aT (i:=3) oV.nd rfl (Or.inl rfl)) (@cg _ _ _ _ _ (aT (i:=4) oV.nd rfl (Or.inl rfl)) gQ (by rfl)) (by rfl)) (by rfl)) (by rfl) (by rfl)) (by rfl) (by rfl) (by rfl)) (@aA _ _ _ _ _ (@eV _ _ _ _ _ _ _ _ (@cF _ _ _ _ _ _ _ _ i6 (pv 3) aq (bN _)) (@aJ _ _ _ (@bA _ _ _ _ (@aX _ _ _ _ _ _ _ _ _ _ R8 (hr.mono (by decide)) (@aa _ _ _ _ _ (pv 0) (@aa _ _ _ _ _ (pv 1) ao rfl) rfl) (by rfl) (by decide) (by rfl) (by rfl)))) gu) (@aA _ _ _ _ _ (@aU _ _ (5) _ _ _ _ oV.nd rfl (Or.inl rfl) (@iQ _ _ _ _ _ (@aa _ _ _ _ _ (pv 2) (@aa _ _ _ _ _ (@aG _ _ _ _ _ _ _ _ dg (pv 3) aq) (@aa _ _ _ _ _ (@aG _ _ _ _ _ _ _ _ tP (@mX _ _ _ _ _ _ _ _ _ (kM K) mP (pv 4) oB (@lK _ _ _ (pv 1))) (@gw _ _ _ _ (@aa _ _ _ _ _ (@aG _ _ _ _ _ _ _ _ tP (@aH _ _ _ _ _ _ (bX K) bD (pv 4) (pv 1) (fun _ _=>rfl)) (@gw _ _ _ _ (@aa _ _ _ _ _ (@iQ _ _ _ _ _ (@aa _ _ _ _ _ (pv 3) (@aa _ _ _ _ _ (@aG _ _ _ _ _ _ _ _ kT (pv 2) aq) ao rfl) rfl)) ao rfl))) ao rfl))) ao rfl) rfl) rfl)) (by rfl) (by first|exact .inl rfl|exact .inr rfl|assumption)) (@aA _ _ _ _ _ (@aU _ _ (6) _ _ _ _ oV.nd rfl (Or.inl rfl) (@aG _ _ _ _ _ _ _ _ tP (@aG _ _ _ _ _ _ _ _ nI (@gw _ _ _ _ (@aa _ _ _ _ _ jB ao rfl)) (pv 3)) (@gw _ _ _ _ (@aa _ _ _ _ _ aq ao rfl))) (by rfl) (by first|exact .inl rfl|exact .inr rfl|assumption)) (@aA _ _ _ _ _ (@aU _ _ (7) _ _ _ _ oV.nd rfl (Or.inl rfl) (@aX _ _ _ _ _ _ _ _ _ _ S7 (hr.mono (by decide)) (@aa _ _ _ _ _ (@aX _ _ _ _ _ _ _ _ _ _ nX (hr.mono (by decide)) (@aa _ _ _ _ _ (pv 5) ao rfl) (by rfl) (by decide) (by rfl) (by rfl)) (@aa _ _ _ _ _ (@kq _ _ _ _ _ _ _ _ (pV K) CY rfl eY pe (@aa _ _ _ _ _ (pv 6) ao rfl) (by decide) (by decide) (by rfl) (by rfl)) ao rfl) rfl) (by rfl) (by decide) (by rfl) (by rfl)) (by rfl) (by first|exact .inl rfl|exact .inr rfl|assumption)) (@aJ _ _ _ (@bA _ _ _ _ (@uG _ _ _ _ _ _ _ (@aX _ _ _ _ _ _ _ _ _ _ O6 (hr.mono (by decide)) (@aa _ _ _ _ _ (pv 5) (@aa _ _ _ _ _ (pv 6) (@aa _ _ _ _ _ (pv 7) ao rfl) rfl) rfl) (by rfl) (by decide) (by rfl) (by rfl)) (@xQ _ _ _ _ _ (@jy _ _ _ _ _ _ _ _ i6 (@aH _ _ _ _ _ _ (bK K) bU (pv 7) aq (fun _ _=>rfl)) tW (bN _))))))))))),?_⟩
 refine Sv.gv hlive hds aI (ρ:=[.d false _, .d false _, .no, .no, .no, .no, .no, .no]) rfl ?_
 clear aI hds
 have p2:=hN.hp.1
 have cO:=hN.cO
 have hcl:=hN.cl
 have n0:=hN.n0
 have n1:=hN.n1
 have hlt:=(aP.mp hc).1
 have gK:(cs.map br).length=cs.length:=ak ..
 have hat:bH (cs.map br) (c:Int)=some (br prs):=fh (by omega) (by rw[bu,fX,hc];rfl)
 obtain⟨g1,g2,g3⟩:=hN.ok prs (aW hc)
 have j8:(prs.map pairD).length=prs.length:=ak ..
 have lz:gz (cs.map br) none (some (c:Int))=(cs.take c).map br:=by
  rw[Az (by omega) (by rw[gK];omega),fX,lH]
 have nv:=hN.take c
 have hok:∀q∈cs.take c,∀pr∈q,0<=pr.1/\pr.1<n:=fun q hq pr hp=>⟨((nv.ok q hq).2.2 pr hp).1,((nv.ok q hq).2.2 pr hp).2.1⟩
 have aC:∀pr∈prs,0<=pr.1/\pr.1<n:=fun pr hp=>⟨(g3 pr hp).1,(g3 pr hp).2.1⟩
 obtain⟨w,hw1,Ff,Js⟩:=hw
 walk_at "dt"
 by_cases WV:n=40
 ·walk_at "dt"
  refine Ev.dB NG ?_
  walk_at "dt"
  refine⟨rfl,p,n,cs,c,prs,rfl,hN,hc,⟨w,hw1,Ff,fun z=>?_⟩,vG,?_⟩
  ·obtain⟨a,ha⟩:=Js
   obtain⟨b,hb⟩:=z
   have:=mO (by decide) (show p∣1 from⟨a-b,by rw[kU];omega⟩)
   omega
  ·walk_at "dt"
   exact q
 ·have eW:(cs.take c++[prs++[(n,p-1)]]).map br=(cs.take c).map br++[PyData.list (prs.map pairD++[pairD (n,p-1)])]:=by
   rw[cE]
   show _++[PyData.list ((prs++[(n,p-1)]).map pairD)]=_
   rw[cE]
   rfl
  have MA:(cs.take c).length=c:=by rw[cZ];omega
  rw[if_neg (by simpa using WV)]
  refine Sv.next ?_
  refine Sv.seq ?_
  refine Sv.p6 (fun ρ'=>ρ'=[.d false (bV p n cs), .d false (.int c), .d true (.int p), .d true (.int n), .d false (.list (cs.map br)), .d false (bV p (n+1) (cs.take c++[prs++[(n,p-1)]])), .no, .no]) ?_ ?_
  ·walk_at "dt"
   refine⟨by rw[j8];simp;omega,?_⟩
   walk_at "dt"
   rw[lz]
   refine⟨by rw[ak,MA];simp;omega,?_⟩
   walk_at "dt"
   show _=[_,_,_,_,_,Sl.d false (.tuple [.int p, .int (n+1), .list ((cs.take c++[prs++[(n,p-1)]]).map br)]),_,_]
   rw[eW]
   rfl
  rintro ρ' rfl
  refine Sv.seq ?_
  refine Sv.p6 (fun ρ'=>ρ'=[.d false (bV p n cs), .d false (.int c), .d true (.int p), .d true (.int n), .d false (.list (cs.map br)), .d false (bV p (n+1) (cs.take c++[prs++[(n,p-1)]])), .d true (lN (List.replicate n.toNat none++[some 1])), .no]) ?_ ?_
  ·walk_at "dt"
   refine aD.ev (aD.oU ?_)
   walk_at "dt"
   intro gg
   walk_at "dt"
   refine⟨by rw[fy];simp;omega,?_⟩
   have e:List.replicate n.toNat PyData.none++List.map (fun x:Fd=>x.snd) [(true,PyData.int 1)]=(List.replicate n.toNat (none:Option Int)++[some 1]).map fE:=by
    rw[cE,nL]
    rfl
   rw[e,MI,u5]
   refine Gv.name ?_
   rfl
  rintro ρ' rfl
  have sV:=RG nv (by omega) (by omega) g1 g3
  obtain⟨v,hv⟩:=P8 p2 n0 hok aC hw1 Ff Js
  generalize cs.take c++[prs++[(n,p-1)]]=W at sV hv
  have Yp:=sV.cl
  have hwl:(List.replicate n.toNat (none:Option Int)++[some 1]).length=(n+1).toNat:=by rw[fm,fy];simp;omega
  have iU:∀x,some x∈List.replicate n.toNat (none:Option Int)++[some 1]->0<=x/\x<p:=fun x hx=>by
   rcases fJ.mp hx with z|z
   ·rw[nE] at z;cases z.2
   ·have z:=bF.mp z
    cases z;omega
  generalize List.replicate n.toNat (none:Option Int)++[some 1]=wd at hwl iU hv
  walk_at "dt"
  refine Ev.dB Te ?_
  walk_at "dt"
  refine Ev.xU ?_
  walk_at "dt"
  refine⟨p,n+1,W,rfl,by omega,?_⟩
  walk_at "dt"
  refine⟨rfl,p,n+1,W,wd,rfl,sV,hwl,iU,fun u hu=>?_,fun aE mF=>(Nl sV hwl mF hv).elim⟩
  walk_at "dt"
  refine Ev.dB LN ?_
  walk_at "dt"
  refine⟨rfl,p,n+1,W,wd,_,rfl,sV,hwl,iU, .inl ⟨u,hu,rfl⟩,?_⟩
  walk_at "dt"
  exact⟨true, .ss _,q⟩
def yv:DF:=fun ds Φ=>∃(p n:Int) (cs:List az) (c:Nat) (prs:az) (aE:List Int),ds=[bV p n cs, .int c,aR aE]/\cP p n cs/\cs[c]?=some prs/\aK p c aE/\(∀j<n.toNat,p∣co prs j-bS (cs.take c) aE j)/\Φ true (.bool true)
theorem Rt:dQ yv:=by
 intro ds Φ Ψ hm z
 obtain⟨p,n,cs,c,prs,aE,e,h1,h2,h3,h4,q⟩:=hm
 exact⟨p,n,cs,c,prs,aE,e,h1,h2,h3,h4,z _ _ q⟩
theorem vC:cB ["net","c","found","row","place","factor"] ["net","c","found"] (aQ zV):=⟨rfl,rfl,rfl,by decide+kernel,rfl,by decide+kernel,by decide+kernel⟩
theorem Lu(F:bT K "_law_is_sum" "_law_is_sum" zV f fd)(BS:Callee P w K mg base "_law_combined" 1 ["net","factors"] (bI 2 wX)):
  bE P w K mg base bL 2 f fd ["net","c","found"] (bI 3 yv):=by
 refine F.ok vC (fun vs H Q E h=>h.1) (fun cdv A outer s H vs Q E hr h=>?_)
 obtain⟨nb,ds,Φ,hlive,hds,aI,hF⟩:=gx h
 obtain⟨p,n,cs,c,prs,aE,rfl,hN,hc,mF,hsum,q⟩:=hF
 refine⟨_,(@aA _ _ _ _ _ (@aU _ _ (3) _ _ _ _ vC.nd rfl (Or.inl rfl) (@aX _ _ _ _ _ _ _ _ _ _ BS (hr.mono (by decide)) (@aa _ _ _ _ _ (pv 0) (@aa _ _ _ _ _ (pv 2) ao rfl) rfl) (by rfl) (by decide) (by rfl) (by rfl)) (by rfl) (by first|exact .inl rfl|exact .inr rfl|assumption)) (@aA _ _ _ _ _ (@fO _ _ _ _ _ _ _ _ eK rfl (gf (K:=K) rfl (@aH _ _ _ _ _ _ (bX K) bD (@aH _ _ _ _ _ _ (bK K) bU (pv 0) aq (fun _ _=>rfl)) (pv 1) (fun _ _=>rfl))) (@g7 _ (K) _ _ _ (2) _ rfl rfl (@cg _ _ _ _ _ (aT (i:=4) vC.nd rfl (Or.inl rfl)) (@cg _ _ _ _ _ (aT (i:=5) vC.nd rfl (Or.inl rfl)) gQ (by rfl)) (by rfl)) (by rfl) (by rfl)) (@aJ _ _ _ (@fQ _ _ _ _ _ _ (@aG _ _ _ _ _ _ _ _ fM (@aG _ _ _ _ _ _ _ _ kT (@aH _ _ _ _ _ _ (bX K) bD (pv 3) (pv 4) (fun _ _=>rfl)) (pv 5)) (@aH _ _ _ _ _ _ (bK K) bU (pv 0) aq (fun _ _=>rfl))) (gO (pv 3) (pv 4) set_list) (by rfl) (by rfl) (by rfl))) (by intro _;rfl)) (@aJ _ _ _ (@bA _ _ _ _ (@jy _ _ _ _ _ _ _ _ (HY hr.units) (pv 3) (@aG _ _ _ _ _ _ _ _ nI (@gw _ _ _ _ (@aa _ _ _ _ _ aq ao rfl)) (@aH _ _ _ _ _ _ (bK K) bU (pv 0) aq (fun _ _=>rfl))) (bN _)))))),?_⟩
 refine Sv.gv hlive hds aI (ρ:=[.d false _, .d false _, .d false _, .no, .no, .no]) rfl ?_
 clear aI hds
 have p2:=hN.hp.1
 have cO:=hN.cO
 have hcl:=hN.cl
 have n0:=hN.n0
 have n1:=hN.n1
 have hlt:=(aP.mp hc).1
 have gK:(cs.map br).length=cs.length:=ak ..
 have hat:bH (cs.map br) (c:Int)=some (br prs):=fh (by omega) (by rw[bu,fX,hc];rfl)
 obtain⟨g1,g2,g3⟩:=hN.ok prs (aW hc)
 have j8:(prs.map pairD).length=prs.length:=ak ..
 have hfl:=mF.len
 have hco:∀i,co prs i=co (prs.take prs.length) i:=fun i=>by rw[eE]
 refine Sv.seq ?_
 refine Sv.kF (gb.R5 (gb.dB Kw ?_))
 walk_at "dt"
 refine⟨rfl,p,n,cs,aE,rfl,hN,by omega,mF.rg,fun r hr ux=>⟨rfl,_,rfl,?_⟩⟩
 intro A3
 refine Sv.seq ?_
 refine Sv.forL ?_
 walk_at "dt"
 refine fun v=>⟨fun i ρ=>∃(r':List Int) (g:Bool) (x4 x5:Sl),aK p n.toNat r'/\(∀j<n.toNat,p∣gI r' j-(gI r j-co (prs.take i) j))/\ρ=[.d false (bV p n cs), .d false (.int c), .d false (aR aE), .own A3 g (r'.map .int),x4,x5],⟨r,_,_,_,hr,fun j _=>⟨0,by simp[co]⟩,rfl⟩,?_,?_⟩
 ·rintro i d ρ hd ⟨r',g,x4,x5,hr',hs',rfl⟩
  obtain⟨pr,aC,rfl⟩:=fq hd
  obtain⟨a0,a1,a2,a3⟩:=g3 pr (aW aC)
  have hrl:=hr'.len
  have vL:bH (r'.map PyData.int) pr.1=some (.int (gI r' pr.1.toNat)):=fh a0 (by rw[bu,hr'.at (by omega)];rfl)
  walk_at "dt"
  refine⟨_,_,rfl,qM a0 (by rw[ak];omega),?_⟩
  rw[<-jL]
  refine⟨_,_,_,_,hr'.put (eG _ (by omega)) (e7 _ (by omega)),fun j hj=>?_,rfl⟩
  rw[take_snoc aC,Kq,jo (by omega)]
  obtain⟨t,ht⟩:=hs' j hj
  by_cases cj:j=pr.1.toNat
  ·subst cj
   rw[if_pos rfl,if_pos rfl,iC]
   generalize (gI r' pr.1.toNat-pr.2)/p=dd
   exact⟨t-dd,by grind⟩
  ·rw[if_neg cj,if_neg (fun z=>cj z.symm),jg]
   exact⟨t,ht⟩
 ·rintro ρ ⟨r',g,x4,x5,hr',hs',rfl⟩
  rw[j8] at hs'
  have e0:r'=List.replicate n.toNat 0:=by
   apply nJ
   ·rw[hr'.len,fy]
   ·intro j h1 h2
    have hj:j<n.toNat:=by rw[hr'.len] at h1;exact h1
    obtain⟨t,ht⟩:=hs' j hj
    obtain⟨u,hu⟩:=hsum j hj
    obtain⟨z,hz⟩:=ux j hj
    rw[eE] at ht
    have ec:bS (cs.take c) aE j=bS cs aE j:=by rw[<-hfl];exact Dn (by omega)
    have hb:=hr'.g (i:=j) (by omega)
    have h0:gI r' j=0:=Ii ⟨t+z-u,by grind⟩ hb.1 hb.2
    rw[List.getElem_replicate,<-h0]
    unfold gI
    rw[bf,aF h1]
    rfl
  subst e0
  refine Sv.kZ 3 rfl ?_
  walk_at "dt"
  refine aD.ev (aD.oU ?_)
  walk_at "dt"
  intro g2
  have hz:List.replicate n.toNat (PyData.int 0)=(List.replicate n.toNat (0:Int)).map PyData.int:=by rw[nL]
  rw[hz]
  refine⟨shaped_ints _,shaped_ints _,?_⟩
  rw[UD,decide_eq_true rfl]
  exact q
theorem jk:cB ["script","bag","large","p","n","many","net","asked","single","c","handed","found"] ["script"] (aQ l7):=⟨rfl,rfl,rfl,by decide+kernel,rfl,by decide+kernel,by decide+kernel⟩
theorem W9(F:bT K "law" "law" l7 f fd)(Od:Callee P w K mg base "_law_bag" 1 ["script"] (HX K))(Ow:Callee P w K mg base "_law_prime" 3 ["bag"] (iK 1 BU))(ez:Callee P w K mg base "_law_draw" 2 ["bag","many"] kY)(Mp:Callee P w K mg base "_law_ranked" 5 ["bag","p","n","many"] (iK 4 xY))(nX:Callee P w K mg base "_law_copy" 1 ["net"] nR)(RM:Callee P w K mg base "comes_of" 6 ["net","c"] (bI 2 zJ))(VF:Callee P w K mg base "_law_shown" 9 ["net","c"] (bI 2 Al))(qT:Callee P w K mg base "_law_letter_list" 2 ["found","p","many"] (bI 3 rJ))(Rl:Callee P w K mg base "_law_is_sum" 2 ["net","c","found"] (bI 3 yv))(eY:mg "list"=none)(bO:mg "range"=none)(zA:mg "min"=none)(cI:mg "len"=none):
  bE P w K mg base bL 10 f fd ["script"] (vI K):=by
 refine F.ok jk (fun vs H Q E h=>?_) (fun cdv A outer s H vs Q E hr h=>?_)
 ·obtain⟨a,ns,rfl,hS,hl,q⟩:=h
  rfl
 obtain⟨a,ns,rfl,hS,hl,q⟩:=h
 refine⟨_,(@aA _ _ _ _ _ (@aU _ _ (1) _ _ _ _ jk.nd rfl (Or.inl rfl) (@aX _ _ _ _ _ _ _ _ _ _ Od (hr.mono (by decide)) (@aa _ _ _ _ _ (pv 0) ao rfl) (by rfl) (by decide) (by rfl) (by rfl)) (by rfl) (by first|exact .inl rfl|exact .inr rfl|assumption)) (@aA _ _ _ _ _ (@aU _ _ (2) _ _ _ _ jk.nd rfl (Or.inl rfl) (@jy _ _ _ _ _ _ _ _ i6 (@aX _ _ _ _ _ _ _ _ _ _ ez (hr.mono (by decide)) (@aa _ _ _ _ _ (pv 1) (@aa _ _ _ _ _ aq ao rfl) rfl) (by rfl) (by decide) (by rfl) (by rfl)) aq (bN _)) (by rfl) (by first|exact .inl rfl|exact .inr rfl|assumption)) (@aA _ _ _ _ _ (@aU _ _ (3) _ _ _ _ jk.nd rfl (Or.inl rfl) (@aX _ _ _ _ _ _ _ _ _ _ Ow (hr.mono (by decide)) (@aa _ _ _ _ _ (pv 1) ao rfl) (by rfl) (by decide) (by rfl) (by rfl)) (by rfl) (by first|exact .inl rfl|exact .inr rfl|assumption)) (@aA _ _ _ _ _ (@aU _ _ (4) _ _ _ _ jk.nd rfl (Or.inl rfl) (@aG _ _ _ _ _ _ _ _ dg aq (@aX _ _ _ _ _ _ _ _ _ _ ez (hr.mono (by decide)) (@aa _ _ _ _ _ (pv 1) (@aa _ _ _ _ _ (@um _ _ _ _ _ _ _ _ (@jn _ (K) _ _ rfl (pv 2) (fun _=>rfl)) aq aq) ao rfl) rfl) (by rfl) (by decide) (by rfl) (by rfl))) (by rfl) (by first|exact .inl rfl|exact .inr rfl|assumption)) (@aA _ _ _ _ _ (@aU _ _ (5) _ _ _ _ jk.nd rfl (Or.inl rfl) (@aX _ _ _ _ _ _ _ _ _ _ ez (hr.mono (by decide)) (@aa _ _ _ _ _ (pv 1) (@aa _ _ _ _ _ (@aG _ _ _ _ _ _ _ _ dg (@dm _ _ _ _ _ _ _ _ _ (L1 rfl) rfl zA PyProof.Rows.boot_min (@aa _ _ _ _ _ (pv 4) (@aa _ _ _ _ _ aq ao rfl) rfl) (by decide) (by decide) (by rfl) (by rfl)) aq) ao rfl) rfl) (by rfl) (by decide) (by rfl) (by rfl)) (by rfl) (by first|exact .inl rfl|exact .inr rfl|assumption)) (@aA _ _ _ _ _ (@aU _ _ (6) _ _ _ _ jk.nd rfl (Or.inl rfl) (@aX _ _ _ _ _ _ _ _ _ _ Mp (hr.mono (by decide)) (@aa _ _ _ _ _ (pv 1) (@aa _ _ _ _ _ (pv 3) (@aa _ _ _ _ _ (pv 4) (@aa _ _ _ _ _ (pv 5) ao rfl) rfl) rfl) rfl) (by rfl) (by decide) (by rfl) (by rfl)) (by rfl) (by first|exact .inl rfl|exact .inr rfl|assumption)) (@aA _ _ _ _ _ (@aU _ _ (7) _ _ _ _ jk.nd rfl (Or.inl rfl) (@kq _ _ _ _ _ _ _ _ _ (Du rfl) rfl eY pe (@aa _ _ _ _ _ (@kq _ _ _ _ _ _ _ _ _ Bc rfl bO Ci (@aa _ _ _ _ _ (@dm _ _ _ _ _ _ _ _ (gc K) iF rfl cI g8 (@aa _ _ _ _ _ (@aH _ _ _ _ _ _ (bK K) bU (pv 6) aq (fun _ _=>rfl)) ao rfl) (by decide) (by decide) (by rfl) (by rfl)) ao rfl) (by decide) (by decide) (by rfl) (by rfl)) ao rfl) (by decide) (by decide) (by rfl) (by rfl)) (by rfl) (by first|exact .inl rfl|exact .inr rfl|assumption)) (@aA _ _ _ _ _ (@Et _ _ _ _ _ _ eK (PW.pt (uW (@jn _ (K) _ _ rfl (pv 2) (fun _=>rfl)) (xP (@cF _ _ _ _ _ _ _ _ zQ (@dm _ _ _ _ _ _ _ _ (gc K) iF rfl cI g8 (@aa _ _ _ _ _ (pv 7) ao rfl) (by decide) (by decide) (by rfl) (by rfl)) aq (bN _))))) (@aJ _ _ _ (@pD _ _ _ _ (p9 oJ BV yb Cs (pv 7) (@aa _ _ _ _ _ (@aX _ _ _ _ _ _ _ _ _ _ ez (hr.mono (by decide)) (@aa _ _ _ _ _ (pv 1) (@aa _ _ _ _ _ (@dm _ _ _ _ _ _ _ _ (gc K) iF rfl cI g8 (@aa _ _ _ _ _ (pv 7) ao rfl) (by decide) (by decide) (by rfl) (by rfl)) ao rfl) rfl) (by rfl) (by decide) (by rfl) (by rfl)) ao rfl)) (by rfl)))) (@aA _ _ _ _ _ (@aU _ _ (8) _ _ _ _ jk.nd rfl (Or.inl rfl) aq (by rfl) (by first|exact .inl rfl|exact .inr rfl|assumption)) (@aA _ _ _ _ _ (@fO _ _ _ _ _ _ _ _ eK rfl (gf (K:=K) rfl (pv 7)) (aT (i:=9) jk.nd rfl (Or.inl rfl)) (@aA _ _ _ _ _ (@aU _ _ (10) _ _ _ _ jk.nd rfl (Or.inl rfl) (@aX _ _ _ _ _ _ _ _ _ _ nX (hr.mono (by decide)) (@aa _ _ _ _ _ (pv 6) ao rfl) (by rfl) (by decide) (by rfl) (by rfl)) (by rfl) (by first|exact .inl rfl|exact .inr rfl|assumption)) (@aA _ _ _ _ _ (@aU _ _ (11) _ _ _ _ jk.nd rfl (Or.inl rfl) (@aX _ _ _ _ _ _ _ _ _ _ RM (hr.mono (by decide)) (@aa _ _ _ _ _ (pv 10) (@aa _ _ _ _ _ (pv 9) ao rfl) rfl) (by rfl) (by decide) (by rfl) (by rfl)) (by rfl) (by first|exact .inl rfl|exact .inr rfl|assumption)) (@aA _ _ _ _ _ (@eV _ _ _ _ _ _ _ _ (@cF _ _ _ _ _ _ _ _ w9 (pv 11) jB (bN _)) (@aA _ _ _ _ _ (@aU _ _ (8) _ _ _ _ jk.nd rfl (Or.inl rfl) (@aG _ _ _ _ _ _ _ _ dg (pv 8) aq) (by rfl) (by first|exact .inl rfl|exact .inr rfl|assumption)) (@aJ _ _ _ (@eV _ _ _ _ _ _ _ _ (@kB _ _ _ _ (@jn _ (K) _ _ rfl (@aX _ _ _ _ _ _ _ _ _ _ VF (hr.mono (by decide)) (@aa _ _ _ _ _ (pv 6) (@aa _ _ _ _ _ (pv 9) ao rfl) rfl) (by rfl) (by decide) (by rfl) (by rfl)) (fun _=>rfl))) (@aJ _ _ _ (@bA _ _ _ _ jX)) gu))) (@aJ _ _ _ (@eV _ _ _ _ _ _ _ _ (PW.pt (pK (@kB _ _ _ _ (@jn _ (K) _ _ rfl (@aX _ _ _ _ _ _ _ _ _ _ qT (hr.mono (by decide)) (@aa _ _ _ _ _ (pv 11) (@aa _ _ _ _ _ (pv 3) (@aa _ _ _ _ _ (pv 9) ao rfl) rfl) rfl) (by rfl) (by decide) (by rfl) (by rfl)) (fun _=>rfl))) (qI (@kB _ _ _ _ (@jn _ (K) _ _ rfl (@aX _ _ _ _ _ _ _ _ _ _ Rl (hr.mono (by decide)) (@aa _ _ _ _ _ (pv 6) (@aa _ _ _ _ _ (pv 9) (@aa _ _ _ _ _ (pv 11) ao rfl) rfl) rfl) (by rfl) (by decide) (by rfl) (by rfl)) (fun _=>rfl)))))) (@aJ _ _ _ (@bA _ _ _ _ jX)) (@aJ _ _ _ (@pD _ _ _ _ (zT oJ PySem.F.slot_list_clear PySem.F.type_list_clear Wf (pv 11)) (by rfl)))))) (@aJ _ _ _ (@eV _ _ _ _ _ _ _ _ (@cF _ _ _ _ _ _ _ _ (xX hr.units) (pv 10) (pv 6) (bN _)) (@aJ _ _ _ (@bA _ _ _ _ jX)) gu))))) (by intro _;rfl)) (@aJ _ _ _ (@bA _ _ _ _ (@Rx _ _ _ _ _ _ _ (@jy _ _ _ _ _ _ _ _ wR (@dm _ _ _ _ _ _ _ _ (gc K) iF rfl cI g8 (@aa _ _ _ _ _ (pv 7) ao rfl) (by decide) (by decide) (by rfl) (by rfl)) (@dm _ _ _ _ _ _ _ _ (gc K) iF rfl cI g8 (@aa _ _ _ _ _ (@aH _ _ _ _ _ _ (bK K) bU (pv 6) aq (fun _ _=>rfl)) ao rfl) (by decide) (by decide) (by rfl) (by rfl)) (bN _)) (@xQ _ _ _ _ _ (@jy _ _ _ _ _ _ _ _ i6 (pv 8) (pv 5) (bN _)))))))))))))))),?_⟩
 walk_at "st"
 refine⟨a,ns,rfl,hS,hl,fun b l H1 s1 f1 B1=>?_⟩
 have Bu:=s1.seq hS
 have key:∀(t:TS) (D:Ends),(∀H,D.rt (.bl true) H)->Sv (Ef b l H1) [.raw (.ref a), .ay, .no, .no, .no, .no, .no, .no, .no, .no, .no, .no] t {nx:=fun _=>False,rt:=fun _ d=>d= .bool true}->t D [some (.ref a),some (.ref b),none,none,none,none,none,none,none,none,none,none] H1:=fun t D d2 h=>h _ _ _ D (L8 (m:=10) B1) (Nq d2)
 refine R.Je ?_
 dsimp only
 refine key _ _ (fun H=>?_) ?_
 ·exact q _
 walk_at "dt"
 intro lg lg0 lg1
 walk_at "dt"
 refine Ev.qy Oh rfl ?_
 walk_at "dt"
 refine⟨rfl,fun p hp gG f=>?_⟩
 have p2:=hp.1
 refine Gv.iD ?_
 refine Sv.seq ?_
 refine Sv.p6 (fun ρ'=>∃n:Int,1<=n/\n<=40/\ρ'=[.raw (.ref a), .ay, .d true (.bool (decide (lg=5))), .d true (.int p), .d true (.int n), .no, .no, .no, .no, .no, .no, .no]) ?_ ?_
 ·walk_at "dt"
  by_cases c:lg=5
  ·rw[if_pos (decide_eq_true c)]
   walk_at "dt"
   intro r r0 r1
   walk_at "dt"
   exact⟨1+r,by omega,by omega,rfl⟩
  ·rw[if_neg (by simpa using c)]
   walk_at "dt"
   intro r r0 r1
   walk_at "dt"
   exact⟨1+r,by omega,by omega,rfl⟩
 rintro ρ' ⟨n,n0,n1,rfl⟩
 walk_at "dt"
 intro many m0 m1
 have m2:many<=n:=by split at m1<;>omega
 clear m1
 refine Gv.iD ?_
 refine Sv.seq ?_
 refine Sv.asg ?_
 refine Ev.qy UC rfl ?_
 walk_at "dt"
 refine⟨rfl,p,n,many,rfl,hp,gG,n0,by omega,m0,m2,fun f6 cs hcl hcs mD=>?_⟩
 have hN:cP p n cs:=HA hp gG n0 (by omega) (by omega) hcs
 refine Gv.rL ?_
 have gK:(cs.map br).length=cs.length:=ak ..
 refine Sv.seq ?_
 refine Sv.kF (aD.Dq ?_)
 walk_at "dt"
 rw[gK]
 intro A7
 refine Sv.seq ?_
 refine Sv.p6 (fun ρ=>∃(L:List Nat),(∀x∈L,x<cs.length)/\L.length<=cs.length/\(L.length=cs.length->L=List.range cs.length)/\ρ=[.raw (.ref a), .ay, .d true (.bool (decide (lg=5))), .d true (.int p), .d true (.int n), .d true (.int many), .d false (bV p n cs), .own A7 true (L.map fun(x:Nat)=>PyData.int (x:Int)), .no, .no, .no, .no]) ?_ ?_
 ·refine Sv.Fp (fun ρ=>∃(L:List Nat),(∀x∈L,x<cs.length)/\L.length<=cs.length/\(L.length=cs.length->L=List.range cs.length)/\ρ=[.raw (.ref a), .ay, .d true (.bool (decide (lg=5))), .d true (.int p), .d true (.int n), .d true (.int many), .d false (bV p n cs), .own A7 true (L.map fun(x:Nat)=>PyData.int (x:Int)), .no, .no, .no, .no]) (fun(ρ:Rh)=>match ρ[7]? with|some (Sl.own _ _ ds)=>ds.length|_=>0) ⟨List.range cs.length,fun x hx=>dS.mp hx,by rw[fk];exact bh _,fun _=>rfl,?_⟩ ?_
  ·rw[show List.map PyData.int (List.map (fun(i:Nat)=>(0:Int)+(i:Int)) (List.range (cs.length:Int).toNat))=(List.range cs.length).map fun(x:Nat)=>PyData.int (x:Int) by
    rw[fZ,fX]
    exact nk fun i _=>by show PyData.int (0+(i:Int))=_;rw[mV]]
   rfl
  rintro ρ' ⟨L,hL,vX,hLr,rfl⟩
  have wj:(L.map fun(x:Nat)=>PyData.int (x:Int)).length=L.length:=ak ..
  walk_at "dt"
  by_cases c:lg=5
  ·rw[if_pos (decide_eq_true c)]
   walk_at "dt"
   by_cases c2:(2:Int)<(L.map fun(x:Nat)=>PyData.int (x:Int)).length
   ·rw[if_pos (decide_eq_true c2)]
    refine Sv.JQ rfl ?_
    walk_at "dt"
    intro r r0 r1
    refine⟨r.toNat,by rw[zy r0],by omega,by omega,?_⟩
    rw[show(List.map (fun(x:Nat)=>PyData.int (x:Int)) L).eraseIdx r.toNat=List.map (fun(x:Nat)=>PyData.int (x:Int)) (L.eraseIdx r.toNat) by rw[qk,qk,cE,lH,pR]]
    have hel:(L.eraseIdx r.toNat).length=L.length-1:=vM (by omega)
    refine⟨⟨L.eraseIdx r.toNat,fun x hx=>hL x (ue hx),by omega,fun z=>by omega,rfl⟩,?_⟩
    show(List.map _ (L.eraseIdx r.toNat)).length<(List.map _ L).length
    rw[ak,ak,hel]
    omega
   ·rw[if_neg (by simpa using c2)]
    exact⟨L,hL,vX,hLr,rfl⟩
  ·rw[if_neg (by simpa using c)]
   exact⟨L,hL,vX,hLr,rfl⟩
 rintro ρ' ⟨L,hL,vX,hLr,rfl⟩
 have wj:(L.map fun(x:Nat)=>PyData.int (x:Int)).length=L.length:=ak ..
 refine Sv.kZ 7 rfl ?_
 walk_at "dt"
 refine Sv.forL ?_
 walk_at "dt"
 have EF:∀q∈cs,∀pr∈q,0<=pr.1/\pr.1<n:=fun q hq pr hp=>⟨((hN.ok q hq).2.2 pr hp).1,((hN.ok q hq).2.2 pr hp).2.1⟩
 refine fun v=>⟨fun i ρ=>∃(sg:Nat) (x9 nj mz:Sl),(L.length=cs.length->Rk p n.toNat (VN p (cs.take i)) sg)/\sg<=i/\ρ=[.raw (.ref a), .ay, .d true (.bool (decide (lg=5))), .d true (.int p), .d true (.int n), .d true (.int many), .d false (bV p n cs), .d true (.list (L.map fun(x:Nat)=>PyData.int (x:Int))), .d true (.int (sg:Int)),x9,nj,mz],⟨0,_,_,_,fun _=>?_,bh _,rfl⟩,?_,?_⟩
 ·exact(Rk.all (p:=p) (n:=n.toNat)).congr (by omega) fun w _=>⟨fun _ _ h=>by simp at h,fun _=>trivial⟩
 ·rintro i d ρ hd ⟨sg,x9,nj,mz,hsg,hsi,rfl⟩
  obtain⟨c,ur,rfl⟩:=HC hd
  have hil:=(aP.mp ur).1
  have QZ:=hL c (aW ur)
  have p7:L.length=cs.length->c=i:=fun z=>by
   rw[hLr z,vg (by omega)] at ur
   exact(fN ur).symm
  have cW:cs[c]?=some cs[c]:=aF QZ
  generalize cs[c]=prs at cW
  have aC:=EF prs (aW cW)
  have Im:∀q∈cs.take c,∀pr∈q,0<=pr.1/\pr.1<n:=fun q hq=>EF q (nh hq)
  have jH:∀w,aK p n.toNat w->aV prs (w.map some)=aj (gI w) ((List.range n.toNat).map (co prs)):=fun w hw=>by
   rw[iw hw.len prs aC]
   exact(pT (gI w) prs fun pr hp=>by have:=aC pr hp;omega).symm
  have KG:∀w,aK p n.toNat w->((VN p (cs.take c) w/\p∣aj (gI w) ((List.range n.toNat).map (co prs)))↔VN p (cs.take (c+1)) w):=fun w hw=>by
   rw[take_snoc cW,<-jH w hw]
   constructor
   ·rintro⟨h1,h2⟩ s hs
    rcases fJ.mp hs with z|z
    ·exact h1 s z
    ·rw[bF.mp z];exact h2
   ·intro h
    exact⟨fun s hs=>h s (kD _ hs),h prs (iM _ (bF.mpr rfl))⟩
  refine Gv.iD ?_
  refine Sv.seq ?_
  refine Sv.asg ?_
  refine Ev.xU ?_
  walk_at "dt"
  refine⟨p,n,cs,rfl,by omega,?_⟩
  refine Gv.rL ?_
  refine Sv.seq ?_
  refine Sv.NZ (gb.dB XD ?_)
  walk_at "dt"
  refine⟨rfl,p,n,cs,c,prs,rfl,hN,cW,fun w hw hV vY=>⟨rfl, .inr ⟨rfl,?_⟩⟩,fun aE mF hsum=>⟨rfl, .inl ⟨_,rfl,fun Yu=>?_⟩⟩⟩
  ·walk_at "dt"
   refine Ev.dB TV ?_
   walk_at "dt"
   refine⟨rfl,p,n,cs,c,prs,rfl,hN,cW,⟨w,hw,hV,vY⟩,by omega,?_⟩
   walk_at "dt"
   refine⟨pU p n cs,pU p n cs,_,rfl,?_⟩
   rw[eqv_refl _ (.inl (pU p n cs)),if_neg (by decide)]
   walk_at "dt"
   refine⟨sg+1,_,_,_,fun z=>?_,by omega,by rw[show((sg+1:Nat):Int)=(sg:Int)+1 by omega];rfl⟩
   have p7:=p7 z
   subst p7
   refine((hsg z).step hp (VN.ln Im) hw hV (r:=(List.range n.toNat).map (co prs)) ?_).congr (by omega) KG
   rw[<-jH w hw]
   intro hz
   obtain⟨s,hs⟩:=hz
   obtain⟨t,ht⟩:=vY
   have:=mO (by decide) (show p∣1 from⟨t-s,by rw[kU];omega⟩)
   omega
  ·have hfl:=mF.len
   refine Sv.seq ?_
   refine Sv.qY ?_
   refine Tv.lend 11 rfl ?_
   walk_at "dt"
   refine Ev.lend 11 rfl ?_
   refine Ev.dB vd ?_
   walk_at "dt"
   refine⟨rfl,p,(c:Int),aE,rfl,by omega,by omega,mF.rg,gG,?_⟩
   refine⟨rfl,?_⟩
   walk_at "dt"
   refine Ev.lend 11 rfl ?_
   refine Ev.dB Rt ?_
   walk_at "dt"
   refine⟨rfl,p,n,cs,c,prs,aE,rfl,hN,cW,mF,hsum,?_⟩
   refine⟨rfl,?_⟩
   walk_at "dt"
   refine Sv.clear rfl ?_
   walk_at "dt"
   refine⟨pU p n cs,pU p n cs,_,rfl,?_⟩
   rw[eqv_refl _ (.inl (pU p n cs)),if_neg (by decide)]
   walk_at "dt"
   refine⟨sg,_,_,_,fun z=>?_,by omega,rfl⟩
   have p7:=p7 z
   subst p7
   refine((hsg z).skip (by omega) (r:=(List.range n.toNat).map (co prs)) fun w hw hV=>?_).congr (by omega) KG
   rw[<-jH w hw]
   exact WW hw.len Im aC hsum hV
 ·rintro ρ ⟨sg,x9,nj,mz,hsg,hsi,rfl⟩
  rw[wj] at hsg hsi
  walk_at "dt"
  by_cases cl:L.length=cs.length
  ·rw[if_neg (by simp;omega)]
   have h1:=hsg cl
   rw[cl,eE] at h1
   have h2:=h1.uniq mD p2
   have e:((sg:Nat):Int)=many:=by omega
   rw[e]
   walk_at "dt"
   first|rfl|(show PyData.bool (decide (many=many))=_;rw[decide_eq_true rfl])
  ·rw[if_pos (by simp;omega)]
end
local macro_rules| `(tactic|walk_at "bn")=> `(tactic|(intro _ _ _ _ _ _ us hl;first|(obtain⟨_,h⟩:=KZ hl;subst h;rfl)|(obtain⟨_,_,h⟩:=ln2 hl;subst h;rfl)|(obtain⟨_,_,_,h⟩:=Ge hl;subst h;rfl)|(obtain⟨_,_,_,_,h⟩:=SS hl;subst h;rfl)|(obtain⟨_,_,_,_,_,h⟩:=ln5 hl;subst h;rfl)|(obtain⟨_,_,_,_,_,_,h⟩:=ln6 hl;subst h;rfl)|(obtain⟨_,_,_,_,_,_,_,h⟩:=ln7 hl;subst h;rfl)))
theorem all_mk{l:PySem.W.OpenLaw}{w:World}{K:PySem.W.Frag}{h:Heap}{mg:Str->Option Value}{fa:Addr}{f0 f1 f2 f3 f4 f5 f6 f7 f8 f9 N6 L3 NL RT M3 OS Xf U3 V3 RB RD T8 Vk Rn OF LF T3 OZ TH NS SN WB f32 rS sU sf sA:Addr}(X:K.In h)(G:h.Ns mainGlobals mg)(LZ:mg "law"=some (.ref fa))
  {WD HH:Option Addr} {Ur:Array (Option Value)} {V4 Fz Hi Jj yI HQ:Value} {Ou LJ:Option Addr} {PZ:Array (Option Value)} {VO Sj Se Nt E7 QB:Value} {P4 Si:Option Addr} {SQ:Array (Option Value)} {XA W6 MW Nm JH Mf:Value} {S3 V9:Option Addr} {Oc:Array (Option Value)} {T6 Vx UL Ud Gh RV:Value} {LP Xj:Option Addr} {Nh:Array (Option Value)} {Su QK Of Lv Iw OV:Value}
  {bw:Addr} (Df:PySem.W.nsIn K mainGlobals "Maker"=some (some (.ref bw))) (za:PySem.W.plainGet K bw Str.empty=true) (yi:PySem.W.hasDictIn K bw=true) (zW:PySem.W.plainOver K bw=true) (Ao:PySem.W.findIn K (.ref bw) "__setattr__"=some (some (.builtin "object.__setattr__"))) (B3:PySem.W.makesIn K bw=true) (z5:PySem.W.keepIn K (.ref bw)=true)
  (l8:PySem.W.findIn K (.ref bw) "p"=some none)
  (nB:PySem.W.findIn K (.ref bw) "n"=some none)
  (ja:PySem.W.findIn K (.ref bw) "spots"=some none)
  (mC:PySem.W.findIn K (.ref bw) "rules"=some none)
  (d0:aZ K "inverse" "inverse" DM f0)
  (d1:aZ K "total" "total" yo f1)
  (d2:aZ K "lost_of" "lost_of" wI f2)
  (d3:aZ K "rows_of" "rows_of" zN f3)
  (d4:aZ K "swept" "swept" Cw f4)
  (d5:aZ K "first_with" "first_with" D7 f5)
  (d6:aZ K "cleared" "cleared" uH f6)
  (d7:aZ K "times" "times" vN f7)
  (d8:aZ K "less" "less" uT f8)
  (d9:aZ K "reached_by" "reached_by" BY f9)
  (sQ:aZ K "filled" "filled" wo N6)
  (AV:aZ K "swept_all" "swept_all" Cj L3)
  (zF:aZ K "comes_of" "comes_of" u9 NL)
  (Co:aZ K "_law_bag" "_law_bag" xJ RT)
  (Dg:aZ K "_law_stirred" "_law_stirred" CA M3)
  (BJ:aZ K "_law_draw" "_law_draw" Eo OS)
  (yQ:aZ K "_law_prime_from" "_law_prime_from" uz Xf)
  (CC:aZ K "_law_prime" "_law_prime" AW U3)
  (zK:aZ K "_law_sum" "_law_sum" uC V3)
  (A0:aZ K "_law_copy" "_law_copy" wK RB)
  (zu:aZ K "_law_whole" "_law_whole" Bj RD)
  (An:aZ K "_law_summed" "_law_summed" xj T8)
  (Ca:aZ K "_law_more" "_law_more" Bd Vk)
  (Bq:aZ K "_law_row" "_law_row" BC Rn)
  (z9:aZ K "_law_ranked" "_law_ranked" qP OF)
  (Es:aZ K "_law_letter_list" "_law_letter_list" xC LF)
  (CN:aZ K "_law_combined" "_law_combined" Am T3)
  (Dl:aZ K "_law_true" "_law_true" wm OZ)
  (zO:aZ K "_law_fills" "_law_fills" pI TH)
  (EC:aZ K "_law_broken" "_law_broken" vn NS)
  (A8:aZ K "_law_shown" "_law_shown" Dj SN)
  (AR:aZ K "_law_is_sum" "_law_is_sum" zV WB)
  (a32:PySem.W.nsIn K mainGlobals "law"=some (some (.ref f32))) (BO:K.lookup f32=some ⟨V4,WD, .func (PySem.W.fnOf "law" "law" (kh l7) (jN l7) (aQ l7) .none Fz Hi Jj HH yI HQ),Ur⟩) (xV:PySem.W.codeIn K yI "law"=true) (CM:PySem.W.keepIn K (.ref f32)=true)
  (Bs:PySem.W.findIn K (.ref bw) "__init__"=some (some (.ref rS))) (yH:PySem.W.isFn K (.ref rS)=true) (AH:K.lookup rS=some ⟨VO,Ou, .func (PySem.W.fnOf "__init__" "Maker.__init__" (kh lF) (jN lF) (aQ lF) .none Sj Se Nt LJ E7 QB),PZ⟩) (Au:PySem.W.codeIn K E7 "Maker.__init__"=true) (yY:PySem.W.keepIn K (.ref rS)=true)
  (Aa:PySem.W.findIn K (.ref bw) "at_spots"=some (some (.ref sU))) (DY:PySem.W.isFn K (.ref sU)=true) (AZ:K.lookup sU=some ⟨XA,P4, .func (PySem.W.fnOf "at_spots" "Maker.at_spots" (kh o8) (jN o8) (aQ o8) .none W6 MW Nm Si JH Mf),SQ⟩) (yd:PySem.W.codeIn K JH "Maker.at_spots"=true) (vB:PySem.W.keepIn K (.ref sU)=true)
  (El:PySem.W.findIn K (.ref bw) "free"=some (some (.ref sf))) (yt:PySem.W.isFn K (.ref sf)=true) (DW:K.lookup sf=some ⟨T6,S3, .func (PySem.W.fnOf "free" "Maker.free" (kh pG) (jN pG) (aQ pG) .none Vx UL Ud V9 Gh RV),Oc⟩) (zb:PySem.W.codeIn K Gh "Maker.free"=true) (wM:PySem.W.keepIn K (.ref sf)=true)
  (Cc:PySem.W.findIn K (.ref bw) "made"=some (some (.ref sA))) (yG:PySem.W.isFn K (.ref sA)=true) (BL:K.lookup sA=some ⟨Su,LP, .func (PySem.W.fnOf "made" "Maker.made" (kh pW) (jN pW) (aQ pW) .none QK Of Lv Xj Iw OV),Nh⟩) (De:PySem.W.codeIn K Iw "Maker.made"=true) (ua:PySem.W.keepIn K (.ref sA)=true)
  (Cm:PySem.W.nsIn K mainGlobals "abs"=some none)
  (xZ:PySem.W.nsIn K mainGlobals "all"=some none)
  (yU:PySem.W.nsIn K mainGlobals "bool"=some none)
  (DU:PySem.W.nsIn K mainGlobals "dict"=some none)
  (yz:PySem.W.nsIn K mainGlobals "enumerate"=some none)
  (Ab:PySem.W.nsIn K mainGlobals "int"=some none)
  (Cq:PySem.W.nsIn K mainGlobals "isinstance"=some none)
  (Eb:PySem.W.nsIn K mainGlobals "len"=some none)
  (zx:PySem.W.nsIn K mainGlobals "list"=some none)
  (yN:PySem.W.nsIn K mainGlobals "min"=some none)
  (DX:PySem.W.nsIn K mainGlobals "range"=some none)
  (zd:PySem.W.nsIn K mainGlobals "sorted"=some none)
  (AL:PySem.W.nsIn K mainGlobals "sum"=some none)
  (CQ:PySem.W.nsIn K mainGlobals "tuple"=some none)
  (Dp:PySem.W.nsIn K mainGlobals "zip"=some none)
  :∃fd:FuncData,(∀(s:Shared) (v:Value),BindsTo s fd ⟨[v],[]⟩ [("script",v)])/\∀base:Heap,K.In base->base.Ns mainGlobals mg->bE l.prog w K mg base bL 10 fa fd ["script"] (vI K):=by
 have e:=LZ.symm.trans (cS X G a32)
 cases e
 obtain⟨a0,_,F0⟩:=d0
 have b0:=F0.binds (ps:=["p","b"]) (by walk_at "bn")
 obtain⟨a1,_,F1⟩:=d1
 have b1:=F1.binds (ps:=["p","pairs","word"]) (by walk_at "bn")
 obtain⟨a2,_,F2⟩:=d2
 have b2:=F2.binds (ps:=["word"]) (by walk_at "bn")
 obtain⟨a3,_,F3⟩:=d3
 have b3:=F3.binds (ps:=["net"]) (by walk_at "bn")
 obtain⟨a4,_,F4⟩:=d4
 have b4:=F4.binds (ps:=["p","rows","places"]) (by walk_at "bn")
 obtain⟨a5,_,F5⟩:=d5
 have b5:=F5.binds (ps:=["rows","taken","place"]) (by walk_at "bn")
 obtain⟨a6,_,F6⟩:=d6
 have b6:=F6.binds (ps:=["p","rows","k","place"]) (by walk_at "bn")
 obtain⟨a7,_,F7⟩:=d7
 have b7:=F7.binds (ps:=["p","factor","row"]) (by walk_at "bn")
 obtain⟨a8,_,F8⟩:=d8
 have b8:=F8.binds (ps:=["p","row","factor","own"]) (by walk_at "bn")
 obtain⟨a9,_,F9⟩:=d9
 have b9:=F9.binds (ps:=["net","row","word"]) (by walk_at "bn")
 obtain⟨Q9,_,C7⟩:=sQ
 have QE:=C7.binds (ps:=["net","word"]) (by walk_at "bn")
 obtain⟨VG,_,yV⟩:=AV
 have V1:=yV.binds (ps:=["net"]) (by walk_at "bn")
 obtain⟨V0,_,yy⟩:=zF
 have QW:=yy.binds (ps:=["net","c"]) (by walk_at "bn")
 obtain⟨NH,_,DG⟩:=Co
 have Wl:=DG.binds (ps:=["script"]) (by walk_at "bn")
 obtain⟨U7,_,DN⟩:=Dg
 have Q3:=DN.binds (ps:=["bag","many"]) (by walk_at "bn")
 obtain⟨Ua,_,yW⟩:=BJ
 have Rc:=yW.binds (ps:=["bag","many"]) (by walk_at "bn")
 obtain⟨ME,_,Ct⟩:=yQ
 have Mb:=Ct.binds (ps:=["number"]) (by walk_at "bn")
 obtain⟨VT,_,Ai⟩:=CC
 have Sw:=Ai.binds (ps:=["bag"]) (by walk_at "bn")
 obtain⟨PU,_,zv⟩:=zK
 have Lj:=zv.binds (ps:=["p","pairs","word"]) (by walk_at "bn")
 obtain⟨We,_,zP⟩:=A0
 have Pb:=zP.binds (ps:=["net"]) (by walk_at "bn")
 obtain⟨ML,_,yE⟩:=zu
 have LX:=yE.binds (ps:=["found"]) (by walk_at "bn")
 obtain⟨LH,_,AI⟩:=An
 have SO:=AI.binds (ps:=["bag","p","n","checks"]) (by walk_at "bn")
 obtain⟨MB,_,z6⟩:=Ca
 have MP:=z6.binds (ps:=["bag","net","many"]) (by walk_at "bn")
 obtain⟨RZ,_,DQ⟩:=Bq
 have Q0:=DQ.binds (ps:=["bag","p","n","first"]) (by walk_at "bn")
 obtain⟨XC,_,Er⟩:=z9
 have Uo:=Er.binds (ps:=["bag","p","n","many"]) (by walk_at "bn")
 obtain⟨LC,_,yL⟩:=Es
 have WO:=yL.binds (ps:=["found","p","many"]) (by walk_at "bn")
 obtain⟨Qd,_,Em⟩:=CN
 have Vs:=Em.binds (ps:=["net","factors"]) (by walk_at "bn")
 obtain⟨M8,_,Bl⟩:=Dl
 have TL:=Bl.binds (ps:=["net","word"]) (by walk_at "bn")
 obtain⟨WZ,_,DA⟩:=zO
 have Ll:=DA.binds (ps:=["net","word","found"]) (by walk_at "bn")
 obtain⟨UT,_,zl⟩:=EC
 have Px:=zl.binds (ps:=["net","c"]) (by walk_at "bn")
 obtain⟨Tg,_,CO⟩:=A8
 have Mm:=CO.binds (ps:=["net","c"]) (by walk_at "bn")
 obtain⟨VL,_,Cf⟩:=AR
 have MC:=Cf.binds (ps:=["net","c","found"]) (by walk_at "bn")
 have Vc:=pP (st:=l7) BO xV CM
 have Gz:=pP (st:=lF) AH Au yY
 have Xu:=Gz.binds (ps:=["self","net"]) (by walk_at "bn")
 have FY:=pP (st:=o8) AZ yd vB
 have Py:=FY.binds (ps:=["self","row"]) (by walk_at "bn")
 have KY:=pP (st:=pG) DW zb wM
 have UE:=KY.binds (ps:=["self"]) (by walk_at "bn")
 have Jh:=pP (st:=pW) BL De ua
 have QX:=Jh.binds (ps:=["self","letters"]) (by walk_at "bn")
 have fU:gF K bw:=⟨za,yi,zW,Ao⟩
 have Dv:=iO X G Cm
 have kW:=iO X G xZ
 have B0:=iO X G yU
 have Cv:=iO X G DU
 have iG:=iO X G yz
 have qa:=iO X G Ab
 have kP:=iO X G Cq
 have cI:=iO X G Eb
 have eY:=iO X G zx
 have zA:=iO X G yN
 have bO:=iO X G DX
 have Dr:=iO X G zd
 have qN:=iO X G AL
 have D9:=iO X G CQ
 have qt:=iO X G Dp
 refine⟨PySem.W.fnOf "law" "law" (kh l7) (jN l7) (aQ l7) .none Fz Hi Jj HH yI HQ,fun s v=> .of_eq rfl,fun base _ _=>?_⟩
 have A9:=Callee.mk' F7 (Qj (P:=l.prog) (w:=w) (base:=base) F7) b7 (cS X G a7)
 have Ka:=Callee.mk' F0 (Ny (P:=l.prog) (w:=w) (base:=base) F0 A9) b0 (cS X G a0)
 have KJ:=Callee.mk' F1 (R7 (P:=l.prog) (w:=w) (base:=base) F1) b1 (cS X G a1)
 have RQ:=Callee.mk' F2 (UU (P:=l.prog) (w:=w) (base:=base) F2 iG) b2 (cS X G a2)
 have IK:=Callee.mk' F3 (Wr (P:=l.prog) (w:=w) (base:=base) F3 iG cI) b3 (cS X G a3)
 have Q2:=Callee.mk' F5 (Oe (P:=l.prog) (w:=w) (base:=base) F5 iG) b5 (cS X G a5)
 have T4:=Callee.mk' F8 (M6 (P:=l.prog) (w:=w) (base:=base) F8 qt) b8 (cS X G a8)
 have Up:=Callee.mk' F6 (QT (P:=l.prog) (w:=w) (base:=base) F6 A9 Ka T4) b6 (cS X G a6)
 have J6:=Callee.mk' F4 (Ul (P:=l.prog) (w:=w) (base:=base) F4 Q2 Up) b4 (cS X G a4)
 have WK:=Callee.mk' F9 (Nd (P:=l.prog) (w:=w) (base:=base) F9 KJ eY iG) b9 (cS X G a9)
 have S2:=Callee.mk' C7 (XN (P:=l.prog) (w:=w) (base:=base) C7 J6 IK RQ WK A9 Ka iG) QE (cS X G Q9)
 have HL:=Callee.mk' yV (Sh (P:=l.prog) (w:=w) (base:=base) yV J6 IK eY bO) V1 (cS X G VG)
 have Qc:=Callee.mk' yy (QD (P:=l.prog) (w:=w) (base:=base) yy HL) QW (cS X G V0)
 have Wb:=Callee.mk' DG (SV (P:=l.prog) (w:=w) (base:=base) DG Dv) Wl (cS X G NH)
 have S6:=Callee.mk' DN (Rr (P:=l.prog) (w:=w) (base:=base) DN bO) Q3 (cS X G U7)
 have pO:=Callee.mk' yW (LB (P:=l.prog) (w:=w) (base:=base) yW S6 cI) Rc (cS X G Ua)
 have Ol:=Callee.mk' Ct (OL (P:=l.prog) (w:=w) (base:=base) Ct bO) Mb (cS X G ME)
 have WM:=Callee.mk' Ai (SD (P:=l.prog) (w:=w) (base:=base) Ai pO Ol) Sw (cS X G VT)
 have J2:=Callee.mk' zv (PN (P:=l.prog) (w:=w) (base:=base) zv qN) Lj (cS X G PU)
 have vh:=Callee.mk' zP (S4 (P:=l.prog) (w:=w) (base:=base) zP eY) Pb (cS X G We)
 have RI:=Callee.mk' yE (Tz (P:=l.prog) (w:=w) (base:=base) yE kP qa B0) LX (cS X G ML)
 have Pu:=Callee.mk' AI (Lp (P:=l.prog) (w:=w) (base:=base) AI pO bO cI) SO (cS X G LH)
 have Rq:=Callee.mk' z6 (QH (P:=l.prog) (w:=w) (base:=base) z6 vh Pu pO bO cI) MP (cS X G MB)
 have WA:=Callee.mk' DQ (Ug (P:=l.prog) (w:=w) (base:=base) DQ pO bO) Q0 (cS X G RZ)
 have LD:=Callee.mk' Er (O8 (P:=l.prog) (w:=w) (base:=base) Er pO Rq WA eY bO cI) Uo (cS X G XC)
 have AE:=Callee.mk' yL (RS (P:=l.prog) (w:=w) (base:=base) yL RI kW kP eY cI) WO (cS X G LC)
 have E4:=Callee.mk' Em (RH (P:=l.prog) (w:=w) (base:=base) Em bO cI) Vs (cS X G Qd)
 have GK:=Callee.mk' Bl (SJ (P:=l.prog) (w:=w) (base:=base) Bl J2 kW) TL (cS X G M8)
 have Vr:=Callee.mk' DA (Pj (P:=l.prog) (w:=w) (base:=base) DA E4 AE GK kW kP D9 cI qN bO) Ll (cS X G WZ)
 have QA:mT l.prog w K mg base bw "free" 1 ["self"] (jM 1 (vP bw)):=⟨fU,sf,_,Xd (P:=l.prog) (w:=w) (base:=base) KY fU ja eY,UE,⟨El,yt,wM⟩⟩
 have Wn:mT l.prog w K mg base bw "made" 2 ["self","letters"] (jM 2 (vW bw)):=⟨fU,sA,_,NU (P:=l.prog) (w:=w) (base:=base) Jh fU mC nB ja l8 KJ qt,QX,⟨Cc,yG,ua⟩⟩
 have Ux:mT l.prog w K mg base bw "at_spots" 1 ["self","row"] (jM 2 (xB bw)):=⟨fU,sU,_,QL (P:=l.prog) (w:=w) (base:=base) FY fU ja,Py,⟨Aa,DY,vB⟩⟩
 have OR:Bo l.prog w K mg base bw "Maker" 6 ["self","net"] (wC 2 (su bw)):=⟨rS,_,Xo (P:=l.prog) (w:=w) (base:=base) Gz fU l8 nB ja mC Ux HL Cv bO Dr,Xu,⟨B3,Bs,yH,z5⟩,cS X G Df⟩
 have Ls:=Callee.mk' zl (TY (P:=l.prog) (w:=w) (base:=base) zl QA Wn OR vh J2 AE GK cI bO qa) Px (cS X G UT)
 have SK:=Callee.mk' CO (Ng (P:=l.prog) (w:=w) (base:=base) CO S2 Ls vh Vr eY) Mm (cS X G Tg)
 have V6:=Callee.mk' Cf (Lu (P:=l.prog) (w:=w) (base:=base) Cf E4) MC (cS X G VL)
 exact W9 Vc Wb WM pO LD vh Qc SK AE V6 eY bO zA cI
theorem walk{l:PySem.W.OpenLaw}{q:Program}{loose:List Str}{XP:(Str->Option Value)->Heap->Prop}{YP:World->Heap->Prop}{d:DefRec}{K:Params->PySem.W.Frag}(hn:l.most=some 63)(hdf:d.params.defaults=[])
  (hY:∀(w:World) (h:Heap),YP w h->(K w.params).In h)
  (F : ∀ (w : World) (mg : Str -> Option Value) (fa : Addr) (h : Heap), (K w.params).In h -> h.Ns mainGlobals mg -> mg d.name = some (.ref fa) ->
   ∃fd:FuncData,(∀(s:Shared) (u:Value),BindsTo s fd ⟨[u],[]⟩ [("script",u)])/\∀base:Heap,(K w.params).In base->base.Ns mainGlobals mg->bE l.prog w (K w.params) mg base bL 10 fa fd ["script"] (vI (K w.params))):
  PySem.W.WalkO q loose XP YP l.row.toRowW d [] (fun f vs=>PySem.call f vs):=
 L2.Wt (n:=63) (k:=10) (x:="script") (CX:=fun _=>bL) (sp:=fun w=>vI (K w.params)) hn (by decide) hdf ⟨rfl,by decide,by decide⟩ hY F (fun _ _ a ns hl _ hS=>⟨a,ns,rfl,hS,hl,fun _=>rfl⟩) fun _ _ _ _ _ z=>z
def view:Program:={PySem.Challenge.pw_fewchecks_k43_checks_that_come_of_others with main:={PySem.Challenge.pw_fewchecks_k43_checks_that_come_of_others.main with body:=[top 1,top 2,top 4,top 6,top 7,top 8,top 9,top 10,top 11,top 12,top 13,top 14,top 15,top 16,top 18,top 19,top 20,top 21,top 22,top 23,top 24,top 25,top 26,top 27,top 28,top 29,top 30,top 31,top 32,top 33,top 34,top 35,top 36,top 37]}}
end K43
open PySem PySem.W PyProof.Rows
local macro_rules| `(tactic|o_head $H:term)=> `(tactic|
 (refine holds_open (q:=K43.view) (loose:=[])
    (Xt:=fun s=>xlAt K43.view [] s && recOk [] s) (XP:=XL K43.view []) (Yf:=Hook.obs $H)
    (Ya:=Hook.val $H) (YP:=Hook.says $H) (N:=100000) ?hl (Hook.of $H)
    (Hook.keeps $H) (fun s e=>xl_of s (HK.mp e).1) XL.keeps
    rfl rfl rfl (fun s e=>recFacts_of (HK.mp e).2) rfl
    (by assumption) (by decide+kernel) ⟨rfl,rfl,rfl,rfl,rfl,by decide+kernel⟩ ?hw ?hc;(case hl=>exact fun w=>by kernel_rfl)))
set_option maxRecDepth 100000 in
set_option maxHeartbeats 0 in
theorem PySem.Challenge.cw_fewchecks_k43_checks_that_come_of_others_holds : PySem.Challenge.rw_fewchecks_k43_checks_that_come_of_others.Holds := by
 w_on
 refine holds_law (by decide+kernel) fun said=>?_
 k_head
 (case hw=>w_witness2)
 k_fill
 refine K43.walk (l:=PySem.Challenge.rw_fewchecks_k43_checks_that_come_of_others) rfl rfl (fun w h Y=>PySem.W.kIn_of Y) ?F
 case F=>
  intro w mg fa h KX G hmg
  refine' K43.all_mk KX G hmg ?Df ?za ?yi ?zW ?Ao ?B3 ?z5 ?l8 ?nB ?ja ?mC ?d0 ?d1 ?d2 ?d3 ?d4 ?d5 ?d6 ?d7 ?d8 ?d9 ?sQ ?AV ?zF ?Co ?Dg ?BJ ?yQ ?CC ?zK ?A0 ?zu ?An ?Ca ?Bq ?z9 ?Es ?CN ?Dl ?zO ?EC ?A8 ?AR ?a32 ?BO ?xV ?CM ?Bs ?yH ?AH ?Au ?yY ?Aa ?DY ?AZ ?yd ?vB ?El ?yt ?DW ?zb ?wM ?Cc ?yG ?BL ?De ?ua ?Cm ?xZ ?yU ?DU ?yz ?Ab ?Cq ?Eb ?zx ?yN ?DX ?zd ?AL ?CQ ?Dp
  (case Df=>k_is)
  (case za=>k_is)
  (case yi=>k_is)
  (case zW=>k_is)
  (case Ao=>k_is)
  (case B3=>k_is)
  (case z5=>k_is)
  (case l8=>k_is)
  (case nB=>k_is)
  (case ja=>k_is)
  (case mC=>k_is)
  (case d0=>refine' L2.aZ.mk ?a ?l ?c ?k;(case a=>k_is);(case l=>k_is);(case c=>k_is);(case k=>k_is))
  (case d1=>refine' L2.aZ.mk ?a ?l ?c ?k;(case a=>k_is);(case l=>k_is);(case c=>k_is);(case k=>k_is))
  (case d2=>refine' L2.aZ.mk ?a ?l ?c ?k;(case a=>k_is);(case l=>k_is);(case c=>k_is);(case k=>k_is))
  (case d3=>refine' L2.aZ.mk ?a ?l ?c ?k;(case a=>k_is);(case l=>k_is);(case c=>k_is);(case k=>k_is))
  (case d4=>refine' L2.aZ.mk ?a ?l ?c ?k;(case a=>k_is);(case l=>k_is);(case c=>k_is);(case k=>k_is))
  (case d5=>refine' L2.aZ.mk ?a ?l ?c ?k;(case a=>k_is);(case l=>k_is);(case c=>k_is);(case k=>k_is))
  (case d6=>refine' L2.aZ.mk ?a ?l ?c ?k;(case a=>k_is);(case l=>k_is);(case c=>k_is);(case k=>k_is))
  (case d7=>refine' L2.aZ.mk ?a ?l ?c ?k;(case a=>k_is);(case l=>k_is);(case c=>k_is);(case k=>k_is))
  (case d8=>refine' L2.aZ.mk ?a ?l ?c ?k;(case a=>k_is);(case l=>k_is);(case c=>k_is);(case k=>k_is))
  (case d9=>refine' L2.aZ.mk ?a ?l ?c ?k;(case a=>k_is);(case l=>k_is);(case c=>k_is);(case k=>k_is))
  (case sQ=>refine' L2.aZ.mk ?a ?l ?c ?k;(case a=>k_is);(case l=>k_is);(case c=>k_is);(case k=>k_is))
  (case AV=>refine' L2.aZ.mk ?a ?l ?c ?k;(case a=>k_is);(case l=>k_is);(case c=>k_is);(case k=>k_is))
  (case zF=>refine' L2.aZ.mk ?a ?l ?c ?k;(case a=>k_is);(case l=>k_is);(case c=>k_is);(case k=>k_is))
  (case Co=>refine' L2.aZ.mk ?a ?l ?c ?k;(case a=>k_is);(case l=>k_is);(case c=>k_is);(case k=>k_is))
  (case Dg=>refine' L2.aZ.mk ?a ?l ?c ?k;(case a=>k_is);(case l=>k_is);(case c=>k_is);(case k=>k_is))
  (case BJ=>refine' L2.aZ.mk ?a ?l ?c ?k;(case a=>k_is);(case l=>k_is);(case c=>k_is);(case k=>k_is))
  (case yQ=>refine' L2.aZ.mk ?a ?l ?c ?k;(case a=>k_is);(case l=>k_is);(case c=>k_is);(case k=>k_is))
  (case CC=>refine' L2.aZ.mk ?a ?l ?c ?k;(case a=>k_is);(case l=>k_is);(case c=>k_is);(case k=>k_is))
  (case zK=>refine' L2.aZ.mk ?a ?l ?c ?k;(case a=>k_is);(case l=>k_is);(case c=>k_is);(case k=>k_is))
  (case A0=>refine' L2.aZ.mk ?a ?l ?c ?k;(case a=>k_is);(case l=>k_is);(case c=>k_is);(case k=>k_is))
  (case zu=>refine' L2.aZ.mk ?a ?l ?c ?k;(case a=>k_is);(case l=>k_is);(case c=>k_is);(case k=>k_is))
  (case An=>refine' L2.aZ.mk ?a ?l ?c ?k;(case a=>k_is);(case l=>k_is);(case c=>k_is);(case k=>k_is))
  (case Ca=>refine' L2.aZ.mk ?a ?l ?c ?k;(case a=>k_is);(case l=>k_is);(case c=>k_is);(case k=>k_is))
  (case Bq=>refine' L2.aZ.mk ?a ?l ?c ?k;(case a=>k_is);(case l=>k_is);(case c=>k_is);(case k=>k_is))
  (case z9=>refine' L2.aZ.mk ?a ?l ?c ?k;(case a=>k_is);(case l=>k_is);(case c=>k_is);(case k=>k_is))
  (case Es=>refine' L2.aZ.mk ?a ?l ?c ?k;(case a=>k_is);(case l=>k_is);(case c=>k_is);(case k=>k_is))
  (case CN=>refine' L2.aZ.mk ?a ?l ?c ?k;(case a=>k_is);(case l=>k_is);(case c=>k_is);(case k=>k_is))
  (case Dl=>refine' L2.aZ.mk ?a ?l ?c ?k;(case a=>k_is);(case l=>k_is);(case c=>k_is);(case k=>k_is))
  (case zO=>refine' L2.aZ.mk ?a ?l ?c ?k;(case a=>k_is);(case l=>k_is);(case c=>k_is);(case k=>k_is))
  (case EC=>refine' L2.aZ.mk ?a ?l ?c ?k;(case a=>k_is);(case l=>k_is);(case c=>k_is);(case k=>k_is))
  (case A8=>refine' L2.aZ.mk ?a ?l ?c ?k;(case a=>k_is);(case l=>k_is);(case c=>k_is);(case k=>k_is))
  (case AR=>refine' L2.aZ.mk ?a ?l ?c ?k;(case a=>k_is);(case l=>k_is);(case c=>k_is);(case k=>k_is))
  (case a32=>k_is)
  (case BO=>k_is)
  (case xV=>k_is)
  (case CM=>k_is)
  (case Bs=>k_is)
  (case yH=>k_is)
  (case AH=>k_is)
  (case Au=>k_is)
  (case yY=>k_is)
  (case Aa=>k_is)
  (case DY=>k_is)
  (case AZ=>k_is)
  (case yd=>k_is)
  (case vB=>k_is)
  (case El=>k_is)
  (case yt=>k_is)
  (case DW=>k_is)
  (case zb=>k_is)
  (case wM=>k_is)
  (case Cc=>k_is)
  (case yG=>k_is)
  (case BL=>k_is)
  (case De=>k_is)
  (case ua=>k_is)
  (case Cm=>k_is)
  (case xZ=>k_is)
  (case yU=>k_is)
  (case DU=>k_is)
  (case yz=>k_is)
  (case Ab=>k_is)
  (case Cq=>k_is)
  (case Eb=>k_is)
  (case zx=>k_is)
  (case yN=>k_is)
  (case DX=>k_is)
  (case zd=>k_is)
  (case AL=>k_is)
  (case CQ=>k_is)
  (case Dp=>k_is)
