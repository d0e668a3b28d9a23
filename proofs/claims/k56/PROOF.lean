import PyProof.Rows.All
import Wide.All
import OpenK.AllK
import Wide.FinOn
import Lean
import PyProof.EqAt
import PyProof.EqKinds
import PyProof.TupleCall
import PySem.Challenge.RW_fewchecks_k56_whole_calm_at_last
set_option maxRecDepth 100000 in
set_option maxHeartbeats 0 in
theorem sd0 : PySem.Challenge.rw_fewchecks_k56_whole_calm_at_last.wellSaid = true := by decide +kernel
set_option compiler.extract_closed false
set_option Elab.async false
set_option linter.all false
set_option maxRecDepth 100000
def ak:= @List.length_map
def aH:= @List.getElem?_eq_getElem
def aP:= @List.mem_cons
def aR:= @List.getElem?_eq_some_iff
def aQ:= @Nat.le_refl
def aS:= @List.getElem?_map
def aT:= @List.mem_singleton
def aZ:= @List.map_cons
def bh:= @List.mem_of_getElem?
def bw:= @Ne.symm
def bz:= @List.length_append
def bG:= @PySem.Heap.lt_size
def bH:= @List.getElem?_set_ne
def bP:= @PySem.W.mg_of
def bS:= @PySem.Heap.get?_push_of_some
def cB:= @List.mem_cons_self
def cC:= @Bool.false_ne_true
def cD:= @List.mem_append
def cN:= @Bool.and_eq_true
def cL:= @List.map_append
def cM:= @List.getD_eq_getElem?_getD
def cJ:= @List.not_mem_nil
def cQ:= @List.getElem?_set_self
def cX:= @List.mem_cons_of_mem
def c5:= @Nat.ne_of_lt
def dj:= @Nat.lt_of_lt_of_le
def dw:= @PySem.PassesOwn.never
def dJ:= @List.size_toArray
def dN:= @List.mem_map
def dD:= @List.map_map
def dR:= @Int.emod_nonneg
def dQ:= @Int.emod_lt_of_pos
def eK:= @Nat.le_trans
def fh:= @List.length_singleton
def eZ:= @Int.toNat_natCast
def fN:= @PySem.Heap.get?_push_size
def fT:= @Nat.zero_le
def fY:= @List.getElem?_of_mem
def fV:= @PySem.boot_len
def gf:= @Option.some.inj
def gu:= @List.getElem?_append_left
def gc:= @List.lookup_cons
def gn:= @List.map_congr_left
def gC:= @List.length_set
def gK:= @List.getElem?_append_right
def gY:= @List.getElem?_replicate
def gR:= @List.ext_getElem?
def gP:= @List.getElem_mem
def gV:= @List.take_length
def iI:= @List.mem_append_right
def iG:= @List.append_nil
def iC:= @List.nodup_cons
def ie:= @List.getElem?_eq_none
def iw:= @PySem.W.mg_none_of
def iP:= @List.mem_filter
def iU:= @Option.some_ne_none
def jd:= @List.length_take
def ja:= @PyProof.Rows.boot_list
def jl:= @Nat.le_of_lt
def jB:= @Nat.lt_irrefl
def jN:= @PySem.W.kia_one
def jw:= @Option.map_eq_some_iff
def jx:= @List.set_set
def jO:= @PySem.F.plainAttrs_list
def kg:= @Classical.byContradiction
def jV:= @List.mem_map_of_mem
def jY:= @Int.emod_eq_of_lt
def kC:= @Array.length_toList
def kO:= @PySem.Heap.get?_update_other
def kN:= @Array.getElem?_eq_getElem
def kR:= @List.pairwise_iff_getElem
def kP:= @List.length_range
def kL:= @List.find?_cons
def kJ:= @PySem.F.slot_list_append
def kM:= @PySem.F.type_list_append
def ko:= @PyProof.Rows.boot_isinstance
def lI:= @List.any_cons
def lg:= @Int.zero_add
def lN:= @Int.mul_le_mul_of_nonneg_left
def lZ:= @PySem.Around.under_plainId
def lT:= @Nat.mul_mod
def lG:= @List.getElem?_range
def nv:= @List.mem_range
def mU:= @Bool.eq_iff_iff
def mV:= @List.all_cons
def m8:= @Nat.le_succ
def nq:= @Array.getElem?_toList
def mX:= @PySem.Heap.size_push
def mS:= @List.cons_append
def m6:= @List.getElem?_cons_succ
def mz:= @Int.mul_ediv_add_emod
def mR:= @Nat.lt_trans
def m7:= @PySem.F.called_set
def nj:= @List.length_eq_zero_iff
def mO:= @List.append_assoc
def mG:= @List.nodup_nil
def m9:= @List.countP_cons
def oN:= @List.mem_append_left
def oU:= @Nat.ne_of_gt
def nK:= @PySem.mem_of_lookup
def oO:= @Bool.or_false
def oq:= @List.map_nil
def oj:= @PySem.SeqAt.canLay_of_shaped
def oh:= @List.length_cons
def oV:= @Int.zero_mul
def oB:= @Nat.lt_succ_of_lt
def oH:= @List.nodup_append
def ou:= @List.Nodup.length_le_of_subset
def nE:= @PySem.W.kia_tup
def oS:= @PyProof.Rows.boot_sorted
def pL:= @List.filterMap_cons
def qb:= @List.getElem?_take_of_lt
def pC:= @Int.mul_sub
def oY:= @List.any_eq_true
def o9:= @Int.emod_eq_zero_of_dvd
def p7:= @List.getElem?_eq_none_iff
def p9:= @List.mem_or_eq_of_mem_set
def qw:= @List.getElem_inj
def rA:= @List.length_drop
def rK:= @Bool.false_or
def qK:= @Option.map_some
def rS:= @Int.le_refl
def qM:= @Int.mul_comm
def qL:= @Int.mul_assoc
def sE:= @Int.add_mul
def qW:= @Array.getElem?_eq_some_iff
def rj:= @Nat.lt_succ_self
def qF:= @Nat.mul_assoc
def sA:= @Nat.mul_comm
def rT:= @Int.eq_ofNat_of_zero_le
def qz:= @Int.lt_trichotomy
def sN:= @Classical.choose_spec
def rB:= @PySem.F.slot_dict_get
def qY:= @List.getElem_map
def sP:= @Int.le_trans
def qB:= @List.map_take
def qP:= @List.map_set
def uM:= @PySem.Value.isInt_shape
def vY:= @Sum.inl.inj
def vF:= @PySem.Paired.length
def u7:= @PyProof.Rows.callWith_type1
def wF:= @PySem.W.kitx_dict
def uQ:= @PySem.Heap.get?_update_self
def v8:= @Nat.le_of_eq
def sU:= @Nat.lt_of_le_of_lt
def vX:= @List.all_eq_true
def uI:= @Int.ediv_nonneg
def tO:= @Int.mul_le_mul_of_nonneg_right
def sX:= @Nat.succ.inj
def ua:= @Array.size_extract
def vC:= @Nat.mod_lt
def sW:= @PySem.F.plain_list_iadd
def vP:= @Int.sub_zero
def vH:= @Bool.or_true
def uy:= @Nat.pow_add
def ur:= @Int.le_of_lt
def vG:= @List.count_append
def uw:= @PySem.F.slot_list_getattribute
def vS:= @Nat.le_of_ble_eq_true
def tT:= @Int.dvd_of_emod_eq_zero
def uq:= @List.countP_append
def vo:= @List.countP_singleton
def uJ:= @List.map_id
def vV:= @PyProof.Rows.boot_range
def sV:= @PySem.F.plainAttrs_dict
def wc:= @PySem.F.type_dict_get
def wI:= @Int.mul_zero
def uO:= @List.filter_append
def BI:= @List.mem_filterMap
def yE:= @PySem.W.kitx_list
def CP:= @List.of_mem_zip
def Cb:= @Option.isSome_iff_exists
def An:= @Nat.le_of_not_lt
def zq:= @List.take_add_one
def zM:= @List.sum_append
def yk:= @Int.mul_nonneg
def yC:= @Int.mul_add
def C4:= @Array.getD_eq_getD_getElem?
def AQ:= @Array.getElem?_eq_none
def CI:= @Nat.lt_or_eq_of_le
def AG:= @PyProof.Rows.F.plain_set_update_loop
def Df:= @List.Perm.append_left
def Bj:= @Nat.lt_trichotomy
def wR:= @List.range_succ_eq_map
def zR:= @Bool.false_eq_true
def xT:= @Nat.lt_of_lt_of_eq
def AJ:= @Bool.true_and
def BU:= @PySem.Calls.call_function_entry
def Cv:= @List.take_of_length_le
def Bd:= @List.drop_zero
def CU:= @Nat.mul_one
def CQ:= @Nat.zero_mul
def yi:= @Nat.div_add_mod
def xR:= @Nat.mod_mod
def CT:= @Nat.mod_mod_of_dvd
def Ac:= @Nat.one_mul
def Di:= @Nat.le_of_dvd
def CD:= @List.lookup_cons_self
def zv:= @Option.isSome_map
def Cj:= @List.count_singleton
def C6:= @List.foldl_append
def wX:= @List.count_eq_zero
def ya:= @Nat.sub_self
def A0:= @List.range_succ
def w4:= @Int.emod_def
def BX:= @Int.add_mul_emod_self_left
def Bm:= @List.pairwise_cons
def Cs:= @Int.natCast_add
def Dg:= @Nat.lt_or_gt_of_ne
def Dk:= @List.filter_cons_of_pos
def xD:= @List.filter_cons_of_neg
def AF:= @Int.ediv_le_self
def AO:= @List.nodup_range
def Bk:= @Bool.eq_false_iff
def yV:= @Int.mul_le_mul
def Dp:= @PyProof.Rows.boot_int
def BY:= @PyProof.Rows.boot_set
def wW:= @List.Sublist.refl
def Bp:= @List.length_pos_iff
def FD:= @PySem.Calls.Name_function_global
def Ge:= @PySem.W.cellsFrom_some
def EG:= @List.length_replicate
def EC:= @List.filterMap_cons_some
def JD:= @Array.getElem?_push
def Jw:= @Array.getElem?_extract_of_lt
def Ia:= @List.getElem?_toArray
def GS:= @List.length_eraseIdx_of_lt
def DH:= @PySem.F.entry_proto_collect
def GK:= @PySem.F.plain_proto_collect
def Ez:= @PySem.F.entry_list_iadd
def ED:= @PySem.F.plain_extend_loop
def Ht:= @Nat.dvd_of_mod_eq_zero
def DI:= @Int.gcd_eq_zero_iff
def Fe:= @Int.natAbs_dvd_natAbs
def DR:= @Int.emod_add_mul_ediv
def Jo:= @List.flatMap_append
def G7:= @List.flatMap_singleton
def Im:= @List.pairwise_append
def DQ:= @Int.ediv_eq_zero_of_lt
def ES:= @PySem.F.slot_list_pop
def Iw:= @PySem.F.type_list_pop
def Ii:= @List.exists_mem_of_length_pos
def EM:= @List.length_pos_of_mem
def GL:= @List.ne_nil_of_length_pos
def FW:= @PyProof.Rows.boot_tuple
def Fy:= @PyProof.Rows.boot_bool
def EJ:= @PyProof.Rows.boot_str
def Gq:= @List.replicate_succ'
def Js:= @Bool.and_eq_true_iff
namespace L2
open PySem PySem.Spec PyProof.Rows
abbrev Key:=Sum Int Str
def pF:Key->Value->Bool
 | .inl k,v=>Value.isInt k v
 | .inr x,v=>Value.isStrOf x v
def Xe(w:World):Key->Int
 | .inl k=>hashInt k
 | .inr x=>hashStr w x
theorem k7:∀{k:Key} {v:Value},pF k v=true->(∃i t,k=Sum.inl i/\v=Value.int i t)\/(∃x t,k=Sum.inr x/\v=Value.str x t)
  | .inl i, v, h => by
    obtain⟨t,e⟩:=uM (k:=i) (v:=v) h
    exact .inl ⟨i,t,rfl,e⟩
  | .inr x, v, h => by
    obtain⟨t,e⟩:=Value.isStrOf_shape (x:=x) (v:=v) h
    exact .inr ⟨x,t,rfl,e⟩
theorem T7(i:Int)(t:Tok):pF (.inl i) (.int i t)=true:=by simp[pF,Value.isInt]
theorem UY(x:Str)(t:Tok):pF (.inr x) (.str x t)=true:=by simp[pF,Value.isStrOf]
theorem Ot(a b:Int):decide ((Sum.inl a:Key)=Sum.inl b)=(a==b):=by
 by_cases e:a=b
 ·subst e;simp
 ·have h:¬(Sum.inl a:Key)=Sum.inl b:=fun q=>e (vY q)
  rw[decide_eq_false h]
  exact(beq_eq_false_iff_ne.mpr e).symm
theorem Sk(a b:Str):decide ((Sum.inr a:Key)=Sum.inr b)=decide (a=b):=by
 by_cases e:a=b
 ·subst e;simp
 ·have h:¬(Sum.inr a:Key)=Sum.inr b:=fun q=>e (Sum.inr.inj q)
  rw[decide_eq_false h,decide_eq_false e]
theorem J7(a:Int)(b:Str):decide ((Sum.inl a:Key)=Sum.inr b)=false:=decide_eq_false (fun q=>nomatch q)
theorem N9(a:Str)(b:Int):decide ((Sum.inr a:Key)=Sum.inl b)=false:=decide_eq_false (fun q=>nomatch q)
def eT(prog:Program)(w:World):PySem.KeyKind prog w Key where
 is:=pF
 hash:=Xe w
 inj:=fun v a b ha hb=>by
  rcases k7 ha with ⟨i,t,rfl,rfl⟩|⟨x,t,rfl,rfl⟩
  ·rcases k7 hb with ⟨j,u,rfl,e⟩|⟨y,u,rfl,e⟩
   ·injection e with e1 _;rw[e1]
   ·exact nomatch e
  ·rcases k7 hb with ⟨j,u,rfl,e⟩|⟨y,u,rfl,e⟩
   ·exact nomatch e
   ·injection e with e1 _;rw[e1]
 byValue:=fun k v h=>by
  rcases k7 h with ⟨i,t,rfl,rfl⟩|⟨x,t,rfl,rfl⟩<;>rfl
 pyHash:=fun hv h=>by
  rcases k7 hv with ⟨i,t,rfl,rfl⟩|⟨x,t,rfl,rfl⟩
  ·exact wpAny_pyHash_int h
  ·exact wpAny_pyHash_str h
 eqBool:=fun hu hv h=>by
  rcases k7 hu with ⟨i,t,rfl,rfl⟩|⟨x,t,rfl,rfl⟩
  ·rcases k7 hv with ⟨j,u,rfl,rfl⟩|⟨y,u,rfl,rfl⟩
   ·rw[Ot] at h;exact wpAny_eqBool_int h
   ·rw[J7] at h;exact SeqAt.EqAt.int_str i t y u _ _ _ _ h
  ·rcases k7 hv with ⟨j,u,rfl,rfl⟩|⟨y,u,rfl,rfl⟩
   ·rw[N9] at h;exact SeqAt.EqAt.str_int x t j u _ _ _ _ h
   ·rw[Sk] at h;exact wpAny_eqBool_str h
 «strs» :=fun k x t v h=>by
  rcases k7 h with ⟨i,u,rfl,e⟩|⟨y,u,rfl,e⟩
  ·exact nomatch e
  ·injection e with e1 _
   subst e1
   cases v<;>rfl
theorem Xa(prog:Program)(w:World)(i:Int)(t:Tok):(eT prog w).is (.inl i) (.int i t)=true:=T7 i t
theorem N7(prog:Program)(w:World)(x:Str)(t:Tok):(eT prog w).is (.inr x) (.str x t)=true:=UY x t
inductive V where
 |aL|bl (b:Bool)|int (i:Int)|str (x:Str)|jm (b:Array UInt8)|lX (b:UInt64)|ref (a:Addr)|ty (n:String)
 deriving DecidableEq
def RelV:V->Value->Prop
 | .aL,u=>u=Value.none
 | .bl b,u=>u=Value.bool b
 | .int i,u=>∃t,u=Value.int i t
 | .str x,u=>∃t,u=Value.str x t
 | .jm b,u=>∃t,u=Value.bytes b t
 | .lX b,u=>∃t,u=Value.float b t
 | .ref a,u=>u=Value.ref a
 | .ty n,u=>u=Value.type n
abbrev Vals:List V->List Value->Prop:=Paired RelV
theorem Vals.length{xs:List V}{us:List Value}(r:Vals xs us):xs.length=us.length:=vF r
theorem Vals.get:∀{xs:List V} {us:List Value} {i:Nat} {x:V},Vals xs us->xs[i]?=some x->∃u,us[i]?=some u/\RelV x u
  |_,_,_,_, .nil,e=>by simp at e
  |_,_,0,_, .cons r _,e=>by simp at e;subst e;exact⟨_,rfl,r⟩
  | _, _, i + 1, x, .cons _ t, e => by
    obtain⟨u,h1,h2⟩:=Vals.get (i:=i) (x:=x) t (by simpa using e)
    exact⟨u,by simpa using h1,h2⟩
theorem Vals.set{x:V}{u:Value}(r:RelV x u):∀{xs:List V} {us:List Value} (i:Nat),Vals xs us->Vals (xs.set i x) (us.set i u)
 |_,_,_, .nil=> .nil
 |_,_,0, .cons _ t=> .cons r t
 |_,_,i+1, .cons q t=> .cons q (Vals.set r i t)
theorem Vals.append:∀{xs ys:List V} {us ws:List Value},Vals xs us->Vals ys ws->Vals (xs++ys) (us++ws)
 |_,_,_,_, .nil,s=>s
 |_,_,_,_, .cons r t,s=> .cons r (Vals.append t s)
theorem Vals.take:∀{xs:List V} {us:List Value} (n:Nat),Vals xs us->Vals (xs.take n) (us.take n)
 |_,_,0,_=> .nil
 |_,_,_+1, .nil=> .nil
 |_,_,n+1, .cons r t=> .cons r (Vals.take n t)
theorem Vals.drop:∀{xs:List V} {us:List Value} (n:Nat),Vals xs us->Vals (xs.drop n) (us.drop n)
 |_,_,0,r=>r
 |_,_,_+1, .nil=> .nil
 |_,_,n+1, .cons _ t=>Vals.drop n t
def jH:Option V->Option Value->Prop
 |some v,some u=>RelV v u
 |none,none=>True
 |_,_=>False
def KV{κ:Type}:List (κ×V)->List (κ×Value)->Prop:=Paired fun(p:κ×V) (q:κ×Value)=>p.1=q.1/\RelV p.2 q.2
def kV:Key->V
 | .inl i=> .int i
 | .inr x=> .str x
inductive HO where
  |lst (xs:List V)
  |tup (xs:List V)
  |dK (kvs:List (Key×V))|dT (kvs:List (List Key×V))
  |set (S:Int->Bool) (n:Nat)
  |ins (C dx:Addr) (fs:List (Str×V))
  |own (x:Addr)
  |xd (fs:List (Str×V))
  |met (f x:Addr)
  |mq (lo hi:Int)
  |gX (o:Obj) (u:HO)
  |n5 (ps:Array Value)
  |ext (φ:Heap->Prop)
abbrev Hp:=Addr->Option HO
def upd(H:Hp)(a:Addr)(o:HO):Hp:=fun b=>if b=a then some o else H b
theorem bf{H:Hp}{a:Addr}{o:HO}:upd H a o a=some o:=by unfold upd;rw[if_pos rfl]
theorem aK{H:Hp}{a b:Addr}{o:HO}(h:b≠a):upd H a o b=H b:=by unfold upd;rw[if_neg h]
theorem yW{H:Hp}{a:Addr}{o u:HO}:upd (upd H a o) a u=upd H a u:=by
 funext b;unfold upd;split<;>rfl
theorem Ng{H:Hp}{a b:Addr}{o u:HO}(h:H a=some o)(h':H b=some u)(d:o≠u):a≠b:=by
 intro e;subst e;rw[h] at h';exact d (gf h')
theorem iZ{H:Hp}{a b:Addr}{o:HO}(h:H a=some o)(h':H b=none):a≠b:=by
 intro e;subst e;rw[h] at h';cases h'
section
variable(P:Program)(w:World)
def bU(H:Hp)(h:Heap)(a:Addr):HO->Prop
 | .lst xs=>xs.length<=sizeLine/\∃(its:List Value) (n:Nat),Vals xs its/\h.get? a=some {cls:= .type "list",data:= .seq its.toArray n}
 | .tup xs=>xs.length<=sizeLine/\∃its:List Value,Vals xs its/\IsTup h a its.toArray
 | .dK kvs=>kvs.length<=sizeLine/\(a==sysModules)=false/\∃vs,KV kvs vs/\h.DictOf (eT P w) a vs
 | .dT kvs => kvs.length <= sizeLine /\ (a == sysModules) = false /\ ∃ xs : List (List Key × Addr × Value),
   Paired (fun(p:List Key×V) (q:List Key×Addr×Value)=>p.1=q.1/\H q.2.1=some (.tup (p.1.map kV))/\RelV p.2 q.2.2) kvs xs/\
   ∃o es ep,h.get? a=some o/\o.ExactDict/\o.data= .dict es ep/\es.toList=xs.map (entryOfKey (tupleKind (eT P w)))/\(xs.map (·.1)).Nodup
 | .set S n=>h.SetOf (intKind P w) a S n
 | .ins C dx fs => H dx = some (.own a) /\ fs.length <= 1000 /\ dx ≠ a /\ h.get? a = some (PySem.W.instObj C dx) /\
   ∃mA,h.Ns1 dx mA/\(∀f,jH (fs.lookup f) (mA f))/\PySem.Within mA (fs.map (·.1))
 | .own _=>∃o,h.get? a=some o
 | .xd fs=>∃mA,h.Ns1 a mA/\∀f,jH (fs.lookup f) (mA f)
 | .mq lo hi=>∃t u v,h.get? a=some {cls:= .type "range",data:= .fields #[.int lo t, .int hi u, .int 1 v]}
 | .gX o u=>h.get? a=some o/\bU H h a u
 | .n5 ps=>h.get? a=some {cls:= .none,data:= .fields ps}
 | .met f x=>h.get? a=some (PySem.W.methodObj (.ref f) (.ref x))
 | .ext φ=>φ h/\(∃o,h.get? a=some o)/\∀h1 h2:Heap,φ h1->(∀o,h1.get? a=some o->h2.get? a=some o)->φ h2
def c6(H:Hp)(h:Heap):Prop:=∀a o,H a=some o->bU P w H h a o
end
section
variable{P:Program}{w:World}{H H':Hp}{h h':Heap}{a:Addr}{o:HO}
theorem bU.lt(x:bU P w H h a o):a<h.objs.size:=by
 cases o with
 |lst xs=>obtain⟨_,_,_,_,e⟩:=x;exact bG e
 |tup xs=>obtain⟨_,_,_,p⟩:=x;exact p.lt
 |dK kvs=>obtain⟨_,_,_,_,o,_,_,e,_⟩:=x;exact bG e
 |dT kvs=>obtain⟨_,_,_,_,o,_,_,e,_⟩:=x;exact bG e
 |set S n=>obtain⟨o,_,_,_,e,_⟩:=x;exact bG e
 |ins C dx fs=>obtain⟨_,_,_,e,_⟩:=x;exact bG e
 |own y=>obtain⟨_,e⟩:=x;exact bG e
 |xd fs=>obtain⟨_,⟨_,_,_,e,_⟩,_⟩:=x;exact bG e
 |mq lo hi=>obtain⟨_,_,_,e⟩:=x;exact bG e
 |gX ob u=>obtain⟨e,_⟩:=x;exact bG e
 |n5 ps=>exact bG (show h.get? a=some _ from x)
 |met f y=>exact bG (show h.get? a=some _ from x)
 |ext φ=>obtain⟨_,⟨_,e⟩,_⟩:=x;exact bG e
theorem Paired.zd{α β:Type}{F G:α->β->Prop}:∀{l₁:List α} {l₂:List β},Paired F l₁ l₂->(∀a b,F a b->G a b)->Paired G l₁ l₂
 |_,_, .nil,_=> .nil
 |_,_, .cons r t,f=> .cons (f _ _ r) (Paired.zd t f)
theorem bU.stay(x:bU P w H h a o)(k:∀b u,(b=a\/H b=some (.own a))->h.get? b=some u->h'.get? b=some u)
    (ho:∀b,H b=some (.own a)->H' b=some (.own a)) (ht:∀b xs,H b=some (.tup xs)->H' b=some (.tup xs)):bU P w H' h' a o:=by
  induction o with
  |lst xs=>obtain⟨z,its,n,r,e⟩:=x;exact⟨z,its,n,r,k _ _ (.inl rfl) e⟩
  |tup xs=>obtain⟨z,its,r,ob,e,c⟩:=x;exact⟨z,its,r,ob,k _ _ (.inl rfl) e,c⟩
  |dK kvs=>obtain⟨z,y,vs,r,ob,es,ep,e,c⟩:=x;exact⟨z,y,vs,r,ob,es,ep,k _ _ (.inl rfl) e,c⟩
  | dT kvs =>
    obtain⟨z,y,xs,r,ob,es,ep,e,c⟩:=x
    exact⟨z,y,xs,Paired.zd r fun p q z=>⟨z.1,ht _ _ z.2.1,z.2.2⟩,ob,es,ep,k _ _ (.inl rfl) e,c⟩
  |set S n=>obtain⟨ob,es,ep,t,e,c⟩:=x;exact⟨ob,es,ep,t,k _ _ (.inl rfl) e,c⟩
  | ins C dx fs =>
    obtain⟨d,z,ne,e,mA,⟨od,es,ep,e2,c⟩,r⟩:=x
    exact⟨ho _ d,z,ne,k _ _ (.inl rfl) e,mA,⟨od,es,ep,k _ _ (.inr d) e2,c⟩,r⟩
  |own y=>obtain⟨ob,e⟩:=x;exact⟨ob,k _ _ (.inl rfl) e⟩
  |xd fs=>obtain⟨mA,⟨od,es,ep,e,c⟩,r⟩:=x;exact⟨mA,⟨od,es,ep,k _ _ (.inl rfl) e,c⟩,r⟩
  |mq lo hi=>obtain⟨t,u,v,e⟩:=x;exact⟨t,u,v,k _ _ (.inl rfl) e⟩
  |gX ob u ih=>obtain⟨e,q⟩:=x;exact⟨k _ _ (.inl rfl) e,ih q⟩
  | n5 ps =>
    have e:h.get? a=some {cls:= .none,data:= .fields ps}:=x
    show h'.get? a=some {cls:= .none,data:= .fields ps}
    exact k a _ (.inl rfl) e
  | met f y =>
    have e:h.get? a=some (PySem.W.methodObj (.ref f) (.ref y)):=x
    show h'.get? a=some (PySem.W.methodObj (.ref f) (.ref y))
    exact k a _ (.inl rfl) e
  |ext φ=>obtain⟨p,⟨o,e⟩,st⟩:=x;exact⟨st _ _ p fun o q=>k _ _ (.inl rfl) q,⟨o,k _ _ (.inl rfl) e⟩,st⟩
theorem c6.lt(x:c6 P w H h)(e:H a=some o):a<h.objs.size:=(x a o e).lt
theorem c6.fresh(x:c6 P w H h)(e:h.objs.size<=a):H a=none:=by
 cases q:H a with
 |none=>rfl
 |some u=>exact absurd (dj (x.lt q) e) (jB _)
theorem c6.kept(x:c6 P w H h)(k:∀b u,h.get? b=some u->h'.get? b=some u):c6 P w H h':=fun a o e=>
 (x a o e).stay (fun b u _ q=>k b u q) (fun _ q=>q) fun _ _ q=>q
theorem c6.laid(x:c6 P w H h)(k:∀b u,h.get? b=some u->h'.get? b=some u)(hp:h.objs.size<=a)(new:bU P w (upd H a o) h' a o):c6 P w (upd H a o) h':=fun b u e=>by
 have hn:=x.fresh hp
 by_cases hb:b=a
 ·subst hb;rw[bf] at e;cases e;exact new
 ·rw[aK hb] at e
  exact(x b u e).stay (fun c v _ q=>k c v q) (fun c q=>by rw[aK (iZ q hn)];exact q) fun c xs q=>by rw[aK (iZ q hn)];exact q
end
def Rd(H:Hp)(a:Addr)(u:HO):Prop:=H a=some u\/∃o,H a=some (.gX o u)
theorem Rd.ok{P:Program}{w:World}{H:Hp}{h:Heap}{a:Addr}{u:HO}(r:Rd H a u)(x:c6 P w H h):bU P w H h a u:=by
 rcases r with r|⟨o,r⟩
 ·exact x a u r
 ·obtain⟨_,q⟩:=x a _ r
  exact q
def sH:Option HO->Prop
 |some (.lst _)=>True
 |some (.dK _)=>True
 |some (.dT _)=>True
 |some (.set _ _)=>True
 |some (.ins _ _ _)=>True
 |some (.ext _)=>True
 |_=>False
section
variable{P:Program}{w:World}{H:Hp}{h h':Heap}{x e:Addr}{o':HO}
theorem c6.write(ok:c6 P w H h)(mu:sH (H x))(he:e=x\/H e=some (.own x))(k:∀b u,b≠e->h.get? b=some u->h'.get? b=some u)(p5:∃u,h'.get? e=some u)
  (new:bU P w (upd H x o') h' x o'):c6 P w (upd H x o') h':=fun b u q=>by
 have JF:∀c y,H c=some (.own y)->c≠x:=fun c y r z=>by subst z;rw[r] at mu;exact mu
 have Mz:∀c xs,H c=some (.tup xs)->c≠x:=fun c xs r z=>by subst z;rw[r] at mu;exact mu
 by_cases hb:b=x
 ·subst hb;rw[bf] at q;cases q;exact new
 ·rw[aK hb] at q
  by_cases nY:b=e
  ·have q':H b=some (.own x):=by
    rcases he with z|z
    ·exact absurd (nY.trans z) hb
    ·rw[nY];exact z
   rw[q] at q';cases q'
   obtain⟨v,hv⟩:=p5
   exact⟨v,by rw[nY];exact hv⟩
  ·refine(ok b u q).stay (fun c v hc r=>k c v ?_ r) (fun c r=>by rw[aK (JF c b r)];exact r) fun c xs r=>by rw[aK (Mz c xs r)];exact r
   rcases hc with rfl|hc
   ·exact nY
   ·rintro rfl
    rcases he with z|z
    ·exact JF c b hc z
    ·rw[hc] at z;cases z;exact hb rfl
end
structure Un(fs ex:List Addr)(H H':Hp)(h h':Heap):Prop where
 keep:∀b o,h.get? b=some o->H b=none->b∉fs->b∉ex->h'.get? b=some o
 slot:∀b o,h.get? b=some o->H b=none->b∈fs->b∉ex->∃sl,h'.get? b=some {o with slots:=sl}
 free:∀b o,h.get? b=some o->H b=none->b∉ex->H' b=none
 there:∀b o,h.get? b=some o->b∉ex->∃o',h'.get? b=some o'
 tups:∀b xs,H b=some (.tup xs)->H' b=some (.tup xs)
 lP:∀b o u,H b=some (.gX o u)->H' b=some (.gX o u)
 l9:∀b ps,H b=some (.n5 ps)->∃more,H' b=some (.n5 (ps++more))
section
variable{fs fs' ex ex':List Addr}{H H1 H2:Hp}{h h1 h2 h':Heap}{a x e:Addr}{o:HO}
theorem Un.any(u:Un fs ex H H1 h h1){b:Addr}{ob:Obj}(q:h.get? b=some ob)(n:H b=none)(hx:b∉ex):∃sl,h1.get? b=some {ob with slots:=sl}:=by
 by_cases hb:b∈fs
 ·exact u.slot b ob q n hb hx
 ·exact⟨ob.slots,u.keep b ob q n hb hx⟩
theorem Un.kept(k:∀b u,h.get? b=some u->h'.get? b=some u):Un fs ex H H h h':=
 ⟨fun b ob q _ _ _=>k b ob q,fun b ob q _ _ _=>⟨ob.slots,k b ob q⟩,fun _ _ _ n _=>n,fun b ob q _=>⟨ob,k b ob q⟩,fun _ _ q=>q,fun _ _ _ q=>q,fun _ ps q=>⟨#[],by rw[q];simp⟩⟩
theorem Un.refl:Un fs ex H H h h:=Un.kept fun _ _ q=>q
theorem Un.laid(k:∀b u,h.get? b=some u->h'.get? b=some u)(hp:h.objs.size<=a)(hn:H a=none):Un fs ex H (upd H a o) h h' where
 keep:=fun b u q _ _ _=>k b u q
 slot:=fun b u q _ _ _=>⟨u.slots,k b u q⟩
 free:=fun b u q n _=>by rw[aK (c5 (dj (bG q) hp))];exact n
 there:=fun b u q _=>⟨u,k b u q⟩
 tups:=fun b xs q=>by rw[aK (iZ q hn)];exact q
 lP:=fun b u xs q=>by rw[aK (iZ q hn)];exact q
 l9:=fun b ps q=>⟨#[],by rw[aK (iZ q hn),q];simp⟩
theorem Un.write(mu:sH (H x))(he:e=x\/H e=some (.own x))(k:∀b u,b≠e->h.get? b=some u->h'.get? b=some u)(p5:∃u,h'.get? e=some u):Un fs ex H (upd H x o) h h':=by
 have hx:∀b,H b=none->b≠x:=fun b n z=>by subst z;rw[n] at mu;exact mu
 have hb:∀b,H b=none->b≠e:=fun b n z=>by
  subst z
  rcases he with r|r
  ·exact hx b n r
  ·rw[n] at r;cases r
 have hm:∀b u,H b=some u->¬sH (some u)->b≠x:=fun b u q nm z=>by subst z;rw[q] at mu;exact nm mu
 refine⟨fun b u q n _ _=>k b u (hb b n) q,fun b u q n _ _=>⟨u.slots,k b u (hb b n) q⟩,fun b u q n _=>by rw[aK (hx b n)];exact n,fun b u q _=>?_,
  fun b xs q=>by rw[aK (hm b _ q fun z=>z)];exact q,fun b u xs q=>by rw[aK (hm b _ q fun z=>z)];exact q,fun b ps q=>⟨#[],by rw[aK (hm b _ q fun z=>z),q];simp⟩⟩
 by_cases nY:b=e
 ·subst nY;exact p5
 ·exact⟨u,k b u nY q⟩
end
def v7(h:Heap)(H:Hp):List Addr:=(List.range h.objs.size).filter fun a=>(H a).isSome
def kZ(h:Heap)(H:Hp):Heap:=PySem.W.hideAll h (v7 h H)
theorem Pc(h:Heap)(H:Hp):(kZ h H).objs.size=h.objs.size:=PySem.W.hideAll_size _ _
theorem VF{h:Heap}{H:Hp}{b:Addr}{o:Obj}(e:h.get? b=some o)(n:H b=none):(kZ h H).get? b=some o:=
 PySem.W.hideAll_get _ e fun hm=>by
  have q:(H b).isSome=true:=(iP.mp hm).2
  rw[n] at q;simp at q
theorem RI{h:Heap}{H:Hp}{b:Addr}{o:Obj}(e:(kZ h H).get? b=some o):h.get? b=some o/\H b=none:=by
  have e':h.get? b=some o:=PySem.W.of_hideAll (v7 h H) e
  refine⟨e',?_⟩
  cases q:H b with
  |none=>rfl
  | some x =>
    have hm:b∈v7 h H:=iP.mpr ⟨nv.mpr (bG e'),by simp[q]⟩
    have z:(kZ h H).get? b=none:=PySem.W.hideAll_none (v7 h H) hm
    rw[z] at e;cases e
def ND(g h:Heap)(L:Addr):List (Addr×Obj):=(List.range h.objs.size).filterMap fun a=>if a=L\/(g.get? a).isSome=true then none else(h.get? a).map fun o=>(a,o)
def rest(g h:Heap)(L d:Addr):List (Addr×Obj):=(ND g h L).filter fun p=>decide (p.1≠d)
structure Mod(K:PySem.W.Frag)(mg:Str->Option Value)(base:Heap):Prop where
 Be:K.In base
 glob:base.Ns mainGlobals mg
 blt:∃mb,base.Ns builtinsNs mb/\∀x:Str,x≠"__name__" ->mb x=bootBuiltins x
 nolimit:base.NoLimit
structure Cx where
 prog:Program
 w:World
 K:PySem.W.Frag
 mg:Str->Option Value
 base:Heap
 A:Around
 N:List Str
 s₀:Shared
 H₀:Hp
 env:Env
 outer:List Env
 stack:List Env
 ex:List Addr
 fn:Str->Bool
 calm:Bool
 pn:List (Addr×Obj)
 xe:Value->Shared->Prop
def frs(l:List Env):List Addr:=l.filterMap (·.frame)
abbrev Cx.fs(X:Cx):List Addr:=frs X.outer
def Dn(sc:Scope)(x:Str):Prop:=sc.names.lookup x=some .local\/sc.names.lookup x=some .cell\/sc.names.lookup x=some .free
def Loc(sc:Scope)(x:Str):Prop:=sc.names.lookup x=some .local\/sc.names.lookup x=some .cell
def Look(env:Env)(h:Heap)(m:Str->Option Value)(x:Str)(u:Value):Prop:=
 (env.kindOf x=some .local/\m x=some u)\/((env.kindOf x=some .cell\/env.kindOf x=some .free)/\∃c,env.cells.lookup x=some c/\h.IsCell c (some u))
structure Cx.Ok(X:Cx):Prop where
 mod:Mod X.K X.mg X.base
 kind:X.env.scope.kind= .function
 glob:X.env.globals=mainGlobals
 blt:X.env.builtins=builtinsNs
 above:X.s₀.heap.objs.size<=X.env.locals
 inj:∀x y c,X.env.cells.lookup x=some c->X.env.cells.lookup y=some c->x=y
 has:∀x,(X.env.kindOf x=some .cell\/X.env.kindOf x=some .free)->∃c,X.env.cells.lookup x=some c
 rq:∀x c,X.fn x=true->X.env.cells.lookup x=some c->X.s₀.heap.objs.size<=c
 hd:X.calm=true->X.A.handled=none
 frames:X.A.frames=some X.stack
 stk:X.stack=X.outer\/(X.stack=X.env::X.outer/\X.env.frame=some X.env.locals)
 tw:∀b∈X.ex,b≠X.env.locals/\∀x c,X.env.cells.lookup x=some c->c≠b
 bs:∀b o,X.base.get? b=some o->X.s₀.heap.get? b=some o/\X.H₀ b=none
 oW:X.base.objs.size<=X.s₀.heap.objs.size
 sI:∀b o,X.base.get? b=some o->b∉X.ex
 qA:∀b∈X.ex,b∉X.fs
 jW:X.s₀.heap.FunFrames X.base X.outer
 ql:∀b∈X.fs,X.H₀ b=none
structure Inv(X:Cx)(pins:List (Addr×Obj))(σ:List (Option V))(H:Hp)(s:Shared):Prop where
 ok:X.Ok
 os:s.os=X.s₀.os
 bare:AllBare s.gens
 base:Un X.fs X.ex X.H₀ H X.s₀.heap s.heap
 loc:∃m,s.heap.Ns X.env.locals m/\∀(i:Nat) (x:Str) (v:V),X.N[i]?=some x->σ[i]?=some (some v)->Dn X.env.scope x->∃u,RelV v u/\Look X.env s.heap m x u
 cell:∀x c,X.env.cells.lookup x=some c->∃v,s.heap.IsCell c v
 free:H X.env.locals=none
 j4:∀x c,X.env.cells.lookup x=some c->H c=none
 pin:∀p∈X.pn++pins,s.heap.get? p.1=some p.2/\H p.1=none/\p.1≠X.env.locals/\p.1∉X.fs/\∀v,p.2.data≠ .cell v
 hok:c6 X.prog X.w H s.heap
 len:σ.length=X.N.length
section
variable{X:Cx}{pins:List (Addr×Obj)}{σ:List (Option V)}{H H':Hp}{s:Shared}{h':Heap}
theorem Cx.Ok.Nn(ok:X.Ok){b:Addr}{o:Obj}(e:X.base.get? b=some o):b∉X.fs:=fun hb=>by
 have:=(ok.jW.mem hb).1
 rw[e] at this;cases this
theorem Inv.bs(I:Inv X pins σ H s):∀b o,X.base.get? b=some o->s.heap.get? b=some o/\H b=none:=fun b o e=>
 ⟨I.base.keep b o (I.ok.bs b o e).1 (I.ok.bs b o e).2 (I.ok.Nn e) (I.ok.sI b o e),I.base.free b o (I.ok.bs b o e).1 (I.ok.bs b o e).2 (I.ok.sI b o e)⟩
theorem Inv.bk(I:Inv X pins σ H s):∀b o,X.base.get? b=some o->s.heap.get? b=some o:=fun b o e=>(I.bs b o e).1
theorem Inv.mod(I:Inv X pins σ H s):Mod X.K X.mg X.base:=I.ok.mod
theorem Inv.eF(I:Inv X pins σ H s):X.K.In s.heap:=I.ok.mod.Be.keeps I.bk
theorem Inv.lt(I:Inv X pins σ H s):X.env.locals<s.heap.objs.size:=let ⟨_,hn,_⟩:=I.loc;hn.lt
theorem Inv.sz(I:Inv X pins σ H s):X.s₀.heap.objs.size<=s.heap.objs.size:=eK I.ok.above (jl I.lt)
theorem Inv.Wf(I:Inv X pins σ H s){a:Addr}(h:s.heap.objs.size<=a):a∉X.fs:=fun hb=>by
 obtain⟨_,o,ho,_⟩:=I.ok.jW.mem hb
 exact absurd (dj (bG ho) (eK I.sz h)) (jB _)
theorem Inv.nF(I:Inv X pins σ H s):∀x c,X.env.cells.lookup x=some c->c≠X.env.locals:=fun x c e z=>by
 obtain⟨v,o,ho,hd⟩:=I.cell x c e
 obtain⟨m,⟨o',es,ep,ho',hd',_⟩,_⟩:=I.loc
 rw[z,ho'] at ho;cases ho;rw[hd'] at hd;cases hd
theorem Inv.jW(I:Inv X pins σ H s):s.heap.FunFrames X.base X.outer:=by
  have all:∀(l:List Env),(∀b∈frs l,b∈X.fs)->X.s₀.heap.FunFrames X.base l->s.heap.FunFrames X.base l:=by
    intro l
    induction l with
    |nil=>intro _ _;trivial
    | cons env r ih =>
      intro hs hl
      obtain⟨hk,⟨L,o,hf,hn,ho,hd⟩,hr⟩:=hl
      have hL:L∈X.fs:=hs L (by unfold frs;rw[pL,hf];exact cB)
      obtain⟨sl,e⟩:=I.base.slot L o ho (I.ok.ql L hL) hL fun z=>I.ok.qA L z hL
      exact⟨hk,⟨L,_,hf,hn,e,hd⟩,ih (fun b hb=>hs b (by unfold frs;rw[pL,hf];exact cX _ hb)) hr⟩
  exact all X.outer (fun _ hb=>hb) I.ok.jW
theorem Inv.stack(I:Inv X pins σ H s):s.heap.FunFrames X.base X.stack:=by
 rcases I.ok.stk with e|⟨e,hf⟩
 ·rw[e];exact I.jW
 ·rw[e]
  obtain⟨m,hn,_⟩:=I.loc
  refine .cons (by rw[I.ok.kind];decide) hf hn ?_ I.jW
  exact Heap.get?_none_of_le (eK I.ok.oW I.ok.above)
theorem Inv.BF(I:Inv X pins σ H s):∀b∈frs X.stack,b∈X.env.locals::X.fs:=fun b hb=>by
 rcases I.ok.stk with e|⟨e,hf⟩
 ·rw[e] at hb;exact cX _ hb
 ·rw[e] at hb
  unfold frs at hb
  rw[pL,hf] at hb
  exact hb
theorem Inv.GQ(I:Inv X pins σ H s):∀b∈frs X.stack,H b=none:=fun b hb=>by
 rcases aP.mp (I.BF b hb) with e|hb
 ·rw[e];exact I.free
 ·obtain⟨_,o,ho,_⟩:=I.ok.jW.mem hb
  exact I.base.free b o ho (I.ok.ql b hb) fun z=>I.ok.qA b z hb
theorem Inv.step{g':Array GenState}{t':Nat}{d':Drawn}{ch:List Addr}(I:Inv X pins σ H s)
  (hch:∀b∈ch,(b∈X.ex\/X.s₀.heap.objs.size<=b)/\b≠X.env.locals/\(∀x c,X.env.cells.lookup x=some c->c≠b)/\∀p∈X.pn++pins,p.1≠b)
  (keep:∀b o,b≠X.env.locals->b∉X.fs->b∉ch->s.heap.get? b=some o->H b=none->h'.get? b=some o)
  (slot:∀b o,b≠X.env.locals->b∈X.fs->b∉ch->s.heap.get? b=some o->H b=none->∃sl,h'.get? b=some {o with slots:=sl}) (free:∀b o,b∉ch->s.heap.get? b=some o->H b=none->H' b=none)
  (there:∀b o,b∉ch->s.heap.get? b=some o->∃o',h'.get? b=some o')
  (tups:∀b xs,H b=some (.tup xs)->H' b=some (.tup xs)) (lP:∀b o u,H b=some (.gX o u)->H' b=some (.gX o u)) (l9:∀b ps,H b=some (.n5 ps)->∃more,H' b=some (.n5 (ps++more)))
  (ns:∀m,s.heap.Ns X.env.locals m->h'.Ns X.env.locals m) (hok:c6 X.prog X.w H' h') (hg:AllBare g'):
  Inv X pins σ H' {s with heap:=h',gens:=g',drawn:=d',toks:=t'}:=by
 have DA:∀b o,X.s₀.heap.get? b=some o->b≠X.env.locals:=fun b o e=>c5 (dj (bG e) I.ok.above)
 have t6:∀b o,X.s₀.heap.get? b=some o->b∉X.ex->b∉ch:=fun b o e hx hb=>by
  rcases(hch b hb).1 with z|z
  ·exact hx z
  ·exact absurd (dj (bG e) z) (jB _)
 have cellK:∀x c,X.env.cells.lookup x=some c->∀v,s.heap.IsCell c v->h'.IsCell c v:=fun x c e v ⟨o,ho,hd⟩=>by
  have rF:c∉ch:=fun z=>(hch c z).2.2.1 x c e rfl
  by_cases hc:c∈X.fs
  ·obtain⟨sl,q⟩:=slot c o (I.nF x c e) hc rF ho (I.j4 x c e)
   exact⟨_,q,hd⟩
  ·exact⟨o,keep c o (I.nF x c e) hc rF ho (I.j4 x c e),hd⟩
 refine⟨I.ok,I.os,hg,⟨fun b o e n hb hx=>?_,fun b o e n hb hx=>?_,fun b o e n hx=>?_,fun b o e hx=>?_,fun b xs e=>tups b xs (I.base.tups b xs e),fun b o xs e=>lP b o xs (I.base.lP b o xs e),fun b ps e=>?_⟩,?_,fun x c e=>?_,?_,fun x c e=>?_,fun p hp=>?_,hok,I.len⟩
 ·exact keep b o (DA b o e) hb (t6 b o e hx) (I.base.keep b o e n hb hx) (I.base.free b o e n hx)
 ·obtain⟨sl,e1⟩:=I.base.slot b o e n hb hx
  obtain⟨QT,e2⟩:=slot b _ (DA b o e) hb (t6 b o e hx) e1 (I.base.free b o e n hx)
  exact⟨QT,e2⟩
 ·obtain⟨o',e1⟩:=I.base.there b o e hx
  exact free b o' (t6 b o e hx) e1 (I.base.free b o e n hx)
 ·obtain⟨o',e1⟩:=I.base.there b o e hx
  exact there b o' (t6 b o e hx) e1
 ·obtain⟨m1,e1⟩:=I.base.l9 b ps e
  obtain⟨m2,e2⟩:=l9 b _ e1
  exact⟨m1++m2,by rw[e2,Array.append_assoc]⟩
 ·obtain⟨m,hn,hl⟩:=I.loc
  refine⟨m,ns m hn,fun i x v e1 e2 e3=>?_⟩
  obtain⟨u,r,l⟩:=hl i x v e1 e2 e3
  refine⟨u,r,?_⟩
  rcases l with l|⟨k,c,e,z⟩
  ·exact .inl l
  ·exact .inr ⟨k,c,e,cellK x c e _ z⟩
 ·obtain⟨v,z⟩:=I.cell x c e
  exact⟨v,cellK x c e v z⟩
 ·obtain⟨m,⟨o,_,_,ho,_⟩,_⟩:=I.loc
  exact free _ o (fun z=>(hch _ z).2.1 rfl) ho I.free
 ·obtain⟨v,o,ho,hd⟩:=I.cell x c e
  exact free c o (fun z=>(hch c z).2.2.1 x c e rfl) ho (I.j4 x c e)
 ·obtain⟨e,n,ne,nf,d⟩:=I.pin p hp
  have rF:p.1∉ch:=fun z=>(hch p.1 z).2.2.2 p hp rfl
  exact⟨keep p.1 p.2 ne nf rF e n,free p.1 p.2 rF e n,ne,nf,d⟩
theorem Inv.un{t':Nat}(I:Inv X pins σ H s)(u:Un X.fs [] H H' s.heap h')(hok:c6 X.prog X.w H' h'):Inv X pins σ H' {s with heap:=h',toks:=t'}:=by
 obtain⟨m,⟨o,es,ep,ho,r⟩,_⟩:=id I.loc
 obtain⟨sl,hL⟩:=u.any ho I.free (by simp)
 exact I.step (g':=s.gens) (d':=s.drawn) (ch:=[]) (fun _ z=>nomatch z) (fun b o _ hb _ e n=>u.keep b o e n hb (by simp)) (fun b o _ hb _ e n=>u.slot b o e n hb (by simp)) (fun b o _ e n=>u.free b o e n (by simp)) (fun b o _ e=>u.there b o e (by simp)) u.tups u.lP u.l9 (fun m' hm=>by
  obtain⟨o',es',uT,ho',r'⟩:=hm
  rw[ho] at ho';cases ho'
  exact⟨_,es',uT,hL,r'⟩) hok I.bare
theorem Inv.call{g':Array GenState}{t':Nat}{d':Drawn}{ch:List Addr}(I:Inv X pins σ H s)(u:Un (frs X.stack) ch H H' s.heap h')(hok:c6 X.prog X.w H' h')(hg:AllBare g')
  (hch:∀b∈ch,(b∈X.ex\/X.s₀.heap.objs.size<=b)/\b≠X.env.locals/\(∀x c,X.env.cells.lookup x=some c->c≠b)/\∀p∈X.pn++pins,p.1≠b):
  Inv X pins σ H' {s with heap:=h',gens:=g',drawn:=d',toks:=t'}:=by
 obtain⟨m,⟨o,es,ep,ho,r⟩,_⟩:=id I.loc
 obtain⟨sl,hL⟩:=u.any ho I.free fun z=>(hch _ z).2.1 rfl
 exact I.step (ch:=ch) hch (fun b o hL hb hc e n=>u.keep b o e n (fun z=>(aP.mp (I.BF b z)).elim hL hb) hc) (fun b o _ _ hc e n=>u.any e n hc) (fun b o hc e n=>u.free b o e n hc) (fun b o hc e=>u.there b o e hc) u.tups u.lP u.l9 (fun m' hm=>by
  obtain⟨o',es',uT,ho',r'⟩:=hm
  rw[ho] at ho';cases ho'
  exact⟨_,es',uT,hL,r'⟩) hok hg
theorem Inv.turned{t':Nat}{it:Addr}(I:Inv X pins σ H s)(k:∀b o,b≠it->s.heap.get? b=some o->h'.get? b=some o)(hn:H it=none)(hL:it≠X.env.locals)
  (h1:it∈X.ex\/X.s₀.heap.objs.size<=it) (h2:∀x c,X.env.cells.lookup x=some c->c≠it) (h3:∀p∈X.pn++pins,p.1≠it):Inv X pins σ H {s with heap:=h',toks:=t'}:=by
 have GZ:∀b u,H b=some u->b≠it:=fun b u e z=>by rw[z,hn] at e;cases e
 refine I.step (g':=s.gens) (d':=s.drawn) (ch:=[it]) (fun b hb=>?_) (fun b o _ _ hc e _=>k b o (fun z=>hc (by simp[z])) e) (fun b o _ _ hc e _=>⟨o.slots,k b o (fun z=>hc (by simp[z])) e⟩) (fun _ _ _ _ n=>n)
  (fun b o hc e=>⟨o,k b o (fun z=>hc (by simp[z])) e⟩) (fun _ _ e=>e) (fun _ _ _ e=>e) (fun b ps e=>⟨#[],by rw[e];simp⟩) (fun m hm=>?_) (fun b u e=>?_) I.bare
 ·have e:b=it:=by simpa using hb
  subst e
  exact⟨h1,hL,h2,h3⟩
 ·obtain⟨o,es,ep,ho,r⟩:=hm
  exact⟨o,es,ep,k _ o (bw hL) ho,r⟩
 ·refine(I.hok b u e).stay (fun c v hc q=>k c v ?_ q) (fun _ q=>q) fun _ _ q=>q
  rcases hc with z|z
  ·rw[z];exact GZ b u e
  ·exact GZ c _ z
theorem Inv.tok(I:Inv X pins σ H s)(t:Nat):Inv X pins σ H {s with toks:=t}:=I.un (h':=s.heap) (t':=t) Un.refl I.hok
theorem Inv.kept{t':Nat}(I:Inv X pins σ H s)(k:∀b u,s.heap.get? b=some u->h'.get? b=some u):Inv X pins σ H {s with heap:=h',toks:=t'}:=I.un (Un.kept k) (I.hok.kept k)
theorem Inv.laid{a:Addr}{o:HO}{t':Nat}(I:Inv X pins σ H s)(k:∀b u,s.heap.get? b=some u->h'.get? b=some u)(hp:s.heap.objs.size<=a)(new:bU X.prog X.w (upd H a o) h' a o):
  Inv X pins σ (upd H a o) {s with heap:=h',toks:=t'}:=I.un (Un.laid k hp (I.hok.fresh hp)) (I.hok.laid k hp new)
theorem Inv.write{x e:Addr}{o:HO}{t':Nat}(I:Inv X pins σ H s)(mu:sH (H x))(he:e=x\/H e=some (.own x))(k:∀b u,b≠e->s.heap.get? b=some u->h'.get? b=some u)(p5:∃u,h'.get? e=some u)
  (new:bU X.prog X.w (upd H x o) h' x o):Inv X pins σ (upd H x o) {s with heap:=h',toks:=t'}:=I.un (Un.write mu he k p5) (I.hok.write mu he k p5 new)
theorem Inv.G3{Gs:List (Addr×Obj)}(I:Inv X pins σ H s)(h:∀p∈Gs,s.heap.get? p.1=some p.2/\H p.1=none/\p.1≠X.env.locals/\p.1∉X.fs/\∀v,p.2.data≠ .cell v):Inv X Gs σ H s:=
 ⟨I.ok,I.os,I.bare,I.base,I.loc,I.cell,I.free,I.j4,fun p hp=>(cD.mp hp).elim (fun z=>I.pin p (oN _ z)) (h p),I.hok,I.len⟩
theorem IV{N:List Str}(hN:N.Nodup){i j:Nat}{x:Str}(a:N[i]?=some x)(b:N[j]?=some x):i=j:=by
 obtain⟨h1,e1⟩:=aR.mp a
 obtain⟨h2,e2⟩:=aR.mp b
 exact(qw hN).mp (e1.trans e2.symm)
theorem II{M:Model}{A:Around}{E:Value->Shared->Prop}{i:Nat}{x:Str}{v:V}{u:Value}{Q:Unit->Shared->Prop}(I:Inv X pins σ H s)(hN:X.N.Nodup)(hi:X.N[i]?=some x)(hx:Loc X.env.scope x)(r:RelV v u)
  (h:∀s',Inv X pins (σ.set i (some v)) H s'->(∃a,Heap.SameBut a s.heap s'.heap/\(a=X.env.locals\/X.env.cells.lookup x=some a))->Q () s') (hf:X.fn x=true\/X.env.scope.names.lookup x=some .local:=by first|exact .inl rfl|exact .inr rfl|assumption):wpAny M A (storeName X.env x u) Q E s:=by
 obtain⟨m,hn,hl⟩:=id I.loc
 have hcls:(X.env.scope.kind== .class||(X.env.scope.kind== .module && X.env.locals !=X.env.globals))=false:=by rw[I.ok.kind];rfl
 have Iz:i<σ.length:=by rw[I.len];exact(aR.mp hi).1
 have nF:=I.nF
 have tracked:∀{a:Addr} {h':Heap},(∃o,s.heap.get? a=some o/\H a=none)->Heap.SameBut a s.heap h'->c6 X.prog X.w H h':=fun{a h'} ha hs b ob e=>by
  obtain⟨_,_,hfree⟩:=ha
  refine(I.hok b ob e).stay (fun c w' hc q=>(hs.2 c ?_).trans q) (fun _ q=>q) fun _ _ q=>q
  rintro rfl
  rcases hc with rfl|hc
  ·rw[hfree] at e;cases e
  ·rw[hfree] at hc;cases hc
 rcases hx with hk|hk
 ·refine wpAny_storeName_local hk hn (fun h' hn' hs=>?_) hcls
  obtain⟨oL,_,_,wu,_⟩:=id hn
  refine h _ ⟨I.ok,I.os,I.bare,⟨fun b o e n hb hx=>?_,fun b o e n hb hx=>?_,I.base.free,fun b o e hx=>?_,I.base.tups,I.base.lP,I.base.l9⟩,⟨_,hn',fun j y v' e1 e2 e3=>?_⟩,fun y c e=>?_,I.free,I.j4,fun p hp=>?_,tracked ⟨oL,wu,I.free⟩ hs,by simpa using I.len⟩ ⟨_,hs, .inl rfl⟩
  ·exact(hs.2 b (c5 (dj (bG e) I.ok.above))).trans (I.base.keep b o e n hb hx)
  ·obtain⟨sl,e1⟩:=I.base.slot b o e n hb hx
   exact⟨sl,(hs.2 b (c5 (dj (bG e) I.ok.above))).trans e1⟩
  ·obtain⟨o',e1⟩:=I.base.there b o e hx
   exact⟨o',(hs.2 b (c5 (dj (bG e) I.ok.above))).trans e1⟩
  ·by_cases hj:j=i
   ·subst hj
    rw[hi] at e1;cases e1
    rw[cQ Iz] at e2
    cases e2
    exact⟨u,r, .inl ⟨hk,by simp⟩⟩
   ·rw[bH (bw hj)] at e2
    obtain⟨u',r',q⟩:=hl j y v' e1 e2 e3
    refine⟨u',r',?_⟩
    rcases q with ⟨k,e⟩|⟨k,c,e,z⟩
    ·refine .inl ⟨k,?_⟩
     have:y≠x:=fun e=>hj (IV hN e1 (e▸hi))
     simp[this,e]
    ·exact .inr ⟨k,c,e,z.sameBut hs (nF y c e)⟩
  ·obtain⟨w',z⟩:=I.cell y c e
   exact⟨w',z.sameBut hs (nF y c e)⟩
  ·obtain⟨e,n,ne,nf,d⟩:=I.pin p hp
   exact⟨(hs.2 p.1 ne).trans e,n,ne,nf,d⟩
 ·have hfn:X.fn x=true:=by
   rcases hf with z|z
   ·exact z
   ·rw[z] at hk;cases hk
  obtain⟨c,hc⟩:=I.ok.has x (.inl hk)
  obtain⟨w',z⟩:=I.cell x c hc
  refine wpAny_storeName_cell I.ok.kind hk hc z (fun h' hc' hs=>?_)
  obtain⟨oc,hoc,P4⟩:=id z
  refine h {s with heap:=h'} ⟨I.ok,I.os,I.bare,⟨fun b o e n hb hx=>?_,fun b o e n hb hx=>?_,I.base.free,fun b o e hx=>?_,I.base.tups,I.base.lP,I.base.l9⟩,⟨m,hn.sameBut hs (bw (nF x c hc)),fun j y v' e1 e2 e3=>?_⟩,fun y c' e=>?_,I.free,I.j4,fun p hp=>?_,tracked ⟨oc,hoc,I.j4 x c hc⟩ hs,by simpa using I.len⟩ ⟨c,hs, .inr hc⟩
  ·exact(hs.2 b (c5 (dj (bG e) (I.ok.rq x c hfn hc)))).trans (I.base.keep b o e n hb hx)
  ·obtain⟨sl,e1⟩:=I.base.slot b o e n hb hx
   exact⟨sl,(hs.2 b (c5 (dj (bG e) (I.ok.rq x c hfn hc)))).trans e1⟩
  ·obtain⟨o',e1⟩:=I.base.there b o e hx
   exact⟨o',(hs.2 b (c5 (dj (bG e) (I.ok.rq x c hfn hc)))).trans e1⟩
  ·by_cases hj:j=i
   ·subst hj
    rw[hi] at e1;cases e1
    rw[cQ Iz] at e2
    cases e2
    exact⟨u,r, .inr ⟨.inl hk,c,hc,hc'⟩⟩
   ·rw[bH (bw hj)] at e2
    obtain⟨u',r',q⟩:=hl j y v' e1 e2 e3
    refine⟨u',r',?_⟩
    rcases q with q|⟨k,c',e,z'⟩
    ·exact .inl q
    ·refine .inr ⟨k,c',e,z'.sameBut hs ?_⟩
     rintro rfl
     exact hj (IV hN e1 (I.ok.inj _ _ _ e hc▸hi))
  ·by_cases hcc:c'=c
   ·subst hcc;exact⟨_,hc'⟩
   ·obtain⟨w2,z2⟩:=I.cell y c' e
    exact⟨w2,z2.sameBut hs hcc⟩
  ·obtain⟨e,n,ne,nf,d⟩:=I.pin p hp
   refine⟨(hs.2 p.1 ?_).trans e,n,ne,nf,d⟩
   intro q
   rw[q,hoc] at e
   have q':oc=p.2:=gf e
   exact d w' (by rw[<-q'];exact P4)
theorem Ir{M:Model}{A:Around}{E:Value->Shared->Prop}{i:Nat}{x:Str}{v:V}{u:Value}{Q:Unit->Shared->Prop}(I:Inv X pins σ H s)(hN:X.N.Nodup)(hi:X.N[i]?=some x)(hx:Loc X.env.scope x)(r:RelV v u)
  (h:∀s',Inv X pins (σ.set i (some v)) H s'->Q () s') (hf:X.fn x=true\/X.env.scope.names.lookup x=some .local:=by first|exact .inl rfl|exact .inr rfl|assumption):wpAny M A (storeName X.env x u) Q E s:=
 II I hN hi hx r (fun s' I' _=>h s' I') hf
theorem Inv.Sx{s':Shared}{ch:List Addr}(I:Inv X pins σ H s)(ho:s'.os=s.os)(u:Un (frs X.stack) ch H H' s.heap s'.heap)(hok:c6 X.prog X.w H' s'.heap)(hg:AllBare s'.gens)
  (hch:∀b∈ch,(b∈X.ex\/X.s₀.heap.objs.size<=b)/\b≠X.env.locals/\(∀x c,X.env.cells.lookup x=some c->c≠b)/\∀p∈X.pn++pins,p.1≠b):Inv X pins σ H' s':=by
 obtain⟨h',g',d',t',o'⟩:=s'
 have e:o'=s.os:=ho
 subst e
 exact I.call (g':=g') (t':=t') (d':=d') u hok hg hch
end
abbrev XK:=Value->Option Addr->Hp->Prop
abbrev St:=List (Option V)
abbrev VK:=V->Hp->Prop
abbrev TE:=St->Hp->VK->Prop
abbrev TT:=St->Hp->(Bool->Hp->Prop)->Prop
abbrev TA:=St->Hp->(List V->Hp->Prop)->Prop
structure Ends where
 nx:St->Hp->Prop
 rt:VK
 bk:St->Hp->Prop:=fun _ _=>False
 ct:St->Hp->Prop:=fun _ _=>False
abbrev TS:=Ends->St->Hp->Prop
def EP(X:Cx)(pins:List (Addr×Obj))(σ:St)(Q:VK)(u:Value)(s':Shared):Prop:=∃v H',Inv X pins σ H' s'/\RelV v u/\Q v H'
def TP(X:Cx)(pins:List (Addr×Obj))(σ:St)(Q:Bool->Hp->Prop)(b:Bool)(s':Shared):Prop:=∃H',Inv X pins σ H' s'/\Q b H'
def AP(X:Cx)(pins:List (Addr×Obj))(σ:St)(Q:List V->Hp->Prop)(us:List Value)(s':Shared):Prop:=∃vs H',Inv X pins σ H' s'/\Vals vs us/\Q vs H'
def SP(X:Cx)(pins:List (Addr×Obj))(D:Ends)(f:Flow)(s':Shared):Prop:=
 match f with
 | .next=>∃σ' H',Inv X pins σ' H' s'/\D.nx σ' H'
 | .brk=>∃σ' H',Inv X pins σ' H' s'/\D.bk σ' H'
 | .cont=>∃σ' H',Inv X pins σ' H' s'/\D.ct σ' H'
 | .ret u=>∃v σ' H',Inv X pins σ' H' s'/\RelV v u/\D.rt v H'
def PE(X:Cx)(e:Expr)(t:TE):Prop:=
 ∀(pins:List (Addr×Obj)) (s:Shared) (σ:St) (H:Hp) (Q:VK),Inv X pins σ H s->t σ H Q->wpAny (model X.prog X.w) X.A (eval e X.env) (EP X pins σ Q) X.xe s
def PT(X:Cx)(e:Expr)(t:TT):Prop:=
 ∀(pins:List (Addr×Obj)) (s:Shared) (σ:St) (H:Hp) (Q:Bool->Hp->Prop),Inv X pins σ H s->t σ H Q->wpAny (model X.prog X.w) X.A (isTrue e X.env (eval e X.env)) (TP X pins σ Q) X.xe s
def PW(X:Cx)(e:Expr)(t:TT):Prop:=
 ∀(whole:Sem Value) (pins:List (Addr×Obj)) (s:Shared) (σ:St) (H:Hp) (Q:Bool->Hp->Prop),Inv X pins σ H s->t σ H Q->wpAny (model X.prog X.w) X.A (isTrue e X.env whole) (TP X pins σ Q) X.xe s
theorem PW.pt{X:Cx}{e:Expr}{t:TT}(h:PW X e t):PT X e t:=h _
def PA(X:Cx)(es:List Expr)(t:TA):Prop:=
 ∀(pos:Pos) (pins:List (Addr×Obj)) (s:Shared) (σ:St) (H:Hp) (Q:List V->Hp->Prop),Inv X pins σ H s->t σ H Q->wpAny (model X.prog X.w) X.A (spliced (backTo pos (starEach es X.env))) (AP X pins σ Q) X.xe s
def PS(X:Cx)(st:Stmt)(t:TS):Prop:=
 ∀(pins:List (Addr×Obj)) (s:Shared) (σ:St) (H:Hp) (D:Ends),Inv X pins σ H s->t D σ H->wpAny (model X.prog X.w) X.A (exec st X.env) (SP X pins D) X.xe s
def jk(X:Cx)(st:List Stmt)(t:TS):Prop:=
 ∀(pins:List (Addr×Obj)) (s:Shared) (σ:St) (H:Hp) (D:Ends),Inv X pins σ H s->t D σ H->wpAny (model X.prog X.w) X.A (execs st X.env) (SP X pins D) X.xe s
theorem aW{α:Type}{t:Sem α}{Q Q':α->Shared->Prop}{M:Model}{A:Around}{E:Value->Shared->Prop}{s:Shared}(h:wpAny M A t Q E s)(hQ:∀a s,Q a s->Q' a s):wpAny M A t Q' E s:=wpAny_mono h hQ fun _ _ x=>x
section
variable{X:Cx}
theorem bin{a b:Expr}{ta tb:TE}(ha:PE X a ta)(hb:PE X b tb){pins:List (Addr×Obj)}{s:Shared}{σ:St}{H:Hp}{R:V->V->Hp->Prop}(I:Inv X pins σ H s)(h:ta σ H fun x H1=>tb σ H1 fun y H2=>R x y H2)
  {α:Type} {Q:α->Shared->Prop} {f:Value->Value->Sem α}
  (hf:∀v u s2 x y H2,Inv X pins σ H2 s2->RelV x v->RelV y u->R x y H2->wpAny (model X.prog X.w) X.A (f v u) Q X.xe s2):
  wpAny (model X.prog X.w) X.A (eval a X.env) (fun v s₁=>wpAny (model X.prog X.w) X.A (eval b X.env) (fun u s₂=>wpAny (model X.prog X.w) X.A (f v u) Q X.xe s₂) X.xe s₁) X.xe s:=by
 refine aW (ha pins s σ H _ I h) fun v s1 ⟨x,H1,I1,r1,q1⟩=>?_
 refine aW (hb pins s1 σ H1 _ I1 q1) fun u s2 ⟨y,H2,I2,r2,q2⟩=>?_
 exact hf v u s2 x y H2 I2 r1 r2 q2
def cZ(i:Nat):TE:=fun σ H Q=>∃v,σ[i]?=some (some v)/\Q v H
def tC(v:V):TE:=fun _ H Q=>Q v H
theorem NJ{i:Nat}{x:Str}{pos:Pos}(hN:X.N[i]?=some x)(hv:Dn X.env.scope x)(hd:(x==("__debug__":Str))=false:=by decide)(hcd:(x==("__classdict__":Str))=false:=by decide):PE X (.Name x pos) (cZ i):=by
 intro pins s σ H Q I h
 obtain⟨v,e,h⟩:=h
 obtain⟨m,hn,hl⟩:=I.loc
 obtain⟨u,r,l⟩:=hl i x v hN e hv
 have fin:EP X pins σ Q u s:=⟨v,H,I,r,h⟩
 rcases l with ⟨hk,hm⟩|⟨hk,c,hc,hcell⟩
 ·exact wpAny_Name (wpAny_loadName_local I.ok.kind hk hn hm fin) hd
 ·rcases hk with hk|hk
  ·exact wpAny_Name (wpAny_loadName_cell I.ok.kind hk hc hcell fin) hd
  ·exact wpAny_Name (wpAny_loadName_free I.ok.kind hk hc hcell fin hcd) hd
theorem ai{i j pos}:PE X (.Constant (.int i) j pos) (tC (.int i)):=fun _ _ _ H _ I h=>wpAny_Constant_int ⟨.int i,H,I.tok _,⟨_,rfl⟩,h⟩
theorem mP{b j pos}:PE X (.Constant (.bool b) j pos) (tC (.bl b)):=fun _ _ _ H _ I h=>Constant_bool ⟨.bl b,H,I,rfl,h⟩
theorem mF{j pos}:PE X (.Constant .none j pos) (tC .aL):=fun _ _ _ H _ I h=>Constant_none ⟨.aL,H,I,rfl,h⟩
def Gl(X:Cx)(x:Str):Prop:=X.env.kindOf x=some .globalImplicit
theorem Np{E:Value->Shared->Prop}{pins:List (Addr×Obj)}{s:Shared}{σ:St}{H:Hp}{x:Str}{u:Value}{pos:Pos}{Q:Value->Shared->Prop}(I:Inv X pins σ H s)(hg:Gl X x)(hm:X.mg x=some u)(h:Q u s)
  (hd:(x==("__debug__":Str))=false:=by decide):wpAny (model X.prog X.w) X.A (eval (.Name x pos) X.env) Q E s:=
 FD I.ok.kind hg (Calls.loadGlobal_global (by rw[I.ok.glob];exact I.mod.glob.keeps I.bk) hm h) hd
theorem qc{E:Value->Shared->Prop}{pins:List (Addr×Obj)}{s:Shared}{σ:St}{H:Hp}{x:Str}{u:Value}{pos:Pos}{Q:Value->Shared->Prop}(I:Inv X pins σ H s)(hg:Gl X x)(hm:X.mg x=none)(hv:bootBuiltins x=some u)(h:Q u s)
  (hn:x≠"__name__":=by decide) (hd:(x==("__debug__":Str))=false:=by decide):wpAny (model X.prog X.w) X.A (eval (.Name x pos) X.env) Q E s:=by
 obtain⟨mb,h1,h2⟩:=I.mod.blt
 exact FD I.ok.kind hg (Calls.loadGlobal_builtin (by rw[I.ok.glob];exact I.mod.glob.keeps I.bk) hm (by rw[I.ok.blt];exact h1.keeps I.bk) ((h2 x hn).trans hv) h) hd
theorem jF{x:Str}{v:V}{u:Value}{pos:Pos}(hg:Gl X x)(hm:X.mg x=none)(hv:bootBuiltins x=some u)(r:RelV v u)(hn:x≠"__name__":=by decide)(hd:(x==("__debug__":Str))=false:=by decide):PE X (.Name x pos) (tC v):=
 fun _ _ _ H _ I h=>qc I hg hm hv ⟨v,H,I,r,h⟩ hn hd
variable{a b:Expr}{ta tb:TE}{pos:Pos}
def PC(X:Cx)(op:CmpOp)(a b:Expr)(t:TE):Prop:=
 ∀(pins:List (Addr×Obj)) (s:Shared) (σ:St) (H:Hp) (Q:VK),Inv X pins σ H s->t σ H Q->
  wpAny (model X.prog X.w) X.A (eval a X.env) (fun v s₁=>wpAny (model X.prog X.w) X.A (eval b X.env) (fun u s₂=>wpAny (model X.prog X.w) X.A (compareOp op v u) (EP X pins σ Q) X.xe s₂) X.xe s₁) X.xe s
variable{tA vJ:TT}{rest:List Expr}
def Dj(t u:TT):TT:=fun σ H Q=>t σ H fun c H1=>if c=true then u σ H1 Q else Q false H1
def HJ(t u:TT):TT:=fun σ H Q=>t σ H fun c H1=>if c=true then Q true H1 else u σ H1 Q
def Fq(t:TT):TT:=fun σ H Q=>t σ H fun c H1=>Q (!c) H1
theorem nI(ha:PT X a tA):PW X (.BoolOp .And [a] pos) tA:=by
 intro wh pins s σ H Q I h
 refine isTrue_and (aW (ha pins s σ H Q I h) fun c s1 e=>?_)
 cases c with
 |true=>exact isTrue_and_nil e
 |false=>exact e
theorem sC(ha:PT X a tA):PW X (.BoolOp .Or [a] pos) tA:=by
 intro wh pins s σ H Q I h
 refine isTrue_or (aW (ha pins s σ H Q I h) fun c s1 e=>?_)
 cases c with
 |false=>exact isTrue_or_nil e
 |true=>exact e
theorem oE(ha:PT X a tA)(hb:PW X (.BoolOp .And (b::rest) pos) vJ):PW X (.BoolOp .And (a::b::rest) pos) (Dj tA vJ):=by
 intro wh pins s σ H Q I h
 refine isTrue_and (aW (ha pins s σ H _ I h) fun c s1 ⟨H1,I1,q1⟩=>?_)
 cases c with
 |true=>exact hb wh pins s1 σ H1 Q I1 q1
 |false=>exact⟨H1,I1,q1⟩
theorem rQ(ha:PT X a tA)(hb:PW X (.BoolOp .Or (b::rest) pos) vJ):PW X (.BoolOp .Or (a::b::rest) pos) (HJ tA vJ):=by
 intro wh pins s σ H Q I h
 refine isTrue_or (aW (ha pins s σ H _ I h) fun c s1 ⟨H1,I1,q1⟩=>?_)
 cases c with
 |true=>exact⟨H1,I1,q1⟩
 |false=>exact hb wh pins s1 σ H1 Q I1 q1
theorem EB(ha:PT X a tA):PT X (.UnaryOp .Not a pos) (Fq tA):=by
 intro pins s σ H Q I h
 exact isTrue_not (ha pins s σ H (fun c H1=>Q (!c) H1) I h)
def Gu(ta tb:TE):TE:=fun σ H Q=>ta σ H fun x H1=>∃c,x= .bl c/\if c=true then tb σ H1 Q else Q (.bl false) H1
theorem FY{op}{t:TE}(h:PE X a t):PE X (.BoolOp op [a] pos) t:=fun pins s σ H Q I hw=>BoolOp_one (h pins s σ H Q I hw)
theorem Gz(ha:PE X a ta)(hb:PE X (.BoolOp .And (b::rest) pos) tb):PE X (.BoolOp .And (a::b::rest) pos) (Gu ta tb):=by
 intro pins s σ H Q I h
 refine BoolOp_and (aW (ha pins s σ H _ I h) fun v s1 ⟨x,H1,I1,r1,q1⟩=>?_)
 obtain⟨c,rfl,q1⟩:=q1
 cases r1
 refine wpAny_truthy_bool ?_
 cases c with
 |true=>exact hb pins s1 σ H1 Q I1 q1
 |false=>exact⟨.bl false,H1,I1,rfl,q1⟩
def IM(t:TT)(ta tb:TE):TE:=fun σ H Q=>t σ H fun c H1=>if c=true then ta σ H1 Q else tb σ H1 Q
theorem FF{c:Expr}(hc:PT X c tA)(ha:PE X a ta)(hb:PE X b tb):PE X (.IfExp c a b pos) (IM tA ta tb):=by
 intro pins s σ H Q I h
 refine wpAny_IfExp (aW (hc pins s σ H _ I h) fun d s1 ⟨H1,I1,q1⟩=>?_)
 cases d with
 |true=>exact ha pins s1 σ H1 Q I1 q1
 |false=>exact hb pins s1 σ H1 Q I1 q1
end
def aV(K:PySem.W.Frag)(H:Hp)(a:Addr)(xs:List V):Prop:=
 Rd H a (.lst xs)\/
  ∃(o:Obj) (its:Array Value) (n:Nat),K.lookup a=some o/\o.cls= .type "list" /\o.dict=none/\o.data= .seq its n/\its.size<=sizeLine/\Vals xs its.toList
def gh(K:PySem.W.Frag)(H:Hp)(a:Addr)(xs:List V):Prop:=
 Rd H a (.tup xs)\/
  ∃(o:Obj) (its:Array Value) (n:Nat),K.lookup a=some o/\o.cls= .type "tuple" /\o.data= .seq its n/\its.size<=sizeLine/\Vals xs its.toList
def T3:Value->Option V
 | .none=>some .aL
 | .bool b=>some (.bl b)
 | .int i _=>some (.int i)
 | .str x _=>some (.str x)
 | .bytes b _=>some (.jm b)
 | .float b _=>some (.lX b)
 | .ref a=>some (.ref a)
 | .type n=>some (.ty n)
 |_=>none
theorem RelV.abs{x:V}{u:Value}(r:RelV x u):T3 u=some x:=by
 cases x with
 |aL=>cases r;rfl
 |bl _=>cases r;rfl
 |int _=>obtain⟨t,rfl⟩:=r;rfl
 |str _=>obtain⟨t,rfl⟩:=r;rfl
 |jm _=>obtain⟨t,rfl⟩:=r;rfl
 |lX _=>obtain⟨t,rfl⟩:=r;rfl
 |ref _=>cases r;rfl
 |ty _=>cases r;rfl
theorem RelV.inj{x y:V}{u:Value}(r:RelV x u)(q:RelV y u):x=y:=gf (r.abs.symm.trans q.abs)
theorem Vals.inj{xs ys:List V}{us:List Value}(h:Vals xs us)(k:Vals ys us):xs=ys:=by
 induction h generalizing ys with
 |nil=>cases k;rfl
 |cons r t ih=>cases k with|cons r' t'=>rw[r.inj r',ih t']
section
variable{X:Cx}{pins:List (Addr×Obj)}{σ:St}{H:Hp}{s:Shared}{a:Addr}{xs ys:List V}
theorem aV.of{K:PySem.W.Frag}(h:H a=some (.lst xs)):aV K H a xs:= .inl (.inl h)
theorem gh.of{K:PySem.W.Frag}(h:H a=some (.tup xs)):gh K H a xs:= .inl (.inl h)
theorem Inv.list(I:Inv X pins σ H s)(h:aV X.K H a xs):∃its:List Value,Vals xs its/\PlainL s.heap a its.toArray/\xs.length<=sizeLine:=by
 rcases h with h|⟨o,its,n,hk,hc,hd,hs,hz,r⟩
 ·obtain⟨z,its,n,r,e⟩:=h.ok I.hok
  exact⟨its,r,⟨_,n,e,rfl,rfl,rfl⟩,z⟩
 ·refine⟨its.toList,r,⟨o,n,I.eF a o hk,hc,hd,by simpa using hs⟩,?_⟩
  have e:=r.length
  simp only[kC] at e
  omega
theorem Inv.tuple(I:Inv X pins σ H s)(h:gh X.K H a xs):∃its:List Value,Vals xs its/\IsTup s.heap a its.toArray/\xs.length<=sizeLine:=by
 rcases h with h|⟨o,its,n,hk,hc,hs,hz,r⟩
 ·obtain⟨z,its,r,p⟩:=h.ok I.hok
  exact⟨its,r,p,z⟩
 ·refine⟨its.toList,r,⟨o,I.eF a o hk,hc,n,by simpa using hs⟩,?_⟩
  have e:=r.length
  simp only[kC] at e
  omega
theorem Inv.HQ(I:Inv X pins σ H s)(h:aV X.K H a xs)(h':aV X.K H a ys):xs=ys:=by
 obtain⟨its,r,⟨o,n,e,_,_,d⟩,_⟩:=I.list h
 obtain⟨its',r',⟨o',n',e',_,_,d'⟩,_⟩:=I.list h'
 rw[e] at e';cases e'
 rw[d] at d'
 injection d' with d1 _
 have:its=its':=by simpa using congrArg Array.toList d1
 subst this
 exact r.inj r'
end
abbrev Cx.kQ(X:Cx)(E:Value->Shared->Prop):Cx:={X with xe:=E}
abbrev Cx.uz(X:Cx):Cx:=X.kQ fun _ _=>False
theorem Cx.Ok.kQ{X:Cx}(ok:X.Ok)(E:Value->Shared->Prop):(X.kQ E).Ok:=
 ⟨ok.mod,ok.kind,ok.glob,ok.blt,ok.above,ok.inj,ok.has,ok.rq,ok.hd,ok.frames,ok.stk,ok.tw,ok.bs,ok.oW,ok.sI,ok.qA,ok.jW,ok.ql⟩
theorem Cx.Ok.mZ{X:Cx}{E:Value->Shared->Prop}(ok:(X.kQ E).Ok):X.Ok:=
 ⟨ok.mod,ok.kind,ok.glob,ok.blt,ok.above,ok.inj,ok.has,ok.rq,ok.hd,ok.frames,ok.stk,ok.tw,ok.bs,ok.oW,ok.sI,ok.qA,ok.jW,ok.ql⟩
section
variable{X:Cx}{pins:List (Addr×Obj)}{σ:St}{H:Hp}{s:Shared}{E:Value->Shared->Prop}
theorem Inv.kQ(I:Inv X pins σ H s)(E:Value->Shared->Prop):Inv (X.kQ E) pins σ H s:=⟨I.ok.kQ E,I.os,I.bare,I.base,I.loc,I.cell,I.free,I.j4,I.pin,I.hok,I.len⟩
theorem Inv.mZ(I:Inv (X.kQ E) pins σ H s):Inv X pins σ H s:=⟨I.ok.mZ,I.os,I.bare,I.base,I.loc,I.cell,I.free,I.j4,I.pin,I.hok,I.len⟩
theorem SP.mZ{D:Ends}{f:Flow}{s':Shared}(h:SP (X.kQ E) pins D f s'):SP X pins D f s':=by
 cases f with
 |next=>obtain⟨σ',H',I,q⟩:=h;exact⟨σ',H',I.mZ,q⟩
 |brk=>obtain⟨σ',H',I,q⟩:=h;exact⟨σ',H',I.mZ,q⟩
 |cont=>obtain⟨σ',H',I,q⟩:=h;exact⟨σ',H',I.mZ,q⟩
 |ret u=>obtain⟨v,σ',H',I,r,q⟩:=h;exact⟨v,σ',H',I.mZ,r,q⟩
theorem jk.uz{st:List Stmt}{t:TS}(h:jk X.uz st t):jk X st t:=fun pins s σ H D I hw=>
 wpAny_mono (h pins s σ H D (I.kQ _) hw) (fun _ _ q=>q.mZ) fun _ _ z=>False.elim z
end
section
variable{X:Cx}{st:Stmt}{rest:List Stmt}{t u:TS}{e:Expr}{te:TE}{pos:Pos}
def rD:TS:=fun D σ H=>D.nx σ H
def jA(t u:TS):TS:=fun D σ H=>t {D with nx:=u D} σ H
theorem dY:jk X [] rD:=fun _ _ σ H _ I h=>wpAny_execs_nil ⟨σ,H,I,h⟩
theorem ao(h1:PS X st t)(h2:jk X rest u):jk X (st::rest) (jA t u):=by
  intro pins s σ H D I h
  refine wpAny_execs_cons (aW (h1 pins s σ H {D with nx:=u D} I h) fun f s1 q=>?_)
  cases f with
  | next =>
    obtain⟨σ',H',I',q⟩:=q
    exact h2 pins s1 σ' H' D I' q
  |ret v=>exact q
  |brk=>exact q
  |cont=>exact q
theorem aA(h1:PS X st t):jk X [st] t:=by
 intro pins s σ H D I h
 refine wpAny_execs_cons (aW (h1 pins s σ H D I h) fun f s1 q=>?_)
 cases f with
 |next=>exact wpAny_execs_nil q
 |ret v=>exact q
 |brk=>exact q
 |cont=>exact q
def Pg:TS:=fun D σ H=>D.ct σ H
theorem Inv.quiet{pins:List (Addr×Obj)}{σ:St}{H:Hp}{s:Shared}(I:Inv X pins σ H s):interactive X.env=false:=by simp[interactive,I.ok.kind]
def nN(te:TE):TS:=fun D σ H=>te σ H fun _ H1=>D.nx σ H1
theorem kB(he:PE X e te)(hs:swapsWith e none pos.line X.env=pure false:=by rfl):PS X (.Expr e pos) (nN te):=by
 intro pins s σ H D I h
 exact wpAny_Expr_any (aW (he pins s σ H _ I h) fun v s1 ⟨x,H1,I1,r1,q1⟩=>⟨σ,H1,I1,q1⟩) I.quiet hs
def xw(te:TE):TS:=fun D σ H=>te σ H D.rt
theorem aY(he:PE X e te):PS X (.Return (some e) pos) (xw te):=by
 intro pins s σ H D I h
 exact wpAny_Return_some (aW (he pins s σ H _ I h) fun v s1 ⟨x,H1,I1,r1,q1⟩=>⟨x,σ,H1,I1,r1,q1⟩)
def o6(c:TT)(t u:TS):TS:=fun D σ H=>c σ H fun b H1=>if b=true then t D σ H1 else u D σ H1
theorem dB{c:Expr}{a b:List Stmt}{tc:TT}(hc:PT X c tc)(ha:jk X a t)(hb:jk X b u):PS X (.If c a b pos) (o6 tc t u):=by
 intro pins s σ H D I h
 refine wpAny_If (aW (hc pins s σ H _ I h) fun d s1 ⟨H1,I1,q1⟩=>?_)
 cases d with
 |true=>exact ha pins s1 σ H1 D I1 q1
 |false=>exact hb pins s1 σ H1 D I1 q1
end
abbrev TG:=V->St->Hp->(St->Hp->Prop)->Prop
abbrev iK:=List V->St->Hp->(St->Hp->Prop)->Prop
def PG(X:Cx)(target:Expr)(t:TG):Prop:=
 ∀(pins:List (Addr×Obj)) (s:Shared) (σ:St) (H:Hp) (v:V) (u:Value) (Q:St->Hp->Prop),Inv X pins σ H s->RelV v u->t v σ H Q->
  wpAny (model X.prog X.w) X.A (assign target X.env u) (fun _ s'=>∃σ' H',Inv X pins σ' H' s'/\Q σ' H') X.xe s
def rP(X:Cx)(ts:List Expr)(t:iK):Prop:=
 ∀(pins:List (Addr×Obj)) (s:Shared) (σ:St) (H:Hp) (vs:List V) (us:List Value) (Q:St->Hp->Prop),Inv X pins σ H s->Vals vs us->t vs σ H Q->
  wpAny (model X.prog X.w) X.A (assignInOrder ((assignEach ts X.env).map (·.2)) us) (fun _ s'=>∃σ' H',Inv X pins σ' H' s'/\Q σ' H') X.xe s
abbrev rH:=V->V->V->Hp->(Hp->Prop)->Prop
def tW(X:Cx)(t:rH):Prop:=
 ∀(pins:List (Addr×Obj)) (s:Shared) (σ:St) (H:Hp) (o i v:V) (ov iv u:Value) (Q:Hp->Prop),Inv X pins σ H s->RelV o ov->RelV i iv->RelV v u->t o i v H Q->
  wpAny (model X.prog X.w) X.A (setItem ov iv u) (fun _ s'=>∃H',Inv X pins σ H' s'/\Q H') X.xe s
section
variable{X:Cx}{pos:Pos}
def eN(i:Nat):TG:=fun v σ H Q=>Q (σ.set i (some v)) H
theorem aG{i:Nat}{x:Str}(hN:X.N.Nodup)(hi:X.N[i]?=some x)(hx:Loc X.env.scope x)(hf:X.fn x=true\/X.env.scope.names.lookup x=some .local:=by first|exact .inl rfl|exact .inr rfl|assumption):PG X (.Name x pos) (eN i):=by
 intro pins s σ H v u Q I r h
 exact wpAny_assign_Name (Ir I hN hi hx r (fun s' I'=>⟨_,H,I',h⟩) hf)
def zh:iK:=fun vs σ H Q=>vs=[]/\Q σ H
def xg(t:TG)(u:iK):iK:=fun vs σ H Q=>∃v r,vs=v::r/\t v σ H fun σ' H'=>u r σ' H' Q
theorem i7:rP X [] zh:=by
 intro pins s σ H vs us Q I r h
 obtain⟨e,h⟩:=h
 subst e
 cases r
 exact assignInOrder_nil ⟨σ,H,I,h⟩
theorem cO{e:Expr}{es:List Expr}{t:TG}{u:iK}(h1:PG X e t)(h2:rP X es u)
    (hs:(assignEach (e::es) X.env).map (·.2)=assign e X.env::(assignEach es X.env).map (·.2):=by rfl):rP X (e::es) (xg t u):=by
  intro pins s σ H vs us Q I r h
  obtain⟨v,vr,e1,h⟩:=h
  subst e1
  cases r with
  | cons r rr =>
    rw[hs]
    refine assignInOrder_cons (aW (h1 pins s σ H _ _ _ I r h) fun _ s1 ⟨σ1,H1,I1,q1⟩=>?_)
    exact h2 pins s1 σ1 H1 _ _ Q I1 rr q1
def sZ(K:PySem.W.Frag)(n:Nat)(t:iK):TG:=fun v σ H Q=>∃a xs,v= .ref a/\gh K H a xs/\xs.length=n/\t xs σ H Q
theorem Hh{es:List Expr}{k:Nat}{t:iK}{n:Nat}(hc:X.calm=true)(h:rP X es t)
  (hn:(assignEach es X.env).length=n:=by rfl) (hst:(assignEach es X.env).findIdx? (·.1)=none:=by rfl):PG X (.Tuple es k pos) (sZ X.K n t):=by
 intro pins s σ H v u Q I r hw
 obtain⟨a,xs,e1,hq,hl,hw⟩:=hw
 subst e1
 cases r
 obtain⟨its,rv,ht,hz⟩:=I.tuple hq
 refine assign_Tuple_tuple (I.ok.hd hc) ht (by simp[hn,<-hl,rv.length]) hst fun h' hx=>?_
 have I1:Inv X pins σ H {s with heap:=h'}:=I.kept (t':=s.toks) fun b o e=>hx b o (c5 (bG e)) e
 exact h pins _ σ H xs _ Q I1 (by simpa using rv) hw
def oK(to ti:TE)(t:rH):TG:=fun v σ H Q=>to σ H fun o H1=>ti σ H1 fun i H2=>t o i v H2 fun H3=>Q σ H3
theorem ki{o i:Expr}{to ti:TE}{t:rH}(ho:PE X o to)(hi:PE X i ti)(hs:tW X t)
  (ha : ∀ v, assign (.Subscript o i pos) X.env v = (do
   let ov<-holding [v] (eval o X.env)
   let iv<-holding [v,ov] (eval i X.env)
   standAt pos
   holding [v,ov,iv] (setItem ov iv v)
   release [v,ov,iv] []):=by intro _;rfl):PG X (.Subscript o i pos) (oK to ti t):=by
 intro pins s σ H v u Q I r h
 rw[ha]
 refine wpAny_bind (wpAny_holding (aW (ho pins s σ H _ I h) fun ov s1 ⟨x,H1,I1,r1,q1⟩=>?_))
 refine wpAny_bind (wpAny_holding (aW (hi pins s1 σ H1 _ I1 q1) fun iv s2 ⟨y,H2,I2,r2,q2⟩=>?_))
 refine wpAny_bind (wpAny_standAt (wpAny_bind (wpAny_holding (aW (hs pins s2 σ H2 x y v ov iv u _ I2 r1 r2 r q2) fun _ s3 ⟨H3,I3,q3⟩=>?_))))
 exact wpAny_release ⟨σ,H3,I3,q3⟩
def gv(te:TE)(g:TG):TS:=fun D σ H=>te σ H fun x H1=>g x σ H1 D.nx
theorem g7{tg e:Expr}{te:TE}{g:TG}(he:PE X e te)(hg:PG X tg g)(hs:swapsWithSole [tg] e pos.line X.env=pure false:=by rfl)(hw:swappedStores [tg] e X.env=pure none:=by rfl)
  (h1:(assignEach [tg] X.env).map (·.2)=[assign tg X.env]:=by rfl):PS X (.Assign [tg] e pos) (gv te g):=by
 intro pins s σ H D I h
 refine wpAny_Assign_stores (aW (he pins s σ H _ I h) fun v s1 ⟨x,H1,I1,r1,q1⟩=>?_) hs hw
 rw[h1]
 exact aW (hg pins s1 σ H1 x v _ I1 r1 q1) fun _ s2 q=>q
theorem aB{i:Nat}{x:Str}{e:Expr}{te:TE}{pos':Pos}(hN:X.N.Nodup)(hi:X.N[i]?=some x)(hx:Loc X.env.scope x)(he:PE X e te)(hs:swapsWith e (some (.Name x pos')) pos.line X.env=pure false:=by rfl)(hf:X.fn x=true\/X.env.scope.names.lookup x=some .local:=by first|exact .inl rfl|exact .inr rfl|assumption):
  PS X (.Assign [.Name x pos'] e pos) (gv te (eN i)):=by
 intro pins s σ H D I h
 refine wpAny_Assign_Name (aW (he pins s σ H _ I h) fun v s1 ⟨y,H1,I1,r1,q1⟩=>?_) hs
 exact Ir I1 hN hi hx r1 (fun s2 I2=>⟨_,H1,I2,q1⟩) hf
end
section
variable{X:Cx}{pos:Pos}
def BQ(c:TT)(tb:TS):TS:=fun D σ H=>∃W:Nat->St->Hp->Prop,(∃m,W m σ H)/\∀m σ H,W m σ H->
 c σ H fun b H1=>if b=true then∃N:St->Hp->Prop,(∀σ' H',N σ' H'->∃m',m'<m/\W m' σ' H')/\tb {D with nx:=N,ct:=N,bk:=D.nx} σ H1 else D.nx σ H1
theorem Aw{c:Expr}{body:List Stmt}{tc:TT}{tb:TS}(hp:PassesOwn (model X.prog X.w) X.A X.env X.xe)(hc:PT X c tc)(hb:jk X body tb):PS X (.While c body [] pos) (BQ tc tb):=by
  intro pins s σ H D I h
  obtain⟨W,⟨m0,w0⟩,turn⟩:=h
  refine wpAny_While (codeAny_whileLoop (fun n s'=>∃σ' H',Inv X pins σ' H' s'/\W n σ' H') ?_ m0 ⟨σ,H,I,w0⟩)
  rintro n s1 ⟨σ1,H1,I1,w1⟩
  refine wpAny_passesOwn hp (aW (hc pins s1 σ1 H1 _ I1 (turn n σ1 H1 w1)) fun b s2 ⟨H2,I2,q2⟩=>?_)
  cases b with
  | true =>
    obtain⟨N,hN,q2⟩:=q2
    rw[if_pos rfl]
    refine wpAny_passesOwn hp (aW (hb pins s2 σ1 H2 _ I2 q2) fun f s3 q3=>?_)
    cases f with
    | next =>
      obtain⟨σ3,H3,I3,n3⟩:=q3
      obtain⟨m',hm,w3⟩:=hN σ3 H3 n3
      exact⟨m',hm,σ3,H3,I3,w3⟩
    | cont =>
      obtain⟨σ3,H3,I3,n3⟩:=q3
      obtain⟨m',hm,w3⟩:=hN σ3 H3 n3
      exact⟨m',hm,σ3,H3,I3,w3⟩
    |brk=>exact q3
    |ret v=>exact q3
  | false =>
    rw[if_neg cC]
    exact wpAny_execs_nil ⟨σ1,H2,I2,q2⟩
end
structure It where
 go:Nat->Hp->Prop
 nL:Nat->Hp->V->Hp->Prop
 stop:Nat->Hp->Prop
def jc(X:Cx)(pins:List (Addr×Obj))(H:Hp)(b:Addr):Prop:=
 H b=none/\b≠X.env.locals/\b∉X.fs/\(b∈X.ex\/X.s₀.heap.objs.size<=b)/\(∀x c,X.env.cells.lookup x=some c->c≠b)/\∀p∈X.pn++pins,p.1≠b
theorem Inv.qG{X:Cx}{pins:List (Addr×Obj)}{σ:St}{H H':Hp}{s:Shared}{b:Addr}(I:Inv X pins σ H s)(hb:s.heap.objs.size<=b)(hn:H' b=none):jc X pins H' b:=by
 refine⟨hn,oU (dj I.lt hb),I.Wf hb, .inr (eK I.sz hb),fun x c e z=>?_,fun p hp z=>?_⟩
 ·obtain⟨v,q⟩:=I.cell x c e
  exact absurd (dj q.lt (by rw[z];exact hb)) (jB _)
 ·exact absurd (dj (bG (I.pin p hp).1) (by rw[z];exact hb)) (jB _)
structure Turn(P:Program)(w:World)(K:PySem.W.Frag)(tg:Expr)(J:It)(fp:List Addr)(it:Addr)(tn:Nat->Heap->Prop):Prop where
 mem:it∈fp
 obj:∀i h,tn i h->∀b∈fp,∃o,h.get? b=some o/\∀v,o.data≠ .cell v
 keep:∀i h h',tn i h->(∀b∈fp,∀o,h.get? b=some o->h'.get? b=some o)->tn i h'
 item:∀(X:Cx),X.prog=P->X.w=w->X.K=K->X.calm=true->∀(i:Nat) (pins:List (Addr×Obj)) (s:Shared) (σ:St) (H:Hp) (E:Value->Shared->Prop),Inv X pins σ H s->(∀b∈fp,jc X pins H b)->tn i s.heap->J.go i H->
  wpAny (model P w) X.A (pyNext (.ref it)) (fun r s1=>∃u,r=some u/\
   wpAny (model P w) X.A (letOwnedTupleGo tg (.ref it) u) (fun _ s2=>∃x H',Inv X pins σ H' s2/\RelV x u/\J.nL i H x H'/\tn (i+1) s2.heap/\∀b∈fp,H' b=none) E s1) E s
 done:∀(X:Cx),X.prog=P->X.w=w->X.K=K->X.calm=true->∀(i:Nat) (pins:List (Addr×Obj)) (s:Shared) (σ:St) (H:Hp) (E:Value->Shared->Prop),Inv X pins σ H s->(∀b∈fp,jc X pins H b)->tn i s.heap->J.stop i H->
  wpAny (model P w) X.A (pyNext (.ref it)) (fun r s1=>r=none/\Inv X pins σ H s1) E s
 self:∀(A:Around) (i:Nat) (s:Shared) (Q:Value->Shared->Prop) (E:Value->Shared->Prop),tn i s.heap->Q (.ref it) s->wpAny (model P w) A (pyIter (.ref it)) Q E s
abbrev TI:=St->Hp->(It->Hp->Prop)->Prop
def FL(X:Cx)(pins:List (Addr×Obj))(σ:St)(tg:Expr)(R:It->Hp->Prop)(itv:Value)(s2:Shared):Prop:=
 ∃(it:Addr) (fp:List Addr) (tn:Nat->Heap->Prop) (J:It) (H':Hp),itv= .ref it/\Inv X pins σ H' s2/\Turn X.prog X.w X.K tg J fp it tn/\tn 0 s2.heap/\(∀b∈fp,jc X pins H' b)/\R J H'
def PI(X:Cx)(tg iter:Expr)(wi:TI):Prop:=
 ∀(pins:List (Addr×Obj)) (s:Shared) (σ:St) (H:Hp) (R:It->Hp->Prop),Inv X pins σ H s->wi σ H R->
  wpAny (model X.prog X.w) X.A (eval iter X.env) (fun v s1=>wpAny (model X.prog X.w) X.A (pyIter v) (FL X pins σ tg R) X.xe s1) X.xe s
theorem GO{M:Model}{A:Around}{E:Value->Shared->Prop}{s:Shared}{tg:Expr}{it:Addr}{u:Value}{o:Obj}{n:String}{vs:Array Value}{Q:Unit->Shared->Prop}(ho:s.heap.get? it=some o)(hc:o.cls= .type n)(hd:o.data= .fields vs)
    (hn:["enumerate","zip","dict_itemiterator","dict_reverseitemiterator","odict_iterator","itertools.zip_longest","itertools.pairwise"].contains n=false) (hQ:Q () s):wpAny M A (letOwnedTupleGo tg (.ref it) u) Q E s:=by
  unfold letOwnedTupleGo
  cases tg<;>first
    |exact wpAny_pure hQ
    |(cases u<;>first
        |exact wpAny_pure hQ
        | (refine wpAny_bind (wpAny_load ho ?_)
           rw[hc,hd]
           show wpAny M A (if(["enumerate","zip","dict_itemiterator","dict_reverseitemiterator","odict_iterator","itertools.zip_longest","itertools.pairwise"].contains n && vs[0]?==some (rawInt _))=true then _ else _) Q E s
           rw[if_neg (by intro h;rw[hn,Bool.false_and] at h;cases h)]
           exact wpAny_pure hQ))
def n6(K:PySem.W.Frag)(a:Addr):It:=
 ⟨fun i H=>∃xs x,aV K H a xs/\xs[i]?=some x,fun i H x H'=>H'=H/\∀xs,aV K H a xs->xs[i]?=some x,fun i H=>∃xs,aV K H a xs/\xs.length<=i⟩
def i9(lo:Int)(n:Nat):It:=⟨fun i _=>i<n,fun i H x H'=>H'=H/\x= .int (lo+i),fun i _=>n<=i⟩
theorem We{P:Program}{w:World}{K:PySem.W.Frag}{tg:Expr}(a it:Addr):Turn P w K tg (n6 K a) [it] it (fun i h=>h.IsListIter it a i) where
 mem:=by simp
 obj:=fun i h st b hb=>by
  have e:b=it:=by simpa using hb
  subst e
  obtain⟨o,e,c,d⟩:=st
  exact⟨o,e,fun v z=>by rw[d] at z;cases z⟩
 keep:=fun i h h' st k=>st.at fun o e=>k it (by simp) o e
 item:=by
  intro X hP hw hK hc i pins s σ H E I hf st hg
  subst hP hw hK
  obtain⟨xs,x,hq,hx⟩:=hg
  obtain⟨its,rv,p,hz⟩:=I.list hq
  obtain⟨u,hu,ru⟩:=rv.get hx
  obtain⟨f0,f1,f2,f3,f4,f5⟩:=hf it (by simp)
  refine wpAny_pyNext_list_item st p.isList (x:=u) (by simpa using hu) fun h' st' sb=>?_
  have I1:Inv X pins σ H {s with heap:=h'}:=I.turned (t':=s.toks) (fun b o hb e=>(sb.2 b hb).trans e) f0 f1 f3 f4 f5
  obtain⟨o,e,c,d⟩:=id st'
  exact⟨u,rfl,GO (s:={s with heap:=h'}) e c d (by decide) ⟨x,H,I1,ru,⟨rfl,fun ys hy=>by rw[I.HQ hy hq];exact hx⟩,st',fun b hb=>(hf b hb).1⟩⟩
 done:=by
  intro X hP hw hK hc i pins s σ H E I hf st hg
  subst hP hw hK
  obtain⟨xs,hq,hx⟩:=hg
  obtain⟨its,rv,p,hz⟩:=I.list hq
  obtain⟨f0,f1,f2,f3,f4,f5⟩:=hf it (by simp)
  have hl:=rv.length
  exact wpAny_pyNext_list_end (I.ok.hd hc) st p.isList (by simp;omega) fun h' eb=>⟨rfl,I.turned (t':=s.toks) (fun b o hb e=>eb b o hb e) f0 f1 f3 f4 f5⟩
 self:=fun _ _ _ _ _ st h=>wpAny_pyIter_listiter st h
theorem PU{P:Program}{w:World}{K:PySem.W.Frag}{tg:Expr}(it:Addr)(lo:Int)(n:Nat):Turn P w K tg (i9 lo n) [it] it (fun i h=>IsRangeIter h it (lo+(i:Nat)*1) ((n:Int)-(i:Nat)) 1) where
 mem:=by simp
 obj:=fun i h st b hb=>by
  have e:b=it:=by simpa using hb
  subst e
  exact⟨_,st,fun v z=>by
   have z':Data.fields _=Data.cell v:=z
   cases z'⟩
 keep:=fun i h h' st k=>k it (by simp) _ st
 item:=by
  intro X hP hw hK hc i pins s σ H E I hf st hg
  subst hP hw hK
  obtain⟨f0,f1,f2,f3,f4,f5⟩:=hf it (by simp)
  have W:=Walks.range (prog:=X.prog) (w:=X.w) (I.ok.hd hc) it lo 1 n
  refine W.item i s _ _ hg st fun v h' tk hv st' kk=>?_
  obtain⟨t,rfl⟩:=hv
  have I1:Inv X pins σ H {s with heap:=h',toks:=tk}:=I.turned (fun b o hb e=>kk b o (by simpa using hb) e) f0 f1 f3 f4 f5
  refine⟨_,rfl,GO (s:={s with heap:=h',toks:=tk}) (n:="range_iterator") st' rfl rfl (by decide) ⟨.int (lo+i),H,I1,⟨t,?_⟩,⟨rfl,rfl⟩,st',fun b hb=>(hf b hb).1⟩⟩
  rw[Int.mul_one]
 done:=by
  intro X hP hw hK hc i pins s σ H E I hf st hg
  subst hP hw hK
  obtain⟨f0,f1,f2,f3,f4,f5⟩:=hf it (by simp)
  exact wpAny_pyNext_range_end (I.ok.hd hc) st (by have:n<=i:=hg;omega) fun h' eb=>⟨rfl,I.turned (t':=s.toks) (fun b o hb e=>eb b o hb e) f0 f1 f3 f4 f5⟩
 self:=fun _ _ _ _ _ st h=>wpAny_pyIter_rangeiter st h
section
variable{X:Cx}{tg:Expr}
def p6(K:PySem.W.Frag)(tl:TE):TI:=fun σ H R=>tl σ H fun x H1=>∃a,x= .ref a/\(∃xs,aV K H1 a xs)/\R (n6 K a) H1
theorem dI{l:Expr}{tl:TE}(hl:PE X l tl):PI X tg l (p6 X.K tl):=by
 intro pins s σ H R I h
 refine aW (hl pins s σ H _ I h) fun v s1 ⟨x,H1,I1,r1,q1⟩=>?_
 obtain⟨a,e,⟨xs,hq⟩,q⟩:=q1
 subst e
 cases r1
 obtain⟨its,rv,p,hz⟩:=I1.list hq
 refine wpAny_pyIter_list p.isList ?_
 refine⟨s1.heap.objs.size,[s1.heap.objs.size],_,_,H1,rfl,I1.kept (t':=s1.toks) fun b o e=>bS _ e,We a _,⟨_,fN _ rfl,rfl,rfl⟩,fun b hb=>?_,q⟩
 have e:b=s1.heap.objs.size:=by simpa using hb
 subst e
 exact I1.qG (aQ _) (I1.hok.fresh (aQ _))
theorem Il{pins:List (Addr×Obj)}{σ:St}{H:Hp}{s:Shared}{R:It->Hp->Prop}{E:Value->Shared->Prop}{lo hi:Int}{t u v:Tok}{tk:Nat}(I:Inv X pins σ H s)(h1: -(2^62)<=lo)(h2:lo<2^62)(h3: -(2^62)<=hi)(h4:hi<2^62)
  (q:R (i9 lo (hi-lo).toNat) H):wpAny (model X.prog X.w) X.A (pyIter (.ref s.heap.objs.size)) (FL X pins σ tg R) E {s with heap:=s.heap.push {cls:= .type "range",data:= .fields #[.int lo t, .int hi u, .int 1 v]},toks:=tk}:=by
 refine wpAny_pyIter_range (IsRange.new ..) (small_one h1 h2 h3 h4) ?_
 have I1:Inv X pins σ H {s with heap:=s.heap.push {cls:= .type "range",data:= .fields #[.int lo t, .int hi u, .int 1 v]},toks:=tk}:=I.kept fun b o e=>bS _ e
 refine⟨(s.heap.push {cls:= .type "range",data:= .fields #[.int lo t, .int hi u, .int 1 v]}).objs.size,[(s.heap.push {cls:= .type "range",data:= .fields #[.int lo t, .int hi u, .int 1 v]}).objs.size],_,_,H,rfl,
  I1.kept (t':=tk) fun b o e=>bS _ e,PU _ lo (hi-lo).toNat,?_,fun b hb=>?_,q⟩
 ·have e1:lo+((0:Nat):Int)*1=lo:=by simp
  have e2:(((hi-lo).toNat:Nat):Int)-((0:Nat):Int)=Builtin.Range.rangeSize lo hi 1:=by rw[rangeSize_one];split<;>omega
  show IsRangeIter _ _ (lo+((0:Nat):Int)*1) ((((hi-lo).toNat:Nat):Int)-((0:Nat):Int)) 1
  rw[e1,e2]
  exact fN _ rfl
 ·have e:b=(s.heap.push {cls:= .type "range",data:= .fields #[.int lo t, .int hi u, .int 1 v]}).objs.size:=by simpa using hb
  subst e
  exact I1.qG (aQ _) (I1.hok.fresh (aQ _))
def sF(ta:TA):TI:=fun σ H R=>ta σ H fun vs H1=>∃j:Int,vs=[.int j]/\ -(2^62)<=j/\j<2^62/\R (i9 0 j.toNat) H1
def El(ta:TA):TI:=fun σ H R=>ta σ H fun vs H1=>∃i j:Int,vs=[.int i, .int j]/\(-(2^62)<=i/\i<2^62/\ -(2^62)<=j/\j<2^62)/\R (i9 i (j-i).toNat) H1
theorem eX{a:Expr}{ta:TA}{p pos:Pos}(hg:Gl X "range")(hm:X.mg "range"=none)(ha:PA X [a] ta)(hs:starEach [a] X.env=[(false,eval a X.env)]:=by rfl):PI X tg (.Call (.Name "range" p) [a] [] pos) (sF ta):=by
  intro pins s σ H R I h
  refine Call_ (qc I hg hm boot_range (u7 (aW (ha pos pins s σ H _ I h) fun us s1 ⟨vs,H1,I1,r1,q1⟩=>?_) hs rfl))
  obtain⟨j,e,q1,q2,q⟩:=q1
  subst e
  cases r1 with
  | cons r rr =>
    cases rr
    obtain⟨t,rfl⟩:=r
    exact call_range_1 (Il I1 (by omega) (by omega) q1 q2 (by simpa using q))
theorem Gr{a b:Expr}{ta:TA}{p pos:Pos}(hg:Gl X "range")(hm:X.mg "range"=none)(ha:PA X [a,b] ta)(hs:starEach [a,b] X.env=[(false,eval a X.env),(false,eval b X.env)]:=by rfl)(hs2:starEach [b] X.env=[(false,eval b X.env)]:=by rfl):
    PI X tg (.Call (.Name "range" p) [a,b] [] pos) (El ta):=by
  intro pins s σ H R I h
  refine Call_ (qc I hg hm boot_range (u7 (aW (ha pos pins s σ H _ I h) fun us s1 ⟨vs,H1,I1,r1,q1⟩=>?_) (by rw[hs,hs2]) (by rw[hs2];rfl)))
  obtain⟨i,j,e,⟨q1,q2,q3,q4⟩,q⟩:=q1
  subst e
  cases r1 with
  | cons r rr =>
    cases rr with
    | cons r' rr =>
      cases rr
      obtain⟨t,rfl⟩:=r
      obtain⟨t',rfl⟩:=r'
      exact call_range_2 (Il I1 q1 q2 q3 q4 q)
def qQ(wi:TI)(g:TG)(tb:TS):TS:=fun D σ H=>wi σ H fun J H1=>∃W:Nat->Nat->St->Hp->Prop,(∃m,W 0 m σ H1)/\∀i m σ H,W i m σ H->
 (J.stop i H/\D.nx σ H)\/(J.go i H/\∃N:St->Hp->Prop,(∀σ' H',N σ' H'->∃m',m'<m/\W (i+1) m' σ' H')/\∀x H',J.nL i H x H'->g x σ H' fun σ2 H2=>tb {D with nx:=N,ct:=N,bk:=D.nx} σ2 H2)
def sL(fp:List Addr)(h:Heap):List (Addr×Obj):=fp.filterMap fun b=>(h.get? b).map fun o=>(b,o)
theorem vf{fp:List Addr}{h:Heap}{b:Addr}{o:Obj}(hb:b∈fp)(e:h.get? b=some o):(b,o)∈sL fp h:=BI.mpr ⟨b,hb,by rw[e];rfl⟩
theorem Og{fp:List Addr}{h:Heap}{p:Addr×Obj}(hp:p∈sL fp h):p.1∈fp/\h.get? p.1=some p.2:=by
  obtain⟨b,hb,e⟩:=BI.mp hp
  cases q:h.get? b with
  |none=>rw[q] at e;cases e
  | some o =>
    rw[q] at e
    have e':(b,o)=p:=gf e
    subst e'
    exact⟨hb,q⟩
theorem Inv.pinned{pins:List (Addr×Obj)}{σ:St}{H:Hp}{s:Shared}{fp:List Addr}(I:Inv X pins σ H s)(hf:∀b∈fp,jc X pins H b)(ho:∀b∈fp,∃o,s.heap.get? b=some o/\∀v,o.data≠ .cell v):Inv X (pins++sL fp s.heap) σ H s:=
 I.G3 fun p hp=>(cD.mp hp).elim (fun z=>I.pin p (iI _ z)) fun z=>by
  obtain⟨hb,e⟩:=Og z
  obtain⟨f0,f1,f2,_⟩:=hf p.1 hb
  obtain⟨o,e',d⟩:=ho p.1 hb
  rw[e] at e';cases e'
  exact⟨e,f0,f1,f2,d⟩
theorem Inv.um{pins pl:List (Addr×Obj)}{σ:St}{H:Hp}{s:Shared}(I:Inv X (pins++pl) σ H s):Inv X pins σ H s:=I.G3 fun p hp=>I.pin p (iI _ (oN _ hp))
theorem dX{iter:Expr}{body:List Stmt}{wi:TI}{g:TG}{tb:TS}{pos:Pos}(hp:PassesOwn (model X.prog X.w) X.A X.env X.xe)(hc:X.calm=true)(hi:PI X tg iter wi)(hg:PG X tg g)(hb:jk X body tb)
  (hs:∀x,foldedSetIterable iter X.env x=pure x:=by intro _;rfl):PS X (.For tg iter body [] pos) (qQ wi g tb):=by
 intro pins s σ H D I h
 refine wpAny_For (aW (hi pins s σ H _ I h) fun v s1 h1=>aW h1 fun itv s2 h2=>?_) hs
 obtain⟨it,fp,tn,J,H2,e,I2,T,st2,f2,W,⟨m0,w0⟩,turn⟩:=h2
 subst e
 have nu:∀{H':Hp},(∀b∈fp,H' b=none)->∀b∈fp,jc X pins H' b:=fun hn b hb=>⟨hn b hb,(f2 b hb).2⟩
 refine codeAny_forLoop_any (fun n s'=>∃i σ' H',Inv X pins σ' H' s'/\tn i s'.heap/\(∀b∈fp,H' b=none)/\W i n σ' H') ?_ m0 ⟨0,σ,H2,I2,st2,fun b hb=>(f2 b hb).1,w0⟩
 rintro n s3 ⟨i,σ3,H3,I3,st3,fr3,w3⟩
 rcases turn i n σ3 H3 w3 with ⟨stop,qn⟩|⟨go,N,hN,step⟩
 ·refine wpAny_passesOwn hp (aW (T.done X rfl rfl rfl hc i pins s3 σ3 H3 X.xe I3 (nu fr3) st3 stop) fun r s4 ⟨hr,I4⟩=>?_)
  subst hr
  exact wpAny_execs_nil ⟨σ3,H3,I4,qn⟩
 ·refine wpAny_passesOwn hp (aW (T.item X rfl rfl rfl hc i pins s3 σ3 H3 X.xe I3 (nu fr3) st3 go) fun r s4 ⟨u,hr,h4⟩=>?_)
  subst hr
  refine wpAny_passesOwn hp (aW h4 fun _ s5 ⟨x,H5,I5,r5,y5,nO,Bl⟩=>?_)
  have AZ:=I5.pinned (nu Bl) (T.obj _ _ nO)
  refine wpAny_passesOwn hp (aW (hg _ s5 σ3 H5 x u _ AZ r5 (step x H5 y5)) fun _ s6 ⟨rM,H6,I6,q6⟩=>?_)
  refine wpAny_passesOwn hp (aW (hb _ s6 rM H6 _ I6 q6) fun f s7 q7=>?_)
  have again:∀{jX:St} {H7:Hp},Inv X (pins++sL fp s5.heap) jX H7 s7->N jX H7->∃m,m<n/\∃i σ' H',Inv X pins σ' H' s7/\tn i s7.heap/\(∀b∈fp,H' b=none)/\W i m σ' H':=fun{jX H7} I7 n7=>by
   obtain⟨m',hm,w7⟩:=hN jX H7 n7
   refine⟨m',hm,i+1,jX,H7,I7.um,T.keep _ _ _ nO fun b hb o e=>(I7.pin (b,o) (iI _ (iI _ (vf hb e)))).1,fun b hb=>?_,w7⟩
   obtain⟨o,e,d⟩:=T.obj _ _ nO b hb
   exact(I7.pin (b,o) (iI _ (iI _ (vf hb e)))).2.1
  cases f with
  |next=>obtain⟨jX,H7,I7,n7⟩:=q7;exact again I7 n7
  |cont=>obtain⟨jX,H7,I7,n7⟩:=q7;exact again I7 n7
  |brk=>obtain⟨jX,H7,I7,q7⟩:=q7;exact⟨jX,H7,I7.um,q7⟩
  |ret v=>obtain⟨x7,jX,H7,I7,r7,q7⟩:=q7;exact⟨x7,jX,H7,I7.um,r7,q7⟩
end
theorem Ij{K:PySem.W.Frag}{a:Addr}{xs:List V}{g:TG}{tb:TS}{D:Ends}{σ:St}{H:Hp}(Pv:Nat->St->Hp->Prop)(h0:Pv 0 σ H)(hl:∀i σ H,i<=xs.length->Pv i σ H->aV K H a xs)
  (hs:∀i x σ H,xs[i]?=some x->Pv i σ H->g x σ H fun σ2 H2=>tb {D with nx:=Pv (i+1),ct:=Pv (i+1),bk:=D.nx} σ2 H2) (hd:∀σ H,Pv xs.length σ H->D.nx σ H):
  ∃W:Nat->Nat->St->Hp->Prop,(∃m,W 0 m σ H)/\∀i m σ H,W i m σ H->
   ((n6 K a).stop i H/\D.nx σ H)\/((n6 K a).go i H/\∃N:St->Hp->Prop,(∀σ' H',N σ' H'->∃m',m'<m/\W (i+1) m' σ' H')/\∀x H',(n6 K a).nL i H x H'->g x σ H' fun σ2 H2=>tb {D with nx:=N,ct:=N,bk:=D.nx} σ2 H2):=by
 refine⟨fun i m σ H=>m=xs.length-i/\i<=xs.length/\Pv i σ H,⟨xs.length,by simp,fT _,h0⟩,?_⟩
 rintro i m σ H ⟨rfl,hi,p⟩
 have q:=hl i σ H hi p
 by_cases hlt:i<xs.length
 ·refine .inr ⟨⟨xs,xs[i],q,by simp[hlt]⟩,Pv (i+1),fun σ' H' p'=>⟨xs.length-(i+1),by omega,rfl,hlt,p'⟩,fun x H' y=>?_⟩
  obtain⟨e,y⟩:=y
  subst e
  exact hs i x σ _ (y xs q) p
 ·have e:i=xs.length:=by omega
  subst e
  exact .inl ⟨⟨xs,q,aQ _⟩,hd σ H p⟩
theorem w6{lo:Int}{n:Nat}{g:TG}{tb:TS}{D:Ends}{σ:St}{H:Hp}(Pv:Nat->St->Hp->Prop)(h0:Pv 0 σ H)
  (hs:∀i σ H,i<n->Pv i σ H->g (.int (lo+i)) σ H fun σ2 H2=>tb {D with nx:=Pv (i+1),ct:=Pv (i+1),bk:=D.nx} σ2 H2) (hd:∀σ H,Pv n σ H->D.nx σ H):
  ∃W:Nat->Nat->St->Hp->Prop,(∃m,W 0 m σ H)/\∀i m σ H,W i m σ H->
   ((i9 lo n).stop i H/\D.nx σ H)\/((i9 lo n).go i H/\∃N:St->Hp->Prop,(∀σ' H',N σ' H'->∃m',m'<m/\W (i+1) m' σ' H')/\∀x H',(i9 lo n).nL i H x H'->g x σ H' fun σ2 H2=>tb {D with nx:=N,ct:=N,bk:=D.nx} σ2 H2):=by
 refine⟨fun i m σ H=>m=n-i/\i<=n/\Pv i σ H,⟨n,by simp,fT _,h0⟩,?_⟩
 rintro i m σ H ⟨rfl,hi,p⟩
 by_cases hlt:i<n
 ·refine .inr ⟨hlt,Pv (i+1),fun σ' H' p'=>⟨n-(i+1),by omega,rfl,hlt,p'⟩,fun x H' y=>?_⟩
  obtain⟨e,y⟩:=y
  subst e y
  exact hs i σ _ hlt p
 ·have e:i=n:=by omega
  subst e
  exact .inl ⟨aQ _,hd σ H p⟩
theorem Mc{c:TT}{tb:TS}{D:Ends}{σ:St}{H:Hp}(Pv:St->Hp->Prop)(μ:St->Hp->Nat)(h0:Pv σ H)
  (hs:∀σ H,Pv σ H->c σ H fun b H1=>if b=true then tb {D with nx:=fun σ' H'=>Pv σ' H'/\μ σ' H'<μ σ H,ct:=fun σ' H'=>Pv σ' H'/\μ σ' H'<μ σ H,bk:=D.nx} σ H1 else D.nx σ H1)
  (mono:∀σ H Q Q',(∀b H1,Q b H1->Q' b H1)->c σ H Q->c σ H Q'):BQ c tb D σ H:=by
 refine⟨fun m σ H=>m=μ σ H/\Pv σ H,⟨_,rfl,h0⟩,?_⟩
 rintro m σ H ⟨rfl,p⟩
 refine mono σ H _ _ (fun b H1 q=>?_) (hs σ H p)
 cases b with
 |true=>exact⟨_,fun σ' H' ⟨p',l⟩=>⟨_,l,rfl,p'⟩,q⟩
 |false=>exact q
abbrev R2:=V->V->Hp->VK->Prop
def dZ(X:Cx)(f:Value->Value->Sem Value)(r:R2):Prop:=
 ∀(pins:List (Addr×Obj)) (s:Shared) (σ:St) (H:Hp) (x y:V) (v u:Value) (Q:VK),Inv X pins σ H s->RelV x v->RelV y u->r x y H Q->
  wpAny (model X.prog X.w) X.A (f v u) (EP X pins σ Q) X.xe s
def AS(X:Cx)(f:Value->Sem Value)(r:V->Hp->VK->Prop):Prop:=
 ∀(pins:List (Addr×Obj)) (s:Shared) (σ:St) (H:Hp) (x:V) (v:Value) (Q:VK),Inv X pins σ H s->RelV x v->r x H Q->
  wpAny (model X.prog X.w) X.A (f v) (EP X pins σ Q) X.xe s
def fk(X:Cx)(f:Value)(r:List V->Hp->VK->Prop):Prop:=
 ∀(pins:List (Addr×Obj)) (s:Shared) (σ:St) (H:Hp) (xs:List V) (us:List Value) (Q:VK),Inv X pins σ H s->Vals xs us->r xs H Q->
  wpAny (model X.prog X.w) X.A (call f us) (EP X pins σ Q) X.xe s
def Vh(X:Cx)(r:V->Hp->(Bool->Hp->Prop)->Prop):Prop:=
 ∀(pins:List (Addr×Obj)) (s:Shared) (σ:St) (H:Hp) (x:V) (v:Value) (Q:Bool->Hp->Prop),Inv X pins σ H s->RelV x v->r x H Q->
  wpAny (model X.prog X.w) X.A (truthy v) (TP X pins σ Q) X.xe s
def cU(r:R2)(ta tb:TE):TE:=fun σ H Q=>ta σ H fun x H1=>tb σ H1 fun y H2=>r x y H2 Q
def yR(r:V->Hp->VK->Prop)(ta:TE):TE:=fun σ H Q=>ta σ H fun x H1=>r x H1 Q
def rI(C:Int->Int->Prop)(g:Int->Int->V):R2:=fun x y H Q=>∃i j,x= .int i/\y= .int j/\C i j/\Q (g i j) H
def iO(g:Int->Int->V):R2:=fun x y H Q=>∃i j,x= .int i/\y= .int j/\Q (g i j) H
def rU(g:Int->V):V->Hp->VK->Prop:=fun x H Q=>∃i,x= .int i/\Q (g i) H
section
variable{X:Cx}{a b c:Expr}{ta tb tc:TE}{pos:Pos}
theorem w9(ha:PE X a ta)(hb:PE X b tb){pins:List (Addr×Obj)}{s:Shared}{σ:St}{H:Hp}{R:V->V->Hp->Prop}(I:Inv X pins σ H s)
  (h:ta σ H fun x H1=>tb σ H1 fun y H2=>R x y H2) {Q:Value->Shared->Prop} {f:Value->Value->Sem Value}
  (hf:∀v u s2 x y H2,Inv X pins σ H2 s2->RelV x v->RelV y u->R x y H2->wpAny (model X.prog X.w) X.A (f v u) Q X.xe s2):
  wpAny (model X.prog X.w) X.A (eval a X.env) (fun v s₁=>wpAny (model X.prog X.w) X.A (eval b X.env) (fun u s₂=>wpAny (model X.prog X.w) X.A (f v u) Q X.xe s₂) X.xe s₁) X.xe s:=by
 refine aW (ha pins s σ H _ I h) fun v s1 ⟨x,H1,I1,r1,q1⟩=>?_
 refine aW (hb pins s1 σ H1 _ I1 q1) fun u s2 ⟨y,H2,I2,r2,q2⟩=>?_
 exact hf v u s2 x y H2 I2 r1 r2 q2
theorem az{op:Operator}{r:R2}(ho:dZ X (binaryOp op) r)(ha:PE X a ta)(hb:PE X b tb):PE X (.BinOp a op b pos) (cU r ta tb):=by
 intro pins s σ H Q I h
 exact wpAny_BinOp (w9 ha hb I h fun v u s2 x y H2 I2 rx ry q=>ho pins s2 σ H2 x y v u Q I2 rx ry q)
theorem oQ{op:UnaryOp}{r:V->Hp->VK->Prop}(ho:AS X (unaryOp op) r)(ha:PE X a ta):PE X (.UnaryOp op a pos) (yR r ta):=by
 intro pins s σ H Q I h
 exact UnaryOp_ (aW (ha pins s σ H _ I h) fun v s1 ⟨x,H1,I1,r1,q1⟩=>ho pins s1 σ H1 x v Q I1 r1 q1)
theorem vQ{f:Value->Value->Sem Value}{C:Int->Int->Prop}{g:Int->Int->Int}
  (rule:∀(i j:Int) (t u:Tok) (s:Shared) (Q:Value->Shared->Prop) (E:Value->Shared->Prop),C i j->Q (.int (g i j) s.toks) {s with toks:=s.toks+1}->wpAny (model X.prog X.w) X.A (f (.int i t) (.int j u)) Q E s):
  dZ X f (rI C fun i j=> .int (g i j)):=by
 intro pins s σ H x y v u Q I rx ry h
 obtain⟨i,j,rfl,rfl,hc,q⟩:=h
 obtain⟨t,rfl⟩:=rx
 obtain⟨t',rfl⟩:=ry
 exact rule i j t t' s _ _ hc ⟨.int (g i j),H,I.tok _,⟨_,rfl⟩,q⟩
theorem Jx{f:Value->Value->Sem Value}{g:Int->Int->Int}
  (rule:∀(i j:Int) (t u:Tok) (s:Shared) (Q:Value->Shared->Prop) (E:Value->Shared->Prop),Q (.int (g i j) s.toks) {s with toks:=s.toks+1}->wpAny (model X.prog X.w) X.A (f (.int i t) (.int j u)) Q E s):
  dZ X f (iO fun i j=> .int (g i j)):=by
 intro pins s σ H x y v u Q I rx ry h
 obtain⟨i,j,rfl,rfl,q⟩:=h
 obtain⟨t,rfl⟩:=rx
 obtain⟨t',rfl⟩:=ry
 exact rule i j t t' s _ _ ⟨.int (g i j),H,I.tok _,⟨_,rfl⟩,q⟩
theorem AN{f:Value->Value->Sem Value}{g:Int->Int->Bool}
  (rule:∀(i j:Int) (t u:Tok) (s:Shared) (Q:Value->Shared->Prop) (E:Value->Shared->Prop),Q (.bool (g i j)) s->wpAny (model X.prog X.w) X.A (f (.int i t) (.int j u)) Q E s):
  dZ X f (iO fun i j=> .bl (g i j)):=by
 intro pins s σ H x y v u Q I rx ry h
 obtain⟨i,j,rfl,rfl,q⟩:=h
 obtain⟨t,rfl⟩:=rx
 obtain⟨t',rfl⟩:=ry
 exact rule i j t t' s _ _ ⟨.bl (g i j),H,I,rfl,q⟩
def zm(i j:Int):Prop:=0<=j/\j<=1000000/\i.natAbs<2^64
def v5(i j:Int):Prop:=(-(2^64)<i/\i<2^64)\/(-(2^64)<j/\j<2^64)
theorem v5.ok{i j:Int}(h:v5 i j):IntMulOk i j:=by
 rcases h with ⟨h1,h2⟩|⟨h1,h2⟩
 ·exact .of_left (intBits_le_64 h1 h2)
 ·exact .of_right (intBits_le_64 h1 h2)
theorem cF:dZ X (binaryOp .Add) (iO fun i j=> .int (i+j)):=Jx fun _ _ _ _ _ _ _ q=>add_int q
theorem ic:dZ X (binaryOp .Sub) (iO fun i j=> .int (i-j)):=Jx fun _ _ _ _ _ _ _ q=>sub_int q
theorem iH:dZ X (binaryOp .Mod) (rI (fun _ j=>0<j) fun i j=> .int (i%j)):=vQ fun i j _ _ _ _ _ hc q=>by
 have h1:(0:Int)<j:=hc
 exact mod_int' (by omega) (by rw[Int.fmod_eq_emod_of_nonneg i (by omega)];exact q)
theorem GP:dZ X (binaryOp .Pow) (rI zm fun i j=> .int (i^j.toNat)):=vQ fun _ _ _ _ _ _ _ hc q=>pow_int_small hc.1 hc.2.1 hc.2.2 q
theorem UI{f:Value->Sem Value}{g:Int->Int}
  (rule:∀(i:Int) (t:Tok) (s:Shared) (Q:Value->Shared->Prop) (E:Value->Shared->Prop),Q (.int (g i) s.toks) {s with toks:=s.toks+1}->wpAny (model X.prog X.w) X.A (f (.int i t)) Q E s):
  AS X f (rU fun i=> .int (g i)):=by
 intro pins s σ H x v Q I rx h
 obtain⟨i,rfl,q⟩:=h
 obtain⟨t,rfl⟩:=rx
 exact rule i t s _ _ ⟨.int (g i),H,I.tok _,⟨_,rfl⟩,q⟩
theorem om:AS X (unaryOp .USub) (rU fun i=> .int (-i)):=UI fun _ _ _ _ _ q=>neg_int q
end
def yJ:V->V->Bool
 | .aL, .aL=>true| .aL, .int _=>true| .int _, .aL=>true| .aL, .bl _=>true| .bl _, .aL=>true| .aL, .str _=>true| .str _, .aL=>true
 | .int _, .int _=>true| .bl _, .bl _=>true| .str _, .str _=>true| .jm _, .jm _=>true
 | .int _, .str _=>true| .str _, .int _=>true| .bl _, .str _=>true| .str _, .bl _=>true
 |_,_=>false
def BB:R2:=fun x y H Q=>yJ x y=true/\Q (.bl (decide (x=y))) H
def zk:R2:=fun x y H Q=>yJ x y=true/\Q (.bl (!decide (x=y))) H
theorem FA{i j:Int}:decide (V.int i=V.int j)=(i==j):=by
 rw[mU]
 simp
theorem GA{i j:Bool}:decide (V.bl i=V.bl j)=(i==j):=by
 rw[mU]
 simp
theorem JU{i j:Str}:decide (V.str i=V.str j)=(i==j):=by
 rw[mU]
 simp
theorem Iv{i j:Array UInt8}:decide (V.jm i=V.jm j)=(i.toList==j.toList):=by
 rw[mU]
 cases i
 cases j
 simp
section
variable{X:Cx}{a b c:Expr}{ta tb tc:TE}{pos:Pos}
theorem cW{pins:List (Addr×Obj)}{σ:St}{H:Hp}{s:Shared}{Q:VK}{k k':Bool}(I:Inv X pins σ H s)(q:Q (.bl k) H)(e:k=k'):EP X pins σ Q (.bool k') s:=by
 subst e
 exact⟨.bl k,H,I,rfl,q⟩
theorem iR:dZ X (compareOp .Eq) BB:=by
  intro pins s σ H x y v u Q I rx ry h
  obtain⟨hs,q⟩:=h
  cases x with
  | aL =>
    cases rx
    cases y with
    |aL=>cases ry;exact PySem.EqNone.eq_none_none (cW I q (by simp))
    |bl j=>cases ry;exact PySem.EqNone.eq_none_bool (cW I q (by simp))
    |int j=>obtain⟨t',rfl⟩:=ry;exact PySem.EqNone.eq_none_int (cW I q (by simp))
    |str j=>obtain⟨t',rfl⟩:=ry;exact PySem.EqNone.eq_none_str (cW I q (by simp))
    |_=>exact absurd (show false=true from hs) cC
  | bl i =>
    cases rx
    cases y with
    |aL=>cases ry;exact PySem.EqNone.eq_bool_none (cW I q (by simp))
    |bl j=>cases ry;exact eq_bool (cW I q GA)
    |str j=>obtain⟨t',rfl⟩:=ry;exact PySem.EqMixed.eq_bool_str (cW I q (by simp))
    |_=>exact absurd (show false=true from hs) cC
  | int i =>
    obtain⟨t,rfl⟩:=rx
    cases y with
    |aL=>cases ry;exact PySem.EqNone.eq_int_none (cW I q (by simp))
    |int j=>obtain⟨t',rfl⟩:=ry;exact eq_int (cW I q FA)
    |str j=>obtain⟨t',rfl⟩:=ry;exact PySem.EqMixed.eq_int_str (cW I q (by simp))
    |_=>exact absurd (show false=true from hs) cC
  | str i =>
    obtain⟨t,rfl⟩:=rx
    cases y with
    |aL=>cases ry;exact PySem.EqNone.eq_str_none (cW I q (by simp))
    |bl j=>cases ry;exact PySem.EqMixed.eq_str_bool (cW I q (by simp))
    |int j=>obtain⟨t',rfl⟩:=ry;exact PySem.EqMixed.eq_str_int (cW I q (by simp))
    |str j=>obtain⟨t',rfl⟩:=ry;exact eq_str (cW I q JU)
    |_=>exact absurd (show false=true from hs) cC
  | jm i =>
    obtain⟨t,rfl⟩:=rx
    cases y with
    |jm j=>obtain⟨t',rfl⟩:=ry;exact PySem.W.eq_bytes (cW I q Iv)
    |_=>exact absurd (show false=true from hs) cC
  |_=>cases y<;>exact absurd (show false=true from hs) cC
theorem jD:dZ X (compareOp .NotEq) zk:=by
  intro pins s σ H x y v u Q I rx ry h
  obtain⟨hs,q⟩:=h
  cases x with
  | aL =>
    cases rx
    cases y with
    |aL=>cases ry;exact PySem.EqNone.ne_none_none (cW I q (by simp))
    |bl j=>cases ry;exact PySem.EqNone.ne_none_bool (cW I q (by simp))
    |int j=>obtain⟨t',rfl⟩:=ry;exact PySem.EqNone.ne_none_int (cW I q (by simp))
    |str j=>obtain⟨t',rfl⟩:=ry;exact PySem.EqNone.ne_none_str (cW I q (by simp))
    |_=>exact absurd (show false=true from hs) cC
  | bl i =>
    cases rx
    cases y with
    |aL=>cases ry;exact PySem.EqNone.ne_bool_none (cW I q (by simp))
    |bl j=>cases ry;exact ne_bool (cW I q (congrArg not GA))
    |str j=>obtain⟨t',rfl⟩:=ry;exact PySem.EqMixed.ne_bool_str (cW I q (by simp))
    |_=>exact absurd (show false=true from hs) cC
  | int i =>
    obtain⟨t,rfl⟩:=rx
    cases y with
    |aL=>cases ry;exact PySem.EqNone.ne_int_none (cW I q (by simp))
    |int j=>obtain⟨t',rfl⟩:=ry;exact ne_int (cW I q (congrArg not FA))
    |str j=>obtain⟨t',rfl⟩:=ry;exact PySem.EqMixed.ne_int_str (cW I q (by simp))
    |_=>exact absurd (show false=true from hs) cC
  | str i =>
    obtain⟨t,rfl⟩:=rx
    cases y with
    |aL=>cases ry;exact PySem.EqNone.ne_str_none (cW I q (by simp))
    |bl j=>cases ry;exact PySem.EqMixed.ne_str_bool (cW I q (by simp))
    |int j=>obtain⟨t',rfl⟩:=ry;exact PySem.EqMixed.ne_str_int (cW I q (by simp))
    |str j=>obtain⟨t',rfl⟩:=ry;exact ne_str (cW I q (congrArg not JU))
    |_=>exact absurd (show false=true from hs) cC
  | jm i =>
    obtain⟨t,rfl⟩:=rx
    cases y with
    |jm j=>obtain⟨t',rfl⟩:=ry;exact PySem.W.ne_bytes (cW I q (congrArg not Iv))
    |_=>exact absurd (show false=true from hs) cC
  |_=>cases y<;>exact absurd (show false=true from hs) cC
theorem pM:dZ X (compareOp .Lt) (iO fun i j=> .bl (decide (i<j))):=AN fun _ _ _ _ _ _ _ q=>lt_int q
theorem Wy:dZ X (compareOp .LtE) (iO fun i j=> .bl (decide (i<=j))):=AN fun _ _ _ _ _ _ _ q=>le_int q
theorem nH:dZ X (compareOp .Gt) (iO fun i j=> .bl (decide (j<i))):=AN fun _ _ _ _ _ _ _ q=>gt_int q
theorem WQ:dZ X (compareOp .Is) (fun x y H Q=>y= .aL/\Q (.bl (decide (x= .aL))) H):=by
 intro pins s σ H x y v u Q I rx ry h
 obtain⟨rfl,q⟩:=h
 cases ry
 refine is_none_gen (cW I q ?_)
 cases x<;>first
  |(cases rx;rfl)
  |(obtain⟨t,rfl⟩:=rx;rfl)
theorem NS:dZ X (compareOp .IsNot) (fun x y H Q=>y= .aL/\Q (.bl (!decide (x= .aL))) H):=by
 intro pins s σ H x y v u Q I rx ry h
 obtain⟨rfl,q⟩:=h
 cases ry
 refine isnot_none_gen (cW I q ?_)
 cases x<;>first
  |(cases rx;rfl)
  |(obtain⟨t,rfl⟩:=rx;rfl)
theorem bu(b:Expr){op:CmpOp}(h:op≠ .In:=by decide)(h2:op≠ .NotIn:=by decide):behindInMarks op b=false:=by
 have e1:(op==CmpOp.In)=false:=by cases op<;>first|rfl|exact absurd rfl h
 have e2:(op==CmpOp.NotIn)=false:=by cases op<;>first|rfl|exact absurd rfl h2
 cases b<;>simp[behindInMarks,e1,e2]
theorem rZ{op:CmpOp}{r:R2}(ho:dZ X (compareOp op) r)(ha:PE X a ta)(hb:PE X b tb)(hm:behindInMarks op b=false):PE X (.Compare a [op] [b] pos) (cU r ta tb):=by
 intro pins s σ H Q I h
 exact wpAny_Compare1 (w9 ha hb I h fun v u s2 x y H2 I2 rx ry q=>ho pins s2 σ H2 x y v u Q I2 rx ry q) hm
def BL(t:TE):TT:=fun σ H Q=>t σ H fun x H'=>∃k,x= .bl k/\Q k H'
theorem bA{op:CmpOp}{r:R2}(ho:dZ X (compareOp op) r)(ha:PE X a ta)(hb:PE X b tb)(hm:behindInMarks op b=false):PT X (.Compare a [op] [b] pos) (BL (cU r ta tb)):=by
 intro pins s σ H Q I h
 refine wpAny_isTrue_Compare1 (aW (ha pins s σ H _ I h) fun v s1 ⟨x,H1,I1,r1,q1⟩=>aW (hb pins s1 σ H1 _ I1 q1) fun u s2 ⟨y,H2,I2,r2,q2⟩=>
  aW (ho pins s2 σ H2 x y v u _ I2 r1 r2 q2) fun c s3 ⟨z,H3,I3,r3,k,e,q3⟩=>?_) hm
 subst e
 cases r3
 exact wpAny_truthy_bool ⟨H3,I3,q3⟩
def Ce(K:PySem.W.Frag)(x:V)(H:Hp)(k:Bool):Prop:=
 match x with
 | .aL=>k=false
 | .bl b=>k=b
 | .int i=>k=(i !=0)
 | .str y=>y.length<=sizeLine/\k=((y.length:Int) !=0)
 | .jm y=>y.size<=sizeLine/\k=((y.size:Int) !=0)
 | .ref p=>(∃xs,aV K H p xs/\k=!xs.isEmpty)\/(∃xs,gh K H p xs/\k=!xs.isEmpty)\/∃kvs,H p=some (.dK kvs)/\k=!kvs.isEmpty
 |_=>False
theorem OH{κ:Type}{kvs:List (κ×V)}{vs:List (κ×Value)}(r:KV kvs vs):(!vs.isEmpty)=!kvs.isEmpty:=by
 cases r<;>rfl
theorem JA{xs:List V}{its:List Value}(r:Vals xs its):(!its.toArray.isEmpty)=!xs.isEmpty:=by
 cases r<;>simp
theorem pS:(sizeLine:Nat)<2^63:=by rw[sizeLine_eq];decide
theorem Ku:Vh X (fun x H Q=>∃k,Ce X.K x H k/\Q k H):=by
  intro pins s σ H x v Q I rx h
  obtain⟨k,e,q⟩:=h
  have hl:=pS
  have hs:sizeLine=16777216:=sizeLine_eq
  cases x with
  | aL =>
    cases rx
    have e':k=false:=e
    subst e'
    exact truthy_none ⟨H,I,q⟩
  | bl b =>
    cases rx
    have e':k=b:=e
    subst e'
    exact wpAny_truthy_bool ⟨H,I,q⟩
  | int i =>
    obtain⟨t,rfl⟩:=rx
    have e':k=(i !=0):=e
    subst e'
    exact PySem.P.truthy_int ⟨H,I,q⟩
  | str y =>
    obtain⟨t,rfl⟩:=rx
    obtain⟨hy,e'⟩:y.length<=sizeLine/\k=((y.length:Int) !=0):=e
    subst e'
    exact PySem.P.truthy_str (by omega) ⟨H,I.tok _,q⟩
  | jm y =>
    obtain⟨t,rfl⟩:=rx
    obtain⟨hy,e'⟩:y.size<=sizeLine/\k=((y.size:Int) !=0):=e
    subst e'
    exact PySem.W.truthy_bytes (by omega) ⟨H,I.tok _,q⟩
  | ref p =>
    cases rx
    have e':(∃xs,aV X.K H p xs/\k=!xs.isEmpty)\/(∃xs,gh X.K H p xs/\k=!xs.isEmpty)\/∃kvs,H p=some (.dK kvs)/\k=!kvs.isEmpty:=e
    rcases e' with ⟨xs,hx,e'⟩|⟨xs,hx,e'⟩|⟨kvs,hx,e'⟩
    · subst e'
      obtain⟨its,r,pl,hz⟩:=I.list hx
      have hlen:=r.length
      exact wpAny_truthy_list pl.isList (by simp only[dJ];omega) ⟨H,I.tok _,by rw[JA r];exact q⟩
    · subst e'
      obtain⟨its,r,pl,hz⟩:=I.tuple hx
      have hlen:=r.length
      exact truthy_tuple pl (by simp only[dJ];omega) ⟨H,I.tok _,by rw[JA r];exact q⟩
    · subst e'
      obtain⟨hz,hS,vs,r,m⟩:kvs.length<=sizeLine/\(p==sysModules)=false/\∃vs,KV kvs vs/\s.heap.DictOf (eT X.prog X.w) p vs:=I.hok p _ hx
      have hlen:kvs.length=vs.length:=vF r
      exact wpAny_truthy_dict hS m (by omega) ⟨H,I.tok _,by rw[OH r];exact q⟩
  |_=>exact(show False from e).elim
theorem MR(ha:PE X a ta)(he:∀whole,isTrue a X.env whole=(do let v<-whole;standAt a.pos;holding [v] (truthy v))):
  PT X a (fun σ H Q=>ta σ H fun x H'=>∃k,Ce X.K x H' k/\Q k H'):=by
 intro pins s σ H Q I h
 exact isTrue_plain (aW (ha pins s σ H _ I h) fun v s1 ⟨x,H1,I1,r1,q1⟩=>Ku pins s1 σ H1 x v Q I1 r1 q1) (he _)
theorem vals1{x:V}{us:List Value}(r:Vals [x] us):∃u,us=[u]/\RelV x u:=by
 cases r with
 |cons r1 r2=>cases r2;exact⟨_,rfl,r1⟩
theorem vals2{x y:V}{us:List Value}(r:Vals [x,y] us):∃u w',us=[u,w']/\RelV x u/\RelV y w':=by
  cases r with
  | cons r1 r2 =>
    cases r2 with
    |cons r3 r4=>cases r4;exact⟨_,_,rfl,r1,r3⟩
theorem P8:fk X (.builtin "abs") (fun xs H Q=>∃i,xs=[.int i]/\Q (.int (if i<0 then-i else i)) H):=by
 intro pins s σ H xs us Q I r h
 obtain⟨i,rfl,q⟩:=h
 obtain⟨u,rfl,t,rfl⟩:=vals1 r
 exact call_abs_int fun u tk=>⟨.int (if i<0 then-i else i),H,I.tok _,⟨_,rfl⟩,q⟩
theorem S9(hc:X.calm=true):fk X (.builtin "min") (fun xs H Q=>∃i j,xs=[.int i, .int j]/\Q (.int (if j<i then j else i)) H):=by
 intro pins s σ H xs us Q I r h
 obtain⟨i,j,rfl,q⟩:=h
 obtain⟨u,w',rfl,⟨t,rfl⟩,⟨t',rfl⟩⟩:=vals2 r
 refine min_two_ints (I.ok.hd hc) fun h' tk k=>⟨_,H,I.kept k,?_,q⟩
 by_cases hj:j<i
 ·rw[if_pos hj,if_pos hj];exact⟨_,rfl⟩
 ·rw[if_neg hj,if_neg hj];exact⟨_,rfl⟩
theorem Oc:fk X (.type "int") (fun xs H Q=>(∃i,xs=[.int i]/\Q (.int i) H)\/∃k,xs=[.bl k]/\Q (.int (if k then 1 else 0)) H):=by
 intro pins s σ H xs us Q I r h
 rcases h with ⟨i,rfl,q⟩|⟨k,rfl,q⟩
 ·obtain⟨u,rfl,t,rfl⟩:=vals1 r
  exact call_int_int ⟨.int i,H,I,⟨_,rfl⟩,q⟩
 ·obtain⟨u,rfl,r1⟩:=vals1 r
  cases r1
  exact call_int_bool ⟨.int (if k then 1 else 0),H,I.tok _,⟨_,rfl⟩,q⟩
end
structure wU(h:Heap)(x dx C:Addr)(mA:Str->Option Value):Prop where
 obj:h.get? x=some (PySem.W.instObj C dx)
 ns:h.Ns1 dx mA
 ne:dx≠x
theorem TX{h:Heap}{dx:Addr}{mA:Str->Option Value}(n:h.Ns1 dx mA):∃od,h.get? dx=some od/\∀name,PySem.W.lookIn name od=some (mA name):=by
 obtain⟨o,es,ep,ho,hd,hk,_,hm⟩:=n
 refine⟨o,ho,fun name=>?_⟩
 have e:=hm name
 unfold nsFind findBy at e
 rw[<-Array.find?_toList] at e
 unfold PySem.W.lookIn
 rw[hd]
 dsimp only
 split
 ·rename_i y q
  rw[q] at e
  exact congrArg some e
 ·rename_i q
  rw[q] at e
  have a:es.toList.any (·.refKey)=false:=by
   rw[List.any_eq_false]
   intro y hy
   obtain⟨z,t,hkey⟩:=hk y (Array.mem_toList_iff.mp hy)
   simp[DictEntry.refKey,hkey]
  have a':¬es.toList.any (·.refKey)=true:=by rw[a];exact cC
  rw[if_neg a']
  exact congrArg some e
theorem wU.look{h:Heap}{x dx C:Addr}{mA:Str->Option Value}(I:wU h x dx C mA):∃od,PySem.W.InstAt h x (PySem.W.instObj C dx) C (some od)/\∀name,PySem.W.lookIn name od=some (mA name):=
 let ⟨od,ho,hl⟩:=TX I.ns
 ⟨od,⟨I.obj,rfl,rfl,ho⟩,hl⟩
theorem jH.some_of{v:V}{o:Option Value}(r:jH (some v) o):∃u,o=some u/\RelV v u:=by
 cases o with
 |none=>exact(show False from r).elim
 |some u=>exact⟨u,rfl,r⟩
section
variable{P:Program}{w:World}{H H':Hp}{h h':Heap}{a C dx:Addr}{fs fs':List (Str×V)}
theorem VV(hok:c6 P w H h)(e:H a=some (.ins C dx fs)):∃mA,wU h a dx C mA/\(∀f,jH (fs.lookup f) (mA f))/\PySem.Within mA (fs.map (·.1))/\fs.length<=1000/\H dx=some (.own a):=by
 obtain⟨d,z,ne,ob,mA,n,r,q⟩:=(show bU P w H h a (.ins C dx fs) from hok a _ e)
 exact⟨mA,⟨ob,n,ne⟩,r,q,z,d⟩
end
structure yj(K:PySem.W.Frag)(C:Addr):Prop where
 pg:PySem.W.plainGet K C Str.empty=true
 hd:PySem.W.hasDictIn K C=true
 po:PySem.W.plainOver K C=true
 sa:PySem.W.findIn K (.ref C) "__setattr__"=some (some (.builtin "object.__setattr__"))
theorem yj.get{K:PySem.W.Frag}{C:Addr}(c:yj K C)(f:Str):PySem.W.plainGet K C f=true:=c.pg
section
variable{X:Cx}{pins:List (Addr×Obj)}{σ:St}{H:Hp}{s:Shared}{A:Around}{E:Value->Shared->Prop}{Q:Value->Shared->Prop}{c:Value}{b:Bool}
inductive iW(K:PySem.W.Frag)(H:Hp):V->Value->Prop where
 |aL:iW K H .aL (.type "NoneType")
 |bl (x:Bool):iW K H (.bl x) (.type "bool")
 |int (i:Int):iW K H (.int i) (.type "int")
 |str (x:Str):iW K H (.str x) (.type "str")
 |lX (x:UInt64):iW K H (.lX x) (.type "float")
 |lst {a:Addr} {xs:List V} (e:H a=some (.lst xs)):iW K H (.ref a) (.type "list")
 |gX {a:Addr} {o:Obj} {xs:List V} (e:H a=some (.gX o (.lst xs))):iW K H (.ref a) (.type "list")
 |tup {a:Addr} {xs:List V} (e:H a=some (.tup xs)):iW K H (.ref a) (.type "tuple")
 |dK {a:Addr} {kvs:List (Key×V)} (e:H a=some (.dK kvs)):iW K H (.ref a) (.type "dict")
 |dT {a:Addr} {kvs:List (List Key×V)} (e:H a=some (.dT kvs)):iW K H (.ref a) (.type "dict")
 |Gy {a:Addr} {o:Obj} {kvs:List (Key×V)} (e:H a=some (.gX o (.dK kvs))):iW K H (.ref a) (.type "dict")
 | ins {a C dx : Addr} {fs : List (Str × V)} (e : H a = some (.ins C dx fs)) (cl : yj K C) (ha : PySem.W.findIn K (.ref C) "__class__" = some (some (.builtin "object.__class__")))
   (hn:PySem.W.specialIn K (.builtin "object.__class__") "__get__"=some (some (.builtin "getset_descriptor.__get__"))) (htk:PySem.W.takesIn K (.builtin "object.__class__")=some true)
   (hm:PySem.W.mroIn K C (.type "object")=some true):iW K H (.ref a) (.ref C)
theorem UN{x:V}{u t:Value}(I:Inv X pins σ H s)(rx:RelV x u)(ty:iW X.K H x t)(e:PySem.W.kitOne X.K t c=some b)(h:∀tk,Q (.bool b) {s with toks:=tk}):
    wpAny (model X.prog X.w) A (call (.builtin "isinstance") [u,c]) Q E s:=by
  cases ty with
  |aL=>cases (show u=Value.none from rx);exact jN PySem.W.kitx_none I.eF True.intro e (fun z=>nomatch z) h
  |bl y=>cases (show u=Value.bool y from rx);exact jN PySem.W.kitx_bool I.eF True.intro e (fun z=>nomatch z) h
  |int i=>obtain⟨t,q⟩:=(show∃t,u=Value.int i t from rx);cases q;exact jN PySem.W.kitx_int I.eF True.intro e (fun z=>nomatch z) h
  |str y=>obtain⟨t,q⟩:=(show∃t,u=Value.str y t from rx);cases q;exact jN PySem.W.kitx_str I.eF True.intro e (fun z=>nomatch z) h
  |lX y=>obtain⟨t,q⟩:=(show∃t,u=Value.float y t from rx);cases q;exact jN PySem.W.kitx_float I.eF True.intro e (fun z=>nomatch z) h
  | @lst a xs ea =>
    cases (show u=Value.ref a from rx)
    obtain⟨_,_,n,_,h1⟩:=(show bU X.prog X.w H s.heap a (.lst xs) from I.hok a _ ea)
    exact jN yE I.eF ⟨_,h1,rfl⟩ e (fun z=>nomatch z) h
  | @gX a ob xs ea =>
    cases (show u=Value.ref a from rx)
    obtain⟨_,_,_,n,_,h1⟩:=(show bU X.prog X.w H s.heap a (.gX ob (.lst xs)) from I.hok a _ ea)
    exact jN yE I.eF ⟨_,h1,rfl⟩ e (fun z=>nomatch z) h
  | @tup a xs ea =>
    cases (show u=Value.ref a from rx)
    obtain⟨_,_,_,p⟩:=(show bU X.prog X.w H s.heap a (.tup xs) from I.hok a _ ea)
    obtain⟨o,h1,h2,_⟩:=p
    exact jN PySem.W.kitx_tuple I.eF ⟨o,h1,h2⟩ e (fun z=>nomatch z) h
  | @dK a kvs ea =>
    cases (show u=Value.ref a from rx)
    obtain⟨_,_,vs,_,p⟩:=(show bU X.prog X.w H s.heap a (.dK kvs) from I.hok a _ ea)
    obtain⟨o,es,ep,h1,h2,_⟩:=p
    exact jN wF I.eF ⟨o,h1,h2.1⟩ e (fun z=>nomatch z) h
  | @dT a kvs ea =>
    cases (show u=Value.ref a from rx)
    obtain⟨_,_,xs,_,o,es,ep,h1,h2,_⟩:=(show bU X.prog X.w H s.heap a (.dT kvs) from I.hok a _ ea)
    exact jN wF I.eF ⟨o,h1,h2.1⟩ e (fun z=>nomatch z) h
  | @Gy a ob kvs ea =>
    cases (show u=Value.ref a from rx)
    obtain⟨_,_,_,vs,_,o,es,ep,h1,h2,_⟩:=I.hok a _ ea
    exact jN wF I.eF ⟨o,h1,h2.1⟩ e (fun z=>nomatch z) h
  | @ins a C dx fs ea cl ha hn htk hm =>
    cases (show u=Value.ref a from rx)
    obtain⟨mA,O,_⟩:=VV I.hok ea
    obtain⟨od,J,_⟩:=O.look
    exact jN (PySem.W.kitx_own (cl.get _) cl.hd ha hn htk hm) I.eF J e (fun z=>nomatch z) h
end
structure gE(k:Nat)(A:Around):Prop where
 hd:A.handled=none
 dp:A.depth+3*k+5<recursionLimit
 un:A.units+16*k+200<cLine
theorem gE.mono{j k:Nat}{A:Around}(r:gE k A)(h:j<=k):gE j A:=⟨r.hd,by have:=r.dp;omega,by have:=r.un;omega⟩
theorem gE.deeper{k:Nat}{A:Around}(r:gE (k+1) A)(env:Env):gE k (A.deeper env):=
 ⟨r.hd,by have:=r.dp;show A.depth+1+3*k+5<_;omega,by have:=r.un;show A.units+3+16*k+200<_;omega⟩
theorem gE.depth{k:Nat}{A:Around}(r:gE k A):A.depth<recursionLimit:=by have:=r.dp;omega
theorem gE.units{k:Nat}{A:Around}(r:gE k A):A.units+64<cLine:=by have:=r.un;omega
def bM:TA:=fun _ H Q=>Q [] H
def br(ta:TE)(tr:TA):TA:=fun σ H Q=>ta σ H fun x H1=>tr σ H1 fun xs H2=>Q (x::xs) H2
section
variable{X:Cx}{e:Expr}{es:List Expr}{te:TE}{t:TA}{pos:Pos}
theorem af:PA X [] bM:=fun _ _ _ _ H Q I h=>Calls.spliced_nil ⟨[],H,I, .nil,h⟩
theorem aa(ha:PE X e te)(hr:PA X es t)(hs:starEach (e::es) X.env=(false,eval e X.env)::starEach es X.env:=by rfl):PA X (e::es) (br te t):=by
 intro pos pins s σ H Q I h
 rw[hs]
 show wpAny _ _ (spliced ((false,eval e X.env)::backTo pos (starEach es X.env))) _ _ s
 refine Calls.spliced_cons (aW (ha pins s σ H _ I h) fun u s1 ⟨x,H1,I1,r1,q1⟩=>?_)
 exact aW (hr pos pins s1 σ H1 _ I1 q1) fun us s2 ⟨xs,H2,I2,r2,q2⟩=>⟨x::xs,H2,I2, .cons r1 r2,q2⟩
def oF(t:TA):TE:=fun σ H Q=>t σ H fun xs H1=>xs.length<=sizeLine/\∀p,H1 p=none->Q (.ref p) (upd H1 p (.tup xs))
def nJ(t:TA):TE:=fun σ H Q=>t σ H fun xs H1=>xs.length<=sizeLine/\∀p,H1 p=none->Q (.ref p) (upd H1 p (.lst xs))
theorem cK{x1}(h:PA X es t):PE X (.Tuple es x1 pos) (oF t):=by
 intro pins s σ H Q I hq
 refine wpAny_Tuple_spliced (aW (h pos pins s σ H _ I hq) fun us s1 ⟨xs,H1,I1,r,z,q⟩=>⟨by rw[<-r.length];exact z,?_⟩)
 have hf:H1 s1.heap.objs.size=none:=I1.hok.fresh (aQ _)
 refine⟨.ref s1.heap.objs.size,upd H1 s1.heap.objs.size (.tup xs),I1.laid (t':=s1.toks) (fun b u e=>bS _ e) (aQ _) ?_,rfl,q _ hf⟩
 exact⟨z,us,r,⟨_,fN _ rfl,rfl,_,rfl⟩⟩
theorem dU(h:PA X es t):PE X (.List es pos) (nJ t):=by
 intro pins s σ H Q I hq
 refine wpAny_List_spliced (aW (h pos pins s σ H _ I hq) fun us s1 ⟨xs,H1,I1,r,z,q⟩=>⟨by rw[<-r.length];exact z,?_⟩)
 have hf:H1 s1.heap.objs.size=none:=I1.hok.fresh (aQ _)
 refine⟨.ref s1.heap.objs.size,upd H1 s1.heap.objs.size (.lst xs),I1.laid (t':=s1.toks) (fun b u e=>bS _ e) (aQ _) ?_,rfl,q _ hf⟩
 exact⟨z,us,0,r,fN _ rfl⟩
end
abbrev Sp:=List V->Hp->VK->XK->Prop
abbrev kG:=List Env->Hp->Shared->XK->Value->Shared->Prop
structure uv(P:Program)(w:World)(K:PySem.W.Frag)(mg:Str->Option Value)(base:Heap)(A:Around)(outer:List Env)(s:Shared)(H:Hp):Prop where
 frames:A.frames=some outer
 mod:Mod K mg base
 bs:∀b o,base.get? b=some o->s.heap.get? b=some o/\H b=none
 oW:base.objs.size<=s.heap.objs.size
 jW:s.heap.FunFrames base outer
 ql:∀b∈frs outer,H b=none
 hok:c6 P w H s.heap
 bare:AllBare s.gens
def CE(outer:List Env)(P:Program)(w:World)(H:Hp)(s:Shared)(Q:VK)(u:Value)(s':Shared):Prop:=
 ∃v H',s'.os=s.os/\AllBare s'.gens/\Un (frs outer) [] H H' s.heap s'.heap/\c6 P w H' s'.heap/\RelV v u/\Q v H'
def CR(CX:kG)(outer:List Env)(P:Program)(w:World)(H:Hp)(s:Shared)(Q:VK)(E:XK)(r:Result)(s':Shared):Prop:=
 match r with
 | .ok (.ret u)=>CE outer P w H s Q u s'
 | .ok _=>False
 | .error e=>CX outer H s E e s'
structure bD(P:Program)(w:World)(K:PySem.W.Frag)(mg:Str->Option Value)(base:Heap)(CX:kG)(k:Nat)(f:Addr)(fd:FuncData)(ps:List Str)(sp:Sp):Prop where
 len:∀vs H Q E,sp vs H Q E->vs.length=ps.length
 run:∀(A:Around) (outer:List Env) (s:Shared) (H:Hp) (args:Args) (us:List Value) (vs:List V) (Q:VK) (E:XK),gE k A->uv P w K mg base A outer s H->BindsTo s fd args (ps.zip us)->Vals vs us->sp vs H Q E->
  codeAny (model P w) A (.call (.ref f) args) (CR CX outer P w H s Q E) s
section
variable{X:Cx}{pins:List (Addr×Obj)}{σ:St}{H:Hp}{s s':Shared}
theorem Inv.Sg(I:Inv X pins σ H s):uv X.prog X.w X.K X.mg X.base X.A X.stack s H:=
 ⟨I.ok.frames,I.ok.mod,I.bs,eK I.ok.oW I.sz,I.stack,I.GQ,I.hok,I.bare⟩
theorem Inv.after{Q:VK}{u:Value}(I:Inv X pins σ H s)(h:CE X.stack X.prog X.w H s Q u s'):EP X pins σ Q u s':=by
 obtain⟨v,H',os,bare,un,hok,r,q⟩:=h
 obtain⟨hh,g,d,t,os'⟩:=s'
 obtain rfl:os'=s.os:=os
 exact⟨v,H',I.call (h':=hh) (g':=g) (d':=d) (t':=t) (ch:=[]) un hok bare (fun b z=>absurd z (by simp)),r,q⟩
end
def iS(sp:Sp)(mE:List V)(E:XK)(t:TA):TE:=fun σ H Q=>t σ H fun vs H1=>sp (vs++mE) H1 Q E
def Binds(K:PySem.W.Frag)(fd:FuncData)(ps:List Str)(ds:List Value):Prop:=
 ∀(s:Shared) (us:List Value),K.In s.heap->(us++ds).length=ps.length->BindsTo s fd ⟨us,[]⟩ (ps.zip (us++ds))
theorem Binds.all{K:PySem.W.Frag}{fd:FuncData}{ps:List Str}(h:∀us:List Value,us.length=ps.length->bindArgs fd ⟨us,[]⟩=pure (ps.zip us)):Binds K fd ps []:=fun s us _ hl=>by
 rw[iG] at hl⊢
 exact .of_eq (h us hl)
def Passes(CX:kG)(X:Cx)(E:XK):Prop:=∀(pins:List (Addr×Obj)) (σ:St) (H:Hp) (s:Shared) (e:Value) (s':Shared),Inv X pins σ H s->CX X.stack H s E e s'->X.xe e s'
section
variable{X:Cx}{CX:kG}{k:Nat}{f C:Addr}{fd:FuncData}{ps:List Str}{sp:Sp}{mE:List V}{ds:List Value}{E:XK}{x m:Str}{p pos apos:Pos}{e o:Expr}{es:List Expr}{ta:TE}{t:TA}
theorem Vx{pins:List (Addr×Obj)}{σ:St}{H:Hp}{s:Shared}{Q:VK}{us:List Value}{vs:List V}(F:bD X.prog X.w X.K X.mg X.base CX k f fd ps sp)(hr:gE k X.A)(hb:Binds X.K fd ps ds)(hd:Vals mE ds)(hx:Passes CX X E)
    (I:Inv X pins σ H s) (r:Vals vs us) (h:sp (vs++mE) H Q E):wpAny (model X.prog X.w) X.A (call (.ref f) us) (EP X pins σ Q) X.xe s:=by
  have r2:Vals (vs++mE) (us++ds):=r.append hd
  have hl:(us++ds).length=ps.length:=by rw[<-r2.length];exact F.len _ _ _ _ h
  refine wpAny_call (codeAny_mono (F.run X.A X.stack s H ⟨us,[]⟩ (us++ds) (vs++mE) Q E hr I.Sg (hb s us I.eF hl) r2 h) fun r s' hq=>?_)
  cases r with
  |error e=>exact hx pins σ H s e s' I hq
  | ok fl =>
    cases fl with
    |ret u=>exact I.after hq
    |next=>exact False.elim hq
    |brk=>exact False.elim hq
    |cont=>exact False.elim hq
theorem S3(F:bD X.prog X.w X.K X.mg X.base CX k f fd ps sp)(hr:gE k X.A)(hg:Gl X x)(hm:X.mg x=some (.ref f))(hk:PySem.W.keepIn X.K (.ref f)=true)(hb:Binds X.K fd ps ds)(hd:Vals mE ds)(hx:Passes CX X E)
  (ha:PA X (e::es) t) (hdb:(x==("__debug__":Str))=false:=by decide) (he:starEach (e::es) X.env=(false,eval e X.env)::starEach es X.env:=by rfl) (hpl:(backTo pos (starEach es X.env)).any (·.1)=false:=by rfl):
  PE X (.Call (.Name x p) (e::es) [] pos) (iS sp mE E t):=by
 intro pins s σ H Q I h
 refine wpAny_Call_Name_kw (Np I hg hm ?_ hdb)
 refine PySem.W.callWith_K (h₀:=X.base) I.ok.mod.Be hk (aW (ha pos pins s σ H _ I h) fun us s1 ⟨vs,H1,I1,r,q⟩=>⟨I1.eF,?_⟩) he hpl
 exact Vx F hr hb hd hx I1 r q
end
structure bZ(N P:List Str)(sc:Scope):Prop where
 kind:sc.kind= .function
 co:sc.isCoroutine=false
 gen:sc.isGenerator=false
 nd:N.Nodup
 pre:N.take P.length=P
 par:∀x∈P,sc.names.lookup x=some .local\/sc.names.lookup x=some .cell
 Q6:∀y∈sc.names,y.2≠ .free
theorem G4{kindOf:Str->Option NameKind}{x:Str}:∀{binds:List (Str×Value)} {m:Str->Option Value},(∀v,(x,v)∉binds)->bindL kindOf binds m x=m x
  |[],_,_=>rfl
  | (n, v) :: r, m, h => by
    unfold bindL
    rw[G4 fun w hw=>h w (cX _ hw)]
    split
    · have:x≠n:=by rintro rfl;exact h v cB
      simp[this]
    · rfl
theorem HU{kindOf:Str->Option NameKind}{x:Str}:∀{binds:List (Str×Value)} {m:Str->Option Value},(∀v,(x,v)∉binds)->bindC kindOf binds m x=m x
  |[],_,_=>rfl
  | (n, v) :: r, m, h => by
    unfold bindC
    rw[HU fun w hw=>h w (cX _ hw)]
    split
    · rfl
    · have:x≠n:=by rintro rfl;exact h v cB
      simp[this]
theorem HG{kindOf:Str->Option NameKind}{x:Str}{v:Value}:∀{P:List Str} {vs:List Value} {i:Nat} {m:Str->Option Value},P.Nodup->P[i]?=some x->vs[i]?=some v->kindOf x=some .local->
    bindL kindOf (P.zip vs) m x=some v
  |[],_,_,_,_,h,_,_=>by simp at h
  |_::_,[],_,_,_,_,h,_=>by simp at h
  | p :: P, w :: vs, 0, m, nd, h1, h2, hk => by
    simp at h1 h2;subst h1;subst h2
    show bindL kindOf ((p,w)::P.zip vs) m p=_
    unfold bindL
    rw[G4 fun v hv=>(iC.mp nd).1 (CP hv).1,if_pos hk]
    simp
  | p :: P, w :: vs, i + 1, m, nd, h1, h2, hk => by
    show bindL kindOf ((p,w)::P.zip vs) m x=_
    unfold bindL
    exact HG (i:=i) (iC.mp nd).2 (by simpa using h1) (by simpa using h2) hk
theorem GD{kindOf:Str->Option NameKind}{x:Str}{v:Value}:∀{P:List Str} {vs:List Value} {i:Nat} {m:Str->Option Value},P.Nodup->P[i]?=some x->vs[i]?=some v->kindOf x≠some .local->
    bindC kindOf (P.zip vs) m x=some v
  |[],_,_,_,_,h,_,_=>by simp at h
  |_::_,[],_,_,_,_,h,_=>by simp at h
  | p :: P, w :: vs, 0, m, nd, h1, h2, hk => by
    simp at h1 h2;subst h1;subst h2
    show bindC kindOf ((p,w)::P.zip vs) m p=_
    unfold bindC
    rw[HU fun v hv=>(iC.mp nd).1 (CP hv).1,if_neg hk]
    simp
  | p :: P, w :: vs, i + 1, m, nd, h1, h2, hk => by
    show bindC kindOf ((p,w)::P.zip vs) m x=_
    unfold bindC
    exact GD (i:=i) (iC.mp nd).2 (by simpa using h1) (by simpa using h2) hk
def start(N:List Str)(vs:List V):St:=vs.map some++List.replicate (N.length-vs.length) none
def qo(CX:kG)(P:Program)(w:World)(K:PySem.W.Frag)(mg:Str->Option Value)(base:Heap)(N:List Str)(qual:Str)(scope:Scope)(f:Addr)(cd:Value)(A:Around)(outer:List Env)(s:Shared)(H:Hp)(E:XK):Cx where
 prog:=P
 w:=w
 K:=K
 mg:=mg
 base:=base
 A:=A.deeper (envOfC qual scope s.heap.objs.size f cd)
 N:=N
 s₀:=s
 H₀:=H
 env:=envOfC qual scope s.heap.objs.size f cd
 outer:=outer
 stack:=envOfC qual scope s.heap.objs.size f cd::outer
 ex:=[]
 calm:=true
 fn:=fun _=>true
 pn:=[]
 xe:=fun e s'=>wpAny (model P w) (A.deeper (envOfC qual scope s.heap.objs.size f cd)) (leaving (envOfC qual scope s.heap.objs.size f cd) e) (fun _ s''=>CX outer H s E e s'') (fun e' s''=>CX outer H s E e' s'') s'
theorem Gi{sc:Scope}{n:Nat}{x:Str}(h:sc.names.lookup x=some .cell):∃c,(cellsFrom n sc.names []).lookup x=some c:=by
 have q:=Ge sc.names n [] (.inl h)
 exact Cb.mp q
theorem O3{CX:kG}{P:Program}{w:World}{K:PySem.W.Frag}{mg:Str->Option Value}{base:Heap}{N ps:List Str}{qual:Str}{scope:Scope}{f:Addr}{cd:Value}{A:Around}{outer:List Env}{s s1:Shared}{H:Hp}{E:XK}{us:List Value}{vs:List V}
  (S:bZ N ps scope) (hd:A.handled=none) (e0:uv P w K mg base A outer s H) (hl:vs.length=ps.length) (r:Vals vs us)
  (x:InCallC s s.heap.objs.size (bindL (envOfC qual scope s.heap.objs.size f cd).kindOf (ps.zip us) fun _=>none) (cellsFrom (s.heap.objs.size+1) scope.names []) (bindC (envOfC qual scope s.heap.objs.size f cd).kindOf (ps.zip us) fun _=>none) s1):
  Inv (qo CX P w K mg base N qual scope f cd A outer s H E) [] (start N vs) H s1:=by
 have hpl:ps.length<=N.length:=by have:=congrArg List.length S.pre;rw[jd] at this;omega
 obtain⟨h1,tk,rfl,hk⟩:=x.done
 have sy:∀b:Addr,b∉(qo CX P w K mg base N qual scope f cd A outer s H E).ex:=fun b z=>absurd (show b∈([]:List Addr) from z) (by simp)
 refine⟨⟨e0.mod,S.kind,rfl,rfl,aQ _,fun y z c h1 h2=>?_,fun y hy=>?_,fun y c _ h=>?_,fun _=>hd,Around.frames_deeper e0.frames, .inr ⟨rfl,rfl⟩,fun b z=>absurd z (sy b),e0.bs,e0.oW,fun b _ _=>sy b,fun b z=>absurd z (sy b),e0.jW,e0.ql⟩,
  rfl,e0.bare,Un.kept hk,⟨_,x.toInCall.ns,fun i y v h1 h2 h3=>?_⟩,fun y c h=>⟨_,x.cell y c h⟩,e0.hok.fresh (aQ _),fun y c h=>?_,fun p hp=>absurd (show p∈([]:List (Addr×Obj)) from hp) (by simp),e0.hok.kept hk,?_⟩
 ·exact name_of_addr x.apart (nK h1) (nK h2)
 ·have hy:scope.names.lookup y=some .cell\/scope.names.lookup y=some .free:=hy
  rcases hy with hy|hy
  ·exact Gi hy
  ·exact absurd rfl (S.Q6 _ (nK hy))
 ·exact jl (x.above y c (nK h))
 ·have hi:i<vs.length:=by
   unfold start at h2
   by_cases hi:i<vs.length
   ·exact hi
   ·rw[gK (by simpa using hi)] at h2
    rw[gY] at h2
    split at h2<;>cases h2
  have ha:vs[i]?=some v:=by
   unfold start at h2
   rw[gu (by simpa using hi),aS] at h2
   cases e:vs[i]? with
   |none=>rw[e] at h2;cases h2
   |some a=>rw[e] at h2;cases h2;rfl
  obtain⟨u,hu,rv⟩:=r.get ha
  have hp:ps[i]?=some y:=by
   rw[<-S.pre,qb (by omega)];exact h1
  have FU:ps.Nodup:=by rw[<-S.pre];exact S.nd.sublist (List.take_sublist _ _)
  refine⟨u,rv,?_⟩
  rcases S.par y (bh hp) with k|k
  ·exact .inl ⟨k,HG FU hp hu k⟩
  ·obtain⟨c,e⟩:=Gi (n:=s.heap.objs.size+1) k
   refine .inr ⟨.inl k,c,e,?_⟩
   have q:=x.cell y c e
   rw[GD FU hp hu (by show scope.names.lookup y≠_;rw[k];decide)] at q
   exact q
 ·exact e0.hok.fresh (jl (x.above y c (nK h)))
 ·unfold start
  show _=N.length
  rw[bz,ak,EG]
  omega
theorem Ue{CX:kG}{P:Program}{w:World}{K:PySem.W.Frag}{mg:Str->Option Value}{base:Heap}{k:Nat}{f:Addr}{name qual:Str}{params:Arguments}{body:List Stmt}{scope:Scope}{dV kV doc pm cdv ct oc:Value}{an od:Option Addr}
    {osl:Array (Option Value)} {N ps:List Str} {sp:Sp} (lk:K.lookup f=some ⟨oc,od, .func (PySem.W.fnOf name qual params body scope dV kV doc pm an cdv ct),osl⟩) (hcd:PySem.W.codeIn K cdv qual=true) (S:bZ N ps scope)
    (len:∀vs H Q E,sp vs H Q E->vs.length=ps.length)
    (hbody:∀(A:Around) (outer:List Env) (s:Shared) (H:Hp) (vs:List V) (Q:VK) (E:XK),gE k (A.deeper (envOfC qual scope s.heap.objs.size f cdv))->sp vs H Q E->
      ∃t,jk (qo CX P w K mg base N qual scope f cdv A outer s H E) body t/\t {nx:=fun _ H'=>Q .aL H',rt:=Q} (start N vs) H):
    bD P w K mg base CX (k+1) f (PySem.W.fnOf name qual params body scope dV kV doc pm an cdv ct) ps sp:=by
  refine⟨len,fun A outer s H args us vs Q E hr e0 hb r gk=>?_⟩
  have hl:=len _ _ _ _ gk
  have KX:K.In s.heap:=e0.mod.Be.keeps fun b o e=>(e0.bs b o e).1
  have lim:s.heap.NoLimit:=e0.mod.nolimit.keeps fun b o e=>(e0.bs b o e).1
  have hkind:∀y∈ps.zip us,scope.names.lookup y.1=some .local\/(scope.names.lookup y.1=some .cell/\((cellsFrom (s.heap.objs.size+1) scope.names []).lookup y.1).isSome=true):=fun⟨n,v⟩ hy=>by
    rcases S.par n (CP hy).1 with q|q
    · exact .inl q
    · exact .inr ⟨q,Ge _ _ _ (.inl q)⟩
  refine codeAny_call_function hr.depth (KX _ _ lk) rfl S.co S.gen rfl (PySem.W.codeRec_of KX hcd) (hb _ _ _ _ ?_)
  refine wpAny_newFunctionEnv_cells S.kind hkind fun env he s1 x=>?_
  subst he
  refine⟨lim.keeps x.toInCall.keep,codeAny_func ?_⟩
  obtain⟨t,ht,hq⟩:=hbody A outer s H vs Q E (hr.deeper _) gk
  have I:Inv (qo CX P w K mg base N qual scope f cdv A outer s H E) [] (start N vs) H s1:=O3 S hr.hd e0 hl r x
  refine wpAny_mono (ht [] s1 (start N vs) H _ I hq) (fun fl s' hs=>?_) fun e s' hs=>hs
  have fin:∀{σ':St} {H':Hp} {v:V} {u:Value},Inv (qo CX P w K mg base N qual scope f cdv A outer s H E) [] σ' H' s'->RelV v u->Q v H'->CE outer P w H s Q u s':=
    fun{σ' H' v u} J rv q=>⟨v,H',J.os,J.bare,J.base,J.hok,rv,q⟩
  cases fl with
  | ret u =>
    obtain⟨v,σ',H',J,rv,q⟩:=hs
    exact fin J rv q
  | next =>
    obtain⟨σ',H',J,q⟩:=hs
    exact fin (v:=V.aL) (u:=Value.none) J rfl q
  | brk =>
    obtain⟨_,_,_,q⟩:=hs
    exact False.elim q
  | cont =>
    obtain⟨_,_,_,q⟩:=hs
    exact False.elim q
section
variable{X:Cx}{x:Str}{p pos:Pos}{e:Expr}{es:List Expr}{t:TA}{id T:String}{r:List V->Hp->VK->Prop}
def fJ(r:List V->Hp->VK->Prop)(t:TA):TE:=fun σ H Q=>t σ H fun vs H1=>r vs H1 Q
theorem bT(hc:fk X (.builtin id) r)(hg:Gl X x)(hm:X.mg x=none)(hv:bootBuiltins x=some (.builtin id))(ha:PA X (e::es) t)(hn:x≠"__name__":=by decide)(hdb:(x==("__debug__":Str))=false:=by decide)
  (he:starEach (e::es) X.env=(false,eval e X.env)::starEach es X.env:=by rfl) (hpl:(backTo pos (starEach es X.env)).any (·.1)=false:=by rfl):PE X (.Call (.Name x p) (e::es) [] pos) (fJ r t):=by
 intro pins s σ H Q I h
 refine wpAny_Call_Name_kw (qc I hg hm hv ?_ hn hdb)
 exact PyProof.Rows.callWith_builtin1 (aW (ha pos pins s σ H _ I h) fun us s1 ⟨vs,H1,I1,r1,q1⟩=>hc pins s1 σ H1 vs us Q I1 r1 q1) he hpl
theorem gb(hc:fk X (.type T) r)(hg:Gl X x)(hm:X.mg x=none)(hv:bootBuiltins x=some (.type T))(ha:PA X (e::es) t)(hn:x≠"__name__":=by decide)(hdb:(x==("__debug__":Str))=false:=by decide)
  (he:starEach (e::es) X.env=(false,eval e X.env)::starEach es X.env:=by rfl) (hpl:(backTo pos (starEach es X.env)).any (·.1)=false:=by rfl):PE X (.Call (.Name x p) (e::es) [] pos) (fJ r t):=by
 intro pins s σ H Q I h
 refine wpAny_Call_Name_kw (qc I hg hm hv ?_ hn hdb)
 exact u7 (aW (ha pos pins s σ H _ I h) fun us s1 ⟨vs,H1,I1,r1,q1⟩=>hc pins s1 σ H1 vs us Q I1 r1 q1) he hpl
end
end L2
namespace HT
open PySem PyProof.Rows
section
open PySem.SeqAt
open PySem.AutoSeq1 (wpAny_loadPart')
open PySem.MeetsSeq PySem.MeetsSeq2 PySem.MeetsSeq3
end
section
variable{prog:Program}{w:World}{A:Around}{E:Value->Shared->Prop}{s:Shared}
def eB(n d:Nat):Option Int->Nat
 |none=>d
 |some v=>if v<0 then(v+(n:Int)).toNat else min v.toNat n
theorem Rp(n d:Nat):eB n d none=d:=rfl
end
end HT
namespace L2
open PySem PySem.Spec PyProof.Rows
abbrev TO:=St->Hp->(Option Int->Hp->Prop)->Prop
def PO(X:Cx)(e:Option Expr)(t:TO):Prop:=
 ∀(pins:List (Addr×Obj)) (s:Shared) (σ:St) (H:Hp) (Q:Option Int->Hp->Prop),Inv X pins σ H s->t σ H Q->
  wpAny (model X.prog X.w) X.A (evalPart e X.env) (fun u s'=>∃o H',Inv X pins σ H' s'/\IsPart u o/\Q o H') X.xe s
def Cc:TO:=fun _ H Q=>Q none H
def AI(t:TE):TO:=fun σ H Q=>t σ H fun x H1=>∃i,x= .int i/\Q (some i) H1
section
variable{X:Cx}{e:Expr}{te:TE}{lo hi:Option Expr}{tl th:TO}{pos p2:Pos}
theorem g8:PO X none Cc:=by
 intro pins s σ H Q I h
 rw[evalPart_none]
 exact wpAny_pure ⟨none,H,I, .none,h⟩
theorem iy(h:PE X e te):PO X (some e) (AI te):=by
 intro pins s σ H Q I hw
 rw[evalPart_some]
 refine aW (h pins s σ H _ I hw) fun u s1 ⟨x,H1,I1,r1,q1⟩=>?_
 obtain⟨i,rfl,q⟩:=q1
 obtain⟨t,rfl⟩:=r1
 exact⟨some i,H1,I1, .int i t,q⟩
def Ik(X:Cx)(r:V->Option Int->Option Int->Hp->VK->Prop):Prop:=
 ∀(pins:List (Addr×Obj)) (s:Shared) (σ:St) (H:Hp) (x:V) (v vl vu:Value) (lo hi:Option Int) (sl:Addr) (Q:VK),Inv X pins σ H s->RelV x v->s.heap.IsSliceOf sl vl vu .none->IsPart vl lo->IsPart vu hi->r x lo hi H Q->
  ∃T id,typeLookup (.type T) "__getitem__"=pure (some (.builtin id))/\s.TypeIs v T/\wpAny (model X.prog X.w) X.A (getItem v (.ref sl)) (EP X pins σ Q) X.xe s
def rY(r:V->Option Int->Option Int->Hp->VK->Prop)(te:TE)(tl th:TO):TE:=fun σ H Q=>te σ H fun x H1=>tl σ H1 fun l H2=>th σ H2 fun u H3=>r x l u H3 Q
theorem ia{r:V->Option Int->Option Int->Hp->VK->Prop}(hr:Ik X r)(he:PE X e te)(hl:PO X lo tl)(hu:PO X hi th):PE X (.Subscript e (.Slice lo hi none p2) pos) (rY r te tl th):=by
 intro pins s σ H Q I h
 refine Subscript_ (aW (he pins s σ H _ I h) fun v s1 ⟨x,H1,I1,r1,q1⟩=>?_)
 refine wpAny_Slice (aW (hl pins s1 σ H1 _ I1 q1) fun vl s2 ⟨l,H2,I2,pl,q2⟩=>aW (hu pins s2 σ H2 _ I2 q2) fun vu s3 ⟨u,H3,I3,pu,q3⟩=>?_)
 rw[evalPart_none]
 refine wpAny_pure ?_
 have I4:Inv X pins σ H3 {s3 with heap:=s3.heap.push {cls:= .type "slice",data:= .fields #[vl,vu, .none]}}:=I3.kept (t':=s3.toks) fun b ob q=>bS _ q
 obtain⟨T,id,hT,ht,hg⟩:=hr pins {s3 with heap:=s3.heap.push {cls:= .type "slice",data:= .fields #[vl,vu, .none]}} σ H3 x v vl vu l u s3.heap.objs.size Q I4 r1 (Heap.IsSliceOf.new ..) pl pu q3
 show wpAny (model X.prog X.w) X.A (subscriptTail e (.Slice lo hi none p2) v (.ref s3.heap.objs.size)) (EP X pins σ Q) X.xe {s3 with heap:=s3.heap.push {cls:= .type "slice",data:= .fields #[vl,vu, .none]}}
 exact tail_any (ops:=[.ref s3.heap.objs.size,v]) ht hT hg (by with_unfolding_all rfl)
def lY(xs:List V)(lo hi:Option Int):List V:=(xs.drop (HT.eB xs.length 0 lo)).take (HT.eB xs.length xs.length hi-HT.eB xs.length 0 lo)
theorem Mj(xs:List V)(lo hi:Option Int):(lY xs lo hi).length<=xs.length:=by
 unfold lY
 rw[jd,rA]
 omega
def Q7(K:PySem.W.Frag):V->Option Int->Option Int->Hp->VK->Prop:=fun x lo hi H Q=>∃a xs,x= .ref a/\gh K H a xs/\
 ¬(HT.eB xs.length 0 lo=0/\HT.eB xs.length xs.length hi=xs.length)/\∀p,H p=none->Q (.ref p) (upd H p (.tup (lY xs lo hi)))
def Nd(K:PySem.W.Frag):R2:=fun x y H Q=>∃a b xs ys,x= .ref a/\y= .ref b/\gh K H a xs/\gh K H b ys/\xs≠[]/\xs.length+ys.length<=sizeLine/\
 (ys=[]->Q (.ref a) H)/\(ys≠[]->∀p,H p=none->Q (.ref p) (upd H p (.tup (xs++ys))))
end
def eW(n:Nat)(i:Int):Option Nat:=if 0<=i then(if i<n then some i.toNat else none) else if-(n:Int)<=i then some (i+n).toNat else none
def bF{α:Type}(xs:List α)(i:Int):Option α:=(eW xs.length i).bind fun j=>xs[j]?
theorem wg{n:Nat}{i:Int}{j:Nat}(h:eW n i=some j):seqIndex? i n=some j/\j<n/\ -(n:Int)<=i/\i<n:=by
 unfold eW at h
 by_cases h0:0<=i
 ·rw[if_pos h0] at h
  by_cases h1:i<n
  ·rw[if_pos h1] at h
   have e:i.toNat=j:=gf h
   exact⟨by rw[seqIndex_of h0 h1,e],by omega,by omega,h1⟩
  ·rw[if_neg h1] at h;cases h
 ·rw[if_neg h0] at h
  by_cases h1: -(n:Int)<=i
  ·rw[if_pos h1] at h
   have e:(i+n).toNat=j:=gf h
   exact⟨by rw[seqIndex_neg (by omega) h1,e],by omega,h1,by omega⟩
  ·rw[if_neg h1] at h;cases h
theorem BV{α:Type}{xs:List α}{i:Int}{v:α}(h:bF xs i=some v):∃j,seqIndex? i xs.length=some j/\xs[j]?=some v/\j<xs.length/\ -(xs.length:Int)<=i/\i<xs.length:=by
  unfold bF at h
  cases e:eW xs.length i with
  |none=>rw[e] at h;cases h
  | some j =>
    rw[e] at h
    obtain⟨h1,h2,h3,h4⟩:=wg e
    exact⟨j,h1,h,h2,h3,h4⟩
theorem OG{α:Type}{xs:List α}{j:Nat}{v:α}(h:xs[j]?=some v):bF xs (j:Int)=some v:=by
 have hj:j<xs.length:=(aR.mp h).1
 have e:eW xs.length (j:Int)=some j:=by
  unfold eW
  rw[if_pos (by omega),if_pos (by omega)];simp
 unfold bF;rw[e];exact h
def LL(b:Expr):Prop:=∀o i,subscripted b false o i=operate [o,i] (getItem o i)
def kK(X:Cx)(r:R2):Prop:=
 ∀(value slice:Expr) (pins:List (Addr×Obj)) (s:Shared) (σ:St) (H:Hp) (x y:V) (v u:Value) (Q:VK),Inv X pins σ H s->RelV x v->RelV y u->r x y H Q->
  subscripted slice false v u=operate [v,u] (getItem v u)->wpAny (model X.prog X.w) X.A (subscriptTail value slice v u) (EP X pins σ Q) X.xe s
def qR(X:Cx)(id:String)(r:V->List V->Hp->VK->Prop):Prop:=
 ∀(pins:List (Addr×Obj)) (s:Shared) (σ:St) (H:Hp) (x:V) (xs:List V) (v:Value) (us:List Value) (Q:VK),Inv X pins σ H s->RelV x v->Vals xs us->r x xs H Q->
  wpAny (model X.prog X.w) X.A (call (.builtin id) (v::us)) (EP X pins σ Q) X.xe s
section
variable{X:Cx}{a b:Expr}{ta tb:TE}{pos:Pos}
theorem kK.or{r r':R2}(h:kK X r)(h':kK X r'):kK X (fun x y H Q=>r x y H Q\/r' x y H Q):=by
 intro value slice pins s σ H x y v u Q I rx ry q hs
 rcases q with q|q
 ·exact h value slice pins s σ H x y v u Q I rx ry q hs
 ·exact h' value slice pins s σ H x y v u Q I rx ry q hs
theorem aD{r:R2}(hr:kK X r)(ha:PE X a ta)(hb:PE X b tb)(hs:LL b):PE X (.Subscript a b pos) (cU r ta tb):=by
 intro pins s σ H Q I h
 exact Subscript_ (w9 ha hb I h fun v u s2 x y H2 I2 rx ry q=>hr a b pins s2 σ H2 x y v u Q I2 rx ry q (hs _ _))
def cz(K:PySem.W.Frag):R2:=fun x y H Q=>∃p xs i v,x= .ref p/\y= .int i/\aV K H p xs/\bF xs i=some v/\Q v H
def bN(K:PySem.W.Frag):R2:=fun x y H Q=>∃p xs i v,x= .ref p/\y= .int i/\gh K H p xs/\bF xs i=some v/\Q v H
def FG:R2:=fun x y H Q=>∃z i c,x= .str z/\y= .int i/\z.length<=sizeLine/\bF z.cps.toList i=some c/\Q (.str ⟨#[c]⟩) H
theorem bx:kK X (cz X.K):=by
 intro value slice pins s σ H x y v u Q I rx ry h hs
 obtain⟨p,xs,i,z,rfl,rfl,hq,he,q⟩:=h
 cases rx
 obtain⟨t,rfl⟩:=ry
 obtain⟨its,r,pl,hz⟩:=I.list hq
 obtain⟨j,h1,h2,h3,h4,h5⟩:=BV he
 obtain⟨w,ew,rw'⟩:=r.get h2
 have hl:=r.length
 have hn:=pS
 have fin:EP X pins σ Q w s:=⟨z,H,I,rw',q⟩
 by_cases h0:0<=i
 ·have hj:i.toNat=j:=by
   rw[seqIndex_of h0 h5] at h1
   exact gf h1
  exact item_listR pl.isList h0 (by omega) (by rw[hj];simpa using ew) fin hs
 ·have hj:(i+(its.toArray.size:Int)).toNat=j:=by
   rw[seqIndex_neg (by omega) h4] at h1
   rw[dJ,<-hl]
   exact gf h1
  exact subscriptTail_builtinR (x:=w) pl.isList.typeIs slot_list_getitem.lookup
   (wpAny_getItem_list_neg (Q:=fun r s'=>r=w/\EP X pins σ Q r s') pl.isList (by omega) (by rw[dJ]<;>omega) (by omega) (by rw[hj];simpa using ew) ⟨rfl,fin⟩) hs
theorem cA:kK X (bN X.K):=by
 intro value slice pins s σ H x y v u Q I rx ry h hs
 obtain⟨p,xs,i,z,rfl,rfl,hq,he,q⟩:=h
 cases rx
 obtain⟨t,rfl⟩:=ry
 obtain⟨its,r,pl,hz⟩:=I.tuple hq
 obtain⟨j,h1,h2,h3,h4,h5⟩:=BV he
 obtain⟨w,ew,rw'⟩:=r.get h2
 have hl:=r.length
 have hn:=pS
 have fin:EP X pins σ Q w s:=⟨z,H,I,rw',q⟩
 exact subscriptTail_builtinR (x:=w) pl.typeIs slot_tuple_getitem.lookup
  (getItem_tuple (j:=j) (Q:=fun r s'=>r=w/\EP X pins σ Q r s') pl (by omega) (by omega) (by rw[dJ,<-hl];exact h1) (by simpa using ew) ⟨rfl,fin⟩) hs
theorem Wr:kK X FG:=by
 intro value slice pins s σ H x y v u Q I rx ry h hs
 obtain⟨z,i,c,rfl,rfl,hz,he,q⟩:=h
 obtain⟨t,rfl⟩:=rx
 obtain⟨t',rfl⟩:=ry
 obtain⟨j,h1,h2,h3,h4,h5⟩:=BV he
 have hl:z.cps.toList.length=z.length:=by simp[Str.length]
 rw[hl] at h1 h4 h5
 have hn:=pS
 exact tail_any (typeIs_str s z t) slot_str_getitem.lookup (getItem_str (c:=c) (by
  have e1:decide (i< -(2^63:Int))=false:=decide_eq_false (by omega)
  have e2:decide (i≥2^63)=false:=decide_eq_false (by omega)
  rw[e1,e2,oO]) (by rw[h1];simpa using h2) ⟨.str ⟨#[c]⟩,H,I.tok _,⟨_,rfl⟩,q⟩) hs
def tM(K:PySem.W.Frag):R2:=fun x y H Q=>cz K x y H Q\/bN K x y H Q\/FG x y H Q
theorem Es:kK X (tM X.K):=bx.or (cA.or Wr)
theorem Qd(its:List Value)(n j:Nat)(u:Value):Obj.mapSeq (·.setIfInBounds j u) {cls:= .type "list",data:= .seq its.toArray n}={cls:= .type "list",data:= .seq (its.set j u).toArray n}:=by
 simp[Obj.mapSeq]
theorem Inv.lst{pins:List (Addr×Obj)}{σ:St}{H:Hp}{s:Shared}{p:Addr}{xs:List V}(I:Inv X pins σ H s)(h:H p=some (.lst xs)):
  ∃(its:List Value) (n:Nat),Vals xs its/\s.heap.get? p=some {cls:= .type "list",data:= .seq its.toArray n}/\xs.length<=sizeLine:=by
 obtain⟨z,its,n,r,e⟩:=I.hok p _ h
 exact⟨its,n,r,e,z⟩
theorem Inv.OR{pins:List (Addr×Obj)}{σ:St}{H:Hp}{s:Shared}{p:Addr}{xs ys:List V}{its its':List Value}{n n':Nat}{f:Obj->Obj}(I:Inv X pins σ H s)(h:H p=some (.lst xs))
  (ho:s.heap.get? p=some {cls:= .type "list",data:= .seq its.toArray n}) (hf:f {cls:= .type "list",data:= .seq its.toArray n}={cls:= .type "list",data:= .seq its'.toArray n'}) (r:Vals ys its') (hz:ys.length<=sizeLine) (t:Nat):
  Inv X pins σ (upd H p (.lst ys)) {s with heap:=s.heap.update p f,toks:=t}:=by
 have e:(s.heap.update p f).get? p=some {cls:= .type "list",data:= .seq its'.toArray n'}:=by
  rw[uQ f ho (by rw[hf]<;>rfl),hf]
 refine I.write (x:=p) (e:=p) (by rw[h];trivial) (.inl rfl) (fun b u hb q=>(kO _ _ (bw hb)).trans q) ⟨_,e⟩ ?_
 exact⟨hz,its',n',r,e⟩
def vN:V->V->V->Hp->(Hp->Prop)->Prop:=fun o i v H Q=>∃p xs k j,o= .ref p/\i= .int k/\H p=some (.lst xs)/\eW xs.length k=some j/\Q (upd H p (.lst (xs.set j v)))
theorem set_list:tW X vN:=by
 intro pins s σ H o i v ov iv u Q I ro ri rv h
 obtain⟨p,xs,k,j,rfl,rfl,hp,hj,q⟩:=h
 cases ro
 obtain⟨t,rfl⟩:=ri
 obtain⟨its,n,r,ho,hz⟩:=I.lst hp
 obtain⟨h1,h2,h3,h4⟩:=wg hj
 have hl:=r.length
 have hn:=pS
 have I':Inv X pins σ (upd H p (.lst (xs.set j v))) {s with heap:=s.heap.update p (Obj.mapSeq (·.setIfInBounds j u))}:=
  I.OR hp ho (Qd its n j u) (r.set rv j) (by rw[gC];exact hz) s.toks
 by_cases h0:0<=k
 ·have hk:k.toNat=j:=by
   rw[seqIndex_of h0 h4] at h1
   exact gf h1
  exact PySem.W.ki_setAt ho h0 (by omega) (by rw[dJ,<-hl];exact h4) (by rw[hk];exact⟨_,I',q⟩)
 ·have hk:(k+(its.toArray.size:Int)).toNat=j:=by
   rw[seqIndex_neg (by omega) h3] at h1
   rw[dJ,<-hl]
   exact gf h1
  exact PySem.W.ki_setBack ho (by omega) (by rw[dJ,<-hl];exact h3) (by omega) (by rw[hk];exact⟨_,I',q⟩)
theorem MU(lo hi:Option Int)(n:Nat):(sliceBounds lo hi none n).1=((HT.eB n 0 lo:Nat):Int)/\(sliceBounds lo hi none n).2.1=((HT.eB n n hi:Nat):Int)/\(sliceBounds lo hi none n).2.2=1:=by
  refine⟨?_,?_,rfl⟩
  · cases lo with
    |none=>simp[sliceBounds,HT.eB]
    | some i =>
      simp only[sliceBounds,HT.eB,Option.getD_none,show(1:Int)>0 by decide,if_true]
      by_cases h:i<0
      · simp only[h,if_true]<;>omega
      · simp only[h,if_false]<;>omega
  · cases hi with
    |none=>simp[sliceBounds,HT.eB]
    | some i =>
      simp only[sliceBounds,HT.eB,Option.getD_none,show(1:Int)>0 by decide,if_true]
      by_cases h:i<0
      · simp only[h,if_true]<;>omega
      · simp only[h,if_false]<;>omega
theorem MK(its:List Value)(lo hi:Option Int):slicePick its.toArray lo hi none=((its.drop (HT.eB its.length 0 lo)).take (HT.eB its.length its.length hi-HT.eB its.length 0 lo)).toArray:=by
 obtain⟨h1,h2,h3⟩:=MU lo hi its.toArray.size
 unfold slicePick
 rw[h1,h2,h3]
 simp only[sliceRange_one,pick_run,dJ]<;>rfl
def gJ(K:PySem.W.Frag):V->Option Int->Option Int->Hp->VK->Prop:=fun x lo hi H Q=>∃a xs,x= .ref a/\aV K H a xs/\∀p,H p=none->Q (.ref p) (upd H p (.lst (lY xs lo hi)))
theorem iB:Ik X (gJ X.K):=by
 intro pins s σ H x v vl vu lo hi sl Q I rx hs pl pu h
 obtain⟨a,xs,rfl,hx,q⟩:=h
 cases rx
 obtain⟨its,r,ht,hz⟩:=I.list hx
 have hlen:=r.length
 refine⟨"list",_,slot_list_getitem.lookup,ht.isList.typeIs,?_⟩
 refine wpAny_getItem_list_slice ht.isList hs pl pu .none (by simp) ?_ (by rw[dJ]<;>omega)
 rw[MK,<-hlen]
 refine⟨.ref s.heap.objs.size,_,I.laid (t':=s.toks) (o:= .lst (lY xs lo hi)) (fun b ob q=>bS _ q) (aQ _) ?_,rfl,q _ (I.hok.fresh (aQ _))⟩
 exact⟨eK (Mj xs lo hi) hz,_,0,(r.drop (HT.eB xs.length 0 lo)).take (HT.eB xs.length xs.length hi-HT.eB xs.length 0 lo),fN _ rfl⟩
def mT:V->Bool
 | .aL=>true
 | .bl _=>true
 | .int _=>true
 | .str _=>true
 |_=>false
def mC:V->V->Bool
 | .aL, .aL=>true
 | .bl a, .bl b=>a==b
 | .bl a, .int b=>(if a then 1 else 0)==b
 | .int a, .bl b=>a==(if b then 1 else 0)
 | .int a, .int b=>a==b
 | .str a, .str b=>a==b
 |_,_=>false
theorem WB{A:Around}{s:Shared}{y x:V}{u v:Value}(ry:RelV y u)(rx:RelV x v)(fy:mT y=true)(fx:mT x=true):SeqAt.EqAt A s u v (mC y x):=by
  cases y with
  | aL =>
    cases ry
    cases x with
    |aL=>cases rx;exact SeqAt.EqAt.same _
    |bl b=>cases rx;exact SeqAt.EqAt.none_bool b
    |int b=>obtain⟨t,rfl⟩:=rx;exact SeqAt.EqAt.none_int b t
    |str b=>obtain⟨t,rfl⟩:=rx;exact SeqAt.EqAt.none_str b t
    |_=>exact absurd (show false=true from fx) cC
  | bl a =>
    cases ry
    cases x with
    |aL=>cases rx;exact SeqAt.EqAt.bool_none a
    |bl b=>cases rx;exact SeqAt.EqAt.bool_bool a b
    |int b=>obtain⟨t,rfl⟩:=rx;exact SeqAt.EqAt.bool_int a b t
    |str b=>obtain⟨t,rfl⟩:=rx;exact SeqAt.EqAt.bool_str a b t
    |_=>exact absurd (show false=true from fx) cC
  | int a =>
    obtain⟨t',rfl⟩:=ry
    cases x with
    |aL=>cases rx;exact SeqAt.EqAt.int_none a t'
    |bl b=>cases rx;exact SeqAt.EqAt.int_bool a t' b
    |int b=>obtain⟨t,rfl⟩:=rx;exact SeqAt.EqAt.int_int a t' b t
    |str b=>obtain⟨t,rfl⟩:=rx;exact SeqAt.EqAt.int_str a t' b t
    |_=>exact absurd (show false=true from fx) cC
  | str a =>
    obtain⟨t',rfl⟩:=ry
    cases x with
    |aL=>cases rx;exact SeqAt.EqAt.str_none a t'
    |bl b=>cases rx;exact SeqAt.EqAt.str_bool a t' b
    |int b=>obtain⟨t,rfl⟩:=rx;exact SeqAt.EqAt.str_int a t' b t
    |str b=>obtain⟨t,rfl⟩:=rx;exact SeqAt.EqAt.str_str a t' b t
    |_=>exact absurd (show false=true from fx) cC
  |_=>exact absurd (show false=true from fy) cC
def lE(x:V)(u:Value):Bool:=match u with
 | .none=>mC .aL x
 | .bool b=>mC (.bl b) x
 | .int i _=>mC (.int i) x
 | .str z _=>mC (.str z) x
 |_=>false
theorem Hz{x y:V}{u:Value}(r:RelV y u)(f:mT y=true):lE x u=mC y x:=by
 cases y with
 |aL=>cases r;rfl
 |bl b=>cases r;rfl
 |int i=>obtain⟨t,rfl⟩:=r;rfl
 |str z=>obtain⟨t,rfl⟩:=r;rfl
 |_=>exact absurd (show false=true from f) cC
theorem Ad{x:V}:∀{xs:List V} {us:List Value},Vals xs us->xs.all mT=true->us.any (lE x)=xs.any fun y=>mC y x
  |_,_, .nil,_=>rfl
  | y :: xs, u :: us, .cons r t, f => by
    rw[mV,cN] at f
    rw[lI,lI,Hz r f.1,Ad t f.2]
theorem Cg{A:Around}{s:Shared}{x:V}{v:Value}(rx:RelV x v)(fx:mT x=true):∀{xs:List V} {us:List Value},Vals xs us->xs.all mT=true->∀u∈us,SeqAt.EqAt A s u v (lE x u)
  |_,_, .nil,_=>fun u hu=>by cases hu
  | y :: xs, u :: us, .cons r t, f => fun u' hu => by
    rw[mV,cN] at f
    rcases aP.mp hu with rfl|hu
    · rw[Hz r f.1];exact WB r rx f.1 fx
    · exact Cg rx fx t f.2 u' hu
def pT(x:V)(xs:List V):Bool:=xs.any fun y=>mC y x
def CK(K:PySem.W.Frag)(neg:Bool):R2:=fun x y H Q=>∃p xs,y= .ref p/\(aV K H p xs\/gh K H p xs)/\mT x=true/\xs.all mT=true/\Q (.bl (if neg then !pT x xs else pT x xs)) H
theorem Py:dZ X (compareOp .In) (CK X.K false):=by
 intro pins s σ H x y v u Q I rx ry h
 obtain⟨p,xs,rfl,hq,fx,fs,q⟩:=h
 cases ry
 rcases hq with hq|hq
 ·obtain⟨its,r,pl,hz⟩:=I.list hq
  refine SeqAt.in_listAt (lE x) pl.isList (fun w hw=>Cg rx fx r fs w (by simpa using hw)) ⟨.bl _,H,I,rfl,?_⟩
  rw[show its.toArray.any (lE x)=its.any (lE x) by simp,Ad r fs]
  exact q
 ·obtain⟨its,r,pl,hz⟩:=I.tuple hq
  refine SeqAt.in_tupleAt (lE x) pl (fun w hw=>Cg rx fx r fs w (by simpa using hw)) ⟨.bl _,H,I,rfl,?_⟩
  rw[show its.toArray.any (lE x)=its.any (lE x) by simp,Ad r fs]
  exact q
theorem DS:fk X (.builtin "len") (fun xs H Q=>∃p ys,xs=[.ref p]/\(aV X.K H p ys\/gh X.K H p ys)/\Q (.int ys.length) H):=by
 intro pins s σ H xs us Q I r h
 obtain⟨p,ys,rfl,hq,q⟩:=h
 obtain⟨u,rfl,rx⟩:=vals1 r
 cases rx
 have hn:=pS
 rcases hq with hq|hq
 ·obtain⟨its,r',pl,hz⟩:=I.list hq
  have hlen:=r'.length
  exact Calls.call_len_list pl.isList (by simp only[dJ]<;>omega) ⟨.int ys.length,H,I.tok _,⟨s.toks+1,by rw[dJ,hlen]⟩,q⟩
 ·obtain⟨its,r',pl,hz⟩:=I.tuple hq
  have hlen:=r'.length
  exact len_tuple pl (by simp only[dJ]<;>omega) ⟨.int ys.length,H,I.tok _,⟨s.toks+1,by rw[dJ,hlen]⟩,q⟩
theorem OB:fk X (.type "list") (fun xs H Q=>∃p ys,xs=[.ref p]/\(aV X.K H p ys\/gh X.K H p ys)/\∀l,H l=none->Q (.ref l) (upd H l (.lst ys))):=by
 intro pins s σ H xs us Q I r h
 obtain⟨p,ys,rfl,hq,q⟩:=h
 obtain⟨u,rfl,rx⟩:=vals1 r
 cases rx
 have fin:∀(its:List Value),Vals ys its->ys.length<=sizeLine->∀(h':Heap) (c':Nat),(∀b o',s.heap.get? b=some o'->h'.get? b=some o')->
   h'.get? s.heap.objs.size=some {cls:= .type "list",dict:=none,data:= .seq its.toArray c',slots:= #[]}->EP X pins σ Q (.ref s.heap.objs.size) {s with heap:=h'}:=fun its r' hz h' c' kp e=>
  ⟨.ref s.heap.objs.size,_,I.laid (t':=s.toks) kp (aQ _) (show bU X.prog X.w _ h' _ (.lst ys) from⟨hz,its,c',r',e⟩),rfl,q _ (I.hok.fresh (aQ _))⟩
 rcases hq with hq|hq
 ·obtain⟨its,r',pl,hz⟩:=I.list hq
  have hlen:=r'.length
  obtain⟨o,ho,hc,n,hd⟩:=pl.isList
  exact call_list_seq p (.inl rfl) ho hc hd (fun h' c' kp e=>fin its r' hz h' c' kp e) (by simp only[dJ]<;>omega)
 ·obtain⟨its,r',pl,hz⟩:=I.tuple hq
  have hlen:=r'.length
  obtain⟨o,ho,hc,n,hd⟩:=pl
  exact call_list_seq p (.inr rfl) ho hc hd (fun h' c' kp e=>fin its r' hz h' c' kp e) (by simp only[dJ]<;>omega)
def pB(K:PySem.W.Frag)(T:String)(x:V)(H:Hp):Prop:=match x with
 | .str _=>T="str"
 | .int _=>T="int"
 | .ref p => (T = "list" /\ ∃ xs, aV K H p xs) \/ (T = "tuple" /\ ∃ o, K.lookup p = some o /\ o.cls = .type "tuple" /\ o.dict = none) \/
   (T="dict" /\((∃kvs,H p=some (.dK kvs))\/(∃kvs,H p=some (.dT kvs))\/∃o kvs,H p=some (.gX o (.dK kvs))))\/(T="set" /\∃S n,H p=some (.set S n))
 |_=>False
theorem Ip{pins:List (Addr×Obj)}{σ:St}{H:Hp}{s:Shared}{T:String}{x:V}{v:Value}(I:Inv X pins σ H s)(r:RelV x v)(ty:pB X.K T x H):
    s.TypeIs v T/\∀a,v= .ref a->∃ob,s.heap.get? a=some ob/\ob.dict=none:=by
  cases x with
  | str z =>
    obtain⟨t,rfl⟩:=r
    cases (show T="str" from ty)
    exact⟨typeIs_str s z t,fun _ e=>nomatch e⟩
  | int i =>
    obtain⟨t,rfl⟩:=r
    cases (show T="int" from ty)
    exact⟨typeIs_int s i t,fun _ e=>nomatch e⟩
  | ref p =>
    cases r
    rcases ty with ⟨rfl,xs,hq⟩|⟨rfl,o,hk,hc,hd⟩|⟨rfl,hk⟩|⟨rfl,S,n,hk⟩
    · obtain⟨its,_,pl,_⟩:=I.list hq
      refine⟨pl.isList.typeIs,fun a e=>?_⟩
      cases e
      obtain⟨o,n,e,c,hd,_⟩:=pl
      exact⟨o,e,hd⟩
    · refine⟨⟨o,I.eF p o hk,hc⟩,fun a e=>?_⟩
      cases e
      exact⟨o,I.eF _ o hk,hd⟩
    · have z:∃o,s.heap.get? p=some o/\o.ExactDict:=by
        rcases hk with ⟨kvs,hk⟩|⟨kvs,hk⟩|⟨ob,kvs,hk⟩
        · obtain⟨_,_,_,_,o,_,_,e,ex,_⟩:=I.hok p _ hk
          exact⟨o,e,ex⟩
        · obtain⟨_,_,_,_,o,_,_,e,ex,_⟩:=I.hok p _ hk
          exact⟨o,e,ex⟩
        · obtain⟨_,_,_,_,_,o,_,_,e,ex,_⟩:=I.hok p _ hk
          exact⟨o,e,ex⟩
      obtain⟨o,e,ex⟩:=z
      refine⟨⟨o,e,ex.1⟩,fun a e2=>?_⟩
      cases e2
      exact⟨o,e,ex.2.1⟩
    · obtain⟨o,_,_,_,e,ex,_⟩:=I.hok p _ hk
      refine⟨⟨o,e,ex.1⟩,fun a e2=>?_⟩
      cases e2
      exact⟨o,e,ex.2.1⟩
  |_=>exact False.elim ty
def Fv(K:PySem.W.Frag)(T:String)(r:V->List V->Hp->VK->Prop)(to:TE):TE:=fun σ H Q=>to σ H fun x H1=>pB K T x H1/\r x [] H1 Q
def jQ(K:PySem.W.Frag)(T:String)(r:V->List V->Hp->VK->Prop)(to:TE)(t:TA):TE:=fun σ H Q=>to σ H fun x H1=>pB K T x H1/\t σ H1 fun xs H2=>r x xs H2 Q
variable{o e:Expr}{es:List Expr}{to:TE}{t:TA}{name:Str}{apos cpos:Pos}{T id:String}{r:V->List V->Hp->VK->Prop}
theorem PX(pa:PlainAttrs T)(slot:Slot T name id)(hty:typeOf (.builtin id)=pure (.type "method_descriptor"))(hm:qR X id r)(ho:PE X o to)
  (hbase:attributeBase o name X.env (eval o X.env)=eval o X.env:=by rfl) (hline:(apos.endLine==cpos.line)=true:=by rfl):PE X (.Call (.Attribute o name apos) [] [] cpos) (Fv X.K T r to):=by
 intro pins s σ H Q I h
 refine wpAny_Call_method0_late hbase hline (aW (ho pins s σ H _ I h) fun v s1 ⟨x,H1,I1,r1,ty,q1⟩=>?_)
 obtain⟨h1,h2⟩:=Ip I1 r1 ty
 exact⟨T,id,pa,slot,hty,h1,h2,Calls.callWith_builtin rfl (PySem.evalArgs_none (hm pins s1 σ H1 x [] v [] Q I1 r1 .nil q1))⟩
theorem iD(pa:PlainAttrs T)(slot:Slot T name id)(hty:typeOf (.builtin id)=pure (.type "method_descriptor"))(hm:qR X id r)(ho:PE X o to)(ha:PA X (e::es) t)
  (hbase:attributeBase o name X.env (eval o X.env)=eval o X.env:=by rfl)
  (hfew : ((backTo cpos (starEach (e :: es) X.env)).all (fun x => !x.1) && (backToKw cpos (keywordEach [] X.env)).all (fun x => x.1.isSome)
   && decide ((e::es).length+([]:List Keyword).length+(if([]:List Keyword).isEmpty then 0 else 1)<30))=true:=by rfl)
  (hline:(apos.endLine==cpos.line)=true:=by rfl) (hs:starEach (e::es) X.env=(false,eval e X.env)::starEach es X.env:=by rfl) (hplain:(backTo cpos (starEach es X.env)).any (·.1)=false:=by rfl):
  PE X (.Call (.Attribute o name apos) (e::es) [] cpos) (jQ X.K T r to t):=by
 intro pins s σ H Q I h
 refine wpAny_Call_method_late hbase hfew hline rfl (aW (ho pins s σ H _ I h) fun v s1 ⟨x,H1,I1,r1,ty,q1⟩=>?_)
 obtain⟨h1,h2⟩:=Ip I1 r1 ty
 refine⟨T,id,pa,slot,hty,h1,h2,?_⟩
 have hA:=ha cpos pins s1 σ H1 _ I1 q1
 rw[hs] at hA⊢
 refine Calls.callWith_builtin (by show(false||(backTo cpos (starEach es X.env)).any (·.1))=false;rw[hplain]<;>rfl) (Calls.evalArgs_plain ?_)
 exact aW hA fun us s2 ⟨vs,H2,I2,r2,q2⟩=>hm pins s2 σ H2 x vs v us Q I2 r1 r2 q2
/-xs.append(e),list.index on a module's tuple .. are qR facts of 06m-/
end
def Ba(X:Cx)(id:String)(r:V->List V->Hp->VK->Prop):Prop:=
 ∀(pins:List (Addr×Obj)) (s:Shared) (σ:St) (H:Hp) (x:V) (xs:List V) (v:Value) (us:List Value) (Q:VK),Inv X pins σ H s->RelV x v->Vals xs us->r x xs H Q->
  wpAny (model X.prog X.w) X.A (call (.builtin id) (v::us)) (EP X pins σ Q) X.xe s
theorem Vals.one{x:V}{us:List Value}(h:Vals [x] us):∃u,us=[u]/\RelV x u:=by
 cases h with
 |cons r t=>cases t;exact⟨_,rfl,r⟩
theorem Vals.two{x y:V}{us:List Value}(h:Vals [x,y] us):∃u v,us=[u,v]/\RelV x u/\RelV y v:=by
  cases h with
  | cons r t =>
    obtain⟨v,e,q⟩:=Vals.one t
    exact⟨_,v,by rw[e],r,q⟩
theorem Vals.dropLast{xs:List V}{us:List Value}(h:Vals xs us):Vals xs.dropLast us.dropLast:=by
  induction h with
  |nil=>exact .nil
  | cons r t ih =>
    cases t with
    |nil=>exact .nil
    |cons q t'=>exact .cons r ih
theorem Vals.eraseIdx:∀{xs:List V} {us:List Value} (i:Nat),Vals xs us->Vals (xs.eraseIdx i) (us.eraseIdx i)
 |_,_,_, .nil=> .nil
 |_,_,0, .cons _ t=>t
 |_,_,i+1, .cons r t=> .cons r (Vals.eraseIdx i t)
theorem EU{α:Type}:∀(l:List α) (i:Nat),(l.eraseIdx i).length<=l.length
 |[],_=>aQ _
 |_::_,0=>m8 _
 |_::r,i+1=>Nat.succ_le_succ (EU r i)
section
variable{X:Cx}{pins:List (Addr×Obj)}{σ:St}{H:Hp}{s:Shared}{l b:Addr}{xs ys zs:List V}
theorem Inv.yF{its its':List Value}{n:Nat}{f:Array Value->Array Value}{t':Nat}(I:Inv X pins σ H s)(hH:H l=some (.lst xs))
  (e:s.heap.get? l=some {cls:= .type "list",data:= .seq its.toArray n}) (hf:f its.toArray=its'.toArray) (hv:Vals ys its') (hz:ys.length<=sizeLine):
  Inv X pins σ (upd H l (.lst ys)) {s with heap:=s.heap.update l (Obj.mapSeq f),toks:=t'}:=by
 have q:=PySem.IsL.update e f
 rw[hf] at q
 refine I.write (x:=l) (e:=l) (by rw[hH];exact trivial) (.inl rfl) (fun b' u hb hu=>(kO s.heap (Obj.mapSeq f) (bw hb)).trans hu) ⟨_,q⟩ ?_
 exact⟨hz,its',_,hv,q⟩
theorem Inv.Gk{its:List Value}{t':Nat}(I:Inv X pins σ H s)(hv:Vals ys its)(hz:ys.length<=sizeLine):
  Inv X pins σ (upd H s.heap.objs.size (.lst ys)) {s with heap:=s.heap.push {cls:= .type "list",data:= .seq its.toArray},toks:=t'}:=
 I.laid (fun _ _ q=>bS _ q) (aQ _) ⟨hz,its,0,hv,fN _ rfl⟩
theorem Inv.fresh(I:Inv X pins σ H s):H s.heap.objs.size=none:=I.hok.fresh (aQ _)
theorem Inv.pZ(I:Inv X pins σ H s)(hH:H l=some (.lst xs)):xs.length<=sizeLine/\∃(its:List Value) (n:Nat),Vals xs its/\xs.length=its.length/\s.heap.get? l=some {cls:= .type "list",data:= .seq its.toArray n}:=by
 obtain⟨z,its,n,r,e⟩:=I.hok l _ hH
 exact⟨z,its,n,r,r.length,e⟩
theorem Mq{n:Nat}(h:n<=sizeLine):Builtin.List.listTooLong n=false:=by
 unfold Builtin.List.listTooLong
 exact decide_eq_false (by omega)
end
section
variable{X:Cx}
def p8:V->List V->Hp->VK->Prop:=fun x vs H Q=>∃l xs y,x= .ref l/\vs=[y]/\H l=some (.lst xs)/\xs.length<sizeLine/\Q .aL (upd H l (.lst (xs++[y])))
theorem jU:Ba X "list.append" p8:=by
 intro pins s σ H x vs v us Q I rx rv h
 obtain⟨l,xs,y,rfl,rfl,hH,hz,q⟩:=h
 cases rx
 obtain⟨u,rfl,ru⟩:=rv.one
 obtain⟨z,its,n,r,hl,e⟩:=I.pZ hH
 refine call_meets F.slot_list_append ⟨_,e,rfl⟩ F.entry_list_append (F.args_list_append_2 _ _) (PySem.list_append l its.toArray n u (by rw[dJ];omega)) ⟨e,?_⟩
 refine⟨.aL,_,I.yF (its':=its++[u]) hH e (by simp) (r.append (.cons ru .nil)) ?_,rfl,q⟩
 rw[bz,fh]
 omega
def LZ:V->List V->Hp->VK->Prop:=fun x vs H Q=>∃l b xs zs,x= .ref l/\vs=[.ref b]/\H l=some (.lst xs)/\H b=some (.lst zs)/\xs.length+zs.length<=sizeLine/\Q .aL (upd H l (.lst (xs++zs)))
theorem X8:Ba X "list.extend" LZ:=by
 intro pins s σ H x vs v us Q I rx rv h
 obtain⟨l,b,xs,zs,rfl,rfl,hH,hB,hz,q⟩:=h
 cases rx
 obtain⟨u,rfl,ru⟩:=rv.one
 cases ru
 obtain⟨z,its,n,r,hl,e⟩:=I.pZ hH
 obtain⟨z2,its2,n2,r2,hl2,e2⟩:=I.pZ hB
 have hsz:its.toArray.size+its2.toArray.size<=sizeLine:=by rw[dJ,dJ];omega
 have Wt:¬(!its.toArray.isEmpty && Builtin.List.listTooLong (its.toArray.size+its2.toArray.size))=true:=by
  rw[Mq hsz,Bool.and_false]
  exact cC
 refine call_meets F.slot_list_extend ⟨_,e,rfl⟩ F.entry_list_extend (F.args_list_extend_2 _ _)
  (AutoSeq1.list_extend_list_list_0 l its.toArray n b its2.toArray n2 Wt (by rw[dJ];omega) (by omega)) ⟨e,e2,?_⟩
 refine⟨.aL,_,I.yF (its':=its++its2) hH e (by simp) (r.append r2) ?_,rfl,q⟩
 rw[bz]
 omega
def ye:V->List V->Hp->VK->Prop:=fun x vs H Q=>∃l xs i k y,x= .ref l/\vs=[.int i]/\H l=some (.lst xs)/\ -(2^63)<=i/\i<2^63/\seqIndex? i xs.length=some k/\xs[k]?=some y/\Q y (upd H l (.lst (xs.eraseIdx k)))
theorem DY:Ba X "list.pop" ye:=by
 intro pins s σ H x vs v us Q I rx rv h
 obtain⟨l,xs,i,k,y,rfl,rfl,hH,h1,h2,hk,hy,q⟩:=h
 cases rx
 obtain⟨u,rfl,ru⟩:=rv.one
 obtain⟨t,rfl⟩:=ru
 obtain⟨z,its,n,r,hl,e⟩:=I.pZ hH
 obtain⟨w,hw,rw'⟩:=r.get hy
 refine call_meets F.slot_list_pop ⟨_,e,rfl⟩ F.entry_list_pop (F.args_list_pop_2 _ _)
  (MeetsSeq.list_pop_at l its.toArray n i t k w (fitsIndex_both h1 h2) (by rw[dJ,<-hl];exact hk) (by rw[<-nq];exact hw) (by rw[dJ];omega)) ⟨e,?_⟩
 refine⟨y,_,I.yF (its':=its.eraseIdx k) hH e ?_ (r.eraseIdx k) ?_,rw',q⟩
 ·show its.toArray.eraseIdxIfInBounds k=(its.eraseIdx k).toArray
  rw[List.eraseIdxIfInBounds_toArray]
 ·have:=EU xs k
  omega
def Al:R2:=fun x y H Q=>∃l b xs zs,x= .ref l/\y= .ref b/\H l=some (.lst xs)/\H b=some (.lst zs)/\xs.length+zs.length<=sizeLine/\∀p,H p=none->Q (.ref p) (upd H p (.lst (xs++zs)))
theorem jn:dZ X (binaryOp .Add) Al:=by
 intro pins s σ H x y v u Q I rx ry h
 obtain⟨l,b,xs,zs,rfl,rfl,hH,hB,hz,q⟩:=h
 cases rx
 cases ry
 obtain⟨z,its,n,r,hl,e⟩:=I.pZ hH
 obtain⟨z2,its2,n2,r2,hl2,e2⟩:=I.pZ hB
 refine PySem.P.add_list e e2 ?_ (by rw[dJ,dJ];omega)
 have ea:its.toArray++its2.toArray=(its++its2).toArray:=by simp
 rw[ea]
 exact⟨.ref _,_,I.Gk (t':=s.toks) (r.append r2) (by rw[bz];omega),rfl,q _ I.fresh⟩
end
end L2
namespace Att
open PySem PySem.W PySem.Calls PyProof.Rows
theorem Xx{P:Params}{h:Heap}:∀(ns:List Int) (vs:List Value),WellAll P h vs (ns.map WData.int)->IntsAre vs ns:=by
  intro ns
  induction ns with
  | nil =>
    intro vs w
    rw[oq] at w
    cases w
    exact .nil
  | cons n ns ih =>
    intro vs w
    rw[aZ] at w
    cases w with
    | cons a b =>
      cases a
      exact .cons _ _ (ih _ b)
theorem Kf{l:OpenLaw}{n:Nat}(hn:l.most=some n){P:Params}{h:Heap}{args:List WData}{vals:List Value}
    (hpre:l.row.toRowW.claim.pre args=true) (hwl:WellAll P h vals args):
    ∃a vs ns,vals=[Value.ref a]/\args=[WData.list (ns.map WData.int)]/\h.get? a=some {cls:= .type "list",data:= .seq vs.toArray}/\IntsAre vs ns/\ns.length<=n:=by
  have hsh:WShape.hasAll [] args [.list .int]=true:=(pre_splitW hpre).1
  have hc:l.pre.holds [] {args:=args}=true:=(pre_splitW hpre).2
  obtain⟨d,r,rfl,h1,h2⟩:=hasAllW_cons hsh
  obtain rfl:=hasAllW_nil h2
  obtain⟨xs,rfl,h3⟩:=hasW_list h1
  obtain⟨ns,rfl⟩:=items_int h3
  have hlen:ns.length<=n:=by
    unfold OpenLaw.pre at hc
    have h4:(WTm.not (.lt (.lit (.int (n:Int))) (.len (.arg 0)))).holds [] {args:=[.list (ns.map .int)]}=true:=by
      have h4:=(holds_andW hc).1
      rw[hn] at h4
      exact h4
    have h5:=condW_of h4 (w_not (w_lt w_lit (w_len_list (w_arg rfl))))
    rw[ak] at h5
    refine An fun q=>?_
    have q':(n:Int)<((ns.length:Nat):Int):=by omega
    first
      |(rw[decide_eq_true q'] at h5;exact absurd h5 (by decide))
      |(simp at h5;omega)
  cases hwl with
  | cons w1 w2 =>
    cases w2
    cases w1 with
    |list ho hall=>exact⟨_,_,ns,rfl,rfl,ho,Xx ns _ hall,hlen⟩
theorem M9(l:OpenLaw)(args:List WData):l.row.toRowW.claim.post args (.bool true) args=true:=
 postW_of (r:=l.row.toRowW) (X:=(true==true))
  (show WShape.has [] (.bool true) .bool=true by first|rfl|decide|simp[WShape.has,WShape.arms,WShape.armsAll])
  (show(WTm.eq .res (.lit (.bool true))).value [] {args:=args,res:=some (.bool true),after:=args}=some (.bool (true==true)) from w_eq_bool (w_res rfl) w_lit) rfl
theorem S0{l:OpenLaw}{n:Nat}{q:Program}{loose:List Str}{XP:(Str->Option Value)->Heap->Prop}{YP:World->Heap->Prop}{d:DefRec}
  (hn:l.most=some n) (hdf:d.params.defaults=[])
  (call : ∀ (w : World) (s₀ s₁ : Shared) (mg mb : Str -> Option Value) (fa : Addr) (o : Obj) (pm cd doc : Value) (a : Addr) (vs : List Value) (ns : List Int),
   Ground q loose [] XP w s₀ mg mb s₁.heap->YP w s₁.heap->
   s₁.heap.get? fa=some o->o.data= .func (docDef d.name d.params d.body d.scope pm cd doc)->s₁.heap.CodeRec cd d.name->mg d.name=some (.ref fa)->
   s₁.heap.get? a=some {cls:= .type "list",data:= .seq vs.toArray}->IntsAre vs ns->ns.length<=n->s₁.gens= #[]->
   codeAny (model l.prog w) callerA (.call (.ref fa) ⟨[.ref a],[]⟩) (fun r s'=>r= .ok (.ret (.bool true))/\OldK s₁.heap s'.heap/\s'.os=s₁.os/\AllBare s'.gens) s₁):
  WalkO q loose XP YP l.row.toRowW d [] (fun f vs=>PySem.call f vs):=by
 intro w s₀ s₁ mg mb G Y fa o pm cd doc dV kV ho hd hcd hD hmg hg args vals as hpre hlay hrd hwl hlo
 obtain rfl:dV= .none:=Dflts.none hD hdf
 obtain rfl:kV= .none:=Dflts.noKw hD
 obtain⟨a,vs,ns,rfl,rfl,hobj,hints,hlen⟩:=Kf hn hpre hwl
 refine enter_call (codeAny_mono (call w s₀ s₁ mg mb fa o pm cd doc a vs ns G Y ho (fd_plain hd) hcd hmg hobj hints hlen hg) fun r s' hq=>?_)
 obtain⟨rfl,h2,h3,h4⟩:=hq
 exact⟨.inl ⟨.bool true, .bool true,[],rfl,fun _=>rfl, .bool true,M9 l _,fun _=>⟨List.Pairwise.nil,fun _ hm=>(nomatch hm)⟩⟩,h2,h3,h4⟩
section
variable{prog:Program}{w:World}{A:Around}{E:Value->Shared->Prop}{s:Shared}{K:Frag}
def ledger(h:Heap)(L d:Addr):List (Addr×Obj):=(List.range h.objs.size).filterMap fun a=>if a=L\/a=d then none else(h.get? a).map fun o=>(a,o)
end
end Att
namespace L2
open PySem PySem.Spec PyProof.Rows
theorem Er:∀{vs:List Value} {ns:List Int},IntsAre vs ns->Vals (ns.map V.int) vs
 |_,_, .nil=> .nil
 |_,_, .cons n t h=> .cons ⟨t,rfl⟩ (Er h)
def xE(H:Hp):Prop:=∀b,H b=none\/∃o xs,H b=some (.gX o (.lst xs))
theorem QC{P:Program}{w:World}{K:PySem.W.Frag}{mg mb:Str->Option Value}{CX:kG}{k:Nat}{fa a:Addr}{fd:FuncData}{x:Str}{sp:Sp}{s₁:Shared}{vs:List Value}{ns:List Int}
    (KX:K.In s₁.heap) (hns:s₁.heap.Ns mainGlobals mg) (hb:s₁.heap.Ns builtinsNs mb) (Ru:∀x:Str,x≠"__name__" ->mb x=bootBuiltins x) (hlim:s₁.heap.NoLimit) (hg:s₁.gens= #[])
    (ha:s₁.heap.get? a=some {cls:= .type "list",data:= .seq vs.toArray}) (hi:IntsAre vs ns) (hl:ns.length<=sizeLine) (hr:gE k callerA)
    (F:∀base:Heap,K.In base->base.Ns mainGlobals mg->bD P w K mg base CX k fa fd [x] sp) (hbind:∀(s:Shared) (u:Value),BindsTo s fd ⟨[u],[]⟩ [(x,u)])
    (gk:∀H:Hp,xE H->aV K H a (ns.map V.int)->sp [.ref a] H (fun v _=>v= .bl true) fun _ _ _=>False)
    (zo:∀H e s',CX [] H s₁ (fun _ _ _=>False) e s'->False):
    codeAny (model P w) callerA (.call (.ref fa) ⟨[.ref a],[]⟩) (fun r s'=>r= .ok (.ret (.bool true))/\OldK s₁.heap s'.heap/\s'.os=s₁.os/\AllBare s'.gens) s₁:=by
  have rv:=Er hi
  have OA:=hi.length
  have core:∀H:Hp,xE H->aV K H a (ns.map V.int)->c6 P w H s₁.heap->(∀b,H b≠none->b=a)->(H a≠none->K.lookup a=none)->
      codeAny (model P w) callerA (.call (.ref fa) ⟨[.ref a],[]⟩) (fun r s'=>r= .ok (.ret (.bool true))/\OldK s₁.heap s'.heap/\s'.os=s₁.os/\AllBare s'.gens) s₁:=by
    intro H hO hS hok hA hK
    have JJ:∀{b:Addr} {o:Obj},s₁.heap.get? b=some o->H b=none->(kZ s₁.heap H).get? b=some o:=fun e n=>VF e n
    have sy:∀{b:Addr} {o:Obj} {es:Array DictEntry} {ep:Nat},s₁.heap.get? b=some o->o.data= .dict es ep->H b=none:=fun{b o es ep} e d=>by
      cases q:H b with
      |none=>rfl
      | some u =>
        have e':b=a:=hA b (by rw[q];simp)
        subst e'
        rw[ha] at e;cases e
        have d':Data.seq vs.toArray _=Data.dict es ep:=d
        cases d'
    have uB:∀{b:Addr} {m:Str->Option Value},s₁.heap.Ns b m->(kZ s₁.heap H).Ns b m:=fun{b m} ⟨o,es,ep,e,d,r⟩=>⟨o,es,ep,JJ e (sy e d),d,r⟩
    have Fc:K.In (kZ s₁.heap H):=fun b o e=>JJ (KX b o e) (by
      cases q:H b with
      |none=>rfl
      | some u =>
        have e':b=a:=hA b (by rw[q];simp)
        subst e'
        rw[hK (by rw[q];simp)] at e;cases e)
    have hM:Mod K mg (kZ s₁.heap H):=⟨Fc,uB hns,⟨mb,uB hb,Ru⟩,let ⟨mc,h1,h2⟩:=hlim;⟨mc,uB h1,h2⟩⟩
    have e0:uv P w K mg (kZ s₁.heap H) callerA [] s₁ H:=⟨rfl,hM,fun b o e=>RI e,v8 (Pc _ _),trivial,fun b hb=>absurd (show b∈([]:List Addr) from hb) (by simp),hok, .of_eq hg⟩
    refine codeAny_mono ((F _ Fc (uB hns)).run callerA [] s₁ H ⟨[.ref a],[]⟩ [.ref a] [.ref a] _ _ hr e0 (hbind s₁ (.ref a)) (.cons rfl .nil) (gk H hO hS)) fun r s' h=>?_
    cases r with
    |error e=>exact(zo H e s' h).elim
    | ok fl =>
      cases fl with
      |next=>exact False.elim h
      |brk=>exact False.elim h
      |cont=>exact False.elim h
      | ret u =>
        obtain⟨v,H',os,bare,un,QU,r',q⟩:=h
        have q':v= .bl true:=q
        subst q'
        obtain rfl:u=Value.bool true:=r'
        refine⟨rfl,OldK.of_keep fun b o e=>?_,os,bare⟩
        cases q:H b with
        |none=>exact un.keep b o e q (by intro z;exact absurd (show b∈([]:List Addr) from z) (by simp)) (by simp)
        | some u =>
          rcases hO b with z|⟨ob,xs,z⟩
          · rw[q] at z;cases z
          · have z2:=un.lP b ob _ z
            obtain⟨e1,_⟩:=hok b _ z
            obtain⟨e2,_⟩:=QU b _ z2
            rw[e] at e1;cases e1
            exact e2
  cases hk:K.lookup a with
  | some o =>
    have e:=KX a o hk
    rw[ha] at e
    cases e
    refine core (fun _=>none) (fun _=> .inl rfl) (.inr ⟨_,vs.toArray,_,hk,rfl,rfl,rfl,by rw[dJ,OA];exact hl,by simpa using rv⟩) (fun b u z=>by have z':(none:Option HO)=some u:=z;cases z') (fun b z=>absurd rfl z) fun z=>absurd rfl z
  | none =>
    refine core (fun b=>if b=a then some (.gX {cls:= .type "list",data:= .seq vs.toArray} (.lst (ns.map V.int))) else none) (fun b=>?_) (.inl (.inr ⟨{cls:= .type "list",data:= .seq vs.toArray},if_pos rfl⟩)) (fun b u z=>?_) (fun b z=>?_) fun _=>hk
    · by_cases hb:b=a
      · exact .inr ⟨_,_,if_pos hb⟩
      · exact .inl (if_neg hb)
    · by_cases hb:b=a
      · have z':=(if_pos hb).symm.trans z
        cases z'
        subst hb
        exact⟨ha,by rw[ak];exact hl,vs,_,rv,ha⟩
      · have z':=(if_neg hb).symm.trans z
        cases z'
    · by_cases hb:b=a
      · exact hb
      · exact absurd (if_neg hb) z
theorem Ui{l:PySem.W.OpenLaw}{n k:Nat}{q:Program}{loose:List Str}{XP:(Str->Option Value)->Heap->Prop}{YP:World->Heap->Prop}{d:DefRec}{K:Params->PySem.W.Frag}{CX:World->kG}{sp:World->Sp}{x:Str}
  (hn:l.most=some n) (hn2:n<=sizeLine) (hdf:d.params.defaults=[]) (hr:gE k callerA)
  (hY:∀(w:World) (h:Heap),YP w h->(K w.params).In h)
  (F : ∀ (w : World) (mg : Str -> Option Value) (fa : Addr) (h : Heap), (K w.params).In h -> h.Ns mainGlobals mg -> mg d.name = some (.ref fa) ->
   ∃fd:FuncData,(∀(s:Shared) (u:Value),BindsTo s fd ⟨[u],[]⟩ [(x,u)])/\
    ∀base:Heap,(K w.params).In base->base.Ns mainGlobals mg->bD l.prog w (K w.params) mg base (CX w) k fa fd [x] (sp w))
  (gk:∀(w:World) (H:Hp) (a:Addr) (ns:List Int),ns.length<=n->xE H->aV (K w.params) H a (ns.map V.int)->sp w [.ref a] H (fun v _=>v= .bl true) fun _ _ _=>False)
  (zo:∀(w:World) (H:Hp) (s:Shared) (e:Value) (s':Shared),CX w [] H s (fun _ _ _=>False) e s'->False):
  PySem.W.WalkO q loose XP YP l.row.toRowW d [] (fun f vs=>PySem.call f vs):=by
 refine Att.S0 hn hdf fun w s₀ s₁ mg mb fa o pm cd doc a vs ns G Y ho hd hcd hmg hobj hints hlen hg=>?_
 have KX:=hY w _ Y
 obtain⟨fd,hb,hF⟩:=F w mg fa _ KX G.T.g hmg
 exact QC KX G.T.g G.T.b G.T.builtins G.T.nolimit hg hobj hints (eK hlen hn2) hr hF hb (fun H hO hS=>gk w H a ns hlen hO hS) fun H e s'=>zo w H s₁ e s'
end L2
/-THE LAST THEOREM (shape;LID,My.*are yours):
   My.Adr:a structure of the addresses that your layer names (classes,functions);My.Txt K t:a structure (Prop) of the equations over K;
   My.txt_mk:{K} {implicit addresses ..} (e1:nsIn K mainGlobals "law"=some (some (.ref f))) (e2:K.lookup f=some ⟨oc,od, .func (fnOf "law" "law" params body scope dV kV doc pm an cdv ct),sl⟩) (e3:codeIn K cdv "law"=true) .. :∃t,My.Txt K t
set_option maxRecDepth 100000 in
set_option maxHeartbeats 0 in
(the tactic k_is has no namespace:write k_is)-/
namespace L2
open PySem PySem.Spec PyProof.Rows
def oA(s:Stmt):Arguments:=match s with
 | .FunctionDef _ a _ _ _ _ _ _ _ _=>a
 |_=>{posonlyargs:=[],args:=[],vararg:=none,kwonlyargs:=[],kw_defaults:=[],kwarg:=none,defaults:=[]}
def m5(s:Stmt):List Stmt:=match s with
 | .FunctionDef _ _ b _ _ _ _ _ _ _=>b
 |_=>[]
def aM(s:Stmt):Scope:=match s with
 | .FunctionDef _ _ _ _ _ _ sc _ _ _=>sc
 |_=>{kind:= .function,names:=[],isGenerator:=false,isCoroutine:=false}
abbrev bI:kG:=fun _ _ _ _ _ _=>False
abbrev E0:XK:=fun _ _ _=>False
theorem Kr{X:Cx}:Passes bI X E0:=fun _ _ _ _ _ _ _ h=>h.elim
structure bK(K:PySem.W.Frag)(x qual:Str)(st:Stmt)(f:Addr)(fd:FuncData):Prop where
 ex:∃(oc:Value) (od:Option Addr) (kV doc pm:Value) (an:Option Addr) (cdv ct:Value) (osl:Array (Option Value)),
  fd=PySem.W.fnOf x qual (oA st) (m5 st) (aM st) .none kV doc pm an cdv ct/\K.lookup f=some ⟨oc,od, .func fd,osl⟩/\PySem.W.codeIn K cdv qual=true
 kp:PySem.W.keepIn K (.ref f)=true
section
variable{P:Program}{w:World}{K:PySem.W.Frag}{mg:Str->Option Value}{base:Heap}
theorem bK.ok{x qual:Str}{st:Stmt}{f:Addr}{fd:FuncData}{N ps:List Str}{k:Nat}{sp:Sp}(F:bK K x qual st f fd)(S:bZ N ps (aM st))(len:∀vs H Q E,sp vs H Q E->vs.length=ps.length)
  (hbody : ∀ (cdv : Value) (A : Around) (outer : List Env) (s : Shared) (H : Hp) (vs : List V) (Q : VK) (E : XK), gE k (A.deeper (envOfC qual (aM st) s.heap.objs.size f cdv)) -> sp vs H Q E ->
   ∃t,jk (qo bI P w K mg base N qual (aM st) f cdv A outer s H E).uz (m5 st) t/\t {nx:=fun _ H'=>Q .aL H',rt:=Q} (start N vs) H):bD P w K mg base bI (k+1) f fd ps sp:=by
 obtain⟨oc,od,kV,doc,pm,an,cdv,ct,osl,rfl,lk,hcd⟩:=F.ex
 refine Ue lk hcd S len fun A outer s H vs Q E hr gk=>?_
 obtain⟨t,h,q⟩:=hbody cdv A outer s H vs Q E hr gk
 exact⟨t,h.uz,q⟩
theorem bK.binds{x qual:Str}{st:Stmt}{f:Addr}{fd:FuncData}{ps:List Str}(F:bK K x qual st f fd)
  (h:∀(kV doc pm:Value) (an:Option Addr) (cdv ct:Value) (us:List Value),us.length=ps.length->bindArgs (PySem.W.fnOf x qual (oA st) (m5 st) (aM st) .none kV doc pm an cdv ct) ⟨us,[]⟩=pure (ps.zip us)):Binds K fd ps []:=by
 obtain⟨oc,od,kV,doc,pm,an,cdv,ct,osl,rfl,lk,hcd⟩:=F.ex
 exact .all (h kV doc pm an cdv ct)
theorem Gj{x qual:Str}{st:Stmt}{f:Addr}{oc:Value}{od an:Option Addr}{osl:Array (Option Value)}{kV doc pm cdv ct:Value}(l:K.lookup f=some ⟨oc,od, .func (PySem.W.fnOf x qual (oA st) (m5 st) (aM st) .none kV doc pm an cdv ct),osl⟩)
  (c:PySem.W.codeIn K cdv qual=true) (k:PySem.W.keepIn K (.ref f)=true):bK K x qual st f (PySem.W.fnOf x qual (oA st) (m5 st) (aM st) .none kV doc pm an cdv ct):=⟨⟨oc,od,kV,doc,pm,an,cdv,ct,osl,rfl,l,c⟩,k⟩
end
theorem Ej{n:Nat}(h:n<=1000):n<sizeLine:=sU h (by decide)
section
variable{X:Cx}
theorem pv(i:Nat){x:Str}{pos:Pos}(hN:X.N[i]?=some x:=by rfl)(hv:Dn X.env.scope x:=by first|exact Or.inl rfl|exact Or.inr (Or.inl rfl)|exact Or.inr (Or.inr rfl))(hd:(x==("__debug__":Str))=false:=by decide)
  (hcd:(x==("__classdict__":Str))=false:=by decide):PE X (.Name x pos) (cZ i):=NJ hN hv hd hcd
end
theorem E2{A B:Prop}(h:B):if false=true then A else B:=by
 rw[if_neg cC]
 exact h
theorem uf{A B:Prop}(h:A):if true=true then A else B:=by
 rw[if_pos rfl]
 exact h
theorem qp{c A B:Prop}[Decidable c](h1:c->A)(h2:¬c->B):if c then A else B:=by
 by_cases h:c
 ·rw[if_pos h]
  exact h1 h
 ·rw[if_neg h]
  exact h2 h
def dO(H H':Hp):Prop:=∀b o,H b=some o->H' b=some o
theorem dO.refl(H:Hp):dO H H:=fun _ _ h=>h
theorem dO.trans{H H1 H2:Hp}(a:dO H H1)(b:dO H1 H2):dO H H2:=fun c o h=>b c o (a c o h)
theorem dO.free{H H':Hp}(e:dO H H'){l:Addr}(h:H' l=Option.none):H l=Option.none:=by
  cases q:H l with
  |none=>rfl
  | some o =>
    rw[e l o q] at h
    cases h
theorem dO.seq{K:PySem.W.Frag}{H H':Hp}{a:Addr}{xs:List V}(e:dO H H')(h:aV K H a xs):aV K H' a xs:=by
 rcases h with (h|⟨o,h⟩)|h
 ·exact .inl (.inl (e _ _ h))
 ·exact .inl (.inr ⟨o,e _ _ h⟩)
 ·exact .inr h
end L2
set_option maxHeartbeats 1000000
namespace L2
open PySem PySem.Spec PyProof.Rows
def jj(cells:List (Str×Addr)):List (Str×NameKind)->List (Str×Addr)->List (Str×Addr)
 |[],acc=>acc
 |(n,k)::r,acc=>jj cells r (if k==NameKind.free then(match cells.lookup n with|some a=>(n,a)::acc|none=>acc) else acc)
theorem CS{env:Env}{f:Str×NameKind->List (Str×Addr)->Sem (ForInStep (List (Str×Addr)))}
    (hf:∀x acc,f x acc=if(x.2==NameKind.free)=true then(do let a<-cellOf env x.1;pure (ForInStep.yield ((x.1,a)::acc))) else pure (ForInStep.yield acc)):
    ∀(l:List (Str×NameKind)) (acc:List (Str×Addr)),(∀x∈l,x.2= .free->∃a,env.cells.lookup x.1=some a)->(forIn l acc f:Sem (List (Str×Addr)))=pure (jj env.cells l acc)
  |[],acc,_=>by rw[List.forIn_nil];rfl
  | (n, k) :: r, acc, h => by
    have hr:=fun x hx=>h x (cX _ hx)
    rw[List.forIn_cons,hf]
    by_cases hk:(k==NameKind.free)=true
    · have hk':k=NameKind.free:=by simpa using hk
      obtain⟨a,ha⟩:=h (n,k) cB hk'
      have hc:cellOf env n=pure a:=by unfold cellOf;rw[ha]
      rw[if_pos hk,hc]
      show(forIn r ((n,a)::acc) f:Sem (List (Str×Addr)))=pure (jj env.cells r _)
      rw[CS hf r _ hr,if_pos hk,ha]
    · rw[if_neg hk]
      show(forIn r acc f:Sem (List (Str×Addr)))=pure (jj env.cells r _)
      rw[CS hf r _ hr,if_neg hk]
theorem Vd{scope:Scope}{env:Env}(h:∀x∈scope.names,x.2= .free->∃a,env.cells.lookup x.1=some a):closureFor scope env=pure (jj env.cells scope.names []):=by
 simp only[closureFor]
 rw[CS (env:=env) (fun⟨n,k⟩ acc=>by dsimp only) scope.names [] h]
 rfl
theorem yS{cells:List (Str×Addr)}:∀{l:List (Str×NameKind)} {acc:List (Str×Addr)} {x:Str} {c:Addr},(∀y d,acc.lookup y=some d->cells.lookup y=some d)->(jj cells l acc).lookup x=some c->cells.lookup x=some c
  |[],_,_,_,ha,h=>ha _ _ h
  | (n, k) :: r, acc, x, c, ha, h => by
    refine yS (l:=r) ?_ h
    intro y d hd
    by_cases hk:(k==NameKind.free)=true
    · rw[if_pos hk] at hd
      cases q:cells.lookup n with
      |none=>rw[q] at hd;exact ha _ _ hd
      | some a =>
        rw[q] at hd
        by_cases hy:(y==n)=true
        · have hy':y=n:=by simpa using hy
          subst hy'
          simp[gc] at hd
          rw[q,hd]
        · have hy':(y==n)=false:=by simpa using hy
          simp only[gc,hy'] at hd
          exact ha _ _ hd
    · rw[if_neg hk] at hd;exact ha _ _ hd
theorem FP{cells:List (Str×Addr)}:∀{l:List (Str×NameKind)} {acc:List (Str×Addr)} {x:Str},(acc.lookup x).isSome=true->((jj cells l acc).lookup x).isSome=true
  |[],_,_,h=>h
  | (n, k) :: r, acc, x, h => by
    refine FP (l:=r) ?_
    by_cases hk:(k==NameKind.free)=true
    · rw[if_pos hk]
      cases q:cells.lookup n with
      |none=>exact h
      | some a =>
        by_cases hy:(x==n)=true
        · simp[gc,hy]
        · have hy':(x==n)=false:=by simpa using hy
          simp only[gc,hy']
          exact h
    · rw[if_neg hk];exact h
theorem G0{cells:List (Str×Addr)}:∀{l:List (Str×NameKind)} {acc:List (Str×Addr)} {x:Str} {a:Addr},(x,NameKind.free)∈l->cells.lookup x=some a->((jj cells l acc).lookup x).isSome=true
  |[],_,_,_,h,_=>nomatch h
  | (n, k) :: r, acc, x, a, h, hc => by
    rcases aP.mp h with e|h
    · obtain⟨rfl,rfl⟩:=Prod.mk.inj e
      refine FP (l:=r) ?_
      rw[if_pos (by decide),hc]
      simp[gc]
    · exact G0 (l:=r) h hc
theorem Ju{cells:List (Str×Addr)}{l:List (Str×NameKind)}{x:Str}{a:Addr}(h:(x,NameKind.free)∈l)(hc:cells.lookup x=some a):(jj cells l []).lookup x=some a:=by
 obtain⟨c,e⟩:=Cb.mp (G0 (acc:=[]) h hc)
 have:=yS (fun y d (q:([]:List (Str×Addr)).lookup y=some d)=>by simp at q) e
 rw[hc] at this;cases this
 exact e
theorem AH{env:Env}:∀{l:List (Str×NameKind)} {x:Str} {k:NameKind},(∀y∈l,y.2≠ .cell)->
    (l.map fun(n,k)=>if(k==NameKind.free && env.scope.kind== .function && env.kindOf n==some .cell) then(n,NameKind.cell) else(n,k)).lookup x=some k->k= .cell\/k= .free->l.lookup x=some .free
  |[],_,_,_,h,_=>by simp at h
  | (n, q) :: r, x, k, hc, h, hk => by
    have hr:=fun y hy=>hc y (cX _ hy)
    have ih:=AH (env:=env) (l:=r) (x:=x) (k:=k) hr
    rw[aZ] at h
    dsimp only at h
    by_cases hx:(x==n)=true
    · simp only[gc,hx]
      by_cases hq:(q==NameKind.free && env.scope.kind== .function && env.kindOf n==some .cell)=true
      · have:q= .free:=by
          simp only[cN] at hq
          simpa using hq.1.1
        rw[this]
      · rw[if_neg hq] at h
        simp only[gc,hx] at h
        have FH:q=k:=gf h
        rcases hk with e|e
        · exact absurd (FH.trans e) (hc (n,q) cB)
        · rw[FH,e]
    · have hx':(x==n)=false:=by simpa using hx
      simp only[gc,hx']
      refine ih ?_ hk
      by_cases hq:(q==NameKind.free && env.scope.kind== .function && env.kindOf n==some .cell)=true
      · rw[if_pos hq] at h
        simp only[gc,hx'] at h
        exact h
      · rw[if_neg hq] at h
        simp only[gc,hx'] at h
        exact h
theorem IU{env:Env}:∀{l:List (Str×NameKind)} {x:Str},l.lookup x=some .free->
    (l.map fun(n,k)=>if(k==NameKind.free && env.scope.kind== .function && env.kindOf n==some .cell) then(n,NameKind.cell) else(n,k)).lookup x=some .cell\/
    (l.map fun(n,k)=>if(k==NameKind.free && env.scope.kind== .function && env.kindOf n==some .cell) then(n,NameKind.cell) else(n,k)).lookup x=some .free
  |[],_,h=>by simp at h
  | (n, q) :: r, x, h => by
    have ih:=IU (env:=env) (l:=r) (x:=x)
    rw[aZ]
    dsimp only
    by_cases hx:(x==n)=true
    · simp only[gc,hx] at h
      by_cases hq:(q==NameKind.free && env.scope.kind== .function && env.kindOf n==some .cell)=true
      · rw[if_pos hq]
        left
        simp only[gc,hx]
      · rw[if_neg hq]
        right
        simp only[gc,hx]
        exact h
    · have hx':(x==n)=false:=by simpa using hx
      simp only[gc,hx'] at h
      have:=ih h
      by_cases hq:(q==NameKind.free && env.scope.kind== .function && env.kindOf n==some .cell)=true
      · rw[if_pos hq]
        simp only[gc,hx']
        exact this
      · rw[if_neg hq]
        simp only[gc,hx']
        exact this
def dg(sx:Scope)(NX:List Str)(scope:Scope)(N:List Str)(mp:List (Option Nat)):Bool:=
 (scope.kind== .function) && scope.names.all (fun y=>y.2 != .cell) && scope.names.all (fun y=>y.2 != .local||scope.names.lookup y.1==some .local) &&
 scope.names.all (fun y=>y.2 != .free||sx.names.lookup y.1==some .cell||sx.names.lookup y.1==some .free) &&(mp.length==N.length) &&
 ((N.zip mp).all fun p=>match p.2 with|none=>true|some j=>NX[j]?==some p.1 && scope.names.lookup p.1==some .free)
structure bY(sx:Scope)(NX:List Str)(scope:Scope)(N:List Str)(mp:List (Option Nat)):Prop where
 kind:scope.kind= .function
 cell:∀y∈scope.names,y.2≠ .cell
 names:∀y∈scope.names,y.2= .local->scope.names.lookup y.1=some .local
 free:∀y∈scope.names,y.2= .free->sx.names.lookup y.1=some .cell\/sx.names.lookup y.1=some .free
 len:mp.length=N.length
 look:∀(i j:Nat) (x:Str),mp[i]?=some (some j)->N[i]?=some x->NX[j]?=some x/\scope.names.lookup x=some .free
theorem bY.of{sx:Scope}{NX:List Str}{scope:Scope}{N:List Str}{mp:List (Option Nat)}(h:dg sx NX scope N mp=true):bY sx NX scope N mp:=by
 unfold dg at h
 simp only[cN,vX] at h
 obtain⟨⟨⟨⟨⟨h1,h2⟩,h3⟩,h4⟩,h5⟩,h6⟩:=h
 refine⟨by simpa using h1,fun y hy=>by simpa using h2 y hy,fun y hy e=>?_,fun y hy e=>?_,by simpa using h5,fun i j x e1 e2=>?_⟩
 ·have:=h3 y hy
  simpa[e] using this
 ·have:=h4 y hy
  simpa[e] using this
 ·have hm:(x,some j)∈N.zip mp:=by
   have:(N.zip mp)[i]?=some (x,some j):=by
    rw[List.getElem?_zip_eq_some];exact⟨e2,e1⟩
   exact bh this
  have:=h6 _ hm
  simpa using this
def iJ(mp:List (Option Nat))(σ:St):St:=mp.map fun o=>match o with|none=>none|some j=>match σ[j]? with|some v=>v|none=>none
def eY(X:Cx)(scope:Scope)(C:Addr)(N:List Str)(s₀:Shared)(H₀:Hp)(fp:List Addr):Cx:=
 {X with N:=N,s₀:=s₀,H₀:=H₀,env:=compEnvC scope (jj X.env.cells scope.names []) C X.env,outer:=X.stack,ex:=fp,fn:=fun _=>false,pn:=[],xe:=fun _ _=>False}
def pR(X:Cx)(ifs:List Expr)(t:TT):Prop:=
 ∀(pins:List (Addr×Obj)) (s:Shared) (σ:St) (H:Hp) (Q:Bool->Hp->Prop),Inv X pins σ H s->t σ H Q->
  wpAny (model X.prog X.w) X.A (forIn ifs true fun c r=>if r=true then do let ok<-isTrue c X.env (eval c X.env);pure (ForInStep.yield ok) else pure (ForInStep.yield r)) (TP X pins σ Q) X.xe s
def nD:TT:=fun _ H Q=>Q true H
theorem fM{X:Cx}:pR X [] nD:=fun pins s σ H Q I h=>wpAny_tests_nil ⟨H,I,h⟩
theorem lF{X:Cx}{c:Expr}{t:TT}(h:PT X c t):pR X [c] t:=fun pins s σ H Q I q=>wpAny_tests_one (h pins s σ H Q I q)
def sj(J:It)(g:TG)(tc:TT)(te:TE)(acc:Addr)(Qe:Hp->Prop)(σ:St)(H:Hp):Prop:=∃W:Nat->Nat->St->Hp->Prop,(∃m,W 0 m σ H)/\∀i m σ H,W i m σ H->
 (J.stop i H /\ Qe H) \/ (J.go i H /\ ∃ Nx : St -> Hp -> Prop, (∀ σ' H', Nx σ' H' -> ∃ m', m' < m /\ W (i + 1) m' σ' H') /\ ∀ x H', J.nL i H x H' -> g x σ H' fun σ2 H2 => tc σ2 H2 fun b H3 =>
  if b=true then te σ2 H3 fun v H4=>∃ys,H4 acc=some (.lst ys)/\ys.length<sizeLine/\Nx σ2 (upd H4 acc (.lst (ys++[v]))) else Nx σ2 H3)
def lO(wi:TI)(g:TG)(tc:TT)(te:TE)(mp:List (Option Nat)):TE:=fun σ H Q=>wi σ H fun J H1=>∀acc,H1 acc=none->sj J g tc te acc (fun H'=>Q (.ref acc) H') (iJ mp σ) (upd H1 acc (.lst []))
section
variable{prog:Program}{w:World}{A:Around}{R:Result->Shared->Prop}{s:Shared}
theorem Rx{elt target iter:Expr}{ifs:List Expr}{scope:Scope}{pos:Pos}{it acc:Value}{env:Env}(I:Nat->Shared->Prop)
    (turn:∀n s,I n s->wpAny (model prog w) A (pyNext it) (fun r s₁=>match r with
      |none=>R (.ok .next) s₁
      |some v=>wpAny (model prog w) A (letOwnedTupleGo target it v) (fun _ s₀=>wpAny (model prog w) A (assign target env v) (fun _ s₂=>
          wpAny (model prog w) A (forIn ifs true fun c r=>if r=true then do let ok<-isTrue c env (eval c env);pure (ForInStep.yield ok) else pure (ForInStep.yield r)) (fun ok s₃=>
            if ok=true then wpAny (model prog w) A (eval elt env) (fun x s₄=>
              wpAny (model prog w) A (call (.builtin "list.append") [acc,x]) (fun _ s₅=>∃m,m<n/\I m s₅) (fun _ _=>False) s₄) (fun _ _=>False) s₃
            else∃m,m<n/\I m s₃) (fun _ _=>False) s₂) (fun _ _=>False) s₀) (fun _ _=>False) s₁) (fun _ _=>False) s)
    (n:Nat) (h:I n s):
    codeAny (model prog w) A (.compLoop (.ListComp elt [⟨target,iter,ifs,0⟩] scope pos) 0 it acc env) R s:=by
  refine codeAny_loop rfl I (fun n s hI=>?_) n h
  show wpAny _ A ((compTurn (.ListComp elt [⟨target,iter,ifs,0⟩] scope pos) 0 it acc env).onRaise (fun x=>do noteFrame x env;theTreesLotGoes x)) _ _ s
  refine wpAny_noted ?_
  rw[compTurn_list]
  refine wpAny_bind (wpAny_standAt (wpAny_bind (wpAny_mono (turn n s hI) (fun r s₁ h₁=>?_) fun _ _ h'=>h'.elim)))
  cases r with
  |none=>exact wpAny_pure h₁
  | some v =>
    refine wpAny_bind (wpAny_mono h₁ (fun _ s₀ h₀=>?_) fun _ _ h'=>h'.elim)
    refine wpAny_bind (wpAny_mono h₀ (fun _ s₂ h₂=>wpAny_bind (wpAny_mono h₂ (fun ok s₃ h₃=>?_) fun _ _ h'=>h'.elim)) fun _ _ h'=>h'.elim)
    cases ok with
    |false=>exact wpAny_pure ⟨rfl,h₃⟩
    | true =>
      exact wpAny_bind (wpAny_bind (wpAny_mono h₃ (fun x s₄ h₄=>wpAny_bind (wpAny_mono h₄ (fun _ s₅ h₅=>wpAny_pure (wpAny_pure ⟨rfl,h₅⟩)) fun _ _ h'=>h'.elim)) fun _ _ h'=>h'.elim))
end
section
variable{X:Cx}
theorem Ga{elt iter tg:Expr}{ifs:List Expr}{scope:Scope}{pos pos':Pos}{N:List Str}{mp:List (Option Nat)}{wi:TI}{g:TG}{tc:TT}{te:TE}{use:Option (Value->Sem Unit)}
    {pins:List (Addr×Obj)} {s:Shared} {σ:St} {H:Hp} {Q:VK} {QQ:Value->Shared->Prop}
    (ok:bY X.env.scope X.N scope N mp) (hc:X.calm=true) (hi:PI X tg iter wi)
    (hb:∀C s₀ H₀ fp,PG (eY X scope C N s₀ H₀ fp) tg g/\pR (eY X scope C N s₀ H₀ fp) ifs tc/\PE (eY X scope C N s₀ H₀ fp) elt te)
    (hs:∀x,foldedSetIterable iter X.env x=pure x) (I:Inv X pins σ H s) (h:lO wi g tc te mp σ H Q)
    (fin:∀acc C H' s' m,Inv X pins σ H' s'->jc X pins H' C->s'.heap.Ns C m->Q (.ref acc) H'->compPost (model X.prog X.w) X.A X.xe use QQ (.ref acc) C (.ok .next) s'):
    wpAny (model X.prog X.w) X.A (comprehension (.ListComp elt [⟨tg,iter,ifs,0⟩] scope pos) scope X.env pos' (newList []) false (eval iter X.env) use) QQ X.xe s:=by
  have hfree:∀x∈scope.names,x.2= .free->∃a,X.env.cells.lookup x.1=some a:=fun x hx e=>I.ok.has x.1 (ok.free x hx e)
  refine wpAny_comprehension_free (use:=use) rfl hs (Vd hfree) ok.kind ok.names (aW (hi pins s σ H _ I h) fun v s1 h1=>aW h1 fun itv s2 h2=>?_)
  obtain⟨it,fp,tn,J,H2,e,I2,T,st2,f2,hW⟩:=h2
  subst e
  refine wpAny_newObj_type (wpAny_newFunctionEnv ok.cell (by intro y hy;simp at hy) (fun h₁ wN Cw=>?_) ok.kind)
  dsimp only at wN Cw⊢
  have I3:=I2.Gk (its:=[]) (ys:=[]) (t':=s2.toks) .nil (fT _)
  have hW:=hW s2.heap.objs.size I2.fresh
  obtain⟨W,⟨m0,w0⟩,turn⟩:=hW
  generalize zy:s2.heap.push {cls:= .type "list",dict:=none,data:= .seq ([]:List Value).toArray}=HP at wN Cw⊢
  have I3:Inv X pins σ (upd H2 s2.heap.objs.size (.lst [])) {s2 with heap:=HP}:=by rw[<-zy];exact I3
  generalize QX:upd H2 s2.heap.objs.size (.lst [])=H3 at I3 w0
  have hC:HP.objs.size=s2.heap.objs.size+1:=by rw[<-zy,mX]
  have old:∀b o,HP.get? b=some o->h₁.get? b=some o:=fun b o e=>Cw.extBut b o (c5 (bG e)) (bS _ e)
  have lX:∀b∈fp,b<s2.heap.objs.size:=fun b hb=>by
    obtain⟨o,e,_⟩:=T.obj 0 _ st2 b hb
    exact bG e
  have TZ:∀b∈fp,H3 b=none:=fun b hb=>by
    rw[<-QX,aK (c5 (lX b hb))]
    exact(f2 b hb).1
  have rG:∀{x:Str} {c:Addr},(jj X.env.cells scope.names []).lookup x=some c->X.env.cells.lookup x=some c:=fun{x c} e=>yS (fun y d q=>by simp at q) e
  have tD:(eY X scope HP.objs.size N {s2 with heap:=HP} H3 fp).Ok:=by
    refine⟨I2.ok.mod,ok.kind,I2.ok.glob,I2.ok.blt,aQ _,fun x y c e1 e2=>I2.ok.inj x y c (rG e1) (rG e2),fun x hx=>?_,(fun x c e=>absurd (show false=true from e) (by decide)),I2.ok.hd,I2.ok.frames, .inl rfl,fun b hb=>?_,I3.bs,eK I3.ok.oW I3.sz,fun b o e hb=>?_,fun b hb hz=>?_,I3.stack,I3.GQ⟩
    · have hx':scope.names.lookup x=some .free:=by
        rcases hx with hx|hx
        · exact AH ok.cell hx (.inl rfl)
        · exact AH ok.cell hx (.inr rfl)
      have hm:=nK hx'
      obtain⟨a,ha⟩:=hfree _ hm rfl
      exact⟨a,Ju hm ha⟩
    · refine⟨fun z=>?_,fun x c e=>(f2 b hb).2.2.2.2.1 x c (rG e)⟩
      have z':b=HP.objs.size:=z
      have q:=lX b hb
      rw[z',hC] at q
      exact absurd q (Nat.not_lt.mpr (m8 _))
    · rcases(f2 b hb).2.2.2.1 with z|z
      · exact I2.ok.sI b o e z
      · exact absurd (dj (bG (I2.ok.bs b o e).1) z) (jB _)
    · rcases aP.mp (I2.BF b hz) with z|z
      · exact(f2 b hb).2.1 z
      · exact(f2 b hb).2.2.1 z
  have IY:Inv (eY X scope HP.objs.size N {s2 with heap:=HP} H3 fp) [] (iJ mp σ) H3 {s2 with heap:=h₁,toks:=s2.toks+([]:List (Str×Value)).length}:=by
    refine⟨tD,rfl,I2.bare,Un.kept old,⟨_,wN,fun i x v e1 e2 e3=>?_⟩,fun x c e=>?_,I3.hok.fresh (aQ _),fun x c e=>I3.j4 x c (rG e),fun p hp=>absurd (show p∈([]:List (Addr×Obj)) from hp) (by simp),I3.hok.kept old,?_⟩
    · have hj:∃j,mp[i]?=some (some j)/\σ[j]?=some (some v):=by
        unfold iJ at e2
        rw[aS] at e2
        cases q:mp[i]? with
        |none=>rw[q] at e2;cases e2
        | some o =>
          rw[q] at e2
          cases o with
          |none=>cases e2
          | some j =>
            refine⟨j,rfl,?_⟩
            have e2:(match σ[j]? with|some v=>v|none=>none)=some v:=gf e2
            cases r:σ[j]? with
            |none=>rw[r] at e2;cases e2
            | some u =>
              rw[r] at e2
              have e2:u=some v:=e2
              rw[e2]
      obtain⟨j,hj1,hj2⟩:=hj
      obtain⟨l1,l2⟩:=ok.look i j x hj1 e1
      have hm:=nK l2
      have kx:=ok.free _ hm rfl
      obtain⟨mm,_,hl⟩:=I3.loc
      obtain⟨u,ru,lk⟩:=hl j x v l1 hj2 (kx.elim (fun z=> .inr (.inl z)) fun z=> .inr (.inr z))
      refine⟨u,ru, .inr ⟨IU l2,?_⟩⟩
      rcases lk with ⟨k,_⟩|⟨_,c,e,z⟩
      · exfalso
        have k':X.env.scope.names.lookup x=some .local:=k
        rcases kx with kx|kx
        · rw[k'] at kx;cases kx
        · rw[k'] at kx;cases kx
      · refine⟨c,Ju hm e,?_⟩
        obtain⟨o,ho,hd⟩:=z
        exact⟨o,old c o ho,hd⟩
    · obtain⟨v,o,ho,hd⟩:=I3.cell x c (rG e)
      exact⟨v,o,old c o ho,hd⟩
    · show(iJ mp σ).length=N.length
      unfold iJ
      rw[ak,ok.len]
  have nu:∀{H':Hp},(∀b∈fp,H' b=none)->∀b∈fp,jc (eY X scope HP.objs.size N {s2 with heap:=HP} H3 fp) [] H' b:=fun{H'} hn b hb=>
    ⟨hn b hb,(tD.tw b hb).1,tD.qA b hb, .inl hb,(tD.tw b hb).2,fun p hp=>absurd (show p∈([]:List (Addr×Obj)) from hp) (by simp)⟩
  have IE:tn 0 h₁:=T.keep 0 _ _ st2 fun b hb o e=>old b o (by rw[<-zy];exact bS _ e)
  have loop:codeAny (model X.prog X.w) X.A (.compLoop (.ListComp elt [⟨tg,iter,ifs,0⟩] scope pos) 0 (.ref it) (.ref s2.heap.objs.size) (compEnvC scope (jj X.env.cells scope.names []) HP.objs.size X.env))
      (compPost (model X.prog X.w) X.A X.xe use QQ (.ref s2.heap.objs.size) HP.objs.size) {s2 with heap:=h₁,toks:=s2.toks+([]:List (Str×Value)).length}:=by
    obtain⟨hg,ht,he⟩:=hb HP.objs.size {s2 with heap:=HP} H3 fp
    generalize hY:eY X scope HP.objs.size N {s2 with heap:=HP} H3 fp=Y at hg ht he IY nu
    have yp:Y.prog=X.prog:=by rw[<-hY];rfl
    have yw:Y.w=X.w:=by rw[<-hY];rfl
    have yK:Y.K=X.K:=by rw[<-hY];rfl
    have yA:Y.A=X.A:=by rw[<-hY];rfl
    have yc:Y.calm=true:=by rw[<-hY];exact hc
    have yx:Y.xe=fun _ _=>False:=by rw[<-hY];rfl
    have JT:Y.env=compEnvC scope (jj X.env.cells scope.names []) HP.objs.size X.env:=by rw[<-hY];rfl
    rw[<-JT]
    refine Rx (fun n s'=>∃i σ' H',Inv Y [] σ' H' s'/\tn i s'.heap/\(∀b∈fp,H' b=none)/\W i n σ' H') ?_ m0 ⟨0,_,H3,IY,IE,TZ,w0⟩
    rintro n s3 ⟨i,σ3,H4,I4,st3,fr3,w3⟩
    rcases turn i n σ3 H4 w3 with ⟨stop,qn⟩|⟨go,Nx,hN,step⟩
    · have q0:=T.done Y yp yw yK yc i [] s3 σ3 H4 (fun _ _=>False) I4 (nu fr3) st3 stop
      rw[yA] at q0
      refine aW q0 fun r s4 ⟨hr,I5⟩=>?_
      subst hr
      show compPost (model X.prog X.w) X.A X.xe use QQ (.ref s2.heap.objs.size) HP.objs.size (.ok .next) s4
      obtain⟨m,hm,_⟩:=id I5.loc
      have yl:Y.env.locals=HP.objs.size:=by rw[JT];rfl
      rw[yl] at hm
      have fC:H4 HP.objs.size=none:=by have:=I5.free;rw[yl] at this;exact this
      have ub:=I5.base
      have ub':Un (frs X.stack) fp H3 H4 HP s4.heap:=by rw[<-hY] at ub;exact ub
      have hos:s4.os=s2.os:=by have:=I5.os;rw[<-hY] at this;exact this
      have Ph:c6 X.prog X.w H4 s4.heap:=by have:=I5.hok;rw[yp,yw] at this;exact this
      have IX:Inv X pins σ H4 s4:=I3.Sx (ch:=fp) hos ub' Ph I5.bare fun b hb=>⟨(f2 b hb).2.2.2.1,(f2 b hb).2.1,(f2 b hb).2.2.2.2.1,(f2 b hb).2.2.2.2.2⟩
      exact fin _ _ H4 s4 m IX (I3.qG (aQ _) fC) hm qn
    · have q0:=T.item Y yp yw yK yc i [] s3 σ3 H4 (fun _ _=>False) I4 (nu fr3) st3 go
      rw[yA] at q0
      refine aW q0 fun r s4 ⟨u,hr,h4⟩=>?_
      subst hr
      refine aW h4 fun _ s5 ⟨x,H5,I5,r5,y5,nO,Bl⟩=>?_
      have AZ:=I5.pinned (nu Bl) (T.obj _ _ nO)
      rw[<-yx,<-yp,<-yw,<-yA]
      refine aW (hg _ s5 σ3 H5 x u _ AZ r5 (step x H5 y5)) fun _ s6 ⟨rM,H6,I6,q6⟩=>?_
      refine aW (ht _ s6 rM H6 _ I6 q6) fun b s7 ⟨H7,I7,q7⟩=>?_
      have again:∀{q8:St} {H8:Hp} {s8:Shared},Inv Y ([]++sL fp s5.heap) q8 H8 s8->Nx q8 H8->∃m,m<n/\∃i σ' H',Inv Y [] σ' H' s8/\tn i s8.heap/\(∀b∈fp,H' b=none)/\W i m σ' H':=fun{q8 H8 s8} I8 n8=>by
        obtain⟨m',hm,w8⟩:=hN q8 H8 n8
        refine⟨m',hm,i+1,q8,H8,I8.um,T.keep _ _ _ nO fun b hb o e=>(I8.pin (b,o) (iI _ (iI _ (vf hb e)))).1,fun b hb=>?_,w8⟩
        obtain⟨o,e,d⟩:=T.obj _ _ nO b hb
        exact(I8.pin (b,o) (iI _ (iI _ (vf hb e)))).2.1
      cases b with
      | false =>
        rw[if_neg cC]
        rw[if_neg cC] at q7
        exact again I7 q7
      | true =>
        rw[if_pos rfl]
        rw[if_pos rfl] at q7
        refine aW (he _ s7 rM H7 _ I7 q7) fun v s8 ⟨y,H8,I8,r8,ys,e8,z8,n8⟩=>?_
        refine aW (jU _ s8 rM H8 (.ref s2.heap.objs.size) [y] (.ref s2.heap.objs.size) [v] (fun _ H9=>H9=upd H8 s2.heap.objs.size (.lst (ys++[y]))) I8 rfl (.cons r8 .nil) ⟨_,ys,y,rfl,rfl,e8,z8,rfl⟩) fun v9 s9 ⟨y9,H9,I9,r9,e9⟩=>?_
        subst e9
        exact again I9 n8
  refine codeAny_compStart_list loop (T.self _ _ _ _ _ IE loop)
theorem jc.turned{pins:List (Addr×Obj)}{s:Shared}{σ:St}{H:Hp}{C:Addr}{h':Heap}(I:Inv X pins σ H s)(f:jc X pins H C)(hs:Heap.SameBut C s.heap h'):Inv X pins σ H {s with heap:=h'}:=
 I.turned (t':=s.toks) (fun b o hb e=>(hs.2 b hb).trans e) f.1 f.2.1 f.2.2.2.1 f.2.2.2.2.1 f.2.2.2.2.2
theorem fW{elt iter tg:Expr}{ifs:List Expr}{scope:Scope}{pos:Pos}{N:List Str}{mp:List (Option Nat)}{wi:TI}{g:TG}{tc:TT}{te:TE}
  (ok:bY X.env.scope X.N scope N mp) (hi:PI X tg iter wi)
  (hb:∀C s₀ H₀ fp,PG (eY X scope C N s₀ H₀ fp) tg g/\pR (eY X scope C N s₀ H₀ fp) ifs tc/\PE (eY X scope C N s₀ H₀ fp) elt te) (hc:X.calm=true:=by rfl)
  (hs:∀x,foldedSetIterable iter X.env x=pure x:=by intro _;rfl):PE X (.ListComp elt [⟨tg,iter,ifs,0⟩] scope pos) (lO wi g tc te mp):=by
 intro pins s σ H Q I h
 rw[eval_ListComp]
 refine Ga (use:=none) ok hc hi hb hs I h fun acc C H' s' m I' f hn q=>?_
 exact⟨m,hn,fun h' hs'=>⟨.ref acc,H',f.turned I' hs',rfl,q⟩⟩
def wC(i:Nat)(t:TE):TS:=fun D σ H=>t σ H fun v H'=>D.nx (σ.set i (some v)) H'
theorem kY{elt iter tg:Expr}{ifs:List Expr}{scope:Scope}{pos spos py:Pos}{N:List Str}{mp:List (Option Nat)}{wi:TI}{g:TG}{tc:TT}{te:TE}{i:Nat}{y:Str}
  (hN:X.N.Nodup) (hy:X.N[i]?=some y) (hk:X.env.kindOf y=some .local)
  (ok:bY X.env.scope X.N scope N mp) (hi:PI X tg iter wi)
  (hb:∀C s₀ H₀ fp,PG (eY X scope C N s₀ H₀ fp) tg g/\pR (eY X scope C N s₀ H₀ fp) ifs tc/\PE (eY X scope C N s₀ H₀ fp) elt te) (hc:X.calm=true:=by rfl)
  (hsw:swapsWith (.ListComp elt [⟨tg,iter,ifs,0⟩] scope pos) (some (.Name y py)) spos.line X.env=pure true:=by rfl)
  (hs:∀x,foldedSetIterable iter X.env x=pure x:=by intro _;rfl):PS X (.Assign [.Name y py] (.ListComp elt [⟨tg,iter,ifs,0⟩] scope pos) spos) (wC i (lO wi g tc te mp)):=by
 intro pins s σ H D I h
 rw[exec_Assign_Name_used _ _ _ _ hsw]
 refine wpAny_bind (wpAny_standAt (wpAny_bind ?_))
 show wpAny _ X.A (do let _<-comprehension (.ListComp elt [⟨tg,iter,ifs,0⟩] scope pos) scope X.env _ (newList []) false (eval iter X.env) (some (assign (.Name y py) X.env))) _ _ s
 refine wpAny_bind (wpAny_mono (Ga (use:=some (assign (.Name y py) X.env)) (QQ:=fun _ s'=>SP X pins D .next s') ok hc hi hb hs I h fun acc C H' s' m I' f hn q=>?_) (fun _ s' hq=>wpAny_pure (wpAny_pure hq)) fun _ _ e=>e)
 refine wpAny_assign_Name (II (v:= .ref acc) I' hN hy (.inl hk) rfl (fun s2 I2 ⟨a,sb,ha⟩=>?_) (.inr hk))
 have hne:C≠a:=by
  rcases ha with z|z
  ·rw[z];exact f.2.1
  ·exact fun e=>f.2.2.2.2.1 y a z e.symm
 exact⟨m,hn.sameBut sb hne,fun h' hs'=>⟨_,H',f.turned I2 hs',q⟩⟩
end
def Sm(i:Int):Prop:= -(2^300)<i/\i<2^300
theorem Bv{i:Int}(h:Sm i):Builtin.Int.intBits i<=2^20:=by
 obtain⟨h1,h2⟩:=h
 unfold Builtin.Int.intBits
 split
 ·exact fT _
 ·rename_i h0
  have hn:i.natAbs≠0:=by
   intro e
   apply h0
   simp
   omega
  have h3:i.natAbs<2^300:=by omega
  have h4:i.natAbs.log2<300:=(Nat.log2_lt hn).mpr h3
  have:(2:Nat)^20=1048576:=by decide
  omega
theorem Xc{x y:Int}(h:Sm y):Builtin.divisionGoesByPylong x y=false:=by
 refine PyProof.noPylong_of_log2 ?_
 obtain⟨h1,h2⟩:=h
 by_cases h0:y.natAbs=0
 ·rw[h0];decide+kernel
 ·have h3:y.natAbs<2^300:=by omega
  have h4:y.natAbs.log2<300:=(Nat.log2_lt h0).mpr h3
  omega
section
variable{X:Cx}
theorem qI:dZ X (binaryOp .FloorDiv) (rI (fun _ j=>0<j/\Sm j) fun i j=> .int (i/j)):=vQ fun i j _ _ _ _ _ hc q=>
 floordiv_int (by omega) (by rw[Int.fdiv_eq_ediv_of_nonneg _ (by omega)];exact q) (.inl (Xc hc.2))
theorem UD:qR X "int.bit_length" (fun x xs H Q=>∃i,x= .int i/\xs=[]/\Q (.int (Builtin.Int.intBits i)) H):=by
 intro pins s σ H x xs v us Q I rx rv h
 obtain⟨i,rfl,rfl,q⟩:=h
 obtain⟨t,rfl⟩:=rx
 cases rv
 exact call_int_bit_length ⟨.int _,H,I.tok _,⟨_,rfl⟩,q⟩
def kH(K:PySem.W.Frag):List V->Hp->VK->Prop:=fun xs H Q=>∃x T t b,xs=[x, .ty T]/\iW K H x t/\PySem.W.kitOne K t (.type T)=some b/\Q (.bl b) H
theorem mJ:fk X (.builtin "isinstance") (kH X.K):=by
 intro pins s σ H xs us Q I rv h
 obtain⟨x,T,t,b,rfl,ty,e,q⟩:=h
 obtain⟨u,v,rfl,ru,rv⟩:=rv.two
 cases (show v=Value.type T from rv)
 exact UN I ru ty e fun tk=>⟨.bl b,H,I.tok tk,rfl,q⟩
def Mk:PyData->Key->Prop
 | .int i,k=>k= .inl i
 | .str x,k=>k= .inr x
 |_,_=>False
mutual
def aj(nb:Addr->Prop)(H:Hp):PyData->V->Prop
 | .none,v=>v= .aL
 | .bool b,v=>v= .bl b
 | .int i,v=>v= .int i
 | .str x,v=>v= .str x
 | .list ds,v=>∃a xs,v= .ref a/\¬nb a/\H a=some (.lst xs)/\ah nb H ds xs
 | .tuple ds,v=>∃a xs,v= .ref a/\¬nb a/\H a=some (.tup xs)/\ah nb H ds xs
 | .dict kvs,v=>∃a ps,v= .ref a/\¬nb a/\Rd H a (.dK ps)/\aE nb H kvs ps
termination_by structural d=>d
def ah(nb:Addr->Prop)(H:Hp):List PyData->List V->Prop
 |[],xs=>xs=[]
 |d::ds,xs=>∃y ys,xs=y::ys/\aj nb H d y/\ah nb H ds ys
termination_by structural d=>d
def aE(nb:Addr->Prop)(H:Hp):List (PyData×PyData)->List (Key×V)->Prop
 |[],xs=>xs=[]
 |d::ds,xs=>∃p ys,xs=p::ys/\dP nb H d p/\aE nb H ds ys
termination_by structural d=>d
def dP(nb:Addr->Prop)(H:Hp):PyData×PyData->Key×V->Prop
 |(k,d),p=>Mk k p.1/\aj nb H d p.2
termination_by structural d=>d
end
def aX(nb:Addr->Prop)(H H':Hp):Prop:=∀a o,¬nb a->H a=some o->H' a=some o
def Nb(b:Addr):Addr->Prop:=fun a=>a=b
section
variable{nb cH:Addr->Prop}{H H1 H2 H':Hp}{a b c p:Addr}{o:HO}{xs:List V}
theorem aX.refl(nb:Addr->Prop)(H:Hp):aX nb H H:=fun _ _ _ h=>h
theorem aX.trans(x:aX nb H H1)(y:aX nb H1 H2):aX nb H H2:=fun a o n h=>y a o n (x a o n h)
theorem aX.of(x:dO H H'):aX nb H H':=fun a o _ h=>x a o h
theorem aX.set(h:nb p):aX nb H (upd H p o):=fun a u n q=>by rw[aK (fun e=>n (by rw[e];exact h))];exact q
theorem aX.rd{u:HO}(x:aX nb H H')(n:¬nb a)(h:Rd H a u):Rd H' a u:=by
 rcases h with h|⟨o,h⟩
 ·exact .inl (x _ _ n h)
 ·exact .inr ⟨o,x _ _ n h⟩
end
mutual
theorem aj.keep{nb:Addr->Prop}{H H':Hp}(x:aX nb H H'):∀{d:PyData} {v:V},aj nb H d v->aj nb H' d v
 | .none,_,h=>by unfold aj at h⊢;exact h
 | .bool _,_,h=>by unfold aj at h⊢;exact h
 | .int _,_,h=>by unfold aj at h⊢;exact h
 | .str _,_,h=>by unfold aj at h⊢;exact h
 | .list ds,_,h=>by unfold aj at h⊢;obtain⟨a,xs,e,n,s,r⟩:=h;exact⟨a,xs,e,n,x _ _ n s,ah.keep x r⟩
 | .tuple ds,_,h=>by unfold aj at h⊢;obtain⟨a,xs,e,n,s,r⟩:=h;exact⟨a,xs,e,n,x _ _ n s,ah.keep x r⟩
 | .dict kvs,_,h=>by unfold aj at h⊢;obtain⟨a,xs,e,n,s,r⟩:=h;exact⟨a,xs,e,n,x.rd n s,aE.keep x r⟩
theorem ah.keep{nb:Addr->Prop}{H H':Hp}(x:aX nb H H'):∀{ds:List PyData} {vs:List V},ah nb H ds vs->ah nb H' ds vs
 |[],_,h=>by unfold ah at h⊢;exact h
 |d::ds,_,h=>by unfold ah at h⊢;obtain⟨y,ys,e,h1,h2⟩:=h;exact⟨y,ys,e,aj.keep x h1,ah.keep x h2⟩
theorem aE.keep{nb:Addr->Prop}{H H':Hp}(x:aX nb H H'):∀{ds:List (PyData×PyData)} {vs:List (Key×V)},aE nb H ds vs->aE nb H' ds vs
 |[],_,h=>by unfold aE at h⊢;exact h
 |d::ds,_,h=>by unfold aE at h⊢;obtain⟨y,ys,e,h1,h2⟩:=h;exact⟨y,ys,e,dP.keep x h1,aE.keep x h2⟩
theorem dP.keep{nb:Addr->Prop}{H H':Hp}(x:aX nb H H'):∀{d:PyData×PyData} {v:Key×V},dP nb H d v->dP nb H' d v
 |(k,d),_,h=>by unfold dP at h⊢;exact⟨h.1,aj.keep x h.2⟩
end
mutual
theorem aj.av{nb cH:Addr->Prop}{H:Hp}(x:∀a,cH a->nb a):∀{d:PyData} {v:V},aj nb H d v->aj cH H d v
 | .none,_,h=>by unfold aj at h⊢;exact h
 | .bool _,_,h=>by unfold aj at h⊢;exact h
 | .int _,_,h=>by unfold aj at h⊢;exact h
 | .str _,_,h=>by unfold aj at h⊢;exact h
 | .list ds,_,h=>by unfold aj at h⊢;obtain⟨a,xs,e,n,s,r⟩:=h;exact⟨a,xs,e,fun z=>n (x a z),s,ah.av x r⟩
 | .tuple ds,_,h=>by unfold aj at h⊢;obtain⟨a,xs,e,n,s,r⟩:=h;exact⟨a,xs,e,fun z=>n (x a z),s,ah.av x r⟩
 | .dict kvs,_,h=>by unfold aj at h⊢;obtain⟨a,xs,e,n,s,r⟩:=h;exact⟨a,xs,e,fun z=>n (x a z),s,aE.av x r⟩
theorem ah.av{nb cH:Addr->Prop}{H:Hp}(x:∀a,cH a->nb a):∀{ds:List PyData} {vs:List V},ah nb H ds vs->ah cH H ds vs
 |[],_,h=>by unfold ah at h⊢;exact h
 |d::ds,_,h=>by unfold ah at h⊢;obtain⟨y,ys,e,h1,h2⟩:=h;exact⟨y,ys,e,aj.av x h1,ah.av x h2⟩
theorem aE.av{nb cH:Addr->Prop}{H:Hp}(x:∀a,cH a->nb a):∀{ds:List (PyData×PyData)} {vs:List (Key×V)},aE nb H ds vs->aE cH H ds vs
 |[],_,h=>by unfold aE at h⊢;exact h
 |d::ds,_,h=>by unfold aE at h⊢;obtain⟨y,ys,e,h1,h2⟩:=h;exact⟨y,ys,e,dP.av x h1,aE.av x h2⟩
theorem dP.av{nb cH:Addr->Prop}{H:Hp}(x:∀a,cH a->nb a):∀{d:PyData×PyData} {v:Key×V},dP nb H d v->dP cH H d v
 |(k,d),_,h=>by unfold dP at h⊢;exact⟨h.1,aj.av x h.2⟩
end
mutual
theorem aj.fresh{nb:Addr->Prop}{H:Hp}{p:Addr}(hp:H p=none):∀{d:PyData} {v:V},aj nb H d v->aj (fun a=>nb a\/a=p) H d v
 | .none,_,h=>by unfold aj at h⊢;exact h
 | .bool _,_,h=>by unfold aj at h⊢;exact h
 | .int _,_,h=>by unfold aj at h⊢;exact h
 | .str _,_,h=>by unfold aj at h⊢;exact h
 | .list ds,_,h=>by unfold aj at h⊢;obtain⟨a,xs,e,n,s,r⟩:=h;exact⟨a,xs,e,fun z=>z.elim n (iZ s hp),s,ah.fresh hp r⟩
 | .tuple ds,_,h=>by unfold aj at h⊢;obtain⟨a,xs,e,n,s,r⟩:=h;exact⟨a,xs,e,fun z=>z.elim n (iZ s hp),s,ah.fresh hp r⟩
 | .dict kvs,_,h=>by unfold aj at h⊢;obtain⟨a,xs,e,n,s,r⟩:=h;exact⟨a,xs,e,fun z=>z.elim n (s.elim (fun s=>iZ s hp) fun⟨_,s⟩=>iZ s hp),s,aE.fresh hp r⟩
theorem ah.fresh{nb:Addr->Prop}{H:Hp}{p:Addr}(hp:H p=none):∀{ds:List PyData} {vs:List V},ah nb H ds vs->ah (fun a=>nb a\/a=p) H ds vs
 |[],_,h=>by unfold ah at h⊢;exact h
 |d::ds,_,h=>by unfold ah at h⊢;obtain⟨y,ys,e,h1,h2⟩:=h;exact⟨y,ys,e,aj.fresh hp h1,ah.fresh hp h2⟩
theorem aE.fresh{nb:Addr->Prop}{H:Hp}{p:Addr}(hp:H p=none):∀{ds:List (PyData×PyData)} {vs:List (Key×V)},aE nb H ds vs->aE (fun a=>nb a\/a=p) H ds vs
 |[],_,h=>by unfold aE at h⊢;exact h
 |d::ds,_,h=>by unfold aE at h⊢;obtain⟨y,ys,e,h1,h2⟩:=h;exact⟨y,ys,e,dP.fresh hp h1,aE.fresh hp h2⟩
theorem dP.fresh{nb:Addr->Prop}{H:Hp}{p:Addr}(hp:H p=none):∀{d:PyData×PyData} {v:Key×V},dP nb H d v->dP (fun a=>nb a\/a=p) H d v
 |(k,d),_,h=>by unfold dP at h⊢;exact⟨h.1,aj.fresh hp h.2⟩
end
mutual
theorem aj.reads{pins:List (Addr×Obj)}{σ:St}{H:Hp}{s:Shared}{nb:Addr->Prop}(I:Inv X pins σ H s):∀{d:PyData} {v:V} {u:Value},aj nb H d v->RelV v u->d.canLay0=true->∃as,Reads s.heap u d as
  | .none,_,_,h,r,_=>by unfold aj at h;subst h;cases r;exact⟨_, .none⟩
  | .bool _,_,_,h,r,_=>by unfold aj at h;subst h;cases r;exact⟨_, .bool _⟩
  | .int _,_,_,h,r,_=>by unfold aj at h;subst h;obtain⟨t,rfl⟩:=r;exact⟨_, .int _ _⟩
  | .str _,_,_,h,r,_=>by unfold aj at h;subst h;obtain⟨t,rfl⟩:=r;exact⟨_, .str _ _⟩
  | .list ds, _, _, h, r, hc0 => by
    unfold aj at h
    obtain⟨a,xs,rfl,n,s,q⟩:=h
    cases r
    obtain⟨its,rv,p,hz⟩:=I.list (aV.of s)
    obtain⟨as,ra⟩:=ah.reads I q rv (by simpa only[PyData.canLay0] using hc0)
    obtain⟨o,ho,hc,m,hd⟩:=p.isList
    exact⟨_, .list ho hc hd (by simpa using ra)⟩
  | .tuple ds, _, _, h, r, hc0 => by
    unfold aj at h
    obtain⟨a,xs,rfl,n,s,q⟩:=h
    cases r
    obtain⟨its,rv,p,hz⟩:=I.tuple (gh.of s)
    obtain⟨as,ra⟩:=ah.reads I q rv (by simpa only[PyData.canLay0] using hc0)
    obtain⟨o,ho,hc,m,hd⟩:=p
    exact⟨_, .tuple ho hc hd (by simpa using ra)⟩
  | .dict _,_,_,h,r,hc0=>by simp[PyData.canLay0] at hc0
theorem ah.reads{pins:List (Addr×Obj)}{σ:St}{H:Hp}{s:Shared}{nb:Addr->Prop}(I:Inv X pins σ H s):∀{ds:List PyData} {vs:List V} {us:List Value},ah nb H ds vs->Vals vs us->PyData.canLayAll0 ds=true->∃as,ReadsAll s.heap us ds as
  |[],_,_,h,r,_=>by unfold ah at h;subst h;cases r;exact⟨_, .nil⟩
  | d :: ds, _, _, h, r, hc0 => by
    rw[PyData.canLayAll0,cN] at hc0
    unfold ah at h
    obtain⟨y,ys,rfl,h1,h2⟩:=h
    cases r with
    | cons r1 r2 =>
      obtain⟨as,q1⟩:=aj.reads I h1 r1 hc0.1
      obtain⟨bs,q2⟩:=ah.reads I h2 r2 hc0.2
      exact⟨_, .cons q1 q2⟩
end
def zp(neg:Bool):R2:=fun x y H Q=>∃nb d e,aj nb H d x/\aj nb H e y/\SeqAt.shaped d=true/\SeqAt.shaped e=true/\Q (.bl (PyData.eqv d e !=neg)) H
theorem u5(hu:X.A.units+64<cLine):dZ X (compareOp .Eq) (zp false):=by
 intro pins s σ H x y v u Q I rx ry h
 obtain⟨nb,d,e,h1,h2,h3,h4,q⟩:=h
 obtain⟨as,r1⟩:=h1.reads I rx (oj h3)
 obtain⟨bs,r2⟩:=h2.reads I ry (oj h4)
 exact eq_dataH r1 r2 h3 h4 hu ⟨.bl _,H,I,rfl,by simpa using q⟩
theorem JP(hu:X.A.units+64<cLine):dZ X (compareOp .NotEq) (zp true):=by
 intro pins s σ H x y v u Q I rx ry h
 obtain⟨nb,d,e,h1,h2,h3,h4,q⟩:=h
 obtain⟨as,r1⟩:=h1.reads I rx (oj h3)
 obtain⟨bs,r2⟩:=h2.reads I ry (oj h4)
 exact ne_dataH r1 r2 h3 h4 hu ⟨.bl _,H,I,rfl,by simpa using q⟩
end
mutual
theorem eqv_refl:∀d:PyData,SeqAt.shaped d=true\/d.canLay0=true->PyData.eqv d d=true
  | .none,_=>by simp[PyData.eqv]
  | .bool _,_=>by simp[PyData.eqv]
  | .int _,_=>by simp[PyData.eqv]
  | .str _,_=>by simp[PyData.eqv]
  | .list ds, h => by
    have h':PyData.canLayAll0 ds=true:=by
      rcases h with h|h
      · have:=oj h;simpa[PyData.canLay0] using this
      · simpa[PyData.canLay0] using h
    simp only[PyData.eqv]
    exact eqvAll_refl ds h'
  | .tuple ds, h => by
    have h':PyData.canLayAll0 ds=true:=by
      rcases h with h|h
      · have:=oj h;simpa[PyData.canLay0] using this
      · simpa[PyData.canLay0] using h
    simp only[PyData.eqv]
    exact eqvAll_refl ds h'
  | .dict _, h => by
    rcases h with h|h
    · have:=oj h;simp[PyData.canLay0] at this
    · simp[PyData.canLay0] at h
theorem eqvAll_refl:∀ds:List PyData,PyData.canLayAll0 ds=true->PyData.eqvAll ds ds=true
  |[],_=>by simp[PyData.eqvAll]
  | d :: ds, h => by
    simp only[PyData.canLayAll0,cN] at h
    simp only[PyData.eqvAll,cN]
    exact⟨eqv_refl d (.inr h.1),eqvAll_refl ds h.2⟩
end
structure Callee(P:Program)(w:World)(K:PySem.W.Frag)(mg:Str->Option Value)(base:Heap)(x:Str)(k:Nat)(ps:List Str)(sp:Sp):Prop where
 ex:∃f fd,bD P w K mg base bI k f fd ps sp/\Binds K fd ps []/\PySem.W.keepIn K (.ref f)=true/\mg x=some (.ref f)
theorem aF{X:Cx}{x:Str}{k:Nat}{ps:List Str}{sp:Sp}{p pos:Pos}{e:Expr}{es:List Expr}{t:TA}(c:Callee X.prog X.w X.K X.mg X.base x k ps sp)(hr:gE k X.A)(ha:PA X (e::es) t)(hg:Gl X x:=by rfl)
  (hdb:(x==("__debug__":Str))=false:=by decide) (he:starEach (e::es) X.env=(false,eval e X.env)::starEach es X.env:=by rfl) (hpl:(backTo pos (starEach es X.env)).any (·.1)=false:=by rfl):
  PE X (.Call (.Name x p) (e::es) [] pos) (iS sp [] E0 t):=by
 obtain⟨f,fd,F,b,kp,m⟩:=c.ex
 exact S3 F hr hg m kp b .nil Kr ha hdb he hpl
theorem Callee.mk'{P:Program}{w:World}{K:PySem.W.Frag}{mg:Str->Option Value}{base:Heap}{x:Str}{st:Stmt}{k:Nat}{ps:List Str}{sp:Sp}{f:Addr}{fd:FuncData}(F:bK K x x st f fd)(ok:bD P w K mg base bI k f fd ps sp)(b:Binds K fd ps [])
  (m:mg x=some (.ref f)):Callee P w K mg base x k ps sp:=⟨f,fd,ok,b,F.kp,m⟩
def aN(K:PySem.W.Frag)(x q:Str)(st:Stmt)(f:Addr):Prop:=PySem.W.nsIn K mainGlobals x=some (some (.ref f))/\∃fd,bK K x q st f fd
theorem aN.mk{K:PySem.W.Frag}{x q:Str}{st:Stmt}{f:Addr}{oc:Value}{od an:Option Addr}{osl:Array (Option Value)}{kV doc pm cdv ct:Value}(a:PySem.W.nsIn K mainGlobals x=some (some (.ref f)))(l:K.lookup f=some ⟨oc,od, .func (PySem.W.fnOf x q (oA st) (m5 st) (aM st) .none kV doc pm an cdv ct),osl⟩)
  (c:PySem.W.codeIn K cdv q=true) (k:PySem.W.keepIn K (.ref f)=true):aN K x q st f:=⟨a,_,Gj l c k⟩
end L2
set_option maxRecDepth 100000
set_option maxHeartbeats 1000000
namespace L2
open PySem PySem.Spec PyProof.Rows
section
variable{X:Cx}
theorem gm:dZ X (binaryOp .Mult) (rI (fun i j=>v5 i j\/(Sm i/\Sm j)) fun i j=> .int (i*j)):=vQ fun _ _ _ _ _ _ _ hc q=>mul_int q (by
 rcases hc with hc|hc
 ·exact hc.ok
 ·exact IntMulOk.of_bits (Bv hc.1) (Bv hc.2))
end
def cV(H:Hp)(b l:Addr):Prop:=∃(ns:List Int) (i c st n:Int),H b=some (.lst [.ref l, .int i, .int c, .int st, .int n])/\H l=some (.lst (ns.map V.int))/\
 (∀x∈ns,0<=x/\x<10^60)/\ns.length<=63/\0<=i/\0<=c/\c<10^60/\0<=st/\st<2147483647
theorem Gf{H:Hp}{b l:Addr}{ns:List Int}{i c st n:V}(h:H b=some (.lst [.ref l,i,c,st,n]))(h':H l=some (.lst (ns.map V.int))):l≠b:=by
 intro e
 subst e
 rw[h] at h'
 have e:=HO.lst.inj (gf h')
 cases ns with
 |nil=>cases e
 |cons x r=>rw[aZ] at e;cases (List.cons.inj e).1
theorem cV.put{H:Hp}{b l:Addr}{ns:List Int}{i c st n:Int}(hl:l≠b)(h':H l=some (.lst (ns.map V.int)))(h1:∀x∈ns,0<=x/\x<10^60)(h2:ns.length<=63)
  (h3:0<=i) (h4:0<=c) (h5:c<10^60) (h6:0<=st) (h7:st<2147483647):cV (upd H b (.lst [.ref l, .int i, .int c, .int st, .int n])) b l:=
 ⟨ns,i,c,st,n,bf,by rw[aK hl];exact h',h1,h2,h3,h4,h5,h6,h7⟩
theorem cV.put2{H:Hp}{b l p:Addr}{o:HO}(h:cV H b l)(hp:p≠b/\p≠l):cV (upd H p o) b l:=by
 obtain⟨ns,i,c,st,n,h1,h2,r⟩:=h
 exact⟨ns,i,c,st,n,by rw[aK (bw hp.1)];exact h1,by rw[aK (bw hp.2)];exact h2,r⟩
theorem cV.same{H H':Hp}{b l:Addr}(h:cV H b l)(s:dO H H'):cV H' b l:=by
 obtain⟨ns,i,c,st,n,h1,h2,r⟩:=h
 exact⟨ns,i,c,st,n,s _ _ h1,s _ _ h2,r⟩
def ig:Sp:=fun vs H Q _=>∃(b l:Addr) (many:Int),vs=[.ref b, .int many]/\cV H b l/\0<many/\Sm many/\∀(r:Int) (H':Hp),0<=r->r<many->aX (Nb b) H H'->cV H' b l->Q (.int r) H'
def DL(K:PySem.W.Frag):Sp:=fun vs H Q _=>∃(a:Addr) (ns:List Int),vs=[.ref a]/\aV K H a (ns.map V.int)/\ns.length<=63/\∀(b l:Addr) (H':Hp),dO H H'->H b=none->cV H' b l->Q (.ref b) H'
theorem fS{α:Type}{xs:List α}{i:Int}{v:α}(h0:0<=i)(h:xs[i.toNat]?=some v):bF xs i=some v:=by
 have e:i=((i.toNat:Nat):Int):=by omega
 rw[e]
 exact OG h
theorem dG{H:Hp}{p:Addr}{o:HO}(h:H p=none):dO H (upd H p o):=fun b u q=>by rw[aK (iZ q h)];exact q
section
variable{nb:Addr->Prop}{H H':Hp}
theorem ah.length:∀{ds:List PyData} {xs:List V},ah nb H ds xs->xs.length=ds.length
 |[],_,h=>by unfold ah at h;subst h;rfl
 |d::ds,_,h=>by unfold ah at h;obtain⟨y,ys,rfl,_,h2⟩:=h;simp[ah.length h2]
theorem ah.get:∀{ds:List PyData} {xs:List V} {i:Nat} {d:PyData},ah nb H ds xs->ds[i]?=some d->∃x,xs[i]?=some x/\aj nb H d x
 |[],_,_,_,_,e=>by simp at e
 |d::ds,_,0,_,h,e=>by unfold ah at h;obtain⟨y,ys,rfl,h1,h2⟩:=h;simp at e;subst e;exact⟨y,rfl,h1⟩
 |d::ds,_,i+1,_,h,e=>by unfold ah at h;obtain⟨y,ys,rfl,h1,h2⟩:=h;simpa using ah.get (i:=i) h2 (by simpa using e)
theorem ah.snoc{d:PyData}{x:V}(hd:aj nb H d x):∀{ds:List PyData} {xs:List V},ah nb H ds xs->ah nb H (ds++[d]) (xs++[x])
 |[],_,h=>by unfold ah at h;subst h;unfold ah;exact⟨x,[],rfl,hd,by unfold ah;rfl⟩
 |e::ds,_,h=>by unfold ah at h;obtain⟨y,ys,rfl,h1,h2⟩:=h;show ah nb H (e::(ds++[d])) _;unfold ah;exact⟨y,ys++[x],rfl,h1,ah.snoc hd h2⟩
theorem ah.append:∀{ds es:List PyData} {xs ys:List V},ah nb H ds xs->ah nb H es ys->ah nb H (ds++es) (xs++ys)
 |[],_,_,_,h,h'=>by unfold ah at h;subst h;exact h'
 |e::ds,es,_,zs,h,h'=>by unfold ah at h;obtain⟨y,ys,rfl,h1,h2⟩:=h;show ah nb H (e::(ds++es)) _;unfold ah;exact⟨y,ys++zs,rfl,h1,ah.append h2 h'⟩
theorem ah.take:∀{ds:List PyData} {xs:List V} (n:Nat),ah nb H ds xs->ah nb H (ds.take n) (xs.take n)
 |_,_,0,_=>by simp only[List.take_zero];unfold ah;rfl
 |[],_,n+1,h=>by unfold ah at h;subst h;simp only[List.take_nil];unfold ah;rfl
 |d::ds,_,n+1,h=>by unfold ah at h;obtain⟨y,ys,rfl,h1,h2⟩:=h;simp only[List.take_succ_cons];unfold ah;exact⟨y,_,rfl,h1,ah.take n h2⟩
theorem ah.drop:∀{ds:List PyData} {xs:List V} (n:Nat),ah nb H ds xs->ah nb H (ds.drop n) (xs.drop n)
 |_,_,0,h=>h
 |[],_,n+1,h=>by unfold ah at h;subst h;simp only[List.drop_nil];unfold ah;rfl
 |d::ds,_,n+1,h=>by unfold ah at h;obtain⟨y,ys,rfl,h1,h2⟩:=h;simp only[List.drop_succ_cons];exact ah.drop n h2
theorem ah.nil:ah nb H [] []:=by unfold ah;rfl
theorem ah.cons{d:PyData}{x:V}{ds:List PyData}{xs:List V}(h1:aj nb H d x)(h2:ah nb H ds xs):ah nb H (d::ds) (x::xs):=by unfold ah;exact⟨x,xs,rfl,h1,h2⟩
theorem aj.int(i:Int):aj nb H (.int i) (.int i):=by unfold aj;rfl
theorem aj.aL:aj nb H .none .aL:=by unfold aj;rfl
theorem aj.bl(b:Bool):aj nb H (.bool b) (.bl b):=by unfold aj;rfl
theorem aj.lst{a:Addr}{ds:List PyData}{xs:List V}(n:¬nb a)(h:H a=some (.lst xs))(hd:ah nb H ds xs):aj nb H (.list ds) (.ref a):=by unfold aj;exact⟨a,xs,rfl,n,h,hd⟩
theorem aj.tup{a:Addr}{ds:List PyData}{xs:List V}(n:¬nb a)(h:H a=some (.tup xs))(hd:ah nb H ds xs):aj nb H (.tuple ds) (.ref a):=by unfold aj;exact⟨a,xs,rfl,n,h,hd⟩
theorem aj.eO{v:V}{ds:List PyData}(h:aj nb H (.list ds) v):∃a xs,v= .ref a/\¬nb a/\H a=some (.lst xs)/\ah nb H ds xs:=by unfold aj at h;exact h
theorem aj.ofT{v:V}{ds:List PyData}(h:aj nb H (.tuple ds) v):∃a xs,v= .ref a/\¬nb a/\H a=some (.tup xs)/\ah nb H ds xs:=by unfold aj at h;exact h
theorem aj.bO{v:V}{i:Int}(h:aj nb H (.int i) v):v= .int i:=by unfold aj at h;exact h
theorem aj.Cq{v:V}(h:aj nb H .none v):v= .aL:=by unfold aj at h;exact h
end
def Tf:Sp:=fun vs H Q _=>∃i:Int,vs=[.int i]/\Q (.bl true) H
def tQ(K:PySem.W.Frag):Sp:=fun vs H Q _=>∃(a:Addr) (ns:List Int),vs=[.ref a]/\aV K H a (ns.map V.int)/\ns.length<=63/\∀H',Q (.bl true) H'
end L2
set_option maxRecDepth 100000
set_option maxHeartbeats 1000000
namespace L2
open PySem PySem.Spec PyProof.Rows
def zC(Q:VK):List V->Hp->Prop:=fun xs H1=>xs.length<=sizeLine/\∀p,H1 p=none->Q (.ref p) (upd H1 p (.lst xs))
def lK(K:PySem.W.Frag):List V->Hp->VK->Prop:=fun xs H Q=>∃p ys,xs=[.ref p]/\(aV K H p ys\/gh K H p ys)/\∀l,H l=none->Q (.ref l) (upd H l (.lst ys))
theorem qm{X:Cx}:fk X (.type "list") (lK X.K):=OB
def JZ:R2:=fun x y H Q=>y= .aL/\Q (.bl (decide (x= .aL))) H
def t8:R2:=fun x y H Q=>y= .aL/\Q (.bl (!decide (x= .aL))) H
theorem QG{X:Cx}:dZ X (compareOp .Is) JZ:=WQ
theorem vA{X:Cx}:dZ X (compareOp .IsNot) t8:=NS
def intOf:Expr->Option Int
 | .Constant (.int i) _ _=>some i
 |_=>none
theorem Se{e:Expr}{i:Int}(h:intOf e=some i):∃k p,e= .Constant (.int i) k p:=by
 unfold intOf at h
 split at h
 ·cases h;exact⟨_,_,rfl⟩
 ·cases h
def qa:List Expr->Option (List Int)
 |[]=>some []
 |e::r=>(intOf e).bind fun i=>(qa r).map (i:: ·)
def qx(is:List Int):TA:=fun _ H Q=>Q (is.map V.int) H
theorem oZ{X:Cx}:∀{es:List Expr} {is:List Int},qa es=some is->PA X es (qx is):=by
  intro es
  induction es with
  | nil =>
    intro is h
    have e:is=[]:=by simpa[qa] using h.symm
    subst e
    exact af
  | cons e r ih =>
    intro is h
    unfold qa at h
    cases hi:intOf e with
    |none=>rw[hi] at h;cases h
    | some i =>
      rw[hi] at h
      obtain⟨k,p,rfl⟩:=Se hi
      obtain⟨js,hj,rfl⟩:=jw.mp (show(qa r).map (i:: ·)=some is from h)
      exact aa (te:=tC (.int i)) (t:=qx js) ai (ih hj)
theorem MA{X:Cx}{i:Nat}{x:Str}{es:List Expr}{is:List Int}{p1 p2 p3:Pos}(hN:X.N.Nodup)(hi:X.N[i]?=some x)(hx:Loc X.env.scope x)(h:qa es=some is)(hf:X.fn x=true\/X.env.scope.names.lookup x=some .local):
  PS X (.Assign [.Name x p1] (.List es p2) p3) (gv (nJ (qx is)) (eN i)):=aB hN hi hx (dU (oZ h)) rfl hf
namespace R
section
variable{σ:St}{H:Hp}{Q:VK}{D:Ends}{ta tb te:TE}{K:PySem.W.Frag}
theorem seq{t u:TS}(h:t {D with nx:=u D} σ H):jA t u D σ H:=h
theorem asg{g:TG}(h:te σ H fun x H1=>g x σ H1 D.nx):gv te g D σ H:=h
theorem ow{c:TT}{t u:TS}(h:c σ H fun b H1=>if b=true then t D σ H1 else u D σ H1):o6 c t u D σ H:=h
theorem ret(h:te σ H D.rt):xw te D σ H:=h
theorem next(h:D.nx σ H):rD D σ H:=h
theorem var{i:Nat}{v:V}(e:σ[i]?=some (some v))(h:Q v H):cZ i σ H Q:=⟨v,e,h⟩
theorem c{v:V}(h:Q v H):tC v σ H Q:=h
theorem op{r:R2}(h:ta σ H fun x H1=>tb σ H1 fun y H2=>r x y H2 Q):cU r ta tb σ H Q:=h
theorem test{q:Bool->Hp->Prop}(h:te σ H fun x H'=>∃k,x= .bl k/\q k H'):BL te σ H q:=h
theorem bl{P:Bool->Prop}{b:Bool}(h:P b):∃k,V.bl b= .bl k/\P k:=⟨b,rfl,h⟩
theorem and{t u:TT}{q:Bool->Hp->Prop}(h:t σ H fun c H1=>if c=true then u σ H1 q else q false H1):Dj t u σ H q:=h
theorem cb{r:List V->Hp->VK->Prop}{t:TA}(h:t σ H fun vs H1=>r vs H1 Q):fJ r t σ H Q:=h
theorem call{sp:Sp}{t:TA}(h:t σ H fun vs H1=>sp (vs++[]) H1 Q E0):iS sp [] E0 t σ H Q:=h
theorem nil{q:List V->Hp->Prop}(h:q [] H):bM σ H q:=h
theorem cons{t:TA}{q:List V->Hp->Prop}(h:ta σ H fun x H1=>t σ H1 fun xs H2=>q (x::xs) H2):br ta t σ H q:=h
theorem lst{t:TA}(h:t σ H (zC Q)):nJ t σ H Q:=h
theorem sl{r:V->Option Int->Option Int->Hp->VK->Prop}{tl th:TO}(h:te σ H fun x H1=>tl σ H1 fun l H2=>th σ H2 fun u H3=>r x l u H3 Q):rY r te tl th σ H Q:=h
theorem V1{q:Option Int->Hp->Prop}(h:q none H):Cc σ H q:=h
theorem part{q:Option Int->Hp->Prop}(h:te σ H fun x H1=>∃i,x= .int i/\q (some i) H1):AI te σ H q:=h
theorem MM{P:Int->Prop}{i:Int}(h:P i):∃j,V.int i= .int j/\P j:=⟨i,rfl,h⟩
theorem Mh{T:String}{r:V->List V->Hp->VK->Prop}(h:te σ H fun x H1=>pB K T x H1/\r x [] H1 Q):Fv K T r te σ H Q:=h
theorem Pz{i:Int}{A:Prop}(h:A):pB K "int" (.int i) H/\A:=⟨rfl,h⟩
theorem JE{i:Nat}{v:V}{q:St->Hp->Prop}(h:q (σ.set i (some v)) H):eN i v σ H q:=h
theorem O7{to ti:TE}{t:rH}{v:V}{q:St->Hp->Prop}(h:to σ H fun o H1=>ti σ H1 fun i H2=>t o i v H2 fun H3=>q σ H3):oK to ti t v σ H q:=h
theorem WI{t:TG}{u:iK}{v:V}{r:List V}{q:St->Hp->Prop}(h:t v σ H fun σ' H'=>u r σ' H' q):xg t u (v::r) σ H q:=⟨v,r,rfl,h⟩
theorem LG{q:St->Hp->Prop}(h:q σ H):zh [] σ H q:=⟨rfl,h⟩
theorem Sa{n:Nat}{t:iK}{a:Addr}{xs:List V}{q:St->Hp->Prop}(hq:gh K H a xs)(hl:xs.length=n)(h:t xs σ H q):sZ K n t (.ref a) σ H q:=⟨a,xs,rfl,hq,hl,h⟩
theorem rz{q:Bool->Hp->Prop}(h:q true H):nD σ H q:=h
theorem iO{g:Int->Int->V}{i j:Int}(h:Q (g i j) H):L2.iO g (.int i) (.int j) H Q:=⟨i,j,rfl,rfl,h⟩
theorem rI{C:Int->Int->Prop}{g:Int->Int->V}{i j:Int}(hc:C i j)(h:Q (g i j) H):L2.rI C g (.int i) (.int j) H Q:=⟨i,j,rfl,rfl,hc,h⟩
theorem BH{i j:Int}:decide (V.int i=V.int j)=decide (i=j):=by rw[mU];simp
theorem Uj{i j:Int}(h:Q (.bl (decide (i=j))) H):BB (.int i) (.int j) H Q:=⟨rfl,by rw[BH];exact h⟩
theorem Xm{i j:Int}(h:Q (.bl (decide (i≠j))) H):zk (.int i) (.int j) H Q:=⟨rfl,by rw[BH,<-decide_not];exact h⟩
theorem HS{i:Int}(h:Q (.bl true) H):t8 (.int i) .aL H Q:=⟨rfl,by rw[decide_eq_false (fun e=>V.noConfusion e)];exact h⟩
theorem Fo(h:Q (.bl false) H):t8 .aL .aL H Q:=⟨rfl,by rw[decide_eq_true rfl];exact h⟩
theorem tZ{p:Addr}{xs:List V}{i:Int}{v:V}(hp:H p=some (.lst xs))(e:bF xs i=some v)(h:Q v H):cz K (.ref p) (.int i) H Q:=⟨p,xs,i,v,rfl,rfl,aV.of hp,e,h⟩
theorem zu{p:Addr}{o:HO}{xs:List V}{i:Int}{v:V}(e:bF xs i=some v)(h:Q v (upd H p (.lst xs))):cz K (.ref p) (.int i) (upd H p (.lst xs)) Q:=⟨p,xs,i,v,rfl,rfl,aV.of bf,e,h⟩
theorem setM{p:Addr}{xs:List V}{k:Int}{j:Nat}{v:V}{q:Hp->Prop}(hp:H p=some (.lst xs))(e:eW xs.length k=some j)(h:q (upd H p (.lst (xs.set j v)))):vN (.ref p) (.int k) v H q:=⟨p,xs,k,j,rfl,rfl,hp,e,h⟩
theorem Vt{p:Addr}{xs:List V}{k:Int}{j:Nat}{v:V}{q:Hp->Prop}(e:eW xs.length k=some j)(h:q (upd H p (.lst (xs.set j v)))):vN (.ref p) (.int k) v (upd H p (.lst xs)) q:=
 ⟨p,xs,k,j,rfl,rfl,bf,e,by rw[yW];exact h⟩
theorem QV{p:Addr}{xs:List V}{P:List V->Prop}(hp:H p=some (.lst xs))(h:P xs):∃a ys,[V.ref p]=[.ref a]/\(aV K H a ys\/gh K H a ys)/\P ys:=⟨p,xs,rfl, .inl (aV.of hp),h⟩
theorem JC{p:Addr}{xs:List V}{lo hi:Option Int}(hp:aV K H p xs)(h:∀a,H a=none->Q (.ref a) (upd H a (.lst (lY xs lo hi)))):gJ K (.ref p) lo hi H Q:=⟨p,xs,rfl,hp,h⟩
theorem Nm{a:Int}{P:Int->Prop}(h:P a):∃i,[V.int a]=[.int i]/\P i:=⟨a,rfl,h⟩
theorem bits{i:Int}{P:Int->Prop}(h:P i):∃j,V.int i= .int j/\([]:List V)=[]/\P j:=⟨i,rfl,rfl,h⟩
theorem QJ{xs:List V}(h:xs.length<=10000)(q:∀p H',dO H H'->H p=none->H' p=some (.lst xs)->Q (.ref p) H'):zC Q xs H:=
 ⟨eK h (by decide),fun p hp=>q p _ (dG hp) hp bf⟩
theorem HF{c A B:Prop}[Decidable c](h:c)(q:A):if c then A else B:=by rw[if_pos h];exact q
theorem Jr{c A B:Prop}[Decidable c](h:¬c)(q:B):if c then A else B:=by rw[if_neg h];exact q
theorem dT{c:Prop}[Decidable c](h:c):decide c=true:=decide_eq_true h
theorem dF{c:Prop}[Decidable c](h:¬c):¬decide c=true:=by rw[decide_eq_false h];exact cC
theorem EW{c:Prop}[Decidable c](h:¬c):(!decide c)=true:=by rw[decide_eq_false h];rfl
theorem Dz{c:Prop}[Decidable c](h:c):¬(!decide c)=true:=by rw[decide_eq_true h];decide
theorem Lo{t:TA}{R:It->Hp->Prop}(h:t σ H fun vs H1=>∃j:Int,vs=[.int j]/\ -(2^62)<=j/\j<2^62/\R (i9 0 j.toNat) H1):sF t σ H R:=h
theorem Od{P:Int->Prop}{i:Int}(h1: -(2^62)<=i)(h2:i<2^62)(h:P i):∃j:Int,[V.int i]=[.int j]/\ -(2^62)<=j/\j<2^62/\P j:=⟨i,rfl,h1,h2,h⟩
theorem QK{t:TA}{R:It->Hp->Prop}(h:t σ H fun vs H1=>∃i j:Int,vs=[.int i, .int j]/\(-(2^62)<=i/\i<2^62/\ -(2^62)<=j/\j<2^62)/\R (i9 i (j-i).toNat) H1):El t σ H R:=h
theorem SI{P:Int->Int->Prop}{a b:Int}(h1: -(2^62)<=a/\a<2^62/\ -(2^62)<=b/\b<2^62)(h:P a b):∃i j:Int,[V.int a,V.int b]=[.int i, .int j]/\(-(2^62)<=i/\i<2^62/\ -(2^62)<=j/\j<2^62)/\P i j:=⟨a,b,rfl,h1,h⟩
theorem iL{tl:TE}{R:It->Hp->Prop}(h:tl σ H fun x H1=>∃a,x= .ref a/\(∃xs,aV K H1 a xs)/\R (n6 K a) H1):p6 K tl σ H R:=h
theorem wG{P:Addr->Prop}{p:Addr}{xs:List V}(hp:aV K H p xs)(h:P p):∃a,V.ref p= .ref a/\(∃xs,aV K H a xs)/\P a:=⟨p,rfl,⟨xs,hp⟩,h⟩
theorem LD{wi:TI}{g:TG}{tb:TS}(h:wi σ H fun J H1=>∃W:Nat->Nat->St->Hp->Prop,(∃m,W 0 m σ H1)/\∀i m σ H,W i m σ H->
 (J.stop i H/\D.nx σ H)\/(J.go i H/\∃N:St->Hp->Prop,(∀σ' H',N σ' H'->∃m',m'<m/\W (i+1) m' σ' H')/\∀x H',J.nL i H x H'->g x σ H' fun σ2 H2=>tb {D with nx:=N,ct:=N,bk:=D.nx} σ2 H2)):qQ wi g tb D σ H:=h
theorem comp{wi:TI}{g:TG}{tc:TT}{mp:List (Option Nat)}(h:wi σ H fun J H1=>∀acc,H1 acc=none->sj J g tc te acc (fun H'=>Q (.ref acc) H') (iJ mp σ) (upd H1 acc (.lst []))):lO wi g tc te mp σ H Q:=h
end
theorem BA{lo:Int}{n:Nat}{g:TG}{tc:TT}{te:TE}{acc:Addr}{Qe:Hp->Prop}{σ:St}{H:Hp}(Pv:Nat->St->Hp->Prop)(h0:Pv 0 σ H)
  (hs:∀i σ H,i<n->Pv i σ H->g (.int (lo+i)) σ H fun σ2 H2=>tc σ2 H2 fun b H3=>if b=true then te σ2 H3 fun v H4=>∃ys,H4 acc=some (.lst ys)/\ys.length<sizeLine/\Pv (i+1) σ2 (upd H4 acc (.lst (ys++[v]))) else Pv (i+1) σ2 H3)
  (hd:∀σ H,Pv n σ H->Qe H):sj (i9 lo n) g tc te acc Qe σ H:=by
 refine⟨fun i m σ H=>m=n-i/\i<=n/\Pv i σ H,⟨n,by simp,fT _,h0⟩,?_⟩
 rintro i m σ H ⟨rfl,hi,p⟩
 by_cases hlt:i<n
 ·refine .inr ⟨hlt,Pv (i+1),fun σ' H' p'=>⟨n-(i+1),by omega,rfl,hlt,p'⟩,fun x H' y=>?_⟩
  obtain⟨e,y⟩:=y
  subst e y
  exact hs i σ _ hlt p
 ·have e:i=n:=by omega
  subst e
  exact .inl ⟨aQ _,hd σ H p⟩
theorem AA{K:PySem.W.Frag}{a:Addr}{xs:List V}{g:TG}{tc:TT}{te:TE}{acc:Addr}{Qe:Hp->Prop}{σ:St}{H:Hp}(Pv:Nat->St->Hp->Prop)(h0:Pv 0 σ H)(hl:∀i σ H,i<=xs.length->Pv i σ H->aV K H a xs)
  (hs:∀i x σ H,xs[i]?=some x->Pv i σ H->g x σ H fun σ2 H2=>tc σ2 H2 fun b H3=>if b=true then te σ2 H3 fun v H4=>∃ys,H4 acc=some (.lst ys)/\ys.length<sizeLine/\Pv (i+1) σ2 (upd H4 acc (.lst (ys++[v]))) else Pv (i+1) σ2 H3)
  (hd:∀σ H,Pv xs.length σ H->Qe H):sj (n6 K a) g tc te acc Qe σ H:=by
 refine⟨fun i m σ H=>m=xs.length-i/\i<=xs.length/\Pv i σ H,⟨xs.length,by simp,fT _,h0⟩,?_⟩
 rintro i m σ H ⟨rfl,hi,p⟩
 have q:=hl i σ H hi p
 by_cases hlt:i<xs.length
 ·refine .inr ⟨⟨xs,xs[i],q,by simp[hlt]⟩,Pv (i+1),fun σ' H' p'=>⟨xs.length-(i+1),by omega,rfl,hlt,p'⟩,fun x H' y=>?_⟩
  obtain⟨e,y⟩:=y
  subst e
  exact hs i x σ _ (y xs q) p
 ·have e:i=xs.length:=by omega
  subst e
  exact .inl ⟨⟨xs,q,aQ _⟩,hd σ H p⟩
end R
end L2
set_option maxRecDepth 100000
set_option maxHeartbeats 1000000
namespace L2
open PySem PySem.Spec PyProof.Rows
@[reducible] def pairD(pr:Int×Int):PyData:= .tuple [.int pr.1, .int pr.2]
def gF:Option Int->PyData
 |none=> .none
 |some i=> .int i
def tK:Option Int->V
 |none=> .aL
 |some i=> .int i
def gp(wd:List (Option Int))(pr:Int×Int):Int:=match wd[pr.1.toNat]? with
 |some (some x)=>pr.2*x
 |_=>0
def aU(prs:List (Int×Int))(wd:List (Option Int)):Int:=(prs.map (gp wd)).sum
theorem Jq{prs:List (Int×Int)}{wd:List (Option Int)}{i:Nat}(h:i<prs.length):aU (prs.take (i+1)) wd=aU (prs.take i) wd+gp wd prs[i]:=by
 unfold aU
 rw[zq,aH h,cL,zM]
 simp
theorem Qx{nb:Addr->Prop}{H:Hp}{o:Option Int}{v:V}(h:aj nb H (gF o) v):v=tK o:=by
 cases o with
 |none=>exact h.Cq
 |some i=>exact h.bO
theorem Gg{nb:Addr->Prop}{H:Hp}:∀{wd:List (Option Int)} {xs:List V},ah nb H (wd.map gF) xs->xs=wd.map tK
  |[],_,h=>by unfold List.map ah at h;exact h
  | o :: wd, _, h => by
    rw[aZ] at h
    unfold ah at h
    obtain⟨y,ys,rfl,h1,h2⟩:=h
    rw[aZ,Qx h1,Gg h2]
theorem Pn{nb:Addr->Prop}{H:Hp}{pr:Int×Int}{v:V}(h:aj nb H (pairD pr) v):∃t,v= .ref t/\¬nb t/\H t=some (.tup [.int pr.1, .int pr.2]):=by
 obtain⟨t,xs,rfl,n,ht,hd⟩:=h.ofT
 unfold ah at hd
 obtain⟨y,ys,rfl,h1,h2⟩:=hd
 unfold ah at h2
 obtain⟨z,zs,rfl,h3,h4⟩:=h2
 unfold ah at h4
 subst h4
 rw[h1.bO,h3.bO] at ht
 exact⟨t,rfl,n,ht⟩
def CM:Sp:=fun vs H Q _=>∃(nb:Addr->Prop) (p:Int) (va vc:V) (prs:List (Int×Int)) (wd:List (Option Int)),vs=[.int p,va,vc]/\aj nb H (.list (prs.map pairD)) va/\aj nb H (.list (wd.map gF)) vc/\0<p/\
 (∀pr∈prs,0<=pr.1/\pr.1<wd.length/\Sm pr.2)/\(∀x,some x∈wd->Sm x)/\Q (.int (aU prs wd%p)) H
theorem HE(prs:List (Int×Int)):SeqAt.shaped (.list (prs.map pairD))=true/\PyData.depthAll (prs.map pairD)<=1/\PyData.canLayAll0 (prs.map pairD)=true:=by
 have h:PyData.depthAll (prs.map pairD)<=1/\PyData.canLayAll0 (prs.map pairD)=true:=by
  induction prs with
  |nil=>simp[PyData.depthAll,PyData.canLayAll0]
  |cons a r ih=>simp[pairD,PyData.depthAll,PyData.depth,PyData.canLayAll0,PyData.canLay0,ih.2];have:=ih.1;omega
 refine⟨?_,h⟩
 unfold SeqAt.shaped
 simp[PyData.canLay0,PyData.depth,h.2]
 omega
theorem Hx(wd:List (Option Int)):PyData.depthAll (wd.map gF)=0/\PyData.canLayAll0 (wd.map gF)=true:=by
 induction wd with
 |nil=>simp[PyData.depthAll,PyData.canLayAll0]
 |cons a r ih=>cases a<;>simp[gF,PyData.depthAll,PyData.depth,PyData.canLayAll0,PyData.canLay0,ih.2,ih.1]
def uh(r:Int):Prop:=∀d:Int,2<=d->d*d<=r->r%d≠0
def uK:List Int:=[2,3,5,7,2,11,101,10007,65537,1000003,998244353,1000000007,2147483647,1000000000039,1000000000000000003,18446744073709551557,2305843009213693951,618970019642690137449562111,162259276829213363391578010288127,170141183460469231731687303715884105727,1000000000000000000000000000000000000003,9999999999999999999999999999999999999983]
def IA(p:Int):Prop:=2<=p/\p<10^40/\(p∈uK\/uh p)
def wL:Sp:=fun vs H Q _=>∃n:Int,vs=[.int n]/\2<=n/\n<=10002/\∀(r:Int) (H':Hp),dO H H'->2<=r->r<=10100->uh r->Q (.int r) H'
def Xn:Sp:=fun vs H Q _=>∃(b l:Addr),vs=[.ref b]/\cV H b l/\∀(p:Int) (H':Hp),IA p->aX (Nb b) H H'->cV H' b l->Q (.int p) H'
theorem qv{nb:Addr->Prop}{H:Hp}:∀is:List Int,ah nb H (is.map PyData.int) (is.map V.int)
 |[]=>ah.nil
 |i::is=>ah.cons (.int i) (qv is)
theorem o8{nb:Addr->Prop}{H:Hp}:∀{is:List Int} {xs:List V},ah nb H (is.map PyData.int) xs->xs=is.map V.int
  |[],_,h=>by unfold List.map ah at h;exact h
  | i :: is, _, h => by
    rw[aZ] at h
    unfold ah at h
    obtain⟨y,ys,rfl,h1,h2⟩:=h
    rw[aZ,h1.bO,o8 h2]
end L2
set_option maxRecDepth 100000
set_option maxHeartbeats 1000000
namespace L2
open PySem PySem.Spec PyProof.Rows
abbrev Bg:=Option (Addr×Addr)
def NB(B:Bg)(a:Addr):Prop:=∀b l,B=some (b,l)->a≠b
def jP(B:Bg)(H:Hp):Prop:=∀b l,B=some (b,l)->cV H b l
def kX(nb:Addr->Prop)(H:Hp):Prop:=∀a,nb a->H a≠none
structure Kp(S:Addr->Prop)(F:List Addr)(H H':Hp):Prop where
 own:∀a∈F,∀o,H a=some o->H' a=some o
 lst:∀a xs,¬S a->H a=some (.lst xs)->H' a=some (.lst xs)
 tup:∀a xs,¬S a->H a=some (.tup xs)->H' a=some (.tup xs)
 cY:∀a ps,¬S a->Rd H a (.dK ps)->Rd H' a (.dK ps)
theorem Kp.of{S:Addr->Prop}{F:List Addr}{H H':Hp}(h:∀a o,(¬S a\/a∈F)->H a=some o->H' a=some o):Kp S F H H':=
 ⟨fun a ha o e=>h a o (.inr ha) e,fun a xs n e=>h a _ (.inl n) e,fun a xs n e=>h a _ (.inl n) e,fun a ps n e=>e.elim (fun e=> .inl (h a _ (.inl n) e)) fun⟨o,e⟩=> .inr ⟨o,h a _ (.inl n) e⟩⟩
mutual
theorem aj.kp{S:Addr->Prop}{F:List Addr}{H H':Hp}(m:Kp S F H H'):∀{d:PyData} {v:V},aj S H d v->aj S H' d v
 | .none,_,h=>by unfold aj at h⊢;exact h
 | .bool _,_,h=>by unfold aj at h⊢;exact h
 | .int _,_,h=>by unfold aj at h⊢;exact h
 | .str _,_,h=>by unfold aj at h⊢;exact h
 | .list ds,_,h=>by unfold aj at h⊢;obtain⟨a,xs,e,n,s,r⟩:=h;exact⟨a,xs,e,n,m.lst _ _ n s,ah.kp m r⟩
 | .tuple ds,_,h=>by unfold aj at h⊢;obtain⟨a,xs,e,n,s,r⟩:=h;exact⟨a,xs,e,n,m.tup _ _ n s,ah.kp m r⟩
 | .dict kvs,_,h=>by unfold aj at h⊢;obtain⟨a,xs,e,n,s,r⟩:=h;exact⟨a,xs,e,n,m.cY _ _ n s,aE.kp m r⟩
theorem ah.kp{S:Addr->Prop}{F:List Addr}{H H':Hp}(m:Kp S F H H'):∀{ds:List PyData} {vs:List V},ah S H ds vs->ah S H' ds vs
 |[],_,h=>by unfold ah at h⊢;exact h
 |d::ds,_,h=>by unfold ah at h⊢;obtain⟨y,ys,e,h1,h2⟩:=h;exact⟨y,ys,e,aj.kp m h1,ah.kp m h2⟩
theorem aE.kp{S:Addr->Prop}{F:List Addr}{H H':Hp}(m:Kp S F H H'):∀{ds:List (PyData×PyData)} {vs:List (Key×V)},aE S H ds vs->aE S H' ds vs
 |[],_,h=>by unfold aE at h⊢;exact h
 |d::ds,_,h=>by unfold aE at h⊢;obtain⟨y,ys,e,h1,h2⟩:=h;exact⟨y,ys,e,dP.kp m h1,aE.kp m h2⟩
theorem dP.kp{S:Addr->Prop}{F:List Addr}{H H':Hp}(m:Kp S F H H'):∀{d:PyData×PyData} {v:Key×V},dP S H d v->dP S H' d v
 |(k,d),_,h=>by unfold dP at h⊢;exact⟨h.1,aj.kp m h.2⟩
end
structure Cu where
 v:V
 F:List Addr
 f:Bool
 P:(Addr->Prop)->Hp->Prop
 keep:∀{S:Addr->Prop} {H H':Hp},Kp S F H H'->P S H->P S H'
 av:∀{S S':Addr->Prop} {H:Hp},(∀a,S' a->S a)->P S H->P S' H
 fresh:∀{S:Addr->Prop} {H:Hp} {p:Addr},H p=none->P S H->P (fun a=>S a\/a=p) H
inductive HD where
 |d (x:PyData)|fz (o:Obj) (ps:List (Key×V))|th (c:Cu)
def iN(S:Addr->Prop)(H:Hp):HD->V->Prop
 | .d x,v=>aj S H x v
 | .fz o ps,v=>∃a,v= .ref a/\¬S a/\H a=some (.gX o (.dK ps))
 | .th c,v=>v=c.v/\(∀a∈c.F,¬S a/\H a≠none)/\c.P S H
theorem iN.keep{S:Addr->Prop}{H H':Hp}{x:HD}{v:V}(h:iN S H x v)(b:aX S H H'):iN S H' x v:=by
  cases x with
  |d x=>exact aj.keep b h
  |fz o ps=>obtain⟨a,e,n,q⟩:=h;exact⟨a,e,n,b _ _ n q⟩
  | th c =>
    obtain⟨e,n,q⟩:=h
    refine⟨e,fun a m=>⟨(n a m).1,?_⟩,c.keep (.of fun a o m q=>b a o (m.elim id fun m=>(n a m).1) q) q⟩
    cases z:H a with
    |none=>exact absurd z (n a m).2
    |some o=>rw[b a o (n a m).1 z];exact iU _
theorem iN.av{S S':Addr->Prop}{H:Hp}{x:HD}{v:V}(h:iN S H x v)(b:∀a,S' a->S a):iN S' H x v:=by
 cases x with
 |d x=>exact aj.av b h
 |fz o ps=>obtain⟨a,e,n,q⟩:=h;exact⟨a,e,fun z=>n (b a z),q⟩
 |th c=>obtain⟨e,n,q⟩:=h;exact⟨e,fun a m=>⟨fun z=>(n a m).1 (b a z),(n a m).2⟩,c.av b q⟩
theorem iN.fresh{S:Addr->Prop}{H:Hp}{x:HD}{v:V}{p:Addr}(h:iN S H x v)(hp:H p=none):iN (fun a=>S a\/a=p) H x v:=by
 cases x with
 |d x=>exact aj.fresh hp h
 |fz o ps=>obtain⟨a,e,n,q⟩:=h;exact⟨a,e,fun z=>z.elim n (iZ q hp),q⟩
 |th c=>obtain⟨e,n,q⟩:=h;exact⟨e,fun a m=>⟨fun z=>z.elim (n a m).1 fun y=>(n a m).2 (by rw[y];exact hp),(n a m).2⟩,c.fresh hp q⟩
structure Gx where
 B:Bg
 H0:Hp
 A:Addr->Prop
 hold:List (Bool×HD×V):=[]
inductive Sl where
 |no|d (f:Bool) (d:PyData)|own (a:Addr) (f:Bool) (ds:List PyData)|ay|raw (v:V)|cY (a:Addr) (f:Bool) (ks:List (Int×PyData))|cu (c:Cu)
def Sl.adr:Sl->List Addr
 | .own a _ _=>[a]
 | .cY a _ _=>[a]
 | .cu c=>c.F
 |_=>[]
@[reducible] def ck(p:Int×PyData):PyData×PyData:=(.int p.1,p.2)
abbrev Rh:=List Sl
def Gx.S(G:Gx)(nb:Addr->Prop)(f:Bool):Addr->Prop:=fun a=>nb a\/G.A a\/¬NB G.B a\/(f=true/\G.H0 a≠none)
def oJ(G:Gx)(nb:Addr->Prop)(H:Hp)(x:Option V):Sl->Prop
 | .no=>True
 | .d f d=>∃v,x=some v/\aj (G.S nb f) H d v
 | .own a f ds=>x=some (.ref a)/\nb a/\NB G.B a/\∃xs,H a=some (.lst xs)/\ah (G.S nb f) H ds xs
 | .ay=>∃b l,G.B=some (b,l)/\x=some (.ref b)
 | .raw v=>x=some v
 | .cY a f ks=>x=some (.ref a)/\nb a/\NB G.B a/\∃ps,H a=some (.dK ps)/\aE (G.S nb f) H (ks.map ck) ps
 | .cu c=>x=some c.v/\(∀a∈c.F,nb a/\NB G.B a)/\c.P (G.S nb c.f) H
structure Wd(G:Gx)(nb:Addr->Prop)(ρ:Rh)(σ:St)(H:Hp):Prop where
 ay:jP G.B H
 live:kX nb H
 old:∀a o,NB G.B a->G.H0 a=some o->H a=some o
 eS:∀a,nb a->NB G.B a->G.H0 a=none
 gA:kX G.A G.H0
 len:σ.length=ρ.length
 gB:jP G.B G.H0
 gz:∀h∈G.hold,iN (G.S nb h.1) H h.2.1 h.2.2
 ok:∀(i:Nat) (s:Sl),ρ[i]?=some s->∃x,σ[i]?=some x/\oJ G nb H x s
 apart:∀(i j:Nat) a f as c g cs,i≠j->ρ[i]?=some (.own a f as)->ρ[j]?=some (.own c g cs)->a≠c
 fU:∀(i j:Nat) a f as c g cs,i≠j->ρ[i]?=some (.cY a f as)->ρ[j]?=some (.cY c g cs)->a≠c
 eg:∀(i j:Nat) c s,i≠j->ρ[i]?=some (.cu c)->ρ[j]?=some s->∀a∈c.F,a∉s.adr
def Step(B:Bg)(H H':Hp):Prop:=(∀a o,NB B a->H a=some o->H' a=some o)/\jP B H'
section
variable{G:Gx}{B:Bg}{nb:Addr->Prop}{ρ:Rh}{σ:St}{H H1 H2 H':Hp}{f g:Bool}{d:PyData}{ds:List PyData}{v:V}{xs:List V}{a p:Addr}
theorem Step.refl(h:jP B H):Step B H H:=⟨fun _ _ _ e=>e,h⟩
theorem Step.trans(x:Step B H H1)(y:Step B H1 H2):Step B H H2:=⟨fun a o n e=>y.1 a o n (x.1 a o n e),y.2⟩
theorem jP.same(h:jP B H)(s:dO H H'):jP B H':=fun b l e=>(h b l e).same s
theorem Step.same(h:jP B H)(s:dO H H'):Step B H H':=⟨fun a o _ e=>s a o e,h.same s⟩
theorem Step.but{cH:Addr->Prop}(s:Step B H H')(h:∀a,¬NB B a->cH a):aX cH H H':=fun a o n e=>s.1 a o (kg fun z=>n (h a z)) e
theorem Step.dS(s:Step G.B H H'):aX (G.S nb f) H H':=s.but fun a h=> .inr (.inr (.inl h))
theorem bJ(h:g=true->f=true){cH:Addr->Prop}(hn:∀a,nb a->cH a):∀a,G.S nb g a->G.S cH f a:=by
 intro a z
 rcases z with z|z|z|⟨z,q⟩
 ·exact .inl (hn a z)
 ·exact .inr (.inl z)
 ·exact .inr (.inr (.inl z))
 ·exact .inr (.inr (.inr ⟨h z,q⟩))
theorem NB.nR(h:jP B H)(n:¬NB B a):H a≠none:=by
 intro e
 apply n
 intro b l hb z
 subst z
 obtain⟨_,_,_,_,_,h1,_⟩:=h _ _ hb
 rw[h1] at e;cases e
theorem Wd.kF(W:Wd G nb ρ σ H):kX (G.S nb f) H:=by
 intro a z
 rcases z with z|z|z|⟨_,z⟩
 ·exact W.live a z
 ·by_cases n:NB G.B a
  ·cases e:G.H0 a with
   |none=>exact absurd e (W.gA a z)
   |some o=>rw[W.old a o n e];exact iU _
  ·exact NB.nR W.ay n
 ·exact NB.nR W.ay z
 ·by_cases n:NB G.B a
  ·cases e:G.H0 a with
   |none=>exact absurd e z
   |some o=>rw[W.old a o n e];exact iU _
  ·exact NB.nR W.ay n
theorem Wd.fresh(W:Wd G nb ρ σ H)(hp:H p=none):¬G.S nb f p:=fun z=>W.kF p z hp
theorem oJ.step{x:Option V}{s:Sl}(st:Step G.B H H')(h:oJ G nb H x s):oJ G nb H' x s:=by
  cases s with
  |no=>trivial
  |d f d=>obtain⟨v,e,h⟩:=h;exact⟨v,e,h.keep st.dS⟩
  |own a f ds=>obtain⟨e,n,q,xs,hx,hd⟩:=h;exact⟨e,n,q,xs,st.1 _ _ q hx,hd.keep st.dS⟩
  |ay=>exact h
  |raw v=>exact h
  |cY a f ks=>obtain⟨e,n,q,xs,hx,hd⟩:=h;exact⟨e,n,q,xs,st.1 _ _ q hx,hd.keep st.dS⟩
  | cu c =>
    obtain⟨e,n,p⟩:=h
    refine⟨e,n,c.keep (.of fun a o ha e=>st.1 a o ?_ e) p⟩
    rcases ha with ha|ha
    · exact kg fun z=>ha (.inr (.inr (.inl z)))
    · exact(n a ha).2
theorem NW(n:NB B a)(st:Step B H H')(h:H a≠none):H' a≠none:=by
 cases e:H a with
 |none=>exact absurd e h
 |some o=>rw[st.1 a o n e];exact iU _
theorem Wd.step(W:Wd G nb ρ σ H)(st:Step G.B H H'):Wd G nb ρ σ H' where
 ay:=st.2
 live:=fun a n=>by
  by_cases q:NB G.B a
  ·exact NW q st (W.live a n)
  ·exact NB.nR st.2 q
 old:=fun a o n e=>st.1 a o n (W.old a o n e)
 eS:=W.eS
 gA:=W.gA
 len:=W.len
 gB:=W.gB
 gz:=fun h m=>(W.gz h m).keep st.dS
 ok:=fun i s e=>by
  obtain⟨x,e1,h⟩:=W.ok i s e
  exact⟨x,e1,h.step st⟩
 apart:=W.apart
 fU:=W.fU
 eg:=W.eg
theorem Wd.set{i:Nat}{s:Sl}{x:Option V}(W:Wd G nb ρ σ H)(h:oJ G nb H x s)(hs:∀a f ds,s= .own a f ds->∀j c g cs,j≠i->ρ[j]?=some (.own c g cs)->a≠c)(hd:∀a f ds,s= .cY a f ds->∀j c g cs,j≠i->ρ[j]?=some (.cY c g cs)->a≠c:=by intro _ _ _ z;cases z)(hcu:∀a∈s.adr,∀j t,j≠i->ρ[j]?=some t->(∃c,s= .cu c)\/(∃c,t= .cu c)->a∉t.adr:=by intro _ z;cases z):Wd G nb (ρ.set i s) (σ.set i x) H where
 ay:=W.ay
 live:=W.live
 old:=W.old
 eS:=W.eS
 gA:=W.gA
 len:=by rw[gC,gC];exact W.len
 gB:=W.gB
 gz:=W.gz
 ok:=fun j t e=>by
  by_cases hij:i=j
  ·subst hij
   have hl:i<ρ.length:=by have:=(aR.mp e).1;rwa[gC] at this
   rw[cQ hl] at e
   cases e
   exact⟨x,cQ (by rw[W.len];exact hl),h⟩
  ·rw[bH hij] at e⊢
   exact W.ok j t e
 apart:=fun j k a f as c g cs hjk e1 e2=>by
  by_cases hj:i=j
  ·subst hj
   have hl:i<ρ.length:=by have:=(aR.mp e1).1;rwa[gC] at this
   rw[cQ hl] at e1
   cases e1
   rw[bH hjk] at e2
   exact hs a f as rfl k c g cs (bw hjk) e2
  ·by_cases hk:i=k
   ·subst hk
    have hl:i<ρ.length:=by have:=(aR.mp e2).1;rwa[gC] at this
    rw[cQ hl] at e2
    cases e2
    rw[bH hj] at e1
    exact(hs c g cs rfl j a f as hjk e1).symm
   ·rw[bH hj] at e1
    rw[bH hk] at e2
    exact W.apart j k a f as c g cs hjk e1 e2
 fU:=fun j k a f as c g cs hjk e1 e2=>by
  by_cases hj:i=j
  ·subst hj
   have hl:i<ρ.length:=by have:=(aR.mp e1).1;rwa[gC] at this
   rw[cQ hl] at e1
   cases e1
   rw[bH hjk] at e2
   exact hd a f as rfl k c g cs (bw hjk) e2
  ·by_cases hk:i=k
   ·subst hk
    have hl:i<ρ.length:=by have:=(aR.mp e2).1;rwa[gC] at this
    rw[cQ hl] at e2
    cases e2
    rw[bH hj] at e1
    exact(hd c g cs rfl j a f as hjk e1).symm
   ·rw[bH hj] at e1
    rw[bH hk] at e2
    exact W.fU j k a f as c g cs hjk e1 e2
 eg:=fun j k c t hjk e1 e2 a ha=>by
  by_cases hj:i=j
  ·subst hj
   have hl:i<ρ.length:=by have:=(aR.mp e1).1;rwa[gC] at this
   rw[cQ hl] at e1
   cases e1
   rw[bH hjk] at e2
   exact hcu a ha k t (bw hjk) e2 (.inl ⟨c,rfl⟩)
  ·by_cases hk:i=k
   ·subst hk
    have hl:i<ρ.length:=by have:=(aR.mp e2).1;rwa[gC] at this
    rw[cQ hl] at e2
    cases e2
    rw[bH hj] at e1
    exact fun z=>hcu a z j (.cu c) hjk e1 (.inr ⟨c,rfl⟩) ha
   ·rw[bH hj] at e1
    rw[bH hk] at e2
    exact W.eg j k c t hjk e1 e2 a ha
theorem Wd.lz{i:Nat}(W:Wd G nb ρ σ H)(h:aj (G.S nb f) H d v):Wd G nb (ρ.set i (.d f d)) (σ.set i (some v)) H:=W.set ⟨v,rfl,h⟩ fun _ _ _ e=>by cases e
inductive Wk:Rh->Rh->Prop
 |nil:Wk [] []
 |no {s:Sl} {r r':Rh} (h:Wk r r'):Wk (.no::r) (s::r')
 |eq {s:Sl} {r r':Rh} (h:Wk r r'):Wk (s::r) (s::r')
theorem Wk.at:∀{r r':Rh} {i:Nat} {s:Sl},Wk r r'->r[i]?=some s->s= .no/\(∃t,r'[i]?=some t)\/r'[i]?=some s
 |_,_,_,_, .nil,e=>by simp at e
 |_,_,0,_, .no h,e=>by simp at e;subst e;exact .inl ⟨rfl,_,rfl⟩
 |_,_,0,_, .eq h,e=>by simp at e;subst e;exact .inr rfl
 |_,_,i+1,_, .no h,e=>by simpa using Wk.at (i:=i) h (by simpa using e)
 |_,_,i+1,_, .eq h,e=>by simpa using Wk.at (i:=i) h (by simpa using e)
theorem Wk.len{r r':Rh}(h:Wk r r'):r.length=r'.length:=by
 induction h with
 |nil=>rfl
 |no _ ih=>simp[ih]
 |eq _ ih=>simp[ih]
theorem Wd.wk{ρ':Rh}(W:Wd G nb ρ' σ H)(h:Wk ρ ρ'):Wd G nb ρ σ H where
 ay:=W.ay
 live:=W.live
 old:=W.old
 eS:=W.eS
 gA:=W.gA
 len:=by rw[h.len];exact W.len
 gB:=W.gB
 gz:=W.gz
 ok:=fun i s e=>by
  rcases h.at e with ⟨rfl,t,e'⟩|e'
  ·obtain⟨x,e1,_⟩:=W.ok i t e';exact⟨x,e1,trivial⟩
  ·exact W.ok i s e'
 apart:=fun i j a f as c g cs hij e1 e2=>by
  rcases h.at e1 with ⟨z,_⟩|jo
  ·cases z
  rcases h.at e2 with ⟨z,_⟩|e2'
  ·cases z
  exact W.apart i j a f as c g cs hij jo e2'
 fU:=fun i j a f as c g cs hij e1 e2=>by
  rcases h.at e1 with ⟨z,_⟩|jo
  ·cases z
  rcases h.at e2 with ⟨z,_⟩|e2'
  ·cases z
  exact W.fU i j a f as c g cs hij jo e2'
 eg:=fun i j c s hij e1 e2 a ha=>by
  rcases h.at e1 with ⟨z,_⟩|jo
  ·cases z
  rcases h.at e2 with ⟨z,_⟩|e2'
  ·subst z;exact fun z=>by cases z
  exact W.eg i j c s hij jo e2' a ha
theorem Wd.more(W:Wd G nb ρ σ H)(hp:H p=none){o:HO}:Wd G (fun a=>nb a\/a=p) ρ σ (upd H p o):=by
 have hS:dO H (upd H p o):=dG hp
 have hN:NB G.B p:=fun b l e z=>by
  subst z
  obtain⟨_,_,_,_,_,h1,_⟩:=W.ay _ _ e
  rw[h1] at hp;cases hp
 have W':=W.step (Step.same W.ay hS)
 have hA:∀f a,G.S (fun a=>nb a\/a=p) f a->(G.S nb f a\/a=p):=fun f a z=>by
  rcases z with (z|z)|z|z|z
  ·exact .inl (.inl z)
  ·exact .inr z
  ·exact .inl (.inr (.inl z))
  ·exact .inl (.inr (.inr (.inl z)))
  ·exact .inl (.inr (.inr (.inr z)))
 refine⟨W'.ay,fun a n=>?_,W'.old,fun a n q=>?_,W.gA,W.len,W.gB,fun h m=>(((W.gz h m).fresh hp).av (hA h.1)).keep (aX.of hS),fun i s e=>?_,W.apart,W.fU,W.eg⟩
 ·rcases n with n|n
  ·exact W'.live a n
  ·subst n;rw[bf];exact iU _
 ·rcases n with n|n
  ·exact W.eS a n q
  ·subst n
   cases e:G.H0 a with
   |none=>rfl
   |some o=>rw[W.old a o q e] at hp;cases hp
 ·obtain⟨x,e1,h⟩:=W.ok i s e
  refine⟨x,e1,?_⟩
  cases s with
  |no=>trivial
  |d f d=>obtain⟨v,e,h⟩:=h;exact⟨v,e,((h.fresh hp).av (hA f)).keep (aX.of hS)⟩
  |own a f ds=>obtain⟨e,n,q,xs,hx,hd⟩:=h;exact⟨e, .inl n,q,xs,hS _ _ hx,((hd.fresh hp).av (hA f)).keep (aX.of hS)⟩
  |ay=>exact h
  |raw v=>exact h
  |cY a f ds=>obtain⟨e,n,q,xs,hx,hd⟩:=h;exact⟨e, .inl n,q,xs,hS _ _ hx,((hd.fresh hp).av (hA f)).keep (aX.of hS)⟩
  |cu c=>obtain⟨e,n,q⟩:=h;exact⟨e,fun a ha=>⟨.inl (n a ha).1,(n a ha).2⟩,c.keep (.of fun a o _ e=>hS a o e) (c.av (hA c.f) (c.fresh hp q))⟩
theorem Wd.write(W:Wd G nb ρ σ H){o:HO}(hp:nb p)(hN:NB G.B p)(ho:∀(i:Nat) a f ds,ρ[i]?=some (.own a f ds)->a≠p)(hod:∀(i:Nat) a f ds,ρ[i]?=some (.cY a f ds)->a≠p)(hoc:∀(i:Nat) c,ρ[i]?=some (.cu c)->p∉c.F):Wd G nb ρ σ (upd H p o):=by
  have hl:∀b l,G.B=some (b,l)->p≠l:=fun b l e z=>by
    obtain⟨_,_,_,_,_,_,h2,_⟩:=W.gB b l e
    rw[<-z,W.eS p hp hN] at h2;cases h2
  have hB:jP G.B (upd H p o):=fun b l e=>(W.ay b l e).put2 ⟨hN b l e,hl b l e⟩
  have bt:∀f,aX (G.S nb f) H (upd H p o):=fun f=>aX.set (.inl hp)
  refine⟨hB,fun a n=>?_,fun a o' n e=>?_,W.eS,W.gA,W.len,W.gB,fun h m=>(W.gz h m).keep (bt h.1),fun i s e=>?_,W.apart,W.fU,W.eg⟩
  · by_cases z:a=p
    · subst z;rw[bf];exact iU _
    · rw[aK z];exact W.live a n
  · have z:a≠p:=fun z=>by subst z;rw[W.eS a hp n] at e;cases e
    rw[aK z];exact W.old a o' n e
  · obtain⟨x,e1,h⟩:=W.ok i s e
    refine⟨x,e1,?_⟩
    cases s with
    |no=>trivial
    |d f d=>obtain⟨v,e,h⟩:=h;exact⟨v,e,h.keep (bt f)⟩
    |own a f ds=>obtain⟨e',n,q,xs,hx,hd⟩:=h;exact⟨e',n,q,xs,by rw[aK (ho i a f ds e)];exact hx,hd.keep (bt f)⟩
    |ay=>exact h
    |raw v=>exact h
    |cY a f ds=>obtain⟨e',n,q,xs,hx,hd⟩:=h;exact⟨e',n,q,xs,by rw[aK (hod i a f ds e)];exact hx,hd.keep (bt f)⟩
    | cu c =>
      obtain⟨e',n,q⟩:=h
      refine⟨e',n,c.keep (.of fun a o' ha e''=>?_) q⟩
      rw[aK]
      · exact e''
      · rintro rfl
        rcases ha with ha|ha
        · exact ha (.inl hp)
        · exact hoc i c e ha
end
end L2
set_option maxRecDepth 100000
set_option maxHeartbeats 1000000
namespace L2
open PySem PySem.Spec PyProof.Rows
abbrev Pd:=Bool->PyData->Prop
def Ev(G:Gx)(ρ:Rh)(te:TE)(Φ:Pd):Prop:=∀nb σ H (Q:VK),Wd G nb ρ σ H->(∀f v H' d,Φ f d->Step G.B H H'->aj (G.S nb f) H' d v->Q v H')->te σ H Q
def au(G:Gx)(ρ:Rh)(te:TE)(Φ:Bool->List PyData->Prop):Prop:=∀nb σ H (Q:VK),Wd G nb ρ σ H->
 (∀f a xs H' ds,Φ f ds->Step G.B H H'->H a=none->H' a=some (.lst xs)->ah (fun x=>G.S nb f x\/x=a) H' ds xs->Q (.ref a) H')->te σ H Q
def Tv(G:Gx)(ρ:Rh)(tt:TT)(Φ:Bool->Prop):Prop:=∀nb σ H (Q:Bool->Hp->Prop),Wd G nb ρ σ H->(∀b H',Φ b->Step G.B H H'->Q b H')->tt σ H Q
def Ov(G:Gx)(ρ:Rh)(to:TO)(Φ:Option Int->Prop):Prop:=∀nb σ H (Q:Option Int->Hp->Prop),Wd G nb ρ σ H->(∀o H',Φ o->Step G.B H H'->Q o H')->to σ H Q
abbrev Fd:=Bool×PyData
def kD(G:Gx)(nb:Addr->Prop)(H:Hp):List Fd->List V->Prop
 |[],vs=>vs=[]
 |e::es,vs=>∃v ws,vs=v::ws/\aj (G.S nb e.1) H e.2 v/\kD G nb H es ws
def Av(G:Gx)(ρ:Rh)(ta:TA)(Φ:List Fd->Prop):Prop:=∀nb σ H (Q:List V->Hp->Prop),Wd G nb ρ σ H->(∀es vs H',Φ es->Step G.B H H'->kD G nb H' es vs->Q vs H')->ta σ H Q
def Gv(G:Gx)(ρ:Rh)(g:TG)(f:Bool)(d:PyData)(Φ:Rh->Prop):Prop:=∀nb σ H v (Q:St->Hp->Prop),Wd G nb ρ σ H->aj (G.S nb f) H d v->(∀σ' ρ',Φ ρ'->Wd G nb ρ' σ' H->Q σ' H)->g v σ H Q
def mw(G:Gx)(ρ:Rh)(g:iK)(f:Bool)(ds:List PyData)(Φ:Rh->Prop):Prop:=∀nb σ H vs (Q:St->Hp->Prop),Wd G nb ρ σ H->ah (G.S nb f) H ds vs->(∀σ' ρ',Φ ρ'->Wd G nb ρ' σ' H->Q σ' H)->g vs σ H Q
structure DE where
 nx:Rh->Prop
 rt:Pd
 bk:Rh->Prop:=fun _=>False
 ct:Rh->Prop:=fun _=>False
 rw:(Addr->Prop)->Rh->V->Hp->Prop:=fun _ _ _ _=>False
structure CW(G:Gx)(E:DE)(D:Ends):Prop where
 nx:∀nb ρ σ H,E.nx ρ->Wd G nb ρ σ H->D.nx σ H
 bk:∀nb ρ σ H,E.bk ρ->Wd G nb ρ σ H->D.bk σ H
 ct:∀nb ρ σ H,E.ct ρ->Wd G nb ρ σ H->D.ct σ H
 rt:∀nb ρ σ f v H d,E.rt f d->Wd G nb ρ σ H->aj (G.S (fun _=>False) f) H d v->D.rt v H
 rw:∀nb ρ σ v H,E.rw nb ρ v H->Wd G nb ρ σ H->D.rt v H
def Sv(G:Gx)(ρ:Rh)(ts:TS)(E:DE):Prop:=∀nb σ H D,Wd G nb ρ σ H->CW G E D->ts D σ H
def jR:PyData->Bool
 | .none=>true| .bool _=>true| .int _=>true| .str _=>true|_=>false
def toV:PyData->V
 | .bool b=> .bl b| .int i=> .int i| .str x=> .str x|_=> .aL
section
variable{nb cH:Addr->Prop}{H H':Hp}{d e:PyData}{v:V}
theorem aj.sc(h:jR d=true):aj nb H d (toV d):=by
 cases d<;>first|(cases h;done)|(unfold aj;rfl)
theorem aj.L0(h:jR d=true)(q:aj nb H d v):v=toV d:=by
 cases d<;>first|(cases h;done)|(unfold aj at q;exact q)
theorem aj.nh(h:jR d=true)(q:aj nb H d v):aj cH H' d v:=by
 rw[q.L0 h];exact .sc h
theorem ah.nh:∀{ds:List PyData} {xs:List V},ds.all jR=true->ah nb H ds xs->ah cH H' ds xs
  |[],_,_,q=>by unfold ah at q⊢;exact q
  | d :: ds, _, h, q => by
    rw[mV,cN] at h
    unfold ah at q⊢
    obtain⟨y,ys,e,h1,h2⟩:=q
    exact⟨y,ys,e,h1.nh h.1,ah.nh h.2 h2⟩
end
section
variable{G:Gx}{ρ:Rh}{Φ Ψ:Pd}{ta tb te:TE}{t:TA}{i:Nat}{f g:Bool}{d e:PyData}{ds es:List PyData}{K:PySem.W.Frag}
theorem Ev.mono(h:Ev G ρ te Ψ)(q:∀f d,Ψ f d->Φ f d):Ev G ρ te Φ:=fun nb σ H Q W z=>h nb σ H Q W fun f v H' d p=>z f v H' d (q f d p)
theorem au.ev(h:au G ρ te fun f ds=>Φ f (.list ds)):Ev G ρ te Φ:=fun nb σ H Q W z=>h nb σ H Q W fun f a xs H' ds p st n e hd=>
 z f _ H' _ p st (.lst (W.fresh n) e (hd.av fun _ x=> .inl x))
namespace Ev
theorem var(e:ρ[i]?=some (.d f d))(h:Φ f d):Ev G ρ (cZ i) Φ:=fun nb σ H Q W z=>by
 obtain⟨x,e1,v,rfl,hd⟩:=W.ok i _ e
 exact⟨v,e1,z f v H d h (.refl W.ay) hd⟩
theorem int{n:Int}(h:Φ true (.int n)):Ev G ρ (tC (.int n)) Φ:=fun nb σ H Q W z=>z true _ H _ h (.refl W.ay) (.int n)
theorem bl{b:Bool}(h:Φ true (.bool b)):Ev G ρ (tC (.bl b)) Φ:=fun nb σ H Q W z=>z true _ H _ h (.refl W.ay) (.bl b)
theorem aL(h:Φ true .none):Ev G ρ (tC .aL) Φ:=fun nb σ H Q W z=>z true _ H _ h (.refl W.ay) .aL
theorem jK{r:R2}(h:Ev G ρ ta fun f x=>Ev G ρ tb fun g y=>∀nb σ H u v (Q:VK),Wd G nb ρ σ H->aj (G.S nb f) H x u->aj (G.S nb g) H y v->(∀f w H' d,Φ f d->Step G.B H H'->aj (G.S nb f) H' d w->Q w H')->r u v H Q):Ev G ρ (cU r ta tb) Φ:=fun nb σ H Q W z=>
 h nb σ H _ W fun f v1 H1 d1 p1 s1 q1=>p1 nb σ H1 _ (W.step s1) fun g v2 H2 d2 p2 s2 q2=>p2 nb σ H2 _ _ _ ((W.step s1).step s2) (q1.keep s2.dS) q2 fun f w H' d p st q=>z f w H' d p (s1.trans (s2.trans st)) q
theorem rI{C:Int->Int->Prop}{k:Int->Int->Int}(h:Ev G ρ ta fun _ x=>∃i,x= .int i/\Ev G ρ tb fun _ y=>∃j,y= .int j/\C i j/\Φ true (.int (k i j))):Ev G ρ (cU (L2.rI C fun i j=> .int (k i j)) ta tb) Φ:=
 jK (h.mono fun f x ⟨i,ex,q⟩=>q.mono fun g y ⟨j,ey,hc,p⟩ nb σ H u v Q W hu hv z=>by
  subst ex ey;exact⟨i,j,hu.bO,hv.bO,hc,z true _ H _ p (.refl W.ay) (.int _)⟩)
theorem iO{k:Int->Int->Int}(h:Ev G ρ ta fun _ x=>∃i,x= .int i/\Ev G ρ tb fun _ y=>∃j,y= .int j/\Φ true (.int (k i j))):Ev G ρ (cU (L2.iO fun i j=> .int (k i j)) ta tb) Φ:=
 jK (h.mono fun f x ⟨i,ex,q⟩=>q.mono fun g y ⟨j,ey,p⟩ nb σ H u v Q W hu hv z=>by
  subst ex ey;exact⟨i,j,hu.bO,hv.bO,z true _ H _ p (.refl W.ay) (.int _)⟩)
theorem Qz{k:Int->Int->Bool}(h:Ev G ρ ta fun _ x=>∃i,x= .int i/\Ev G ρ tb fun _ y=>∃j,y= .int j/\Φ true (.bool (k i j))):Ev G ρ (cU (L2.iO fun i j=> .bl (k i j)) ta tb) Φ:=
 jK (h.mono fun f x ⟨i,ex,q⟩=>q.mono fun g y ⟨j,ey,p⟩ nb σ H u v Q W hu hv z=>by
  subst ex ey;exact⟨i,j,hu.bO,hv.bO,z true _ H _ p (.refl W.ay) (.bl _)⟩)
theorem un{r:V->Hp->VK->Prop}(h:Ev G ρ ta fun f x=>∀nb σ H u (Q:VK),Wd G nb ρ σ H->aj (G.S nb f) H x u->(∀f w H' d,Φ f d->Step G.B H H'->aj (G.S nb f) H' d w->Q w H')->r u H Q):Ev G ρ (yR r ta) Φ:=fun nb σ H Q W z=>
 h nb σ H _ W fun f v1 H1 d1 p1 s1 q1=>p1 nb σ H1 _ _ (W.step s1) q1 fun f w H' d p st q=>z f w H' d p (s1.trans st) q
theorem rU{k:Int->Int}(h:Ev G ρ ta fun _ x=>∃i,x= .int i/\Φ true (.int (k i))):Ev G ρ (yR (L2.rU fun i=> .int (k i)) ta) Φ:=
 un (h.mono fun f x ⟨i,ex,p⟩ nb σ H u Q W hu z=>by subst ex;exact⟨i,hu.bO,z true _ H _ p (.refl W.ay) (.int _)⟩)
end Ev
inductive gZ:PyData->PyData->Bool->Prop
 |ii (i j:Int):gZ (.int i) (.int j) (decide (i=j))
 |ni (i:Int):gZ .none (.int i) false
 |XT (i:Int):gZ (.int i) .none false
 |nn:gZ .none .none true
 |bb (a b:Bool):gZ (.bool a) (.bool b) (a==b)
 |ss (x:Str):gZ (.str x) (.str x) true
 |sd (x y:Str):gZ (.str x) (.str y) (decide (x=y))
theorem gZ.v{nb cH:Addr->Prop}{H:Hp}{x y:PyData}{b:Bool}{u v:V}(h:gZ x y b)(hu:aj nb H x u)(hv:aj cH H y v):yJ u v=true/\decide (u=v)=b:=by
 cases h<;>(unfold aj at hu hv;subst hu hv;refine⟨rfl,?_⟩)
 ·exact R.BH
 ·rfl
 ·rfl
 ·rfl
 ·rename_i a b;cases a<;>cases b<;>rfl
 ·exact decide_eq_true rfl
 ·rename_i x y
  by_cases c:x=y
  ·subst c;rw[decide_eq_true rfl,decide_eq_true rfl]
  ·rw[decide_eq_false c,decide_eq_false (fun z=>c (V.str.inj z))]
theorem gZ.self{d:PyData}(h:jR d=true):gZ d d true:=by
 cases d<;>first|(cases h;done)|skip
 ·exact .nn
 ·rename_i b;have:=gZ.bb b b;rwa[beq_self_eq_true] at this
 ·rename_i i;have:=gZ.ii i i;rwa[decide_eq_true rfl] at this
 ·exact .ss _
namespace Ev
theorem eq(h:Ev G ρ ta fun _ x=>Ev G ρ tb fun _ y=>∃b,gZ x y b/\Φ true (.bool b)):Ev G ρ (cU BB ta tb) Φ:=
 jK (h.mono fun f x q=>q.mono fun g y ⟨b,e,p⟩ nb σ H u v Q W hu hv z=>by
  obtain⟨h1,h2⟩:=e.v hu hv
  exact⟨h1,by rw[h2];exact z true _ H _ p (.refl W.ay) (.bl _)⟩)
theorem ne(h:Ev G ρ ta fun _ x=>Ev G ρ tb fun _ y=>∃b,gZ x y b/\Φ true (.bool !b)):Ev G ρ (cU zk ta tb) Φ:=
 jK (h.mono fun f x q=>q.mono fun g y ⟨b,e,p⟩ nb σ H u v Q W hu hv z=>by
  obtain⟨h1,h2⟩:=e.v hu hv
  exact⟨h1,by rw[h2];exact z true _ H _ p (.refl W.ay) (.bl _)⟩)
theorem EL{ng:Bool}(h:Ev G ρ ta fun _ x=>Ev G ρ tb fun _ y=>SeqAt.shaped x=true/\SeqAt.shaped y=true/\Φ true (.bool (PyData.eqv x y !=ng))):Ev G ρ (cU (zp ng) ta tb) Φ:=
 jK (h.mono fun f x q=>q.mono fun g y ⟨h1,h2,p⟩ nb σ H u v Q W hu hv z=>
  ⟨G.S nb false,x,y,hu.av (bJ (fun z=>by cases z) fun _ z=>z),hv.av (bJ (fun z=>by cases z) fun _ z=>z),h1,h2,z true _ H _ p (.refl W.ay) (.bl _)⟩)
end Ev
def pH:PyData->Bool
 | .none=>true
 |_=>false
theorem D8{nb:Addr->Prop}{H:Hp}{d:PyData}{v:V}(h:aj nb H d v):decide (v= .aL)=pH d:=by
 cases d<;>unfold aj at h
 all_goals first
  |(subst h;rfl)
  |(obtain⟨a,xs,rfl,_⟩:=h;rfl)
  |exact h.elim
namespace Ev
theorem is(h:Ev G ρ ta fun _ x=>Φ true (.bool (pH x))):Ev G ρ (cU JZ ta (tC .aL)) Φ:=
 jK (h.mono fun f x p=>Ev.aL fun nb σ H u v Q W hu hv z=>⟨hv.Cq,by rw[D8 hu];exact z true _ H _ p (.refl W.ay) (.bl _)⟩)
theorem Ke(h:Ev G ρ ta fun _ x=>Φ true (.bool !pH x)):Ev G ρ (cU t8 ta (tC .aL)) Φ:=
 jK (h.mono fun f x p=>Ev.aL fun nb σ H u v Q W hu hv z=>⟨hv.Cq,by rw[D8 hu];exact z true _ H _ p (.refl W.ay) (.bl _)⟩)
end Ev
theorem ah.bF{nb:Addr->Prop}{H:Hp}{ds:List PyData}{xs:List V}{k:Int}{e:PyData}(h:ah nb H ds xs)(q:L2.bF ds k=some e):∃v,L2.bF xs k=some v/\aj nb H e v:=by
 unfold L2.bF at q⊢
 rw[h.length]
 cases z:eW ds.length k with
 |none=>rw[z] at q;cases q
 |some j=>rw[z] at q;exact h.get q
namespace Ev
theorem VS(h:Ev G ρ ta fun f x=>∃ds,x= .list ds/\Ev G ρ tb fun _ y=>∃k,y= .int k/\∃e,bF ds k=some e/\Φ f e):Ev G ρ (cU (cz K) ta tb) Φ:=
 jK (h.mono fun f x ⟨ds,ex,q⟩=>q.mono fun g y ⟨k,ey,e,he,p⟩ nb σ H u v Q W hu hv z=>by
  subst ex ey
  obtain⟨a,xs,rfl,n,hx,hd⟩:=hu.eO
  obtain⟨w,hw,hD⟩:=hd.bF he
  exact⟨a,xs,k,w,rfl,hv.bO, .of hx,hw,z f _ H _ p (.refl W.ay) hD⟩)
theorem L6(h:Ev G ρ ta fun f x=>∃ds,x= .tuple ds/\Ev G ρ tb fun _ y=>∃k,y= .int k/\∃e,bF ds k=some e/\Φ f e):Ev G ρ (cU (bN K) ta tb) Φ:=
 jK (h.mono fun f x ⟨ds,ex,q⟩=>q.mono fun g y ⟨k,ey,e,he,p⟩ nb σ H u v Q W hu hv z=>by
  subst ex ey
  obtain⟨a,xs,rfl,n,hx,hd⟩:=hu.ofT
  obtain⟨w,hw,hD⟩:=hd.bF he
  exact⟨a,xs,k,w,rfl,hv.bO, .of hx,hw,z f _ H _ p (.refl W.ay) hD⟩)
theorem UA(h:Ev G ρ ta fun _ x=>∃b,x= .bool b/\if b=true then Ev G ρ tb Φ else Φ true (.bool false)):Ev G ρ (Gu ta tb) Φ:=fun nb σ H Q W z=>
 h nb σ H _ W fun f v H1 d ⟨b,e,q⟩ s1 hv=>by
  subst e
  refine⟨b,by unfold aj at hv;exact hv,?_⟩
  cases b with
  |true=>rw[if_pos rfl] at q⊢;exact q nb σ H1 _ (W.step s1) fun f v H' d p st=>z f v H' d p (s1.trans st)
  |false=>rw[if_neg cC] at q⊢;exact z true _ H1 _ q s1 (.bl false)
theorem MP{c:TT}(h:Tv G ρ c fun b=>if b=true then Ev G ρ ta Φ else Ev G ρ tb Φ):Ev G ρ (IM c ta tb) Φ:=fun nb σ H Q W z=>
 h nb σ H _ W fun b H1 q s1=>by
  cases b with
  |true=>rw[if_pos rfl] at q⊢;exact q nb σ H1 _ (W.step s1) fun f v H' d p st=>z f v H' d p (s1.trans st)
  |false=>rw[if_neg cC] at q⊢;exact q nb σ H1 _ (W.step s1) fun f v H' d p st=>z f v H' d p (s1.trans st)
end Ev
namespace Tv
variable{Θ:Bool->Prop}{t u:TT}
theorem test(h:Ev G ρ te fun _ x=>∃b,x= .bool b/\Θ b):Tv G ρ (BL te) Θ:=fun nb σ H Q W z=>
 h nb σ H _ W fun f v H1 d ⟨b,e,q⟩ s1 hv=>by subst e;exact⟨b,by unfold aj at hv;exact hv,z b H1 q s1⟩
theorem and(h:Tv G ρ t fun b=>if b=true then Tv G ρ u Θ else Θ false):Tv G ρ (Dj t u) Θ:=fun nb σ H Q W z=>
 h nb σ H _ W fun b H1 q s1=>by
  cases b with
  |true=>rw[if_pos rfl] at q⊢;exact q nb σ H1 _ (W.step s1) fun b H' p st=>z b H' p (s1.trans st)
  |false=>rw[if_neg cC] at q⊢;exact z false H1 q s1
theorem or(h:Tv G ρ t fun b=>if b=true then Θ true else Tv G ρ u Θ):Tv G ρ (HJ t u) Θ:=fun nb σ H Q W z=>
 h nb σ H _ W fun b H1 q s1=>by
  cases b with
  |false=>rw[if_neg cC] at q⊢;exact q nb σ H1 _ (W.step s1) fun b H' p st=>z b H' p (s1.trans st)
  |true=>rw[if_pos rfl] at q⊢;exact z true H1 q s1
theorem not(h:Tv G ρ t fun b=>Θ (!b)):Tv G ρ (Fq t) Θ:=fun nb σ H Q W z=>h nb σ H _ W fun b H1 q s1=>z _ H1 q s1
theorem rz(h:Θ true):Tv G ρ nD Θ:=fun nb σ H Q W z=>z true H h (.refl W.ay)
end Tv
def FZ(K:PySem.W.Frag)(ta:TE):TT:=fun σ H Q=>ta σ H fun x H1=>∃k,Ce K x H1 k/\Q k H1
theorem Tv.Nv{Θ:Bool->Prop}(h:Ev G ρ te fun _ x=>∃b,x= .bool b/\Θ b):Tv G ρ (FZ K te) Θ:=fun nb σ H Q W z=>
 h nb σ H _ W fun f v H1 d ⟨b,e,q⟩ s1 hv=>by subst e;exact⟨b,by unfold aj at hv;subst hv;rfl,z b H1 q s1⟩
namespace Av
variable{Θ:List Fd->Prop}
theorem nil(h:Θ []):Av G ρ bM Θ:=fun nb σ H Q W z=>z [] [] H h (.refl W.ay) rfl
theorem cons(h:Ev G ρ te fun f d=>Av G ρ t fun es=>Θ ((f,d)::es)):Av G ρ (br te t) Θ:=fun nb σ H Q W z=>
 h nb σ H _ W fun f v H1 d p1 s1 q1=>p1 nb σ H1 _ (W.step s1) fun es vs H2 p2 s2 q2=>z _ _ H2 p2 (s1.trans s2) ⟨v,vs,rfl,q1.keep s2.dS,q2⟩
theorem VP{is:List Int}(h:Θ (is.map fun i=>(true, .int i))):Av G ρ (qx is) Θ:=fun nb σ H Q W z=>z _ _ H h (.refl W.ay) (by
 clear h
 induction is with
 |nil=>rfl
 |cons i r ih=>exact⟨_,_,rfl, .int i,ih⟩)
end Av
def iX(es:List Fd):Bool:=es.all (·.1)
theorem kD.all{nb:Addr->Prop}{H:Hp}:∀{es:List Fd} {vs:List V} {f:Bool},kD G nb H es vs->(f=true->iX es=true)->ah (G.S nb f) H (es.map (·.2)) vs
  |[],_,_,h,_=>by unfold kD at h;subst h;exact .nil
  | e :: es, _, f, h, hf => by
    obtain⟨v,ws,rfl,h1,h2⟩:=h
    refine .cons (h1.av (bJ (fun z=>?_) fun _ z=>z)) (h2.all fun z=>?_)
    · have:=hf z;simp only[iX,mV,cN] at this;exact this.1
    · have:=hf z;simp only[iX,mV,cN] at this;exact this.2
theorem kD.len{nb:Addr->Prop}{H:Hp}{es:List Fd}{vs:List V}(h:kD G nb H es vs):vs.length=es.length:=by
 have:=(h.all (f:=false) (fun z=>by cases z)).length
 simpa using this
theorem au.lst{Φ:Bool->List PyData->Prop}(h:Av G ρ t fun es=>es.length<=10000/\Φ (iX es) (es.map (·.2))):au G ρ (nJ t) Φ:=fun nb σ H Q W z=>
  h nb σ H _ W fun es vs H1 ⟨hl,p⟩ s1 q1=>⟨eK (by rw[q1.len];exact hl) (by decide),fun a ha=>by
    have W1:=W.step s1
    refine z _ a vs _ _ p (s1.trans (.same W1.ay (dG ha))) ?_ bf (((q1.all fun z=>z).fresh ha).keep (aX.of (dG ha)))
    cases e:H a with
    |none=>rfl
    | some o =>
      by_cases n:NB G.B a
      · rw[s1.1 a o n e] at ha;cases ha
      · exact absurd ha (NB.nR s1.2 n)⟩
theorem Ev.lst(h:Av G ρ t fun es=>es.length<=10000/\Φ (iX es) (.list (es.map (·.2)))):Ev G ρ (nJ t) Φ:=(au.lst (Φ:=fun f ds=>Φ f (.list ds)) h).ev
end
end L2
set_option maxRecDepth 100000
set_option maxHeartbeats 1000000
namespace L2
open PySem PySem.Spec PyProof.Rows
def e7(K:PySem.W.Frag):List V->Hp->VK->Prop:=fun xs H Q=>∃p ys,xs=[.ref p]/\(aV K H p ys\/gh K H p ys)/\Q (.int ys.length) H
theorem gx{X:Cx}:fk X (.builtin "len") (e7 X.K):=DS
def Jk:List V->Hp->VK->Prop:=fun xs H Q=>∃i j,xs=[.int i, .int j]/\Q (.int (if j<i then j else i)) H
def G8:List V->Hp->VK->Prop:=fun xs H Q=>(∃i,xs=[.int i]/\Q (.int i) H)\/∃k,xs=[.bl k]/\Q (.int (if k then 1 else 0)) H
theorem RA{X:Cx}(hc:X.calm=true):fk X (.builtin "min") Jk:=S9 hc
theorem Qf{X:Cx}:fk X (.type "int") G8:=Oc
def eE{α:Type}(xs:List α)(lo hi:Option Int):List α:=(xs.drop (HT.eB xs.length 0 lo)).take (HT.eB xs.length xs.length hi-HT.eB xs.length 0 lo)
theorem ah.cut{nb:Addr->Prop}{H:Hp}{ds:List PyData}{xs:List V}{lo hi:Option Int}(h:ah nb H ds xs):ah nb H (eE ds lo hi) (lY xs lo hi):=by
 unfold eE lY
 rw[h.length]
 exact(h.drop _).take _
def gH(ds:List PyData):Bool:=ds.all jR
section
variable{G:Gx}{ρ:Rh}{Φ Ψ:Pd}{ta tb te:TE}{t:TA}{i:Nat}{f g:Bool}{d e:PyData}{ds es:List PyData}{K:PySem.W.Frag}
theorem Wd.none_of{nb:Addr->Prop}{σ:St}{H H1:Hp}{a:Addr}(W:Wd G nb ρ σ H)(s1:Step G.B H H1)(ha:H1 a=none):H a=none:=by
  cases e:H a with
  |none=>rfl
  | some o =>
    by_cases n:NB G.B a
    · rw[s1.1 a o n e] at ha;cases ha
    · exact absurd ha (NB.nR s1.2 n)
theorem au.fin{nb:Addr->Prop}{σ:St}{H H1:Hp}{Q:VK}{Φ:Bool->List PyData->Prop}{a:Addr}{xs:List V}(W:Wd G nb ρ σ H)(s1:Step G.B H H1)(ha:H1 a=none)(hd:ah (G.S nb f) H1 ds xs)(p:Φ (f||gH ds) ds)
  (z:∀f a xs H' ds,Φ f ds->Step G.B H H'->H a=none->H' a=some (.lst xs)->ah (fun x=>G.S nb f x\/x=a) H' ds xs->Q (.ref a) H'):Q (.ref a) (upd H1 a (.lst xs)):=by
 refine z _ a xs _ ds p (s1.trans (.same s1.2 (dG ha))) (W.none_of s1 ha) bf ?_
 cases hs:gH ds with
 |true=>exact ah.nh hs hd
 |false=>rw[oO];exact(hd.fresh ha).keep (aX.of (dG ha))
namespace Ov
variable{Θ:Option Int->Prop}
theorem none(h:Θ none):Ov G ρ Cc Θ:=fun nb σ H Q W z=>z _ H h (.refl W.ay)
theorem some(h:Ev G ρ te fun _ x=>∃k,x= .int k/\Θ (some k)):Ov G ρ (AI te) Θ:=fun nb σ H Q W z=>
 h nb σ H _ W fun f v H1 d ⟨k,e,q⟩ s1 hv=>by subst e;exact⟨k,hv.bO,z _ H1 q s1⟩
end Ov
namespace au
variable{Θ:Bool->List PyData->Prop}
theorem sl{tl th:TO}(h:Ev G ρ te fun f x=>∃ds,x= .list ds/\Ov G ρ tl fun lo=>Ov G ρ th fun hi=>Θ (f||gH (eE ds lo hi)) (eE ds lo hi)):au G ρ (rY (gJ K) te tl th) Θ:=fun nb σ H Q W z=>
 h nb σ H _ W fun f v H1 d ⟨ds,e,q⟩ s1 hv=>q nb σ H1 _ (W.step s1) fun lo H2 q2 s2=>q2 nb σ H2 _ ((W.step s1).step s2) fun hi H3 q3 s3=>by
  subst e
  obtain⟨a,xs,rfl,n,hx,hd⟩:=((hv.keep s2.dS).keep s3.dS).eO
  exact⟨a,xs,rfl, .of hx,fun p hp=>au.fin W (s1.trans (s2.trans s3)) hp hd.cut q3 z⟩
theorem listOf(h:Ev G ρ te fun f x=>∃ds,(x= .list ds\/x= .tuple ds)/\Θ (f||gH ds) ds):au G ρ (fJ (lK K) (br te bM)) Θ:=fun nb σ H Q W z=>
 h nb σ H _ W fun f v H1 d ⟨ds,e,q⟩ s1 hv=>by
  rcases e with e|e
  ·subst e
   obtain⟨a,xs,rfl,n,hx,hd⟩:=hv.eO
   exact⟨a,xs,rfl, .inl (.of hx),fun p hp=>au.fin W s1 hp hd q z⟩
  ·subst e
   obtain⟨a,xs,rfl,n,hx,hd⟩:=hv.ofT
   exact⟨a,xs,rfl, .inr (.of hx),fun p hp=>au.fin W s1 hp hd q z⟩
theorem cat(h:Ev G ρ ta fun f x=>∃ds,x= .list ds/\Ev G ρ tb fun g y=>∃es,y= .list es/\ds.length+es.length<=10000/\Θ ((f && g)||gH (ds++es)) (ds++es)):au G ρ (cU Al ta tb) Θ:=fun nb σ H Q W z=>
 h nb σ H _ W fun f v H1 d ⟨ds,e,q⟩ s1 hv=>q nb σ H1 _ (W.step s1) fun g u H2 d2 ⟨es,e2,hl,p⟩ s2 hu=>by
  subst e e2
  obtain⟨a,xs,rfl,n,hx,hd⟩:=(hv.keep s2.dS).eO
  obtain⟨c,ys,rfl,m,hy,hc⟩:=hu.eO
  refine⟨a,c,xs,ys,rfl,rfl,hx,hy,eK (by rw[hd.length,hc.length];exact hl) (by decide),fun p' hp=>au.fin (f:=f && g) W (s1.trans s2) hp ?_ p z⟩
  exact ah.append (hd.av (bJ (fun z=>(cN _ _▸z).1) fun _ z=>z)) (hc.av (bJ (fun z=>(cN _ _▸z).2) fun _ z=>z))
end au
namespace Ev
theorem sl{tl th:TO}(h:Ev G ρ te fun f x=>∃ds,x= .list ds/\Ov G ρ tl fun lo=>Ov G ρ th fun hi=>Φ (f||gH (eE ds lo hi)) (.list (eE ds lo hi))):Ev G ρ (rY (gJ K) te tl th) Φ:=(au.sl (Θ:=fun f ds=>Φ f (.list ds)) h).ev
theorem listOf(h:Ev G ρ te fun f x=>∃ds,(x= .list ds\/x= .tuple ds)/\Φ (f||gH ds) (.list ds)):Ev G ρ (fJ (lK K) (br te bM)) Φ:=(au.listOf (Θ:=fun f ds=>Φ f (.list ds)) h).ev
theorem cat(h:Ev G ρ ta fun f x=>∃ds,x= .list ds/\Ev G ρ tb fun g y=>∃es,y= .list es/\ds.length+es.length<=10000/\Φ ((f && g)||gH (ds++es)) (.list (ds++es))):Ev G ρ (cU Al ta tb) Φ:=(au.cat (Θ:=fun f ds=>Φ f (.list ds)) h).ev
theorem ME{a:Addr}(e:ρ[i]?=some (.own a f ds))(h:Φ true (.int ds.length)):Ev G ρ (fJ (e7 K) (br (cZ i) bM)) Φ:=fun nb σ H Q W z=>by
 obtain⟨x,e1,h1,h2,h3,xs,hx,hd⟩:=W.ok i _ e
 subst h1
 exact⟨.ref a,e1,a,xs,rfl, .inl (.of hx),by rw[hd.length];exact z true _ H _ h (.refl W.ay) (.int _)⟩
theorem min2(h:Ev G ρ ta fun _ x=>∃i,x= .int i/\Ev G ρ tb fun _ y=>∃j,y= .int j/\Φ true (.int (if j<i then j else i))):Ev G ρ (fJ Jk (br ta (br tb bM))) Φ:=fun nb σ H Q W z=>
 h nb σ H _ W fun f v H1 d ⟨i,e,q⟩ s1 hv=>q nb σ H1 _ (W.step s1) fun g u H2 d2 ⟨j,e2,p⟩ s2 hu=>by
  subst e e2
  exact⟨i,j,by rw[hv.bO,hu.bO],z true _ H2 _ p (s1.trans s2) (.int _)⟩
theorem QS(h:Ev G ρ ta fun _ x=>∃b,x= .bool b/\Φ true (.int (if b then 1 else 0))):Ev G ρ (fJ G8 (br ta bM)) Φ:=fun nb σ H Q W z=>
 h nb σ H _ W fun f v H1 d ⟨b,e,q⟩ s1 hv=>by subst e;unfold aj at hv;subst hv;exact .inr ⟨b,rfl,z true _ H1 _ q s1 (.int _)⟩
end Ev
abbrev DF:=List PyData->Pd->Prop
def bC(n:Nat)(F:DF):Sp:=fun vs H Q _=>vs.length=n/\∃(nb:Addr->Prop) (ds:List PyData),kX nb H/\ah nb H ds vs/\F ds fun f d=>∀v H',dO H H'->aj (fun a=>nb a\/(f=true/\H a≠none)) H' d v->Q v H'
def cI(n:Nat)(F:DF):Sp:=fun vs H Q _=>vs.length=n/\∃(b l:Addr) (ws:List V) (nb:Addr->Prop) (ds:List PyData),vs= .ref b::ws/\cV H b l/\kX nb H/\nb b/\ah nb H ds ws/\
 F ds fun f d=>∀v H',aX (Nb b) H H'->cV H' b l->aj (fun a=>nb a\/(f=true/\H a≠none)) H' d v->Q v H'
def cG(F:DF):Prop:=∀ds (Φ Ψ:Pd),F ds Φ->(∀f d,Φ f d->Ψ f d)->F ds Ψ
theorem Ev.c8{n:Nat}{F:DF}(hm:cG F)(h:Av G ρ t fun es=>es.length=n/\F (es.map (·.2)) fun f d=>Φ (f||iX es) d):Ev G ρ (iS (bC n F) [] E0 t) Φ:=fun nb σ H Q W z=>
 h nb σ H _ W fun es vs H1 ⟨hl,p⟩ s1 q1=>by
  have W1:=W.step s1
  rw[iG]
  refine⟨by rw[q1.len,hl],G.S nb (iX es),es.map (·.2),W1.kF,q1.all fun z=>z,hm _ _ _ p fun f d hp v H' sm hd=>z _ v H' d hp (s1.trans (.same W1.ay sm)) (hd.av fun a q=>?_)⟩
  cases f with
  |false=>rw[rK] at q;exact .inl q
  |true=>exact .inr ⟨rfl,W1.kF a q⟩
theorem Step.tV{b l:Addr}{H H':Hp}(hB:G.B=some (b,l))(bt:aX (Nb b) H H')(B':cV H' b l):Step G.B H H':=
 ⟨fun a o n e=>bt a o (n b l hB) e,fun b' l' e=>by rw[hB] at e;cases e;exact B'⟩
theorem Wd.vh{nb:Addr->Prop}{σ:St}{H:Hp}(W:Wd G nb ρ σ H)(e:ρ[i]?=some .ay):∃b l,G.B=some (b,l)/\σ[i]?=some (some (.ref b))/\cV H b l:=by
 obtain⟨x,e1,b,l,hB,rfl⟩:=W.ok i _ e
 exact⟨b,l,hB,e1,W.ay b l hB⟩
theorem Ev.fZ{n:Nat}{F:DF}(hm:cG F)(e:ρ[i]?=some .ay)(h:Av G ρ t fun es=>es.length+1=n/\F (es.map (·.2)) fun f d=>Φ (f||iX es) d):Ev G ρ (iS (cI n F) [] E0 (br (cZ i) t)) Φ:=fun nb σ H Q W z=>by
 obtain⟨b,l,hB,e1,B⟩:=W.vh e
 refine⟨.ref b,e1,h nb σ H _ W fun es vs H1 ⟨hl,p⟩ s1 q1=>?_⟩
 have W1:=W.step s1
 show cI n F ((V.ref b::vs)++[]) H1 Q E0
 rw[iG]
 have hb:∀f,G.S nb f b:=fun f=> .inr (.inr (.inl fun n=>n b l hB rfl))
 refine⟨by rw[oh,q1.len,hl],b,l,vs,G.S nb (iX es),es.map (·.2),rfl,W1.ay b l hB,W1.kF,hb _,q1.all fun z=>z,hm _ _ _ p fun f d hp v H' bt B' hd=>z _ v H' d hp (s1.trans (.tV hB bt B')) (hd.av fun a q=>?_)⟩
 cases f with
 |false=>rw[rK] at q;exact .inl q
 |true=>exact .inr ⟨rfl,W1.kF a q⟩
theorem Ev.draw(e:ρ[i]?=some .ay)(h:Ev G ρ te fun _ x=>∃m:Int,x= .int m/\0<m/\Sm m/\∀r:Int,0<=r->r<m->Φ true (.int r)):Ev G ρ (iS ig [] E0 (br (cZ i) (br te bM))) Φ:=fun nb σ H Q W z=>by
 obtain⟨b,l,hB,e1,B⟩:=W.vh e
 refine⟨.ref b,e1,h nb σ H _ W fun f v H1 d ⟨m,ed,h1,h2,p⟩ s1 hv=>?_⟩
 subst ed
 exact⟨b,l,m,by rw[hv.bO];rfl,s1.2 b l hB,h1,h2,fun r H' r1 r2 bt B'=>z true _ H' _ (p r r1 r2) (s1.trans (.tV hB bt B')) (.int r)⟩
theorem Ev.prime(e:ρ[i]?=some .ay)(h:∀p:Int,IA p->Φ true (.int p)):Ev G ρ (iS Xn [] E0 (br (cZ i) bM)) Φ:=fun nb σ H Q W z=>by
 obtain⟨b,l,hB,e1,B⟩:=W.vh e
 exact⟨.ref b,e1,b,l,rfl,B,fun p H' hp bt B'=>z true _ H' _ (h p hp) (.tV hB bt B') (.int p)⟩
theorem Ev.total(h:Av G ρ t fun es=>∃(p:Int) (prs:List (Int×Int)) (wd:List (Option Int)),es.map (·.2)=[.int p, .list (prs.map pairD), .list (wd.map gF)]/\0<p/\(∀pr∈prs,0<=pr.1/\pr.1<wd.length/\Sm pr.2)/\(∀x,some x∈wd->Sm x)/\Φ true (.int (aU prs wd%p))):
  Ev G ρ (iS CM [] E0 t) Φ:=fun nb σ H Q W z=>
 h nb σ H _ W fun es vs H1 ⟨p,prs,wd,e,h1,h2,h3,q⟩ s1 q1=>by
  have hd:=q1.all (f:=false) (fun z=>by cases z)
  rw[e] at hd
  unfold ah at hd
  obtain⟨y,ys,rfl,d1,hd⟩:=hd
  unfold ah at hd
  obtain⟨y2,ys,rfl,d2,hd⟩:=hd
  unfold ah at hd
  obtain⟨y3,ys,rfl,d3,hd⟩:=hd
  unfold ah at hd
  subst hd
  exact⟨G.S nb false,p,y2,y3,prs,wd,by rw[d1.bO];rfl,d2,d3,h1,h2,h3,z true _ H1 _ q s1 (.int _)⟩
theorem Ev.whole(h:Ev G ρ te fun _ x=>∃n,x= .int n/\Φ true (.bool true)):Ev G ρ (iS Tf [] E0 (br te bM)) Φ:=fun nb σ H Q W z=>
 h nb σ H _ W fun f v H1 d ⟨n,e,q⟩ s1 hv=>by subst e;exact⟨n,by rw[hv.bO];rfl,z true _ H1 _ q s1 (.bl _)⟩
namespace Gv
variable{Θ:Rh->Prop}
theorem name(h:Θ (ρ.set i (.d f d))):Gv G ρ (eN i) f d Θ:=fun nb σ H v Q W hv z=>z _ _ h (W.lz hv)
theorem Tz(h:Θ (ρ.set i (.d true d))):Gv G ρ (eN i) true d Θ:=name h
theorem pP(h:Θ (ρ.set i (.d false d))):Gv G ρ (eN i) f d Θ:=fun nb σ H v Q W hv z=>z _ _ h (W.lz (hv.av (bJ (fun z=>by cases z) fun _ z=>z)))
theorem CN(hs:jR d=true)(h:Θ (ρ.set i (.d true d))):Gv G ρ (eN i) f d Θ:=fun nb σ H v Q W hv z=>z _ _ h (W.lz (hv.nh hs))
theorem fK{n:Int}(h:Θ (ρ.set i (.d true (.int n)))):Gv G ρ (eN i) f (.int n) Θ:=CN rfl h
theorem UK{n:Bool}(h:Θ (ρ.set i (.d true (.bool n)))):Gv G ρ (eN i) f (.bool n) Θ:=CN rfl h
theorem KD(h:Θ (ρ.set i (.d true .none))):Gv G ρ (eN i) f .none Θ:=CN rfl h
theorem tup{n:Nat}{u:iK}(hl:ds.length=n)(h:mw G ρ u f ds Θ):Gv G ρ (sZ K n u) f (.tuple ds) Θ:=fun nb σ H v Q W hv z=>by
 obtain⟨a,xs,rfl,m,hx,hd⟩:=hv.ofT
 exact⟨a,xs,rfl, .of hx,by rw[hd.length];exact hl,h nb σ H xs Q W hd z⟩
theorem NG(h:Θ ρ):mw G ρ zh f [] Θ:=fun nb σ H vs Q W hv z=>by unfold ah at hv;exact⟨hv,z _ _ h W⟩
theorem Xi{u:TG}{us:iK}(h:Gv G ρ u f d fun gD=>mw G gD us f ds Θ):mw G ρ (xg u us) f (d::ds) Θ:=fun nb σ H vs Q W hv z=>by
 unfold ah at hv
 obtain⟨y,ys,rfl,h1,h2⟩:=hv
 exact⟨y,ys,rfl,h nb σ H y _ W h1 fun σ' ρ' q W'=>q nb σ' H ys Q W' h2 z⟩
end Gv
namespace Sv
variable{E:DE}{s u:TS}
theorem seq(h:Sv G ρ s {E with nx:=fun gD=>Sv G gD u E}):Sv G ρ (jA s u) E:=fun nb σ H D W K=>h nb σ H _ W ⟨fun cH ρ' σ' H' q W'=>q cH σ' H' D W' K,K.bk,K.ct,K.rt,K.rw⟩
theorem next(h:E.nx ρ):Sv G ρ rD E:=fun nb σ H D W K=>K.nx nb ρ σ H h W
theorem cont(h:E.ct ρ):Sv G ρ Pg E:=fun nb σ H D W K=>K.ct nb ρ σ H h W
theorem asg{g:TG}(h:Ev G ρ te fun f d=>Gv G ρ g f d E.nx):Sv G ρ (gv te g) E:=fun nb σ H D W K=>h nb σ H _ W fun f v H1 d q s1 hv=>q nb σ H1 v _ (W.step s1) hv fun σ' ρ' p W'=>K.nx nb ρ' σ' H1 p W'
theorem QA(h:Ev G ρ te fun _ d=>E.nx (ρ.set i (.d false d))):Sv G ρ (wC i te) E:=fun nb σ H D W K=>h nb σ H _ W fun f v H1 d q s1 hv=>K.nx nb _ _ H1 q ((W.step s1).lz (hv.av (bJ (fun z=>by cases z) fun _ z=>z)))
theorem ret(h:Ev G ρ te E.rt):Sv G ρ (xw te) E:=fun nb σ H D W K=>h nb σ H _ W fun f v H1 d q s1 hv=>K.rt nb ρ σ f v H1 d q (W.step s1) (hv.av (bJ (fun z=>z) fun _ z=>z.elim))
theorem ow{c:TT}(h:Tv G ρ c fun b=>if b=true then Sv G ρ s E else Sv G ρ u E):Sv G ρ (o6 c s u) E:=fun nb σ H D W K=>h nb σ H _ W fun b H1 q s1=>by
 cases b with
 |true=>rw[if_pos rfl] at q⊢;exact q nb σ H1 D (W.step s1) K
 |false=>rw[if_neg cC] at q⊢;exact q nb σ H1 D (W.step s1) K
theorem LR{nb:Addr->Prop}{σ:St}{H H1:Hp}{a:Addr}{xs:List V}(W:Wd G nb ρ σ H)(s1:Step G.B H H1)(ha:H a=none)(e:H1 a=some (.lst xs))(hd:ah (fun x=>G.S nb f x\/x=a) H1 ds xs):
    Wd G (fun x=>nb x\/x=a) (ρ.set i (.own a f ds)) (σ.set i (some (.ref a))) H1:=by
  have hN:NB G.B a:=fun b l e z=>by
    subst z
    obtain⟨_,_,_,_,_,h1,_⟩:=W.ay _ _ e
    rw[h1] at ha;cases ha
  have hA:∀f x,G.S (fun x=>nb x\/x=a) f x->(G.S nb f x\/x=a):=fun f x z=>by
    rcases z with (z|z)|z|z|z
    · exact .inl (.inl z)
    · exact .inr z
    · exact .inl (.inr (.inl z))
    · exact .inl (.inr (.inr (.inl z)))
    · exact .inl (.inr (.inr (.inr z)))
  have W1:=W.step s1
  have W2:Wd G (fun x=>nb x\/x=a) ρ σ H1:=by
    refine⟨W1.ay,fun x n=>?_,W1.old,fun x n q=>?_,W.gA,W.len,W.gB,fun h m=>(((W.gz h m).fresh ha).keep (s1.but fun x z=> .inl (.inr (.inr (.inl z))))).av (hA h.1),fun j s e'=>?_,W.apart,W.fU,W.eg⟩
    · rcases n with n|n
      · exact W1.live x n
      · subst n;rw[e];exact iU _
    · rcases n with n|n
      · exact W.eS x n q
      · subst n
        cases z:G.H0 x with
        |none=>rfl
        |some o=>rw[W.old x o q z] at ha;cases ha
    · obtain⟨x,e1,h⟩:=W.ok j s e'
      refine⟨x,e1,?_⟩
      cases s with
      |no=>trivial
      |d f d=>obtain⟨v,e,h⟩:=h;exact⟨v,e,((h.fresh ha).keep (s1.but fun x z=> .inl (.inr (.inr (.inl z))))).av (hA f)⟩
      |own c f es=>obtain⟨e,n,q,xs,hx,hd⟩:=h;exact⟨e, .inl n,q,xs,s1.1 _ _ q hx,((hd.fresh ha).keep (s1.but fun x z=> .inl (.inr (.inr (.inl z))))).av (hA f)⟩
      |ay=>exact h
      |raw v=>exact h
      |cY c f es=>obtain⟨e,n,q,xs,hx,hd⟩:=h;exact⟨e, .inl n,q,xs,s1.1 _ _ q hx,((hd.fresh ha).keep (s1.but fun x z=> .inl (.inr (.inr (.inl z))))).av (hA f)⟩
      | cu c =>
        obtain⟨e,n,q⟩:=h
        refine⟨e,fun a ha=>⟨.inl (n a ha).1,(n a ha).2⟩,c.av (hA c.f) (c.keep (.of fun x o hx e=>s1.1 x o ?_ e) (c.fresh ha q))⟩
        rcases hx with hx|hx
        · exact kg fun z=>hx (.inl (.inr (.inr (.inl z))))
        · exact(n x hx).2
  refine W2.set ⟨rfl, .inr rfl,hN,xs,e,hd.av (hA f)⟩ ?_ (fun _ _ _ z=>by cases z) (fun x hx j t hj ht hc=>?_)
  rotate_left
  · have hx:x=a:=aT.mp hx
    subst hx
    rcases hc with ⟨c,z⟩|⟨c,rfl⟩
    · cases z
    · exact fun z=>W.live x ((W.ok j _ ht).choose_spec.2.2.1 x z).1 ha
  rintro a' f' ds' ⟨rfl,rfl,rfl⟩ j c g cs hj hc z
  subst z
  obtain⟨x,e1,h1,h2,h3,ys,hy,_⟩:=W.ok j _ hc
  rw[hy] at ha;cases ha
theorem pN(h:au G ρ te fun f ds=>∀a,E.nx (ρ.set i (.own a f ds))):Sv G ρ (gv te (eN i)) E:=fun nb σ H D W K=>h nb σ H _ W fun f a xs H1 ds q s1 ha e hd=>K.nx _ _ _ H1 (q a) (LR W s1 ha e hd)
theorem qu{nb:Addr->Prop}{σ:St}{H:Hp}{a:Addr}{xs:List V}(W:Wd G nb ρ σ H)(e:ρ[i]?=some (.own a f ds))(hd:ah (G.S nb g) H es xs):Wd G nb (ρ.set i (.own a g es)) σ (upd H a (.lst xs)):=by
  obtain⟨x,e1,h1,h2,h3,ys,hy,_⟩:=W.ok i _ e
  subst h1
  have hil:i<ρ.length:=(aR.mp e).1
  have W0:Wd G nb (ρ.set i .no) (σ.set i (some (.ref a))) H:=W.set trivial fun _ _ _ z=>by cases z
  have W1:Wd G nb (ρ.set i .no) (σ.set i (some (.ref a))) (upd H a (.lst xs)):=W0.write h2 h3 (fun j c f' cs hc=>by
    by_cases hij:i=j
    · subst hij;rw[cQ hil] at hc;cases hc
    · rw[bH hij] at hc
      exact(W.apart i j _ _ _ _ _ _ hij e hc).symm
   ) (fun j c f' cs hc z => by
      subst z
      have hij:i≠j:=fun z=>by subst z;rw[cQ hil] at hc;cases hc
      rw[bH hij] at hc
      obtain⟨_,_,_,_,_,ps,hp,_⟩:=W.ok j _ hc
      rw[hy] at hp;cases hp) (fun j c hc z=>by
      have hij:i≠j:=fun z=>by subst z;rw[cQ hil] at hc;cases hc
      rw[bH hij] at hc
      exact W.eg j i c _ (bw hij) hc e a z (aT.mpr rfl))
  have W2:=W1.set (i:=i) (s:= .own a g es) (x:=some (.ref a)) ⟨rfl,h2,h3,xs,bf,hd.keep (aX.set (.inl h2))⟩ (by
    rintro a' f' ds' ⟨rfl,rfl,rfl⟩ j c g' cs hj hc
    rw[bH (bw hj)] at hc
    exact W.apart i j _ _ _ _ _ _ (bw hj) e hc) (fun _ _ _ z=>by cases z) (fun x hx j t hj ht hc z=>by
    rw[bH (bw hj)] at ht
    have hx:x=a:=aT.mp hx
    subst hx
    rcases hc with ⟨c,q⟩|⟨c,rfl⟩
    · cases q
    · exact W.eg j i c _ hj ht e x z (aT.mpr rfl))
  rw[jx,jx] at W2
  have:σ.set i (some (.ref a))=σ:=by
    apply gR
    intro j
    by_cases hij:i=j
    · subst hij;rw[cQ (by rw[W.len];exact hil),e1]
    · rw[bH hij]
  rwa[this] at W2
theorem append{a:Addr}(e:ρ[i]?=some (.own a f ds))(h:Ev G ρ te fun g d=>ds.length<10000/\E.nx (ρ.set i (.own a (f && g) (ds++[d])))):Sv G ρ (nN (jQ K "list" p8 (cZ i) (br te bM))) E:=fun nb σ H D W KK=>by
 obtain⟨x,e1,h1,h2,h3,xs,hx,hd⟩:=W.ok i _ e
 subst h1
 refine⟨.ref a,e1, .inl ⟨rfl,_,aV.of hx⟩,h nb σ H _ W fun g v H1 d ⟨hl,q⟩ s1 hv=>?_⟩
 have W1:=W.step s1
 have se:=s1.1 _ _ h3 hx
 refine⟨a,xs,v,rfl,rfl,se,dj (by rw[hd.length];exact hl) (by decide),KK.nx nb _ _ _ q (qu W1 e ?_)⟩
 exact ah.snoc (hv.av (bJ (fun z=>(cN _ _▸z).2) fun _ z=>z)) ((hd.keep s1.dS).av (bJ (fun z=>(cN _ _▸z).1) fun _ z=>z))
theorem ah.set'{nb:Addr->Prop}{H:Hp}{x:V}(hd:aj nb H d x):∀{ds:List PyData} {xs:List V} (j:Nat),ah nb H ds xs->ah nb H (ds.set j d) (xs.set j x)
 |[],_,j,h=>by unfold ah at h;subst h;exact .nil
 |e::ds,_,0,h=>by unfold ah at h;obtain⟨y,ys,rfl,h1,h2⟩:=h;exact .cons hd h2
 |e::ds,_,j+1,h=>by unfold ah at h;obtain⟨y,ys,rfl,h1,h2⟩:=h;exact .cons h1 (ah.set' hd j h2)
theorem IG{a:Addr}(e:ρ[i]?=some (.own a f ds))(h:Ev G ρ te fun g d=>Ev G ρ tb fun _ y=>∃k j,y= .int k/\eW ds.length k=some j/\E.nx (ρ.set i (.own a (f && g) (ds.set j d)))):Sv G ρ (gv te (oK (cZ i) tb vN)) E:=fun nb σ H D W KK=>
 h nb σ H _ W fun g v H1 d q s1 hv=>by
  obtain⟨x,e1,h1,h2,h3,xs,hx,hd⟩:=(W.step s1).ok i _ e
  subst h1
  refine⟨.ref a,e1,q nb σ H1 _ (W.step s1) fun g' u H2 y ⟨k,j,ey,hj,p⟩ s2 hu=>?_⟩
  subst ey
  have W2:=(W.step s1).step s2
  refine⟨a,xs,k,j,rfl,hu.bO,s2.1 _ _ h3 hx,by rw[hd.length];exact hj,KK.nx nb _ _ _ p (qu W2 e ?_)⟩
  exact ah.set' ((hv.keep s2.dS).av (bJ (fun z=>(cN _ _▸z).2) fun _ z=>z)) j ((hd.keep s2.dS).av (bJ (fun z=>(cN _ _▸z).1) fun _ z=>z))
theorem share{nb:Addr->Prop}{σ:St}{H:Hp}{a:Addr}(W:Wd G nb ρ σ H)(e:ρ[i]?=some (.own a f ds)):Wd G (fun x=>nb x/\x≠a) (ρ.set i (.d f (.list ds))) σ H:=by
  obtain⟨x,e1,h1,h2,h3,xs,hx,hd⟩:=W.ok i _ e
  subst h1
  have hil:i<ρ.length:=(aR.mp e).1
  have W0:Wd G nb (ρ.set i .no) (σ.set i (some (.ref a))) H:=W.set trivial fun _ _ _ z=>by cases z
  have W1:Wd G (fun x=>nb x/\x≠a) (ρ.set i .no) (σ.set i (some (.ref a))) H:=by
    refine⟨W0.ay,fun x n=>W0.live x n.1,W0.old,fun x n=>W0.eS x n.1,W0.gA,W0.len,W0.gB,fun h m=>(W0.gz h m).av (bJ (fun z=>z) fun _ z=>z.1),fun j s e'=>?_,W0.apart,W0.fU,W0.eg⟩
    obtain⟨x,jo,h⟩:=W0.ok j s e'
    refine⟨x,jo,?_⟩
    have hij:s≠ .no->i≠j:=fun n z=>by subst z;rw[cQ hil] at e';cases e';exact n rfl
    cases s with
    |no=>trivial
    |d f d=>obtain⟨v,e,h⟩:=h;exact⟨v,e,h.av (bJ (fun z=>z) fun _ z=>z.1)⟩
    | own c f es =>
      obtain⟨e2,n,q,xs,hx,hd⟩:=h
      have hij:=hij (by intro z;cases z)
      rw[bH hij] at e'
      exact⟨e2,⟨n,(W.apart i j _ _ _ _ _ _ hij e e').symm⟩,q,xs,hx,hd.av (bJ (fun z=>z) fun _ z=>z.1)⟩
    |ay=>exact h
    |raw v=>exact h
    | cY c f es =>
      obtain⟨e2,n,q,ps,hp,hd⟩:=h
      have hca:c≠a:=fun z=>by subst z;rw[hx] at hp;cases hp
      exact⟨e2,⟨n,hca⟩,q,ps,hp,hd.av (bJ (fun z=>z) fun _ z=>z.1)⟩
    | cu c =>
      obtain⟨e2,n,q⟩:=h
      have hij:=hij (by intro z;cases z)
      rw[bH hij] at e'
      exact⟨e2,fun x hx=>⟨⟨(n x hx).1,fun z=>W.eg j i c _ (bw hij) e' e x hx (by rw[z];exact aT.mpr rfl)⟩,(n x hx).2⟩,c.av (bJ (fun z=>z) fun _ z=>z.1) q⟩
  have W2:=W1.lz (i:=i) (f:=f) (d:= .list ds) (v:= .ref a) (.lst (fun z=>by
    rcases z with z|z|z|z
    · exact z.2 rfl
    · exact W.gA a z (W.eS a h2 h3)
    · exact z h3
    · exact z.2 (W.eS a h2 h3)) hx (hd.av (bJ (fun z=>z) fun _ z=>z.1)))
  rw[jx,jx] at W2
  have:σ.set i (some (.ref a))=σ:=by
    apply gR
    intro j
    by_cases hij:i=j
    · subst hij;rw[cQ (by rw[W.len];exact hil),e1]
    · rw[bH hij]
  rwa[this] at W2
theorem jz{a:Addr}(i:Nat)(e:ρ[i]?=some (.own a f ds))(h:Sv G (ρ.set i (.d f (.list ds))) s E):Sv G ρ s E:=fun nb σ H D W K=>h _ σ H D (share W e) K
theorem wk{ρ':Rh}(w:Wk ρ' ρ)(h:Sv G ρ' s E):Sv G ρ s E:=fun nb σ H D W K=>h nb σ H D (W.wk w) K
end Sv
end
end L2
set_option maxRecDepth 100000
set_option maxHeartbeats 1000000
namespace L2
open PySem PySem.Spec PyProof.Rows
abbrev Gx.hd(G:Gx)(f:Bool)(d:PyData)(v:V):Gx:={G with hold:=(f, .d d,v)::G.hold}
section
variable{G:Gx}{ρ dM:Rh}{Φ Ψ:Pd}{ta tb te:TE}{t:TA}{i:Nat}{f g:Bool}{d e:PyData}{ds es:List PyData}{K:PySem.W.Frag}
theorem Wd.hd{nb:Addr->Prop}{σ:St}{H:Hp}{v:V}(W:Wd G nb ρ σ H)(h:aj (G.S nb f) H d v):Wd (G.hd f d v) nb ρ σ H:=
 ⟨W.ay,W.live,W.old,W.eS,W.gA,W.len,W.gB,fun x m=>by
  rcases aP.mp m with e|m
  ·subst e;exact h
  ·exact W.gz x m,fun i s e=>by
   obtain⟨x,e1,h⟩:=W.ok i s e
   refine⟨x,e1,?_⟩
   cases s<;>exact h,W.apart,W.fU,W.eg⟩
theorem Wd.j6{nb:Addr->Prop}{σ:St}{H:Hp}{v:V}(W:Wd (G.hd f d v) nb ρ σ H):Wd G nb ρ σ H/\aj (G.S nb f) H d v:=
 ⟨⟨W.ay,W.live,W.old,W.eS,W.gA,W.len,W.gB,fun x m=>W.gz x (cX _ m),fun i s e=>by
   obtain⟨x,e1,h⟩:=W.ok i s e
   refine⟨x,e1,?_⟩
   cases s<;>exact h,W.apart,W.fU,W.eg⟩,W.gz _ (cB ..)⟩
namespace Sv
variable{E:DE}{s:TS}{gt:TG}
def uG(G:Gx)(ρ:Rh)(n:Nat)(it:Nat->PyData->Prop)(fi:Bool)(gt:TG)(s:TS)(E:DE):Prop:=
 ∃I:Nat->Rh->Prop,I 0 ρ/\(∀i d ρ',it i d->I i ρ'->Gv G ρ' gt fi d fun g5=>Sv G g5 s {nx:=I (i+1),rt:=E.rt,bk:=E.nx,ct:=I (i+1),rw:=E.rw})/\∀ρ',I n ρ'->E.nx ρ'
theorem V6{lo:Int}{n:Nat}{nb:Addr->Prop}{σ:St}{H:Hp}{D:Ends}(W:Wd G nb ρ σ H)(KK:CW G E D)(h:uG G ρ n (fun i d=>i<n/\d= .int (lo+i)) true gt s E):
  ∃W:Nat->Nat->St->Hp->Prop,(∃m,W 0 m σ H)/\∀i m σ H,W i m σ H->
   ((i9 lo n).stop i H/\D.nx σ H)\/((i9 lo n).go i H/\∃N:St->Hp->Prop,(∀σ' H',N σ' H'->∃m',m'<m/\W (i+1) m' σ' H')/\∀x H',(i9 lo n).nL i H x H'->gt x σ H' fun σ2 H2=>s {D with nx:=N,ct:=N,bk:=D.nx} σ2 H2):=by
 obtain⟨I,h0,ht,he⟩:=h
 refine w6 (fun i σ H=>∃nb ρ',I i ρ'/\Wd G nb ρ' σ H) ⟨nb,ρ,h0,W⟩ ?_ ?_
 ·rintro i σ H hi ⟨nb,ρ',hI,W⟩
  refine ht i _ ρ' ⟨hi,rfl⟩ hI nb σ H _ _ W (.int _) fun σ2 g5 q W2=>q nb σ2 H _ W2 ?_
  exact⟨fun nb ρ σ H q W=>⟨nb,ρ,q,W⟩,KK.nx,fun nb ρ σ H q W=>⟨nb,ρ,q,W⟩,KK.rt,KK.rw⟩
 ·rintro σ H ⟨nb,ρ',hI,W⟩
  exact KK.nx nb ρ' σ H (he ρ' hI) W
theorem j7(h:Ev G ρ te fun _ x=>∃n:Int,x= .int n/\ -(2^62)<=n/\n<2^62/\uG G ρ n.toNat (fun i d=>i<n.toNat/\d= .int (0+i)) true gt s E):Sv G ρ (qQ (sF (br te bM)) gt s) E:=fun nb σ H D W KK=>
 h nb σ H _ W fun f v H1 x ⟨n,ex,h1,h2,q⟩ s1 hv=>by
  subst ex
  rw[hv.bO]
  exact⟨n,rfl,h1,h2,V6 (W.step s1) KK q⟩
theorem forL(h:Ev G ρ te fun f x=>∃ds,x= .list ds/\∀v,uG (G.hd f (.list ds) v) ρ ds.length (fun i d=>ds[i]?=some d) f gt s E):Sv G ρ (qQ (p6 K te) gt s) E:=fun nb σ H D W KK=>
 h nb σ H _ W fun f v H1 x ⟨ds,ex,q⟩ s1 hv=>by
  subst ex
  obtain⟨I,h0,ht,he⟩:=q v
  have W1:=(W.step s1).hd hv
  obtain⟨a,xs,rfl,n,hx,hd⟩:=hv.eO
  have key:∀{nb ρ' σ H},Wd (G.hd f (.list ds) (.ref a)) nb ρ' σ H->∃xs,H a=some (.lst xs)/\ah (G.S nb f) H ds xs:=fun W=>by
   obtain⟨a',xs',e',_,h',d'⟩:=W.j6.2.eO
   cases e'
   exact⟨xs',h',d'⟩
  refine⟨a,rfl,⟨xs, .of hx⟩,?_⟩
  refine⟨fun i m σ H=>m=ds.length-i/\i<=ds.length/\∃nb ρ',I i ρ'/\Wd (G.hd f (.list ds) (.ref a)) nb ρ' σ H,⟨ds.length,by simp,fT _,nb,ρ,h0,W1⟩,?_⟩
  rintro i m σ H ⟨rfl,hi,nb,ρ',hI,W⟩
  obtain⟨ys,hy,hD⟩:=key W
  have hl:=hD.length
  by_cases hlt:i<ds.length
  ·refine .inr ⟨⟨ys,ys[i]'(by omega), .of hy,aH _⟩,fun σ H=>∃nb ρ',I (i+1) ρ'/\Wd (G.hd f (.list ds) (.ref a)) nb ρ' σ H,fun σ' H' q=>⟨ds.length-(i+1),by omega,rfl,hlt,q⟩,fun x H' y=>?_⟩
   obtain⟨e,y⟩:=y
   subst e
   have hx:=y ys (.of hy)
   obtain⟨x',hx',dx⟩:=hD.get (aH hlt)
   rw[hx] at hx';cases hx'
   refine ht i _ ρ' (aH hlt) hI nb σ _ _ _ W dx fun σ2 g5 q W2=>q nb σ2 _ _ W2 ?_
   exact⟨fun nb ρ σ H q W=>⟨nb,ρ,q,W⟩,fun nb ρ σ H q W=>KK.nx nb ρ σ H q W.j6.1,fun nb ρ σ H q W=>⟨nb,ρ,q,W⟩,fun nb ρ σ f v H d q W hv=>KK.rt nb ρ σ f v H d q W.j6.1 hv,fun nb ρ σ v H q W=>KK.rw nb ρ σ v H q W.j6.1⟩
  ·have e:i=ds.length:=by omega
   subst e
   exact .inl ⟨⟨ys, .of hy,by omega⟩,KK.nx nb ρ' σ H (he ρ' hI) W.j6.1⟩
theorem JI{c:TT}(I:Rh->Prop)(μ:Rh->Nat)(h0:I ρ)(h:∀ρ',I ρ'->Tv G ρ' c fun b=>if b=true then Sv G ρ' s {nx:=fun g5=>I g5/\μ g5<μ ρ',rt:=E.rt,bk:=E.nx,ct:=fun g5=>I g5/\μ g5<μ ρ',rw:=E.rw} else E.nx ρ'):Sv G ρ (BQ c s) E:=fun nb σ H D W KK=>by
  refine⟨fun m σ H=>∃nb ρ',I ρ'/\Wd G nb ρ' σ H/\m=μ ρ',⟨_,nb,ρ,h0,W,rfl⟩,?_⟩
  rintro m σ H ⟨nb,ρ',hI,W,rfl⟩
  refine h ρ' hI nb σ H _ W fun b H1 q s1=>?_
  cases b with
  | true =>
    rw[if_pos rfl] at q⊢
    refine⟨fun σ' H'=>∃nb g5,(I g5/\μ g5<μ ρ')/\Wd G nb g5 σ' H',fun σ' H' ⟨nb,g5,⟨q1,q2⟩,W2⟩=>⟨μ g5,q2,nb,g5,q1,W2,rfl⟩,q nb σ H1 _ (W.step s1) ?_⟩
    exact⟨fun nb ρ σ H q W=>⟨nb,ρ,q,W⟩,KK.nx,fun nb ρ σ H q W=>⟨nb,ρ,q,W⟩,KK.rt,KK.rw⟩
  |false=>rw[if_neg cC] at q⊢;exact KK.nx nb ρ' σ H1 q (W.step s1)
end Sv
def mW(mp:List (Option Nat))(ρ:Rh):Rh:=mp.map fun o=>match o with|none=> .no|some j=>match ρ[j]? with|some s=>s|none=> .no
theorem z3{mp:List (Option Nat)}(h:(mp.filterMap id).Nodup):∀{i j k:Nat},mp[i]?=some (some k)->mp[j]?=some (some k)->i=j:=by
  induction mp with
  |nil=>intro i j k e;simp at e
  | cons o r ih =>
    intro i j k e1 e2
    have hr:(r.filterMap id).Nodup:=by
      cases o with
      |none=>simpa using h
      |some x=>rw[EC (by rfl)] at h;exact(iC.mp h).2
    have hn:∀{m:Nat},r[m]?=some (some k)->o≠some k:=fun{m} hm e=>by
      subst e
      rw[EC (by rfl)] at h
      exact(iC.mp h).1 (BI.mpr ⟨some k,bh hm,rfl⟩)
    cases i with
    | zero =>
      cases j with
      |zero=>rfl
      |succ j=>simp at e1 e2;exact absurd e1 (hn e2)
    | succ i =>
      cases j with
      |zero=>simp at e1 e2;exact absurd e2 (hn e1)
      |succ j=>simp at e1 e2;rw[ih hr e1 e2]
theorem Wd.iJ{nb:Addr->Prop}{σ:St}{H:Hp}{mp:List (Option Nat)}(W:Wd G nb ρ σ H)(hm:(mp.filterMap id).Nodup):Wd G nb (mW mp ρ) (iJ mp σ) H:=by
  have hat:∀{i:Nat} {s:Sl},(mW mp ρ)[i]?=some s->s= .no\/∃k,mp[i]?=some (some k)/\ρ[k]?=some s:=fun{i s} e=>by
    unfold mW at e
    rw[aS] at e
    obtain⟨o,ho,e⟩:=jw.mp e
    cases o with
    |none=>exact .inl e.symm
    | some k =>
      cases hk:ρ[k]? with
      |none=>simp only[hk] at e;exact .inl e.symm
      |some s'=>simp only[hk] at e;subst e;exact .inr ⟨k,ho,hk⟩
  refine⟨W.ay,W.live,W.old,W.eS,W.gA,by unfold L2.iJ mW;rw[ak,ak],W.gB,W.gz,fun i s e=>?_,fun i j a f as c g cs hij e1 e2=>?_,fun i j a f as c g cs hij e1 e2=>?_,fun i j c t hij e1 e2 a ha=>?_⟩
  · have hi:i<mp.length:=by have:=(aR.mp e).1;unfold mW at this;rwa[ak] at this
    rcases hat e with rfl|⟨k,hk,hs⟩
    · exact⟨_,by unfold L2.iJ;rw[aS,aH hi];rfl,trivial⟩
    · obtain⟨x,e1,h⟩:=W.ok k s hs
      refine⟨x,?_,h⟩
      unfold L2.iJ
      rw[aS,hk]
      simp only[qK,e1]
  · rcases hat e1 with z|⟨k,hk,hs⟩
    · cases z
    rcases hat e2 with z|⟨k',hk',hs'⟩
    · cases z
    exact W.apart k k' a f as c g cs (fun z=>by subst z;exact hij (z3 hm hk hk')) hs hs'
  · rcases hat e1 with z|⟨k,hk,hs⟩
    · cases z
    rcases hat e2 with z|⟨k',hk',hs'⟩
    · cases z
    exact W.fU k k' a f as c g cs (fun z=>by subst z;exact hij (z3 hm hk hk')) hs hs'
  · rcases hat e1 with z|⟨k,hk,hs⟩
    · cases z
    rcases hat e2 with z|⟨k',hk',hs'⟩
    · subst z;exact fun z=>by cases z
    exact W.eg k k' c t (fun z=>by subst z;exact hij (z3 hm hk hk')) hs hs' a ha
def HC(ρ:Rh)(acc:Addr):Prop:=(∀(j:Nat) a f ds,ρ[j]?=some (.own a f ds)->a≠acc)/\∀(j:Nat) c,ρ[j]?=some (.cu c)->acc∉c.F
def fG(G:Gx)(dM:Rh)(n:Nat)(it:Nat->PyData->Prop)(fi:Bool)(gt:TG)(tc:TT)(te:TE)(Θ:Bool->List PyData->Prop):Prop:=
 ∃(fl:Bool) (I:Nat->List PyData->Prop),I 0 []/\(∀i d ds,it i d->ds.length<=i->I i ds->Gv G dM gt fi d fun gD=>Wk dM gD/\Tv G gD tc fun b=>if b=true then Ev G gD te fun f e=>(fl=true->f=true)/\I (i+1) (ds++[e]) else I (i+1) ds)/\
  ∀ds,ds.length<=n->I n ds->Θ (fl||gH ds) ds
theorem D0{gt:TG}{tc:TT}{nb:Addr->Prop}{acc:Addr}{σ:St}{H H1:Hp}{x:V}{fi fl:Bool}{I:Nat->List PyData->Prop}{xs:List V}{N:St->Hp->Prop}{ds:List PyData}{n:Nat}(hn:n<=10000)(hi:i<n)
    (W:Wd G nb dM σ H) (ha:nb acc) (hN:NB G.B acc) (hno:HC dM acc) (st:Step G.B H1 H) (hacc:H1 acc=none) (hx:H acc=some (.lst xs)) (hd:ah (G.S nb fl) H ds xs) (hl:ds.length<=i) (hxd:aj (G.S nb fi) H d x)
    (h:Gv G dM gt fi d fun gD=>Wk dM gD/\Tv G gD tc fun b=>if b=true then Ev G gD te fun f e=>(fl=true->f=true)/\I (i+1) (ds++[e]) else I (i+1) ds)
    (z:∀σ' H' ds' xs',Wd G nb dM σ' H'->Step G.B H1 H'->H' acc=some (.lst xs')->ah (G.S nb fl) H' ds' xs'->ds'.length<=i+1->I (i+1) ds'->N σ' H'):
    gt x σ H fun σ2 H2=>tc σ2 H2 fun b H3=>if b=true then te σ2 H3 fun v H4=>∃ys,H4 acc=some (.lst ys)/\ys.length<sizeLine/\N σ2 (upd H4 acc (.lst (ys++[v]))) else N σ2 H3:=by
  refine h nb σ H x _ W hxd fun σ2 gD ⟨wk,q⟩ W2=>q nb σ2 H _ W2 fun b H3 q3 s3=>?_
  have E5:=s3.1 _ _ hN hx
  have Jv:=hd.keep (s3.dS (nb:=nb) (f:=fl))
  cases b with
  | false =>
    rw[if_neg cC] at q3⊢
    exact z σ2 H3 ds xs ((W2.step s3).wk wk) (st.trans s3) E5 Jv (by omega) q3
  | true =>
    rw[if_pos rfl] at q3⊢
    refine q3 nb σ2 H3 _ (W2.step s3) fun f v H4 e ⟨hf,hI⟩ s4 hv=>?_
    have HM:=s4.1 _ _ hN E5
    have NO:=Jv.keep (s4.dS (nb:=nb) (f:=fl))
    have hlen:=hd.length
    refine⟨xs,HM,dj (show xs.length<10001 by omega) (by decide),?_⟩
    have W4:Wd G nb dM σ2 H4:=((W2.step s3).step s4).wk wk
    have bt:aX (G.S nb fl) H4 (upd H4 acc (.lst (xs++[v]))):=aX.set (.inl ha)
    have W5:Wd G nb dM σ2 (upd H4 acc (.lst (xs++[v]))):=W4.write ha hN hno.1 (fun j a f ds e z=>by
      subst z
      obtain⟨_,_,_,_,_,ps,hp,_⟩:=W4.ok j _ e
      rw[HM] at hp;cases hp) hno.2
    refine z σ2 _ (ds++[e]) (xs++[v]) W5 ⟨fun a o n q=>?_,W5.ay⟩ bf (ah.snoc ((hv.av (bJ hf fun _ z=>z)).keep bt) (NO.keep bt)) (by rw[bz,fh];omega) hI
    have hne:a≠acc:=fun z=>by subst z;rw[hacc] at q;cases q
    rw[aK hne]
    exact(st.trans (s3.trans s4)).1 a o n q
theorem EZ{nb:Addr->Prop}{σ:St}{H:Hp}{a:Addr}(W:Wd G nb ρ σ H)(ha:H a=none):HC ρ a:=by
 refine⟨fun j c f ds e z=>?_,fun j c e z=>?_⟩
 ·subst z
  obtain⟨x,e1,h1,h2,h3,ys,hy,_⟩:=W.ok j _ e
  rw[hy] at ha;cases ha
 ·obtain⟨x,e1,h1,h2,h3⟩:=W.ok j _ e
  exact W.live a (h2 a z).1 ha
theorem Lj{nb:Addr->Prop}{a:Addr}{f:Bool}:∀x,(G.S nb f x\/x=a)->G.S (fun x=>nb x\/x=a) f x:=fun x z=>by
 rcases z with (z|z|z|z)|z
 ·exact .inl (.inl z)
 ·exact .inr (.inl z)
 ·exact .inr (.inr (.inl z))
 ·exact .inr (.inr (.inr z))
 ·exact .inl (.inr z)
theorem FE{nb:Addr->Prop}{acc:Addr}{H H1 H':Hp}{σ:St}{Q:VK}{Θ:Bool->List PyData->Prop}{xs:List V}{ds:List PyData}{fl:Bool}(W:Wd G nb ρ σ H)(s1:Step G.B H H1)(hacc:H1 acc=none)(s2:Step G.B H1 H')(hx:H' acc=some (.lst xs))(hd:ah (G.S (fun x=>nb x\/x=acc) fl) H' ds xs)(p:Θ (fl||gH ds) ds)
  (z:∀f a xs H' ds,Θ f ds->Step G.B H H'->H a=none->H' a=some (.lst xs)->ah (fun x=>G.S nb f x\/x=a) H' ds xs->Q (.ref a) H'):Q (.ref acc) H':=by
 refine z _ acc xs H' ds p (s1.trans s2) (W.none_of s1 hacc) hx ?_
 cases hs:gH ds with
 |true=>exact ah.nh hs hd
 |false=>rw[oO];exact hd.av Lj
theorem NB.new{B:Bg}{H:Hp}{a:Addr}(h:jP B H)(ha:H a=none):NB B a:=kg fun z=>NB.nR h z ha
namespace au
variable{Θ:Bool->List PyData->Prop}{gt:TG}{tc:TT}{mp:List (Option Nat)}
theorem Rb{lo:Int}{n:Nat}{nb:Addr->Prop}{σ:St}{H H1:Hp}{Q:VK}(W:Wd G nb ρ σ H)(s1:Step G.B H H1)(hm:(mp.filterMap id).Nodup)(gQ:mW mp ρ=dM)(hn:n<=10000)(h:fG G dM n (fun i d=>i<n/\d= .int (lo+i)) true gt tc te Θ)
  (z:∀f a xs H' ds,Θ f ds->Step G.B H H'->H a=none->H' a=some (.lst xs)->ah (fun x=>G.S nb f x\/x=a) H' ds xs->Q (.ref a) H') (acc:Addr) (hacc:H1 acc=none):sj (i9 lo n) gt tc te acc (fun H'=>Q (.ref acc) H') (iJ mp σ) (upd H1 acc (.lst [])):=by
 obtain⟨fl,I,h0,ht,he⟩:=h
 have W0:Wd G nb dM (L2.iJ mp σ) H1:=by rw[<-gQ];exact(W.step s1).iJ hm
 have W1:=W0.more hacc (o:= .lst [])
 have hN:=NB.new s1.2 hacc
 have hno:=EZ W0 hacc
 have C1:Step G.B H1 (upd H1 acc (.lst [])):= .same s1.2 (dG hacc)
 refine R.BA (fun i σ H=>∃ds xs,Wd G (fun x=>nb x\/x=acc) dM σ H/\Step G.B H1 H/\H acc=some (.lst xs)/\ah (G.S (fun x=>nb x\/x=acc) fl) H ds xs/\ds.length<=i/\I i ds) ⟨[],[],W1,C1,bf, .nil,aQ _,h0⟩ ?_ ?_
 ·rintro i σ H hi ⟨ds,xs,W,st,hx,hd,hl,hI⟩
  exact D0 hn hi W (.inr rfl) hN hno st hacc hx hd hl (.int _) (ht i _ ds ⟨hi,rfl⟩ hl hI) fun σ' H' ds' xs' W' st' hx' hd' hl' hI'=>⟨ds',xs',W',st',hx',hd',hl',hI'⟩
 ·rintro σ H' ⟨ds,xs,W',st,hx,hd,hl,hI⟩
  exact FE W s1 hacc st hx hd (he ds hl hI) z
theorem kh{t0:TE}(hm:(mp.filterMap id).Nodup)(gQ:mW mp ρ=dM)(h:Ev G ρ t0 fun _ x=>∃n:Int,x= .int n/\ -10000<=n/\n<=10000/\fG G dM n.toNat (fun i d=>i<n.toNat/\d= .int (0+i)) true gt tc te Θ):au G ρ (lO (sF (br t0 bM)) gt tc te mp) Θ:=fun nb σ H Q W z=>
 h nb σ H _ W fun f v H1 x ⟨n,ex,h1,h2,q⟩ s1 hv=>by
  subst ex
  rw[hv.bO]
  exact⟨n,rfl,by omega,by omega,Rb W s1 hm gQ (by omega) q z⟩
theorem ir{t0:TE}(hm:(mp.filterMap id).Nodup)(gQ:mW mp ρ=dM)(h:Ev G ρ t0 fun fi x=>∃es,x= .list es/\es.length<=10000/\∀v,fG (G.hd fi (.list es) v) dM es.length (fun i d=>es[i]?=some d) fi gt tc te Θ):au G ρ (lO (p6 K t0) gt tc te mp) Θ:=fun nb σ H Q W z=>
 h nb σ H _ W fun fi v H1 x ⟨es,ex,hn,q⟩ s1 hv=>by
  subst ex
  obtain⟨fl,I,h0,ht,he⟩:=q v
  have W0:=(W.step s1).hd hv
  obtain⟨a,xs,rfl,n,hx,hd⟩:=hv.eO
  refine⟨a,rfl,⟨xs, .of hx⟩,fun acc hacc=>?_⟩
  have IQ:Wd (G.hd fi (.list es) (.ref a)) nb dM (L2.iJ mp σ) H1:=by rw[<-gQ];exact W0.iJ hm
  have W1:=IQ.more hacc (o:= .lst [])
  have hN:=NB.new s1.2 hacc
  have hno:=EZ IQ hacc
  have C1:Step G.B H1 (upd H1 acc (.lst [])):= .same s1.2 (dG hacc)
  have Jb:NB G.B a:=kg fun z=>n (.inr (.inr (.inl z)))
  refine R.AA (xs:=xs) (fun i σ H=>∃ds ys,Wd (G.hd fi (.list es) (.ref a)) (fun x=>nb x\/x=acc) dM σ H/\Step G.B H1 H/\H acc=some (.lst ys)/\ah (G.S (fun x=>nb x\/x=acc) fl) H ds ys/\ds.length<=i/\I i ds) ⟨[],[],W1,C1,bf, .nil,aQ _,h0⟩ ?_ ?_ ?_
  ·rintro i σ H hi ⟨ds,ys,W,st,_⟩
   exact .of (st.1 _ _ Jb hx)
  ·rintro i x σ H hi ⟨ds,ys,W,st,hy,hd',hl,hI⟩
   obtain⟨a',xs',e',_,h',d'⟩:=W.j6.2.eO
   cases e'
   rw[st.1 _ _ Jb hx] at h';cases h'
   have hil:i<es.length:=by have:=(aR.mp hi).1;have:=d'.length;omega
   obtain⟨x',hx',dx⟩:=d'.get (aH hil)
   rw[hi] at hx';cases hx'
   exact D0 (G:=G.hd fi (.list es) (.ref a)) hn hil W (.inr rfl) hN hno st hacc hy hd' hl dx (ht i _ ds (aH hil) hl hI) fun σ' H' ds' xs' W' st' hx' hd' hl' hI'=>⟨ds',xs',W',st',hx',hd',hl',hI'⟩
  ·rintro σ H' ⟨ds,ys,W',st,hy,hd',hl,hI⟩
   rw[hd.length] at hl hI
   exact FE W s1 hacc st hy hd' (he ds hl hI) z
end au
end
end L2
set_option maxRecDepth 100000
set_option maxHeartbeats 1000000
namespace L2
open PySem PySem.Spec PyProof.Rows
section
variable{ρ:Rh}{t:TS}{N:List Str}{vs:List V}{ds:List PyData}{nb:Addr->Prop}{H:Hp}{Q:VK}{Φ:Pd}{b l:Addr}
theorem mj{xs:List V}(h:ah nb H ds xs){i:Nat}{s:Sl}(e:(ds.map (Sl.d false))[i]?=some s):∃v d,xs[i]?=some v/\s= .d false d/\aj nb H d v:=by
 rw[aS] at e
 obtain⟨d,hd,e⟩:=jw.mp e
 obtain⟨v,hv,q⟩:=h.get hd
 exact⟨v,d,hv,e.symm,q⟩
theorem Sv.iz(hl:kX nb H)(hd:ah nb H ds vs)(aC:∀f d v H',Φ f d->dO H H'->aj (fun a=>nb a\/(f=true/\H a≠none)) H' d v->Q v H')
  (gQ:ρ=ds.map (Sl.d false)++List.replicate (N.length-ds.length) .no) (h:Sv ⟨none,H,nb,[]⟩ ρ t {nx:=fun _=>Φ true .none,rt:=Φ}):t {nx:=fun _ H'=>Q .aL H',rt:=Q} (start N vs) H:=by
 have hlen:=hd.length
 have sm:∀{cH ρ' σ' H'},Wd ⟨none,H,nb,[]⟩ cH ρ' σ' H'->dO H H':=fun W a o e=>W.old a o (fun _ _ z=>(by cases z)) e
 refine h (fun _=>False) _ H _ ⟨fun _ _ z=>(by cases z),fun _ z=>z.elim,fun _ _ _ e=>e,fun _ z=>z.elim,hl,?_,fun _ _ z=>(by cases z),fun _ m=>(by cases m),fun i s e=>?_,?_,?_,?_⟩ ⟨fun cH ρ' σ' H' q W=>aC _ _ _ _ q (sm W) .aL,fun _ _ _ _ q _=>q.elim,fun _ _ _ _ q _=>q.elim,fun cH ρ' σ' f v H' d q W hv=>aC f d v H' q (sm W) (hv.av fun a z=>?_),fun _ _ _ _ _ q _=>q.elim⟩
 ·rw[gQ];unfold start;simp[hlen]
 ·rw[gQ] at e
  unfold start
  by_cases hi:i<ds.length
  ·rw[gu (by rw[ak];exact hi)] at e
   obtain⟨v,d,hv,rfl,q⟩:=mj hd e
   refine⟨some v,?_,v,rfl,q.av fun a z=>?_⟩
   ·rw[gu (by rw[ak,hlen];exact hi),aS,hv];rfl
   ·rcases z with z|z|z|z
    ·exact z.elim
    ·exact z
    ·exact absurd (fun _ _ z=>(by cases z)) z
    ·cases z.1
  ·rw[gK (by rw[ak];omega),gY] at e
   split at e
   ·rename_i h'
    cases e
    refine⟨none,?_,trivial⟩
    rw[ak] at h'
    rw[gK (by rw[ak];omega),gY,if_pos (by rw[ak,hlen];exact h')]
   ·cases e
 ·intro i j a f as c g cs hij e1
  rw[gQ] at e1
  by_cases hi:i<ds.length
  ·rw[gu (by rw[ak];exact hi)] at e1
   obtain⟨_,_,_,z,_⟩:=mj hd e1
   cases z
  ·rw[gK (by rw[ak];omega),gY] at e1
   split at e1<;>cases e1
 ·intro i j a f as c g cs hij e1
  rw[gQ] at e1
  by_cases hi:i<ds.length
  ·rw[gu (by rw[ak];exact hi)] at e1
   obtain⟨_,_,_,z,_⟩:=mj hd e1
   cases z
  ·rw[gK (by rw[ak];omega),gY] at e1
   split at e1<;>cases e1
 ·intro i j c t hij e1
  rw[gQ] at e1
  by_cases hi:i<ds.length
  ·rw[gu (by rw[ak];exact hi)] at e1
   obtain⟨_,_,_,z,_⟩:=mj hd e1
   cases z
  ·rw[gK (by rw[ak];omega),gY] at e1
   split at e1<;>cases e1
 ·rcases z with z|z
  ·exact .inr (.inl z)
  ·exact .inr (.inr (.inr z))
theorem Sv.i6(hB:cV H b l)(hl:kX nb H)(hb:nb b)(hd:ah nb H ds vs)(aC:∀f d v H',Φ f d->aX (Nb b) H H'->cV H' b l->aj (fun a=>nb a\/(f=true/\H a≠none)) H' d v->Q v H')
    (gQ:ρ= .ay::ds.map (Sl.d false)++List.replicate (N.length-(ds.length+1)) .no) (h:Sv ⟨some (b,l),H,nb,[]⟩ ρ t {nx:=fun _=>Φ true .none,rt:=Φ}):t {nx:=fun _ H'=>Q .aL H',rt:=Q} (start N (.ref b::vs)) H:=by
  have hlen:=hd.length
  have Ic:∀a,a≠b->NB (some (b,l)) a:=fun a n b' l' e=>by cases e;exact n
  have Ud:∀a,¬NB (some (b,l)) a->a=b:=fun a n=>kg fun z=>n (Ic a z)
  have bt:∀{cH ρ' σ' H'},Wd ⟨some (b,l),H,nb,[]⟩ cH ρ' σ' H'->aX (Nb b) H H':=fun W a o n e=>W.old a o (Ic a n) e
  have bg:∀{cH ρ' σ' H'},Wd ⟨some (b,l),H,nb,[]⟩ cH ρ' σ' H'->cV H' b l:=fun W=>W.ay b l rfl
  refine h (fun _=>False) _ H _ ⟨fun b' l' e=>(by cases e;exact hB),fun _ z=>z.elim,fun _ _ _ e=>e,fun _ z=>z.elim,hl,?_,fun b' l' e=>(by cases e;exact hB),fun _ m=>(by cases m),fun i s e=>?_,?_,?_,?_⟩ ⟨fun cH ρ' σ' H' q W=>aC _ _ _ _ q (bt W) (bg W) .aL,fun _ _ _ _ q _=>q.elim,fun _ _ _ _ q _=>q.elim,fun cH ρ' σ' f v H' d q W hv=>aC f d v H' q (bt W) (bg W) (hv.av fun a z=>?_),fun _ _ _ _ _ q _=>q.elim⟩
  · rw[gQ];unfold start;simp[hlen]
  · rw[gQ] at e
    unfold start
    cases i with
    |zero=>simp at e;subst e;exact⟨some (.ref b),by simp,b,l,rfl,rfl⟩
    | succ i =>
      simp only[mS,m6,aZ,oh] at e⊢
      by_cases hi:i<ds.length
      · rw[gu (by rw[ak];exact hi)] at e
        obtain⟨v,d,hv,rfl,q⟩:=mj hd e
        refine⟨some v,?_,v,rfl,q.av fun a z=>?_⟩
        · rw[gu (by rw[ak,hlen];exact hi),aS,hv];rfl
        · rcases z with z|z|z|z
          · exact z.elim
          · exact z
          · rw[Ud a z];exact hb
          · cases z.1
      · rw[gK (by rw[ak];omega),gY] at e
        split at e
        · rename_i h'
          cases e
          refine⟨none,?_,trivial⟩
          rw[ak] at h'
          rw[gK (by rw[ak];omega),gY,if_pos (by rw[ak,hlen];exact h')]
        · cases e
  · intro i j a f as c g cs hij e1
    rw[gQ] at e1
    cases i with
    |zero=>simp at e1
    | succ i =>
      simp only[mS,m6] at e1
      by_cases hi:i<ds.length
      · rw[gu (by rw[ak];exact hi)] at e1
        obtain⟨_,_,_,z,_⟩:=mj hd e1
        cases z
      · rw[gK (by rw[ak];omega),gY] at e1
        split at e1<;>cases e1
  · intro i j a f as c g cs hij e1
    rw[gQ] at e1
    cases i with
    |zero=>simp at e1
    | succ i =>
      simp only[mS,m6] at e1
      by_cases hi:i<ds.length
      · rw[gu (by rw[ak];exact hi)] at e1
        obtain⟨_,_,_,z,_⟩:=mj hd e1
        cases z
      · rw[gK (by rw[ak];omega),gY] at e1
        split at e1<;>cases e1
  · intro i j c t hij e1
    rw[gQ] at e1
    cases i with
    |zero=>simp at e1
    | succ i =>
      simp only[mS,m6] at e1
      by_cases hi:i<ds.length
      · rw[gu (by rw[ak];exact hi)] at e1
        obtain⟨_,_,_,z,_⟩:=mj hd e1
        cases z
      · rw[gK (by rw[ak];omega),gY] at e1
        split at e1<;>cases e1
  · rcases z with z|z
    · exact .inr (.inl z)
    · exact .inr (.inr (.inr z))
def yf(b l:Addr)(H:Hp):Gx:=⟨some (b,l),H,fun _=>False,[]⟩
theorem SK{a:Addr}{m:Nat}(hB:cV H b l):Wd (yf b l H) (fun _=>False) (.raw (.ref a):: .ay::List.replicate m .no) (some (.ref a)::some (.ref b)::List.replicate m none) H:=by
  refine⟨fun b' l' e=>(by cases e;exact hB),fun _ z=>z.elim,fun _ _ _ e=>e,fun _ z=>z.elim,fun _ z=>z.elim,by simp,fun b' l' e=>(by cases e;exact hB),fun _ m=>(by cases m),fun i s e=>?_,?_,?_,?_⟩
  · match i with
    |0=>simp at e;subst e;exact⟨_,rfl,rfl⟩
    |1=>simp at e;subst e;exact⟨some (.ref b),rfl,b,l,rfl,rfl⟩
    | i + 2 =>
      simp only[m6,gY] at e⊢
      split at e
      · rename_i h;cases e;exact⟨none,if_pos h,trivial⟩
      · cases e
  · intro i j a f as c g cs hij e1
    match i with
    |0=>simp at e1
    |1=>simp at e1
    | i + 2 =>
      simp only[m6,gY] at e1
      split at e1<;>cases e1
  · intro i j a f as c g cs hij e1
    match i with
    |0=>simp at e1
    |1=>simp at e1
    | i + 2 =>
      simp only[m6,gY] at e1
      split at e1<;>cases e1
  · intro i j c t hij e1
    match i with
    |0=>simp at e1
    |1=>simp at e1
    | i + 2 =>
      simp only[m6,gY] at e1
      split at e1<;>cases e1
theorem Ev.YF{G:Gx}{i:Nat}{a:Addr}{ns:List Int}{K:PySem.W.Frag}(e:ρ[i]?=some (.raw (.ref a)))(hS:aV K G.H0 a (ns.map V.int))(h:Φ true (.int ns.length)):Ev G ρ (fJ (e7 K) (br (cZ i) bM)) Φ:=fun nb σ H Q W z=>by
 obtain⟨x,e1,h1⟩:=W.ok i _ e
 have h1:x=some (.ref a):=h1
 subst h1
 have hS':aV K H a (ns.map V.int):=by
  rcases hS with hr|hk
  ·have hn:NB G.B a:=fun b l hb z=>by
    subst z
    obtain⟨_,_,_,_,_,g1,_⟩:=W.gB _ _ hb
    rcases hr with hr|⟨o,hr⟩
    ·rw[g1] at hr
     have:=HO.lst.inj (gf hr)
     cases ns with
     |nil=>cases this
     |cons n r=>rw[aZ] at this;cases (List.cons.inj this).1
    ·rw[g1] at hr;cases hr
   rcases hr with hr|⟨o,hr⟩
   ·exact .inl (.inl (W.old _ _ hn hr))
   ·exact .inl (.inr ⟨o,W.old _ _ hn hr⟩)
  ·exact .inr hk
 refine⟨.ref a,e1,a,_,rfl, .inl hS',?_⟩
 rw[ak]
 exact z true _ H _ h (.refl W.ay) (.int _)
theorem T9{D:Ends}(h2:∀H,D.rt (.bl true) H):CW (yf b l H) {nx:=fun _=>False,rt:=fun _ d=>d= .bool true} D:=
 ⟨fun _ _ _ _ q _=>q.elim,fun _ _ _ _ q _=>q.elim,fun _ _ _ _ q _=>q.elim,fun _ _ _ f v H d q _ hv=>by subst q;unfold aj at hv;subst hv;exact h2 H,fun _ _ _ _ _ q _=>q.elim⟩
end
namespace R
theorem di{P:Int->Prop}{i:Int}(h:P i):∃j,PyData.int i= .int j/\P j:=⟨i,rfl,h⟩
theorem db{P:Bool->Prop}{i:Bool}(h:P i):∃j,PyData.bool i= .bool j/\P j:=⟨i,rfl,h⟩
theorem dl{P:List PyData->Prop}{i:List PyData}(h:P i):∃j,PyData.list i= .list j/\P j:=⟨i,rfl,h⟩
theorem dt{P:List PyData->Prop}{i:List PyData}(h:P i):∃j,PyData.tuple i= .tuple j/\P j:=⟨i,rfl,h⟩
theorem J3{P:List PyData->Prop}{i:List PyData}(h:P i):∃j,(PyData.list i= .list j\/PyData.list i= .tuple j)/\P j:=⟨i, .inl rfl,h⟩
theorem J5{P:List PyData->Prop}{i:List PyData}(h:P i):∃j,(PyData.tuple i= .list j\/PyData.tuple i= .tuple j)/\P j:=⟨i, .inr rfl,h⟩
theorem Ra{P:Bool->Prop}{i j:Int}(h:P (decide (i=j))):∃b,gZ (.int i) (.int j) b/\P b:=⟨_, .ii i j,h⟩
theorem T5{P:Bool->Prop}{x y:Bool}(h:P (x==y)):∃b,gZ (.bool x) (.bool y) b/\P b:=⟨_, .bb x y,h⟩
theorem at_{ds:List PyData}{k:Int}{e:PyData}{P:PyData->Prop}(h:bF ds k=some e)(q:P e):∃e,bF ds k=some e/\P e:=⟨e,h,q⟩
theorem Kl{A:Prop}(q:A):([]:List Fd).length<=10000/\A:=⟨by decide,q⟩
theorem Qq{C A:Prop}(c:C)(q:A):C/\A:=⟨c,q⟩
end R
theorem iu{n:Nat}{F:DF}{vs:List V}{H:Hp}{Q:VK}{E:XK}(h:bC n F vs H Q E):∃(nb:Addr->Prop) (ds:List PyData) (Φ:Pd),kX nb H/\ah nb H ds vs/\(∀f d v H',Φ f d->dO H H'->aj (fun a=>nb a\/(f=true/\H a≠none)) H' d v->Q v H')/\F ds Φ:=by
 obtain⟨_,nb,ds,h1,h2,h3⟩:=h
 exact⟨nb,ds,_,h1,h2,fun f d v H' q=>q v H',h3⟩
theorem jf{n:Nat}{F:DF}{vs:List V}{H:Hp}{Q:VK}{E:XK}(h:cI n F vs H Q E):∃(b l:Addr) (ws:List V) (nb:Addr->Prop) (ds:List PyData) (Φ:Pd),vs= .ref b::ws/\cV H b l/\kX nb H/\nb b/\ah nb H ds ws/\(∀f d v H',Φ f d->aX (Nb b) H H'->cV H' b l->aj (fun a=>nb a\/(f=true/\H a≠none)) H' d v->Q v H')/\F ds Φ:=by
 obtain⟨_,b,l,ws,nb,ds,e,hB,h1,hb,h2,h3⟩:=h
 exact⟨b,l,ws,nb,ds,_,e,hB,h1,hb,h2,fun f d v H' q=>q v H',h3⟩
end L2
set_option maxRecDepth 100000
set_option maxHeartbeats 1000000
namespace L2
open PySem PySem.Spec PyProof.Rows
abbrev aq:=List (Int×Int)
abbrev Wo:=List (Option Int)
abbrev c9(prs:aq):PyData:= .list (prs.map pairD)
abbrev j3(wd:Wo):PyData:= .list (wd.map gF)
abbrev bW(p n:Int)(cs:List aq):PyData:= .tuple [.int p, .int n, .list (cs.map c9)]
def wo(prs:aq)(wd:Wo):Prop:=∃pr∈prs,wd[pr.1.toNat]?=some none
instance{prs:aq}{wd:Wo}:Decidable (wo prs wd):=by unfold wo;infer_instance
def nU(p:Int)(prs:aq)(wd:Wo):Option Int:=if wo prs wd then none else some (aU prs wd%p)
def pU(prs:aq)(m:Nat):Prop:=∀pr∈prs,0<=pr.1/\pr.1<m/\Sm pr.2
def mY(wd:Wo):Prop:=∀x,some x∈wd->Sm x
theorem JK{α β:Type}{xs:List α}(φ:α->β){k:Int}{m:Nat}(h0:0<=k)(h1:k<m)(hm:m=xs.length):∃x,xs[k.toNat]?=some x/\bF (xs.map φ) k=some (φ x):=by
 have hk:k.toNat<xs.length:=by omega
 exact⟨xs[k.toNat],aH hk,fS h0 (by rw[aS,aH hk];rfl)⟩
theorem dW{α β:Type}{xs:List α}{φ:α->β}{i:Nat}{d:β}(h:(xs.map φ)[i]?=some d):∃x,xs[i]?=some x/\d=φ x:=by
 rw[aS] at h
 obtain⟨x,hx,e⟩:=jw.mp h
 exact⟨x,hx,e.symm⟩
theorem take_snoc{α:Type}{xs:List α}{i:Nat}{x:α}(h:xs[i]?=some x):xs.take (i+1)=xs.take i++[x]:=by
 rw[zq,h];rfl
theorem Dv(o:Option Int):pH (gF o)=o.isNone:=by cases o<;>rfl
end L2
set_option maxRecDepth 100000
set_option maxHeartbeats 4000000
namespace L2
open PySem PySem.Spec PyProof.Rows
structure Eu(p b L lt r t:Int):Prop where
 l0:0<L
 r0:0<=r
 lp:L<=p
 rp:r<=p
 lc:∃k,L=lt*b+p*k
 rc:∃k,r=t*b+p*k
 dv:∀d,d∣L->d∣r->d∣p/\d∣b%p
 sz:(t.natAbs:Int)*L+(lt.natAbs:Int)*r<=p
theorem Eu.start{p b:Int}(hp:2<=p):Eu p b p 0 (b%p) 1:=by
 have m1:=dR b (show p≠0 by omega)
 have m2:=dQ b (show 0<p by omega)
 refine⟨by omega,m1,rS _,by omega,⟨1,by rw[oV,lg,Int.mul_one]⟩,⟨-(b/p),?_⟩,fun d h1 h2=>⟨h1,h2⟩,?_⟩
 ·have:=mz b p
  rw[Int.one_mul,Int.mul_neg]
  omega
 ·show(1:Int)*p+0*(b%p)<=p
  rw[Int.one_mul,oV]
  omega
theorem Eu.tb{p b L lt r t:Int}(h:Eu p b L lt r t): -p<=t/\t<=p:=by
 have h1:(t.natAbs:Int)*1<=(t.natAbs:Int)*L:=lN (by have:=h.l0;omega) (by omega)
 have h2:0<=(lt.natAbs:Int)*r:=yk (by omega) h.r0
 have:=h.sz
 omega
theorem Eu.next{p b L lt r t:Int}(h:Eu p b L lt r t)(hr:0<r):Eu p b r t (L-L/r*r) (lt-L/r*t)/\L-L/r*r<r:=by
 have e:=mz L r
 have m1:=dR L (show r≠0 by omega)
 have m2:=dQ L hr
 have e':L-L/r*r=L%r:=by rw[qM (L/r) r];omega
 have q0:0<=L/r:=uI (by have:=h.l0;omega) (by omega)
 obtain⟨k1,c1⟩:=h.lc
 obtain⟨k2,c2⟩:=h.rc
 refine⟨⟨hr,by omega,h.rp,by have:=h.rp;omega,h.rc,⟨k1-L/r*k2,?_⟩,fun d d1 d2=>?_,?_⟩,by omega⟩
 ·rw[Int.sub_mul,pC]
  generalize L/r=q at*
  have z:q*r=q*(t*b)+q*(p*k2):=by rw[<-yC,<-c2]
  have z1:q*(t*b)=q*t*b:=(qL q t b).symm
  have z2:q*(p*k2)=p*(q*k2):=by rw[<-qL,qM q p,qL]
  omega
 ·have dL:d∣L:=by
   have z:d∣(L-L/r*r)+L/r*r:=Int.dvd_add d2 (Int.dvd_mul_of_dvd_right d1)
   have z2:(L-L/r*r)+L/r*r=L:=by omega
   rwa[z2] at z
  exact h.dv d dL d1
 ·generalize L/r=q at*
  have a1:((lt-q*t).natAbs:Int)<=(lt.natAbs:Int)+q*(t.natAbs:Int):=by
   have b1:(lt-q*t).natAbs<=lt.natAbs+(q*t).natAbs:=by omega
   have b2:((q*t).natAbs:Int)=q*(t.natAbs:Int):=by
    rw[Int.natAbs_mul]
    have:(q.natAbs:Int)=q:=by omega
    rw[Int.natCast_mul,this]
   omega
  have a2:((lt-q*t).natAbs:Int)*r<=((lt.natAbs:Int)+q*(t.natAbs:Int))*r:=tO a1 (by omega)
  have a3:((lt.natAbs:Int)+q*(t.natAbs:Int))*r=(lt.natAbs:Int)*r+q*(t.natAbs:Int)*r:=sE _ _ _
  have a4:(t.natAbs:Int)*(L-q*r)=(t.natAbs:Int)*L-q*(t.natAbs:Int)*r:=by
   rw[pC,<-qL,qM (t.natAbs:Int) q]
  have:=h.sz
  omega
theorem D6{α:Type}{us:List α}(h:us.length=1):∃a,us=[a]:=by
  cases us with
  |nil=>cases h
  | cons a us =>
    cases us with
    |nil=>exact⟨a,rfl⟩
    |cons _ _=>cases h
theorem ln2{α:Type}{us:List α}(h:us.length=2):∃a b,us=[a,b]:=by
  cases us with
  |nil=>cases h
  | cons a us =>
    obtain⟨b,rfl⟩:=D6 (us:=us) (sX h)
    exact⟨a,b,rfl⟩
theorem Jg{α:Type}{us:List α}(h:us.length=3):∃a b c,us=[a,b,c]:=by
  cases us with
  |nil=>cases h
  | cons a us =>
    obtain⟨b,c,rfl⟩:=ln2 (us:=us) (sX h)
    exact⟨a,b,c,rfl⟩
theorem Ei{α:Type}{us:List α}(h:us.length=4):∃a b c d,us=[a,b,c,d]:=by
  cases us with
  |nil=>cases h
  | cons a us =>
    obtain⟨b,c,d,rfl⟩:=Jg (us:=us) (sX h)
    exact⟨a,b,c,d,rfl⟩
theorem Ss{α:Type}{us:List α}(h:us.length=5):∃a b c d e,us=[a,b,c,d,e]:=by
  cases us with
  |nil=>cases h
  | cons a us =>
    obtain⟨b,c,d,e,rfl⟩:=Ei (us:=us) (sX h)
    exact⟨a,b,c,d,e,rfl⟩
end L2
set_option maxRecDepth 100000
set_option maxHeartbeats 1000000
namespace L2
open PySem PySem.Spec PyProof.Rows
def j8(xs:Array Nat):Prop:=∀(i j x y:Nat),i<j->xs[i]?=some x->xs[j]?=some y->x<y
theorem T8{xs:Array Nat}{q:Nat}(hr:j8 xs):∀(f lo hi:Nat),hi<=xs.size->lo<=hi->hi-lo<=f->(∀i x,i<lo->xs[i]?=some x->x<q)->(∀i x,hi<=i->xs[i]?=some x->q<=x)->
    lo<=SetTable.below.go xs q f lo hi/\SetTable.below.go xs q f lo hi<=hi/\(∀i x,i<SetTable.below.go xs q f lo hi->xs[i]?=some x->x<q)/\(∀i x,SetTable.below.go xs q f lo hi<=i->xs[i]?=some x->q<=x):=by
  intro f
  induction f with
  | zero =>
    intro lo hi h1 h2 h3 h4 h5
    have e:lo=hi:=by omega
    subst e
    exact⟨aQ _,aQ _,h4,h5⟩
  | succ f ih =>
    intro lo hi h1 h2 h3 h4 h5
    unfold SetTable.below.go
    by_cases hlt:lo<hi
    · rw[if_pos hlt]
      have hm:(lo+hi)/2<xs.size:=by omega
      have hg:xs[(lo+hi)/2]?=some xs[(lo+hi)/2]:=kN hm
      have hgd:xs.getD ((lo+hi)/2) q=xs[(lo+hi)/2]:=by rw[C4,hg];rfl
      dsimp only
      rw[hgd]
      by_cases hc:xs[(lo+hi)/2]<q
      · rw[if_pos hc]
        obtain⟨a1,a2,a3,a4⟩:=ih ((lo+hi)/2+1) hi h1 (by omega) (by omega) (fun i x hi' e=>by
          rcases Nat.lt_or_ge i ((lo+hi)/2) with z|z
          · exact mR (hr i _ x _ z e hg) hc
          · have:i=(lo+hi)/2:=by omega
            subst this;rw[hg] at e;cases e;exact hc) h5
        exact⟨by omega,a2,a3,a4⟩
      · rw[if_neg hc]
        obtain⟨a1,a2,a3,a4⟩:=ih lo ((lo+hi)/2) (by omega) (by omega) (by omega) h4 (fun i x hi' e=>by
          rcases Nat.lt_or_ge ((lo+hi)/2) i with z|z
          · exact jl (sU (An hc) (hr _ i _ x z hg e))
          · have:i=(lo+hi)/2:=by omega
            subst this;rw[hg] at e;cases e;exact An hc)
        exact⟨a1,by omega,a3,a4⟩
    · rw[if_neg hlt]
      have e:lo=hi:=by omega
      subst e
      exact⟨aQ _,aQ _,h4,h5⟩
theorem below_at{xs:Array Nat}{q:Nat}(hr:j8 xs):SetTable.below xs q<=xs.size/\(∀i x,i<SetTable.below xs q->xs[i]?=some x->x<q)/\(∀i x,SetTable.below xs q<=i->xs[i]?=some x->q<=x):=by
 obtain⟨_,h2,h3,h4⟩:=T8 (q:=q) hr xs.size 0 xs.size (aQ _) (fT _) (by omega) (fun i x h=>absurd h (Nat.not_lt_zero _)) (fun i x h e=>by
  have:=(qW.mp e).1;omega)
 exact⟨h2,h3,h4⟩
theorem UL{α:Type}{xs:Array α}{p:Nat}{x:α}(hp:p<=xs.size)(i:Nat):(SetTable.insertAt xs p x)[i]?=if i<p then xs[i]? else if i=p then some x else xs[i-1]?:=by
 unfold SetTable.insertAt
 rw[Array.getElem?_append]
 have e1:((xs.extract 0 p).push x).size=p+1:=by rw[Array.size_push,ua];omega
 rw[e1]
 by_cases h1:i<p
 ·rw[if_pos (show i<p+1 by omega),if_pos h1,JD,if_neg (by rw[ua];omega),Jw (by omega)]
  simp
 ·rw[if_neg h1]
  by_cases h2:i=p
  ·rw[if_pos (show i<p+1 by omega),if_pos h2,JD,if_pos (by rw[ua];omega)]
  ·rw[if_neg (show¬i<p+1 by omega),if_neg h2]
   by_cases h3:i-(p+1)<xs.size-p
   ·rw[Jw (by omega),<-kN,show p+(i-(p+1))=i-1 by omega]
   ·rw[AQ (by rw[ua];omega),AQ (by omega)]
theorem j8.insert{xs:Array Nat}{q:Nat}(hr:j8 xs)(hq:xs[SetTable.below xs q]?≠some q):j8 (SetTable.insertAt xs (SetTable.below xs q) q):=by
 obtain⟨h1,h2,h3⟩:=below_at (q:=q) hr
 have h3':∀i x,SetTable.below xs q<=i->xs[i]?=some x->q<x:=fun i x hi e=>by
  rcases CI (h3 i x hi e) with z|z
  ·exact z
  ·subst z
   rcases CI hi with z|z
   ·have hb:SetTable.below xs q<xs.size:=dj z (jl (qW.mp e).1)
    have hg:xs[SetTable.below xs q]?=some xs[SetTable.below xs q]:=kN hb
    have:=hr _ i _ q z hg e
    have:=h3 _ _ (aQ _) hg
    omega
   ·rw[<-z] at e;exact absurd e hq
 intro i j x y hij ex ey
 rw[UL h1] at ex ey
 by_cases a:i<SetTable.below xs q
 ·rw[if_pos a] at ex
  by_cases b:j<SetTable.below xs q
  ·rw[if_pos b] at ey;exact hr i j x y hij ex ey
  ·rw[if_neg b] at ey
   by_cases c:j=SetTable.below xs q
   ·rw[if_pos c] at ey;cases ey;exact h2 i x a ex
   ·rw[if_neg c] at ey;exact hr i (j-1) x y (by omega) ex ey
 ·rw[if_neg a] at ex
  by_cases c:i=SetTable.below xs q
  ·rw[if_pos c] at ex;cases ex
   rw[if_neg (by omega),if_neg (by omega)] at ey
   exact h3' (j-1) y (by omega) ey
  ·rw[if_neg c] at ex
   rw[if_neg (by omega),if_neg (by omega)] at ey
   exact hr (i-1) (j-1) x y (by omega) ex ey
theorem UP{t:SetTable}{ha:Nat->Int}{h:Int}:∀(f:Nat) (p:SetTable.Probe) (j:Nat) (dm:Option Nat),(∀d,p.dummy=some d->t.slot d= .dummy)->SetTable.probe.go t ha h f p=some (.empty j dm)->t.slot j= .empty/\∀d,dm=some d->t.slot d= .dummy:=by
  intro f
  induction f with
  |zero=>intro p j dm _ e;unfold SetTable.probe.go at e;cases e
  | succ f ih =>
    intro p j dm hd e
    have Ew:∀p:SetTable.Probe,(t.advance p).dummy=p.dummy:=fun p=>by unfold SetTable.advance;split<;>rfl
    unfold SetTable.probe.go at e
    cases hs:t.slot p.j with
    |empty=>rw[hs] at e;cases e;exact⟨hs,hd⟩
    |dummy=>rw[hs] at e;exact ih _ j dm (fun d h'=>by rw[Ew] at h';cases h';exact hs) e
    | live i =>
      rw[hs] at e
      dsimp only at e
      split at e
      · cases e
      · exact ih _ j dm (fun d h'=>by rw[Ew] at h';exact hd d h') e
theorem Ji{t:SetTable}{h:Int}{j:Nat}{wd:Bool}(e:t.freeSlot h=some (j,wd)):∀i,t.slot j≠ .live i:=by
 unfold SetTable.freeSlot SetTable.probe at e
 intro i z
 split at e
 ·rename_i j0 dm he
  obtain⟨h1,h2⟩:=UP (10*SetTable.turns t.mask) (t.probeStart h) j0 dm (fun d h'=>by unfold SetTable.probeStart at h';cases h') he
  cases dm with
  |none=>cases e;simp at z;rw[h1] at z;cases z
  |some d=>cases e;simp at z;rw[h2 d rfl] at z;cases z
 ·cases e
structure eG(bt:Bool)(t:SetTable):Prop where
 led:bt=false->t.led=true
 zx:t.plain=true->j8 t.place
theorem eG.standIn{bt:Bool}{t:SetTable}(h:eG bt t)(n:Nat):eG bt (t.standIn n):=⟨h.led,fun z=>by cases z⟩
theorem eG.off{bt:Bool}{t:SetTable}(h:eG bt t):eG bt {t with plain:=false}:=⟨h.led,fun z=>by cases z⟩
theorem eG.put{bt:Bool}{t:SetTable}{j:Nat}(h:eG bt t)(hj:∀i,t.slot j≠ .live i):eG bt (t.put j).1:=by
 refine⟨h.led,fun z=>?_⟩
 refine j8.insert (h.zx z) fun e=>hj (SetTable.below t.place j) ?_
 unfold SetTable.slot
 dsimp only
 rw[if_pos (by rw[e];exact beq_self_eq_true _)]
theorem eG.layNew{bt:Bool}{t:SetTable}{es:Array (Int×Value)}{h:Int}{x:Value}(ok:eG bt t):eG bt (layNew t es h x).2.1:=by
 unfold PySem.layNew
 split
 ·rename_i slot wd e
  dsimp only
  unfold SetTable.orStandIn
  split
  ·exact ok.put (Ji e)
  ·exact(ok.put (Ji e)).standIn _
 ·exact ok.standIn _
theorem Ww(n:Nat)(φ:Nat->Option Nat):j8 (((List.range n).filterMap fun j=>(φ j).map (j,·)).map (·.1)).toArray:=by
  have hp:(((List.range n).filterMap fun j=>(φ j).map (j,·)).map (·.1)).Pairwise (· < ·):=by
    have hs:List.Sublist (((List.range n).filterMap fun j=>(φ j).map (j,·)).map (·.1)) (List.range n):=by
      induction List.range n with
      |nil=>simp
      | cons a r ih =>
        rw[pL]
        cases φ a with
        |none=>exact ih.cons a
        |some y=>exact ih.cons₂ a
    exact List.pairwise_lt_range.sublist hs
  intro i j x y hij ex ey
  rw[Ia] at ex ey
  obtain⟨hi,rfl⟩:=aR.mp ex
  obtain⟨hj,rfl⟩:=aR.mp ey
  exact kR.mp hp i j hi hj hij
theorem eG.U9{bt:Bool}{t:SetTable}{es:Array (Int×Value)}{n:Nat}(ok:eG bt t):eG bt (relayAll t es n).2.1:=by
  unfold relayAll
  split
  · rename_i t' order e
    dsimp only
    split
    · unfold SetTable.relaid SetTable.laid at e
      cases hl:SetTable.layClean (SetTable.sizeAbove n-1) (es.map (·.1)) with
      |none=>rw[hl] at e;cases e
      | some owner =>
        rw[hl] at e
        cases e
        exact⟨ok.led,fun _=>Ww _ _⟩
    · exact ok.standIn _
  · exact ok.standIn _
theorem eG.fresh{bt:Bool}:eG bt (.fresh 0 0 (!bt)):=⟨fun h=>by rw[h];rfl,fun _ i j x y _ e=>by simp[SetTable.fresh] at e⟩
end L2
set_option maxRecDepth 100000
set_option maxHeartbeats 4000000
namespace L2
open PySem PySem.Spec PyProof.Rows
def gG(bt:Bool)(h:Heap)(a:Addr):Prop:=∀o es ep t,h.get? a=some o->o.data= .set es ep t->eG bt t
theorem gG.of{bt:Bool}{h:Heap}{a:Addr}{o:Obj}{es:Array (Int×Value)}{ep:Nat}{t:SetTable}(e:h.get? a=some o)(d:o.data= .set es ep t)(k:eG bt t):gG bt h a:=fun o' es' uT t' e' d'=>by
 rw[e] at e';cases e';rw[d] at d';cases d';exact k
theorem gG.keep{bt:Bool}{h h':Heap}{a:Addr}{o:Obj}(k:gG bt h a)(e:h.get? a=some o)(e':h'.get? a=some o):gG bt h' a:=fun o1 es ep t x d=>by
 rw[e'] at x;cases x;exact k o es ep t e d
section
variable{prog:Program}{w:World}{A:Around}{E:Value->Shared->Prop}{s:Shared}{a:Addr}{bt:Bool}
abbrev IK(prog:Program)(w:World):=intKind prog w
theorem Ib{o:Obj}{es es':Array (Int×Value)}{ep:Nat}{t t':SetTable}{T:Int->Bool}{h:Heap}(g1:h.get? a=some o)(g2:o.ExactSet)(g3:o.data= .set es ep t)(l1:ElemsOf (IK prog w) es'.toList)
  (l2:∀k,T k=true↔∃e∈es'.toList,(IK prog w).is k e.2=true) (l3:es'.size<scanBound) (l4:t'.fits es'.size=true) (tk:eG bt t'):
  (∃o',(h.update a (Obj.putSet es' t')).get? a=some o'/\o'.ExactSet/\o'.data= .set es' (ep+1) t')/\(h.update a (Obj.putSet es' t')).SetOf (IK prog w) a T es'.size/\gG bt (h.update a (Obj.putSet es' t')) a:=by
 obtain⟨q1,q2⟩:=SetOf_store (knd:=IK prog w) (es':=es') (t':=t') (S':=T) g1 g2 g3 l1 l2 l3 l4
 exact⟨⟨_,q1,g2,rfl⟩,q2, .of q1 rfl tk⟩
theorem J1{gg:Bool->Sem Unit}(S4:∀(b:Bool) (s₁:Shared) (Q₁:Unit->Shared->Prop),Q₁ () s₁->wpAny (model prog w) A (gg b) Q₁ E s₁){o:Obj}{es:Array (Int×Value)}{ep:Nat}{t:SetTable}
    (g1:s.heap.get? a=some o) (g2:o.ExactSet) (g3:o.data= .set es ep t) {es1:Array (Int×Value)} {t2:SetTable} {T:Int->Bool} (l1:ElemsOf (IK prog w) es1.toList) (l2:∀k,T k=true↔∃e∈es1.toList,(IK prog w).is k e.2=true)
    (l3:es1.size<scanBound) (l4:t2.fits es1.size=true) (tk:eG bt t2) {wd:Bool} {R:Option Bool->Shared->Prop}
    (fin:∀h',Heap.SameBut a s.heap h'->h'.SetOf (IK prog w) a T es1.size->gG bt h' a->R (some true) {s with heap:=h'}):
    wpAny (model prog w) A (do storeSet a es1 t2
                               if(!wd && t2.tooFull)=true then do
                                 gg (relayAll t2 es1 (SetTable.grown es1.size)).2.2
                                 storeSet a (relayAll t2 es1 (SetTable.grown es1.size)).1 (relayAll t2 es1 (SetTable.grown es1.size)).2.1
                                 pure (some true)
                               else pure (some true)) R E s:=by
  obtain⟨⟨o1,k1,k2,k3⟩,q1,q2⟩:=Ib (T:=T) g1 g2 g3 l1 l2 l3 l4 tk
  have sb:=Heap.SameBut.update s.heap a (Obj.putSet es1 t2)
  refine wpAny_bind (wpAny_storeSet_of g1 g3 ?_ (fits_of_scanBound l3))
  by_cases c:(!wd && t2.tooFull)=true
  · rw[if_pos c]
    have pp:=relayAll_perm t2 es1 (SetTable.grown es1.size)
    have pf:=relayAll_fits t2 es1 (SetTable.grown es1.size)
    have pt:=tk.U9 (es:=es1) (n:=SetTable.grown es1.size)
    generalize relayAll t2 es1 (SetTable.grown es1.size)=Z at pp pf pt⊢
    obtain⟨E3,t3,WU⟩:=Z
    dsimp only at pp pf pt⊢
    have sz:E3.size=es1.size:=by have:=pp.length_eq;rwa[kC,kC] at this
    have O6:∀k,T k=true↔∃e∈E3.toList,(IK prog w).is k e.2=true:=fun k=>(l2 k).trans ⟨fun⟨e,m,z⟩=>⟨e,pp.mem_iff.mpr m,z⟩,fun⟨e,m,z⟩=>⟨e,pp.mem_iff.mp m,z⟩⟩
    obtain⟨_,r1,r2⟩:=Ib (T:=T) k1 k2 k3 (l1.perm pp) O6 (by rw[sz];exact l3) pf pt
    refine wpAny_bind (S4 _ _ _ (wpAny_bind (wpAny_storeSet_of k1 k3 ?_ (fits_of_scanBound (by rw[sz];exact l3)))))
    rw[sz] at r1
    exact wpAny_pure (fin _ (sb.trans (Heap.SameBut.update _ a _)) r1 r2)
  · rw[if_neg c]
    exact wpAny_pure (fin _ sb q1 q2)
theorem U4{S:Int->Bool}{n:Nat}{k:Int}{x:Value}{Q:Bool->Shared->Prop}(hx:(IK prog w).is k x=true)(sc:x.scannable=true)(hS:s.heap.SetOf (IK prog w) a S n)(hT:gG bt s.heap a)(room:n+1<scanBound)
    (fin:∀h',Heap.SameBut a s.heap h'->h'.SetOf (IK prog w) a (fun j=>S j||decide (j=k)) (if S k then n else n+1)->gG bt h' a->Q (!S k) {s with heap:=h'}):
    wpAny (model prog w) A (setAddHashed a x ((IK prog w).hash k)) Q E s:=by
  obtain⟨o,es,ep,t,g1,g2,g3,l1,l2,l3,l4,sz⟩:=hS
  have tk:=hT o es ep t g1 g3
  unfold setAddHashed setAddHashedIn
  refine wpAny_holding (wpAny_bind (wpAny_setState_of g1 g3 l4 ?_))
  dsimp only
  rw[if_pos (byScan_of sc l3 l1)]
  unfold setAddByScan
  refine wpAny_bind (wpAny_bind (wpAny_rule (wpAny_bind (wpAny_setScan_of hx g1 g3 l4 l1 ?_))))
  cases fr:List.findIdx? (fun e=>(IK prog w).is k e.2) es.toList with
  | some j =>
    obtain⟨hj,pj,_⟩:=List.findIdx?_eq_some_iff_getElem.mp fr
    have yes:S k=true:=(l2 k).mpr ⟨_,gP hj,pj⟩
    have z:=fin s.heap (.refl a s.heap) ⟨o,es,ep,t,g1,g2,g3,l1,fun j=>by
      rw[Bool.or_eq_true,decide_eq_true_eq,<-l2 j]
      exact⟨fun q=>q.elim id fun e=>e▸yes, .inl⟩,l3,l4,by rw[if_pos yes];exact sz⟩ hT
    rw[yes] at z
    exact wpAny_pure (wpAny_pure z)
  | none =>
    have no:S k=false:=by
      cases q:S k with
      |false=>rfl
      | true =>
        obtain⟨e,m,p⟩:=(l2 k).mp q
        rw[List.findIdx?_eq_none_iff.mp fr e m] at p;cases p
    have pp:=layNew_perm t es ((IK prog w).hash k) x
    have pf:=layNew_fits t es ((IK prog w).hash k) x
    have pt:=tk.layNew (es:=es) (h:=(IK prog w).hash k) (x:=x)
    dsimp only
    generalize layNew t es ((IK prog w).hash k) x=Z at pp pf pt⊢
    obtain⟨es1,t1,wd,WU⟩:=Z
    dsimp only at pp pf pt⊢
    rw[Array.toList_push] at pp
    have lJ:es1.size=n+1:=by have:=pp.length_eq;rw[bz,kC,kC,sz] at this;exact this
    have fin':∀h',Heap.SameBut a s.heap h'->h'.SetOf (IK prog w) a (fun j=>S j||decide (j=k)) es1.size->gG bt h' a->Q true {s with heap:=h'}:=fun h' x1 x2 x3=>by
      have:=fin h' x1;rw[no,if_neg cC] at this;rw[lJ] at x2;exact this x2 x3
    have gw:∀(b:Bool) (s₁:Shared) (Q₁:Unit->Shared->Prop),Q₁ () s₁->wpAny (model prog w) A (match b with|true=>rule "set.scan.the-table-gave-way" |false=>pure ()) Q₁ E s₁:=fun b s₁ Q₁ q=>by
      cases b
      · exact wpAny_pure q
      · exact wpAny_rule q
    refine wpAny_bind (gw _ _ _ ?_)
    have e1:=(l1.push hx sc).perm pp
    have e2:=mem_push_iff hx l2 pp
    have e3:es1.size<scanBound:=by rw[lJ];exact room
    by_cases pl:t1.plain=true
    · rw[if_pos pl,hashByValue_scannable 8 sc]
      refine wpAny_bind (wpAny_pure ?_)
      refine J1 gw g1 g2 g3 e1 e2 e3 ?_ ?_ fun h' x1 x2 x3=>wpAny_pure (fin' h' x1 x2 x3)
      · split
        · exact pf
        · exact SetTable.fits_plain_off pf
      · split
        · exact pt
        · exact pt.off
    · rw[if_neg pl]
      refine wpAny_bind (wpAny_pure ?_)
      rw[if_pos rfl]
      exact J1 gw g1 g2 g3 e1 e2 e3 pf pt fun h' x1 x2 x3=>wpAny_pure (fin' h' x1 x2 x3)
end
end L2
set_option maxRecDepth 100000
set_option maxHeartbeats 4000000
namespace L2
open PySem PySem.Spec PyProof.Rows
section
variable{prog:Program}{w:World}{A:Around}{R:Result->Shared->Prop}{I:Addr}{fp wr:List Addr}{G:Array GenState->Array GenState->Prop}{n:Nat}{P:Nat->Value->Prop}{St:Nat->Shared->Prop}{bt:Bool}
abbrev met(val:Nat->Int)(i:Nat):Int->Bool:=fun k=>(firstMet val i).any (· ==k)
theorem RV(W:WalksS prog w A.in1 I fp wr G n P St)(C:Addr)(nC:C∉fp)(val:Nat->Int)(hv:∀i v,P i v->∃t,v= .int (val i) t)(room:n+1<scanBound)(fuel:Nat):
    ∀(i:Nat) (s:Shared),n-i=fuel->i<=n->St i s->s.heap.SetOf (IK prog w) C (met val i) (firstMet val i).length->gG bt s.heap C->
      (∀s',Moved (C::wr) G s s'->s'.heap.SetOf (IK prog w) C (met val n) (firstMet val n).length->gG bt s'.heap C->R (.ok (.ret .none)) s')->
      codeAny (model prog w) A (.builtin "set.update.loop" ⟨[.ref C, .ref I],[]⟩) R s:=by
  have nw:C∉wr:=fun z=>nC (W.sub _ z)
  have up:∀b∈wr,b∈C::wr:=fun b z=>cX _ z
  have mv:∀{s s':Shared} {T:Int->Bool} {m:Nat},Moved wr G s s'->s.heap.SetOf (IK prog w) C T m->gG bt s.heap C->s'.heap.SetOf (IK prog w) C T m/\gG bt s'.heap C:=fun mo q tt=>by
    obtain⟨o,es,ep,t,ho,r⟩:=q
    exact⟨⟨o,es,ep,t,mo.heap C _ nw ho,r⟩,tt.keep ho (mo.heap C _ nw ho)⟩
  induction fuel with
  | zero =>
    intro i s e1 e2 st q tt fin
    obtain rfl:i=n:=by omega
    refine codeAny_builtin F.entry_set_update_loop ?_
    rw[lZ AG _]
    refine wpAny_bind (W.done s _ _ st fun s' mo=>?_)
    exact wpAny_pure (fin s' (mo.mono up) (mv mo q tt).1 (mv mo q tt).2)
  | succ fuel ih =>
    intro i s e1 e2 st q tt fin
    have lt:i<n:=by omega
    refine codeAny_builtin F.entry_set_update_loop ?_
    rw[lZ AG _]
    refine wpAny_bind (W.item i s _ _ lt st fun v s' hP st' mo=>?_)
    obtain⟨tok,rfl⟩:=hv i v hP
    obtain⟨q',Uw⟩:=mv mo q tt
    show wpAny _ A.in1 (holding [Value.int (val i) tok] (setAdd C (.int (val i) tok))>>=_) _ _ s'
    unfold setAdd
    refine wpAny_bind (wpAny_holding (wpAny_holding (wpAny_bind ((IK prog w).pyHash (k:=val i) (intKind_is _ _ _ _) ?_))))
    refine U4 (bt:=bt) (s:={s' with toks:=s'.toks+1}) (intKind_is _ _ _ _) rfl q' Uw (by have:=firstMet_length_le val i;omega) fun h' sb q2 UG=>?_
    have q3:h'.SetOf (IK prog w) C (met val (i+1)) (firstMet val (i+1)).length:=SetOf_congr q2 (fun j=>by unfold met;rw[firstMet_succ,step_any]) (by rw[firstMet_succ,step_length])
    refine wpAny_pure ⟨plainId_quiet AG _,ih (i+1) _ (by omega) lt (W.frame _ s' _ _ st' (m8 _) fun b hb o e=>?_) q3 UG fun s2 Nl q4 Xv=>?_⟩
    · rw[sb.2 b fun z:b=C=>nC (z▸hb)];exact e
    · refine fin s2 (Moved.trans W.gtrans ((mo.mono up).then_heap (m8 _) fun b o hb e=>?_) Nl) q4 Xv
      rw[sb.2 b fun z:b=C=>hb (z▸cB)];exact e
end
section
variable{prog:Program}{w:World}{A:Around}{E:Value->Shared->Prop}{s:Shared}
abbrev fO(w:World):Bool:=w.params.followText "set-order"
abbrev kU(w:World):Obj:={cls:= .type "set",dict:=none,data:= .set #[] 0 (.fresh 0 0 (!fO w))}
theorem OI(a:Value){Q₁:Value->Shared->Prop}(fin:Q₁ (.ref s.heap.objs.size) {s with heap:=s.heap.push (kU w)}):codeAny (model prog w) A (.call (.builtin "set.__new__") ⟨[.type "set",a],[]⟩) (wants Q₁ E) s:=by
 refine codeAny_of_tree ?_
 show wpAny _ A.in1 (do checkBuiltinCall "set.__new__" ⟨[.type "set",a],[]⟩;again (.builtin "set.__new__" ⟨[.type "set",a],[]⟩)) _ _ s
 refine wpAny_bind (wpAny_of_eq (F.newCall_set_1 a) (wpAny_pure ⟨plainId_quiet F.plain_set_new _,codeAny_builtin F.entry_set_new ?_⟩))
 rw[lZ F.plain_set_new _]
 unfold Builtin.«set.__new__» Builtin.Frozenset.newClass
 have hsub:=sub_set_self
 obtain⟨hp,g,d,tk,os⟩:=s
 dsimp only at fin⊢
 wp_walk
 refine wpAny_askSetting (wpAny_pure ?_)
 dsimp only
 simp only[newObj]
 exact wpAny_bind (wpAny_alloc (wpAny_pure (wpAny_pure fin)))
theorem Si{l:Addr}{items:Array Value}{ns:List Int}{Q:Value->Shared->Prop}(hh:A.handled=none)(hl:s.heap.IsList l items)(hi:IntsAre items.toList ns)(room:items.size+1<scanBound)
    (fin:∀(h':Heap) (tk:Nat),h'.SetOf (IK prog w) s.heap.objs.size (met (fun i=>ns.getD i 0) items.size) (firstMet (fun i=>ns.getD i 0) items.size).length->gG (fO w) h' s.heap.objs.size->
      (∀b o,b<s.heap.objs.size->s.heap.get? b=some o->h'.get? b=some o)->Q (.ref s.heap.objs.size) {s with heap:=h',toks:=tk}):wpAny (model prog w) A (call (.type "set") [.ref l]) Q E s:=by
  obtain⟨c,tl,Yj⟩:=m7.mro
  have hmade:=m7.made
  have hsub:=m7.sub
  have h1:=m7.notType
  have h2:=m7.canCreate
  have hct:=F.typeCall_set_1 (.ref l)
  refine wpAny_call (codeAny_of_tree ?_)
  show wpAny _ _ (callAny (.type "set") _) _ _ _
  refine wpAny_pure ⟨Code.quiet_builtin _ (by decide+kernel),codeAny_builtin F.entry_type_call ?_⟩
  rw[Around.under_plain (weight_type_call_type "set" [.ref l] []) rfl]
  repeat (any_goals (first|assumption|wp_step))
  refine codeAny_mono (OI (.ref l) (E:=E) (Q₁:=fun obj s₁=>obj= .ref s.heap.objs.size/\s₁={s with heap:=s.heap.push (kU w)}) ⟨rfl,rfl⟩) fun r s₁ hr=>?_
  cases r with
  |error e=>exact hr
  | ok fl =>
    cases fl with
    | ret obj =>
      obtain⟨rfl,rfl⟩:=hr
      have hS:(s.heap.push (kU w)).get? s.heap.objs.size=some (kU w):=fN _ rfl
      have hT:Shared.TypeIs {s with heap:=s.heap.push (kU w)} (.ref s.heap.objs.size) "set":=⟨_,hS,rfl⟩
      have hli:=m7.init.lookup
      have hbi:=m7.init.bind (.ref s.heap.objs.size)
      repeat (any_goals (first|assumption|wp_step))
      refine codeAny_mono (codeAny_call_builtin (R:=wants (fun r s₂=>r= .none/\∃h' tk,s₂={s with heap:=h',toks:=tk}/\h'.SetOf (IK prog w) s.heap.objs.size (met (fun i=>ns.getD i 0) items.size) (firstMet (fun i=>ns.getD i 0) items.size).length/\gG (fO w) h' s.heap.objs.size/\
          (∀b o,b<s.heap.objs.size->s.heap.get? b=some o->h'.get? b=some o)) E) m7.init.plain F.entry_set_init (check_set_init_1 hT ?_)) fun r₂ s₂ yz=>?_
      · obtain⟨ol,fQ,hcl,nl,hdl⟩:=hl
        obtain⟨Yi,Yz,YK,YE⟩:=ol
        simp only at hcl hdl
        subst hcl;subst hdl
        have Kz:=bS (kU w) fQ
        have X3:=F.sub_list_set
        have X5:=F.sub_list_frozenset
        have hne:(Value.type "list"==Value.type "dict")=false:=by decide
        have hl1:(s.heap.push (kU w)).IsList l items:=⟨_,Kz,rfl,nl,rfl⟩
        unfold Builtin.«set.__init__» noKeywords Builtin.Frozenset.updateFrom
        generalize L5:pyIter=PI
        wp_walk
        subst L5
        refine wpAny_pyIter_list hl1 (wpAny_bind (wpAny_runValue ?_))
        have hlS:l<s.heap.objs.size:=bG fQ
        have lJ:(s.heap.push (kU w)).objs.size=s.heap.objs.size+1:=mX ..
        have n1:l≠(s.heap.push (kU w)).objs.size:=by rw[lJ];exact c5 (oB hlS)
        have n2:s.heap.objs.size∉[(s.heap.push (kU w)).objs.size,l]:=by
          rw[lJ];intro z;rcases aP.mp z with z|z
          · exact absurd z (c5 (rj _))
          · exact absurd (aT.mp z) (oU hlS)
        have h3:A.in1.in1.in1.handled=none:=by simp[hh]
        have hS':=bS ({cls:= .type "list_iterator",data:= .fields #[.ref l, .int 0 0]}:Obj) hS
        refine RV (bt:=fO w) ((Walks.list h3 _ l n1 items).toS) s.heap.objs.size n2 (fun i=>ns.getD i 0) (fun i v e=>IntsAre.int_at hi i v (by rw[nq];exact e)) room (items.size-0) 0 _ (by omega) (fT _)
          ⟨⟨_,fN _ rfl,rfl,rfl⟩,(hl1.push _)⟩ (SetOf_congr ((setObjOf_fresh (knd:=IK prog w) (!fO w)).setOf hS' (by unfold scanBound;omega)) (fun _=>rfl) rfl) (.of hS' rfl .fresh) ?_
        intro s' mo q tt
        obtain⟨h',g',d',tk',os'⟩:=s'
        obtain rfl:g'=s.gens:=mo.gens
        obtain rfl:d'=s.drawn:=mo.drawn
        obtain rfl:os'=s.os:=mo.os
        refine wpAny_pure (wpAny_pure ⟨rfl,h',tk',rfl,q,tt,fun b o hb e=>?_⟩)
        refine mo.heap b o (fun z=>?_) (bS _ (bS _ e))
        rcases aP.mp z with z|z
        · exact absurd z (c5 hb)
        · rw[lJ] at z;exact absurd (aT.mp z) (c5 (oB hb))
      · cases r₂ with
        |error e=>exact yz
        | ok fl₂ =>
          cases fl₂ with
          | ret r =>
            obtain⟨rfl,h',tk,rfl,q1,q2,q3⟩:=yz
            repeat (any_goals (first|assumption|wp_step))
            exact fin _ _ q1 q2 q3
          |_=>exact yz.elim
    |_=>exact hr.elim
end
end L2
set_option maxRecDepth 100000
set_option maxHeartbeats 4000000
namespace L2
open PySem PySem.Spec PyProof.Rows
theorem jq:Slot "set_iterator" "__next__" "set_iterator.__next__":= .of (owner:="set_iterator") (n:="__next__") (by rw[typeLookup_type,builtinLookup_eq_fast];kernel_rfl) (by decide+kernel) (by decide+kernel) (by decide+kernel) (by first|exact .inl (by decide+kernel)|exact .inr (by decide+kernel)) (by rw[isSubtype_type];kernel_rfl)
theorem vD:entryFor table "set_iterator.__next__"=some Builtin.«set_iterator.__next__» :=entryFor_of_tree (by kernel_rfl)
theorem uF(a:Value):argsOk "set_iterator.__next__" ⟨[a],[]⟩:=by unfold argsOk;kernel_rfl
theorem Ey:Slot "set" "__iter__" "set.__iter__":= .of (owner:="set") (n:="__iter__") (by rw[typeLookup_type,builtinLookup_eq_fast];kernel_rfl) (by decide+kernel) (by decide+kernel) (by decide+kernel) (by first|exact .inl (by decide+kernel)|exact .inr (by decide+kernel)) (by rw[isSubtype_type];kernel_rfl)
theorem J2:entryFor table "set.__iter__"=some Builtin.«frozenset.__iter__» :=entryFor_alias (id':="frozenset.__iter__") (by kernel_rfl) rfl (by decide+kernel) (by kernel_rfl)
theorem V7(a:Value):argsOk "set.__iter__" ⟨[a],[]⟩:=by unfold argsOk;kernel_rfl
theorem qg:Slot "set_iterator" "__iter__" "set_iterator.__iter__":= .of (owner:="set_iterator") (n:="__iter__") (by rw[typeLookup_type,builtinLookup_eq_fast];kernel_rfl) (by decide+kernel) (by decide+kernel) (by decide+kernel) (by first|exact .inl (by decide+kernel)|exact .inr (by decide+kernel)) (by rw[isSubtype_type];kernel_rfl)
theorem wM:entryFor table "set_iterator.__iter__"=some Builtin.«dict_keyiterator.__iter__» :=entryFor_alias (id':="dict_keyiterator.__iter__") (by kernel_rfl) rfl (by decide+kernel) (by kernel_rfl)
theorem yG(a:Value):argsOk "set_iterator.__iter__" ⟨[a],[]⟩:=by unfold argsOk;kernel_rfl
end L2
set_option maxRecDepth 100000
set_option maxHeartbeats 4000000
namespace L2
open PySem PySem.Spec PyProof.Rows
section
variable{prog:Program}{w:World}{A:Around}{E:Value->Shared->Prop}{s:Shared}{a it tp:Addr}{o:Obj}{es:Array (Int×Value)}{ep:Nat}{t:SetTable}
theorem CV{α:Type}:∀{l:List α} {i:Nat} (h:i<l.length),(l[i]::l.eraseIdx i).Perm l
  |b::r,0,_=>by simp
  | b :: r, i + 1, h => by
    have:=CV (l:=r) (i:=i) (by simpa using h)
    simp only[List.getElem_cons_succ,List.eraseIdx_cons_succ]
    exact(List.Perm.swap b _ _).trans (this.cons b)
theorem xX{α:Type}(nx:Nat->Nat):∀(f k:Nat) (l:List α) (out:Array α),l.length<=f->(pickOrder.go nx f k l out).toList.Perm (out.toList++l):=by
  intro f
  induction f with
  | zero =>
    intro k l out h
    have:l=[]:=nj.mp (by omega)
    subst this
    unfold pickOrder.go
    simp
  | succ f ih =>
    intro k l out h
    unfold pickOrder.go
    cases l with
    |nil=>simp
    | cons b r =>
      have hlt:nx k%(b::r).length<(b::r).length:=vC _ (by simp)
      rw[aH hlt]
      dsimp only
      refine(ih (k+1) _ _ (by rw[GS hlt];omega)).trans ?_
      rw[Array.toList_push,mO]
      refine Df _ ?_
      exact CV hlt
theorem FO(bt:fO w=true)(g1:s.heap.get? a=some o)(g3:o.data= .set es ep t)(g4:t.fits es.size=true){i sl:Nat}{Q:Option (Value×Nat)->Shared->Prop}
  (h:Q (((pickOrder (w.params.setOrder a ep) es)[i]?).map fun e=>(e.2,sl)) s):wpAny (model prog w) A (setNext a sl i ep) Q E s:=by
 unfold setNext
 refine wpAny_bind (wpAny_setState_of g1 g3 g4 ?_)
 dsimp only
 unfold setsByText
 refine wpAny_bind (wpAny_bind (wpAny_askSetting (wpAny_pure ?_)))
 show wpAny _ _ (if fO w=true then _ else _) _ _ _
 rw[if_pos bt]
 rw[if_neg (by simp)]
 refine wpAny_bind ?_
 unfold setWalk
 refine wpAny_bind (wpAny_setState_of g1 g3 g4 ?_)
 dsimp only
 unfold setsByText
 refine wpAny_bind (wpAny_bind (wpAny_askSetting (wpAny_pure ?_)))
 show wpAny _ _ (if fO w=true then _ else _) _ _ _
 rw[if_pos bt]
 refine wpAny_bind (wpAny_askSetting (wpAny_pure ?_))
 exact wpAny_pure h
theorem GN(bt:fO w=false)(g1:s.heap.get? a=some o)(g3:o.data= .set es ep t)(g4:t.fits es.size=true)(tk:eG (fO w) t)(pl:t.plain=true\/es.size<=1){i sl:Nat}{Q:Option (Value×Nat)->Shared->Prop}
  (h:Q (match es[SetTable.below t.place sl]?,t.place[SetTable.below t.place sl]? with|some (_,x),some j=>some (x,j+1)|_,_=>none) s):wpAny (model prog w) A (setNext a sl i ep) Q E s:=by
 unfold setNext
 refine wpAny_bind (wpAny_setState_of g1 g3 g4 ?_)
 dsimp only
 unfold setsByText
 refine wpAny_bind (wpAny_bind (wpAny_askSetting (wpAny_pure ?_)))
 show wpAny _ _ (if fO w=true then _ else _) _ _ _
 rw[bt,if_neg cC]
 show wpAny _ _ (if(!t.plain && decide (es.size>1))=true then _ else _) _ _ _
 rw[if_neg (by
  intro z
  rw[cN,Bool.not_eq_true',decide_eq_true_eq] at z
  rcases pl with p|p
  ·rw[p] at z;cases z.1
  ·omega)]
 refine wpAny_bind ?_
 show wpAny _ _ (if(!t.led && !es.isEmpty)=true then _ else _) _ _ _
 rw[if_neg (by rw[tk.led bt];simp)]
 refine wpAny_pure ?_
 exact wpAny_pure h
theorem MB(g1:s.heap.get? a=some o)(g3:o.data= .set es ep t)(g4:t.fits es.size=true){pl:Nat}{hx:Int}{x:Value}{Q:Value->Shared->Prop}(e:es[pl]?=some (hx,x))(h:Q x s):wpAny (model prog w) A (setNextDrawn a pl ep) Q E s:=by
 unfold setNextDrawn
 refine wpAny_bind (wpAny_setState_of g1 g3 g4 ?_)
 dsimp only
 rw[if_neg (by simp)]
 rw[e]
 exact wpAny_pure h
def jy(h:Heap)(it a:Addr)(first:Value)(i n ep:Nat):Prop:=∃o,h.get? it=some o/\o.cls= .type "set_iterator" /\o.data= .fields #[first, .int i 0, .ref a, .int n 0, .int ep 0]
theorem jy.ty{first:Value}{i n:Nat}(h:jy s.heap it a first i n ep):s.TypeIs (.ref it) "set_iterator":=let ⟨o,e,c,_⟩:=h;⟨o,e,c⟩
theorem uS{first:Value}{i n:Nat}{QQ:Fin->Shared->Prop}{EE:Value->Shared->Prop}(hit:jy s.heap it a first i n ep)(g1:s.heap.get? a=some o)(g3:o.data= .set es ep t)(g4:t.fits es.size=true)(hn:es.size=n)
    (h:wpAny (model prog w) A (match first with
      | .int slot _ => (do
        match<-setNext a slot.toNat i ep with
        | some (x, next) => do
          setField (.ref it) 0 (rawInt next)
          setField (.ref it) 1 (rawInt ((i:Int)+1))
          ret x
        | none => do
          setField (.ref it) 2 .none
          raiseNew (<-newExc (.type "StopIteration") []))
      | _ => (do
        let some places<-seqItems? first|unsupported "internal:set_iterator"
        match places[i]? with
        | some (.int place _) => do
          let x<-setNextDrawn a place.toNat ep
          setField (.ref it) 1 (rawInt ((i:Int)+1))
          ret x
        |some _=>unsupported "internal:set_iterator"
        | none => do
          setField (.ref it) 0 (rawInt 0)
          setField (.ref it) 2 .none
          raiseNew (<-newExc (.type "StopIteration") []))) QQ EE s):wpAny (model prog w) A (Builtin.«set_iterator.__next__» ⟨[.ref it],[]⟩) QQ EE s:=by
  obtain⟨oi,ho,hc,hd⟩:=hit
  unfold Builtin.«set_iterator.__next__»
  refine wpAny_bind (wpAny_pure ?_)
  refine wpAny_bind (wpAny_fieldsOf ho hd ?_)
  dsimp only
  refine wpAny_bind (wpAny_setEntries_of g1 g3 g4 ?_)
  rw[if_neg (by rw[hn];simp)]
  cases first<;>exact h
theorem tF{h:Heap}{first:Value}{i n k:Nat}{x:Value}{oi:Obj}{vs:Array Value}(ho:h.get? it=some oi)(hc:oi.cls= .type "set_iterator")(hd:oi.data= .fields vs):
  (h.update it (Obj.mapFields (·.setIfInBounds k x))).get? it=some (Obj.mapFields (·.setIfInBounds k x) oi)/\(Obj.mapFields (·.setIfInBounds k x) oi).cls= .type "set_iterator" /\(Obj.mapFields (·.setIfInBounds k x) oi).data= .fields (vs.setIfInBounds k x):=by
 refine⟨uQ _ ho (Obj.isFreed_of_fields (Obj.data_mapFields hd _)),(Obj.cls_mapFields ..).trans hc,Obj.data_mapFields hd _⟩
theorem Eh{sl i n nx:Nat}{x:Value}{Q:Option Value->Shared->Prop}(hit:jy s.heap it a (.int sl 0) i n ep)(g1:s.heap.get? a=some o)(g3:o.data= .set es ep t)(g4:t.fits es.size=true)(hn:es.size=n)
  (hN:∀(Q:Option (Value×Nat)->Shared->Prop) (E:Value->Shared->Prop),Q (some (x,nx)) s->wpAny (model prog w) A.in1 (setNext a sl i ep) Q E s)
  (hQ:∀h',jy h' it a (.int nx 0) (i+1) n ep->(∀b,b≠it->h'.get? b=s.heap.get? b)->Q (some x) {s with heap:=h'}):wpAny (model prog w) A (pyNext (.ref it)) Q E s:=by
 obtain⟨oi,ho,hc,hd⟩:=id hit
 unfold pyNext
 refine wpAny_bind (wpAny_attempt (wpAny_callSpecial?_slot (name:=Str.ofString "__next__") hit.ty jq (wpAny_call_entry jq hit.ty vD ?_ (uF _))))
 refine uS hit g1 g3 g4 hn ?_
 dsimp only
 refine wpAny_bind (hN _ _ ?_)
 dsimp only
 obtain⟨u1,u2,u3⟩:=tF (first:= .none) (i:=0) (n:=0) (k:=0) (x:=rawInt nx) ho hc hd
 obtain⟨w1,w2,w3⟩:=tF (first:= .none) (i:=0) (n:=0) (k:=1) (x:=rawInt ((i:Int)+1)) u1 u2 u3
 refine wpAny_bind (wpAny_setField ho hd (by simp) ?_)
 refine wpAny_bind (wpAny_setField u1 u3 (by simp) ?_)
 refine wpAny_pure ⟨x,rfl,wpAny_pure (hQ _ ⟨_,w1,w2,?_⟩ fun b hb=>?_)⟩
 ·rw[w3];simp[rawInt]
 ·exact((kO _ _ (bw hb))).trans (kO _ _ (bw hb))
theorem Fp{QQ:Fin->Shared->Prop}{B:Around}{Q:Option Value->Shared->Prop}(hh:B.handled=none)(hQ:∀o1 o2,Q none {s with heap:=(s.heap.push o1).push o2}):wpAny (model prog w) B (do raiseNew (<-newExc (.type "StopIteration") [])) QQ
  (fun e s'=>wpAny (model prog w) A (do if<-isInstance e (.type "StopIteration") then pure none else throw e) Q E s') s:=by
 refine wpAny_bind ?_
 simp only[newExc,newTuple]
 refine wpAny_bind (wpAny_newObj_type ?_ (by size_fits))
 refine wpAny_bind (m:=firstArgMember _ _) (wpAny_of_eq (a:=Value.none) (by first|rfl|(simp only[firstArgMember];rfl)) (wpAny_newObj_type ?_ (by size_fits)))
 simp only[raiseNew]
 refine wpAny_bind (wpAny_handled ?_)
 rw[hh]
 refine wpAny_bind (wpAny_pure (wpAny_throw ?_))
 refine wpAny_bind (wpAny_isInstance (b:=true) (T:="StopIteration") ⟨_,fN _ rfl,rfl⟩ isSubtype_stop ?_)
 exact wpAny_pure (hQ _ _)
theorem Ho{sl i n:Nat}{Q:Option Value->Shared->Prop}(hh:A.handled=none)(hit:jy s.heap it a (.int sl 0) i n ep)(g1:s.heap.get? a=some o)(g3:o.data= .set es ep t)(g4:t.fits es.size=true)(hn:es.size=n)
  (hN:∀(Q:Option (Value×Nat)->Shared->Prop) (E:Value->Shared->Prop),Q none s->wpAny (model prog w) A.in1 (setNext a sl i ep) Q E s)
  (hQ:∀h',(∀b o,b≠it->s.heap.get? b=some o->h'.get? b=some o)->Q none {s with heap:=h'}):wpAny (model prog w) A (pyNext (.ref it)) Q E s:=by
 obtain⟨oi,ho,hc,hd⟩:=id hit
 unfold pyNext
 refine wpAny_bind (wpAny_attempt (wpAny_callSpecial?_slot (name:=Str.ofString "__next__") hit.ty jq (wpAny_call_entry jq hit.ty vD ?_ (uF _))))
 refine uS hit g1 g3 g4 hn ?_
 dsimp only
 refine wpAny_bind (hN _ _ ?_)
 dsimp only
 refine wpAny_bind (wpAny_setField ho hd (by simp) ?_)
 exact Fp (B:=A.in1) hh fun o1 o2=>hQ _ fun b o hb e=>bS _ (bS _ ((kO _ _ (bw hb)).trans e))
theorem Ou{i n pl:Nat}{hx:Int}{x:Value}{dh:Array Value}{Q:Option Value->Shared->Prop}(hit:jy s.heap it a (.ref tp) i n ep)(g1:s.heap.get? a=some o)(g3:o.data= .set es ep t)(g4:t.fits es.size=true)(hn:es.size=n)
  (htp:∃ot m,s.heap.get? tp=some ot/\ot.data= .seq dh m) (hp:dh[i]?=some (.int pl 0)) (he:es[pl]?=some (hx,x))
  (hQ:∀h',jy h' it a (.ref tp) (i+1) n ep->(∀b,b≠it->h'.get? b=s.heap.get? b)->Q (some x) {s with heap:=h'}):wpAny (model prog w) A (pyNext (.ref it)) Q E s:=by
 obtain⟨oi,ho,hc,hd⟩:=id hit
 obtain⟨ot,m,t1,t2⟩:=htp
 unfold pyNext
 refine wpAny_bind (wpAny_attempt (wpAny_callSpecial?_slot (name:=Str.ofString "__next__") hit.ty jq (wpAny_call_entry jq hit.ty vD ?_ (uF _))))
 refine uS hit g1 g3 g4 hn ?_
 dsimp only
 refine wpAny_bind (wpAny_seqItems t1 t2 ?_)
 dsimp only
 rw[hp]
 dsimp only
 refine wpAny_bind (MB g1 g3 g4 (by simpa using he) ?_)
 obtain⟨w1,w2,w3⟩:=tF (first:= .none) (i:=0) (n:=0) (k:=1) (x:=rawInt ((i:Int)+1)) ho hc hd
 refine wpAny_bind (wpAny_setField ho hd (by simp) (wpAny_pure ⟨x,rfl,wpAny_pure (hQ _ ⟨_,w1,w2,?_⟩ fun b hb=>kO _ _ (bw hb))⟩))
 rw[w3];simp[rawInt]
theorem NC{i n:Nat}{dh:Array Value}{Q:Option Value->Shared->Prop}(hh:A.handled=none)(hit:jy s.heap it a (.ref tp) i n ep)(g1:s.heap.get? a=some o)(g3:o.data= .set es ep t)(g4:t.fits es.size=true)(hn:es.size=n)
  (htp:∃ot m,s.heap.get? tp=some ot/\ot.data= .seq dh m) (hp:dh[i]?=none)
  (hQ:∀h',(∀b o,b≠it->s.heap.get? b=some o->h'.get? b=some o)->Q none {s with heap:=h'}):wpAny (model prog w) A (pyNext (.ref it)) Q E s:=by
 obtain⟨oi,ho,hc,hd⟩:=id hit
 obtain⟨ot,m,t1,t2⟩:=htp
 unfold pyNext
 refine wpAny_bind (wpAny_attempt (wpAny_callSpecial?_slot (name:=Str.ofString "__next__") hit.ty jq (wpAny_call_entry jq hit.ty vD ?_ (uF _))))
 refine uS hit g1 g3 g4 hn ?_
 dsimp only
 refine wpAny_bind (wpAny_seqItems t1 t2 ?_)
 dsimp only
 rw[hp]
 dsimp only
 obtain⟨u1,u2,u3⟩:=tF (first:= .none) (i:=0) (n:=0) (k:=0) (x:=rawInt 0) ho hc hd
 refine wpAny_bind (wpAny_setField ho hd (by simp) (wpAny_bind (wpAny_setField u1 u3 (by simp) ?_)))
 exact Fp (B:=A.in1) hh fun o1 o2=>hQ _ fun b o hb e=>bS _ (bS _ ((kO _ _ (bw hb)).trans ((kO _ _ (bw hb)).trans e)))
end
end L2
set_option maxRecDepth 100000
set_option maxHeartbeats 4000000
namespace L2
open PySem PySem.Spec PyProof.Rows
def slotAt(xs:Array Nat):Nat->Nat
 |0=>0
 |i+1=>xs.getD i 0+1
theorem Ti(xs:Array Nat):slotAt xs 0=0:=rfl
theorem D4(xs:Array Nat)(i:Nat):slotAt xs (i+1)=xs.getD i 0+1:=rfl
theorem EO{xs:Array Nat}(hr:j8 xs){i:Nat}(hi:i<=xs.size):SetTable.below xs (slotAt xs i)=i:=by
  obtain⟨h1,h2,h3⟩:=below_at (q:=slotAt xs i) hr
  have g:∀{j:Nat},j<xs.size->∃y,xs[j]?=some y/\xs.getD j 0=y:=fun{j} hj=>⟨xs[j],kN hj,by rw[C4,kN hj];rfl⟩
  rcases Bj (SetTable.below xs (slotAt xs i)) i with z|z|z
  · obtain⟨y,e,_⟩:=g (dj z hi)
    have:=h3 _ y (aQ _) e
    cases i with
    |zero=>omega
    | succ i =>
      obtain⟨y',e',d'⟩:=g (j:=i) (by omega)
      have es:=D4 xs i
      rw[d'] at es
      rcases CI (Nat.le_of_lt_succ z) with z|z
      · have:=hr _ _ _ _ z e e';omega
      · rw[z,e'] at e;cases e;omega
  · exact z
  · obtain⟨y,e,d⟩:=g (j:=i) (by omega)
    have:=h2 i y z e
    cases i with
    |zero=>rw[Ti] at this;omega
    | succ i =>
      obtain⟨y',e',d'⟩:=g (j:=i) (by omega)
      rw[D4,d'] at this
      have:=hr i (i+1) _ _ (by omega) e' e
      omega
section
variable{prog:Program}{w:World}{a I tp:Addr}{o:Obj}{es:Array (Int×Value)}{ep:Nat}{t:SetTable}
theorem Fb(h:t.fits es.size=true):t.place.size=es.size:=by
 unfold SetTable.fits at h
 rw[cN] at h
 exact eq_of_beq h.1
theorem Ub{A:Around}(hh:A.handled=none)(bt:fO w=true)(g3:o.data= .set es ep t)(g4:t.fits es.size=true)(hne:a≠I):
  Walks prog w A I [I,a] [I] es.size (fun i v=>((pickOrder (w.params.setOrder a ep) es).toList.map (·.2))[i]?=some v) (fun i h=>jy h I a (.int (0:Nat) 0) i es.size ep/\h.get? a=some o) where
 sub:=fun b hb=>by simp at hb;simp[hb]
 frame:=fun i h h' st hk=>by
  obtain⟨⟨oi,h1,h2,h3⟩,h4⟩:=st
  exact⟨⟨oi,hk I (by simp) _ h1,h2,h3⟩,hk a (by simp) _ h4⟩
 item:=fun i s Q E hi st hQ=>by
  have hsz:(pickOrder (w.params.setOrder a ep) es).toList.length=es.size:=by
   have:=(xX (w.params.setOrder a ep) es.size 0 es.toList #[] (by simp)).length_eq
   simpa[pickOrder] using this
  have hlt:i<(pickOrder (w.params.setOrder a ep) es).toList.length:=by omega
  have e1:(pickOrder (w.params.setOrder a ep) es)[i]?=some (pickOrder (w.params.setOrder a ep) es).toList[i]:=by rw[<-nq];exact aH hlt
  refine Eh st.1 st.2 g3 g4 rfl (x:=(pickOrder (w.params.setOrder a ep) es).toList[i].2) (nx:=0) (fun Q E q=>FO bt st.2 g3 g4 (by rw[e1];exact q)) fun h' x1 x2=>?_
  refine hQ _ h' s.toks (by rw[aS,aH hlt];rfl) ⟨x1,(x2 a hne).trans st.2⟩ fun b o' hb e=>(x2 b (fun z=>hb (by simp[z]))).trans e
 done:=fun s Q E st hQ=>by
  have hsz:(pickOrder (w.params.setOrder a ep) es).toList.length=es.size:=by
   have:=(xX (w.params.setOrder a ep) es.size 0 es.toList #[] (by simp)).length_eq
   simpa[pickOrder] using this
  refine Ho hh st.1 st.2 g3 g4 rfl (fun Q E q=>FO bt st.2 g3 g4 (by rw[<-nq,ie (by omega)];exact q)) fun h' x1=>hQ h' s.toks fun b o' hb e=>x1 b o' (fun z=>hb (by simp[z])) e
 self:=fun i s Q E st hQ=>by
  refine wpAny_pyIter_slot st.1.ty qg (wpAny_call_entry qg st.1.ty wM ?_ (yG _))
  exact wpAny_pure ⟨_,rfl,"set_iterator",_,st.1.ty,jq.lookup,hQ⟩
theorem Qi{A:Around}(hh:A.handled=none)(bt:fO w=false)(g3:o.data= .set es ep t)(g4:t.fits es.size=true)(tk:eG (fO w) t)(pl:t.plain=true\/es.size<=1)(hne:a≠I):
  Walks prog w A I [I,a] [I] es.size (fun i v=>(es.toList.map (·.2))[i]?=some v) (fun i h=>jy h I a (.int (slotAt t.place i) 0) i es.size ep/\h.get? a=some o) where
 sub:=fun b hb=>by simp at hb;simp[hb]
 frame:=fun i h h' st hk=>by
  obtain⟨⟨oi,h1,h2,h3⟩,h4⟩:=st
  exact⟨⟨oi,hk I (by simp) _ h1,h2,h3⟩,hk a (by simp) _ h4⟩
 item:=fun i s Q E hi st hQ=>by
  have hps:=Fb g4
  have hr:j8 t.place:=by
   rcases pl with p|p
   ·exact tk.zx p
   ·intro i j x y hij ex ey
    have:=(qW.mp ey).1;omega
  have hlt:i<es.toList.length:=by simpa using hi
  have e1:es[i]?=some es.toList[i]:=by rw[<-nq];exact aH hlt
  have e2:t.place[i]?=some (t.place.getD i 0):=by rw[C4,kN (by omega)];rfl
  refine Eh st.1 st.2 g3 g4 rfl (x:=es.toList[i].2) (nx:=slotAt t.place (i+1)) (fun Q E q=>GN bt st.2 g3 g4 tk pl (by rw[EO hr (by omega),e1,e2];exact q)) fun h' x1 x2=>?_
  refine hQ _ h' s.toks (by rw[aS,aH hlt];rfl) ⟨x1,(x2 a hne).trans st.2⟩ fun b o' hb e=>(x2 b (fun z=>hb (by simp[z]))).trans e
 done:=fun s Q E st hQ=>by
  have hps:=Fb g4
  have hr:j8 t.place:=by
   rcases pl with p|p
   ·exact tk.zx p
   ·intro i j x y hij ex ey
    have:=(qW.mp ey).1;omega
  refine Ho hh st.1 st.2 g3 g4 rfl (fun Q E q=>GN bt st.2 g3 g4 tk pl (by rw[EO hr (by omega),AQ (aQ _)];exact q)) fun h' x1=>hQ h' s.toks fun b o' hb e=>x1 b o' (fun z=>hb (by simp[z])) e
 self:=fun i s Q E st hQ=>by
  refine wpAny_pyIter_slot st.1.ty qg (wpAny_call_entry qg st.1.ty wM ?_ (yG _))
  exact wpAny_pure ⟨_,rfl,"set_iterator",_,st.1.ty,jq.lookup,hQ⟩
theorem P5{A:Around}{ks:List Nat}(hh:A.handled=none)(g3:o.data= .set es ep t)(g4:t.fits es.size=true)(hk:ks.Perm (List.range es.size))(hne:a≠I)(hnt:tp≠I):
    Walks prog w A I [I,a,tp] [I] es.size (fun i v=>((ks.filterMap (es[·]?)).map (·.2))[i]?=some v) (fun i h=>jy h I a (.ref tp) i es.size ep/\h.get? a=some o/\∃ot m,h.get? tp=some ot/\ot.data= .seq (ks.map fun(k:Nat)=>rawInt k).toArray m) where
  sub:=fun b hb=>by simp at hb;simp[hb]
  frame:=fun i h h' st hk=>by
    obtain⟨⟨oi,h1,h2,h3⟩,h4,ot,m,h5,h6⟩:=st
    exact⟨⟨oi,hk I (by simp) _ h1,h2,h3⟩,hk a (by simp) _ h4,ot,m,hk tp (by simp) _ h5,h6⟩
  item:=fun i s Q E hi st hQ=>by
    have hlen:ks.length=es.size:=by rw[hk.length_eq];simp
    have hin:∀k∈ks,k<es.size:=fun k m=>by simpa using hk.mem_iff.mp m
    have hi':i<ks.length:=by omega
    have hki:=hin ks[i] (gP hi')
    have e1:es[ks[i]]?=some es[ks[i]]:=kN hki
    have fm:∀(l:List Nat),(∀k∈l,k<es.size)->∀j (hj:j<l.length),(l.filterMap (es[·]?))[j]?=es[l[j]]?:=by
      intro l
      induction l with
      |nil=>intro _ j hj;simp at hj
      | cons b r ih =>
        intro hl j hj
        have hb:=hl b (cB ..)
        rw[pL,kN hb]
        cases j with
        |zero=>simp[kN hb]
        |succ j=>simpa using ih (fun k m=>hl k (cX _ m)) j (by simpa using hj)
    refine Ou st.1 st.2.1 g3 g4 rfl st.2.2 (pl:=ks[i]) (hx:=es[ks[i]].1) (x:=es[ks[i]].2) (by simp[aH hi',rawInt]) e1 fun h' x1 x2=>?_
    obtain⟨ot,m,t1,t2⟩:=st.2.2
    refine hQ _ h' s.toks ?_ ⟨x1,(x2 a hne).trans st.2.1,ot,m,(x2 tp hnt).trans t1,t2⟩ fun b o' hb e=>(x2 b (fun z=>hb (by simp[z]))).trans e
    rw[aS,fm ks hin i hi',e1];rfl
  done:=fun s Q E st hQ=>by
    have hlen:ks.length=es.size:=by rw[hk.length_eq];simp
    exact NC hh st.1 st.2.1 g3 g4 rfl st.2.2 (by simp;omega) fun h' x1=>hQ h' s.toks fun b o' hb e=>x1 b o' (fun z=>hb (by simp[z])) e
  self:=fun i s Q E st hQ=>by
    refine wpAny_pyIter_slot st.1.ty qg (wpAny_call_entry qg st.1.ty wM ?_ (yG _))
    exact wpAny_pure ⟨_,rfl,"set_iterator",_,st.1.ty,jq.lookup,hQ⟩
end
section
variable{prog:Program}{w:World}{A:Around}{E:Value->Shared->Prop}{s:Shared}{a:Addr}{o:Obj}{es:Array (Int×Value)}{ep:Nat}{t:SetTable}
theorem HV{α:Type}:∀l:List α,(List.range l.length).filterMap (fun i=>l[i]?)=l
  |[]=>rfl
  | x :: l => by
    have:=HV l
    rw[oh,wR,pL,List.filterMap_map]
    simpa[Function.comp_def] using this
theorem Mx{src:Source}{n:Nat}{Q:Nat->Shared->Prop}(hn:n≠0)(h:∀i d',i<n->Q i {s with drawn:=d'}):wpAny (model prog w) A (choose src n) Q E s:=fun Γ p _=>⟨hn,h _ _ (vC _ (Nat.pos_of_ne_zero hn))⟩
theorem Du{α:Type}:∀(n:Nat) (xs:List α) (s:Shared) (Q:List α->Shared->Prop),xs.length<=n->(∀ks d',ks.Perm xs->Q ks {s with drawn:=d'})->wpAny (model prog w) A (drawOrder n xs) Q E s
  | 0, xs, s, Q, hl, h => by
    have:xs=[]:=nj.mp (by omega)
    subst this
    unfold drawOrder
    exact wpAny_pure (h [] s.drawn .nil)
  | n + 1, [], s, Q, hl, h => by
    unfold drawOrder
    exact wpAny_pure (h [] s.drawn .nil)
  | n + 1, x :: xs, s, Q, hl, h => by
    unfold drawOrder
    refine wpAny_bind (Mx (by simp) fun i d' hi=>?_)
    rw[aH hi]
    dsimp only
    refine wpAny_bind (Du n _ _ _ (by rw[GS hi];simp at hl⊢;omega) fun ks d2 hk=>?_)
    exact wpAny_pure (h _ d2 ((hk.cons _).trans (CV hi)))
theorem OW(g1:s.heap.get? a=some o)(g3:o.data= .set es ep t)(g4:t.fits es.size=true){Q:Bool->Shared->Prop}(h:Q (!fO w &&(!t.plain && decide (es.size>1))) s):wpAny (model prog w) A (setDrawn a) Q E s:=by
 unfold setDrawn
 refine wpAny_bind (wpAny_setState_of g1 g3 g4 ?_)
 dsimp only
 unfold setsByText
 refine wpAny_bind (wpAny_bind (wpAny_askSetting (wpAny_pure ?_)))
 exact wpAny_pure h
theorem JQ(g1:s.heap.get? a=some o)(g3:o.data= .set es ep t)(g4:t.fits es.size=true){Q:Nat->Shared->Prop}(h:Q ep s):wpAny (model prog w) A (setEpoch a) Q E s:=by
 unfold setEpoch
 exact wpAny_bind (wpAny_setState_of g1 g3 g4 (wpAny_pure h))
theorem SA{Q:Value->Shared->Prop}(hb:es.size<scanBound)(g1:s.heap.get? a=some o)(g2:o.ExactSet)(g3:o.data= .set es ep t)(g4:t.fits es.size=true)(tk:eG (fO w) t)
    (hQ:∀(I:Addr) (h':Heap) d' (items:List Value) (fp:List Addr) (St:Nat->Heap->Prop),(∀b o,s.heap.get? b=some o->h'.get? b=some o)->s.heap.objs.size<=I->(∀b∈fp,b=a\/s.heap.objs.size<=b)->I∈fp->(∀b∈fp,b<h'.objs.size)->items.Perm (es.toList.map (·.2))->
      (∀B:Around,B.handled=none->Walks prog w B I fp [I] items.length (fun i v=>items[i]?=some v) St)->St 0 h'->Q (.ref I) {s with heap:=h',drawn:=d'}):wpAny (model prog w) A (pyIter (.ref a)) Q E s:=by
  have hT:s.TypeIs (.ref a) "set":=⟨o,g1,g2.1⟩
  have hlt:=bG g1
  refine wpAny_pyIter_slot hT Ey (wpAny_call_entry Ey hT J2 ?_ (V7 _))
  unfold Builtin.«frozenset.__iter__»
  unfold Builtin.Frozenset.slot0 slotArgs
  simp only[List.isEmpty_nil,Bool.not_true,zR,↓reduceIte,bind_assoc,List.length_nil,bne_self_eq_false]
  unfold Builtin.Frozenset.addrOf Builtin.Frozenset.sizeOf
  refine wpAny_bind (wpAny_pure ?_)
  try dsimp only
  refine wpAny_bind (wpAny_pure ?_)
  refine wpAny_bind (wpAny_bind (wpAny_setEntries_of g1 g3 g4 (wpAny_pure ?_)))
  refine wpAny_bind (OW g1 g3 g4 ?_)
  by_cases c:(!fO w &&(!t.plain && decide (es.size>1)))=true
  · rw[if_pos c]
    refine wpAny_bind (Du es.size (List.range es.size) s _ (by simp) fun ks d' hk=>?_)
    unfold newTuple
    refine wpAny_bind (wpAny_newObj_type ?_ ?_)
    rotate_left
    · have hk0:ks.length=es.size:=by rw[hk.length_eq];simp
      show(List.map (fun(i:Nat)=>rawInt i) ks).toArray.size<=sizeLine
      rw[dJ,ak,hk0]
      exact fits_of_scanBound hb
    have qk:=bS ({cls:= .type "tuple",data:= .seq (ks.map fun(i:Nat)=>rawInt i).toArray}:Obj) g1
    refine wpAny_bind (JQ (s:={s with heap:=_,drawn:=d'}) qk g3 g4 ?_)
    unfold newFields
    refine wpAny_bind (wpAny_newObj_type ?_)
    have hk0:ks.length=es.size:=by rw[hk.length_eq];simp
    have fin:=hQ
    clear hQ
    have lJ:(s.heap.push ({cls:= .type "tuple",data:= .seq (ks.map fun(i:Nat)=>rawInt i).toArray}:Obj)).objs.size=s.heap.objs.size+1:=mX ..
    have gT:(s.heap.push ({cls:= .type "tuple",data:= .seq (ks.map fun(i:Nat)=>rawInt i).toArray}:Obj)).get? s.heap.objs.size=some {cls:= .type "tuple",data:= .seq (ks.map fun(i:Nat)=>rawInt i).toArray}:=fN _ rfl
    have gO:∀b o,s.heap.get? b=some o->(s.heap.push ({cls:= .type "tuple",data:= .seq (ks.map fun(i:Nat)=>rawInt i).toArray}:Obj)).get? b=some o:=fun b o e=>bS _ e
    generalize Ry:s.heap.push ({cls:= .type "tuple",data:= .seq (ks.map fun(i:Nat)=>rawInt i).toArray}:Obj)=h1 at qk lJ gT gO⊢
    have gI:(h1.push ({cls:= .type "set_iterator",data:= .fields #[.ref s.heap.objs.size,rawInt 0, .ref a,rawInt es.size,rawInt ep]}:Obj)).get? h1.objs.size=some {cls:= .type "set_iterator",data:= .fields #[.ref s.heap.objs.size,rawInt 0, .ref a,rawInt es.size,rawInt ep]}:=fN _ rfl
    have gS:=bS ({cls:= .type "set_iterator",data:= .fields #[.ref s.heap.objs.size,rawInt 0, .ref a,rawInt es.size,rawInt ep]}:Obj) qk
    have Xo:=bS ({cls:= .type "set_iterator",data:= .fields #[.ref s.heap.objs.size,rawInt 0, .ref a,rawInt es.size,rawInt ep]}:Obj) gT
    have Xd:(h1.push ({cls:= .type "set_iterator",data:= .fields #[.ref s.heap.objs.size,rawInt 0, .ref a,rawInt es.size,rawInt ep]}:Obj)).objs.size=h1.objs.size+1:=mX ..
    subst Ry
    refine wpAny_pure ⟨_,rfl,"set_iterator",_,⟨_,gI,rfl⟩,jq.lookup,?_⟩
    have pp:(ks.filterMap (es[·]?)).Perm es.toList:=by
      have:=hk.filterMap (es[·]?)
      have e:(List.range es.size).filterMap (es[·]?)=es.toList:=by
        have:=HV es.toList
        simpa using this
      rwa[e] at this
    have hn:((ks.filterMap (es[·]?)).map (·.2)).length=es.size:=by rw[ak,pp.length_eq];simp
    have pV:=xT (rj s.heap.objs.size) lJ.symm
    refine fin _ _ d' ((ks.filterMap (es[·]?)).map (·.2)) [_,a,s.heap.objs.size] _ (fun b o e=>bS _ (gO b o e)) (jl pV) (fun b m=>?_) (cB ..) (fun b m=>?_) (pp.map _) (fun B hB=>by rw[hn];exact P5 hB g3 g4 hk (c5 (mR hlt pV)) (c5 pV)) ?_
    · rcases aP.mp m with e|m
      · exact .inr (by rw[e];exact jl pV)
      · rcases aP.mp m with e|m
        · exact .inl e
        · exact .inr (v8 (aT.mp m).symm)
    · refine xT ?_ Xd.symm
      rcases aP.mp m with e|m
      · rw[e];exact rj _
      · rcases aP.mp m with e|m
        · rw[e];exact oB (mR hlt pV)
        · rw[aT.mp m];exact oB pV
    · exact⟨⟨_,gI,rfl,rfl⟩,gS,_,_,Xo,rfl⟩
  · rw[if_neg c]
    refine wpAny_bind (wpAny_pure ?_)
    refine wpAny_bind (JQ g1 g3 g4 ?_)
    unfold newFields
    refine wpAny_bind (wpAny_newObj_type ?_)
    have gI:(s.heap.push ({cls:= .type "set_iterator",data:= .fields #[rawInt 0,rawInt 0, .ref a,rawInt es.size,rawInt ep]}:Obj)).get? s.heap.objs.size=some {cls:= .type "set_iterator",data:= .fields #[rawInt 0,rawInt 0, .ref a,rawInt es.size,rawInt ep]}:=fN _ rfl
    have gS:=bS ({cls:= .type "set_iterator",data:= .fields #[rawInt 0,rawInt 0, .ref a,rawInt es.size,rawInt ep]}:Obj) g1
    have hfp:∀b∈[s.heap.objs.size,a],b=a\/s.heap.objs.size<=b:=fun b m=>by
      rcases aP.mp m with e|m
      · exact .inr (v8 e.symm)
      · exact .inl (aT.mp m)
    have hsz:(s.heap.push ({cls:= .type "set_iterator",data:= .fields #[rawInt 0,rawInt 0, .ref a,rawInt es.size,rawInt ep]}:Obj)).objs.size=s.heap.objs.size+1:=mX ..
    have Fj:∀b∈[s.heap.objs.size,a],b<(s.heap.push ({cls:= .type "set_iterator",data:= .fields #[rawInt 0,rawInt 0, .ref a,rawInt es.size,rawInt ep]}:Obj)).objs.size:=fun b m=>by
      rw[hsz]
      rcases aP.mp m with e|m
      · rw[e];exact rj _
      · rw[aT.mp m];exact oB hlt
    refine wpAny_pure ⟨_,rfl,"set_iterator",_,⟨_,gI,rfl⟩,jq.lookup,?_⟩
    cases bt:fO w with
    | true =>
      have pp:(pickOrder (w.params.setOrder a ep) es).toList.Perm es.toList:=by simpa[pickOrder] using xX (w.params.setOrder a ep) es.size 0 es.toList #[] (by simp)
      have hn:((pickOrder (w.params.setOrder a ep) es).toList.map (·.2)).length=es.size:=by rw[ak,pp.length_eq];simp
      refine hQ _ _ s.drawn ((pickOrder (w.params.setOrder a ep) es).toList.map (·.2)) [s.heap.objs.size,a] _ (fun b o e=>bS _ e) (aQ _) hfp (by simp) Fj (pp.map _) (fun B hB=>by rw[hn];exact Ub hB bt g3 g4 (c5 hlt)) ?_
      exact⟨⟨_,gI,rfl,rfl⟩,gS⟩
    | false =>
      have pl:t.plain=true\/es.size<=1:=by
        rw[bt,Bool.not_false,AJ] at c
        cases hp:t.plain with
        |true=>exact .inl rfl
        | false =>
          rw[hp,Bool.not_false,AJ,decide_eq_true_eq] at c
          exact .inr (by omega)
      have hn:(es.toList.map (·.2)).length=es.size:=by simp
      refine hQ _ _ s.drawn (es.toList.map (·.2)) [s.heap.objs.size,a] _ (fun b o e=>bS _ e) (aQ _) hfp (by simp) Fj (.refl _) (fun B hB=>by rw[hn];exact Qi hB bt g3 g4 tk pl (c5 hlt)) ?_
      exact⟨⟨_,gI,rfl,rfl⟩,gS⟩
end
end L2
set_option maxRecDepth 100000
set_option maxHeartbeats 4000000
namespace L2
open PySem PySem.Spec PyProof.Rows
section
variable{prog:Program}{w:World}{A:Around}{E:Value->Shared->Prop}{s:Shared}{a:Addr}{o:Obj}{es:Array (Int×Value)}{ep:Nat}{t:SetTable}
theorem SW{Q:Bool->Shared->Prop}(hT:s.TypeIs (.ref a) "set")(h:Q false s):wpAny (model prog w) A (Builtin.List.listLengthHint (.ref a)) Q E s:=by
 unfold Builtin.List.listLengthHint
 refine wpAny_bind (wpAny_specialOf hT PySem.F.slot_set_len.lookup ?_)
 generalize hid:("set.__len__":String)=id0
 wp_delta
 rw[show splitId id0=some ("set","__len__") from by subst hid;decide+kernel]
 subst hid
 refine wpAny_bind (wpAny_isInstance (b:=true) (T:="set") hT (by rw[isSubtype_type];kernel_rfl) ?_)
 refine wpAny_ite_split (fun z=>absurd z (by decide)) fun _=>wpAny_ite_split (fun _=>?_) fun z=>absurd (by decide+kernel) z
 exact wpAny_bind (wpAny_typeOf hT (wpAny_pure h))
theorem WD{items:List Value}{acc:Array Value}(h:ItemsOf (fun i v=>items[i]?=some v) acc items.length):acc.toList=items:=by
 apply gR
 intro i
 by_cases hi:i<acc.size
 ·have e:acc[i]?=some acc[i]:=kN hi
  rw[nq,e,h.2 i _ e]
 ·have:=h.1
  rw[ie (by simp;omega),ie (by omega)]
theorem V9{Q:List Value->Shared->Prop}(hh:A.handled=none)(hb:es.size<scanBound)(g1:s.heap.get? a=some o)(g2:o.ExactSet)(g3:o.data= .set es ep t)(g4:t.fits es.size=true)(tk:eG (fO w) t)
  (hQ:∀h' d' tk' items,(∀b o,s.heap.get? b=some o->h'.get? b=some o)->s.heap.objs.size<=h'.objs.size->items.Perm (es.toList.map (·.2))->Q items {s with heap:=h',drawn:=d',toks:=tk'}):wpAny (model prog w) A (collect (.ref a)) Q E s:=by
 have hlt:=bG g1
 unfold collect
 refine wpAny_bind (wpAny_runValue (codeAny_builtin DH ?_))
 rw[lZ GK _]
 show wpAny _ A.in1 (newList []>>=fun l=>again (.builtin "list.__iadd__" ⟨[l, .ref a],[]⟩)) _ _ s
 refine wpAny_bind (wpAny_newObj_type ?_)
 refine wpAny_pure ⟨plainId_quiet sW _,codeAny_builtin Ez ?_⟩
 rw[lZ sW _]
 have gL:(s.heap.push ({cls:= .type "list",data:= .seq ([]:List Value).toArray}:Obj)).get? s.heap.objs.size=some {cls:= .type "list",data:= .seq ([]:List Value).toArray}:=fN _ rfl
 have gA:=bS ({cls:= .type "list",data:= .seq ([]:List Value).toArray}:Obj) g1
 have Et:(s.heap.push ({cls:= .type "list",data:= .seq ([]:List Value).toArray}:Obj)).objs.size=s.heap.objs.size+1:=mX ..
 show wpAny _ A.in1 (Builtin.List.listExtendWith (.ref s.heap.objs.size) (.ref a) (.ref s.heap.objs.size)) _ _ {s with heap:=s.heap.push ({cls:= .type "list",data:= .seq ([]:List Value).toArray}:Obj)}
 have hkeep:∀b o,s.heap.get? b=some o->(s.heap.push ({cls:= .type "list",data:= .seq ([]:List Value).toArray}:Obj)).get? b=some o:=fun b o e=>bS _ e
 generalize s.heap.push ({cls:= .type "list",data:= .seq ([]:List Value).toArray}:Obj)=h1 at gL gA Et hkeep⊢
 unfold Builtin.List.listExtendWith
 refine wpAny_bind (wpAny_typeOf (T:="set") ⟨o,gA,g2.1⟩ ?_)
 have n1:Builtin.List.listSameRef (.ref s.heap.objs.size) (.ref a)=false:=by
  show(s.heap.objs.size==a)=false
  exact beq_eq_false_iff_ne.mpr (oU hlt)
 have n2:(Value.type "set"==Value.type "list")=false:=by decide
 have n3:(Value.type "set"==Value.type "tuple")=false:=by decide
 simp only[n1,n2,n3,oO,zR,if_false]
 refine wpAny_bind (SA (s:={s with heap:=h1}) hb gA g2 g3 g4 tk fun I h2 d' items fp St k1 k2 k3 k4 k5 pp W st=>?_)
 have MF:=k1 _ _ gA
 have xP:=k1 _ _ gL
 refine wpAny_bind (wpAny_holding (SW (s:={s with heap:=h2,drawn:=d'}) ⟨o,MF,g2.1⟩ ?_))
 have lS:s.heap.objs.size<h1.objs.size:=xT (rj _) Et.symm
 have nS:s.heap.objs.size∉fp:=fun m=>by
  rcases k3 _ m with e|e
  ·exact absurd e (oU hlt)
  ·exact absurd (dj lS e) (jB _)
 have hil:items.length<=sizeLine:=by
  rw[pp.length_eq,ak,kC];exact fits_of_scanBound hb
 have key:∀(h3:Heap) (c:Nat),St 0 h3->(∀b o,b≠s.heap.objs.size->h2.get? b=some o->h3.get? b=some o)->h3.get? s.heap.objs.size=some {cls:= .type "list",data:= .seq #[] c}->
   codeAny (model prog w) A (.builtin "list.extend.loop" ⟨[.ref s.heap.objs.size, .ref I, .ref s.heap.objs.size],[]⟩) (fun r s'=>match r with
    | .ok (.ret v)=>wpAny (model prog w) A (match v with| .ref x=>(do match(<-load x).data with| .seq xs _=>pure xs.toList|_=>unsupported "internal:collect")|_=>unsupported "internal:collect") Q E s'
    | .ok _=>False
    | .error e=>E e s') {s with heap:=h3,drawn:=d'}:=by
  intro h3 c st3 q1 q2
  refine codeAny_extend_loopS ((W A.in1 hh).toS) hil _ nS _ items.length 0 _ #[] c rfl (fT _) st3 q2 (ItemsOf.nil _) fun s' acc c' mo q3 q4=>?_
  refine wpAny_bind (wpAny_load q3 (wpAny_pure ?_))
  rw[WD q4,Moved.eq_with mo]
  refine hQ s'.heap d' s'.toks items (fun b o e=>?_) ?_ pp
  ·have nb:b≠s.heap.objs.size:=c5 (bG e)
   refine mo.heap b o (fun m=>?_) (q1 b o nb (k1 b o (hkeep b o e)))
   rcases aP.mp m with z|z
   ·exact nb z
   ·have z:=aT.mp z
    rw[z] at e
    exact absurd (dj (mR (bG e) lS) k2) (jB _)
  ·exact jl (bG q3)
 refine wpAny_ite_split (fun _=>?_) fun _=>wpAny_pure ⟨plainId_quiet ED _,key h2 _ st (fun _ _ _ e=>e) xP⟩
 refine wpAny_bind (wpAny_rule (wpAny_bind ?_))
 show wpAny _ A.in1 (updateSeq s.heap.objs.size (·.push .none)>>=fun _=>updateSeq s.heap.objs.size (·.pop)) _ _ _
 have u1:=uQ (Obj.mapSeq (·.push Value.none)) xP rfl
 have u2:=uQ (Obj.mapSeq (·.pop)) u1 rfl
 refine wpAny_bind (wpAny_updateSeq xP rfl (wpAny_updateSeq (hz:=by seq_fits) u1 rfl ?_))
 have E8:∀b o,b≠s.heap.objs.size->h2.get? b=some o->((h2.update s.heap.objs.size (Obj.mapSeq (·.push Value.none))).update s.heap.objs.size (Obj.mapSeq (·.pop))).get? b=some o:=fun b o nb e=>(kO _ _ (bw nb)).trans ((kO _ _ (bw nb)).trans e)
 exact wpAny_pure ⟨plainId_quiet ED _,key _ _ ((W A.in1 hh).frame 0 _ _ st fun b m o e=>E8 b o (fun z=>nS (z▸m)) e) E8 u2⟩
theorem FI{ks:List Int->Prop}:∀{vs:List Value},(∀v∈vs,∃k t,v= .int k t)->∃ns,IntsAre vs ns
  |[],_=>⟨[], .nil⟩
  | v :: vs, h => by
    obtain⟨k,t,rfl⟩:=h v (cB ..)
    obtain⟨ns,hn⟩:=FI (ks:=ks) fun v m=>h v (cX _ m)
    exact⟨k::ns, .cons k t hn⟩
theorem FT:∀{vs:List Value} {ns:List Int},IntsAre vs ns->∀k,k∈ns↔∃t, .int k t∈vs
  |_,_, .nil,k=>by simp
  | _, _, .cons j t h, k => by
    rw[aP,FT h k]
    constructor
    · rintro(rfl|⟨t',m⟩)
      · exact⟨_,cB ..⟩
      · exact⟨t',cX _ m⟩
    · rintro⟨t',m⟩
      rcases aP.mp m with e|m
      · cases e;exact .inl rfl
      · exact .inr ⟨t',m⟩
theorem Sn{S:Int->Bool}{n:Nat}{Q:Value->Shared->Prop}(hh:A.handled=none)(hS:s.heap.SetOf (IK prog w) a S n)(hT:gG (fO w) s.heap a)(h64:n<64)
  (h : ∀ h' d' tk' (l : Addr) (out : List Value) (ns : List Int) (e : Nat), (∀ b o, s.heap.get? b = some o -> h'.get? b = some o) -> s.heap.objs.size <= l -> h'.get? l = some (seqObj "list" out.toArray e) -> IntsAre out ns -> ns.Pairwise (· <= ·) -> (∀ k, S k = true ↔ k ∈ ns) -> ns.length = n ->
   Q (.ref l) {s with heap:=h',drawn:=d',toks:=tk'}):wpAny (model prog w) A (call (.builtin "sorted") [.ref a]) Q E s:=by
 obtain⟨o,es,ep,t,g1,g2,g3,l1,l2,l3,l4,sz⟩:=hS
 refine BU kind_sorted plain_sorted entry_sorted (args_sorted1 _) ?_
 unfold Builtin.«sorted»
 refine wpAny_bind (m:=checkCount "sorted" 1 1 _) (wpAny_pure (wpAny_bind ?_))
 refine V9 (A:=A.in1) hh l3 g1 g2 g3 l4 (hT o es ep t g1 g3) fun h1 d1 A7 items k1 k2 pp=>?_
 have hint:∀v∈items,∃k t,v= .int k t:=fun v m=>by
  obtain⟨e,m',rfl⟩:=dN.mp (pp.mem_iff.mp m)
  obtain⟨⟨k,hk,_⟩,_⟩:=l1 e m'
  obtain⟨t,ht⟩:=uM hk
  exact⟨k,t,ht⟩
 obtain⟨ns,hI⟩:=FI (ks:=fun _=>True) hint
 have hlen:items.length=n:=by rw[pp.length_eq,ak,kC,sz]
 refine wpAny_bind (wpAny_newList ?_)
 have gL:(h1.push (seqObj "list" items.toArray 0)).get? h1.objs.size=some (seqObj "list" items.toArray 0):=fN _ rfl
 refine wpAny_bind (wpAny_holding (wpAny_call_entry slot_list_sort ⟨_,gL,rfl⟩ entry_list_sort (list_sort_tree gL hI (by omega) fun out ns' a1 a2 a3=>⟨_,rfl,?_⟩) (args_list_sort _)))
 obtain⟨e,he⟩:=sortedHeap_at (out:=out) gL
 refine wpAny_pure ⟨_,rfl,h _ d1 A7 h1.objs.size out.toList ns' e (fun b o q=>?_) k2 (by simpa using he) a1 a3 (fun k=>?_) ?_⟩
 ·have lb:=bG (k1 b o q)
  rw[sortedHeap_old (c5 lb) (by rw[mX];exact oB lb)]
  exact bS _ (k1 b o q)
 ·rw[a2.mem_iff,FT hI,l2 k]
  constructor
  ·rintro⟨e,m,q⟩
   obtain⟨t,ht⟩:=uM q
   exact⟨t,pp.mem_iff.mpr (ht▸dN.mpr ⟨e,m,rfl⟩)⟩
  ·rintro⟨t,m⟩
   obtain⟨e,m',q⟩:=dN.mp (pp.mem_iff.mp m)
   exact⟨e,m',by rw[q];exact intKind_is _ _ _ _⟩
 ·rw[a2.length_eq,<-hI.length,hlen]
end
end L2
set_option maxRecDepth 100000
set_option maxHeartbeats 4000000
namespace L2
open PySem PySem.Spec PyProof.Rows
def sr(P:Program)(w:World)(a:Addr)(S:Int->Bool)(n:Nat):HO:= .ext fun h=>h.SetOf (IK P w) a S n/\gG (fO w) h a
theorem Inv.dr{X:Cx}{pins:List (Addr×Obj)}{σ:St}{H:Hp}{s:Shared}(I:Inv X pins σ H s)(d:Drawn):Inv X pins σ H {s with drawn:=d}:=
 ⟨I.ok,I.os,I.bare,I.base,I.loc,I.cell,I.free,I.j4,I.pin,I.hok,I.len⟩
theorem uC:∀{ns:List Int} {us:List Value},Vals (ns.map V.int) us->IntsAre us ns
  |[],_, .nil=> .nil
  | n :: ns, _, .cons r t => by
    obtain⟨k,rfl⟩:=r
    exact .cons n k (uC t)
theorem vg:∀{us:List Value} {ns:List Int},IntsAre us ns->Vals (ns.map V.int) us
 |_,_, .nil=> .nil
 |_,_, .cons k t h=> .cons ⟨t,rfl⟩ (vg h)
theorem Rt{σ:List Int}{k:Int}(h:σ.Nodup):(step_dedup σ k).Nodup:=by
 unfold step_dedup
 split
 ·exact h
 ·rename_i q
  rw[oH]
  refine⟨h,by simp,fun x hx y hy=>?_⟩
  rw[aT.mp hy]
  intro e
  subst e
  exact q (by simp[hx])
theorem DN(val:Nat->Int):∀i,(firstMet val i).Nodup
 |0=>mG
 |i+1=>by rw[firstMet_succ];exact Rt (DN val i)
theorem Io:∀{ds ns:List Int},ds.Nodup->(∀k∈ds,k∈ns)->ns.length<=ds.length->ds.Perm ns
  | [], ns, _, _, hl => by
    have:ns=[]:=nj.mp (by simpa using hl)
    rw[this]
  | d :: ds, ns, hd, hs, hl => by
    have hm:=hs d (cB ..)
    obtain⟨h1,h2⟩:=iC.mp hd
    have hp:=List.perm_cons_erase hm
    refine(List.Perm.cons d (Io h2 (fun k hk=>?_) ?_)).trans hp.symm
    · rcases aP.mp (hp.mem_iff.mp (hs k (cX _ hk))) with e|e
      · subst e;exact absurd hk h1
      · exact e
    · have:=hp.length_eq;simp at this hl⊢;omega
def rO(P:Program)(w:World)(K:PySem.W.Frag):List V->Hp->VK->Prop:=fun xs H Q=>∃p,∃ns:List Int,xs=[.ref p]/\aV K H p (ns.map V.int)/\ns.length<=4000/\∀a (ms:List Int),H a=none->ms.Nodup->(∀k,k∈ms↔k∈ns)->Q (.ref a) (upd H a (sr P w a (fun k=>ms.any (· ==k)) ms.length))
def rR(P:Program)(w:World):List V->Hp->VK->Prop:=fun xs H Q=>∃a,∃ms:List Int,xs=[.ref a]/\H a=some (sr P w a (fun k=>ms.any (· ==k)) ms.length)/\ms.Nodup/\ms.length<64/\
 ∀l (rs:List Int),H l=none->rs.Pairwise (· < ·)->(∀k,k∈rs↔k∈ms)->Q (.ref l) (upd H l (.lst (rs.map V.int)))
section
variable{X:Cx}
theorem wQ(hc:X.calm=true):fk X (.type "set") (rO X.prog X.w X.K):=by
 intro pins s σ H xs us Q I rv h
 obtain⟨p,ns,rfl,hp,hn,q⟩:=h
 obtain⟨u,rfl,ru⟩:=vals1 rv
 cases ru
 obtain⟨its,rs,il,hz⟩:=I.list hp
 have hI:=uC rs
 have hlen:=hI.length
 refine Si (I.ok.hd hc) il.isList (by simpa using hI) (by rw[dJ];unfold scanBound;omega) fun h' tk q1 q2 q3=>?_
 have hmem:∀k,k∈firstMet (fun i=>ns.getD i 0) its.toArray.size↔k∈ns:=fun k=>by
  have e:=firstMet_any (fun i=>ns.getD i 0) its.toArray.size k
  have e2:(List.range its.toArray.size).map (fun i=>ns.getD i 0)=ns:=by
   rw[dJ,hlen]
   apply List.ext_getElem
   ·simp
   ·intro i h1 h2
    simp[cM,aH h2]
  rw[e2] at e
  have a1:∀(l:List Int),(l.any (· ==k))=true↔k∈l:=fun l=>by
   rw[oY]
   exact⟨fun⟨x,m,z⟩=>(beq_iff_eq.mp z)▸m,fun m=>⟨k,m,beq_self_eq_true _⟩⟩
  rw[<-a1,<-a1,e]
 have kp:∀b u,s.heap.get? b=some u->h'.get? b=some u:=fun b u e=>q3 b u (bG e) e
 have new:bU X.prog X.w (upd H s.heap.objs.size (sr X.prog X.w s.heap.objs.size (fun k=>(firstMet (fun i=>ns.getD i 0) its.toArray.size).any (· ==k)) (firstMet (fun i=>ns.getD i 0) its.toArray.size).length)) h' s.heap.objs.size (sr X.prog X.w s.heap.objs.size (fun k=>(firstMet (fun i=>ns.getD i 0) its.toArray.size).any (· ==k)) (firstMet (fun i=>ns.getD i 0) its.toArray.size).length):=by
  refine⟨⟨q1,q2⟩,?_,fun h1 h2 z k=>?_⟩
  ·obtain⟨o,_,_,_,ho,_⟩:=q1;exact⟨o,ho⟩
  ·obtain⟨⟨o,es,ep,t,ho,r⟩,tt⟩:=z
   exact⟨⟨o,es,ep,t,k o ho,r⟩,tt.keep ho (k o ho)⟩
 exact⟨.ref s.heap.objs.size,_,I.laid (t':=tk) kp (aQ _) new,rfl,q _ _ (I.hok.fresh (aQ _)) (DN _ _) hmem⟩
theorem xY(hc:X.calm=true):fk X (.builtin "sorted") (rR X.prog X.w):=by
 intro pins s σ H xs us Q I rv h
 obtain⟨a,ms,rfl,hH,nd,h64,q⟩:=h
 obtain⟨u,rfl,ru⟩:=vals1 rv
 cases ru
 obtain⟨⟨q1,q2⟩,_,_⟩:=I.hok a _ hH
 refine Sn (I.ok.hd hc) q1 q2 h64 fun h' d' tk' l out ns e kp hl gl hI pw hm hn=>?_
 have a1:∀k,(ms.any (· ==k))=true↔k∈ms:=fun k=>by
  rw[oY]
  exact⟨fun⟨x,m,z⟩=>(beq_iff_eq.mp z)▸m,fun m=>⟨k,m,beq_self_eq_true _⟩⟩
 have hm':∀k,k∈ns↔k∈ms:=fun k=>by rw[<-hm k,a1]
 have pp:=Io nd (fun k m=>(hm' k).mpr m) (v8 hn)
 have WL:ns.Nodup:=pp.nodup_iff.mp nd
 have lt:ns.Pairwise (· < ·):=by
  have:=pw.and WL
  exact this.imp fun⟨x,y⟩=>by omega
 have new:bU X.prog X.w (upd H l (.lst (ns.map V.int))) h' l (.lst (ns.map V.int)):=by
  refine⟨?_,out,e,vg hI,gl⟩
  rw[ak,hn];exact eK (jl h64) (by decide)
 exact⟨.ref l,_,(I.laid (t':=tk') kp hl new).dr d',rfl,q _ _ (I.hok.fresh hl) lt hm'⟩
end
theorem au.yI{G:Gx}{ρ:Rh}{te:TE}{P:Program}{w:World}{K:PySem.W.Frag}{Θ:Bool->List PyData->Prop}(h:Ev G ρ te fun _ x=>∃ns:List Int,x= .list (ns.map .int)/\ns.length<64/\∀rs:List Int,rs.Pairwise (· < ·)->(∀k,k∈rs↔k∈ns)->Θ true (rs.map .int)):
  au G ρ (fJ (rR P w) (br (fJ (rO P w K) (br te bM)) bM)) Θ:=fun nb σ H Q W z=>
 h nb σ H _ W fun f v H1 x ⟨ns,ex,hn,q⟩ s1 hv=>by
  subst ex
  obtain⟨a,xs,rfl,na,hx,hd⟩:=hv.eO
  have e:=o8 hd
  subst e
  refine⟨a,ns,rfl, .of hx,by omega,fun b ms hb nd hm=>?_⟩
  have hms:ms.length<=ns.length:=ou nd fun k m=>(hm k).mp m
  refine⟨b,ms,rfl,bf,nd,by omega,fun l rs hl lt hm'=>?_⟩
  have s2:Step G.B H1 (upd H1 b (sr P w b (fun k=>ms.any (· ==k)) ms.length)):= .same s1.2 (dG hb)
  exact au.fin (f:=true) W (s1.trans s2) hl (qv rs) (q rs lt fun k=>(hm' k).trans (hm k)) z
end L2
set_option maxRecDepth 100000
set_option maxHeartbeats 4000000
set_option maxRecDepth 100000
set_option maxHeartbeats 4000000
set_option maxRecDepth 100000
set_option maxHeartbeats 4000000
set_option maxRecDepth 100000
set_option maxHeartbeats 4000000
set_option maxRecDepth 100000
set_option maxHeartbeats 4000000
set_option maxRecDepth 100000
set_option maxHeartbeats 4000000
namespace L2
open PySem PySem.Spec PyProof.Rows
def kd(x:Keyed):Int:=match x.1 with| .int n _=>n|_=>0
end L2
set_option maxRecDepth 100000
set_option maxHeartbeats 4000000
set_option maxRecDepth 100000
set_option maxHeartbeats 4000000
set_option maxRecDepth 100000
set_option maxHeartbeats 4000000
set_option maxRecDepth 100000
set_option maxHeartbeats 4000000
set_option maxRecDepth 100000
set_option maxHeartbeats 4000000
set_option maxRecDepth 100000
set_option maxHeartbeats 4000000
namespace L2
open PySem PySem.Spec PyProof.Rows
def DK:List V->Hp->VK->Prop:=fun xs H Q=>∃j:Int,xs=[.int j]/\∀a,H a=none->Q (.ref a) (upd H a (.mq 0 j))
def DG:List V->Hp->VK->Prop:=fun xs H Q=>∃(a:Addr) (lo hi:Int),xs=[.ref a]/\H a=some (.mq lo hi)/\(-10000<=lo/\lo<=10000/\ -10000<=hi/\hi<=10000)/\∀l,H l=none->Q (.ref l) (upd H l (.lst (((List.range (hi-lo).toNat).map fun(i:Nat)=>lo+(i:Int)).map V.int)))
def Ar(K:PySem.W.Frag):List V->Hp->VK->Prop:=fun xs H Q=>∃p,∃ns:List Int,xs=[.ref p]/\aV K H p (ns.map V.int)/\Q (.int ns.sum) H
def xh(K:PySem.W.Frag):List V->Hp->VK->Prop:=fun xs H Q=>∃p,∃bs:List Bool,xs=[.ref p]/\aV K H p (bs.map V.bl)/\Q (.bl (bs.all id)) H
section
variable{X:Cx}
theorem ux:fk X (.type "range") DK:=by
 intro pins s σ H xs us Q I rv h
 obtain⟨j,rfl,q⟩:=h
 obtain⟨u,rfl,ru⟩:=vals1 rv
 obtain⟨t,rfl⟩:=ru
 refine call_range_1 ?_
 exact⟨.ref s.heap.objs.size,_,I.laid (t':=s.toks+1+1) (o:= .mq 0 j) (fun b o e=>bS _ e) (aQ _) ⟨_,_,_,fN _ rfl⟩,rfl,q _ (I.hok.fresh (aQ _))⟩
theorem wD(hc:X.calm=true):fk X (.type "list") DG:=by
  intro pins s σ H xs us Q I rv h
  obtain⟨a,lo,hi,rfl,hH,hb,q⟩:=h
  obtain⟨u,rfl,ru⟩:=vals1 rv
  cases ru
  obtain⟨t,u,v,e⟩:=(show bU X.prog X.w H s.heap a (.mq lo hi) from I.hok a _ hH)
  refine call_list_range (n:=(hi-lo).toNat) (I.ok.hd hc) (show IsRange s.heap a lo hi 1 t u v from e) (small_one (by omega) (by omega) (by omega) (by omega)) (rangeSize_nat lo hi) (by omega) fun h' tk acc c' kp hl hi'=>?_
  have vv:Vals (((List.range (hi-lo).toNat).map fun(i:Nat)=>lo+(i:Int)).map V.int) acc.toList:=by
    have key:∀(n:Nat) (l:List Value),l.length=n->∀b:Int,(∀(j:Nat) (v:Value),l[j]?=some v->∃t,v=Value.int (b+(j:Int)) t)->Vals (((List.range n).map fun(i:Nat)=>b+(i:Int)).map V.int) l:=by
      intro n
      induction n with
      |zero=>intro l hl b _;rw[nj.mp hl];exact .nil
      | succ n ih =>
        intro l hl b hv
        cases l with
        |nil=>cases hl
        | cons x r =>
          obtain⟨t,e⟩:=hv 0 x rfl
          rw[wR,aZ,aZ]
          refine .cons ⟨t,by simpa using e⟩ ?_
          have:=ih r (by simpa using hl) (b+1) (fun j v e=>by
            obtain⟨t,z⟩:=hv (j+1) v (by simpa using e)
            exact⟨t,by rw[z];congr 1;omega⟩)
          rw[dD] at this⊢
          rw[dD]
          have e:∀i:Nat,((V.int∘fun(i:Nat)=>b+(i:Int))∘Nat.succ) i=(V.int∘fun(i:Nat)=>b+1+(i:Int)) i:=fun i=>by
            show V.int (b+((i+1:Nat):Int))=V.int (b+1+(i:Int));congr 1;omega
          rw[gn fun i _=>e i]
          exact this
    refine key _ _ (by rw[kC];exact hi'.1) lo fun j v e=>?_
    obtain⟨t,z⟩:=hi'.2 j v (by rw[<-nq];exact e)
    exact⟨t,by rw[z];congr 1;omega⟩
  refine⟨.ref s.heap.objs.size,_,I.laid (t':=tk) (o:= .lst (((List.range (hi-lo).toNat).map fun(i:Nat)=>lo+(i:Int)).map V.int)) kp (aQ _) ⟨?_,acc.toList,c',vv,by simpa using hl⟩,rfl,q _ (I.hok.fresh (aQ _))⟩
  rw[ak,ak,kP]
  exact eK (show(hi-lo).toNat<=20000 by omega) (by decide)
theorem RZ(hc:X.calm=true):fk X (.builtin "sum") (Ar X.K):=by
 intro pins s σ H xs us Q I rv h
 obtain⟨p,ns,rfl,hp,q⟩:=h
 obtain⟨u,rfl,ru⟩:=vals1 rv
 cases ru
 obtain⟨its,rs,il,hz⟩:=I.list hp
 have hI:=uC rs
 obtain⟨ys,e⟩:=hI.allInts.items
 have hn:=hI.numsOf
 refine sum_intListG (xs:=ys) (I.ok.hd hc) (by rw[<-e];exact il.isList) fun h' tk t' kp=>?_
 have e2:preSum (numAt ys) ys.size=ns.sum:=by
  rw[preSum_eq,Cv (by simp),<-nums_intItems,<-e,<-hn]
 rw[e2]
 exact⟨.int ns.sum,H,I.kept kp,⟨_,rfl⟩,q⟩
theorem WN(hc:X.calm=true):fk X (.builtin "all") (xh X.K):=by
  intro pins s σ H xs us Q I rv h
  obtain⟨p,bs,rfl,hp,q⟩:=h
  obtain⟨u,rfl,ru⟩:=vals1 rv
  cases ru
  obtain⟨its,rs,il,hz⟩:=I.list hp
  have hl:=rs.length
  have hv:∀(i:Nat) (v:Value),its.toArray[i]?=some v->v= .bool (bs.getD i false):=fun i v e=>by
    have hi:i<bs.length:=by
      have:=(qW.mp e).1
      rw[ak] at hl
      simp at this;omega
    obtain⟨u,hu,ru⟩:=rs.get (i:=i) (x:= .bl bs[i]) (by rw[aS,aH hi];rfl)
    rw[Ia,hu] at e
    cases e
    rw[cM,aH hi]
    exact ru
  have ll:=il.isList
  have hlt:p<s.heap.objs.size:=by obtain⟨o,e,_⟩:=ll;exact bG e
  refine call_all_walk (wpAny_pyIter_list ll ⟨s.heap.objs.size,_,_,_,_,_,fun i=>bs.getD i false,rfl,Walks.list (A:=X.A.in1) (I.ok.hd hc) _ p (c5 hlt) its.toArray,⟨⟨_,fN _ rfl,rfl,rfl⟩,ll.push _⟩,fun i v s Q E hP hQ=>?_,fun h' tk kp=>?_⟩)
  · rw[hv i v hP];exact wpAny_truthy_bool hQ
  · have e:(List.range its.toArray.size).all (fun i=>bs.getD i false)=bs.all id:=by
      have hs:its.toArray.size=bs.length:=by rw[ak] at hl;simp;omega
      rw[hs]
      clear hv hl rs q hp hs hz
      induction bs with
      |nil=>rfl
      | cons b r ih =>
        rw[oh,wR,mV,mV,List.all_map]
        simpa[Function.comp_def] using congrArg (b && ·) ih
    rw[e]
    refine⟨.bl (bs.all id),H,I.kept fun b o q=>kp b o (fun m=>?_) (bS _ q),rfl,q⟩
    have:=aT.mp m
    rw[this] at q
    exact absurd (bG q) (jB _)
end
section
variable{G:Gx}{ρ:Rh}{te:TE}{K:PySem.W.Frag}{Φ:Pd}
theorem au.sS{Θ:Bool->List PyData->Prop}(h:Ev G ρ te fun _ x=>∃n:Int,x= .int n/\ -10000<=n/\n<=10000/\Θ true (((List.range n.toNat).map fun(i:Nat)=>(0:Int)+(i:Int)).map .int)):au G ρ (fJ DG (br (fJ DK (br te bM)) bM)) Θ:=fun nb σ H Q W z=>
 h nb σ H _ W fun f v H1 x ⟨n,ex,h1,h2,q⟩ s1 hv=>by
  subst ex
  rw[hv.bO]
  refine⟨n,rfl,fun a ha=>⟨a,0,n,rfl,bf,by omega,fun l hl=>?_⟩⟩
  rw[vP]
  exact au.fin (f:=true) W (s1.trans (.same s1.2 (dG ha))) hl (qv _) q z
theorem Ev.sum(h:Ev G ρ te fun _ x=>∃ns:List Int,x= .list (ns.map .int)/\Φ true (.int ns.sum)):Ev G ρ (fJ (Ar K) (br te bM)) Φ:=fun nb σ H Q W z=>
 h nb σ H _ W fun f v H1 x ⟨ns,ex,q⟩ s1 hv=>by
  subst ex
  obtain⟨a,xs,rfl,na,hx,hd⟩:=hv.eO
  have e:=o8 hd
  subst e
  exact⟨a,ns,rfl, .of hx,z true _ H1 _ q s1 (.int _)⟩
theorem Gb{nb:Addr->Prop}{H:Hp}:∀{is:List Bool} {xs:List V},ah nb H (is.map PyData.bool) xs->xs=is.map V.bl
  |[],_,h=>by unfold List.map ah at h;exact h
  | i :: is, _, h => by
    rw[aZ] at h
    unfold ah at h
    obtain⟨y,ys,rfl,h1,h2⟩:=h
    unfold aj at h1
    rw[aZ,h1,Gb h2]
theorem Ev.all(h:Ev G ρ te fun _ x=>∃bs:List Bool,x= .list (bs.map .bool)/\Φ true (.bool (bs.all id))):Ev G ρ (fJ (xh K) (br te bM)) Φ:=fun nb σ H Q W z=>
 h nb σ H _ W fun f v H1 x ⟨bs,ex,q⟩ s1 hv=>by
  subst ex
  obtain⟨a,xs,rfl,na,hx,hd⟩:=hv.eO
  have e:=Gb hd
  subst e
  exact⟨a,bs,rfl, .of hx,z true _ H1 _ q s1 (.bl _)⟩
end
end L2
set_option maxRecDepth 100000
set_option maxHeartbeats 4000000
namespace L2
open PySem PySem.Spec PyProof.Rows
def i8:PyData->String->Bool
 | .bool _,T=>T=="bool" ||T=="int"
 | .int _,T=>T=="int"
 | .str _,T=>T=="str"
 | .list _,T=>T=="list"
 | .tuple _,T=>T=="tuple"
 |_,_=>false
def zL:PyData->String
 | .none=> "NoneType" | .bool _=> "bool" | .int _=> "int" | .str _=> "str" | .list _=> "list" | .tuple _=> "tuple" | .dict _=> "dict"
theorem GV(ds:List PyData):i8 (.list ds) "list"=true/\i8 (.list ds) "tuple"=false:=⟨rfl,rfl⟩
theorem IZ(ds:List PyData):i8 (.tuple ds) "list"=false/\i8 (.tuple ds) "tuple"=true:=⟨rfl,rfl⟩
theorem L8{K:PySem.W.Frag}{nb:Addr->Prop}{H:Hp}{d:PyData}{v:V}(h:aj nb H d v):iW K H v (.type (zL d)):=by
 cases d<;>unfold aj at h
 ·subst h;exact .aL
 ·subst h;exact .bl _
 ·subst h;exact .int _
 ·subst h;exact .str _
 ·obtain⟨a,xs,rfl,_,e,_⟩:=h;exact .lst e
 ·obtain⟨a,xs,rfl,_,e,_⟩:=h;exact .tup e
 ·obtain⟨a,xs,rfl,_,e,_⟩:=h;exact e.elim .dK fun⟨_,e⟩=> .Gy e
def o5(T:String):Prop:=T="int" \/T="bool" \/T="list" \/T="tuple" \/T="str"
theorem Hl{K:PySem.W.Frag}{d:PyData}{T:String}(hT:o5 T):PySem.W.kitOne K (.type (zL d)) (.type T)=some (i8 d T):=by
 rcases hT with rfl|rfl|rfl|rfl|rfl<;>cases d<;>(with_unfolding_all rfl)
theorem Ih{K:PySem.W.Frag}{d:PyData}:∀{Ts:List String},(∀T∈Ts,o5 T)->PySem.W.kitAny K (.type (zL d)) (Ts.map Value.type)=some (Ts.any (i8 d))
  |[],_=>rfl
  | T :: r, h => by
    rw[aZ]
    unfold PySem.W.kitAny
    rw[Hl (h T (cB ..)),lI]
    cases i8 d T with
    |true=>rfl
    |false=>exact Ih fun T m=>h T (cX _ m)
def t7:List V->Hp->VK->Prop:=fun xs H Q=>∃(x:V) (tp:Addr) (Ts:List String) (nb:Addr->Prop) (d:PyData),xs=[x, .ref tp]/\H tp=some (.tup (Ts.map V.ty))/\aj nb H d x/\(∀T∈Ts,o5 T)/\Q (.bl (Ts.any (i8 d))) H
theorem E4:∀{Ts:List String} {us:List Value},Vals (Ts.map V.ty) us->us=Ts.map Value.type
 |[],_, .nil=>rfl
 |T::r,_, .cons h t=>by rw[aZ,E4 t,show _=Value.type T from h]
section
variable{X:Cx}
theorem G2:fk X (.builtin "isinstance") t7:=by
 intro pins s σ H xs us Q I rv h
 obtain⟨x,tp,Ts,nb,d,rfl,ht,hd,h5,q⟩:=h
 obtain⟨u,v,rfl,ru,rv⟩:=rv.two
 cases (show v=Value.ref tp from rv)
 obtain⟨_,its,vt,o,ho,hc,n,hdat⟩:=(show bU X.prog X.w H s.heap tp (.tup (Ts.map V.ty)) from I.hok tp _ ht)
 have e:=E4 vt
 subst e
 obtain⟨c0,d0,dt,sl⟩:=o
 dsimp only at hc hdat
 subst hc hdat
 have fin:∀tk,EP X pins σ Q (.bool (Ts.any (i8 d))) {s with toks:=tk}:=fun tk=>⟨.bl _,H,I.tok tk,rfl,q⟩
 have ka:=Ih (K:=X.K) (d:=d) h5
 cases d<;>unfold aj at hd
 ·subst hd;cases (show u=Value.none from ru);exact nE PySem.W.kitx_none I.eF True.intro ho ka (fun z=>nomatch z) fin
 ·subst hd;cases (show u=Value.bool _ from ru);exact nE PySem.W.kitx_bool I.eF True.intro ho ka (fun z=>nomatch z) fin
 ·subst hd;obtain⟨t,rfl⟩:=(show∃t,u=Value.int _ t from ru);exact nE PySem.W.kitx_int I.eF True.intro ho ka (fun z=>nomatch z) fin
 ·subst hd;obtain⟨t,rfl⟩:=(show∃t,u=Value.str _ t from ru);exact nE PySem.W.kitx_str I.eF True.intro ho ka (fun z=>nomatch z) fin
 ·obtain⟨a,ys,rfl,_,ea,_⟩:=hd
  cases (show u=Value.ref a from ru)
  obtain⟨_,_,n,_,h1⟩:=(show bU X.prog X.w H s.heap a (.lst ys) from I.hok a _ ea)
  exact nE yE I.eF ⟨_,h1,rfl⟩ ho ka (fun z=>nomatch z) fin
 ·obtain⟨a,ys,rfl,_,ea,_⟩:=hd
  cases (show u=Value.ref a from ru)
  obtain⟨_,_,_,o',h1,h2,_⟩:=(show bU X.prog X.w H s.heap a (.tup ys) from I.hok a _ ea)
  exact nE PySem.W.kitx_tuple I.eF ⟨o',h1,h2⟩ ho ka (fun z=>nomatch z) fin
 ·obtain⟨a,ys,rfl,_,ea,_⟩:=hd
  cases (show u=Value.ref a from ru)
  obtain⟨_,_,vs,_,dd⟩:=(show bU X.prog X.w H s.heap a (.dK ys) from ea.ok I.hok)
  exact nE wF I.eF dd.typeIs ho ka (fun z=>nomatch z) fin
end
section
variable{G:Gx}{ρ:Rh}{ta tb te:TE}{K:PySem.W.Frag}{Φ:Pd}{T U:String}
theorem Ev.NZ(hT:o5 T)(h:Ev G ρ te fun _ x=>Φ true (.bool (i8 x T))):Ev G ρ (fJ (kH K) (br te (br (tC (.ty T)) bM))) Φ:=fun nb σ H Q W z=>
 h nb σ H _ W fun f v H1 d q s1 hv=>⟨v,T,_,_,rfl,L8 hv,Hl hT,z true _ H1 _ q s1 (.bl _)⟩
theorem Ev.NV(hT:o5 T)(hU:o5 U)(h:Ev G ρ te fun _ x=>Φ true (.bool (i8 x T||i8 x U))):Ev G ρ (fJ t7 (br te (br (oF (br (tC (.ty T)) (br (tC (.ty U)) bM))) bM))) Φ:=fun nb σ H Q W z=>
 h nb σ H _ W fun f v H1 d q s1 hv=>by
  refine⟨by show 2<=sizeLine;decide,fun p hp=>⟨v,p,[T,U],G.S nb f,d,rfl,bf,hv.keep (aX.of (dG hp)),fun S m=>?_,?_⟩⟩
  ·rcases aP.mp m with e|m
   ·rw[e];exact hT
   ·rw[aT.mp m];exact hU
  ·rw[lI,lI,List.any_nil,oO]
   exact z true _ _ _ q (s1.trans (.same s1.2 (dG hp))) (.bl _)
theorem Ev.SJ(h:Ev G ρ te fun _ x=>∃ds,(x= .list ds\/x= .tuple ds)/\Φ true (.int ds.length)):Ev G ρ (fJ (e7 K) (br te bM)) Φ:=fun nb σ H Q W z=>
 h nb σ H _ W fun f v H1 d ⟨ds,e,q⟩ s1 hv=>by
  rcases e with e|e
  ·subst e
   obtain⟨a,xs,rfl,n,hx,hd⟩:=hv.eO
   exact⟨a,xs,rfl, .inl (.of hx),by rw[hd.length];exact z true _ H1 _ q s1 (.int _)⟩
  ·subst e
   obtain⟨a,xs,rfl,n,hx,hd⟩:=hv.ofT
   exact⟨a,xs,rfl, .inr (.of hx),by rw[hd.length];exact z true _ H1 _ q s1 (.int _)⟩
theorem Ev.zu(h:Ev G ρ ta fun f x=>∃ds,(x= .list ds\/x= .tuple ds)/\Ev G ρ tb fun _ y=>∃k,y= .int k/\∃e,bF ds k=some e/\Φ f e):Ev G ρ (cU (tM K) ta tb) Φ:=
 Ev.jK (h.mono fun f x ⟨ds,ex,q⟩=>q.mono fun g y ⟨k,ey,e,he,p⟩ nb σ H u v Q W hu hv z=>by
  subst ey
  rcases ex with ex|ex
  ·subst ex
   obtain⟨a,xs,rfl,n,hx,hd⟩:=hu.eO
   obtain⟨w,hw,hD⟩:=hd.bF he
   exact .inl ⟨a,xs,k,w,rfl,hv.bO, .of hx,hw,z f _ H _ p (.refl W.ay) hD⟩
  ·subst ex
   obtain⟨a,xs,rfl,n,hx,hd⟩:=hu.ofT
   obtain⟨w,hw,hD⟩:=hd.bF he
   exact .inr (.inl ⟨a,xs,k,w,rfl,hv.bO, .of hx,hw,z f _ H _ p (.refl W.ay) hD⟩))
end
theorem Callee.void{P:Program}{w:World}{K:PySem.W.Frag}{mg:Str->Option Value}{base:Heap}{x:Str}{st:Stmt}{k:Nat}{ps:List Str}{sp:Sp}{f:Addr}{fd:FuncData}(F:bK K x x st f fd)(b:Binds K fd ps [])(m:mg x=some (.ref f))(hv:∀vs H Q E,¬sp vs H Q E):Callee P w K mg base x k ps sp:=
 ⟨f,fd,⟨fun vs H Q E h=>(hv vs H Q E h).elim,fun A outer s H args us vs Q E _ _ _ _ h=>(hv vs H Q E h).elim⟩,b,F.kp,m⟩
end L2
set_option maxRecDepth 100000
set_option maxHeartbeats 4000000
namespace L2
open PySem PySem.Spec PyProof.Rows
section
variable{G:Gx}{ρ dM:Rh}{te:TE}{gt:TG}{n i:Nat}{it:Nat->PyData->Prop}{fi:Bool}{Θ:Bool->List PyData->Prop}{E:DE}
theorem zE(os:List Int):gH (os.map PyData.int)=true:=by
 unfold gH
 rw[vX]
 intro x hx
 obtain⟨y,_,rfl⟩:=dN.mp hx
 rfl
theorem fG.ints(P:Int->Prop)(ht:∀i d,it i d->Gv G dM gt fi d fun gD=>Wk dM gD/\Ev G gD te fun _ e=>∃r:Int,e= .int r/\P r)(h:∀os:List Int,os.length=n->(∀x∈os,P x)->Θ true (os.map .int)):fG G dM n it fi gt nD te Θ:=by
 refine⟨false,fun i ds=>ds.length=i/\∃os:List Int,ds=os.map .int/\∀x∈os,P x,⟨rfl,[],rfl,fun _ h=>nomatch h⟩,?_,?_⟩
 ·rintro i d ds hd hl ⟨hl2,os,rfl,ho⟩
  refine fun nb σ H v Q W hv z=>ht i d hd nb σ H v Q W hv fun σ' ρ' ⟨w,q⟩ W'=>z σ' ρ' ⟨w,Tv.rz (uf (q.mono fun f e ⟨r,ee,hr⟩=>⟨fun z=>(by cases z),?_,os++[r],?_,fun x hx=>?_⟩))⟩ W'
  ·rw[bz,fh,hl2]
  ·rw[ee];simp
  ·rcases cD.mp hx with h|h
   ·exact ho x h
   ·rw[aT.mp h];exact hr
 ·rintro ds hl ⟨hl2,os,rfl,ho⟩
  rw[zE,vH]
  exact h os (by rw[ak] at hl2;exact hl2) ho
theorem fG.rel{α:Type}(φ:α->PyData)(fl:Bool)(P:Nat->α->Prop)(ht:∀i d,it i d->Gv G dM gt fi d fun gD=>Wk dM gD/\Ev G gD te fun f e=>(fl=true->f=true)/\∃r:α,e=φ r/\P i r)
  (h:∀os:List α,os.length=n->(∀(i:Nat) x,os[i]?=some x->P i x)->Θ (fl||gH (os.map φ)) (os.map φ)):fG G dM n it fi gt nD te Θ:=by
 refine⟨fl,fun i ds=>ds.length=i/\∃os:List α,ds=os.map φ/\∀(i:Nat) x,os[i]?=some x->P i x,⟨rfl,[],rfl,fun j x e=>by simp at e⟩,?_,?_⟩
 ·rintro i d ds hd hl ⟨hl2,os,rfl,ho⟩
  refine fun nb σ H v Q W hv z=>ht i d hd nb σ H v Q W hv fun σ' ρ' ⟨w,q⟩ W'=>z σ' ρ' ⟨w,Tv.rz (uf (q.mono fun f e ⟨hf,r,ee,hr⟩=>⟨hf,?_,os++[r],?_,fun j x hj=>?_⟩))⟩ W'
  ·rw[bz,fh,hl2]
  ·rw[ee];simp
  ·rw[ak] at hl2
   rcases Bj j os.length with h|h|h
   ·exact ho j x (by rwa[gu h] at hj)
   ·subst h
    simp at hj
    subst hj
    rw[hl2];exact hr
   ·rw[ie (by rw[bz,fh];omega)] at hj
    cases hj
 ·rintro ds hl ⟨hl2,os,rfl,ho⟩
  exact h os (by rw[ak] at hl2;exact hl2) ho
theorem Sv.Qn(h:∀a,E.nx (ρ.set i (.own a true []))):Sv G ρ (gv (nJ bM) (eN i)) E:=Sv.pN (au.lst (Av.nil ⟨by decide,fun a=>h a⟩))
end
def PY:R2:=fun x y H Q=>∃a b:Bool,x= .bl a/\y= .bl b/\Q (.bl (a==b)) H
theorem Ev.XA{G:Gx}{ρ:Rh}{ta:TE}{b:Bool}{Φ:Pd}(h:Ev G ρ ta fun _ x=>∃a,x= .bool a/\Φ true (.bool (a==b))):Ev G ρ (cU PY ta (tC (.bl b))) Φ:=fun nb σ H Q W z=>
 h nb σ H _ W fun f v H1 d ⟨a,e,q⟩ s1 hv=>by
  subst e
  unfold aj at hv
  subst hv
  exact⟨a,b,rfl,rfl,z true _ H1 _ q s1 (.bl _)⟩
theorem sG{X:Cx}{K:PySem.W.Frag}{a:Expr}{ta:TE}(hK:X.K=K)(ha:PE X a ta)(he:∀whole,isTrue a X.env whole=(do let v<-whole;standAt a.pos;holding [v] (truthy v))):PT X a (FZ K ta):=by
 subst hK
 exact MR ha he
theorem jr{X:Cx}{K:PySem.W.Frag}{es:List Expr}{k:Nat}{t:iK}{n:Nat}{pos:Pos}(hK:X.K=K)(hc:X.calm=true)(h:rP X es t)(hn:(assignEach es X.env).length=n:=by rfl)(hst:(assignEach es X.env).findIdx? (·.1)=none:=by rfl):PG X (.Tuple es k pos) (sZ K n t):=by
 subst hK
 exact Hh hc h hn hst
theorem QI(ds:List PyData):PyData.eqv (.list ds) (.list [])=ds.isEmpty:=by cases ds<;>simp[PyData.eqv,PyData.eqvAll]
theorem PD(cs:List aq):PyData.depthAll (cs.map c9)<=2/\PyData.canLayAll0 (cs.map c9)=true:=by
  induction cs with
  |nil=>simp[PyData.depthAll,PyData.canLayAll0]
  | cons a r ih =>
    have h:=HE a
    simp[PyData.depthAll,PyData.depth,PyData.canLayAll0,PyData.canLay0,ih.2,h.2.2]
    have:=ih.1
    have:=h.2.1
    omega
theorem Rl(p n:Int)(cs:List aq)(wd:Wo):SeqAt.shaped (.tuple [bW p n cs,j3 wd])=true:=by
 have h1:=PD cs
 have h2:=Hx wd
 unfold SeqAt.shaped
 simp[PyData.canLay0,PyData.canLayAll0,PyData.depth,PyData.depthAll,h1.2,h2.2,h2.1]
 have:=h1.1
 omega
theorem Sv.xo{G:Gx}{ρ:Rh}{s:TS}{E:DE}(I:Rh->Prop)(h:Sv G ρ s {E with nx:=I})(hI:∀ρ',I ρ'->E.nx ρ'):Sv G ρ s E:=fun nb σ H D W K=>h nb σ H D W ⟨fun nb ρ σ H q W=>K.nx nb ρ σ H (hI ρ q) W,K.bk,K.ct,K.rt,K.rw⟩
theorem Jl{α:Type}{xs:List α}{lo hi:Option Int}:(eE xs lo hi).length<=xs.length:=by
 unfold eE
 rw[jd,rA];omega
def DM(p:Int):Prop:=2<=p/\p<=10^60
theorem pick{L:List Int}{k:Int}(h0:0<=k)(h1:k<L.length)(P:Int->Prop)(hP:∀x∈L,P x):∃x,bF (L.map PyData.int) k=some (.int x)/\P x:=by
 have hL:k.toNat<L.length:=by omega
 exact⟨L[k.toNat],fS h0 (by rw[aS,aH hL];rfl),hP _ (gP hL)⟩
end L2
set_option maxRecDepth 100000
set_option maxHeartbeats 4000000
namespace L2
open PySem PySem.Spec PyProof.Rows
theorem z6{α:Type}{xs:List α}{k:Int}(h0:0<=k)(h1:k<=xs.length):eE xs none (some k)=xs.take k.toNat:=by
 unfold eE HT.eB
 simp only[Bd,Nat.sub_zero]
 congr 1
 first|omega|(split<;>omega)
theorem Hg{α:Type}{xs:List α}{k:Int}(h0:0<=k)(h1:k<=xs.length):eE xs (some k) none=xs.drop k.toNat:=by
 have e:HT.eB xs.length 0 (some k)=k.toNat:=by
  show(if k<0 then _ else _)=_
  rw[if_neg (by omega)];omega
 unfold eE
 rw[e,HT.Rp]
 exact Cv (by rw[rA];omega)
theorem JB{α:Type}{xs:List α}{k:Int}{y:α}(h0:0<=k)(h1:k<xs.length):eE xs none (some k)++[y]++eE xs (some (k+1)) none=xs.set k.toNat y:=by
 rw[z6 h0 (by omega),Hg (by omega) (by omega),List.set_eq_take_append_cons_drop,if_pos (by omega),mO]
 congr 2
 show[y]++_=_
 rw[show(k+1).toNat=k.toNat+1 by omega]
 rfl
theorem Hi{α:Type}{xs:List α}{lo hi:Option Int}:(eE xs lo hi).length<=xs.length:=by
 unfold eE
 rw[jd,rA];omega
end L2
set_option maxRecDepth 100000
set_option maxHeartbeats 4000000
namespace L2
open PySem PySem.Spec PyProof.Rows
theorem shaped_ints(xs:List Int):SeqAt.shaped (.list (xs.map .int))=true:=by
 have h:=Hx (xs.map some)
 have e:(xs.map some).map gF=xs.map PyData.int:=by rw[dD];rfl
 rw[e] at h
 unfold SeqAt.shaped
 simp[PyData.canLay0,PyData.depth,h.1,h.2]
end L2
set_option maxRecDepth 100000
set_option maxHeartbeats 4000000
namespace L2
open PySem PySem.Spec PyProof.Rows
def DW(K:PySem.W.Frag)(te:TE)(ts:TO):TE:=fun σ H Q=>te σ H fun x H1=>ts σ H1 fun k H2=>k=some (-1)/\∃a xs,x= .ref a/\aV K H2 a xs/\∀p,H2 p=none->Q (.ref p) (upd H2 p (.lst xs.reverse))
theorem ah.rev{nb:Addr->Prop}{H:Hp}:∀{ds:List PyData} {xs:List V},ah nb H ds xs->ah nb H ds.reverse xs.reverse
  |[],xs,h=>by unfold ah at h;subst h;exact .nil
  | d :: ds, xs, h => by
    unfold ah at h
    obtain⟨y,ys,e,h1,h2⟩:=h
    subst e
    rw[List.reverse_cons,List.reverse_cons]
    exact ah.append (ah.rev h2) (.cons h1 .nil)
section
variable{G:Gx}{ρ:Rh}{Φ:Pd}{ta tb te:TE}{K:PySem.W.Frag}
theorem au.rev{ts:TO}{Θ:Bool->List PyData->Prop}(h:Ev G ρ te fun f x=>∃ds,x= .list ds/\Ov G ρ ts fun o=>o=some (-1)/\Θ (f||gH ds.reverse) ds.reverse):au G ρ (DW K te ts) Θ:=fun nb σ H Q W z=>
 h nb σ H _ W fun f v H1 d ⟨ds,e,q⟩ s1 hv=>q nb σ H1 _ (W.step s1) fun o H2 ⟨eo,q2⟩ s2=>by
  subst e
  obtain⟨a,xs,rfl,n,hx,hd⟩:=(hv.keep s2.dS).eO
  exact⟨eo,a,xs,rfl, .of hx,fun p hp=>au.fin W (s1.trans s2) hp hd.rev q2 z⟩
theorem Ev.rev{ts:TO}(h:Ev G ρ te fun f x=>∃ds,x= .list ds/\Ov G ρ ts fun o=>o=some (-1)/\Φ (f||gH ds.reverse) (.list ds.reverse)):Ev G ρ (DW K te ts) Φ:=(au.rev (Θ:=fun f ds=>Φ f (.list ds)) h).ev
theorem Ly{X:Cx}{K:PySem.W.Frag}(hK:X.K=K):dZ X (compareOp .In) (CK K false):=by subst hK;exact Py
theorem Ev.Xw{ng:Bool}(h:Ev G ρ ta fun _ x=>∃k:Int,x= .int k/\Ev G ρ tb fun _ y=>∃ns:List Int,y= .list (ns.map .int)/\Φ true (.bool (decide (k∈ns) !=ng))):Ev G ρ (cU (CK K ng) ta tb) Φ:=fun nb σ H Q W z=>
 h nb σ H _ W fun f v H1 d ⟨k,e,q⟩ s1 hv=>q nb σ H1 _ (W.step s1) fun g u H2 d2 ⟨ns,e2,p⟩ s2 hu=>by
  subst e e2
  have hk:=hv.bO
  subst hk
  obtain⟨a,xs,rfl,na,hx,hd⟩:=hu.eO
  have ex:=o8 hd
  subst ex
  refine⟨a,ns.map V.int,rfl, .inl (.of hx),rfl,?_,?_⟩
  ·rw[vX]
   intro x hx
   obtain⟨o,_,rfl⟩:=dN.mp hx
   rfl
  ·have e:pT (V.int k) (ns.map V.int)=decide (k∈ns):=by
    unfold pT
    rw[List.any_map,mU,oY,decide_eq_true_eq]
    constructor
    ·rintro⟨o,m,h⟩
     have:o=k:=eq_of_beq h
     exact this▸m
    ·intro m
     exact⟨k,m,beq_self_eq_true k⟩
   have e2:(if ng=true then !pT (V.int k) (ns.map V.int) else pT (V.int k) (ns.map V.int))=(decide (k∈ns) !=ng):=by
    rw[e]
    cases ng<;>simp
   rw[e2]
   exact z true _ H2 _ p (s1.trans s2) (.bl _)
end
end L2
set_option maxRecDepth 100000
set_option maxHeartbeats 1000000
namespace PC
def aI(n:Nat):Prop:=2<=n/\∀d,d∣n->d=1\/d=n
def tr(q:Nat):Nat->Nat->Bool
 |0,_=>false
 |f+1,d=>if q<d*d then true else if q%d=0 then false else tr q f (d+1)
theorem D7{q:Nat}:∀{f d:Nat},tr q f d=true->∀e,d<=e->e*e<=q->q%e≠0
  |0,_,h=>by simp[tr] at h
  | f + 1, d, h => by
    intro e hde hee
    unfold tr at h
    by_cases h1:q<d*d
    · have:=Nat.mul_le_mul hde hde
      omega
    · rw[if_neg h1] at h
      by_cases h2:q%d=0
      · rw[if_pos h2] at h;cases h
      · rw[if_neg h2] at h
        by_cases h3:d=e
        · rw[<-h3];exact h2
        · exact D7 h e (by omega) hee
theorem Iq{q:Nat}(h2:2<=q)(h:∀e,2<=e->e*e<=q->q%e≠0):aI q:=by
 refine⟨h2,fun d hd=>?_⟩
 obtain⟨e,he⟩:=hd
 by_cases d1:d=1
 ·exact .inl d1
 by_cases e1:e=1
 ·right;rw[he,e1,CU]
 exfalso
 have d0:d≠0:=fun z=>by rw[z,CQ] at he;omega
 have e0:e≠0:=fun z=>by rw[z,Nat.mul_zero] at he;omega
 by_cases hle:d<=e
 ·refine h d (by omega) (by rw[he];exact Nat.mul_le_mul_left d hle) ?_
  rw[he];exact Nat.mul_mod_right d e
 ·refine h e (by omega) (by rw[he];exact Nat.mul_le_mul_right e (by omega)) ?_
  rw[he];exact Nat.mul_mod_left d e
theorem cy(f:Nat){q:Nat}(h2:2<=q)(h:tr q f 2=true):aI q:=Iq h2 (D7 h)
def pw(N:Nat):Nat->Nat->Nat->Nat->Nat
 |0,_,_,acc=>acc
 |f+1,e,g,acc=>pw N f (e/2) (g*g%N) (if e%2=1 then acc*g%N else acc)
theorem IJ{N:Nat}:∀(f e g acc:Nat),e<2^f->pw N f e g acc%N=acc*g^e%N
  | 0, e, g, acc, h => by
    have:e=0:=by simp at h;exact h
    subst this
    simp[pw]
  | f + 1, e, g, acc, h => by
    have h2:e/2<2^f:=by rw[Nat.pow_succ] at h;omega
    unfold pw
    rw[IJ f _ _ _ h2]
    have e2:g^e=(g*g)^(e/2)*g^(e%2):=by
      conv=>lhs;rw[<-yi e 2]
      rw[uy,Nat.pow_mul,Nat.pow_two]
    have m1:(g*g%N)^(e/2)%N=(g*g)^(e/2)%N:=(Nat.pow_mod _ _ _).symm
    rw[e2]
    by_cases ho:e%2=1
    · rw[if_pos ho,ho,Nat.pow_one,lT,m1,xR,<-lT]
      congr 1
      rw[qF,sA g]
    · have ho':e%2=0:=by omega
      rw[if_neg ho,ho',Nat.pow_zero,CU,lT,m1,<-lT]
theorem M7{P:Nat->Prop}:∀n,P n->∃m,P m/\∀k,k<m->¬P k:=by
  intro n
  induction n using Nat.strongRecOn with
  | _ n ih =>
    intro h
    by_cases hk:∃k,k<n/\P k
    · obtain⟨k,hk1,hk2⟩:=hk
      exact ih k hk1 hk2
    · exact⟨n,h,fun k hk1 hk2=>hk ⟨k,hk1,hk2⟩⟩
theorem HH:∀(n:Nat) (f:Nat->Nat),(∀i,i<n+1->f i<n)->∃i j,i<j/\j<n+1/\f i=f j
  |0,f,h=>absurd (h 0 (by omega)) (by omega)
  | n + 1, f, h => by
    by_cases he:∃i,i<n+1/\f i=f (n+1)
    · obtain⟨i,h1,h2⟩:=he
      exact⟨i,n+1,h1,by omega,h2⟩
    · have hne:∀i,i<n+1->f i≠f (n+1):=fun i hi e=>he ⟨i,hi,e⟩
      have mD:=h (n+1) (by omega)
      obtain⟨i,j,h1,h2,h3⟩:=HH n (fun i=>if f i=n then f (n+1) else f i) (fun i hi=>by
        have g1:=h i (by omega)
        have g2:=hne i hi
        by_cases c:f i=n
        · simp only[c,if_true]
          have:f (n+1)≠n:=fun z=>g2 (c.trans z.symm)
          omega
        · simp only[c,if_false]
          omega)
      refine⟨i,j,h1,by omega,?_⟩
      have gi:=hne i (by omega)
      have gj:=hne j (by omega)
      by_cases ci:f i=n
      · by_cases cj:f j=n
        · rw[ci,cj]
        · simp only[ci,cj,if_true,if_false] at h3
          exact absurd h3.symm gj
      · by_cases cj:f j=n
        · simp only[ci,cj,if_true,if_false] at h3
          exact absurd h3 gi
        · simpa only[ci,cj,if_false] using h3
def kj:List (Nat×Nat)->Nat
 |[]=>1
 |qe::r=>Nat.lcm (qe.1^qe.2) (kj r)
theorem HK{o:Nat}:∀{fs:List (Nat×Nat)},(∀qe∈fs,qe.1^qe.2∣o)->kj fs∣o
 |[],_=>⟨o,by simp[kj]⟩
 |qe::r,h=>Nat.lcm_dvd (h qe cB) (HK fun x hx=>h x (cX _ hx))
theorem WC{q m:Nat}(hq:aI q)(h:¬q∣m):Nat.Coprime q m:=by
 rcases hq.2 _ (Nat.gcd_dvd_left q m) with e|e
 ·exact e
 ·exact absurd (e▸Nat.gcd_dvd_right q m) h
theorem WH{q m:Nat}(h:Nat.Coprime q m)(e:Nat):Nat.Coprime (q^e) m:=Nat.Coprime.pow_left e h
theorem Tj(a b c d:Nat):(a%d)*(b%d)%d*(c%d)%d=a*b*c%d:=by
 rw[<-lT a b,<-lT (a*b) c]
theorem EN{N g d:Nat}{fs:List (Nat×Nat)}(hN:2<=N)(hd:d∣N)(d1:1<d)(h1:g^(N-1)%N=1%N)
  (hq:∀qe∈fs,aI qe.1/\qe.1^qe.2∣N-1/\Nat.gcd (g^((N-1)/qe.1)%N+(N-1)) N=1):kj fs<d:=by
 have down:∀{a b:Nat},a%N=b%N->a%d=b%d:=fun{a b} e=>by
  rw[<-CT a hd,e,CT b hd]
 have one:1%d=1:=Nat.mod_eq_of_lt d1
 have f1:g^(N-1)%d=1:=by rw[down h1,one]
 obtain⟨o,⟨o0,o1⟩,ET⟩:=M7 (P:=fun k=>0<k/\g^k%d=1) (N-1) ⟨by omega,f1⟩
 have per:∀q r:Nat,g^(o*q+r)%d=g^r%d:=fun q r=>by
  rw[uy,Nat.pow_mul,lT,Nat.pow_mod,o1,Nat.one_pow,one,Ac,xR]
 have MI:∀k,g^k%d=1->o∣k:=fun k hk=>by
  have e:=yi k o
  rw[<-e,per] at hk
  by_cases h0:k%o=0
  ·exact Ht h0
  ·exact absurd ⟨by omega,hk⟩ (ET (k%o) (vC _ o0))
 have od:=MI _ f1
 have parts:kj fs∣o:=HK fun qe u6=>by
  obtain⟨pq,⟨c,hc⟩,gq⟩:=hq qe u6
  obtain⟨m,hm⟩:=od
  by_cases Iu:qe.1∣m
  ·exfalso
   obtain⟨m',hm'⟩:=Iu
   have q0:0<qe.1:=by have:=pq.1;omega
   have ek:(N-1)/qe.1=o*m':=by
    rw[hm,hm',show o*(qe.1*m')=qe.1*(o*m') by rw[<-qF,sA o,qF],Nat.mul_div_cancel_left _ q0]
   have e1:g^((N-1)/qe.1)%d=1:=by
    have:=per m' 0
    rw[Nat.add_zero,Nat.pow_zero,one] at this
    rw[ek];exact this
   have e2:d∣g^((N-1)/qe.1)%N+(N-1):=by
    have e3:(g^((N-1)/qe.1)%N)%d=1:=by rw[CT _ hd];exact e1
    obtain⟨k,hk⟩:=hd
    have e4:=yi (g^((N-1)/qe.1)%N) d
    rw[e3] at e4
    refine⟨(g^((N-1)/qe.1)%N)/d+k,?_⟩
    rw[Nat.mul_add,<-hk]
    omega
   have e5:=Nat.dvd_gcd e2 hd
   rw[gq] at e5
   have:=Di (by omega) e5
   omega
  ·have cp:=WH (WC pq Iu) qe.2
   have Wa:qe.1^qe.2∣o*m:=⟨c,by rw[<-hm];exact hc⟩
   exact cp.dvd_of_dvd_mul_right Wa
 have MG:o<d:=by
  refine Nat.lt_of_not_le fun hle=>?_
  have unit:∀i,i<=N-1->(g^i%d)*(g^(N-1-i)%d)%d=1:=fun i hi=>by
   rw[<-lT,<-uy,show i+(N-1-i)=N-1 by omega];exact f1
  have YG:o<=N-1:=Di (by omega) od
  have pos:∀i,i<o->0<g^i%d:=fun i hi=>by
   refine Nat.pos_of_ne_zero fun z=>?_
   have:=unit i (by omega)
   rw[z,CQ,Nat.zero_mod] at this
   cases this
  obtain⟨i,j,h1,h2,h3⟩:=HH (d-1) (fun i=>g^i%d-1) (fun i hi=>by
   have a1:=pos i (by omega)
   have a2:=vC (g^i) (show d>0 by omega)
   omega)
  have pi:=pos i (by omega)
  have pj:=pos j (by omega)
  have e:g^i%d=g^j%d:=by omega
  have ej:g^j=g^i*g^(j-i):=by rw[<-uy,show i+(j-i)=j by omega]
  have u:=unit i (by omega)
  have k1:g^(j-i)%d=1:=by
   have w:(g^i%d)*(g^(N-1-i)%d)%d*(g^(j-i)%d)%d=(g^j%d)*(g^(N-1-i)%d)%d:=by
    rw[Tj,<-lT (g^j),ej]
    congr 1
    rw[qF,qF,sA (g^(N-1-i))]
   rw[u,Ac,xR,<-e,u] at w
   exact w
  exact ET (j-i) (by omega) ⟨by omega,k1⟩
 exact sU (Di o0 parts) MG
theorem WM{N g:Nat}(fs:List (Nat×Nat))(hN:2<=N)(h1:g^(N-1)%N=1%N)
  (hq:∀qe∈fs,aI qe.1/\qe.1^qe.2∣N-1/\Nat.gcd (g^((N-1)/qe.1)%N+(N-1)) N=1) (hF:N<(kj fs+1)*(kj fs+1)):aI N:=by
 refine⟨hN,fun d hd=>?_⟩
 obtain⟨e,he⟩:=id hd
 by_cases d1:d=1
 ·exact .inl d1
 by_cases e1:e=1
 ·right;rw[he,e1,CU]
 exfalso
 have d0:d≠0:=fun z=>by rw[z,CQ] at he;omega
 have e0:e≠0:=fun z=>by rw[z,Nat.mul_zero] at he;omega
 have b1:=EN hN hd (by omega) h1 hq
 have b2:=EN hN ⟨d,by rw[he,sA]⟩ (show 1<e by omega) h1 hq
 have:=Nat.mul_le_mul (show kj fs+1<=d from b1) (show kj fs+1<=e from b2)
 omega
def Fw(N g:Nat)(fs:List (Nat×Nat)):Bool:=
 decide (2<=N) && decide (N<2^140) &&(pw N 140 (N-1) g 1%N==1) && fs.all (fun qe=>((N-1)%qe.1^qe.2==0) &&(Nat.gcd (pw N 140 ((N-1)/qe.1) g 1%N+(N-1)) N==1)) && decide (N<(kj fs+1)*(kj fs+1))
theorem c7{N:Nat}(g:Nat)(fs:List (Nat×Nat))(hp:∀qe∈fs,aI qe.1)(h:Fw N g fs=true):aI N:=by
 unfold Fw at h
 simp only[cN,decide_eq_true_eq,beq_iff_eq,vX] at h
 obtain⟨⟨⟨⟨h1,h2⟩,h3⟩,h4⟩,h5⟩:=h
 have P:∀e,e<=N-1->pw N 140 e g 1%N=g^e%N:=fun e he=>by
  rw[IJ 140 e g 1 (by omega),Ac]
 refine WM (g:=g) fs h1 (by rw[<-P _ (aQ _),h3,Nat.mod_eq_of_lt (by omega)]) (fun qe u6=>?_) h5
 obtain⟨g1,g2⟩:=h4 qe u6
 refine⟨hp qe u6,Ht g1,?_⟩
 rw[<-P _ (Nat.div_le_self _ _)]
 exact g2
end PC
set_option maxRecDepth 100000
set_option maxHeartbeats 1000000
namespace PC
theorem C9:aI 2:=cy 4 (by decide) (by decide+kernel)
theorem MN:aI 3:=cy 4 (by decide) (by decide+kernel)
theorem VA:aI 5:=cy 5 (by decide) (by decide+kernel)
theorem Bc:aI 7:=cy 5 (by decide) (by decide+kernel)
theorem Ws:aI 11:=cy 6 (by decide) (by decide+kernel)
theorem Q0:aI 101:=cy 13 (by decide) (by decide+kernel)
theorem SE:aI 10007:=cy 103 (by decide) (by decide+kernel)
theorem Qg:aI 65537:=cy 259 (by decide) (by decide+kernel)
theorem R8:aI 1000003:=cy 1003 (by decide) (by decide+kernel)
theorem Nq:aI 17:=cy 7 (by decide) (by decide+kernel)
theorem UQ:aI 998244353:=c7 3 [(17,1),(7,1),(2,23)] (fun qe h=>by
 simp only[aP,cJ,or_false] at h
 rcases h with rfl|rfl|rfl
 ·exact Nq
 ·exact Bc
 ·exact C9) (by decide+kernel)
theorem Vj:aI 148721:=cy 388 (by decide) (by decide+kernel)
theorem U8:aI 500000003:=c7 2 [(148721,1)] (fun qe h=>by
 simp only[aP,cJ,or_false] at h
 subst h;exact Vj) (by decide+kernel)
theorem Qv:aI 1000000007:=c7 2 [(500000003,1)] (fun qe h=>by
 simp only[aP,cJ,or_false] at h
 subst h;exact U8) (by decide+kernel)
theorem JM:aI 331:=cy 21 (by decide) (by decide+kernel)
theorem HN:aI 151:=cy 15 (by decide) (by decide+kernel)
theorem U6:aI 2147483647:=c7 3 [(331,1),(151,1)] (fun qe h=>by
 simp only[aP,cJ,or_false] at h
 rcases h with rfl|rfl
 ·exact JM
 ·exact HN) (by decide+kernel)
theorem Mi:aI 250049:=cy 503 (by decide) (by decide+kernel)
theorem KZ:aI 26005097:=c7 2 [(250049,1)] (fun qe h=>by
 simp only[aP,cJ,or_false] at h
 subst h;exact Mi) (by decide+kernel)
theorem J6:aI 1000000000039:=c7 2 [(26005097,1)] (fun qe h=>by
 simp only[aP,cJ,or_false] at h
 subst h;exact KZ) (by decide+kernel)
theorem O9:aI 234931:=cy 487 (by decide) (by decide+kernel)
theorem OC:aI 8740842787:=c7 2 [(234931,1)] (fun qe h=>by
 simp only[aP,cJ,or_false] at h
 subst h;exact O9) (by decide+kernel)
theorem Rk:aI 52445056723:=c7 2 [(8740842787,1)] (fun qe h=>by
 simp only[aP,cJ,or_false] at h
 subst h;exact OC) (by decide+kernel)
theorem Tr:aI 1000000000000000003:=c7 2 [(52445056723,1)] (fun qe h=>by
 simp only[aP,cJ,or_false] at h
 subst h;exact Rk) (by decide+kernel)
theorem VC:aI 15331:=cy 126 (by decide) (by decide+kernel)
theorem OT:aI 2131:=cy 49 (by decide) (by decide+kernel)
theorem Nt:aI 5594472617641:=c7 2 [(15331,1),(2131,1)] (fun qe h=>by
 simp only[aP,cJ,or_false] at h
 rcases h with rfl|rfl
 ·exact VC
 ·exact OT) (by decide+kernel)
theorem OF:aI 18446744073709551557:=c7 2 [(5594472617641,1)] (fun qe h=>by
 simp only[aP,cJ,or_false] at h
 subst h;exact Nt) (by decide+kernel)
theorem Qy:aI 1321:=cy 39 (by decide) (by decide+kernel)
theorem Uk:aI 61:=cy 10 (by decide) (by decide+kernel)
theorem LV:aI 2305843009213693951:=c7 3 [(1321,1),(331,1),(151,1),(61,1)] (fun qe h=>by
 simp only[aP,cJ,or_false] at h
 rcases h with rfl|rfl|rfl|rfl
 ·exact Qy
 ·exact JM
 ·exact HN
 ·exact Uk) (by decide+kernel)
theorem Nr:aI 8707:=cy 96 (by decide) (by decide+kernel)
theorem Ky:aI 1913:=cy 46 (by decide) (by decide+kernel)
theorem Lc:aI 2931542417:=c7 3 [(8707,1),(1913,1)] (fun qe h=>by
 simp only[aP,cJ,or_false] at h
 rcases h with rfl|rfl
 ·exact Nr
 ·exact Ky) (by decide+kernel)
theorem RP:aI 2113:=cy 48 (by decide) (by decide+kernel)
theorem Sw:aI 683:=cy 29 (by decide) (by decide+kernel)
theorem Sh:aI 618970019642690137449562111:=c7 3 [(2931542417,1),(2113,1),(683,1)] (fun qe h=>by
 simp only[aP,cJ,or_false] at h
 rcases h with rfl|rfl|rfl
 ·exact Lc
 ·exact RP
 ·exact Sw) (by decide+kernel)
theorem S7:aI 1097:=cy 36 (by decide) (by decide+kernel)
theorem PZ:aI 131:=cy 14 (by decide) (by decide+kernel)
theorem KJ:aI 67254877:=c7 2 [(1097,1),(131,1)] (fun qe h=>by
 simp only[aP,cJ,or_false] at h
 rcases h with rfl|rfl
 ·exact S7
 ·exact PZ) (by decide+kernel)
theorem LX:aI 28059810762433:=c7 3 [(67254877,1)] (fun qe h=>by
 simp only[aP,cJ,or_false] at h
 subst h;exact KJ) (by decide+kernel)
theorem VQ:aI 53:=cy 10 (by decide) (by decide+kernel)
theorem KH:aI 37:=cy 9 (by decide) (by decide+kernel)
theorem Xb:aI 13:=cy 6 (by decide) (by decide+kernel)
theorem V0:aI 20394401:=c7 3 [(53,1),(37,1),(13,1)] (fun qe h=>by
 simp only[aP,cJ,or_false] at h
 rcases h with rfl|rfl|rfl
 ·exact VQ
 ·exact KH
 ·exact Xb) (by decide+kernel)
theorem QH:aI 162259276829213363391578010288127:=c7 3 [(28059810762433,1),(20394401,1)] (fun qe h=>by
 simp only[aP,cJ,or_false] at h
 rcases h with rfl|rfl
 ·exact LX
 ·exact V0) (by decide+kernel)
theorem Ma:aI 699053:=cy 839 (by decide) (by decide+kernel)
theorem UJ:aI 77158673929:=c7 3 [(699053,1)] (fun qe h=>by
 simp only[aP,cJ,or_false] at h
 subst h;exact Ma) (by decide+kernel)
theorem Rm:aI 649657:=cy 809 (by decide) (by decide+kernel)
theorem U3:aI 92737:=cy 307 (by decide) (by decide+kernel)
theorem R4:aI 170141183460469231731687303715884105727:=c7 3 [(77158673929,1),(649657,1),(92737,1)] (fun qe h=>by
 simp only[aP,cJ,or_false] at h
 rcases h with rfl|rfl|rfl
 ·exact UJ
 ·exact Rm
 ·exact U3) (by decide+kernel)
theorem UC:aI 7963:=cy 92 (by decide) (by decide+kernel)
theorem Xl:aI 3011:=cy 57 (by decide) (by decide+kernel)
theorem Va:aI 575438233:=c7 2 [(7963,1),(3011,1)] (fun qe h=>by
 simp only[aP,cJ,or_false] at h
 rcases h with rfl|rfl
 ·exact UC
 ·exact Xl) (by decide+kernel)
theorem Ut:aI 52316542391429:=c7 2 [(575438233,1)] (fun qe h=>by
 simp only[aP,cJ,or_false] at h
 subst h;exact Va) (by decide+kernel)
theorem K7:aI 104633084782859:=c7 2 [(52316542391429,1)] (fun qe h=>by
 simp only[aP,cJ,or_false] at h
 subst h;exact Ut) (by decide+kernel)
theorem Vq:aI 179:=cy 16 (by decide) (by decide+kernel)
theorem Um:aI 31:=cy 8 (by decide) (by decide+kernel)
theorem La:aI 7935071:=c7 2 [(179,1),(31,1)] (fun qe h=>by
 simp only[aP,cJ,or_false] at h
 rcases h with rfl|rfl
 ·exact Vq
 ·exact Um) (by decide+kernel)
theorem Oe:aI 15870143:=c7 2 [(7935071,1)] (fun qe h=>by
 simp only[aP,cJ,or_false] at h
 subst h;exact La) (by decide+kernel)
theorem LA:aI 401321030361983486780957614729:=c7 2 [(104633084782859,1),(15870143,1)] (fun qe h=>by
 simp only[aP,cJ,or_false] at h
 rcases h with rfl|rfl
 ·exact K7
 ·exact Oe) (by decide+kernel)
theorem RQ:aI 1000000000000000000000000000000000000003:=c7 2 [(401321030361983486780957614729,1)] (fun qe h=>by
 simp only[aP,cJ,or_false] at h
 subst h;exact LA) (by decide+kernel)
theorem L4:aI 25733:=cy 163 (by decide) (by decide+kernel)
theorem VO:aI 1151:=cy 36 (by decide) (by decide+kernel)
theorem WK:aI 4916701379:=c7 2 [(25733,1),(1151,1)] (fun qe h=>by
 simp only[aP,cJ,or_false] at h
 rcases h with rfl|rfl
 ·exact L4
 ·exact VO) (by decide+kernel)
theorem KO:aI 83:=cy 12 (by decide) (by decide+kernel)
theorem Wv:aI 23:=cy 7 (by decide) (by decide+kernel)
theorem P9:aI 1676254721:=c7 5 [(83,1),(23,1),(7,3)] (fun qe h=>by
 simp only[aP,cJ,or_false] at h
 rcases h with rfl|rfl|rfl
 ·exact KO
 ·exact Wv
 ·exact Bc) (by decide+kernel)
theorem Ve:aI 149927568276670622397029177:=c7 2 [(4916701379,1),(1676254721,1)] (fun qe h=>by
 simp only[aP,cJ,or_false] at h
 rcases h with rfl|rfl
 ·exact WK
 ·exact P9) (by decide+kernel)
theorem TJ:aI 9999999999999999999999999999999999999983:=c7 2 [(149927568276670622397029177,1)] (fun qe h=>by
 simp only[aP,cJ,or_false] at h
 subst h;exact Ve) (by decide+kernel)
end PC
namespace L2
open PC
def fR(p:Int):Prop:=2<=p/\∀d:Int,0<d->d∣p->d=1\/d=p
theorem fj{n:Nat}(h:aI n):fR (n:Int):=by
 refine⟨by have:=h.1;omega,fun d d0 hd=>?_⟩
 obtain⟨k,rfl⟩:=rT (ur d0)
 rcases h.2 k (Int.natCast_dvd_natCast.mp hd) with e|e
 ·left;rw[e];rfl
 ·right;rw[e]
theorem O0{p:Int}(h2:2<=p)(h:uh p):fR p:=by
 obtain⟨n,rfl⟩:=rT (show 0<=p by omega)
 refine fj (Iq (by omega) fun e e1 e2 e3=>?_)
 refine h (e:Int) (by omega) (by rw[<-Int.natCast_mul];exact Int.ofNat_le.mpr e2) ?_
 have:=congrArg (Nat.cast:Nat->Int) e3
 simpa using this
theorem LC:∀p∈uK,fR p:=by
 intro p hp
 simp only[uK,aP,cJ,or_false] at hp
 rcases hp with rfl|rfl|rfl|rfl|rfl|rfl|rfl|rfl|rfl|rfl|rfl|rfl|rfl|rfl|rfl|rfl|rfl|rfl|rfl|rfl|rfl|rfl
 ·exact fj C9
 ·exact fj MN
 ·exact fj VA
 ·exact fj Bc
 ·exact fj C9
 ·exact fj Ws
 ·exact fj Q0
 ·exact fj SE
 ·exact fj Qg
 ·exact fj R8
 ·exact fj UQ
 ·exact fj Qv
 ·exact fj U6
 ·exact fj J6
 ·exact fj Tr
 ·exact fj OF
 ·exact fj LV
 ·exact fj Sh
 ·exact fj QH
 ·exact fj R4
 ·exact fj RQ
 ·exact fj TJ
def AV:Sp:=fun vs H Q _=>∃p b:Int,vs=[.int p, .int b]/\fR p/\p<10^40/\b%p≠0/\∀u:Int,0<=u->u<p->(∃k,u*b=1+p*k)->Q (.int u) H
end L2
set_option maxRecDepth 100000
set_option maxHeartbeats 4000000
namespace L2
open PySem PySem.Spec PyProof.Rows
theorem Wh{p a b:Int}(hp:fR p)(h:p∣a*b)(ha:¬p∣a):p∣b:=by
 have p2:=hp.1
 have g1:((Int.gcd a p:Nat):Int)∣p:=Int.gcd_dvd_right ..
 have g2:((Int.gcd a p:Nat):Int)∣a:=Int.gcd_dvd_left ..
 have g0:0<((Int.gcd a p:Nat):Int):=by
  have:Int.gcd a p≠0:=fun z=>by have:=(DI.mp z).2;omega
  omega
 rcases hp.2 _ g0 g1 with e|e
 ·have c:Nat.Coprime p.natAbs a.natAbs:=by
   show Nat.gcd p.natAbs a.natAbs=1
   have:Int.gcd a p=1:=by omega
   rw[Nat.gcd_comm];exact this
  have h':p.natAbs∣b.natAbs*a.natAbs:=by rw[sA,<-Int.natAbs_mul];exact Fe.mpr h
  exact Fe.mp (c.dvd_of_dvd_mul_right h')
 ·rw[e] at g2;exact absurd g2 ha
theorem LH{p a b:Int}(ha:0<=a)(ha':a<p)(hb:0<=b)(hb':b<p)(h:p∣a-b):a=b:=by
 obtain⟨k,e⟩:=h
 rcases qz k 0 with z|z|z
 ·have:p*k<=p*(-1):=lN (by omega) (by omega)
  omega
 ·subst z;omega
 ·have:p*1<=p*k:=lN (by omega) (by omega)
  omega
end L2
set_option maxRecDepth 100000
set_option maxHeartbeats 4000000
namespace L2
open PySem PySem.Spec PyProof.Rows
section
variable{X:Cx}{pins:List (Addr×Obj)}{σ:List (Option V)}{H:Hp}{s:Shared}{h':Heap}
theorem Inv.Xq{t':Nat}{e it T:Addr}{o:HO}(I:Inv X pins σ H s)(k:∀b u,b≠e->b≠it->s.heap.get? b=some u->h'.get? b=some u)(fe:jc X pins H e)(fi:jc X pins H it)(hT:s.heap.objs.size<=T)(By:T≠e)(Bw:T≠it)
  (le:∃u,s.heap.get? e=some u) (li:∃u,s.heap.get? it=some u) (new:bU X.prog X.w (upd H T o) h' T o):Inv X pins σ (upd H T o) {s with heap:=h',toks:=t'}:=by
 have hn:=I.hok.fresh hT
 obtain⟨e0,e1,e2,e3,e4,e5⟩:=fe
 obtain⟨i0,i1,i2,i3,i4,i5⟩:=fi
 have ne:∀b u,H b=some u->b≠e:=fun b u q z=>by rw[z,e0] at q;cases q
 have ni:∀b u,H b=some u->b≠it:=fun b u q z=>by rw[z,i0] at q;cases q
 have nT:∀b u,H b=some u->b≠T:=fun b u q z=>by rw[z,hn] at q;cases q
 refine I.step (g':=s.gens) (d':=s.drawn) (ch:=[e,it]) (fun b hb=>?_) (fun b o _ _ hc q _=>k b o (fun z=>hc (by simp[z])) (fun z=>hc (by simp[z])) q) (fun b o _ _ hc q _=>⟨o.slots,k b o (fun z=>hc (by simp[z])) (fun z=>hc (by simp[z])) q⟩)
  (fun b o hc q n=>?_) (fun b o hc q=>⟨o,k b o (fun z=>hc (by simp[z])) (fun z=>hc (by simp[z])) q⟩) (fun b xs q=>by rw[aK (nT b _ q)];exact q) (fun b o u q=>by rw[aK (nT b _ q)];exact q) (fun b ps q=>⟨#[],by rw[aK (nT b _ q),q];simp⟩) (fun m hm=>?_) (fun b u q=>?_) I.bare
 ·rcases(show b=e\/b=it by simpa using hb) with z|z
  ·subst z;exact⟨e3,e1,e4,e5⟩
  ·subst z;exact⟨i3,i1,i4,i5⟩
 ·rw[aK (fun z=>absurd (dj (bG q) (by rw[z];exact hT)) (jB _))];exact n
 ·obtain⟨o,es,ep,ho,r⟩:=hm
  exact⟨o,es,ep,k _ o (bw e1) (bw i1) ho,r⟩
 ·by_cases hb:b=T
  ·subst hb;rw[bf] at q;cases q;exact new
  ·rw[aK hb] at q
   refine(I.hok b u q).stay (fun c v hc z=>?_) (fun c z=>by rw[aK (nT c _ z)];exact z) fun c xs z=>by rw[aK (nT c _ z)];exact z
   rcases hc with y|y
   ·subst y;exact k _ v (ne _ u q) (ni _ u q) z
   ·exact k c v (ne c _ y) (ni c _ y) z
theorem Inv.Mr{t':Nat}{e it:Addr}(I:Inv X pins σ H s)(k:∀b u,b≠e->b≠it->s.heap.get? b=some u->h'.get? b=some u)(fe:jc X pins H e)(fi:jc X pins H it):Inv X pins σ H {s with heap:=h',toks:=t'}:=by
 obtain⟨e0,e1,e2,e3,e4,e5⟩:=fe
 obtain⟨i0,i1,i2,i3,i4,i5⟩:=fi
 have ne:∀b u,H b=some u->b≠e:=fun b u q z=>by rw[z,e0] at q;cases q
 have ni:∀b u,H b=some u->b≠it:=fun b u q z=>by rw[z,i0] at q;cases q
 refine I.step (g':=s.gens) (d':=s.drawn) (ch:=[e,it]) (fun b hb=>?_) (fun b o _ _ hc q _=>k b o (fun z=>hc (by simp[z])) (fun z=>hc (by simp[z])) q) (fun b o _ _ hc q _=>⟨o.slots,k b o (fun z=>hc (by simp[z])) (fun z=>hc (by simp[z])) q⟩)
  (fun _ _ _ _ n=>n) (fun b o hc q=>⟨o,k b o (fun z=>hc (by simp[z])) (fun z=>hc (by simp[z])) q⟩) (fun _ _ q=>q) (fun _ _ _ q=>q) (fun b ps q=>⟨#[],by rw[q];simp⟩) (fun m hm=>?_) (fun b u q=>?_) I.bare
 ·rcases(show b=e\/b=it by simpa using hb) with z|z
  ·subst z;exact⟨e3,e1,e4,e5⟩
  ·subst z;exact⟨i3,i1,i4,i5⟩
 ·obtain⟨o,es,ep,ho,r⟩:=hm
  exact⟨o,es,ep,k _ o (bw e1) (bw i1) ho,r⟩
 ·refine(I.hok b u q).stay (fun c v hc z=>?_) (fun c z=>z) fun c xs z=>z
  rcases hc with y|y
  ·subst y;exact k _ v (ne _ u q) (ni _ u q) z
  ·exact k c v (ne c _ y) (ni c _ y) z
end
def BE(K:PySem.W.Frag)(a:Addr):It:=
 ⟨fun i H=>∃xs x,aV K H a xs/\xs[i]?=some x,fun i H x H'=>∃p y,x= .ref p/\H p=none/\(∀xs,aV K H a xs->xs[i]?=some y)/\H'=upd H p (.tup [.int i,y]),fun i H=>∃xs,aV K H a xs/\xs.length=i⟩
theorem Wn{P:Program}{w:World}{K:PySem.W.Frag}{elts:List Expr}{k:Nat}{pos:Pos}(a e it:Addr)(hei:e≠it):
  Turn P w K (.Tuple elts k pos) (BE K a) [e,it] e (fun i h=>(∃old,IsEnum h e it i old)/\h.IsListIter it a i) where
 mem:=by simp
 obj:=fun i h st b hb=>by
  obtain⟨⟨old,s1⟩,⟨o,e1,c,d⟩⟩:=st
  rcases(show b=e\/b=it by simpa using hb) with z|z
  ·subst z
   exact⟨_,s1,fun v z=>by
    have z':Data.fields _=Data.cell v:=z
    cases z'⟩
  ·subst z
   exact⟨o,e1,fun v z=>by rw[d] at z;cases z⟩
 keep:=fun i h h' st k=>⟨let ⟨old,s1⟩:=st.1;⟨old,k e (by simp) _ s1⟩,st.2.at fun o q=>k it (by simp) o q⟩
 item:=by
  intro X hP hw hK hc i pins s σ H E I hf st hg
  subst hP hw hK
  obtain⟨xs,x,hq,hx⟩:=hg
  obtain⟨its,rv,p,hz⟩:=I.list hq
  obtain⟨u,hu,ru⟩:=rv.get hx
  have fe:=hf e (by simp)
  have fi:=hf it (by simp)
  obtain⟨⟨old,s1⟩,s2⟩:=st
  obtain⟨ol,l1,l2,l3⟩:=id p.isList
  obtain⟨oi,i1,i2,i3⟩:=id s2
  have xU:a≠e:=fun z=>by
   subst z
   rw[s1] at l1;cases l1
   exact absurd l2 (by simp)
  have hai:a≠it:=fun z=>by
   subst z
   rw[i1] at l1;cases l1
   rw[i2] at l2
   exact absurd l2 (by simp)
  have W:=WalksT.enumerate (prog:=X.prog) (w:=X.w) (I.ok.hd hc) e it a hei xU hai its.toArray
  have hi:i<its.toArray.size:=by
   have:=(aR.mp hu).1
   simpa using this
  refine W.item i s _ _ hi ⟨⟨old,s1⟩,s2,p.isList⟩ fun T vals h' tk hv hT Tu B8 kp=>⟨.ref T,rfl,?_⟩
  refine W.go elts k pos i T _ _ _ B8 fun h'' st' GH=>?_
  obtain⟨t,x',hx',Vb⟩:=hv
  have Xj:x'=u:=by
   have:its.toArray[i]?=some u:=by simpa using hu
   rw[hx'] at this;exact gf this
  subst Xj Vb
  have QE:=W.apart i T h' B8
  obtain⟨_,_,_,By,Bw⟩:=B8
  obtain⟨oT,t1,t2,nT,t3⟩:=Tu
  have t1':=GH T oT QE t1
  refine⟨.ref T,upd H T (.tup [.int i,x]),I.Xq (fun b v h1 h2 q=>GH b v (by simp[h1,h2]) (kp b v (by simp[h1,h2]) q)) fe fi hT By Bw ⟨_,s1⟩ ⟨_,i1⟩ ?_,rfl,⟨T,x,rfl,I.hok.fresh hT,fun ys hy=>by rw[I.HQ hy hq];exact hx,rfl⟩,⟨st'.1,st'.2.1⟩,fun b hb=>?_⟩
  ·exact⟨by show 2<=sizeLine;decide,[.int i t,x'], .cons ⟨t,rfl⟩ (.cons ru .nil),oT,t1',t2,nT,t3⟩
  ·rw[aK,(hf b hb).1]
   rcases(show b=e\/b=it by simpa using hb) with z|z
   ·rw[z];exact bw By
   ·rw[z];exact bw Bw
 done:=by
  intro X hP hw hK hc i pins s σ H E I hf st hg
  subst hP hw hK
  obtain⟨xs,hq,hx⟩:=hg
  obtain⟨its,rv,p,hz⟩:=I.list hq
  have fe:=hf e (by simp)
  have fi:=hf it (by simp)
  obtain⟨⟨old,s1⟩,s2⟩:=st
  obtain⟨ol,l1,l2,l3⟩:=id p.isList
  obtain⟨oi,i1,i2,i3⟩:=id s2
  have hl:=rv.length
  have xU:a≠e:=fun z=>by
   subst z
   rw[s1] at l1;cases l1
   exact absurd l2 (by simp)
  have hai:a≠it:=fun z=>by
   subst z
   rw[i1] at l1;cases l1
   rw[i2] at l2
   exact absurd l2 (by simp)
  have W:=WalksT.enumerate (prog:=X.prog) (w:=X.w) (I.ok.hd hc) e it a hei xU hai its.toArray
  have hn:its.toArray.size=i:=by rw[dJ];omega
  refine W.done s _ _ (by rw[hn];exact⟨⟨old,s1⟩,s2,p.isList⟩) fun h' tk kp=>⟨rfl,?_⟩
  exact I.Mr (fun b v h1 h2 q=>kp b v (by simp[h1,h2]) q) fe fi
 self:=fun _ _ _ _ _ st h=>let ⟨old,s1⟩:=st.1;wpAny_pyIter_enum s1 h
def Jp(K:PySem.W.Frag)(tl:TE):TI:=fun σ H R=>tl σ H fun x H1=>∃a,x= .ref a/\(∃xs,aV K H1 a xs)/\R (BE K a) H1
theorem DO{X:Cx}{K:PySem.W.Frag}{elts:List Expr}{k:Nat}{tpos:Pos}{l:Expr}{tl:TE}{p pos:Pos}(hK:X.K=K)(hg:Gl X "enumerate")(hm:X.mg "enumerate"=none)(hl:PE X l tl)(hs:starEach [l] X.env=[(false,eval l X.env)]:=by rfl):
    PI X (.Tuple elts k tpos) (.Call (.Name "enumerate" p) [l] [] pos) (Jp K tl):=by
  subst hK
  intro pins s σ H R I h
  have ha:PA X [l] (br tl bM):=aa hl af (by rw[hs];rfl)
  refine Call_ (qc I hg hm boot_enumerate (u7 (aW (ha pos pins s σ H (fun vs H1=>match vs with|[x]=>∃a,x= .ref a/\(∃xs,aV X.K H1 a xs)/\R (BE X.K a) H1|_=>False) I h) fun us s1 ⟨vs,H1,I1,r1,q1⟩=>?_) hs rfl))
  cases r1 with
  |nil=>exact q1.elim
  | cons r rr =>
    cases rr with
    |cons _ _=>exact q1.elim
    |nil=>
    obtain⟨a,e2,⟨xs,hq⟩,q⟩:=q1
    subst e2
    cases r
    obtain⟨its,rv,p,hz⟩:=I1.list hq
    obtain⟨m,hn,_⟩:=I1.loc
    refine enum_rows (h₀:={objs:= #[]}) (L:=X.env.locals) (m:=m) ⟨hn,fun b o z=>?_,fT _⟩ p.isList fun h' e1 e2 e3 e4 kp ne n1 n2 _ _=>?_
    · cases z
    refine wpAny_pyIter_enum e1 ?_
    have I2:Inv X pins σ H1 {s1 with heap:=h'}:=I1.kept (t':=s1.toks) kp
    refine⟨s1.heap.objs.size+1,[s1.heap.objs.size+1,s1.heap.objs.size],_,_,H1,rfl,I2,Wn a _ _ ne,⟨⟨_,e1⟩,e2⟩,fun b hb=>?_,q⟩
    rcases(show b=s1.heap.objs.size+1\/b=s1.heap.objs.size by simpa using hb) with z|z
    · subst z;exact I1.qG (m8 _) (I1.hok.fresh (m8 _))
    · subst z;exact I1.qG (aQ _) (I1.hok.fresh (aQ _))
end L2
set_option maxRecDepth 100000
set_option maxHeartbeats 4000000
namespace L2
open PySem PySem.Spec PyProof.Rows
section
variable{G:Gx}{ρ dM:Rh}{te:TE}{s:TS}{gt:TG}{E:DE}{K:PySem.W.Frag}{Θ:Bool->List PyData->Prop}{tc:TT}{mp:List (Option Nat)}
theorem Sv.ID(h:Ev G ρ te fun f x=>∃ds,x= .list ds/\∀v,uG (G.hd f (.list ds) v) ρ ds.length (fun i d=>∃e,ds[i]?=some e/\d= .tuple [.int i,e]) f gt s E):Sv G ρ (qQ (Jp K te) gt s) E:=fun nb σ H D W KK=>
 h nb σ H _ W fun f v H1 x ⟨ds,ex,q⟩ s1 hv=>by
  subst ex
  obtain⟨I,h0,ht,he⟩:=q v
  have W1:=(W.step s1).hd hv
  obtain⟨a,xs,rfl,n,hx,hd⟩:=hv.eO
  have key:∀{nb ρ' σ H},Wd (G.hd f (.list ds) (.ref a)) nb ρ' σ H->∃xs,H a=some (.lst xs)/\ah (G.S nb f) H ds xs:=fun W=>by
   obtain⟨a',xs',e',_,h',d'⟩:=W.j6.2.eO
   cases e'
   exact⟨xs',h',d'⟩
  refine⟨a,rfl,⟨xs, .of hx⟩,?_⟩
  refine⟨fun i m σ H=>m=ds.length-i/\i<=ds.length/\∃nb ρ',I i ρ'/\Wd (G.hd f (.list ds) (.ref a)) nb ρ' σ H,⟨ds.length,by simp,fT _,nb,ρ,h0,W1⟩,?_⟩
  rintro i m σ H ⟨rfl,hi,nb,ρ',hI,W⟩
  obtain⟨ys,hy,hD⟩:=key W
  have hl:=hD.length
  by_cases hlt:i<ds.length
  ·refine .inr ⟨⟨ys,ys[i]'(by omega), .of hy,aH _⟩,fun σ H=>∃nb ρ',I (i+1) ρ'/\Wd (G.hd f (.list ds) (.ref a)) nb ρ' σ H,fun σ' H' q=>⟨ds.length-(i+1),by omega,rfl,hlt,q⟩,fun x H' y=>?_⟩
   obtain⟨p,y,e,hn,hz,e2⟩:=y
   subst e e2
   have hx:=hz ys (.of hy)
   obtain⟨x',hx',dx⟩:=hD.get (aH hlt)
   rw[hx] at hx';cases hx'
   have st:Step (G.hd f (.list ds) (.ref a)).B H (upd H p (.tup [.int i,y])):= .same W.ay (dG hn)
   refine ht i _ ρ' ⟨_,aH hlt,rfl⟩ hI nb σ _ _ _ (W.step st) (.tup (W.fresh hn) bf (.cons (.int _) (.cons (dx.keep st.dS) .nil))) fun σ2 g5 q W2=>q nb σ2 _ _ W2 ?_
   exact⟨fun nb ρ σ H q W=>⟨nb,ρ,q,W⟩,fun nb ρ σ H q W=>KK.nx nb ρ σ H q W.j6.1,fun nb ρ σ H q W=>⟨nb,ρ,q,W⟩,fun nb ρ σ f v H d q W hv=>KK.rt nb ρ σ f v H d q W.j6.1 hv,fun nb ρ σ v H q W=>KK.rw nb ρ σ v H q W.j6.1⟩
  ·have e:i=ds.length:=by omega
   subst e
   exact .inl ⟨⟨ys, .of hy,by omega⟩,KK.nx nb ρ' σ H (he ρ' hI) W.j6.1⟩
end
end L2
set_option maxRecDepth 100000
set_option maxHeartbeats 4000000
namespace L2
open PySem PySem.Spec PyProof.Rows
section
variable{G:Gx}{ρ:Rh}{Φ:Pd}{te:TE}{t:TA}{i n:Nat}{f:Bool}{ds:List PyData}{Θ:List PyData->Prop}
theorem Ev.tupS(h:Av G ρ t fun es=>es.length<=10000/\Φ (iX es||gH (es.map (·.2))) (.tuple (es.map (·.2)))):Ev G ρ (oF t) Φ:=fun nb σ H Q W z=>
 h nb σ H _ W fun es vs H1 ⟨hl,p⟩ s1 q1=>⟨eK (by rw[q1.len];exact hl) (by decide),fun a ha=>z _ _ _ _ p (s1.trans (.same (W.step s1).ay (dG ha))) (by
  cases hs:gH (es.map (·.2)) with
  |true=>rw[vH];exact .tup ((W.step s1).fresh ha) bf ((q1.all (f:=false) fun z=>by cases z).nh hs)
  |false=>rw[oO];exact .tup ((W.step s1).fresh ha) bf ((q1.all fun z=>z).keep (aX.of (dG ha))))⟩
theorem Ev.WY(h:Ev G ρ te fun _ x=>∃n:Int,x= .int n/\2<=n/\n<=10002/\∀r:Int,fR r->r<10^40->Φ true (.int r)):Ev G ρ (iS wL [] E0 (br te bM)) Φ:=fun nb σ H Q W z=>
 h nb σ H _ W fun f v H1 d ⟨n,e,h1,h2,p⟩ s1 hv=>by
  subst e
  exact⟨n,by rw[hv.bO];rfl,h1,h2,fun r H' sm r1 r2 r3=>z true _ H' _ (p r (O0 r1 r3) (by omega)) (s1.trans (.same (W.step s1).ay sm)) (.int r)⟩
theorem Ev.str{x:Str}(h:Φ true (.str x)):Ev G ρ (tC (.str x)) Φ:=fun nb σ H Q W z=>z true _ H _ h (.refl W.ay) (by unfold aj;rfl)
end
theorem Eu.fin{p b L lt t:Int}(h:Eu p b L lt 0 t)(hp:fR p)(hb:b%p≠0):∃k,lt%p*b=1+p*k:=by
 obtain⟨g1,g2⟩:=h.dv L (Int.dvd_refl L) (Int.dvd_zero L)
 have m1:=dR b (show p≠0 by have:=hp.1;omega)
 have m2:=dQ b (show 0<p by have:=hp.1;omega)
 have hL:L=1:=by
  rcases hp.2 L h.l0 g1 with e|e
  ·exact e
  ·exfalso
   rw[e] at g2
   have:=Int.le_of_dvd (by omega) g2
   omega
 obtain⟨k,hk⟩:=h.lc
 have e:=mz lt p
 refine⟨-k-lt/p*b,?_⟩
 have e2:lt%p=lt-p*(lt/p):=by omega
 rw[e2,Int.sub_mul,pC,Int.mul_neg,qL]
 omega
noncomputable def sol(p b a:Int):Int:=open Classical in if h:∃x,0<=x/\x<p/\∃k,b*x-a=p*k then Classical.choose h else 0
theorem Gd{p b a x:Int}(hp:fR p)(hb:b%p≠0)(h0:0<=x)(h1:x<p)(hx:∃k,b*x-a=p*k):x=sol p b a:=by
 have ex:∃x,0<=x/\x<p/\∃k,b*x-a=p*k:=⟨x,h0,h1,hx⟩
 unfold sol
 rw[dif_pos ex]
 obtain⟨g0,g1,k',hk'⟩:=sN ex
 generalize Classical.choose ex=y at*
 obtain⟨k,hk⟩:=hx
 refine LH h0 h1 g0 g1 (Wh hp (a:=b) ⟨k-k',?_⟩ fun z=>hb (o9 z))
 rw[pC,pC];omega
theorem vI{p b a:Int}(hp:0<p):0<=sol p b a/\sol p b a<p:=by
 unfold sol
 split
 ·rename_i h
  obtain⟨g0,g1,_⟩:=sN h
  exact⟨g0,g1⟩
 ·omega
theorem IB{X:Cx}{K:PySem.W.Frag}{tg l:Expr}{tl:TE}(hK:X.K=K)(hl:PE X l tl):PI X tg l (p6 K tl):=by subst hK;exact dI hl
theorem Nh{env:Env}{n:Str}{l:List (Str×NameKind)}:(List.lookup n l=some .cell\/List.lookup n l=some .free)->
    (List.lookup n (l.map fun x => match x with | (n, k) => if (k == NameKind.free && env.scope.kind == ScopeKind.function && env.kindOf n == some NameKind.cell) = true then (n, NameKind.cell) else (n, k)) = some .cell \/
     List.lookup n (l.map fun x=>match x with|(n,k)=>if(k==NameKind.free && env.scope.kind==ScopeKind.function && env.kindOf n==some NameKind.cell)=true then(n,NameKind.cell) else(n,k))=some .free):=by
  induction l with
  |nil=>intro h;simpa using h
  | cons a r ih =>
    obtain⟨m,k⟩:=a
    intro h
    rw[aZ]
    by_cases c:n=m
    · subst c
      rw[CD] at h
      dsimp only
      split
      · rw[CD];exact .inl rfl
      · rw[CD];exact h
    · have hb:(n==m)=false:=by simpa using c
      have e1:List.lookup n ((m,k)::r)=List.lookup n r:=by rw[gc,hb]
      rw[e1] at h
      dsimp only
      split
      · rw[gc,hb];exact ih h
      · rw[gc,hb];exact ih h
theorem bY.rel{sx:Scope}{env:Env}{NX:List Str}{scope:Scope}{N:List Str}{mp:List (Option Nat)}(h:bY sx NX scope N mp):bY (relabel sx env) NX scope N mp:=
 ⟨h.kind,h.cell,h.names,fun y hy e=>Nh (h.free y hy e),h.len,h.look⟩
theorem Dw{X:Cx}{scope:Scope}{C:Addr}{N:List Str}{s₀:Shared}{H₀:Hp}{fp:List Addr}{elt iter tg:Expr}{ifs:List Expr}{qy:Scope}{pos:Pos}{N2:List Str}{mp:List (Option Nat)}{wi:TI}{g:TG}{tc:TT}{te:TE}
  (ok:bY scope N qy N2 mp) (hi:PI (eY X scope C N s₀ H₀ fp) tg iter wi)
  (hb:∀C' s₀' H₀' fp',PG (eY (eY X scope C N s₀ H₀ fp) qy C' N2 s₀' H₀' fp') tg g/\pR (eY (eY X scope C N s₀ H₀ fp) qy C' N2 s₀' H₀' fp') ifs tc/\PE (eY (eY X scope C N s₀ H₀ fp) qy C' N2 s₀' H₀' fp') elt te) (hc:X.calm=true:=by rfl)
  (hs:∀x,foldedSetIterable iter (eY X scope C N s₀ H₀ fp).env x=pure x:=by intro _;rfl):PE (eY X scope C N s₀ H₀ fp) (.ListComp elt [⟨tg,iter,ifs,0⟩] qy pos) (lO wi g tc te mp):=
 fW (X:=eY X scope C N s₀ H₀ fp) (bY.rel ok) hi hb hc hs
end L2
set_option maxRecDepth 100000
set_option maxHeartbeats 4000000
namespace L2
open PySem PySem.Spec PyProof.Rows
section
variable{G:Gx}{ρ:Rh}{Φ:Pd}{ta tb te:TE}{E:DE}{K:PySem.W.Frag}
theorem Ev.Yq{tl th:TO}(h:Ev G ρ te fun f x=>∃ds,x= .tuple ds/\Ov G ρ tl fun lo=>Ov G ρ th fun hi=>¬(HT.eB ds.length 0 lo=0/\HT.eB ds.length ds.length hi=ds.length)/\Φ f (.tuple (eE ds lo hi))):Ev G ρ (rY (Q7 K) te tl th) Φ:=fun nb σ H Q W z=>
 h nb σ H _ W fun f v H1 d ⟨ds,e,q⟩ s1 hv=>q nb σ H1 _ (W.step s1) fun lo H2 q2 s2=>q2 nb σ H2 _ ((W.step s1).step s2) fun hi H3 ⟨hn,q3⟩ s3=>by
  subst e
  obtain⟨a,xs,rfl,n,hx,hd⟩:=((hv.keep s2.dS).keep s3.dS).ofT
  have W3:=((W.step s1).step s2).step s3
  refine⟨a,xs,rfl, .of hx,by rw[hd.length];exact hn,fun p hp=>?_⟩
  exact z f _ _ _ q3 (s1.trans (s2.trans (s3.trans (.same W3.ay (dG hp))))) (.tup (W3.fresh hp) bf (hd.cut.keep (aX.of (dG hp))))
theorem Ev.Yk(h:Ev G ρ ta fun f x=>∃ds,x= .tuple ds/\ds≠[]/\Ev G ρ tb fun g y=>∃es,y= .tuple es/\es≠[]/\ds.length+es.length<=10000/\Φ (f && g) (.tuple (ds++es))):Ev G ρ (cU (Nd K) ta tb) Φ:=fun nb σ H Q W z=>
 h nb σ H _ W fun f v H1 d ⟨ds,e,hne,q⟩ s1 hv=>q nb σ H1 _ (W.step s1) fun g u H2 d2 ⟨es,e2,W7,hl,p⟩ s2 hu=>by
  subst e e2
  obtain⟨a,xs,rfl,n,hx,hd⟩:=(hv.keep s2.dS).ofT
  obtain⟨c,ys,rfl,m,hy,hc⟩:=hu.ofT
  have W2:=(W.step s1).step s2
  have jv:=hd.length
  have hyl:=hc.length
  refine⟨a,c,xs,ys,rfl,rfl, .of hx, .of hy,fun z=>hne (nj.mp (by rw[<-jv,z];rfl)),eK (by rw[jv,hyl];exact hl) (by decide),fun z=>absurd (nj.mp (by rw[<-hyl,z];rfl)) W7,fun _ q hq=>?_⟩
  refine z (f && g) _ _ _ p (s1.trans (s2.trans (.same W2.ay (dG hq)))) (.tup (W2.fresh hq) bf ?_)
  exact(ah.append (hd.av (bJ (fun z=>(cN _ _▸z).1) fun _ z=>z)) (hc.av (bJ (fun z=>(cN _ _▸z).2) fun _ z=>z))).keep (aX.of (dG hq))
end
end L2
set_option maxRecDepth 100000
set_option maxHeartbeats 4000000
namespace L2
open PySem PySem.Spec PyProof.Rows
def tU(es:List Fd):Bool:=es.all fun e=>e.1||jR e.2
section
variable{G:Gx}{ρ:Rh}{Φ:Pd}{t:TA}{te:TE}
theorem kD.HA{nb:Addr->Prop}{H:Hp}:∀{es:List Fd} {vs:List V} {f:Bool},kD G nb H es vs->(f=true->tU es=true)->ah (G.S nb f) H (es.map (·.2)) vs
  |[],_,_,h,_=>by unfold kD at h;subst h;exact .nil
  | e :: es, _, f, h, hf => by
    obtain⟨v,ws,rfl,h1,h2⟩:=h
    have hh:f=true->(e.1||jR e.2)=true/\tU es=true:=fun z=>by
      have:=hf z
      unfold tU at this
      rw[mV,cN] at this
      exact this
    refine .cons ?_ (h2.HA fun z=>(hh z).2)
    cases hs:jR e.2 with
    |true=>exact h1.nh hs
    |false=>exact h1.av (bJ (fun z=>by have:=(hh z).1;rw[hs,oO] at this;exact this) fun _ z=>z)
theorem Ev.VG(h:Av G ρ t fun es=>es.length<=10000/\Φ (tU es) (.tuple (es.map (·.2)))):Ev G ρ (oF t) Φ:=fun nb σ H Q W z=>
 h nb σ H _ W fun es vs H1 ⟨hl,p⟩ s1 q1=>⟨eK (by rw[q1.len];exact hl) (by decide),fun a ha=>z _ _ _ _ p (s1.trans (.same (W.step s1).ay (dG ha)))
  (.tup ((W.step s1).fresh ha) bf ((q1.HA fun z=>z).keep (aX.of (dG ha))))⟩
theorem cV.upd{H:Hp}{b l c:Addr}{o:HO}(h:cV H b l)(h1:c≠b)(h2:c≠l):cV (upd H c o) b l:=by
 obtain⟨ns,i,k,st,n,e1,e2,r⟩:=h
 exact⟨ns,i,k,st,n,by rw[aK (bw h1)];exact e1,by rw[aK (bw h2)];exact e2,r⟩
theorem cV.live{H:Hp}{b l:Addr}(h:cV H b l):H b≠none/\H l≠none:=by
 obtain⟨ns,i,k,st,n,e1,e2,r⟩:=h
 rw[e1,e2];exact⟨iU _,iU _⟩
end
def KY:R2:=fun x y H Q=>∃a b:Bool,x= .bl a/\y= .bl b/\Q (.bl (!(a==b))) H
theorem Ev.Yy{G:Gx}{ρ:Rh}{ta:TE}{b:Bool}{Φ:Pd}(h:Ev G ρ ta fun _ x=>∃a,x= .bool a/\Φ true (.bool (!(a==b)))):Ev G ρ (cU KY ta (tC (.bl b))) Φ:=fun nb σ H Q W z=>
 h nb σ H _ W fun f v H1 d ⟨a,e,q⟩ s1 hv=>by
  subst e
  unfold aj at hv
  subst hv
  exact⟨a,b,rfl,rfl,z true _ H1 _ q s1 (.bl _)⟩
abbrev aJ(r:List Int):PyData:= .list (r.map .int)
end L2
set_option maxRecDepth 100000
set_option maxHeartbeats 4000000
set_option maxRecDepth 100000
namespace L2
open PySem PySem.Spec PyProof.Rows
section
variable{κ:Type}[DecidableEq κ]
def bV(kvs:List (κ×V))(k:κ):Option V:=(kvs.find? fun kv=>decide (kv.1=k)).map (·.2)
def putK(kvs:List (κ×V))(k:κ)(v:V):List (κ×V):=
 if(kvs.any fun kv=>decide (kv.1=k))=true then kvs.map (fun kv=>if kv.1=k then(kv.1,v) else kv) else kvs++[(k,v)]
theorem UU{k:κ}:bV ([]:List (κ×V)) k=none:=rfl
theorem iV{p:κ×V}{r:List (κ×V)}{k:κ}(e:p.1=k):bV (p::r) k=some p.2:=by simp[bV,kL,e]
theorem iE{p:κ×V}{r:List (κ×V)}{k:κ}(e:¬p.1=k):bV (p::r) k=bV r k:=by simp[bV,kL,e]
theorem nk(k:κ):∀kvs:List (κ×V),(kvs.any fun kv=>decide (kv.1=k))=(bV kvs k).isSome
  |[]=>rfl
  | p :: r => by
    rw[lI]
    by_cases e:p.1=k
    · simp only[iV e,decide_eq_true e,Bool.true_or,Option.isSome_some]
    · rw[iE e,decide_eq_false e,rK];exact nk k r
theorem Gh(k j:κ)(y:V):∀kvs:List (κ×V),bV (kvs.map fun kv=>if kv.1=k then(kv.1,y) else kv) j=(bV kvs j).map fun x=>if j=k then y else x
  |[]=>rfl
  | p :: r => by
    have ih:=Gh k j y r
    rw[aZ]
    by_cases h:p.1=k
    · rw[if_pos h]
      by_cases e:p.1=j
      · rw[iV (p:=(p.1,y)) e,iV e,qK,if_pos (e.symm.trans h)]
      · rw[iE (p:=(p.1,y)) e,iE e,ih]
    · rw[if_neg h]
      by_cases e:p.1=j
      · rw[iV (p:=p) e,iV e,qK,if_neg (fun z=>h (e.trans z))]
      · rw[iE (p:=p) e,iE e,ih]
theorem Ja(k j:κ)(y:V):∀kvs:List (κ×V),bV kvs k=none->bV (kvs++[(k,y)]) j=if j=k then some y else bV kvs j
  | [], _ => by
    by_cases e:k=j
    · rw[if_pos e.symm];exact iV (p:=(k,y)) e
    · rw[if_neg (fun z=>e z.symm)];exact iE (p:=(k,y)) e
  | p :: r, hn => by
    rw[mS]
    have hk:¬p.1=k:=fun z=>by rw[iV z] at hn;cases hn
    rw[iE hk] at hn
    have ih:=Ja k j y r hn
    by_cases e:p.1=j
    · rw[iV e,iV e,if_neg (fun z=>hk (e.trans z))]
    · rw[iE e,iE e,ih]
theorem Th(kvs:List (κ×V))(k j:κ)(y:V):bV (putK kvs k y) j=if j=k then some y else bV kvs j:=by
 unfold putK
 by_cases a:(kvs.any fun kv=>decide (kv.1=k))=true
 ·rw[if_pos a,Gh]
  rw[nk] at a
  by_cases e:j=k
  ·obtain⟨x,hx⟩:=Cb.mp a
   rw[if_pos e,e,hx,qK,if_pos rfl]
  ·rw[if_neg e]
   cases bV kvs j with
   |none=>rfl
   |some x=>rw[qK,if_neg e]
 ·rw[if_neg a]
  refine Ja k j y kvs ?_
  rw[nk] at a
  cases q:bV kvs k with
  |none=>rfl
  |some x=>rw[q] at a;exact(a rfl).elim
theorem uH(kvs:List (κ×V))(k:κ)(v:V):(putK kvs k v).length<=kvs.length+1:=by
 unfold putK
 split
 ·rw[ak];omega
 ·rw[bz,oh,List.length_nil];omega
theorem Bt{kvs:List (κ×V)}{k:κ}(v:V)(h:bV kvs k=none):putK kvs k v=kvs++[(k,v)]:=by
 unfold putK
 rw[nk,h]
 exact if_neg (by decide)
theorem jH.AK{o:Option V}{u:Option Value}(r:jH o u):o.isSome=u.isSome:=by
  cases o with
  | none => cases u with
    |none=>rfl
    |some _=>exact(show False from r).elim
  | some _ => cases u with
    |none=>exact(show False from r).elim
    |some _=>rfl
theorem jH.getD{o:Option V}{u:Option Value}{d:V}{d':Value}(r:jH o u)(rd:RelV d d'):RelV (o.getD d) (u.getD d'):=by
  cases o with
  | none => cases u with
    |none=>exact rd
    |some _=>exact(show False from r).elim
  | some _ => cases u with
    |none=>exact(show False from r).elim
    |some _=>exact r
theorem KV.val{kvs:List (κ×V)}{vs:List (κ×Value)}(r:KV kvs vs)(k:κ):jH (bV kvs k) (valueAt vs k):=by
  unfold KV at r
  induction r with
  |nil=>exact True.intro
  | @cons p q ps qs h t ih =>
    obtain⟨h1,h2⟩:=h
    by_cases e:p.1=k
    · have e':q.1=k:=h1.symm.trans e
      have b:valueAt (q::qs) k=some q.2:=by simp[valueAt,kL,e']
      rw[iV e,b];exact h2
    · have e':¬q.1=k:=fun z=>e (h1.trans z)
      have b:valueAt (q::qs) k=valueAt qs k:=by simp[valueAt,kL,e']
      rw[iE e,b];exact ih
theorem KV.any{kvs:List (κ×V)}{vs:List (κ×Value)}(r:KV kvs vs)(k:κ):(kvs.any fun kv=>decide (kv.1=k))=vs.any fun kv=>decide (kv.1=k):=by
 unfold KV at r
 induction r with
 |nil=>rfl
 |cons h t ih=>rw[lI,lI,ih,h.1]
theorem KV.repl{kvs:List (κ×V)}{vs:List (κ×Value)}(r:KV kvs vs)(k:κ){y:V}{u:Value}(ry:RelV y u):
    KV (kvs.map fun kv=>if kv.1=k then(kv.1,y) else kv) (vs.map fun kv=>if kv.1=k then(kv.1,u) else kv):=by
  unfold KV at r⊢
  induction r with
  |nil=>exact .nil
  | @cons p q ps qs h t ih =>
    rw[aZ,aZ]
    refine .cons ?_ ih
    obtain⟨h1,h2⟩:=h
    by_cases e:p.1=k
    · rw[if_pos e,if_pos (h1.symm.trans e)];exact⟨h1,ry⟩
    · rw[if_neg e,if_neg (fun z=>e (h1.trans z))];exact⟨h1,h2⟩
theorem KV.put{kvs:List (κ×V)}{vs:List (κ×Value)}(r:KV kvs vs)(k:κ){y:V}{u:Value}(ry:RelV y u):KV (putK kvs k y) (stored vs k u):=by
 unfold putK stored
 rw[r.any k]
 by_cases e:(vs.any fun kv=>decide (kv.1=k))=true
 ·rw[if_pos e,if_pos e];exact r.repl k ry
 ·rw[if_neg e,if_neg e];exact Paired.snoc r ⟨rfl,ry⟩
theorem KV.keys{kvs:List (κ×V)}{vs:List (κ×Value)}(r:KV kvs vs):kvs.map (·.1)=vs.map (·.1):=by
 unfold KV at r
 induction r with
 |nil=>rfl
 |cons h t ih=>rw[aZ,aZ,ih,h.1]
theorem KV.length{kvs:List (κ×V)}{vs:List (κ×Value)}(r:KV kvs vs):kvs.length=vs.length:=vF r
end
theorem nG{P:Program}{w:World}{k:Key}{u:Value}(r:RelV (kV k) u):(eT P w).is k u=true:=by
 cases k with
 |inl i=>obtain⟨t,e⟩:=(show∃t,u=Value.int i t from r);subst e;exact Xa P w i t
 |inr x=>obtain⟨t,e⟩:=(show∃t,u=Value.str x t from r);subst e;exact N7 P w x t
theorem Fz{P:Program}{w:World}:∀{ks:List Key} {us:List Value},Vals (ks.map kV) us->ItemsAre (eT P w) ks us
  |[],_,r=>by rw[oq] at r;cases r;exact .nil
  | k :: ks, _, r => by
    rw[aZ] at r
    cases r with
    |cons h t=>exact .cons (nG h) (Fz t)
abbrev KT(H:Hp):List (List Key×V)->List (List Key×Addr×Value)->Prop:=Paired fun p q=>p.1=q.1/\H q.2.1=some (.tup (p.1.map kV))/\RelV p.2 q.2.2
theorem KT.val{H:Hp}{kvs:List (List Key×V)}{xs:List (List Key×Addr×Value)}(r:KT H kvs xs)(k:List Key):jH (bV kvs k) ((atKey xs k).map (·.2)):=by
  induction r with
  |nil=>exact True.intro
  | @cons p q ps qs h t ih =>
    obtain⟨h1,_,h2⟩:=h
    by_cases e:p.1=k
    · have e':q.1=k:=h1.symm.trans e
      have b:atKey (q::qs) k=some q.2:=by simp[atKey,kL,e']
      rw[iV e,b];exact h2
    · have e':¬q.1=k:=fun z=>e (h1.trans z)
      have b:atKey (q::qs) k=atKey qs k:=by simp[atKey,kL,e']
      rw[iE e,b];exact ih
theorem KT.repl{H:Hp}{kvs:List (List Key×V)}{xs:List (List Key×Addr×Value)}(r:KT H kvs xs)(k:List Key){y:V}{u:Value}(ry:RelV y u):
    KT H (kvs.map fun kv=>if kv.1=k then(kv.1,y) else kv) (xs.map (putAt k u)):=by
  induction r with
  |nil=>exact .nil
  | @cons p q ps qs h t ih =>
    rw[aZ,aZ]
    refine .cons ?_ ih
    obtain⟨h1,h2,h3⟩:=h
    unfold putAt
    by_cases e:p.1=k
    · rw[if_pos e,if_pos (h1.symm.trans e)];exact⟨h1,h2,ry⟩
    · rw[if_neg e,if_neg (fun z=>e (h1.trans z))];exact⟨h1,h2,h3⟩
theorem KT.put{H:Hp}{kvs:List (List Key×V)}{xs:List (List Key×Addr×Value)}(r:KT H kvs xs)(k:List Key){b:Addr}{y:V}{u:Value}(hb:H b=some (.tup (k.map kV)))(ry:RelV y u):
  KT H (putK kvs k y) (storedH xs k b u):=by
 have e:(kvs.any fun kv=>decide (kv.1=k))=(atKey xs k).isSome:=by
  rw[nk,(r.val k).AK,zv]
 unfold putK storedH
 rw[e]
 by_cases q:(atKey xs k).isSome=true
 ·rw[if_pos q,if_pos q];exact r.repl k ry
 ·rw[if_neg q,if_neg q];exact Paired.snoc r ⟨rfl,hb,ry⟩
theorem KT.keeps{H H':Hp}{kvs:List (List Key×V)}{xs:List (List Key×Addr×Value)}(r:KT H kvs xs)(ht:∀b ys,H b=some (.tup ys)->H' b=some (.tup ys)):KT H' kvs xs:=
 Paired.zd r fun _ _ z=>⟨z.1,ht _ _ z.2.1,z.2.2⟩
section
variable{P:Program}{w:World}{H:Hp}{h:Heap}{a:Addr}
theorem Jz{u:HO}(ok:c6 P w H h)(e:Rd H a u):bU P w H h a u:=e.ok ok
theorem qD{kvs:List (Key×V)}(ok:c6 P w H h)(e:Rd H a (.dK kvs)):kvs.length<=sizeLine/\(a==sysModules)=false/\∃vs,KV kvs vs/\h.DictOf (eT P w) a vs:=
 show bU P w H h a (.dK kvs) from Jz ok e
theorem G6{kvs:List (Key×V)}(ok:c6 P w H h)(e:H a=some (.dK kvs)):kvs.length<=sizeLine/\(a==sysModules)=false/\∃vs,KV kvs vs/\h.DictOf (eT P w) a vs:=qD ok (.inl e)
theorem Cr{ks:List Key}(ok:c6 P w H h)(e:H a=some (.tup (ks.map kV))):(tupleKind (eT P w)).is h ks a:=by
 obtain⟨_,its,r,o,h1,h2,n,h3⟩:=(show bU P w H h a (.tup (ks.map kV)) from ok a _ e)
 exact⟨o,its.toArray,n,h1,h2,h3,by simpa using Fz r⟩
theorem HX{kvs:List (List Key×V)}(ok:c6 P w H h)(e:Rd H a (.dT kvs)):kvs.length<=sizeLine/\(a==sysModules)=false/\
    ∃xs,KT H kvs xs/\h.DictOfH (tupleKind (eT P w)) a xs:=by
  obtain⟨z,y,xs,r,o,es,ep,h1,h2,h3,h4,h5⟩:=(show bU P w H h a (.dT kvs) from Jz ok e)
  refine⟨z,y,xs,r,o,es,ep,h1,h2,h3,h4,fun x hx=>?_,h5⟩
  have all:∀{l:List (List Key×V)} {m:List (List Key×Addr×Value)},KT H l m->∀x∈m,(tupleKind (eT P w)).is h x.1 x.2.1:=by
    intro l m q
    induction q with
    |nil=>intro x hx;exact nomatch hx
    | @cons p q ps qs hq t ih =>
      intro x hx
      rcases aP.mp hx with e|hx
      · subst e
        exact Cr ok (by rw[<-hq.1];exact hq.2.1)
      · exact ih x hx
  exact all r x hx
theorem MH{kvs:List (List Key×V)}(ok:c6 P w H h)(e:H a=some (.dT kvs)):kvs.length<=sizeLine/\(a==sysModules)=false/\
  ∃xs,KT H kvs xs/\h.DictOfH (tupleKind (eT P w)) a xs:=HX ok (.inl e)
end
def rJ(H:Hp)(a:Addr)(y:V)(r:Option V):Prop:=
 (∃kvs k,Rd H a (.dK kvs)/\y=kV k/\r=bV kvs k)\/∃kvs k b,Rd H a (.dT kvs)/\y= .ref b/\H b=some (.tup (k.map kV))/\r=bV kvs k
def qE(H:Hp)(a:Addr)(y v:V)(H':Hp):Prop:=
 (∃kvs k,H a=some (.dK kvs)/\y=kV k/\kvs.length<sizeLine/\H'=upd H a (.dK (putK kvs k v)))\/
 ∃kvs k b,H a=some (.dT kvs)/\y= .ref b/\H b=some (.tup (k.map kV))/\kvs.length<sizeLine/\H'=upd H a (.dT (putK kvs k v))
theorem rJ.t{H:Hp}{a b:Addr}{kvs:List (List Key×V)}{k:List Key}(e:H a=some (.dT kvs))(eb:H b=some (.tup (k.map kV))):rJ H a (.ref b) (bV kvs k):= .inr ⟨kvs,k,b, .inl e,rfl,eb,rfl⟩
theorem qE.t{H:Hp}{a b:Addr}{kvs:List (List Key×V)}{k:List Key}{v:V}(e:H a=some (.dT kvs))(eb:H b=some (.tup (k.map kV)))(hl:kvs.length<sizeLine):
  qE H a (.ref b) v (upd H a (.dT (putK kvs k v))):= .inr ⟨kvs,k,b,e,rfl,eb,hl,rfl⟩
section
variable{X:Cx}{pins:List (Addr×Obj)}{σ:St}{H:Hp}{s:Shared}{a:Addr}{y v:V}{u r:Value}{o:Option V}{A:Around}{E:Value->Shared->Prop}
theorem Inv.big(I:Inv X pins σ H s):sysModules<s.heap.objs.size:=by
 have h:mainGlobals<s.heap.objs.size:=(I.mod.glob.keeps I.bk).lt
 exact mR (by decide) h
theorem VE{Q:Value->Shared->Prop}(hu:A.units+1<cLine)(I:Inv X pins σ H s)(g:rJ H a y o)(ry:RelV y u)(h:∀s',Inv X pins σ H s'->Q (.bool o.isSome) s'):
  wpAny (model X.prog X.w) A (compareOp .In u (.ref a)) Q E s:=by
 rcases g with ⟨kvs,k,e,ey,l⟩|⟨kvs,k,b,e,ey,eb,l⟩
 ·subst ey
  obtain⟨z,hd,vs,rel,dd⟩:=qD I.hok e
  refine wpAny_in_of (nG ry) hd dd.mapOf ?_
  rw[<-(rel.val k).AK,<-l]
  exact h _ (I.tok _)
 ·subst ey
  cases (show u=Value.ref b from ry)
  obtain⟨z,hd,xs,rel,dd⟩:=HX I.hok e
  refine wpAny_in_heap (tupleKind_room_in1 hu) (Cr I.hok eb) hd dd ?_
  have q:=(rel.val k).AK
  rw[zv] at q
  rw[<-q,<-l]
  exact h _ (I.tok _)
theorem zf{h':Heap}{t':Nat}{ob:HO}(I:Inv X pins σ H s)(mu:sH (H a))(hs:Heap.SameBut a s.heap h')(he:∃q,h'.get? a=some q)(new:bU X.prog X.w (upd H a ob) h' a ob):
  Inv X pins σ (upd H a ob) {s with heap:=h',toks:=t'}:=
 I.write (x:=a) (e:=a) mu (.inl rfl) (fun b q hb z=>(hs.2 b hb).trans z) he new
theorem zV{P:Program}{w:World}{H':Hp}{h':Heap}{kvs:List (Key×V)}{vs:List (Key×Value)}(z:kvs.length<=sizeLine)(hd:(a==sysModules)=false)(rel:KV kvs vs)(dd:h'.DictOf (eT P w) a vs):
  bU P w H' h' a (.dK kvs):=⟨z,hd,vs,rel,dd⟩
theorem Wc{H':Hp}{Q:Unit->Shared->Prop}(hu:A.units+1<cLine)(I:Inv X pins σ H s)(g:qE H a y v H')(ry:RelV y u)(rv:RelV v r)(h:∀s',Inv X pins σ H' s'->Q () s'):
  wpAny (model X.prog X.w) A (setItem (.ref a) u r) Q E s:=by
 rcases g with ⟨kvs,k,e,ey,l,eH⟩|⟨kvs,k,b,e,ey,eb,l,eH⟩
 ·subst ey eH
  obtain⟨z,hd,vs,rel,dd⟩:=G6 I.hok e
  have hz:vs.length<=sizeLine:=by rw[<-rel.length];exact z
  have hl:(putK kvs k v).length<=sizeLine:=by have:=uH kvs k v;omega
  refine wpAny_setItem_pairs (hsz:=hz) (nG ry) dd fun h' ny hs=>h _ ?_
  have he:∃q,h'.get? a=some q:=let ⟨q,_,_,hq,_⟩:=ny;⟨q,hq⟩
  exact zf I (by rw[e];exact True.intro) hs he (zV hl hd (rel.put k rv) ny)
 ·subst ey eH
  cases (show u=Value.ref b from ry)
  obtain⟨z,hd,xs,rel,dd⟩:=MH I.hok e
  have hz:xs.length<=sizeLine:=by rw[<-vF rel];exact z
  have hl:(putK kvs k v).length<=sizeLine:=by have:=uH kvs k v;omega
  refine wpAny_setItem_heap (hsz:=hz) (tupleKind_room_in1 hu) (Cr I.hok eb) dd fun h' ny hs=>h _ ?_
  obtain⟨q,es,ep,hq,h2,h3,h4,_,h5⟩:=ny
  refine zf I (by rw[e];exact True.intro) hs ⟨q,hq⟩ ⟨hl,hd,_,(rel.put k eb rv).keeps fun c ys ec=>?_,q,es,ep,hq,h2,h3,h4,h5⟩
  rw[aK (Ng ec e (fun z=>nomatch z))]
  exact ec
end
theorem ML{P:Program}{w:World}{H:Hp}(h:Heap)(hb:sysModules<h.objs.size):bU P w H (h.push {cls:= .type "dict",data:= .dict #[]}) h.objs.size (.dK []):=
 ⟨fT _,beq_eq_false_iff_ne.mpr (bw (c5 hb)),[], .nil,Heap.DictOf.new h⟩
theorem QW{P:Program}{w:World}{H:Hp}(h:Heap)(hb:sysModules<h.objs.size):bU P w H (h.push {cls:= .type "dict",data:= .dict #[]}) h.objs.size (.dT []):=
 ⟨fT _,beq_eq_false_iff_ne.mpr (bw (c5 hb)),[], .nil,_,#[],0,fN _ rfl,⟨rfl,rfl,rfl⟩,rfl,rfl,mG⟩
def zU:TE:=fun _ H Q=>∀p,H p=none->Q (.ref p) (upd H p (.dK []))
def Fi:TE:=fun _ H Q=>∀p,H p=none->Q (.ref p) (upd H p (.dT []))
section
variable{X:Cx}{pos:Pos}
theorem EA:PE X (.Dict [] [] pos) zU:=fun pins s σ H Q I h=>
 wpAny_Dict_empty ⟨.ref s.heap.objs.size,_,I.laid (a:=s.heap.objs.size) (o:= .dK []) (t':=s.toks) (fun _ _ q=>bS _ q) (aQ _) (ML s.heap I.big),rfl,h _ (I.hok.fresh (aQ _))⟩
theorem VU:PE X (.Dict [] [] pos) Fi:=fun pins s σ H Q I h=>
 wpAny_Dict_empty ⟨.ref s.heap.objs.size,_,I.laid (a:=s.heap.objs.size) (o:= .dT []) (t':=s.toks) (fun _ _ q=>bS _ q) (aQ _) (QW s.heap I.big),rfl,h _ (I.hok.fresh (aQ _))⟩
end
def k9(kvs more:List (Key×V)):List (Key×V):=more.foldl (fun acc kv=>putK acc kv.1 kv.2) kvs
theorem KV.merge:∀{more:List (Key×V)} {rs:List (Key×Value)} {kvs:List (Key×V)} {vs:List (Key×Value)},KV more rs->KV kvs vs->KV (k9 kvs more) (merged vs rs):=by
  intro more rs kvs vs r
  unfold KV at r
  induction r generalizing kvs vs with
  |nil=>intro q;exact q
  | @cons p q ps qs h t ih =>
    intro r0
    have e:KV (putK kvs p.1 p.2) (stored vs q.1 q.2):=by
      have:=r0.put p.1 h.2
      rw[<-h.1];exact this
    exact ih e
theorem JV:∀(more kvs:List (Key×V)),(k9 kvs more).length<=kvs.length+more.length
  |[],kvs=>by show kvs.length<=kvs.length+0;omega
  | p :: r, kvs => by
    have h1:=JV r (putK kvs p.1 p.2)
    have h2:=uH kvs p.1 p.2
    show(k9 (putK kvs p.1 p.2) r).length<=_
    rw[oh];omega
end L2
/-THE LAST THEOREM (shape;LID,My.*are yours):
   My.Adr:a structure of the addresses that your layer names (classes,functions);My.Txt K t:a structure (Prop) of the equations over K;
   My.txt_mk:{K} {implicit addresses ..} (e1:nsIn K mainGlobals "law"=some (some (.ref f))) (e2:K.lookup f=some ⟨oc,od, .func (fnOf "law" "law" params body scope dV kV doc pm an cdv ct),sl⟩) (e3:codeIn K cdv "law"=true) .. :∃t,My.Txt K t
set_option maxRecDepth 100000 in
set_option maxHeartbeats 0 in
(the tactic k_is has no namespace:write k_is)-/
namespace L2
open PySem PySem.Spec PyProof.Rows
section
variable{κ:Type}[DecidableEq κ]
theorem WA{kvs:List (κ×V)}{k:κ}{v:V}(h:bV kvs k=some v):k∈kvs.map (·.1):=by
 have q:(kvs.any fun kv=>decide (kv.1=k))=true:=by
  rw[nk,h]
  all_goals rfl
 obtain⟨p,hp,e⟩:=oY.mp q
 exact dN.mpr ⟨p,hp,of_decide_eq_true e⟩
end
end L2
set_option maxRecDepth 100000
set_option maxHeartbeats 4000000
namespace L2
open PySem PySem.Spec PyProof.Rows
section
variable{prog:Program}{w:World}{A:Around}{E:Value->Shared->Prop}{s:Shared}
theorem J9{T:String}{r d:Addr}{n:Nat}{P:Nat->Value->Prop}{OK:Heap->Prop}{Q:List Value->Shared->Prop}(K:PySem.W.KdlSrc prog w T r d n P OK)(hh:A.handled=none)(hok:OK s.heap)(hn:n<=sizeLine)
  (hQ:∀h' tk' items,(∀b o,s.heap.get? b=some o->h'.get? b=some o)->s.heap.objs.size<=h'.objs.size->items.length=n->(∀(i:Nat) v,items[i]?=some v->P i v)->Q items {s with heap:=h',toks:=tk'}):wpAny (model prog w) A (collect (.ref r)) Q E s:=by
 obtain⟨lr,ld⟩:=K.there _ hok
 unfold collect
 refine wpAny_bind (wpAny_runValue (codeAny_builtin DH ?_))
 rw[lZ GK _]
 show wpAny _ A.in1 (newList []>>=fun l=>again (.builtin "list.__iadd__" ⟨[l, .ref r],[]⟩)) _ _ s
 refine wpAny_bind (wpAny_newObj_type ?_)
 refine wpAny_pure ⟨plainId_quiet sW _,codeAny_builtin Ez ?_⟩
 rw[lZ sW _]
 have gL:(s.heap.push ({cls:= .type "list",data:= .seq ([]:List Value).toArray}:Obj)).get? s.heap.objs.size=some {cls:= .type "list",data:= .seq ([]:List Value).toArray}:=fN _ rfl
 show wpAny _ A.in1 (Builtin.List.listExtendWith (.ref s.heap.objs.size) (.ref r) (.ref s.heap.objs.size)) _ _ {s with heap:=s.heap.push ({cls:= .type "list",data:= .seq ([]:List Value).toArray}:Obj)}
 refine PySem.W.kdl_extend (A:=A) (R:=fun r s'=>match r with
    | .ok (.ret v)=>wpAny (model prog w) A (match v with| .ref x=>(do match(<-load x).data with| .seq xs _=>pure xs.toList|_=>unsupported "internal:collect")|_=>unsupported "internal:collect") Q E s'
    | .ok _=>False
    | .error e=>E e s') (s:={s with heap:=s.heap.push ({cls:= .type "list",data:= .seq ([]:List Value).toArray}:Obj)}) K hh (K.keep _ _ hok fun b _ o e=>bS _ e) s.heap.objs.size (oU lr) (oU ld) _ _ gL (fun h' tk acc' c' hk hS hacc=>?_) hn
 refine wpAny_bind (wpAny_load hS (wpAny_pure ?_))
 refine hQ h' tk acc'.toList (fun b o e=>hk b o (c5 (bG e)) (bS _ e)) (jl (bG hS)) (by rw[kC];exact hacc.1) fun i v e=>hacc.2 i v (by rw[<-nq];exact e)
theorem Pa{a:Addr}{vs:List (Key×Value)}{ms:List Int}{Q:Value->Shared->Prop}(hh:A.handled=none)(lo:(a==sysModules)=false)(hd:s.heap.DictOf (eT prog w) a vs)(hk:vs.map (·.1)=ms.map Sum.inl)(h64:ms.length<64)
    (h:∀h' tk' (l:Addr) (out:List Value) (ns:List Int) (e:Nat),(∀b o,s.heap.get? b=some o->h'.get? b=some o)->s.heap.objs.size<=l->h'.get? l=some (seqObj "list" out.toArray e)->IntsAre out ns->ns.Pairwise (· <= ·)->ns.Perm ms->
      Q (.ref l) {s with heap:=h',toks:=tk'}):wpAny (model prog w) A (call (.builtin "sorted") [.ref a]) Q E s:=by
  obtain⟨ep,hat⟩:=hd.dictAt
  have hvl:vs.length=ms.length:=by have:=congrArg List.length hk;simpa using this
  refine BU kind_sorted plain_sorted entry_sorted (args_sorted1 _) ?_
  unfold Builtin.«sorted»
  refine wpAny_bind (m:=checkCount "sorted" 1 1 _) (wpAny_pure (wpAny_bind ?_))
  refine J9 (A:=A.in1) (PySem.W.kdl_dict lo) hh hat (by rw[hvl];exact eK (jl h64) (by decide)) fun h1 A7 items k1 k2 hil hit=>?_
  have hI:IntsAre items ms:=by
    have key:∀(its:List Value) (us:List (Key×Value)) (ms:List Int),us.map (·.1)=ms.map Sum.inl->its.length=us.length->(∀(i:Nat) v,its[i]?=some v->∃k x,us[i]?=some (k,x)/\(eT prog w).is k v=true)->IntsAre its ms:=by
      intro its
      induction its with
      | nil =>
        intro us ms e l _
        cases us with
        | nil => cases ms with
          |nil=>exact .nil
          |cons _ _=>cases e
        |cons _ _=>cases l
      | cons v its ih =>
        intro us ms e l hp
        cases us with
        |nil=>cases l
        | cons u us => cases ms with
          |nil=>cases e
          | cons m ms =>
            have e1:u.1=Sum.inl m:=by injection e
            have e2:us.map (·.1)=ms.map Sum.inl:=by injection e
            obtain⟨k,x,q1,q2⟩:=hp 0 v rfl
            have q1:u=(k,x):=by simpa using q1
            subst q1
            have e1:k=Sum.inl m:=e1
            subst e1
            obtain⟨t,rfl⟩:=uM (k:=m) (v:=v) q2
            exact .cons m t (ih us ms e2 (by simpa using l) fun i v q=>by simpa using hp (i+1) v (by simpa using q))
    exact key items vs ms hk hil hit
  have hlen:items.length=ms.length:=by rw[hil,hvl]
  refine wpAny_bind (wpAny_newList ?_)
  have gL:(h1.push (seqObj "list" items.toArray 0)).get? h1.objs.size=some (seqObj "list" items.toArray 0):=fN _ rfl
  refine wpAny_bind (wpAny_holding (wpAny_call_entry slot_list_sort ⟨_,gL,rfl⟩ entry_list_sort (list_sort_tree gL hI (by omega) fun out ns' a1 a2 a3=>⟨_,rfl,?_⟩) (args_list_sort _)))
  obtain⟨e,he⟩:=sortedHeap_at (out:=out) gL
  refine wpAny_pure ⟨_,rfl,h _ A7 h1.objs.size out.toList ns' e (fun b o q=>?_) k2 (by simpa using he) a1 a3 a2⟩
  have lb:=bG (k1 b o q)
  rw[sortedHeap_old (c5 lb) (by rw[mX];exact oB lb)]
  exact bS _ (k1 b o q)
end
def rW:List V->Hp->VK->Prop:=fun xs H Q=>∃a,∃kvs:List (Key×V),∃ms:List Int,xs=[.ref a]/\Rd H a (.dK kvs)/\kvs.map (·.1)=ms.map Sum.inl/\ms.length<64/\
 ∀l (rs:List Int),H l=none->rs.Pairwise (· <= ·)->rs.Perm ms->Q (.ref l) (upd H l (.lst (rs.map V.int)))
theorem Dh{X:Cx}(hc:X.calm=true):fk X (.builtin "sorted") rW:=by
 intro pins s σ H xs us Q I rv h
 obtain⟨a,kvs,ms,rfl,hH,hk,h64,q⟩:=h
 obtain⟨u,rfl,ru⟩:=vals1 rv
 cases ru
 obtain⟨z,hd,vs,rel,dd⟩:=qD I.hok hH
 refine Pa (I.ok.hd hc) hd dd (by rw[<-rel.keys];exact hk) h64 fun h' tk' l out ns e kp hl gl hI pw pp=>?_
 have new:bU X.prog X.w (upd H l (.lst (ns.map V.int))) h' l (.lst (ns.map V.int)):=by
  refine⟨?_,out,e,vg hI,gl⟩
  rw[ak,pp.length_eq];exact eK (jl h64) (by decide)
 exact⟨.ref l,_,I.laid (t':=tk') kp hl new,rfl,q _ _ (I.hok.fresh hl) pw pp⟩
section
variable{X:Cx}
def k6:R2:=fun x y H Q=>∃a kvs k v,x= .ref a/\y=kV k/\Rd H a (.dK kvs)/\bV kvs k=some v/\Q v H
theorem qN:kK X k6:=by
 intro value slice pins s σ H x y v u Q I rx ry h hs
 obtain⟨a,kvs,k,z,rfl,rfl,hH,hv,q⟩:=h
 cases rx
 obtain⟨hz,hd,vs,rel,dd⟩:=qD I.hok hH
 have hT:=dd.typeIs (s:=s)
 obtain⟨w',hw,rw'⟩:=jH.some_of (v:=z) (o:=valueAt vs k) (by rw[<-hv];exact rel.val k)
 unfold subscriptTail
 refine wpAny_bind ?_
 rw[getitemInPython_of_ne hT.not_modules]
 refine wpAny_bind (wpAny_specialOf hT PySem.F.slot_dict_getitem.lookup ?_)
 have fin:wpAny (model X.prog X.w) X.A (subscripted slice false (.ref a) u) (fun r s₃=>wpAny (model X.prog X.w) X.A (letTemporaryGo value (.ref a) r>>=fun _=>pure r) (EP X pins σ Q) X.xe s₃) X.xe s:=by
  rw[hs]
  refine wpAny_operating (wpAny_getItem_of (nG ry) dd.mapOf hw ?_)
  exact wpAny_bind (wpAny_letTemporaryGo (wpAny_pure ⟨z,H,I.tok _,rw',q⟩))
 first
  |exact wpAny_pure (wpAny_bind fin)
  |exact wpAny_bind (wpAny_pure (wpAny_bind fin))
  |exact wpAny_bind fin
def wB:V->V->V->Hp->(Hp->Prop)->Prop:=fun o i v H Q=>∃a kvs k,o= .ref a/\i=kV k/\H a=some (.dK kvs)/\kvs.length<sizeLine/\Q (upd H a (.dK (putK kvs k v)))
theorem set_dict:tW X wB:=by
 intro pins s σ H o i v ov iv u Q I ro ri rv h
 obtain⟨a,kvs,k,rfl,rfl,hH,YH,q⟩:=h
 cases ro
 obtain⟨z,hd,vs,rel,dd⟩:=G6 I.hok hH
 have hz:vs.length<=sizeLine:=by rw[<-rel.length];exact z
 have hl:(putK kvs k v).length<=sizeLine:=by have:=uH kvs k v;omega
 refine wpAny_setItem_pairs (hsz:=hz) (nG ri) dd fun h' ny hs=>?_
 have he:∃q,h'.get? a=some q:=let ⟨q,_,_,hq,_⟩:=ny;⟨q,hq⟩
 exact⟨_,zf I (by rw[hH];exact True.intro) hs he (zV hl hd (rel.put k rv) ny),q⟩
def uu:V->List V->Hp->VK->Prop:=fun x vs H Q=>∃a kvs k d,x= .ref a/\vs=[kV k,d]/\Rd H a (.dK kvs)/\Q ((bV kvs k).getD d) H
theorem ug:qR X "dict.get" uu:=by
  intro pins s σ H x xs v us Q I rx rv h
  obtain⟨a,kvs,k,d,rfl,rfl,hH,q⟩:=h
  cases rx
  cases rv with
  | cons r1 r2 =>
    obtain⟨r,rfl,rd⟩:=vals1 r2
    obtain⟨z,hd,vs,rel,dd⟩:=qD I.hok hH
    refine call_meetsIn rB dd.typeIs PySem.F.entry_dict_get (PySem.F.args_dict_get_3 _ _ _) (meets_dict_get_default (eT X.prog X.w) a (nG r1) hd r) ⟨_,dd.mapOf,?_⟩
    exact⟨_,H,I.tok _,(rel.val k).getD rd,q⟩
end
end L2
set_option maxRecDepth 100000
set_option maxHeartbeats 4000000
namespace L2
open PySem PySem.Spec PyProof.Rows
def ji(l:List Int)(kvs:List (Key×V)):Prop:=∃ms:List Int,kvs.map (·.1)=ms.map Sum.inl/\ms.Nodup/\(∀k,k∈ms↔k∈l)/\∀k:Int,k∈l->bV kvs (Sum.inl k)=some (.int (l.count k))
theorem ji.nil:ji [] []:=⟨[],rfl,mG,fun _=>Iff.rfl,fun _ h=>by cases h⟩
theorem ji.none{l:List Int}{kvs:List (Key×V)}{x:Int}(h:ji l kvs)(hx:x∉l):bV kvs (Sum.inl x)=none:=by
  obtain⟨ms,h1,_,h3,_⟩:=h
  cases e:bV kvs (Sum.inl x) with
  |none=>rfl
  | some v =>
    have:=WA e
    rw[h1] at this
    obtain⟨m,hm,e2⟩:=dN.mp this
    cases e2
    exact absurd ((h3 x).mp hm) hx
theorem ji.at{l:List Int}{kvs:List (Key×V)}(h:ji l kvs)(x:Int):(bV kvs (Sum.inl x)).getD (.int 0)= .int (l.count x):=by
 by_cases hx:x∈l
 ·obtain⟨_,_,_,_,h4⟩:=h
  rw[h4 x hx];rfl
 ·rw[h.none hx,List.count_eq_zero_of_not_mem hx];rfl
theorem keys_map{kvs:List (Key×V)}{k:Key}{v:V}(h:(bV kvs k).isSome=true):(putK kvs k v).map (·.1)=kvs.map (·.1):=by
 unfold putK
 rw[nk,if_pos h,dD]
 apply gn
 intro p _
 show(if p.1=k then(p.1,v) else p).1=p.1
 split<;>rfl
theorem ji.step{l:List Int}{kvs:List (Key×V)}{x:Int}(h:ji l kvs):ji (l++[x]) (putK kvs (Sum.inl x) (.int (l.count x+1))):=by
 have hn:=h.none (x:=x)
 obtain⟨ms,h1,h2,h3,h4⟩:=h
 have hval:∀k:Int,k∈l++[x]->bV (putK kvs (Sum.inl x) (.int (l.count x+1))) (Sum.inl k)=some (.int ((l++[x]).count k)):=fun k hk=>by
  rw[Th]
  by_cases e:k=x
  ·subst e
   rw[if_pos rfl,vG,List.count_singleton_self];rfl
  ·rw[if_neg (fun z=>e (vY z)),vG,Cj,if_neg (by simpa using bw e)]
   rcases cD.mp hk with z|z
   ·exact h4 k z
   ·exact absurd (aT.mp z) e
 by_cases hx:x∈l
 ·refine⟨ms,?_,h2,fun k=>?_,hval⟩
  ·rw[keys_map (by rw[h4 x hx];rfl)];exact h1
  ·rw[h3 k,cD,aT]
   exact⟨.inl,fun z=>z.elim id fun e=>e▸hx⟩
 ·refine⟨ms++[x],?_,?_,fun k=>?_,hval⟩
  ·rw[Bt _ (hn hx),cL,cL,h1];rfl
  ·rw[oH]
   exact⟨h2,by simp,fun a ha b hb z=>by rw[aT.mp hb] at z;exact hx ((h3 x).mp (z▸ha))⟩
  ·rw[cD,cD,h3 k]
end L2
set_option maxRecDepth 100000
set_option maxHeartbeats 4000000
namespace L2
abbrev Cn:=List (Int×Int)
structure Hs(cs:Cn):Prop where
 mq:∀c∈cs,0<=c.1/\c.1<=12/\0<=c.2/\c.2<=10^7
 nd:(cs.map (·.1)).Nodup
 len:cs.length<=14
 pos:∃c∈cs,0<c.1/\0<c.2
def GW:Cn->Rat->Rat
 |[],_=>0
 |c::r,v=>(if 0<c.1 then((c.1*c.2:Int):Rat)*v^(c.1.toNat-1) else 0)+GW r v
def GF:Cn->Int
 |[]=>0
 |c::r=>c.1*c.2+GF r
def Hr(cs:Cn)(v:Rat):Rat:=GW cs v/(GF cs:Int)
def WJ(l c:Cn)(s v:Rat):Rat:=s*Hr l (1-Hr c (1-v))
section
variable{l c:Cn}{s:Rat}(hl:Hs l)(hc:Hs c)(s0:0<=s)
include hl hc s0
end
def Em(x:Rat):Int:= -((-x).floor)
end L2
namespace L2
structure Gw where
 l:Cn
 c:Cn
 s:Rat
 u:Int
def Gw.gr(g:Gw)(x:Int):Rat:=WJ g.l g.c g.s ((x:Rat)/g.u)*g.u
def Gw.lo(g:Gw):Nat->Int
 |0=>(g.s*g.u).floor
 |k+1=>(g.gr (g.lo k)).floor
def Gw.hi(g:Gw):Nat->Int
 |0=>Em (g.s*g.u)
 |k+1=>Em (g.gr (g.hi k))
end L2
set_option maxRecDepth 100000
set_option maxHeartbeats 4000000
namespace L2
open PySem PySem.Spec PyProof.Rows
@[reducible] def Yc(g:Gw)(k:Nat):PyData:= .tuple [.int (g.lo k), .int (g.hi k)]
@[reducible] def YN(n:Nat):PyData:= .tuple [.str "falls", .int n]
@[reducible] def XG(x:Int):PyData:= .tuple [.str "stays", .int x]
@[reducible] def Yg:PyData:= .tuple [.str "open"]
def P0(K:PySem.W.Frag)(n:Nat)(t:iK):TG:=fun v σ H Q=>∃a xs,v= .ref a/\aV K H a xs/\xs.length=n/\t xs σ H Q
theorem Gv.lst{G:Gx}{ρ:Rh}{f:Bool}{ds:List PyData}{K:PySem.W.Frag}{Θ:Rh->Prop}{n:Nat}{u:iK}(hl:ds.length=n)(h:mw G ρ u f ds Θ):Gv G ρ (P0 K n u) f (.list ds) Θ:=fun nb σ H v Q W hv z=>by
 obtain⟨a,xs,rfl,m,hx,hd⟩:=hv.eO
 exact⟨a,xs,rfl, .of hx,by rw[hd.length];exact hl,h nb σ H xs Q W hd z⟩
end L2
set_option maxRecDepth 100000
set_option maxHeartbeats 4000000
namespace L2
open PySem PySem.Spec PyProof.Rows PySem.W
section
variable{n:Nat}{cmp:Nat->Nat->(Bool->Shared->Prop)->Shared->Prop}{s:Shared}
variable(h0:0<n)(hc:∀i j C,i<n->j<n->(∀b,C b s)->cmp i j C s)
include h0 hc
end
end L2
set_option maxRecDepth 100000
set_option maxHeartbeats 4000000
namespace L2
open PySem PySem.Spec PyProof.Rows PySem.W
section
variable{n:Nat}{key:Nat->Int}{cmp:Nat->Nat->(Bool->Shared->Prop)->Shared->Prop}{s:Shared}
variable(h0:0<n)(hc:∀i j C,i<n->j<n->C (decide (key i<key j)) s->cmp i j C s)
include h0 hc
end
end L2
set_option maxRecDepth 100000
set_option maxHeartbeats 4000000
set_option maxRecDepth 100000
set_option maxHeartbeats 4000000
namespace L2
open PySem PySem.Spec PyProof.Rows
@[reducible] def X6(l c:Cn)(u p:Int):Gw:=⟨l,c,(p:Rat)/u,u⟩
end L2
set_option maxRecDepth 100000
set_option maxHeartbeats 4000000
namespace L2
open PySem PySem.Spec PyProof.Rows
theorem Tv.lend{G:Gx}{ρ:Rh}{t:TT}{Θ:Bool->Prop}{a:Addr}{f:Bool}{ds:List PyData}(i:Nat)(e:ρ[i]?=some (.own a f ds))(h:Tv G (ρ.set i (.d f (.list ds))) t Θ):Tv G ρ t Θ:=fun nb σ H Q W z=>
 h _ σ H Q (Sv.share W e) z
end L2
set_option maxRecDepth 100000
set_option maxHeartbeats 4000000
namespace L2
open PySem PySem.Spec PyProof.Rows
theorem Pr:typeLookup (.type "list") "keys"=pure none:=by rw[typeLookup_type,builtinLookup_eq_fast];kernel_rfl
theorem LP:typeLookup (.type "list") "__getattr__"=pure none:=by rw[typeLookup_type,builtinLookup_eq_fast];kernel_rfl
section
variable{prog:Program}{w:World}{A:Around}{E:Value->Shared->Prop}{h:Heap}{g:Array GenState}{d:Drawn}{t:Nat}{os:OsState}{a:Addr}{o:Obj}
theorem N5{tk:Tok}{Q:Fin->Shared->Prop}{xs:Array Value}{n:Nat}(hh:A.handled=none)(hx:h.get? a=some (seqObj "list" xs n))
  (hq:∀h' tk e,Heap.NewAttrErr h h' e (.ref a) "keys" ->E (.ref e) ⟨h',g,d,tk,os⟩):
  wpAny (model prog w) A (Builtin.«object.__getattribute__» ⟨[.ref a, .str "keys" tk],[]⟩) Q E ⟨h,g,d,t,os⟩:=by
 have hT:(⟨h,g,d,t,os⟩:Shared).TypeIs (.ref a) "list":=⟨_,hx,rfl⟩
 have f4:=Pr
 unfold Builtin.«object.__getattribute__»
 repeat (any_goals (first|assumption|wp_step))
 exact wpAny_raiseAttrError hh hq (attrMsg_fits (by decide+kernel) (by size_fits))
theorem Le{tk:Tok}{R:Result->Shared->Prop}{xs:Array Value}{n:Nat}(hh:A.handled=none)(hx:h.get? a=some (seqObj "list" xs n))(hq:∀h' tk e,Heap.NewAttrErr h h' e (.ref a) "keys" ->R (.error (.ref e)) ⟨h',g,d,tk,os⟩):
  codeAny (model prog w) A (.call (.builtin "list.__getattribute__") ⟨[.ref a, .str "keys" tk],[]⟩) R ⟨h,g,d,t,os⟩:=
 codeAny_call_builtin uw.plain PySem.F.entry_list_ga (uw.check _ _ _ _ _ _ _ _ (show(⟨h,g,d,t,os⟩:Shared).TypeIs (.ref a) "list" from⟨_,hx,rfl⟩) (PySem.F.args_list_getattribute_2 _ _) (N5 (by exact hh) hx hq))
theorem L3{Q:Option Value->Shared->Prop}{xs:Array Value}{n:Nat}(hh:A.handled=none)(hx:h.get? a=some (seqObj "list" xs n))
  (hq:∀h' tk,(∀b ob,h.get? b=some ob->h'.get? b=some ob)->Q none ⟨h',g,d,tk,os⟩):wpAny (model prog w) A (getAttr? (.ref a) "keys") Q E ⟨h,g,d,t,os⟩:=by
 have hT:(⟨h,g,d,t,os⟩:Shared).TypeIs (.ref a) "list":=⟨_,hx,rfl⟩
 have f1:=sub_AttributeError
 have f2:=uw.lookup
 have f3:=uw.bind (.ref a)
 have f5:=LP
 unfold getAttr? getAttrBy? getAttrBy
 repeat (any_goals (first|assumption|wp_step))
 refine Le hh hx fun h' tk e hx'=>?_
 obtain⟨t',u',he⟩:=hx'.there
 unfold getattributeRaised
 repeat (any_goals (first|assumption|wp_step))
 exact hq _ _ hx'.keeps
end
end L2
set_option maxRecDepth 100000
set_option maxHeartbeats 4000000
namespace L2
open PySem PySem.Spec PyProof.Rows
theorem DJ:entryFor table "dict.update.loop"=some Builtin.«dict.update.loop» :=entryFor_of_tree (by kernel_rfl)
theorem wj:plainId "dict.update.loop"=true:=by decide+kernel
def vn(P:Program)(w:World)(h:Heap)(v:Value)(p:Key×Value):Prop:=∃a o m ku,v= .ref a/\h.get? a=some o/\o.cls= .type "tuple" /\o.data= .seq #[ku,p.2] m/\(eT P w).is p.1 ku=true
section
variable{prog:Program}{w:World}{A:Around}{E:Value->Shared->Prop}{s:Shared}
theorem RE{R:Result->Shared->Prop}{d it l:Addr}{its:List Value}{ps:List (Key×Value)}(hh:A.in1.handled=none)(hdl:d≠l)(hdi:d≠it)(hil:l≠it)(hlen:its.length=ps.length)(hsz:its.length<=10000):
    ∀(k i:Nat) (s:Shared) (t:Tok),its.length-i=k->i<=its.length->s.heap.IsListIter it l i->s.heap.IsList l its.toArray->(∀(j:Nat) (v:Value) (p:Key×Value),its[j]?=some v->ps[j]?=some p->vn prog w s.heap v p)->(∀(j:Nat) (v:Value),its[j]?=some v->v≠Value.ref d/\v≠Value.ref it)->
      s.heap.DictOf (eT prog w) d (merged [] (ps.take i))->(merged [] (ps.take i)).length<=i->
      (∀h' tk,(∀b o,b≠d->b≠it->s.heap.get? b=some o->h'.get? b=some o)->h'.DictOf (eT prog w) d (merged [] ps)->R (.ok (.ret .none)) {s with heap:=h',toks:=tk})->
      codeAny (model prog w) A (.builtin "dict.update.loop" ⟨[.ref d, .ref it, .int i t, .none],[]⟩) R s:=by
  intro k
  induction k with
  | zero =>
    intro i s t hk hi hit hl hp hne hD hDl hR
    have hin:i=its.length:=by omega
    subst hin
    refine codeAny_builtin DJ ?_
    rw[lZ wj _]
    show wpAny _ A.in1 (pyNext (.ref it)>>=_) _ _ s
    refine wpAny_bind (wpAny_pyNext_list_end hh hit hl (by simp) fun h' he=>?_)
    show wpAny _ A.in1 (ret Value.none) _ _ _
    rw[hlen,gV] at hD
    exact wpAny_pure (hR h' s.toks (fun b o _ n e=>he b o n e) (hD.extBut he hdi))
  | succ k ih =>
    intro i s t hk hi hit hl hp hne hD hDl hR
    have hlt:i<its.length:=by omega
    obtain⟨v,hv⟩:∃v,its[i]?=some v:=⟨_,aH hlt⟩
    obtain⟨p,hpp⟩:∃p,ps[i]?=some p:=⟨_,aH (by omega)⟩
    obtain⟨hn1,hn2⟩:=hne i v hv
    obtain⟨a,o,m,ku,rfl,g1,g2,g3,g4⟩:=hp i v p hv hpp
    have had:a≠d:=fun z=>hn1 (by rw[z])
    have hai:a≠it:=fun z=>hn2 (by rw[z])
    refine codeAny_builtin DJ ?_
    rw[lZ wj _]
    show wpAny _ A.in1 (pyNext (.ref it)>>=_) _ _ s
    refine wpAny_bind (wpAny_pyNext_list_item hit hl (x:= .ref a) (by simpa using hv) fun h1 SO xG=>?_)
    have qk:h1.get? a=some o:=(xG.2 a hai).trans g1
    have hT:(⟨h1,s.gens,s.drawn,s.toks,s.os⟩:Shared).TypeIs (.ref a) "tuple":=⟨o,qk,g2⟩
    show wpAny _ A.in1 (holding [Value.ref a] _>>=_) _ _ _
    refine wpAny_bind (wpAny_holding (wpAny_bind (wpAny_tryCatch ?_)))
    show wpAny _ A.in1 (Builtin.Dict.pairItems (.ref a)) _ _ _
    unfold Builtin.Dict.pairItems
    refine wpAny_bind (wpAny_typeOf hT ?_)
    rw[if_pos (by decide)]
    refine wpAny_bind (wpAny_seqItems qk g3 (wpAny_pure ?_))
    show wpAny _ A.in1 (holding [ku,p.2] (dictSet d ku p.2)) _ _ _
    have t9:h1.DictOf (eT prog w) d (merged [] (ps.take i)):=hD.sameBut xG hdi
    refine wpAny_holding (wpAny_dictSet_pairs (s:=⟨h1,s.gens,s.drawn,s.toks,s.os⟩) g4 t9 (fun h2 vL GB=>?_) (eK hDl (eK hi (eK hsz (by decide)))))
    have e:stored (merged [] (ps.take i)) p.1 p.2=merged [] (ps.take (i+1)):=by rw[take_snoc hpp];unfold merged;rw[C6];rfl
    rw[e] at vL
    have kk:∀b o,b≠d->b≠it->s.heap.get? b=some o->h2.get? b=some o:=fun b o n1 n2 z=>(GB.2 b n1).trans ((xG.2 b n2).trans z)
    refine wpAny_pure ⟨plainId_quiet wj _,ih (i+1) ⟨h2,s.gens,s.drawn,s.toks+1,s.os⟩ _ (by omega) hlt ?_ ?_ ?_ hne vL ?_ fun h' tk k' C5=>?_⟩
    · exact SO.at fun o z=>(GB.2 it (bw hdi)).trans z
    · exact hl.at fun o z=>kk l o (bw hdl) hil z
    · intro j v' p' hv' hp'
      obtain⟨hn1,hn2⟩:=hne j v' hv'
      obtain⟨a,o,m,ku,rfl,q1,q2,q3,q4⟩:=hp j v' p' hv' hp'
      exact⟨a,o,m,ku,rfl,kk a o (fun z=>hn1 (by rw[z])) (fun z=>hn2 (by rw[z])) q1,q2,q3,q4⟩
    · rw[<-e]
      unfold stored
      split
      · rw[ak];omega
      · rw[bz,fh];omega
    · exact hR h' tk (fun b o n1 n2 z=>k' b o n1 n2 (kk b o n1 n2 z)) C5
theorem RK{l:Addr}{its:List Value}{n:Nat}{ps:List (Key×Value)}{Q:Value->Shared->Prop}(hh:A.handled=none)(hlo:s.heap.get? l=some (seqObj "list" its.toArray n))(hlen:its.length=ps.length)(hsz:its.length<=10000)
  (hp:∀(j:Nat) (v:Value) (p:Key×Value),its[j]?=some v->ps[j]?=some p->vn prog w s.heap v p)
  (h:∀h' tk,h'.DictOf (eT prog w) s.heap.objs.size (merged [] ps)->(∀b o,s.heap.get? b=some o->h'.get? b=some o)->Q (.ref s.heap.objs.size) {s with heap:=h',toks:=tk}):
  wpAny (model prog w) A (call (.type "dict") [.ref l]) Q E s:=by
 refine callType_codes (Q₁:=fun obj s₁=>obj= .ref s.heap.objs.size/\s₁={s with heap:=s.heap.push {cls:= .type "dict",data:= .dict #[]}}) PySem.F.kt_called_dict (PySem.F.kt_typeCall_dict_1 _) PySem.F.entry_dict_init (kt_code_dict_new _ ⟨rfl,rfl⟩) ?_
 rintro obj s₁ ⟨rfl,rfl⟩
 have hnew:(s.heap.push {cls:= .type "dict",data:= .dict #[]}).DictOf (eT prog w) s.heap.objs.size []:=Heap.DictOf.new s.heap
 have hl1:(s.heap.push {cls:= .type "dict",data:= .dict #[]}).get? l=some (seqObj "list" its.toArray n):=bS _ hlo
 have uo:l<s.heap.objs.size:=bG hlo
 refine⟨hnew.typeIs,PySem.F.args_dict_init_2 _ _,?_⟩
 unfold Builtin.«dict.__init__»
 refine wpAny_bind ?_
 unfold Builtin.Dict.selfAndRest
 refine wpAny_bind (wpAny_notOrdered_dict hnew.typeIs ?_)
 show wpAny _ _ (pure (s.heap.objs.size,[Value.ref l])) _ _ _
 refine wpAny_pure ?_
 show wpAny _ _ (Builtin.Dict.updateFrom "dict.__init__" s.heap.objs.size (.ref l) [] .none) _ _ _
 unfold Builtin.Dict.updateFrom
 refine wpAny_bind (wpAny_typeOf (T:="list") ⟨_,hl1,rfl⟩ ?_)
 rw[if_pos (by decide)]
 refine wpAny_bind (L3 (A:=A.in1.in1) hh hl1 fun h1 tk k1=>?_)
 rw[if_pos (show(none:Option Value).isNone=true from rfl)]
 refine wpAny_bind (wpAny_rule (wpAny_bind ?_))
 have hl2:h1.get? l=some (seqObj "list" its.toArray n):=k1 _ _ hl1
 have t9:h1.DictOf (eT prog w) s.heap.objs.size []:=let ⟨o',es,ep,ho,r⟩:=hnew;⟨o',es,ep,k1 _ _ ho,r⟩
 have hs1:s.heap.objs.size<h1.objs.size:=by obtain⟨o',es,ep,ho,_⟩:=t9;exact bG ho
 have Hj:h1.IsList l its.toArray:=⟨_,hl2,rfl,n,rfl⟩
 refine wpAny_pyIter_list Hj ?_
 refine wpAny_pure ⟨plainId_quiet wj _,?_⟩
 refine RE (A:=A.in1) (its:=its) (ps:=ps) hh (bw (c5 uo)) (c5 hs1) (c5 (mR uo hs1)) hlen hsz its.length 0 _ _ (by omega) (fT _) ⟨_,fN _ rfl,rfl,rfl⟩ (Hj.push _) ?_ ?_ (t9.push _) (aQ _) fun h' tk' k' C5=>?_
 ·intro j v p hv hpp
  obtain⟨a,o,m,ku,rfl,q1,q2,q3,q4⟩:=hp j v p hv hpp
  exact⟨a,o,m,ku,rfl,bS _ (k1 _ _ (bS _ q1)),q2,q3,q4⟩
 ·intro j v hv
  obtain⟨p,hpp⟩:∃p,ps[j]?=some p:=⟨_,aH (by have:=(aR.mp hv).1;omega)⟩
  obtain⟨a,o,m,ku,rfl,q1,_⟩:=hp j v p hv hpp
  have la:=bG q1
  refine⟨fun z=>?_,fun z=>?_⟩
  ·cases z;exact absurd la (jB _)
  ·have z':a=h1.objs.size:=by cases z;rfl
   rw[z'] at la
   exact absurd (mR la hs1) (jB _)
 ·refine⟨rfl,h h' tk' C5 fun b o z=>?_⟩
  have lb:=bG z
  exact k' b o (c5 lb) (c5 (mR lb hs1)) (bS _ (k1 _ _ (bS _ z)))
end
def Bq:List V->Hp->VK->Prop:=fun xs H Q=>∃(l:Addr) (ys:List V) (kvs:List (Key×V)),xs=[.ref l]/\H l=some (.lst ys)/\ys.length=kvs.length/\ys.length<=10000/\
 (∀(j:Nat) (y:V) (p:Key×V),ys[j]?=some y->kvs[j]?=some p->∃a,y= .ref a/\H a=some (.tup [kV p.1,p.2]))/\∀d,H d=none->Q (.ref d) (upd H d (.dK (k9 [] kvs)))
theorem VI{X:Cx}(hc:X.calm=true):fk X (.type "dict") Bq:=by
  intro pins s σ H xs us Q I rv h
  obtain⟨l,ys,kvs,rfl,hH,hlen,hsz,hy,q⟩:=h
  obtain⟨u,rfl,ru⟩:=vals1 rv
  cases ru
  obtain⟨_,its,n,rs,h1⟩:=(show bU X.prog X.w H s.heap l (.lst ys) from I.hok l _ hH)
  have hli:=rs.length
  have key:∃ps:List (Key×Value),KV kvs ps/\∀(j:Nat) (v:Value) (p:Key×Value),its[j]?=some v->ps[j]?=some p->vn X.prog X.w s.heap v p:=by
    have gen:∀(ys:List V) (its:List Value) (kvs:List (Key×V)),Vals ys its->ys.length=kvs.length->(∀(j:Nat) (y:V) (p:Key×V),ys[j]?=some y->kvs[j]?=some p->∃a,y= .ref a/\H a=some (.tup [kV p.1,p.2]))->∃ps:List (Key×Value),KV kvs ps/\∀(j:Nat) (v:Value) (p:Key×Value),its[j]?=some v->ps[j]?=some p->vn X.prog X.w s.heap v p:=by
      intro ys
      induction ys with
      | nil =>
        intro its kvs r e _
        cases r
        cases kvs with
        |nil=>exact⟨[], .nil,fun j v p z=>by simp at z⟩
        |cons _ _=>cases e
      | cons y ys ih =>
        intro its kvs r e hq
        cases r with
        | cons r1 r2 =>
          cases kvs with
          |nil=>cases e
          | cons kv kvs =>
            obtain⟨ps,g1,g2⟩:=ih _ kvs r2 (by simpa using e) fun j y p a b=>hq (j+1) y p (by simpa using a) (by simpa using b)
            obtain⟨a,rfl,ha⟩:=hq 0 y kv rfl rfl
            cases r1
            obtain⟨_,its2,VY,o,w1,w2,m,w3⟩:=(show bU X.prog X.w H s.heap a (.tup [kV kv.1,kv.2]) from I.hok a _ ha)
            cases VY with
            | cons x1 x2 =>
              cases x2 with
              | cons y1 y2 =>
                cases y2
                refine⟨(kv.1,_)::ps, .cons ⟨rfl,y1⟩ g1,fun j v p a b=>?_⟩
                cases j with
                | zero =>
                  simp at a b
                  subst a b
                  exact⟨_,o,m,_,rfl,w1,w2,w3,nG x1⟩
                |succ j=>exact g2 j v p (by simpa using a) (by simpa using b)
    exact gen ys its kvs rs hlen hy
  obtain⟨ps,rel,hps⟩:=key
  have hpl:=rel.length
  refine RK (I.ok.hd hc) h1 (by omega) (by omega) hps fun h' tk' hD k=>?_
  have hml:=JV kvs []
  have new:bU X.prog X.w (upd H s.heap.objs.size (.dK (k9 [] kvs))) h' s.heap.objs.size (.dK (k9 [] kvs)):=by
    refine zV (eK hml (eK (show _<=10000 by simp;omega) (by decide))) ?_ (rel.merge .nil) hD
    have hb:=I.big
    have:s.heap.objs.size≠sysModules:=oU hb
    simpa using this
  exact⟨.ref s.heap.objs.size,_,I.laid (t':=tk') k (aQ _) new,rfl,q _ (I.hok.fresh (aQ _))⟩
end L2
set_option maxRecDepth 100000
set_option maxHeartbeats 4000000
namespace L2
open PySem PySem.Spec PyProof.Rows
abbrev Ks:=List (Int×PyData)
def fF(ks:Ks)(k:Int):Option PyData:=(ks.find? fun p=>decide (p.1=k)).map (·.2)
def oG(ks:Ks)(k:Int):Bool:=ks.any fun p=>decide (p.1=k)
def nW(ks:Ks)(k:Int)(d:PyData):Ks:=if oG ks k then ks.map fun p=>if p.1=k then(p.1,d) else p else ks++[(k,d)]
theorem LJ(ks:Ks)(k:Int):(fF ks k).isSome=oG ks k:=by
  unfold fF oG
  rw[zv]
  induction ks with
  |nil=>rfl
  | cons p r ih =>
    rw[kL,lI]
    by_cases h:p.1=k
    · simp[h]
    · simp only[h,decide_false,rK];exact ih
theorem M0{ks:Ks}{k:Int}:oG ks k=true↔k∈ks.map (·.1):=by
 unfold oG
 rw[oY,dN]
 constructor
 ·rintro⟨p,h1,h2⟩;exact⟨p,h1,by simpa using h2⟩
 ·rintro⟨p,h1,h2⟩;exact⟨p,h1,by simpa using h2⟩
theorem VX{k:Int}:fF [] k=none:=rfl
theorem nV{p:Int×PyData}{r:Ks}{k:Int}:fF (p::r) k=if p.1=k then some p.2 else fF r k:=by
 unfold fF
 rw[kL]
 by_cases h:p.1=k<;>simp[h]
theorem XJ{ks:Ks}{k j:Int}{d:PyData}:fF (ks++[(k,d)]) j=match fF ks j with|some x=>some x|none=>if j=k then some d else none:=by
  induction ks with
  | nil =>
    rw[List.nil_append,nV,VX]
    by_cases h:k=j
    · subst h;simp
    · have h':¬j=k:=fun z=>h z.symm
      simp[h,h']
  | cons p r ih =>
    rw[mS,nV,nV,ih]
    by_cases h:p.1=j<;>simp[h]
section
variable{S:Addr->Prop}{H:Hp}
theorem aE.val:∀{ks:Ks} {ps:List (Key×V)} (k:Int),aE S H (ks.map ck) ps->match fF ks k with|some d=>∃v,bV ps (Sum.inl k)=some v/\aj S H d v|none=>bV ps (Sum.inl k)=none
  |[],ps,k,h=>by unfold aE at h;subst h;exact UU
  | p :: r, ps, k, h => by
    rw[aZ] at h
    unfold aE at h
    obtain⟨q,qs,rfl,h1,h2⟩:=h
    unfold dP at h1
    obtain⟨h3,h4⟩:=h1
    have h3:q.1=Sum.inl p.1:=h3
    rw[nV]
    have ih:=aE.val k h2
    by_cases e:p.1=k
    · rw[if_pos e]
      refine⟨q.2,?_,h4⟩
      rw[iV (by rw[h3,e])]
    · rw[if_neg e,iE (fun z=>e (by rw[h3] at z;exact vY z))]
      exact ih
theorem aE.snoc:∀{ks:Ks} {ps:List (Key×V)} {k:Int} {d:PyData} {v:V},aE S H (ks.map ck) ps->aj S H d v->aE S H ((ks++[(k,d)]).map ck) (ps++[(Sum.inl k,v)])
  | [], ps, k, d, v, h, hd => by
    unfold aE at h;subst h
    show aE S H [ck (k,d)] [(Sum.inl k,v)]
    unfold aE
    exact⟨_,_,rfl,by unfold dP;exact⟨rfl,hd⟩,by unfold aE;rfl⟩
  | p :: r, ps, k, d, v, h, hd => by
    rw[aZ] at h
    unfold aE at h
    obtain⟨q,qs,rfl,h1,h2⟩:=h
    rw[mS,aZ,mS]
    unfold aE
    exact⟨q,_,rfl,h1,aE.snoc h2 hd⟩
theorem aE.repl:∀{ks:Ks} {ps:List (Key×V)} {k:Int} {d:PyData} {v:V},aE S H (ks.map ck) ps->aj S H d v->aE S H ((ks.map fun p=>if p.1=k then(p.1,d) else p).map ck) (ps.map fun kv=>if kv.1=Sum.inl k then(kv.1,v) else kv)
  |[],ps,k,d,v,h,hd=>by unfold aE at h;subst h;simp only[oq];unfold aE;rfl
  | p :: r, ps, k, d, v, h, hd => by
    rw[aZ] at h
    unfold aE at h
    obtain⟨q,qs,rfl,h1,h2⟩:=h
    rw[aZ,aZ,aZ]
    unfold dP at h1
    obtain⟨h3,h4⟩:=h1
    have h3:q.1=Sum.inl p.1:=h3
    unfold aE
    refine⟨_,_,rfl,?_,aE.repl h2 hd⟩
    by_cases e:p.1=k
    · rw[if_pos e,if_pos (by rw[h3,e])]
      unfold dP
      exact⟨h3,hd⟩
    · rw[if_neg e,if_neg (fun z=>e (by rw[h3] at z;exact vY z))]
      unfold dP
      exact⟨h3,h4⟩
theorem aE.any:∀{ks:Ks} {ps:List (Key×V)} (k:Int),aE S H (ks.map ck) ps->(ps.any fun kv=>decide (kv.1=Sum.inl k))=oG ks k:=fun{ks ps} k h=>by
 rw[nk,<-LJ]
 have:=aE.val k h
 cases hv:fF ks k with
 |none=>rw[hv] at this;rw[this];rfl
 |some d=>rw[hv] at this;obtain⟨v,e,_⟩:=this;rw[e];rfl
theorem aE.put{ks:Ks}{ps:List (Key×V)}{k:Int}{d:PyData}{v:V}(h:aE S H (ks.map ck) ps)(hd:aj S H d v):aE S H ((nW ks k d).map ck) (putK ps (Sum.inl k) v):=by
 unfold nW putK
 rw[aE.any k h]
 split
 ·exact aE.repl h hd
 ·exact aE.snoc h hd
theorem aE.len:∀{ks:Ks} {ps:List (Key×V)},aE S H (ks.map ck) ps->ps.length=ks.length
  |[],ps,h=>by unfold aE at h;subst h;rfl
  | p :: r, ps, h => by
    rw[aZ] at h
    unfold aE at h
    obtain⟨q,qs,rfl,_,h2⟩:=h
    simp[aE.len h2]
theorem aE.keys:∀{ks:Ks} {ps:List (Key×V)},aE S H (ks.map ck) ps->ps.map (·.1)=(ks.map (·.1)).map Sum.inl
  |[],ps,h=>by unfold aE at h;subst h;rfl
  | p :: r, ps, h => by
    rw[aZ] at h
    unfold aE at h
    obtain⟨q,qs,rfl,h1,h2⟩:=h
    unfold dP at h1
    have h3:q.1=Sum.inl p.1:=h1.1
    simp[aE.keys h2,h3]
end
def vZ(G:Gx)(ρ:Rh)(te:TE)(Φ:Bool->Ks->Prop):Prop:=∀nb σ H (Q:VK),Wd G nb ρ σ H->
 (∀f a ps H' ks,Φ f ks->Step G.B H H'->H a=none->H' a=some (.dK ps)->aE (fun x=>G.S nb f x\/x=a) H' (ks.map ck) ps->Q (.ref a) H')->te σ H Q
section
variable{G:Gx}{ρ dM:Rh}{Φ Ψ:Pd}{ta tb te:TE}{t:TA}{i:Nat}{f g:Bool}{d e:PyData}{ks:Ks}{K:PySem.W.Frag}{E:DE}{Θ:Bool->Ks->Prop}
theorem Wd.grow{nb:Addr->Prop}{σ:St}{H H1:Hp}{a:Addr}{o:HO}(W:Wd G nb ρ σ H)(s1:Step G.B H H1)(ha:H a=none)(e:H1 a=some o):Wd G (fun x=>nb x\/x=a) ρ σ H1/\NB G.B a/\∀f x,G.S (fun x=>nb x\/x=a) f x->(G.S nb f x\/x=a):=by
  have hN:NB G.B a:=NB.new W.ay ha
  have hA:∀f x,G.S (fun x=>nb x\/x=a) f x->(G.S nb f x\/x=a):=fun f x z=>by
    rcases z with (z|z)|z|z|z
    · exact .inl (.inl z)
    · exact .inr z
    · exact .inl (.inr (.inl z))
    · exact .inl (.inr (.inr (.inl z)))
    · exact .inl (.inr (.inr (.inr z)))
  have W1:=W.step s1
  refine⟨?_,hN,hA⟩
  refine⟨W1.ay,fun x n=>?_,W1.old,fun x n q=>?_,W.gA,W.len,W.gB,fun h m=>(((W.gz h m).fresh ha).keep (s1.but fun x z=> .inl (.inr (.inr (.inl z))))).av (hA h.1),fun j s e'=>?_,W.apart,W.fU,W.eg⟩
  · rcases n with n|n
    · exact W1.live x n
    · subst n;rw[e];exact iU _
  · rcases n with n|n
    · exact W.eS x n q
    · subst n
      cases z:G.H0 x with
      |none=>rfl
      |some o=>rw[W.old x o q z] at ha;cases ha
  · obtain⟨x,e1,h⟩:=W.ok j s e'
    refine⟨x,e1,?_⟩
    cases s with
    |no=>trivial
    |d f d=>obtain⟨v,e,h⟩:=h;exact⟨v,e,((h.fresh ha).keep (s1.but fun x z=> .inl (.inr (.inr (.inl z))))).av (hA f)⟩
    |own c f es=>obtain⟨e,n,q,xs,hx,hd⟩:=h;exact⟨e, .inl n,q,xs,s1.1 _ _ q hx,((hd.fresh ha).keep (s1.but fun x z=> .inl (.inr (.inr (.inl z))))).av (hA f)⟩
    |ay=>exact h
    |raw v=>exact h
    |cY c f es=>obtain⟨e,n,q,xs,hx,hd⟩:=h;exact⟨e, .inl n,q,xs,s1.1 _ _ q hx,((hd.fresh ha).keep (s1.but fun x z=> .inl (.inr (.inr (.inl z))))).av (hA f)⟩
    | cu c =>
      obtain⟨e,n,q⟩:=h
      refine⟨e,fun a ha=>⟨.inl (n a ha).1,(n a ha).2⟩,c.av (hA c.f) (c.keep (.of fun x o hx e=>s1.1 x o ?_ e) (c.fresh ha q))⟩
      rcases hx with hx|hx
      · exact kg fun z=>hx (.inl (.inr (.inr (.inl z))))
      · exact(n x hx).2
theorem Wq{nb:Addr->Prop}{σ:St}{H H1:Hp}{a:Addr}{ps:List (Key×V)}(W:Wd G nb ρ σ H)(s1:Step G.B H H1)(ha:H a=none)(e:H1 a=some (.dK ps))(hd:aE (fun x=>G.S nb f x\/x=a) H1 (ks.map ck) ps):
  Wd G (fun x=>nb x\/x=a) (ρ.set i (.cY a f ks)) (σ.set i (some (.ref a))) H1:=by
 obtain⟨W2,hN,hA⟩:=W.grow s1 ha e
 refine W2.set ⟨rfl, .inr rfl,hN,ps,e,hd.av (hA f)⟩ (fun _ _ _ z=>by cases z) ?_ (fun x hx j t hj ht hc=>?_)
 rotate_left
 ·have hx:x=a:=aT.mp hx
  subst hx
  rcases hc with ⟨c,z⟩|⟨c,rfl⟩
  ·cases z
  ·exact fun z=>W.live x ((W.ok j _ ht).choose_spec.2.2.1 x z).1 ha
 rintro a' f' ds' ⟨rfl,rfl,rfl⟩ j c g cs hj hc z
 subst z
 obtain⟨x,e1,h1,h2,h3,ys,hy,_⟩:=W.ok j _ hc
 rw[hy] at ha;cases ha
theorem Sv.RT(h:vZ G ρ te fun f ks=>∀a,E.nx (ρ.set i (.cY a f ks))):Sv G ρ (gv te (eN i)) E:=fun nb σ H D W K=>h nb σ H _ W fun f a ps H1 ks q s1 ha e hd=>K.nx _ _ _ H1 (q a) (Wq W s1 ha e hd)
theorem vZ.new(h:Θ true []):vZ G ρ zU Θ:=fun nb σ H Q W z p hp=>z true p [] _ [] h (.same W.ay (dG hp)) hp bf (by unfold aE;rfl)
@[reducible] def XE(p:Int×PyData):PyData:= .tuple [.int p.1,p.2]
theorem MW{nb:Addr->Prop}{σ:St}{H:Hp}{a:Addr}{ps:List (Key×V)}{ks':Ks}(W:Wd G nb ρ σ H)(e:ρ[i]?=some (.cY a f ks))(hd:aE (G.S nb g) H (ks'.map ck) ps):Wd G nb (ρ.set i (.cY a g ks')) σ (upd H a (.dK ps)):=by
 obtain⟨x,e1,h1,h2,h3,ys,hy,_⟩:=W.ok i _ e
 subst h1
 have hil:i<ρ.length:=(aR.mp e).1
 have W0:Wd G nb (ρ.set i .no) (σ.set i (some (.ref a))) H:=W.set trivial fun _ _ _ z=>by cases z
 have W1:Wd G nb (ρ.set i .no) (σ.set i (some (.ref a))) (upd H a (.dK ps)):=W0.write h2 h3 (fun j c f' cs hc z=>by
   subst z
   have hij:i≠j:=fun z=>by subst z;rw[cQ hil] at hc;cases hc
   rw[bH hij] at hc
   obtain⟨_,_,_,_,_,ps,hp,_⟩:=W.ok j _ hc
   rw[hy] at hp;cases hp) (fun j c f' cs hc=>by
   by_cases hij:i=j
   ·subst hij;rw[cQ hil] at hc;cases hc
   ·rw[bH hij] at hc
    exact(W.fU i j _ _ _ _ _ _ hij e hc).symm) (fun j c hc z=>by
   have hij:i≠j:=fun z=>by subst z;rw[cQ hil] at hc;cases hc
   rw[bH hij] at hc
   exact W.eg j i c _ (bw hij) hc e a z (aT.mpr rfl))
 have W2:=W1.set (i:=i) (s:= .cY a g ks') (x:=some (.ref a)) ⟨rfl,h2,h3,ps,bf,hd.keep (aX.set (.inl h2))⟩ (fun _ _ _ z=>by cases z) (by
  rintro a' f' ds' ⟨rfl,rfl,rfl⟩ j c g' cs hj hc
  rw[bH (bw hj)] at hc
  exact W.fU i j _ _ _ _ _ _ (bw hj) e hc) (fun x hx j t hj ht hc z=>by
  rw[bH (bw hj)] at ht
  have hx:x=a:=aT.mp hx
  subst hx
  rcases hc with ⟨c,q⟩|⟨c,rfl⟩
  ·cases q
  ·exact W.eg j i c _ hj ht e x z (aT.mpr rfl))
 rw[jx,jx] at W2
 have:σ.set i (some (.ref a))=σ:=by
  apply gR
  intro j
  by_cases hij:i=j
  ·subst hij;rw[cQ (by rw[W.len];exact hil),e1]
  ·rw[bH hij]
 rwa[this] at W2
theorem Sv.PL{a:Addr}(e:ρ[i]?=some (.cY a f ks))(h:Ev G ρ te fun g d=>Ev G ρ tb fun _ y=>∃k,y= .int k/\ks.length<10000/\E.nx (ρ.set i (.cY a (f && g) (nW ks k d)))):Sv G ρ (gv te (oK (cZ i) tb wB)) E:=fun nb σ H D W KK=>
 h nb σ H _ W fun g v H1 d q s1 hv=>by
  obtain⟨x,e1,h1,h2,h3,ps,hp,hd⟩:=(W.step s1).ok i _ e
  subst h1
  refine⟨.ref a,e1,q nb σ H1 _ (W.step s1) fun g' u H2 y ⟨k,ey,hl,p⟩ s2 hu=>?_⟩
  subst ey
  have W2:=(W.step s1).step s2
  have hlen:=hd.len
  refine⟨a,ps, .inl k,rfl,hu.bO,s2.1 _ _ h3 hp,dj (by rw[hlen];exact hl) (by decide),KK.nx nb _ _ _ p (MW W2 e ?_)⟩
  exact aE.put ((hd.keep s2.dS).av (bJ (fun z=>(cN _ _▸z).1) fun _ z=>z)) ((hv.keep s2.dS).av (bJ (fun z=>(cN _ _▸z).2) fun _ z=>z))
namespace Ev
theorem Xz{a:Addr}(e:ρ[i]?=some (.cY a f ks))(h:Ev G ρ tb fun _ y=>∃k,y= .int k/\∃d,fF ks k=some d/\Φ f d):Ev G ρ (cU k6 (cZ i) tb) Φ:=fun nb σ H Q W z=>by
 obtain⟨x,e1,h1,h2,h3,ps,hp,hd⟩:=W.ok i _ e
 subst h1
 refine⟨.ref a,e1,h nb σ H _ W fun g w H1 y ⟨k,ey,d,hv,p⟩ s1 hw=>?_⟩
 subst ey
 have:=aE.val k (hd.keep s1.dS)
 rw[hv] at this
 obtain⟨v,hv',hD⟩:=this
 exact⟨a,ps, .inl k,v,rfl,hw.bO, .inl (s1.1 _ _ h3 hp),hv',z f _ H1 _ p s1 hD⟩
theorem Vn{a:Addr}(e:ρ[i]?=some (.cY a f ks))(h:Ev G ρ ta fun _ y=>∃k,y= .int k/\Ev G ρ tb fun g x=>Φ (f && g) ((fF ks k).getD x)):Ev G ρ (jQ K "dict" uu (cZ i) (br ta (br tb bM))) Φ:=fun nb σ H Q W z=>by
  obtain⟨x,e1,h1,h2,h3,ps,hp,hd⟩:=W.ok i _ e
  subst h1
  refine⟨.ref a,e1, .inr (.inr (.inl ⟨rfl, .inl ⟨_,hp⟩⟩)),?_⟩
  refine h nb σ H _ W fun g w H1 y ⟨k,ey,q⟩ s1 hw=>q nb σ H1 _ (W.step s1) fun g' u H2 x p s2 hu=>?_
  subst ey
  have hd2:=(hd.keep s1.dS).keep s2.dS
  have hv:=aE.val k hd2
  refine⟨a,ps, .inl k,u,rfl,by rw[hw.bO];rfl, .inl (s2.1 _ _ h3 (s1.1 _ _ h3 hp)),?_⟩
  cases hk:fF ks k with
  | none =>
    rw[hk] at hv p
    rw[hv]
    exact z _ _ H2 _ p (s1.trans s2) (hu.av (bJ (fun z=>(cN _ _▸z).2) fun _ z=>z))
  | some d =>
    rw[hk] at hv p
    obtain⟨v,e',hD⟩:=hv
    rw[e']
    exact z _ _ H2 _ p (s1.trans s2) (hD.av (bJ (fun z=>(cN _ _▸z).1) fun _ z=>z))
end Ev
end
def C2(ng:Bool):R2:=fun x y H Q=>∃a o,y= .ref a/\rJ H a x o/\Q (.bl (o.isSome !=ng)) H
theorem E9{X:Cx}(hu:X.A.units+64<cLine):dZ X (compareOp .In) (C2 false):=by
 intro pins s σ H x y v u Q I rx ry h
 obtain⟨a,o,rfl,g,q⟩:=h
 cases ry
 exact VE (by omega) I g rx fun s' I'=>⟨.bl o.isSome,H,I',rfl,by simpa using q⟩
section
variable{G:Gx}{ρ:Rh}{Φ:Pd}{ta tb te:TE}{i:Nat}{f:Bool}{ks:Ks}{K:PySem.W.Frag}{E:DE}
theorem Kg{nb:Addr->Prop}{σ:St}{H:Hp}{a:Addr}(W:Wd G nb ρ σ H)(e:ρ[i]?=some (.cY a f ks)):Wd G (fun x=>nb x/\x≠a) (ρ.set i (.d f (.dict (ks.map ck)))) σ H:=by
  obtain⟨x,e1,h1,h2,h3,xs,hx,hd⟩:=W.ok i _ e
  subst h1
  have hil:i<ρ.length:=(aR.mp e).1
  have W0:Wd G nb (ρ.set i .no) (σ.set i (some (.ref a))) H:=W.set trivial fun _ _ _ z=>by cases z
  have W1:Wd G (fun x=>nb x/\x≠a) (ρ.set i .no) (σ.set i (some (.ref a))) H:=by
    refine⟨W0.ay,fun x n=>W0.live x n.1,W0.old,fun x n=>W0.eS x n.1,W0.gA,W0.len,W0.gB,fun h m=>(W0.gz h m).av (bJ (fun z=>z) fun _ z=>z.1),fun j s e'=>?_,W0.apart,W0.fU,W0.eg⟩
    obtain⟨x,jo,h⟩:=W0.ok j s e'
    refine⟨x,jo,?_⟩
    have hij:s≠ .no->i≠j:=fun n z=>by subst z;rw[cQ hil] at e';cases e';exact n rfl
    cases s with
    |no=>trivial
    |d f d=>obtain⟨v,e,h⟩:=h;exact⟨v,e,h.av (bJ (fun z=>z) fun _ z=>z.1)⟩
    | own c f es =>
      obtain⟨e2,n,q,ys,hy,hd'⟩:=h
      have hca:c≠a:=fun z=>by subst z;rw[hx] at hy;cases hy
      exact⟨e2,⟨n,hca⟩,q,ys,hy,hd'.av (bJ (fun z=>z) fun _ z=>z.1)⟩
    |ay=>exact h
    |raw v=>exact h
    | cY c f es =>
      obtain⟨e2,n,q,ps,hp,hd'⟩:=h
      have hij:=hij (by intro z;cases z)
      rw[bH hij] at e'
      exact⟨e2,⟨n,(W.fU i j _ _ _ _ _ _ hij e e').symm⟩,q,ps,hp,hd'.av (bJ (fun z=>z) fun _ z=>z.1)⟩
    | cu c =>
      obtain⟨e2,n,q⟩:=h
      have hij:=hij (by intro z;cases z)
      rw[bH hij] at e'
      exact⟨e2,fun x hx=>⟨⟨(n x hx).1,fun z=>W.eg j i c _ (bw hij) e' e x hx (by rw[z];exact aT.mpr rfl)⟩,(n x hx).2⟩,c.av (bJ (fun z=>z) fun _ z=>z.1) q⟩
  have W2:=W1.lz (i:=i) (f:=f) (d:= .dict (ks.map ck)) (v:= .ref a) (by
    unfold aj
    refine⟨a,xs,rfl,fun z=>?_, .inl hx,hd.av (bJ (fun z=>z) fun _ z=>z.1)⟩
    rcases z with z|z|z|z
    · exact z.2 rfl
    · exact W.gA a z (W.eS a h2 h3)
    · exact z h3
    · exact z.2 (W.eS a h2 h3))
  rw[jx,jx] at W2
  have:σ.set i (some (.ref a))=σ:=by
    apply gR
    intro j
    by_cases hij:i=j
    · subst hij;rw[cQ (by rw[W.len];exact hil),e1]
    · rw[bH hij]
  rwa[this] at W2
theorem Sv.WZ{s:TS}{a:Addr}(i:Nat)(e:ρ[i]?=some (.cY a f ks))(h:Sv G (ρ.set i (.d f (.dict (ks.map ck)))) s E):Sv G ρ s E:=fun nb σ H D W K=>h _ σ H D (Kg W e) K
theorem Ev.tN(h:Ev G ρ ta fun f x=>∃ks:Ks,x= .dict (ks.map ck)/\Ev G ρ tb fun _ y=>∃k,y= .int k/\∃d,fF ks k=some d/\Φ f d):Ev G ρ (cU k6 ta tb) Φ:=
 Ev.jK (h.mono fun f x ⟨ks,ex,q⟩=>q.mono fun g y ⟨k,ey,d,hv',p⟩ nb σ H u v Q W hu hv z=>by
  subst ex ey
  unfold aj at hu
  obtain⟨a,ps,rfl,n,hp,hd⟩:=hu
  have:=aE.val k hd
  rw[hv'] at this
  obtain⟨w,hw,hD⟩:=this
  exact⟨a,ps, .inl k,w,rfl,hv.bO,hp,hw,z f _ H _ p (.refl W.ay) hD⟩)
end
end L2
set_option maxRecDepth 100000
set_option maxHeartbeats 4000000
namespace L2
open PySem PySem.Spec PyProof.Rows
section
variable{prog:Program}{w:World}{A:Around}{E:Value->Shared->Prop}{s:Shared}
theorem NQ{l:Addr}{vs:List Value}{ns:List Int}{Q:Value->Shared->Prop}(hl:s.heap.IsList l vs.toArray)(hI:IntsAre vs ns)(hz:vs.length<64)
  (h:∀(out:Array Value) (ns':List Int),IntsAre out.toList ns'->ns'.Perm ns->ns'.Pairwise (· <= ·)->Q (.ref (s.heap.objs.size+1)) {s with heap:=sortedAll s.heap vs out}):
  wpAny (model prog w) A (call (.builtin "sorted") [.ref l]) Q E s:=by
 have hZ:vs.length<=sizeLine:=by rw[sizeLine_eq];omega
 refine BU kind_sorted plain_sorted entry_sorted (args_sorted1 _) ?_
 unfold Builtin.«sorted»
 refine wpAny_bind (m:=checkCount "sorted" 1 1 _) (wpAny_pure ?_)
 refine wpAny_bind (collect_list hl ?_ (hsz:=hZ))
 refine wpAny_bind (wpAny_newList ?_)
 have hsz:((s.heap.push (seqObj "list" #[] 0)).update s.heap.objs.size (Obj.mapSeq (· ++vs.toArray))).objs.size=s.heap.objs.size+1:=by
  rw[Heap.size_update,size_push']
 have wu:(((s.heap.push (seqObj "list" #[] 0)).update s.heap.objs.size (Obj.mapSeq (· ++vs.toArray))).push (seqObj "list" vs.toArray 0)).get? (s.heap.objs.size+1)=some (seqObj "list" vs.toArray 0):=by
  rw[<-hsz];exact fN _ rfl
 show wpAny _ _ _ _ _ {s with heap:=((s.heap.push (seqObj "list" #[] 0)).update s.heap.objs.size (Obj.mapSeq (· ++vs.toArray))).push (seqObj "list" vs.toArray 0)}
 rw[hsz]
 refine wpAny_bind (wpAny_holding (wpAny_call_entry slot_list_sort ⟨_,wu,rfl⟩ entry_list_sort (list_sort_tree wu hI hz fun out ns' a1 a2 a3=>⟨_,rfl,?_⟩) (args_list_sort _)))
 exact wpAny_pure ⟨_,rfl,h out ns' a1 a2 a3⟩
end
def zT(K:PySem.W.Frag):List V->Hp->VK->Prop:=fun xs H Q=>∃p,∃ns:List Int,xs=[.ref p]/\aV K H p (ns.map V.int)/\ns.length<64/\∀rs:List Int,rs.Perm ns->rs.Pairwise (· <= ·)->∀l,H l=none->Q (.ref l) (upd H l (.lst (rs.map V.int)))
theorem TF{X:Cx}:fk X (.builtin "sorted") (zT X.K):=by
 intro pins s σ H xs us Q I rv h
 obtain⟨p,ns,rfl,hp,hn,q⟩:=h
 obtain⟨u,rfl,ru⟩:=vals1 rv
 cases ru
 obtain⟨its,rs,il,hz⟩:=I.list hp
 have hI:=uC rs
 have hlen:=hI.length
 refine NQ (vs:=its) il.isList hI (by omega) fun out ns' h1 h2 h3=>?_
 obtain⟨e,ge⟩:=sortedAll_at s.heap its out
 have new:bU X.prog X.w (upd H (s.heap.objs.size+1) (.lst (ns'.map V.int))) (sortedAll s.heap its out) (s.heap.objs.size+1) (.lst (ns'.map V.int)):=by
  refine⟨?_,out.toList,e,vg h1,by simpa using ge⟩
  rw[ak,h2.length_eq];exact eK (jl hn) (by decide)
 exact⟨.ref (s.heap.objs.size+1),_,I.laid (t':=s.toks) (fun b o z=>sortedAll_old z) (m8 _) new,rfl,q _ h2 h3 _ (I.hok.fresh (m8 _))⟩
theorem au.Vc{G:Gx}{ρ:Rh}{te:TE}{K:PySem.W.Frag}{Θ:Bool->List PyData->Prop}(h:Ev G ρ te fun _ x=>∃ns:List Int,x= .list (ns.map .int)/\ns.length<64/\∀rs:List Int,rs.Perm ns->rs.Pairwise (· <= ·)->Θ true (rs.map .int)):
  au G ρ (fJ (zT K) (br te bM)) Θ:=fun nb σ H Q W z=>
 h nb σ H _ W fun f v H1 x ⟨ns,ex,hn,q⟩ s1 hv=>by
  subst ex
  obtain⟨a,xs,rfl,na,hx,hd⟩:=hv.eO
  have e:=o8 hd
  subst e
  refine⟨a,ns,rfl, .of hx,hn,fun rs hp hw l hl=>?_⟩
  exact au.fin (f:=true) W s1 hl (qv rs) (q rs hp hw) z
end L2
set_option maxRecDepth 100000
set_option maxHeartbeats 4000000
namespace L2
open PySem PySem.Spec PyProof.Rows
structure T4(n:Int)(cs:List aq):Prop where
 n0:1<=n
 n1:n<=10
 c0:cs≠[]
 c1:cs.length<=8
 ok:∀prs∈cs,prs≠[]/\prs.length<=4/\(prs.map (·.1)).Pairwise (· < ·)/\∀pr∈prs,0<=pr.1/\pr.1<n
section
variable{n:Int}{cs:List aq}(h:T4 n cs)
include h
end
end L2
set_option maxRecDepth 100000
set_option maxHeartbeats 4000000
namespace L2
open PySem PySem.Spec PyProof.Rows
theorem Vu:∀m n:Nat,∃u v:Int,u*m+v*n=(Nat.gcd m n:Int):=fun m n=>by
  induction m,n using Nat.gcd.induction with
  |H0 n=>exact⟨0,1,by simp⟩
  | H1 m n hm ih =>
    obtain⟨u,v,e⟩:=ih
    rw[Nat.gcd_rec]
    refine⟨v-u*(n/m:Nat),u,?_⟩
    rw[<-e]
    have h:(n:Int)=((n%m:Nat):Int)+(m:Int)*((n/m:Nat):Int):=by exact_mod_cast (Nat.mod_add_div n m).symm
    generalize ((n/m:Nat):Int)=z at h⊢
    generalize ((n%m:Nat):Int)=y at h⊢
    rw[h]
    grind
theorem zQ{p b a:Int}(hp:fR p)(hb:b%p≠0):∃k,b*sol p b a-a=p*k:=by
 have p2:=hp.1
 have hex:∃x,0<=x/\x<p/\∃k,b*x-a=p*k:=by
  have hg:Nat.gcd p.natAbs b.natAbs=1:=by
   have d1:(Int.gcd p b:Int)∣p:=Int.gcd_dvd_left ..
   have d2:(Int.gcd p b:Int)∣b:=Int.gcd_dvd_right ..
   have h0:0<(Int.gcd p b:Int):=by
    have:Int.gcd p b≠0:=fun z=>by have:=(DI.mp z).1;omega
    omega
   rcases hp.2 _ h0 d1 with e|e
   ·show Int.gcd p b=1
    omega
   ·rw[e] at d2;exact absurd (o9 d2) hb
  obtain⟨u,v,e⟩:=Vu p.natAbs b.natAbs
  rw[hg] at e
  obtain⟨v',e'⟩:∃v',u*p+v'*b=1:=by
   have Ug:(p.natAbs:Int)=p:=by omega
   rw[Ug] at e
   rcases(show(b.natAbs:Int)=b\/(b.natAbs:Int)= -b by omega) with h|h<;>rw[h] at e
   ·exact⟨v,e⟩
   ·exact⟨-v,by have e2:u*p+v* -b=1:=e;rw[<-e2];grind⟩
  refine⟨(v'*a)%p,dR _ (by omega),dQ _ (by omega),?_⟩
  have h1:=DR (v'*a) p
  generalize v'*a/p=t at h1
  generalize hx:v'*a%p=x at h1
  refine⟨-u*a-b*t,?_⟩
  have:b*x=b*(v'*a)-b*(p*t):=by rw[<-h1];grind
  rw[this]
  have h2:b*(v'*a)=(1-u*p)*a:=by rw[<-e'];grind
  rw[h2]
  grind
 unfold sol
 rw[dif_pos hex]
 exact(sN hex).2.2
end L2
set_option maxRecDepth 100000
set_option maxHeartbeats 4000000
namespace L2
open PySem PySem.Spec PyProof.Rows
theorem ah.era{nb:Addr->Prop}{H:Hp}:∀{ds:List PyData} {xs:List V} (m:Nat),ah nb H ds xs->ah nb H (ds.eraseIdx m) (xs.eraseIdx m)
 |[],_,m,h=>by unfold ah at h;subst h;exact .nil
 |e::ds,_,0,h=>by unfold ah at h;obtain⟨y,ys,rfl,h1,h2⟩:=h;exact h2
 |e::ds,_,m+1,h=>by unfold ah at h;obtain⟨y,ys,rfl,h1,h2⟩:=h;exact .cons h1 (ah.era m h2)
section
variable{G:Gx}{ρ:Rh}{te:TE}{E:DE}{i j:Nat}{f:Bool}{ds:List PyData}{K:PySem.W.Frag}
theorem Sv.OL{a:Addr}(e:ρ[i]?=some (.own a f ds))(h:Ev G ρ te fun _ y=>∃(m:Nat) (d:PyData),y= .int (m:Int)/\m<2^62/\ds[m]?=some d/\E.nx ((ρ.set i (.own a f (ds.eraseIdx m))).set j (.d f d))):
  Sv G ρ (gv (jQ K "list" ye (cZ i) (br te bM)) (eN j)) E:=fun nb σ H D W KK=>by
 obtain⟨x,e1,h1,h2,h3,xs,hx,hd⟩:=W.ok i _ e
 subst h1
 refine⟨.ref a,e1, .inl ⟨rfl,_,aV.of hx⟩,h nb σ H _ W fun g v H1 y ⟨m,d,ey,hm,Az,q⟩ s1 hv=>?_⟩
 subst ey
 have hk:=hv.bO
 subst hk
 have W1:=W.step s1
 have se:=s1.1 _ _ h3 hx
 have hd1:=hd.keep s1.dS
 obtain⟨y',hy',hD⟩:=hd1.get Az
 have hml:m<xs.length:=(aR.mp hy').1
 have hix:seqIndex? (m:Int) xs.length=some m:=by
  have:eW xs.length (m:Int)=some m:=by
   unfold eW
   rw[if_pos (by omega),if_pos (by omega),eZ]
  exact(wg this).1
 refine⟨a,xs,(m:Int),m,y',rfl,rfl,se,by omega,by omega,hix,hy',?_⟩
 have W2:=qu W1 e (hd1.era m)
 exact KK.nx nb _ _ _ q (W2.lz (hD.keep (aX.set (.inl h2))))
theorem Sv.Uo{K2:PySem.W.Frag}{a c:Addr}{g:Bool}{es:List PyData}(hij:i≠j)(e:ρ[i]?=some (.own a f ds))(ej:ρ[j]?=some (.own c g es))
  (h:Ev G ρ te fun _ y=>∃(m:Nat) (d:PyData),y= .int (m:Int)/\m<2^62/\es[m]?=some d/\ds.length<10000/\E.nx ((ρ.set j (.own c g (es.eraseIdx m))).set i (.own a (f && g) (ds++[d])))):
  Sv G ρ (nN (jQ K "list" p8 (cZ i) (br (jQ K2 "list" ye (cZ j) (br te bM)) bM))) E:=fun nb σ H D W KK=>by
 obtain⟨x,e1,h1,h2,h3,xs,hx,hd⟩:=W.ok i _ e
 subst h1
 obtain⟨y,e2,k1,k2,k3,ys,hy,he⟩:=W.ok j _ ej
 subst k1
 have hac:a≠c:=W.apart i j _ _ _ _ _ _ hij e ej
 refine⟨.ref a,e1, .inl ⟨rfl,_,aV.of hx⟩, .ref c,e2, .inl ⟨rfl,_,aV.of hy⟩,h nb σ H _ W fun b v H1 z ⟨m,d,ez,hm,Az,hl,q⟩ s1 hv=>?_⟩
 subst ez
 have hk:=hv.bO
 subst hk
 have W1:=W.step s1
 have se:=s1.1 _ _ h3 hx
 have hy1:=s1.1 _ _ k3 hy
 have hd1:=hd.keep s1.dS
 have DC:=he.keep s1.dS
 obtain⟨y',hy',hD⟩:=DC.get Az
 have hml:m<ys.length:=(aR.mp hy').1
 have hix:seqIndex? (m:Int) ys.length=some m:=by
  have:eW ys.length (m:Int)=some m:=by
   unfold eW
   rw[if_pos (by omega),if_pos (by omega),eZ]
  exact(wg this).1
 refine⟨c,ys,(m:Int),m,y',rfl,rfl,hy1,by omega,by omega,hix,hy',?_⟩
 have W2:=qu W1 ej (DC.era m)
 have bt:=(aX.set (.inl k2):aX (G.S nb true) H1 (upd H1 c (.lst (ys.eraseIdx m))))
 have eI:(ρ.set j (.own c g (es.eraseIdx m)))[i]?=some (.own a f ds):=by rw[bH (bw hij)];exact e
 refine⟨a,xs,y',rfl,rfl,by rw[aK hac];exact se,dj (by rw[hd.length];exact hl) (by decide),KK.nx nb _ _ _ q (qu W2 eI ?_)⟩
 exact ah.snoc ((hD.keep (aX.set (.inl k2))).av (bJ (fun z=>(cN _ _▸z).2) fun _ z=>z)) ((hd1.keep (aX.set (.inl k2))).av (bJ (fun z=>(cN _ _▸z).1) fun _ z=>z))
end
end L2
set_option maxRecDepth 100000
set_option maxHeartbeats 4000000
namespace L2
open PySem PySem.Spec PyProof.Rows
def je(G:Gx)(ρ:Rh)(te:TE)(Φ:PyData->Prop):Prop:=∀nb σ H (Q:VK),Wd G nb ρ σ H->(∀v H' d,Φ d->Step G.B H H'->aj (fun a=>H a≠none) H' d v->Q v H')->te σ H Q
section
variable{G:Gx}{ρ:Rh}{ta tb te:TE}{t:TA}{E:DE}{i j k m:Nat}{f:Bool}{K:PySem.W.Frag}{Φ:PyData->Prop}
theorem Wd.Jy{nb:Addr->Prop}{σ:St}{H H1:Hp}{a:Addr}(W:Wd G nb ρ σ H)(s:Step G.B H H1)(h:H a≠none):H1 a≠none:=fun e=>h (W.none_of s e)
theorem je.fZ{n:Nat}{F:DF}(hm:cG F)(e:ρ[i]?=some .ay)(h:Av G ρ t fun es=>es.length+1=n/\F (es.map (·.2)) fun f d=>f=true/\Φ d):je G ρ (iS (cI n F) [] E0 (br (cZ i) t)) Φ:=fun nb σ H Q W z=>by
 obtain⟨b,l,hB,e1,B⟩:=W.vh e
 refine⟨.ref b,e1,h nb σ H _ W fun es vs H1 ⟨hl,p⟩ s1 q1=>?_⟩
 have W1:=W.step s1
 show cI n F ((V.ref b::vs)++[]) H1 Q E0
 rw[iG]
 have hb:∀f,G.S nb f b:=fun f=> .inr (.inr (.inl fun n=>n b l hB rfl))
 refine⟨by rw[oh,q1.len,hl],b,l,vs,G.S nb (iX es),es.map (·.2),rfl,W1.ay b l hB,W1.kF,hb _,q1.all fun z=>z,hm _ _ _ p fun f d ⟨hf,hp⟩ v H' bt B' hd=>z v H' d hp (s1.trans (.tV hB bt B')) (hd.av fun a q=>?_)⟩
 exact .inr ⟨hf,W.Jy s1 q⟩
theorem je.c8{n:Nat}{F:DF}(hm:cG F)(h:Av G ρ t fun es=>es.length=n/\F (es.map (·.2)) fun f d=>f=true/\Φ d):je G ρ (iS (bC n F) [] E0 t) Φ:=fun nb σ H Q W z=>
 h nb σ H _ W fun es vs H1 ⟨hl,p⟩ s1 q1=>by
  have W1:=W.step s1
  rw[iG]
  refine⟨by rw[q1.len,hl],G.S nb (iX es),es.map (·.2),W1.kF,q1.all fun z=>z,hm _ _ _ p fun f d ⟨hf,hp⟩ v H' sm hd=>z v H' d hp (s1.trans (.same W1.ay sm)) (hd.av fun a q=>?_)⟩
  exact .inr ⟨hf,W.Jy s1 q⟩
end
end L2
set_option maxRecDepth 100000
set_option maxHeartbeats 1000000
set_option maxRecDepth 100000
set_option maxHeartbeats 4000000
namespace L2
open PySem PySem.Spec PyProof.Rows
def Xh(jT:List Int)(prs:aq):Nat:=(prs.filter fun pr=>decide (pr.1∈jT)).length
def G5(cs:List aq)(jT:List Int):Bool:=cs.all fun prs=>decide (Xh jT prs≠1)
def Lr(rows:List (List Int))(jT:List Int):List Int:=jT.flatMap fun p=>rows.getD p.toNat []
def kr(L:List Int)(ks:Ks):Prop:=∃ms:List Int,ms.Nodup/\(∀c,c∈ms↔c∈L)/\ks=ms.map fun c=>(c,PyData.int (L.count c))
theorem uP{g:Int->PyData}{c:Int}:∀{ms:List Int},fF (ms.map fun c=>(c,g c)) c=if c∈ms then some (g c) else none
  |[]=>rfl
  | m :: ms => by
    rw[aZ,nV,uP]
    by_cases h:m=c
    · subst h;simp
    · have h':¬c=m:=fun z=>h z.symm
      simp[h,h']
theorem kr.nil:kr [] []:=⟨[],mG,fun _=>Iff.rfl,rfl⟩
theorem kr.get{L:List Int}{ks:Ks}(h:kr L ks)(c:Int):(fF ks c).getD (.int 0)= .int (L.count c):=by
 obtain⟨ms,nd,hm,rfl⟩:=h
 rw[uP]
 by_cases e:c∈ms
 ·rw[if_pos e];rfl
 ·rw[if_neg e]
  have:L.count c=0:=wX.mpr fun z=>e ((hm c).mpr z)
  rw[this];rfl
theorem kr.put{L:List Int}{ks:Ks}(h:kr L ks)(c:Int):kr (L++[c]) (nW ks c (.int ((L.count c:Int)+1))):=by
 obtain⟨ms,nd,hm,rfl⟩:=h
 have hcc:∀x,(L++[c]).count x=L.count x+if c=x then 1 else 0:=fun x=>by
  rw[vG,Cj]
  by_cases e:c=x
  ·subst e;simp
  ·simp[e]
 unfold nW
 have hk:oG (ms.map fun c=>(c,PyData.int (L.count c))) c=decide (c∈ms):=by
  rw[mU,M0,dD,decide_eq_true_eq]
  have:(ms.map ((·.1)∘fun c=>(c,PyData.int (L.count c))))=ms:=List.map_id'' (fun _=>rfl) ms
  rw[this]
 rw[hk]
 by_cases e:c∈ms
 ·rw[if_pos (decide_eq_true e)]
  refine⟨ms,nd,fun x=>?_,?_⟩
  ·rw[cD,aT,hm x]
   exact⟨.inl,fun z=>z.elim id fun z=>by rw[z];exact(hm c).mp e⟩
  ·rw[dD]
   apply gn
   intro x hx
   show(if x=c then(x,PyData.int ((L.count c:Int)+1)) else(x, .int (L.count x)))=_
   rw[hcc x]
   by_cases z:x=c
   ·subst z;simp
   ·rw[if_neg z,if_neg (fun w=>z w.symm)];rfl
 ·rw[if_neg (by simpa using e)]
  refine⟨ms++[c],?_,fun x=>?_,?_⟩
  ·rw[oH]
   exact⟨nd,by simp,fun a ha b hb z=>by rw[aT.mp hb] at z;exact e (z▸ha)⟩
  ·rw[cD,cD,hm x]
  ·rw[cL]
   congr 1
   ·apply gn
    intro x hx
    rw[hcc x,if_neg (fun w=>by subst w;exact e hx)];rfl
   ·show[(c,PyData.int ((L.count c:Int)+1))]=[(c,PyData.int (((L++[c]).count c:Nat):Int))]
    rw[hcc c,if_pos rfl];rfl
end L2
set_option maxRecDepth 100000
set_option maxHeartbeats 4000000
namespace L2
open PySem PySem.Spec PyProof.Rows
theorem Bf{α:Type}{d:α}:∀{ds:List α} {r:Nat},ds[r]?=some d->(d::ds.eraseIdx r).Perm ds
 |x::ds,0,e=>by simp at e;subst e;exact .refl _
 |x::ds,r+1,e=>(List.Perm.swap x d _).trans ((Bf (ds:=ds) (r:=r) (by simpa using e)).cons x)
 |[],r,e=>by simp at e
end L2
set_option maxRecDepth 100000
set_option maxHeartbeats 4000000
namespace L2
open PySem PySem.Spec PyProof.Rows
section
variable{G:Gx}{ρ:Rh}{ta tb te:TE}{t:TA}{E:DE}{i j m n:Nat}{f:Bool}{K K2 K3:PySem.W.Frag}{Φ:Pd}
theorem Ev.Bb(h:je G ρ te fun d=>Φ true d):Ev G ρ te Φ:=fun nb σ H Q W z=>h nb σ H Q W fun v H' d p st hd=>z true v H' d p st (hd.av fun a q=>W.kF a q)
end
structure Dt(cs:List aq)(jT g:List Int):Prop where
 sub:∃q:Int->Bool,g=jT.filter q
 out:G5 cs g=true
 max:∀T:List Int,(∀x∈T,x∈jT)->G5 cs T=true->∀x∈T,x∈g
@[reducible] def XW(S:List Int):Ks:=S.map fun x=>(x,PyData.bool true)
end L2
set_option maxRecDepth 100000
set_option maxHeartbeats 4000000
namespace L2
open PySem PySem.Spec PyProof.Rows
theorem Dt.mem{cs:List aq}{jT g:List Int}(h:Dt cs jT g):∀x∈g,x∈jT:=fun x hx=>by
 obtain⟨q,e⟩:=h.sub
 rw[e] at hx
 exact(iP.mp hx).1
end L2
set_option maxRecDepth 100000
set_option maxHeartbeats 4000000
namespace L2
open PySem PySem.Spec PyProof.Rows
def Jf(row:List Int):Int:=match row.getLast? with|none=>0|some l=>l+1
def Oq(n:Int)(row:List Int):List Int:=(List.range (n-Jf row).toNat).map fun(i:Nat)=>Jf row+(i:Int)
def ext(n:Int)(row:List Int):List (List Int):=(Oq n row).map fun p=>row++[p]
@[reducible] def XZ:Option (List Int)->PyData
 |none=> .none
 |some r=>aJ r
end L2
set_option maxRecDepth 100000
set_option maxHeartbeats 4000000
set_option maxRecDepth 100000
set_option maxHeartbeats 4000000
set_option maxRecDepth 100000
set_option maxHeartbeats 4000000
set_option maxRecDepth 100000
set_option maxHeartbeats 4000000
namespace L2
open PySem PySem.Spec PyProof.Rows
def gI(r:List Int)(i:Nat):Int:=r.getD i 0
theorem Ev.inv{G:Gx}{ρ:Rh}{t:TA}{Φ:Pd}(h:Av G ρ t fun es=>∃p b:Int,es.map (·.2)=[.int p, .int b]/\fR p/\p<10^40/\b%p≠0/\∀u:Int,0<=u->u<p->(∃k,u*b=1+p*k)->Φ true (.int u)):
  Ev G ρ (iS AV [] E0 t) Φ:=fun nb σ H Q W z=>
 h nb σ H _ W fun es vs H1 ⟨p,b,e,h1,h2,h3,q⟩ s1 q1=>by
  have hd:=q1.all (f:=false) (fun z=>by cases z)
  rw[e] at hd
  unfold ah at hd
  obtain⟨x,ys,rfl,d1,hd⟩:=hd
  unfold ah at hd
  obtain⟨y,zs,rfl,d2,hd⟩:=hd
  unfold ah at hd
  subst hd
  rw[d1.bO,d2.bO]
  exact⟨p,b,rfl,h1,h2,h3,fun u u0 u1 u2=>z true _ H1 _ (q u u0 u1 u2) s1 (.int u)⟩
def co(prs:aq)(j:Nat):Int:=(prs.map fun pr=>if pr.1.toNat=j then pr.2 else 0).sum
def iA(p:Int)(m:Nat)(prs:aq):Prop:=(prs.map (·.1)).Nodup/\prs.length<=1000/\∀pr∈prs,0<=pr.1/\pr.1<m/\1<=pr.2/\pr.2<p
theorem je.yu{G:Gx}{ρ:Rh}{te:TE}{f:Bool}{Ψ:PyData->Prop}{a:Addr}{ds:List PyData}(i:Nat)(e:ρ[i]?=some (.own a f ds))(h:je G (ρ.set i (.d f (.list ds))) te Ψ):je G ρ te Ψ:=fun nb σ H Q W z=>h _ σ H Q (Sv.share W e) z
end L2
set_option maxRecDepth 100000
set_option maxHeartbeats 4000000
set_option maxRecDepth 100000
set_option maxHeartbeats 4000000
set_option maxRecDepth 100000
set_option maxHeartbeats 4000000
set_option maxRecDepth 100000
set_option maxHeartbeats 4000000
namespace L2
open PySem PySem.Spec PyProof.Rows
theorem qd{P:(Addr->Prop)->Prop}{H:Hp}(hP:∀{S S':Addr->Prop},(∀a,S' a->S a)->P S->P S')(hf:∀{S:Addr->Prop} {p:Addr},H p=none->P S->P fun a=>S a\/a=p):∀{L:List Addr} {S:Addr->Prop},(∀a∈L,H a=none)->P S->P fun a=>S a\/a∈L
 |[],S,_,h=>hP (fun a z=>z.elim (fun z=>z) fun z=>by cases z) h
 | p :: L, S, hL, h => hP (fun a z => by
   rcases z with z|z
   ·exact .inl (.inl z)
   ·rcases aP.mp z with z|z
    ·exact .inr z
    ·exact .inl (.inr z)) (hf (hL p (cB ..)) (qd hP hf (L:=L) (fun a m=>hL a (cX _ m)) h))
section
variable{G:Gx}{ρ:Rh}{nb:Addr->Prop}{σ:St}{H H1:Hp}{i:Nat}{L:List Addr}{c c':Cu}{f:Bool}{d:PyData}{p:Addr}{o:HO}{E:DE}
theorem Wd.Wx(W:Wd G nb ρ σ H)(s1:Step G.B H H1)(ha:∀a∈L,H a=none)(e:∀a∈L,H1 a≠none):Wd G (fun x=>nb x\/x∈L) ρ σ H1/\(∀a∈L,NB G.B a)/\∀f x,G.S (fun x=>nb x\/x∈L) f x->(G.S nb f x\/x∈L):=by
  have hN:∀a∈L,NB G.B a:=fun a m=>NB.new W.ay (ha a m)
  have hA:∀f x,G.S (fun x=>nb x\/x∈L) f x->(G.S nb f x\/x∈L):=fun f x z=>by
    rcases z with (z|z)|z|z|z
    · exact .inl (.inl z)
    · exact .inr z
    · exact .inl (.inr (.inl z))
    · exact .inl (.inr (.inr (.inl z)))
    · exact .inl (.inr (.inr (.inr z)))
  have W1:=W.step s1
  have fD:∀{S:Addr->Prop} {d:PyData} {v:V},aj S H d v->aj (fun a=>S a\/a∈L) H d v:=fun{S d v} h=>qd (P:=fun S=>aj S H d v) (fun z h=>aj.av z h) (fun hp h=>aj.fresh hp h) ha h
  have MS:∀{S:Addr->Prop} {d:List PyData} {v:List V},ah S H d v->ah (fun a=>S a\/a∈L) H d v:=fun{S d v} h=>qd (P:=fun S=>ah S H d v) (fun z h=>ah.av z h) (fun hp h=>ah.fresh hp h) ha h
  have O5:∀{S:Addr->Prop} {d:List (PyData×PyData)} {v:List (Key×V)},aE S H d v->aE (fun a=>S a\/a∈L) H d v:=fun{S d v} h=>qd (P:=fun S=>aE S H d v) (fun z h=>aE.av z h) (fun hp h=>aE.fresh hp h) ha h
  have fH:∀{S:Addr->Prop} {d:HD} {v:V},iN S H d v->iN (fun a=>S a\/a∈L) H d v:=fun{S d v} h=>qd (P:=fun S=>iN S H d v) (fun z h=>iN.av h z) (fun hp h=>iN.fresh h hp) ha h
  refine⟨?_,hN,hA⟩
  refine⟨W1.ay,fun x n=>?_,W1.old,fun x n q=>?_,W.gA,W.len,W.gB,fun h m=>((fH (W.gz h m)).keep (s1.but fun x z=> .inl (.inr (.inr (.inl z))))).av (hA h.1),fun j s e'=>?_,W.apart,W.fU,W.eg⟩
  · rcases n with n|n
    · exact W1.live x n
    · exact e x n
  · rcases n with n|n
    · exact W.eS x n q
    · cases z:G.H0 x with
      |none=>rfl
      |some o=>have:=ha x n;rw[W.old x o q z] at this;cases this
  · obtain⟨x,e1,h⟩:=W.ok j s e'
    refine⟨x,e1,?_⟩
    cases s with
    |no=>trivial
    |d f d=>obtain⟨v,e,h⟩:=h;exact⟨v,e,((fD h).keep (s1.but fun x z=> .inl (.inr (.inr (.inl z))))).av (hA f)⟩
    |own c f es=>obtain⟨e,n,q,xs,hx,hd⟩:=h;exact⟨e, .inl n,q,xs,s1.1 _ _ q hx,((MS hd).keep (s1.but fun x z=> .inl (.inr (.inr (.inl z))))).av (hA f)⟩
    |ay=>exact h
    |raw v=>exact h
    |cY c f es=>obtain⟨e,n,q,xs,hx,hd⟩:=h;exact⟨e, .inl n,q,xs,s1.1 _ _ q hx,((O5 hd).keep (s1.but fun x z=> .inl (.inr (.inr (.inl z))))).av (hA f)⟩
    | cu c =>
      obtain⟨e,n,q⟩:=h
      refine⟨e,fun a ha=>⟨.inl (n a ha).1,(n a ha).2⟩,c.av (hA c.f) (c.keep (.of fun x o hx e=>s1.1 x o ?_ e) (qd (P:=fun S=>c.P S H) (fun z h=>c.av z h) (fun hp h=>c.fresh hp h) ha q))⟩
      rcases hx with hx|hx
      · exact kg fun z=>hx (.inl (.inr (.inr (.inl z))))
      · exact(n x hx).2
theorem oJ.PM{x:Option V}{s:Sl}(h:oJ G nb H x s):∀a∈s.adr,nb a/\NB G.B a:=by
 cases s with
 |own a f ds=>intro x hx;rw[aT.mp hx];exact⟨h.2.1,h.2.2.1⟩
 |cY a f ds=>intro x hx;rw[aT.mp hx];exact⟨h.2.1,h.2.2.1⟩
 |cu c=>exact h.2.1
 |no=>intro _ z;cases z
 |d _ _=>intro _ z;cases z
 |ay=>intro _ z;cases z
 |raw _=>intro _ z;cases z
theorem Wd.zX(W:Wd G nb ρ σ H)(s1:Step G.B H H1)(ha:∀a∈c.F,H a=none)(e:∀a∈c.F,H1 a≠none)(hP:c.P (fun x=>G.S nb c.f x\/x∈c.F) H1):Wd G (fun x=>nb x\/x∈c.F) (ρ.set i (.cu c)) (σ.set i (some c.v)) H1:=by
 obtain⟨W2,hN,hA⟩:=W.Wx s1 ha e
 refine W2.set ⟨rfl,fun a m=>⟨.inr m,hN a m⟩,c.av (hA c.f) hP⟩ (fun _ _ _ z=>by cases z) (fun _ _ _ z=>by cases z) (fun x hx j t hj ht hc z=>?_)
 obtain⟨y,e1,h⟩:=W.ok j _ ht
 exact W.live x (h.PM x z).1 (ha x hx)
theorem Wd.zP(W:Wd G nb ρ σ H)(e:ρ[i]?=some (.cu c))(hp:p∈c.F)(hv:c'.v=c.v)(hF:∀a∈c'.F,a∈c.F)(h:c'.P (G.S nb c'.f) (upd H p o)):Wd G nb (ρ.set i (.cu c')) σ (upd H p o):=by
 obtain⟨x,e1,h1,h2,h3⟩:=W.ok i _ e
 subst h1
 have hil:i<ρ.length:=(aR.mp e).1
 have W0:Wd G nb (ρ.set i .no) (σ.set i (some c.v)) H:=W.set trivial fun _ _ _ z=>by cases z
 have other:∀(j:Nat) s,(ρ.set i .no)[j]?=some s->s≠ .no->p∉s.adr:=fun j s hs hn=>by
  have hij:i≠j:=fun z=>by subst z;rw[cQ hil] at hs;cases hs;exact hn rfl
  rw[bH hij] at hs
  exact W.eg i j c s hij e hs p hp
 have W1:Wd G nb (ρ.set i .no) (σ.set i (some c.v)) (upd H p o):=W0.write (h2 p hp).1 (h2 p hp).2 (fun j a f ds hs z=>other j _ hs (by intro z;cases z) (aT.mpr z.symm)) (fun j a f ds hs z=>other j _ hs (by intro z;cases z) (aT.mpr z.symm)) (fun j c hs=>other j _ hs (by intro z;cases z))
 have W2:=W1.set (i:=i) (s:= .cu c') (x:=some c.v) ⟨by rw[hv],fun a m=>h2 a (hF a m),h⟩ (fun _ _ _ z=>by cases z) (fun _ _ _ z=>by cases z) (fun x hx j t hj ht hc=>by
  rw[bH (bw hj)] at ht
  exact W.eg i j c t (bw hj) e ht x (hF x hx))
 rw[jx,jx] at W2
 have:σ.set i (some c.v)=σ:=by
  apply gR
  intro j
  by_cases hij:i=j
  ·subst hij;rw[cQ (by rw[W.len];exact hil),e1]
  ·rw[bH hij]
 rwa[this] at W2
theorem Wd.IP(W:Wd G nb ρ σ H)(e:ρ[i]?=some (.cu c))(h:c.P (G.S nb c.f) H->(∀a∈c.F,G.H0 a=none/\¬G.A a/\NB G.B a)->aj (G.S (fun x=>nb x/\x∉c.F) f) H d c.v):Wd G (fun x=>nb x/\x∉c.F) (ρ.set i (.d f d)) σ H:=by
 obtain⟨x,e1,h1,h2,h3⟩:=W.ok i _ e
 subst h1
 have hil:i<ρ.length:=(aR.mp e).1
 have W0:Wd G nb (ρ.set i .no) (σ.set i (some c.v)) H:=W.set trivial fun _ _ _ z=>by cases z
 have W1:Wd G (fun x=>nb x/\x∉c.F) (ρ.set i .no) (σ.set i (some c.v)) H:=by
  refine⟨W0.ay,fun x n=>W0.live x n.1,W0.old,fun x n=>W0.eS x n.1,W0.gA,W0.len,W0.gB,fun h m=>(W0.gz h m).av (bJ (fun z=>z) fun _ z=>z.1),fun j s e'=>?_,W0.apart,W0.fU,W0.eg⟩
  obtain⟨x,jo,hh⟩:=W0.ok j s e'
  refine⟨x,jo,?_⟩
  have hij:s≠ .no->i≠j:=fun n z=>by subst z;rw[cQ hil] at e';cases e';exact n rfl
  have ap:s≠ .no->∀a∈s.adr,a∉c.F:=fun n a m z=>by
   have hij:=hij n
   rw[bH hij] at e'
   exact W.eg i j c s hij e e' a z m
  cases s with
  |no=>trivial
  |d f d=>obtain⟨v,e,hh⟩:=hh;exact⟨v,e,hh.av (bJ (fun z=>z) fun _ z=>z.1)⟩
  |own a f es=>obtain⟨e2,n,q,xs,hx,hd⟩:=hh;exact⟨e2,⟨n,ap (by intro z;cases z) a (aT.mpr rfl)⟩,q,xs,hx,hd.av (bJ (fun z=>z) fun _ z=>z.1)⟩
  |ay=>exact hh
  |raw v=>exact hh
  |cY a f es=>obtain⟨e2,n,q,xs,hx,hd⟩:=hh;exact⟨e2,⟨n,ap (by intro z;cases z) a (aT.mpr rfl)⟩,q,xs,hx,hd.av (bJ (fun z=>z) fun _ z=>z.1)⟩
  |cu c2=>obtain⟨e2,n,q⟩:=hh;exact⟨e2,fun a m=>⟨⟨(n a m).1,ap (by intro z;cases z) a m⟩,(n a m).2⟩,c2.av (bJ (fun z=>z) fun _ z=>z.1) q⟩
 have W2:=W1.lz (i:=i) (f:=f) (d:=d) (v:=c.v) (h h3 fun a m=>⟨W.eS a (h2 a m).1 (h2 a m).2,fun z=>W.gA a z (W.eS a (h2 a m).1 (h2 a m).2),(h2 a m).2⟩)
 rw[jx,jx] at W2
 have:σ.set i (some c.v)=σ:=by
  apply gR
  intro j
  by_cases hij:i=j
  ·subst hij;rw[cQ (by rw[W.len];exact hil),e1]
  ·rw[bH hij]
 rwa[this] at W2
end
end L2
set_option maxRecDepth 100000
set_option maxHeartbeats 4000000
namespace L2
open PySem PySem.Spec PyProof.Rows
abbrev fB:=Int×Addr×List PyData
structure JN(a:Addr)(rows:List fB)(S:Addr->Prop)(H:Hp):Prop where
 hd:H a=some (.dK (rows.map fun r=>(Sum.inl r.1,V.ref r.2.1)))
 nd:(a::rows.map (·.2.1)).Nodup
 kd:(rows.map (·.1)).Nodup
 row:∀r∈rows,∃xs,H r.2.1=some (.lst xs)/\ah S H r.2.2 xs
def iT(a:Addr)(f:Bool)(rows:List fB):Cu where
 v:= .ref a
 F:=a::rows.map (·.2.1)
 f:=f
 P:=JN a rows
 keep:=fun k p=>⟨k.own _ (cB ..) _ p.hd,p.nd,p.kd,fun r hr=>by
  obtain⟨xs,h1,h2⟩:=p.row r hr
  exact⟨xs,k.own _ (cX _ (jV hr)) _ h1,ah.kp k h2⟩⟩
 av:=fun z p=>⟨p.hd,p.nd,p.kd,fun r hr=>by
  obtain⟨xs,h1,h2⟩:=p.row r hr
  exact⟨xs,h1,h2.av z⟩⟩
 fresh:=fun hp p=>⟨p.hd,p.nd,p.kd,fun r hr=>by
  obtain⟨xs,h1,h2⟩:=p.row r hr
  exact⟨xs,h1,h2.fresh hp⟩⟩
def kc(rows:List fB)(k:Int)(d:PyData):List fB:=rows.map fun r=>if r.1=k then(r.1,r.2.1,r.2.2++[d]) else r
theorem Of(rows:List fB)(k:Int)(d:PyData):(kc rows k d).map (·.1)=rows.map (·.1):=by
 unfold kc
 rw[dD]
 apply gn
 intro r _
 show(if r.1=k then _ else r).1=r.1
 split<;>rfl
theorem HB(rows:List fB)(k:Int)(d:PyData):(kc rows k d).map (·.2.1)=rows.map (·.2.1):=by
 unfold kc
 rw[dD]
 apply gn
 intro r _
 show(if r.1=k then _ else r).2.1=r.2.1
 split<;>rfl
theorem VZ(rows:List fB)(k:Int)(d:PyData):((kc rows k d).map fun r=>((Sum.inl r.1:Key),V.ref r.2.1))=rows.map fun r=>(Sum.inl r.1,V.ref r.2.1):=by
 unfold kc
 rw[dD]
 apply gn
 intro r _
 show(Sum.inl (if r.1=k then _ else r).1,V.ref (if r.1=k then _ else r).2.1)=_
 split<;>rfl
theorem Ny(rows:List fB)(k:Int)(d:PyData):((kc rows k d).map fun r=>(r.1,r.2.2))=(rows.map fun r=>(r.1,r.2.2)).map fun q=>if q.1=k then(q.1,q.2++[d]) else q:=by
 unfold kc
 rw[dD,dD]
 apply gn
 intro r _
 show((if r.1=k then _ else r).1,(if r.1=k then _ else r).2.2)=if r.1=k then _ else _
 split<;>rfl
theorem CJ:∀{rows:List fB} {r:fB},(rows.map (·.1)).Nodup->r∈rows->bV (rows.map fun r=>((Sum.inl r.1:Key),V.ref r.2.1)) (Sum.inl r.1)=some (.ref r.2.1)
  |[],_,_,h=>by cases h
  | q :: rows, r, nd, h => by
    rw[aZ,iC] at nd
    rw[aZ]
    rcases aP.mp h with z|z
    · subst z;exact iV rfl
    · rw[iE (fun e=>nd.1 (by injection e with e;rw[e];exact jV z))]
      exact CJ nd.2 z
theorem HY:∀{rows:List fB} {k:Int},k∉rows.map (·.1)->bV (rows.map fun r=>((Sum.inl r.1:Key),V.ref r.2.1)) (Sum.inl k)=none
  |[],_,_=>rfl
  | q :: rows, k, h => by
    rw[aZ,aP,not_or] at h
    rw[aZ,iE (fun e=>h.1 (by injection e with e;exact e.symm))]
    exact HY h.2
section
variable{G:Gx}{ρ:Rh}{ta tb te tk:TE}{E:DE}{i:Nat}{f:Bool}{K:PySem.W.Frag}{Φ:Pd}{a:Addr}{rows:List fB}
theorem Ev.Q8{ng:Bool}(e:ρ[i]?=some (.cu (iT a f rows)))(h:Ev G ρ ta fun _ y=>∃k,y= .int k/\Φ true (.bool (decide (k∈rows.map (·.1)) !=ng))):Ev G ρ (cU (C2 ng) ta (cZ i)) Φ:=fun nb σ H Q W z=>
 h nb σ H _ W fun g v H1 y ⟨k,ey,q⟩ s1 hv=>by
  subst ey
  have W1:=W.step s1
  obtain⟨x,e1,h1,h2,h3⟩:=W1.ok i _ e
  have h1:x=some (.ref a):=h1
  subst h1
  refine⟨.ref a,e1,a,_,rfl,by rw[hv.bO];exact .inl ⟨_, .inl k, .inl h3.hd,rfl,rfl⟩,?_⟩
  have:(bV (rows.map fun r=>((Sum.inl r.1:Key),V.ref r.2.1)) (Sum.inl k)).isSome=decide (k∈rows.map (·.1)):=by
   by_cases c:k∈rows.map (·.1)
   ·obtain⟨r,hr,e⟩:=dN.mp c
    rw[<-e,CJ h3.kd hr,decide_eq_true (by rw[e];exact c)];rfl
   ·rw[HY c,decide_eq_false c];rfl
  rw[this]
  exact z true _ H1 _ q s1 (.bl _)
theorem Sv.Sd(e:ρ[i]?=some (.cu (iT a f rows)))(h:Ev G ρ tk fun _ y=>∃k,y= .int k/\k∈rows.map (·.1)/\(∀r∈rows,r.2.2.length<10000)/\Ev G ρ te fun g d=>E.nx (ρ.set i (.cu (iT a (f && g) (kc rows k d))))):
  Sv G ρ (nN (jQ K "list" p8 (cU k6 (cZ i) tk) (br te bM))) E:=fun nb σ H D W KK=>by
 obtain⟨x,e1,h1,h2,h3⟩:=W.ok i _ e
 have h1:x=some (.ref a):=h1
 subst h1
 refine⟨.ref a,e1,h nb σ H _ W fun g v H1 y ⟨k,ey,hk,hlen,q⟩ s1 hv=>?_⟩
 subst ey
 have W1:=W.step s1
 obtain⟨x,jo,_,h2,h3⟩:=W1.ok i _ e
 obtain⟨r,hr,er⟩:=dN.mp hk
 have hval:=CJ h3.kd hr
 obtain⟨xs,hx,hxd⟩:=h3.row r hr
 have GJ:r.2.1∈(iT a f rows).F:=cX _ (jV hr)
 refine⟨a,_, .inl k, .ref r.2.1,rfl,hv.bO, .inl h3.hd,by rw[<-er];exact hval, .inl ⟨rfl,_,aV.of hx⟩,?_⟩
 refine q nb σ H1 _ W1 fun g2 u H2 d p s2 hu=>?_
 have W2:=W1.step s2
 obtain⟨x,jo,_,h2,h4⟩:=W2.ok i _ e
 obtain⟨xs,hx,hxd⟩:=h4.row r hr
 refine⟨r.2.1,xs,u,rfl,rfl,hx,dj (by rw[hxd.length];exact hlen r hr) (by decide),KK.nx nb _ _ _ p (W2.zP e GJ rfl (fun b hb=>?_) ?_)⟩
 ·have:(iT a (f && g2) (kc rows k d)).F=(iT a f rows).F:=by show a::_=a::_;rw[HB]
  rw[this] at hb;exact hb
 ·have bt:aX (G.S nb (f && g2)) H2 (upd H2 r.2.1 (.lst (xs++[u]))):=aX.set (.inl (h2 _ GJ).1)
  have hnd:=h4.nd
  rw[iC] at hnd
  have har:a≠r.2.1:=fun z=>hnd.1 (by rw[z];exact jV hr)
  refine⟨?_,?_,?_,fun r' hr'=>?_⟩
  ·rw[aK har,VZ];exact h4.hd
  ·rw[HB];exact h4.nd
  ·rw[Of];exact h4.kd
  ·unfold kc at hr'
   obtain⟨r0,hr0,rfl⟩:=dN.mp hr'
   by_cases c:r0.1=k
   ·rw[if_pos c]
    have V4:r0=r:=by
     have nd:=h4.kd
     obtain⟨j,hj⟩:=fY hr0
     obtain⟨j2,hj2⟩:=fY hr
     obtain⟨l1,g1⟩:=aR.mp hj
     obtain⟨l2,g2⟩:=aR.mp hj2
     have:=(qw (i:=j) (j:=j2) (h₀:=by rw[ak];exact l1) (h₁:=by rw[ak];exact l2) nd).mp (by rw[qY,qY,g1,g2,c,er])
     subst this
     rw[<-g1,<-g2]
    subst V4
    exact⟨xs++[u],bf,ah.snoc ((hu.av (bJ (fun z=>(cN _ _▸z).2) fun _ z=>z)).keep bt) ((hxd.av (bJ (fun z=>(cN _ _▸z).1) fun _ z=>z)).keep bt)⟩
   ·rw[if_neg c]
    obtain⟨ys,hy,Up⟩:=h4.row r0 hr0
    have hne:r0.2.1≠r.2.1:=fun z=>c (by
     obtain⟨j,hj⟩:=fY hr0
     obtain⟨j2,hj2⟩:=fY hr
     obtain⟨l1,g1⟩:=aR.mp hj
     obtain⟨l2,g2⟩:=aR.mp hj2
     have:=(qw (i:=j) (j:=j2) (h₀:=by rw[ak];exact l1) (h₁:=by rw[ak];exact l2) hnd.2).mp (by rw[qY,qY,g1,g2,z])
     subst this
     rw[<-g1,g2,er])
    exact⟨ys,by rw[aK hne];exact hy,(Up.av (bJ (fun z=>(cN _ _▸z).1) fun _ z=>z)).keep bt⟩
theorem Sv.OV{s:TS}(i:Nat)(e:ρ[i]?=some (.cu (iT a f rows)))(h:Sv G (ρ.set i (.d f (.dict ((rows.map fun r=>(r.1,PyData.list r.2.2)).map ck)))) s E):Sv G ρ s E:=fun nb σ H D W K=>by
  refine h _ σ H D (W.IP e fun p hn=>?_) K
  have p:JN a rows (G.S nb f) H:=p
  have out:∀b∈(iT a f rows).F,¬G.S (fun x=>nb x/\x∉(iT a f rows).F) f b:=fun b hb z=>by
    obtain⟨q1,q2,q3⟩:=hn b hb
    rcases z with z|z|z|z
    · exact z.2 hb
    · exact q2 z
    · exact z q3
    · exact z.2 q1
  show aj _ H _ (.ref a)
  unfold aj
  refine⟨a,_,rfl,out a (cB ..), .inl p.hd,?_⟩
  have key:∀rs:List fB,(∀r∈rs,r∈rows)->aE (G.S (fun x=>nb x/\x∉(iT a f rows).F) f) H ((rs.map fun r=>(r.1,PyData.list r.2.2)).map ck) (rs.map fun r=>((Sum.inl r.1:Key),V.ref r.2.1)):=by
    intro rs
    induction rs with
    |nil=>intro _;simp only[oq];unfold aE;rfl
    | cons r rs ih =>
      intro hm
      rw[aZ,aZ,aZ]
      unfold aE
      refine⟨_,_,rfl,?_,ih fun q hq=>hm q (cX _ hq)⟩
      unfold dP
      obtain⟨xs,hx,hxd⟩:=p.row r (hm r (cB ..))
      exact⟨rfl, .lst (out _ (cX _ (jV (hm r (cB ..))))) hx (hxd.av (bJ (fun z=>z) fun _ z=>z.1))⟩
  exact key rows fun _ h=>h
theorem DT:∀{more acc:List (Key×V)},(more.map (·.1)).Nodup->(∀q∈more,bV acc q.1=none)->k9 acc more=acc++more
  |[],acc,_,_=>by rw[iG];rfl
  | q :: more, acc, nd, h => by
    rw[aZ,iC] at nd
    show k9 (putK acc q.1 q.2) more=_
    rw[Bt _ (h q (cB ..)),DT nd.2 (fun r hr=>?_),mO]
    · rfl
    · have hne:q.1≠r.1:=fun z=>nd.1 (by rw[z];exact jV hr)
      have:=h r (cX _ hr)
      unfold bV at this⊢
      rw[List.find?_append]
      cases e:acc.find? (fun kv=>decide (kv.1=r.1)) with
      |some z=>rw[e] at this;cases this
      |none=>simp[hne]
theorem Sv.RC(h:Ev G ρ te fun _ x=>∃ks:List Int,x= .list (ks.map .int)/\ks.Nodup/\ks.length<=9999/\∀a rows,(rows.map fun r=>(r.1,r.2.2))=ks.map (fun k=>(k,[]))->E.nx (ρ.set i (.cu (iT a true rows)))):
    Sv G ρ (gv (fJ Bq (br (lO (p6 K te) (eN 0) nD (oF (br (cZ 0) (br (nJ bM) bM))) [none]) bM)) (eN i)) E:=fun nb σ H D W KK=>
  h nb σ H _ W fun f v H1 x ⟨ks,ex,nd,hl,q⟩ s1 hv=>by
    subst ex
    obtain⟨l,xs,rfl,nl,hx,hd⟩:=hv.eO
    have e:=o8 hd
    subst e
    refine⟨l,rfl,⟨_, .of hx⟩,fun acc hacc=>?_⟩
    refine R.AA (xs:=ks.map V.int) (fun j σ H2=>σ.length=1/\∃(ts bs:List Addr),ts.length=j/\bs.length=j/\H2 acc=some (.lst (ts.map V.ref))/\bs.Nodup/\(∀b∈bs,H1 b=none/\H2 b=some (.lst []))/\
      (∀(m:Nat) t b k,ts[m]?=some t->bs[m]?=some b->ks[m]?=some k->H2 t=some (.tup [.int k, .ref b]))/\(∀t∈ts,t≠acc)/\acc∉bs/\∀b o,H1 b=some o->H2 b=some o) ⟨rfl,[],[],rfl,rfl,bf,mG,(fun _ z=>by cases z),(fun _ _ _ _ z=>by simp at z),(fun _ z=>by cases z),(fun z=>by cases z),fun b o e=>by rw[aK (fun z=>by rw[z,hacc] at e;cases e)];exact e⟩ ?_ ?_ ?_
    · rintro j σ H2 hj ⟨_,ts,bs,_,_,_,_,_,_,_,_,hk⟩
      exact .of (hk _ _ hx)
    · rintro j x σ H2 hxj ⟨hσ,ts,bs,gU,kI,hA,hbn,hb,ht,htA,hbA,hk⟩
      rw[aS] at hxj
      obtain⟨k,hkj,rfl⟩:=jw.mp hxj
      have hjl:=(aR.mp hkj).1
      have e0:(σ.set 0 (some (V.int k)))[0]?=some (some (.int k)):=cQ (by omega)
      refine⟨.int k,e0,fT _,fun b mH=>⟨vS rfl,fun t tS=>?_⟩⟩
      have D9:b≠t:=fun z=>by rw[<-z,bf] at tS;cases tS
      have z4:b≠acc:=fun z=>by rw[z,hA] at mH;cases mH
      have sJ:H2 t=none:=by rw[aK (bw D9)] at tS;exact tS
      have xM:t≠acc:=fun z=>by rw[z,hA] at sJ;cases sJ
      have QL:H1 b=none:=by
        cases e:H1 b with
        |none=>rfl
        |some o=>rw[hk b o e] at mH;cases mH
      refine⟨ts.map V.ref,by rw[aK (bw xM),aK (bw z4)];exact hA,by rw[ak,gU];exact dj (show j<10000 by omega) (by decide),by rw[gC];exact hσ,ts++[t],bs++[b],by rw[bz,gU];rfl,by rw[bz,kI];rfl,by rw[bf,cL];rfl,?_,?_,?_,?_,?_,?_⟩
      · rw[oH]
        refine⟨hbn,by simp,fun x hx y hy z=>?_⟩
        rw[aT.mp hy] at z
        have:=(hb x hx).2
        rw[z,mH] at this;cases this
      · intro x hx
        rcases cD.mp hx with z|z
        · have:=hb x z
          refine⟨this.1,?_⟩
          rw[aK (fun y=>hbA (by rw[<-y];exact z)),aK (fun y=>by have:=this.2;rw[y,sJ] at this;cases this),aK (fun y=>by have:=this.2;rw[y,mH] at this;cases this)]
          exact this.2
        · rw[aT.mp z]
          exact⟨QL,by rw[aK z4,aK D9,bf]⟩
      · intro m t' b' k' h1 h2 h3
        rcases Bj m j with c|c|c
        · rw[gu (by omega)] at h1 h2
          have:=ht m t' b' k' h1 h2 h3
          rw[aK (htA t' (bh h1)),aK (fun y=>by rw[y,sJ] at this;cases this),aK (fun y=>by rw[y,mH] at this;cases this)]
          exact this
        · subst c
          rw[gK (by omega),gU,ya] at h1
          rw[gK (by omega),kI,ya] at h2
          simp at h1 h2
          subst h1 h2
          rw[hkj] at h3;cases h3
          rw[aK xM,bf]
        · rw[ie (by rw[bz,fh];omega)] at h1;cases h1
      · intro x hx
        rcases cD.mp hx with z|z
        · exact htA x z
        · rw[aT.mp z];exact xM
      · intro z
        rcases cD.mp z with z|z
        · exact hbA z
        · exact z4 (aT.mp z).symm
      · intro b' o e
        have:=hk b' o e
        rw[aK (fun z=>by rw[z,hacc] at e;cases e),aK (fun y=>by rw[y,sJ] at this;cases this),aK (fun y=>by rw[y,mH] at this;cases this)]
        exact this
    · rintro σ2 H2 ⟨_,ts,bs,gU,kI,hA,hbn,hb,ht,htA,hbA,hk⟩
      rw[ak] at gU kI
      obtain⟨rows,er⟩:∃rows:List fB,rows=List.zipWith (fun k b=>(k,b,[])) ks bs:=⟨_,rfl⟩
      have hrl:rows.length=ks.length:=by rw[er,List.length_zipWith];omega
      have rN:∀{m:Nat} {r:fB},rows[m]?=some r->∃k b,ks[m]?=some k/\bs[m]?=some b/\r=(k,b,[]):=fun{m r} hm=>by
        rw[er,List.getElem?_zipWith] at hm
        cases e1:ks[m]? with
        |none=>rw[e1] at hm;cases hm
        | some k =>
          cases e2:bs[m]? with
          |none=>rw[e1,e2] at hm;cases hm
          |some b=>rw[e1,e2] at hm;cases hm;exact⟨k,b,rfl,rfl,rfl⟩
      have hk1:rows.map (·.1)=ks:=by
        apply gR
        intro m
        rw[aS]
        cases e:rows[m]? with
        |none=>rw[ie (by have:=p7.mp e;omega)];rfl
        |some r=>obtain⟨k,b,e1,e2,rfl⟩:=rN e;rw[e1];rfl
      have hb1:rows.map (·.2.1)=bs:=by
        apply gR
        intro m
        rw[aS]
        cases e:rows[m]? with
        |none=>rw[ie (by have:=p7.mp e;omega)];rfl
        |some r=>obtain⟨k,b,e1,e2,rfl⟩:=rN e;rw[e2];rfl
      have hq1:(rows.map fun r=>(r.1,r.2.2))=ks.map (fun k=>(k,[])):=by
        apply gR
        intro m
        rw[aS,aS]
        cases e:rows[m]? with
        |none=>rw[ie (by have:=p7.mp e;omega)];rfl
        |some r=>obtain⟨k,b,e1,e2,rfl⟩:=rN e;rw[e1];rfl
      refine⟨acc,ts.map V.ref,rows.map fun r=>(Sum.inl r.1,V.ref r.2.1),rfl,hA,by rw[ak,ak];omega,by rw[ak];omega,fun m y p hy hp=>?_,fun d hd0=>?_⟩
      · rw[aS] at hy hp
        obtain⟨t,e1,rfl⟩:=jw.mp hy
        obtain⟨r,e2,rfl⟩:=jw.mp hp
        obtain⟨k,b,g1,g2,rfl⟩:=rN e2
        exact⟨t,rfl,ht m t b k e1 g2 g1⟩
      · have hm:k9 [] (rows.map fun r=>((Sum.inl r.1:Key),V.ref r.2.1))=rows.map fun r=>(Sum.inl r.1,V.ref r.2.1):=by
          rw[DT,List.nil_append]
          · rw[dD,show((fun(x:Key×V)=>x.1)∘fun(r:fB)=>((Sum.inl r.1:Key),V.ref r.2.1))=(Sum.inl:Int->Key)∘(fun(r:fB)=>r.1) from rfl,<-dD,hk1]
            exact nd.map _ (fun a b h1 h2=>h1 (by injection h2))
          · intro q _;rfl
        rw[hm]
        have hdb:∀b∈bs,b≠d:=fun b hb' z=>by have:=(hb b hb').2;rw[z,hd0] at this;cases this
        have sm:∀b o,H1 b=some o->(upd H2 d (.dK (rows.map fun r=>(Sum.inl r.1,V.ref r.2.1)))) b=some o:=fun b o e=>by
          have:=hk b o e
          rw[aK (fun z=>by rw[z,hd0] at this;cases this)];exact this
        have s2:Step G.B H (upd H2 d (.dK (rows.map fun r=>(Sum.inl r.1,V.ref r.2.1)))):=s1.trans (.same s1.2 sm)
        have hd1:H1 d=none:=by
          cases e:H1 d with
          |none=>rfl
          |some o=>rw[hk d o e] at hd0;cases hd0
        have hF:∀b∈(iT d true rows).F,b=d\/b∈bs:=fun b hb'=>by
          rcases aP.mp hb' with z|z
          · exact .inl z
          · rw[hb1] at z;exact .inr z
        refine KK.nx _ _ _ _ (q d rows hq1) (W.zX (c:=iT d true rows) s2 (fun b hb'=>?_) (fun b hb'=>?_) ?_)
        · rcases hF b hb' with z|z
          · rw[z];exact W.none_of s1 hd1
          · exact W.none_of s1 (hb b z).1
        · rcases hF b hb' with z|z
          · rw[z,bf];exact iU _
          · rw[aK (hdb b z),(hb b z).2];exact iU _
        · refine⟨bf,?_,by rw[hk1];exact nd,fun r hr=>?_⟩
          · rw[hb1,iC]
            exact⟨fun z=>hdb d z rfl,hbn⟩
          · obtain⟨m,hm⟩:=fY hr
            obtain⟨k,b,g1,g2,rfl⟩:=rN hm
            have hbm:=bh g2
            exact⟨[],by show upd H2 d _ b=_;rw[aK (hdb b hbm)];exact(hb b hbm).2, .nil⟩
theorem au.Cy{Θ:Bool->List PyData->Prop}(h:Ev G ρ te fun _ x=>∃ks:Ks,x= .dict (ks.map ck)/\ks.length<64/\∀rs:List Int,rs.Pairwise (· <= ·)->rs.Perm (ks.map (·.1))->Θ true (rs.map .int)):au G ρ (fJ rW (br te bM)) Θ:=fun nb σ H Q W z=>
 h nb σ H _ W fun f v H1 x ⟨ks,ex,hl,q⟩ s1 hv=>by
  subst ex
  unfold aj at hv
  obtain⟨a,ps,rfl,n,hp,hd⟩:=hv
  refine⟨a,ps,ks.map (·.1),rfl,hp,aE.keys hd,by rw[ak];exact hl,fun l rs hl' hw gM=>?_⟩
  exact au.fin (f:=true) W s1 hl' (qv rs) (q rs hw gM) z
end
end L2
set_option maxRecDepth 100000
set_option maxHeartbeats 4000000
namespace L2
open PySem PySem.Spec PyProof.Rows
def cT(prs:aq)(pl:Int):Option Int:=(prs.find? fun pr=>decide (pr.1=pl)).map (·.2)
theorem Ie(pl:Int):cT [] pl=none:=rfl
theorem B5(prs:aq)(pr:Int×Int)(pl:Int):cT (prs++[pr]) pl=match cT prs pl with|some f=>some f|none=>if pr.1=pl then some pr.2 else none:=by
  unfold cT
  rw[List.find?_append]
  cases prs.find? (fun pr=>decide (pr.1=pl)) with
  |some q=>rfl
  | none =>
    by_cases c:pr.1=pl
    · simp[c]
    · simp[c]
theorem vU{prs:aq}{pl:Int}(h:pl∉prs.map (·.1)):cT prs pl=none:=by
 unfold cT
 rw[List.find?_eq_none.mpr]
 ·rfl
 ·intro pr bq z
  exact h (by rw[<-of_decide_eq_true z];exact jV bq)
theorem GG{prs:aq}{pl f:Int}(h:cT prs pl=some f):(pl,f)∈prs:=by
 unfold cT at h
 obtain⟨q,e,rfl⟩:=jw.mp h
 have h1:=List.mem_of_find?_eq_some e
 have h2:=List.find?_some e
 have h2:q.1=pl:=of_decide_eq_true h2
 rw[<-h2]
 exact h1
theorem Ux{prs:aq}{pl f:Int}(nd:(prs.map (·.1)).Nodup)(h:(pl,f)∈prs):cT prs pl=some f:=by
  induction prs with
  |nil=>cases h
  | cons q prs ih =>
    rw[aZ,iC] at nd
    unfold cT
    rw[kL]
    rcases aP.mp h with z|z
    · subst z;simp
    · have:¬q.1=pl:=fun e=>nd.1 (by rw[e];exact jV (f:=(·.1)) z)
      rw[decide_eq_false this]
      exact ih nd.2 z
noncomputable def jS(p:Int)(c:Nat):Option Int->List (Int×Int)
 |some f=>[((c:Int),sol p f 1)]
 |none=>[]
noncomputable def fL(p:Int)(cs:List aq)(pl:Int)(i:Nat):List (Int×Int):=(List.range i).flatMap fun c=>jS p c (cT (cs.getD c []) pl)
theorem Cd{p:Int}{cs:List aq}{pl:Int}{i:Nat}{prs:aq}(h:cs[i]?=some prs):fL p cs pl (i+1)=fL p cs pl i++jS p i (cT prs pl):=by
 unfold fL
 rw[A0,Jo,G7,cM,h]
 rfl
theorem qH{p:Int}{cs:List aq}{pl:Int}:∀i,(fL p cs pl i).length<=i
  |0=>aQ _
  | i + 1 => by
    unfold fL
    rw[A0,Jo,bz,G7]
    have:=qH (p:=p) (cs:=cs) (pl:=pl) i
    have h2:∀o,(jS p i o).length<=1:=fun o=>by cases o<;>simp[jS]
    have:=h2 (cT (cs.getD i []) pl)
    unfold fL at*
    omega
theorem Ak{p:Int}{cs:List aq}{pl:Int}{q:Int×Int}{i:Nat}(hi:i<=cs.length)(h:q∈fL p cs pl i):∃(c:Nat) (prs:aq) (f:Int),cs[c]?=some prs/\c<i/\cT prs pl=some f/\q=((c:Int),sol p f 1):=by
  unfold fL at h
  obtain⟨c,hc,hq⟩:=List.mem_flatMap.mp h
  have hc:=nv.mp hc
  have e:cs[c]?=some cs[c]:=aH (by omega)
  rw[cM,e] at hq
  cases hf:cT cs[c] pl with
  |none=>simp[jS,hf] at hq
  | some f =>
    have hq:q∈jS p c (cT cs[c] pl):=hq
    rw[hf] at hq
    exact⟨c,cs[c],f,e,hc,hf,aT.mp hq⟩
noncomputable def jg(p:Int)(cs:List aq)(c:Nat)(prs:aq)(pl:Int):Int×List PyData:=(pl,(fL p cs pl c++jS p c (cT prs pl)).map pairD)
theorem QY{p:Int}{cs:List aq}{c:Nat}{dh:List Int}:(dh.map fun pl=>(pl,(fL p cs pl c).map pairD))=dh.map (jg p cs c []):=by
 apply gn
 intro pl _
 unfold jg
 rw[Ie]
 show _=(pl,(fL p cs pl c++[]).map pairD)
 rw[iG]
theorem WO{p:Int}{cs:List aq}{c:Nat}{prs:aq}{pr:Int×Int}{dh:List Int}(h:pr.1∉dh):dh.map (jg p cs c (prs++[pr]))=dh.map (jg p cs c prs):=by
 apply gn
 intro pl hpl
 unfold jg
 rw[B5]
 have:¬pr.1=pl:=fun e=>h (by rw[e];exact hpl)
 cases cT prs pl<;>simp[this]
theorem Vk{p:Int}{cs:List aq}{c:Nat}{prs:aq}{pr:Int×Int}{dh:List Int}(h:pr.1∉prs.map (·.1)):dh.map (jg p cs c (prs++[pr]))=(dh.map (jg p cs c prs)).map fun q=>if q.1=pr.1 then(q.1,q.2++[pairD ((c:Int),sol p pr.2 1)]) else q:=by
 rw[dD]
 apply gn
 intro pl _
 show jg p cs c (prs++[pr]) pl=if pl=pr.1 then _ else _
 unfold jg
 rw[B5]
 by_cases e:pl=pr.1
 ·subst e
  rw[if_pos rfl,vU h]
  simp[jS]
 ·rw[if_neg e]
  have:¬pr.1=pl:=fun z=>e z.symm
  cases cT prs pl<;>simp[this]
noncomputable def bQ(p:Int)(cs:List aq)(ws:List Int)(pl:Int):List Int:=
 (fL p cs pl cs.length).map fun q=>(ws.getD pl.toNat 0-aU (cs.getD q.1.toNat []) (ws.map some)%p*q.2)%p
structure fX(p n:Int)(cs:List aq):Prop where
 hp:fR p
 eU:p<10^40
 n0:1<=n
 n1:n<=400
 cl:cs.length<=400
 ok:∀prs∈cs,iA p n.toNat prs
noncomputable def iY(p:Int)(cs:List aq)(ws:List Int):List Int:=cs.map fun prs=>aU prs (ws.map some)%p
theorem Vm{p:Int}{cs:List aq}{ws:List Int}(c:Nat)(h:c<cs.length):(iY p cs ws).getD c 0=aU (cs.getD c []) (ws.map some)%p:=by
 unfold iY
 rw[cM,aS,cM,aH h]
 rfl
theorem VW(p:Int)(cs:List aq)(ws:List Int):(cs.map fun prs=>gF (nU p prs (ws.map some)))=(iY p cs ws).map PyData.int:=by
 unfold iY
 rw[dD]
 apply gn
 intro prs _
 have:¬wo prs (ws.map some):=by
  rintro⟨pr,_,z⟩
  rw[aS] at z
  cases h:ws[pr.1.toNat]? with
  |none=>rw[h] at z;cases z
  |some x=>rw[h] at z;cases z
 unfold nU
 rw[if_neg this]
 rfl
theorem Jt{prs:aq}{ws:List Int}{pl:Nat}{x:Int}(nd:(prs.map (·.1)).Nodup)(hr:∀pr∈prs,0<=pr.1)(hpl:pl<ws.length):
    aU prs ((ws.set pl x).map some)=aU prs (ws.map some)+((cT prs (pl:Int)).getD 0)*(x-ws.getD pl 0):=by
  induction prs with
  |nil=>show(0:Int)=0+0*_;rw[oV];rfl
  | cons pr prs ih =>
    rw[aZ,iC] at nd
    have ih:=ih nd.2 fun q hq=>hr q (cX _ hq)
    have h0:=hr pr (cB ..)
    show gp _ pr+aU prs _=(gp _ pr+aU prs _)+_
    rw[ih]
    have hf:cT (pr::prs) (pl:Int)=if pr.1=(pl:Int) then some pr.2 else cT prs (pl:Int):=by
      unfold cT
      rw[kL]
      by_cases c:pr.1=(pl:Int)
      · simp[c]
      · simp[c]
    rw[hf]
    by_cases c:pr.1=(pl:Int)
    · rw[if_pos c]
      have hn:cT prs (pl:Int)=none:=vU (by rw[<-c];exact nd.1)
      rw[hn]
      have hn2:pr.1.toNat=pl:=by omega
      unfold gp
      rw[aS,aS,hn2,cQ hpl,cM,aH hpl]
      show pr.2*x+(_+0*_)=pr.2*ws[pl]+_+pr.2*(x-ws[pl])
      grind
    · rw[if_neg c]
      have hn2:pl≠pr.1.toNat:=by omega
      have:gp ((ws.set pl x).map some) pr=gp (ws.map some) pr:=by
        unfold gp
        rw[aS,aS,bH hn2]
      rw[this]
      omega
theorem Tq{p:Int}{prs:aq}{ws:List Int}{pl:Nat}{x f:Int}(hp:fR p)(hq:iA p ws.length prs)(hpl:pl<ws.length)(hf:cT prs (pl:Int)=some f)(x0:0<=x)(x1:x<p):
  (ws.getD pl 0-aU prs (ws.map some)%p*sol p f 1)%p=x↔aU prs ((ws.set pl x).map some)%p=0:=by
 have hm:=GG hf
 obtain⟨_,_,f0,f1⟩:=hq.2.2 _ hm
 have p2:=hp.1
 have hfp:f%p≠0:=by rw[jY (by omega) f1];dsimp only at f0;omega
 obtain⟨k,hk⟩:=zQ (a:=1) hp hfp
 rw[Jt hq.1 (fun pr bq=>(hq.2.2 pr bq).1) hpl,hf]
 generalize aU prs (ws.map some)=D
 generalize sol p f 1=s at*
 generalize ws.getD pl 0=w
 have hD:D%p=D-p*(D/p):=w4 ..
 constructor
 ·intro e
  have e2:w-D%p*s=x+p*((w-D%p*s)/p):=by rw[<-e];exact(DR _ _).symm
  generalize (w-D%p*s)/p=j at e2
  rw[hD] at e2
  apply o9
  refine⟨-(D*k)+D/p*(f*s)-f*j,?_⟩
  show D+f*(x-w)=_
  have e3:x-w= -(D-p*(D/p))*s-p*j:=by grind
  rw[e3]
  grind
 ·intro e
  obtain⟨j,hj⟩:=tT e
  have hj:D+f*(x-w)=p*j:=hj
  have:w-D%p*s=x+p*(D/p*s-j*s+k*(x-w)):=by
   rw[hD]
   have h1:(D+f*(x-w))*s=p*j*s:=by rw[hj]
   grind
  rw[this,BX,jY x0 x1]
noncomputable def vj(p:Int)(cs:List aq)(ws:List Int)(pl:Nat)(x:Int):Nat:=cs.countP fun prs=>decide ((pl:Int)∈prs.map (·.1)) && decide (aU prs ((ws.set pl x).map some)%p=0)
theorem GU{p:Int}{cs:List aq}{ws:List Int}{pl:Nat}{x:Int}(hp:fR p)(hq:∀prs∈cs,iA p ws.length prs)(hpl:pl<ws.length)(x0:0<=x)(x1:x<p):(bQ p cs ws (pl:Int)).count x=vj p cs ws pl x:=by
  have key:∀i,i<=cs.length->(((fL p cs (pl:Int) i).map fun q=>(ws.getD pl 0-aU (cs.getD q.1.toNat []) (ws.map some)%p*q.2)%p).count x)=vj p (cs.take i) ws pl x:=by
    intro i
    induction i with
    |zero=>intro _;rfl
    | succ i ih =>
      intro hi
      have e:cs[i]?=some cs[i]:=aH (by omega)
      have hg:cs.getD i []=cs[i]:=by rw[cM,e];rfl
      have GY:=hq cs[i] (gP _)
      unfold vj at*
      rw[Cd e,cL,vG,ih (by omega),take_snoc e,uq]
      congr 1
      rw[vo]
      cases hf:cT cs[i] (pl:Int) with
      | none =>
        have:¬(pl:Int)∈cs[i].map (·.1):=fun z=>by
          obtain⟨pr,bq,e2⟩:=dN.mp z
          rw[Ux GY.1 (show((pl:Int),pr.2)∈cs[i] by rw[<-e2];exact bq)] at hf
          cases hf
        simp[jS,this]
      | some f =>
        have hm:(pl:Int)∈cs[i].map (·.1):=jV (f:=(·.1)) (GG hf)
        have hv:=Tq hp GY hpl hf x0 x1
        show List.count x [(ws.getD pl 0-aU (cs.getD ((i:Int)).toNat []) (ws.map some)%p*sol p f 1)%p]=_
        rw[eZ,hg,Cj]
        have hb:((ws.getD pl 0-aU cs[i] (ws.map some)%p*sol p f 1)%p==x)=decide (aU cs[i] ((ws.set pl x).map some)%p=0):=by
          rw[mU,beq_iff_eq,decide_eq_true_eq]
          exact hv
        rw[hb,decide_eq_true hm,AJ]
  have:=key cs.length (aQ _)
  rw[gV] at this
  unfold bQ
  rw[eZ]
  exact this
theorem DZ:∀{a b:List Int},a.Pairwise (· < ·)->b.Pairwise (· < ·)->(∀k,k∈a↔k∈b)->a=b
  |[],[],_,_,_=>rfl
  |[],y::b,_,_,h=>absurd ((h y).mpr (cB ..)) (by simp)
  |x::a,[],_,_,h=>absurd ((h x).mp (cB ..)) (by simp)
  | x :: a, y :: b, ha, hb, h => by
    rw[Bm] at ha hb
    have S2:x=y:=by
      rcases aP.mp ((h x).mp (cB ..)) with z|z
      · exact z
      · rcases aP.mp ((h y).mpr (cB ..)) with w|w
        · exact w.symm
        · have h1:=hb.1 x z
          have h2:=ha.1 y w
          omega
    subst S2
    rw[DZ ha.2 hb.2 fun k=>?_]
    constructor
    · intro z
      rcases aP.mp ((h k).mp (cX _ z)) with w|w
      · have:=ha.1 k z;omega
      · exact w
    · intro z
      rcases aP.mp ((h k).mpr (cX _ z)) with w|w
      · have:=hb.1 k z;omega
      · exact w
theorem LS(ks:Ks)(k:Int)(d:PyData):(nW ks k d).length<=ks.length+1:=by
 unfold nW
 split
 ·rw[ak];omega
 ·rw[bz,fh];omega
end L2
set_option maxRecDepth 100000
set_option maxHeartbeats 4000000
namespace L2
open PySem PySem.Spec PyProof.Rows
def Hq(L:List Int)(w x:Int):Bool:=decide (x≠w) && decide (L.length<2*L.count x)
def tu(L:List Int)(w:Int):List Int:=(L.filter (Hq L w)).take 1
@[reducible] def gW(t:Int×Int×Int):PyData:= .tuple [.int t.1, .int t.2.1, .int t.2.2]
noncomputable def Ef(p:Int)(cs:List aq)(ws:List Int)(i:Nat):List (Int×Int×Int):=(tu (bQ p cs ws (i:Int)) (ws.getD i 0)).map fun x=>((i:Int),ws.getD i 0,x)
noncomputable def qX(p:Int)(cs:List aq)(ws:List Int)(m:Nat):List (Int×Int×Int):=(List.range m).flatMap (Ef p cs ws)
theorem tY{p:Int}{cs:List aq}{ws:List Int}{pl:Int}(hp:0<p):∀x∈bQ p cs ws pl,0<=x/\x<p:=fun x hx=>by
 unfold bQ at hx
 obtain⟨y,_,rfl⟩:=dN.mp hx
 exact⟨dR _ (by omega),dQ _ hp⟩
theorem Fx{p:Int}{cs:List aq}{ws:List Int}{pl:Int}:(bQ p cs ws pl).length<=cs.length:=by
 unfold bQ
 rw[ak]
 exact qH cs.length
noncomputable def oz(p:Int)(cs:List aq)(n:Nat):Ks:=((List.range n).map fun(i:Nat)=>(i:Int)).map fun pl=>(pl,PyData.list ((fL p cs pl cs.length).map pairD))
theorem Qh{p:Int}{cs:List aq}{n i:Nat}(h:i<n):fF (oz p cs n) (i:Int)=some (.list ((fL p cs (i:Int) cs.length).map pairD)):=by
 unfold oz
 rw[uP,if_pos (dN.mpr ⟨i,nv.mpr h,rfl⟩)]
end L2
set_option maxRecDepth 100000
set_option maxHeartbeats 4000000
namespace L2
open PySem PySem.Spec PyProof.Rows
def brk(p:Int)(cs:List aq)(ws:List Int):Nat:=cs.countP fun prs=>decide (aU prs (ws.map some)%p≠0)
theorem En{p:Int}{cs:List aq}{ws:List Int}:brk p cs ws<=cs.length:=List.countP_le_length
theorem yg{p:Int}{cs:List aq}{ws:List Int}{pl:Nat}{x:Int}(hp:fR p)(hq:∀prs∈cs,iA p ws.length prs)(hpl:pl<ws.length)(hw:∀y∈ws,0<=y/\y<p)(x0:0<=x)(x1:x<p):
    (brk p cs (ws.set pl x):Int)=brk p cs ws+(bQ p cs ws (pl:Int)).count (ws.getD pl 0)-(bQ p cs ws (pl:Int)).count x:=by
  have hg:ws.getD pl 0=ws[pl]:=by rw[cM,aH hpl];rfl
  obtain⟨g0,g1⟩:=hw _ (gP hpl)
  rw[GU hp hq hpl x0 x1,GU hp hq hpl (by rw[hg];exact g0) (by rw[hg];exact g1)]
  have su:ws.set pl (ws.getD pl 0)=ws:=by rw[hg];exact List.set_getElem_self hpl
  unfold vj brk
  rw[su]
  clear su hg g0 g1
  induction cs with
  |nil=>rfl
  | cons prs cs ih =>
    have ih:=ih fun q h=>hq q (cX _ h)
    have G1:=hq prs (cB ..)
    rw[m9,m9,m9,m9]
    by_cases c:(pl:Int)∈prs.map (·.1)
    · by_cases c1:aU prs ((ws.set pl x).map some)%p=0
      · by_cases c2:aU prs (ws.map some)%p=0
        · rw[if_neg (by rw[decide_eq_false (fun z=>z c1)];decide),if_neg (by rw[decide_eq_false (fun z=>z c2)];decide),if_pos (by rw[decide_eq_true c,decide_eq_true c2];rfl),if_pos (by rw[decide_eq_true c,decide_eq_true c1];rfl)]
          omega
        · rw[if_neg (by rw[decide_eq_false (fun z=>z c1)];decide),if_pos (by rw[decide_eq_true c2]),if_neg (by rw[decide_eq_true c,decide_eq_false c2];decide),if_pos (by rw[decide_eq_true c,decide_eq_true c1];rfl)]
          omega
      · by_cases c2:aU prs (ws.map some)%p=0
        · rw[if_pos (by rw[decide_eq_true c1]),if_neg (by rw[decide_eq_false (fun z=>z c2)];decide),if_pos (by rw[decide_eq_true c,decide_eq_true c2];rfl),if_neg (by rw[decide_eq_true c,decide_eq_false c1];decide)]
          omega
        · rw[if_pos (by rw[decide_eq_true c1]),if_pos (by rw[decide_eq_true c2]),if_neg (by rw[decide_eq_true c,decide_eq_false c2];decide),if_neg (by rw[decide_eq_true c,decide_eq_false c1];decide)]
          omega
    · have hf:cT prs (pl:Int)=none:=vU c
      have e:aU prs ((ws.set pl x).map some)=aU prs (ws.map some):=by
        rw[Jt G1.1 (fun pr bq=>(G1.2.2 pr bq).1) hpl,hf]
        show _+0*_=_
        rw[oV,Int.add_zero]
      rw[e,decide_eq_false c,Bool.false_and]
      simp only[zR,if_false]
      split<;>omega
abbrev iM:=Int×Option (Int×Int×Int)
def fE(p:Int)(cs:List aq)(ws:List Int)(i:Nat)(s:iM)(x:Int):iM:=if(brk p cs (ws.set i x):Int)<s.1 then(brk p cs (ws.set i x),some ((i:Int),x,(brk p cs (ws.set i x):Int))) else s
def eV(p:Int)(cs:List aq)(ws:List Int)(i:Nat)(s:iM)(xs:List Int):iM:=xs.foldl (fE p cs ws i) s
theorem Hw{p:Int}{cs:List aq}{ws:List Int}{i:Nat}{s:iM}{xs:List Int}{x:Int}:eV p cs ws i s (xs++[x])=fE p cs ws i (eV p cs ws i s xs) x:=by unfold eV;rw[C6];rfl
theorem Hu{p:Int}{cs:List aq}{ws:List Int}{i:Nat}{s:iM}{x:Int}:(fE p cs ws i s x).1<=s.1:=by
 unfold fE
 split
 ·dsimp only;omega
 ·exact rS _
theorem AR{p:Int}{cs:List aq}{ws:List Int}{i:Nat}{xs:List Int}:∀{s:iM},(eV p cs ws i s xs).1<=s.1:=by
 induction xs with
 |nil=>exact rS _
 |cons x xs ih=>intro s;exact sP (ih (s:=fE p cs ws i s x)) Hu
noncomputable def lR(p:Int)(cs:List aq)(ws:List Int)(i:Nat):List Int:=open Classical in
 if h:∃rs:List Int,rs.Pairwise (· < ·)/\∀k,k∈rs↔k∈bQ p cs ws (i:Int) then Classical.choose h else[]
theorem w5{p:Int}{cs:List aq}{ws:List Int}{i:Nat}{rs:List Int}(h1:rs.Pairwise (· < ·))(h2:∀k,k∈rs↔k∈bQ p cs ws (i:Int)):rs=lR p cs ws i:=by
 have h:∃rs:List Int,rs.Pairwise (· < ·)/\∀k,k∈rs↔k∈bQ p cs ws (i:Int):=⟨rs,h1,h2⟩
 unfold lR
 rw[dif_pos h]
 obtain⟨g1,g2⟩:=sN h
 exact DZ h1 g1 fun k=>by rw[h2 k,g2 k]
noncomputable def bX(p:Int)(cs:List aq)(ws:List Int)(m:Nat):iM:=(List.range m).foldl (fun s i=>eV p cs ws i s (lR p cs ws i)) ((brk p cs ws:Int),none)
theorem oX{p:Int}{cs:List aq}{ws:List Int}{m:Nat}:bX p cs ws (m+1)=eV p cs ws m (bX p cs ws m) (lR p cs ws m):=by
 unfold bX
 rw[A0,C6]
 rfl
theorem Gp{p:Int}{cs:List aq}{ws:List Int}:∀m,(bX p cs ws m).1<=brk p cs ws
 |0=>rS _
 |m+1=>by rw[oX];exact sP AR (Gp m)
theorem RW{p:Int}{cs:List aq}{ws:List Int}{i:Nat}{s:iM}{x:Int}{m:Nat}{B:Int}(hs:(s.2=none/\s.1=B)\/∃j y,j<m/\s=((brk p cs (ws.set j y):Int),some ((j:Int),y,(brk p cs (ws.set j y):Int)))/\(brk p cs (ws.set j y):Int)<B/\0<=y/\y<p)(hi:i<m)(x0:0<=x)(x1:x<p)(hB:s.1<=B):
  ((fE p cs ws i s x).2=none/\(fE p cs ws i s x).1=B)\/∃j y,j<m/\fE p cs ws i s x=((brk p cs (ws.set j y):Int),some ((j:Int),y,(brk p cs (ws.set j y):Int)))/\(brk p cs (ws.set j y):Int)<B/\0<=y/\y<p:=by
 unfold fE
 split
 ·exact .inr ⟨i,x,hi,rfl,by omega,x0,x1⟩
 ·exact hs
theorem HR{p:Int}{cs:List aq}{ws:List Int}{i:Nat}{m:Nat}{B:Int}(hi:i<m):∀{xs:List Int} {s:iM},(∀x∈xs,0<=x/\x<p)->s.1<=B->((s.2=none/\s.1=B)\/∃j y,j<m/\s=((brk p cs (ws.set j y):Int),some ((j:Int),y,(brk p cs (ws.set j y):Int)))/\(brk p cs (ws.set j y):Int)<B/\0<=y/\y<p)->
  ((eV p cs ws i s xs).2=none/\(eV p cs ws i s xs).1=B)\/∃j y,j<m/\eV p cs ws i s xs=((brk p cs (ws.set j y):Int),some ((j:Int),y,(brk p cs (ws.set j y):Int)))/\(brk p cs (ws.set j y):Int)<B/\0<=y/\y<p
 |[],_,_,_,h=>h
 |x::xs,s,hx,hB,h=>HR hi (xs:=xs) (fun y hy=>hx y (cX _ hy)) (sP Hu hB) (RW h hi (hx x (cB ..)).1 (hx x (cB ..)).2 hB)
theorem N6{p:Int}{cs:List aq}{ws:List Int}{i:Nat}(hp:0<p):∀x∈lR p cs ws i,0<=x/\x<p:=by
 intro x hx
 unfold lR at hx
 split at hx
 ·rename_i h
  exact tY hp x (((sN h).2 x).mp hx)
 ·cases hx
theorem qt{p:Int}{cs:List aq}{ws:List Int}{m:Nat}(hp:0<p):∀k,k<=m->((bX p cs ws k).2=none/\(bX p cs ws k).1=(brk p cs ws:Int))\/∃j y,j<m/\bX p cs ws k=((brk p cs (ws.set j y):Int),some ((j:Int),y,(brk p cs (ws.set j y):Int)))/\(brk p cs (ws.set j y):Int)<(brk p cs ws:Int)/\0<=y/\y<p
  |0,_=> .inl ⟨rfl,rfl⟩
  | k + 1, h => by
    rw[oX]
    exact HR (by omega) (N6 hp) (Gp k) (qt hp k (by omega))
noncomputable def runC(p:Int)(cs:List aq)(n:Nat):Nat->List Int->List Int×List (Int×Int×Int)
  |0,ws=>(ws,[])
  | k + 1, ws => match (bX p cs ws n).2 with
    |none=>(ws,[])
    |some t=>((runC p cs n k (ws.set t.1.toNat t.2.1)).1,t::(runC p cs n k (ws.set t.1.toNat t.2.1)).2)
theorem pW{p:Int}{cs:List aq}{n k:Nat}{ws:List Int}(h:(bX p cs ws n).2=none):runC p cs n k ws=(ws,[]):=by
 cases k with
 |zero=>rfl
 |succ k=>unfold runC;rw[h]
theorem vR{p:Int}{cs:List aq}{n k:Nat}{ws:List Int}{t:Int×Int×Int}(h:(bX p cs ws n).2=some t):runC p cs n (k+1) ws=((runC p cs n k (ws.set t.1.toNat t.2.1)).1,t::(runC p cs n k (ws.set t.1.toNat t.2.1)).2):=by
 rw[runC,h]
theorem Ev.Ft{G:Gx}{ρ:Rh}{ta tb tc:TE}{K:PySem.W.Frag}{Φ:Pd}(h:Ev G ρ tc fun f x=>∃ks:Ks,x= .dict (ks.map ck)/\Ev G ρ ta fun _ y=>∃k,y= .int k/\Ev G ρ tb fun g z=>Φ (f && g) ((fF ks k).getD z)):Ev G ρ (jQ K "dict" uu tc (br ta (br tb bM))) Φ:=fun nb σ H Q W z=>
  h nb σ H _ W fun f v H1 x ⟨ks,ex,q⟩ s1 hv=>by
    subst ex
    unfold aj at hv
    obtain⟨a,ps,rfl,n,hp,hd⟩:=hv
    have hN:NB G.B a:=kg fun z=>n (.inr (.inr (.inl z)))
    have hty:pB K "dict" (.ref a) H1:=by
      rcases hp with hp|⟨o,hp⟩
      · exact .inr (.inr (.inl ⟨rfl, .inl ⟨_,hp⟩⟩))
      · exact .inr (.inr (.inl ⟨rfl, .inr (.inr ⟨_,_,hp⟩)⟩))
    refine⟨hty,?_⟩
    refine q nb σ H1 _ (W.step s1) fun g w H2 y ⟨k,ey,q2⟩ s2 hw=>q2 nb σ H2 _ ((W.step s1).step s2) fun g' u H3 x p s3 hu=>?_
    subst ey
    have lV:=s2.trans s3
    have hd2:=hd.keep lV.dS
    have hp3:Rd H3 a (.dK ps):=by
      rcases hp with hp|⟨o,hp⟩
      · exact .inl (lV.1 _ _ hN hp)
      · exact .inr ⟨o,lV.1 _ _ hN hp⟩
    have hv:=aE.val k hd2
    refine⟨a,ps, .inl k,u,rfl,by rw[hw.bO];rfl,hp3,?_⟩
    cases hk:fF ks k with
    | none =>
      rw[hk] at hv p
      rw[hv]
      exact z _ _ H3 _ p (s1.trans lV) (hu.av (bJ (fun z=>(cN _ _▸z).2) fun _ z=>z))
    | some d =>
      rw[hk] at hv p
      obtain⟨v,e',hD⟩:=hv
      rw[e']
      exact z _ _ H3 _ p (s1.trans lV) (hD.av (bJ (fun z=>(cN _ _▸z).1) fun _ z=>z))
end L2
set_option maxRecDepth 100000
set_option maxHeartbeats 4000000
namespace L2
open PySem PySem.Spec PyProof.Rows
abbrev vm:=Int×Int×Int
theorem G9:SeqAt.shaped (.list [])=true:=by with_unfolding_all rfl
end L2
set_option maxRecDepth 100000
set_option maxHeartbeats 4000000
set_option maxRecDepth 100000
set_option maxHeartbeats 4000000
namespace L2
open PySem PySem.Spec PyProof.Rows
abbrev CF:=Cu->List PyData->(Cu->Pd)->Prop
end L2
set_option maxRecDepth 100000
set_option maxHeartbeats 4000000
namespace L2
open PySem PySem.Spec PyProof.Rows
inductive Fl where
 |d (d:PyData)|cu (c:Cu)
abbrev Fs:=List (Str×Fl)
end L2
set_option maxRecDepth 100000
set_option maxHeartbeats 4000000
set_option maxRecDepth 100000
set_option maxHeartbeats 4000000
set_option maxRecDepth 100000
set_option maxHeartbeats 4000000
set_option maxRecDepth 100000
set_option maxHeartbeats 4000000
set_option maxRecDepth 100000
set_option maxHeartbeats 4000000
namespace L2
open PySem PySem.Spec PyProof.Rows
inductive Oi where
 |own (b:Addr)|dat (x:PyData)
inductive OO where
 |lst (xs:List Oi)|tup (xs:List Oi)|cY (ks:List (Int×Oi))
abbrev Vi:=List (Addr×OO)
section
variable{S S':Addr->Prop}{H H':Hp}{x:Oi}{v:V}{xs:List Oi}{vs:List V}{a b:Addr}{o:OO}{L:Vi}{F:List Addr}{p:Addr}
theorem WS{ds:List PyData}:∀{vs:List V},vs.length=ds.length->(∀(i:Nat) d v,ds[i]?=some d->vs[i]?=some v->aj S H d v)->ah S H ds vs:=by
  induction ds with
  |nil=>intro vs h _;rw[nj.mp h];exact .nil
  | cons d ds ih =>
    intro vs h q
    cases vs with
    |nil=>cases h
    |cons v vs=>exact .cons (q 0 d v rfl rfl) (ih (by simpa using h) fun i d' v' e1 e2=>q (i+1) d' v' (by simpa using e1) (by simpa using e2))
end
end L2
set_option maxRecDepth 100000
set_option maxHeartbeats 4000000
set_option maxRecDepth 100000
set_option maxHeartbeats 4000000
namespace L2
open PySem PySem.Spec PyProof.Rows
def JH:rH:=fun o i v H Q=>∃a H',o= .ref a/\qE H a i v H'/\Q H'
theorem KI{X:Cx}(hu:X.A.units+64<cLine):tW X JH:=by
 intro pins s σ H o i v ov iv u Q I ro ri rv h
 obtain⟨a,H',rfl,g,q⟩:=h
 cases ro
 exact Wc (by omega) I g ri rv fun s' I'=>⟨H',I',q⟩
def j5(k:Int×Int):List Key:=[.inl k.1, .inl k.2]
def jG(k:Int×Int):List Key×V:=(j5 k, .bl true)
theorem W9{k l:Int×Int}(h:j5 k=j5 l):k=l:=by
 unfold j5 at h
 simp only[List.cons.injEq,Sum.inl.injEq,and_true] at h
 exact Prod.ext h.1 h.2
def ju(a:Addr)(ks:List (Int×Int)):Cu where
 v:= .ref a
 F:=[a]
 f:=true
 P:=fun _ H=>H a=some (.dT (ks.map jG))
 keep:=fun k p=>k.own _ (aT.mpr rfl) _ p
 av:=fun _ p=>p
 fresh:=fun _ p=>p
theorem xx(ks:List (Int×Int))(k:Int×Int):(bV (ks.map jG) (j5 k)).isSome=decide (k∈ks):=by
  induction ks with
  |nil=>rfl
  | cons l ks ih =>
    rw[aZ]
    by_cases c:l=k
    · subst c
      rw[iV (show(jG l).1=j5 l from rfl),decide_eq_true (cB ..)];rfl
    · rw[iE (fun z:(jG l).1=j5 k=>c (W9 z)),ih]
      have:(k∈l::ks)↔k∈ks:=by rw[aP];exact⟨fun z=>z.resolve_left fun y=>c y.symm, .inr⟩
      rw[decide_eq_decide.mpr this]
def mL(ks:List (Int×Int))(k:Int×Int):List (Int×Int):=if k∈ks then ks else ks++[k]
theorem U5(ks:List (Int×Int))(k:Int×Int):putK (ks.map jG) (j5 k) (.bl true)=(mL ks k).map jG:=by
 unfold mL
 by_cases c:k∈ks
 ·rw[if_pos c]
  have h:=xx ks k
  rw[decide_eq_true c] at h
  unfold putK
  have ha:(ks.map jG).any (fun kv=>decide (kv.1=j5 k))=true:=by
   rw[oY]
   exact⟨jG k,jV c,decide_eq_true rfl⟩
  rw[if_pos ha,dD]
  apply gn
  intro l _
  show(if(jG l).1=j5 k then((jG l).1,V.bl true) else jG l)=jG l
  split
  ·rfl
  ·rfl
 ·rw[if_neg c,Bt _ (by have:=xx ks k;rw[decide_eq_false c] at this;exact Option.not_isSome_iff_eq_none.mp (by rw[this];decide)),cL]
  rfl
section
variable{G:Gx}{ρ:Rh}{ta tb te:TE}{E:DE}{i:Nat}{Φ:Pd}{a:Addr}{ks:List (Int×Int)}
theorem Sv.So(h:∀a,E.nx (ρ.set i (.cu (ju a [])))):Sv G ρ (gv Fi (eN i)) E:=fun nb σ H D W KK p hp=>by
 have hS:dO H (upd H p (.dT [])):=dG hp
 refine KK.nx _ _ _ _ (h p) (W.zX (i:=i) (c:=ju p []) (Step.same W.ay hS) (fun b hb=>?_) (fun b hb=>?_) bf)
 ·rw[aT.mp hb];exact hp
 ·rw[aT.mp hb,bf];exact iU _
theorem IS{S:Addr->Prop}{H:Hp}{k:Int×Int}{v:V}(h:aj S H (pairD k) v):∃b,v= .ref b/\H b=some (.tup ((j5 k).map kV)):=by
 obtain⟨b,xs,rfl,_,hx,hd⟩:=h.ofT
 refine⟨b,rfl,?_⟩
 rw[hx]
 unfold ah at hd
 obtain⟨y,ys,rfl,h1,h2⟩:=hd
 unfold ah at h2
 obtain⟨z,zs,rfl,h3,h4⟩:=h2
 unfold ah at h4
 subst h4
 rw[h1.bO,h3.bO]
 rfl
theorem Ev.WT{ng:Bool}(e:ρ[i]?=some (.cu (ju a ks)))(h:Ev G ρ ta fun _ y=>∃k,y=pairD k/\Φ true (.bool (decide (k∈ks) !=ng))):Ev G ρ (cU (C2 ng) ta (cZ i)) Φ:=fun nb σ H Q W z=>
 h nb σ H _ W fun g w H1 y ⟨k,ey,p⟩ s1 hw=>by
  obtain⟨x,e1,h1,h2,h3⟩:=(W.step s1).ok i _ e
  have h1:x=some (.ref a):=h1
  subst h1 ey
  obtain⟨b,rfl,hb⟩:=IS hw
  refine⟨.ref a,e1,a,_,rfl,rJ.t h3 hb,?_⟩
  rw[xx]
  exact z true _ H1 _ p s1 (.bl _)
theorem Sv.Ri(e:ρ[i]?=some (.cu (ju a ks)))(h:Ev G ρ te fun _ d=>d= .bool true/\Ev G ρ tb fun _ y=>∃k,y=pairD k/\ks.length<1000000/\E.nx (ρ.set i (.cu (ju a (mL ks k))))):Sv G ρ (gv te (oK (cZ i) tb JH)) E:=fun nb σ H D W KK=>
 h nb σ H _ W fun g v H1 d ⟨ed,q⟩ s1 hv=>by
  subst ed
  obtain⟨x,e1,h1,h2,h3⟩:=(W.step s1).ok i _ e
  have h1:x=some (.ref a):=h1
  subst h1
  refine⟨.ref a,e1,q nb σ H1 _ (W.step s1) fun g' u H2 y ⟨k,ey,hl,p⟩ s2 hu=>?_⟩
  subst ey
  have W2:=(W.step s1).step s2
  obtain⟨_,_,_,h2,h3⟩:=W2.ok i _ e
  obtain⟨b,rfl,hb⟩:=IS hu
  have hv':v= .bl true:=by unfold aj at hv;exact hv
  subst hv'
  refine⟨a,_,rfl,qE.t h3 hb (by rw[ak,sizeLine_eq];omega),?_⟩
  rw[U5]
  exact KK.nx nb _ _ _ p (W2.zP (c':=ju a (mL ks k)) e (aT.mpr rfl) rfl (fun _ z=>z) bf)
end
end L2
set_option maxRecDepth 100000
set_option maxHeartbeats 4000000
namespace L2
open PySem PySem.Spec PyProof.Rows
def shr(a b:List Int):List Int:=b.filter fun x=>decide (x∈a)
def Ql(R:List (List Int))(P:Nat->Nat->Prop):Prop:=∀(c d:Nat) a b,c<d->R[c]?=some a->R[d]?=some b->P c d->(shr a b).length<2
end L2
set_option maxRecDepth 100000
set_option maxHeartbeats 4000000
set_option maxRecDepth 100000
set_option maxHeartbeats 4000000
set_option maxRecDepth 100000
set_option maxHeartbeats 4000000
set_option maxRecDepth 100000
set_option maxHeartbeats 4000000
namespace L2
open PySem PySem.Spec PyProof.Rows
abbrev RF:=Cu->List PyData->Pd->Prop
end L2
set_option maxRecDepth 100000
set_option maxHeartbeats 4000000
set_option maxRecDepth 100000
set_option maxHeartbeats 4000000
set_option maxRecDepth 100000
set_option maxHeartbeats 4000000
set_option maxRecDepth 100000
set_option maxHeartbeats 4000000
set_option maxRecDepth 100000
set_option maxHeartbeats 4000000
namespace L2
open PySem PySem.Spec PyProof.Rows
def bE:Nat->(Nat->Int)->Int
 |0,_=>0
 |n+1,f=>bE n f+f n
theorem Cz{n:Nat}{f:Nat->Int}:bE (n+1) f=bE n f+f n:=rfl
theorem uX{f g:Nat->Int}:∀{n:Nat},(∀k,k<n->f k=g k)->bE n f=bE n g
 |0,_=>rfl
 |n+1,h=>by unfold bE;rw[uX fun k hk=>h k (by omega),h n (by omega)]
theorem zG{f g:Nat->Int}:∀{n:Nat},bE n (fun k=>f k+g k)=bE n f+bE n g
 |0=>rfl
 |n+1=>by rw[Cz,Cz,Cz,zG];omega
theorem Ca{a:Int}{f:Nat->Int}:∀{n:Nat},bE n (fun k=>a*f k)=a*bE n f
 |0=>by unfold bE;simp
 |n+1=>by unfold bE;rw[Ca,yC]
theorem uY:∀{n:Nat},bE n (fun _=>0)=0
 |0=>rfl
 |n+1=>by unfold bE;rw[uY];rfl
theorem DB{f:Nat->Nat->Int}{n:Nat}:∀{m:Nat},bE n (fun k=>bE m fun c=>f c k)=bE m fun c=>bE n (f c)
  |0=>uY
  | m + 1 => by
    show bE n (fun k=>bE m (fun c=>f c k)+f m k)=bE m (fun c=>bE n (f c))+bE n (f m)
    rw[zG,DB]
theorem Eg{f:Nat->Int}{b:Int}:∀{n:Nat},(∀k,k<n->f k<=b)->bE n f<=n*b
  |0,_=>by unfold bE;simp
  | n + 1, h => by
    unfold bE
    have h1:=Eg (n:=n) fun k hk=>h k (by omega)
    have h2:=h n (by omega)
    rw[show((n+1:Nat):Int)*b=n*b+b by rw[Cs,sE];simp]
    omega
theorem Ec{f:Nat->Int}(hf:∀k,f k=0\/f k=1):∀{n:Nat},(∀k k',k<k'->k'<n->¬(f k=1/\f k'=1))->bE n f<=1
  |0,_=>by unfold bE;omega
  | n + 1, h => by
    unfold bE
    rcases hf n with e|e
    · have:=Ec hf (n:=n) fun k k' a b=>h k k' a (by omega)
      omega
    · have:bE n f=0:=by
        rw[uX (g:=fun _=>0) fun k hk=>(hf k).resolve_right fun z=>h k n hk (by omega) ⟨z,e⟩]
        exact uY
      omega
theorem meet{I:Nat->Nat->Int}(hI:∀c k,I c k=0\/I c k=1){n:Nat}:∀{m:Nat},(∀c d k k',c<d->d<m->k<k'->k'<n->¬(I c k=1/\I d k=1/\I c k'=1/\I d k'=1))->
    bE n (fun k=>bE m (fun c=>I c k)*(bE m (fun c=>I c k)-1))<=m*(m-1)
  | 0, _ => by
    rw[uX (g:=fun _=>0) fun k _=>by unfold bE;simp,uY];simp
  | m + 1, h => by
    have ih:=meet hI (n:=n) (m:=m) fun c d k k' a b=>h c d k k' a (by omega)
    have e:bE n (fun k=>bE (m+1) (fun c=>I c k)*(bE (m+1) (fun c=>I c k)-1))=bE n (fun k=>bE m (fun c=>I c k)*(bE m (fun c=>I c k)-1)+2*bE m (fun c=>I m k*I c k)):=by
      refine uX fun k _=>?_
      rw[Ca]
      show(bE m (fun c=>I c k)+I m k)*(bE m (fun c=>I c k)+I m k-1)=_
      generalize bE m (fun c=>I c k)=D
      rcases hI m k with z|z<;>rw[z]<;>grind
    rw[e,zG,Ca,DB (f:=fun c k=>I m k*I c k)]
    have h2:bE m (fun c=>bE n fun k=>I m k*I c k)<=m*1:=Eg fun c hc=>Ec (fun k=>by rcases hI m k with z|z<;>rcases hI c k with y|y<;>rw[z,y]<;>simp) fun k k' hk hk' ⟨z1,z2⟩=>by
      refine h c m k k' hc (by omega) hk hk' ?_
      rcases hI m k with a|a<;>rcases hI c k with b|b<;>rcases hI m k' with a'|a'<;>rcases hI c k' with b'|b'<;>simp_all
    have e3:((m+1:Nat):Int)*((m+1:Nat)-1)=(m:Int)*(m-1)+2*m:=by rw[Cs];grind
    omega
def Ap(R:List (List Int)):Prop:=Ql R fun _ _=>True
theorem Mn{r:List Int}{x y:Int}(hx:x∈r)(hy:y∈r)(h:x≠y):2<=r.length:=by
 match r,hx,hy with
 |[z],hx,hy=>simp at hx hy;omega
 |_::_::_,_,_=>simp
def jt(a:List Int)(x y:Int):Prop:=∃l' l:Nat,l'<l/\a[l']?=some x/\a[l]?=some y
theorem jt.mem{a:List Int}{x y:Int}(h:jt a x y):x∈a/\y∈a:=let ⟨_,_,_,h1,h2⟩:=h;⟨bh h1,bh h2⟩
theorem jt.lt{a:List Int}{x y:Int}(ha:a.Pairwise (· < ·))(h:jt a x y):x<y:=by
 obtain⟨l',l,hl,h1,h2⟩:=h
 obtain⟨i1,e1⟩:=aR.mp h1
 obtain⟨i2,e2⟩:=aR.mp h2
 rw[<-e1,<-e2]
 exact kR.mp ha l' l i1 i2 hl
theorem vE{a:List Int}{x y:Int}(ha:a.Pairwise (· < ·))(hx:x∈a)(hy:y∈a)(h:x<y):jt a x y:=by
 obtain⟨i,hi⟩:=fY hx
 obtain⟨j,hj⟩:=fY hy
 obtain⟨i1,e1⟩:=aR.mp hi
 obtain⟨j1,e2⟩:=aR.mp hj
 refine⟨i,j,?_,hi,hj⟩
 by_cases c:i<j
 ·exact c
 ·exfalso
  by_cases e:i=j
  ·subst e;omega
  ·have:=kR.mp ha j i j1 i1 (by omega);omega
theorem AM{R:List (List Int)}(hR:∀r∈R,r.Pairwise (· < ·)):Ap R↔∀(c d:Nat) a b x y,c<d->R[c]?=some a->R[d]?=some b->jt a x y->jt b x y->False:=by
  constructor
  · intro h c d a b x y hcd ea eb ha hb
    have:=h c d a b hcd ea eb trivial
    have hlt:=ha.lt (hR a (bh ea))
    have:=Mn (r:=shr a b) (x:=x) (y:=y) (iP.mpr ⟨hb.mem.1,by simpa using ha.mem.1⟩) (iP.mpr ⟨hb.mem.2,by simpa using ha.mem.2⟩) (by omega)
    omega
  · intro h c d a b hcd ea eb _
    have ra:=hR a (bh ea)
    have rb:=hR b (bh eb)
    cases hs:shr a b with
    |nil=>simp
    | cons x r =>
      cases r with
      |nil=>simp
      | cons y r =>
        exfalso
        have rs:(shr a b).Pairwise (· < ·):=rb.filter _
        rw[hs] at rs
        have hxy:x<y:=(Bm.mp rs).1 y cB
        have hx:x∈shr a b:=by rw[hs];exact cB
        have hy:y∈shr a b:=by rw[hs];exact cX _ cB
        have hx:=iP.mp hx
        have hy:=iP.mp hy
        exact h c d a b x y hcd ea eb (vE ra (by simpa using hx.2) (by simpa using hy.2) hxy) (vE rb hx.1 hy.1 hxy)
end L2
set_option maxRecDepth 100000
set_option maxHeartbeats 4000000
set_option maxRecDepth 100000
set_option maxHeartbeats 4000000
set_option maxRecDepth 100000
set_option maxHeartbeats 4000000
namespace L2
open PySem PySem.Spec PyProof.Rows
theorem JR{α:Type}{l:List α}(h:l.Nodup){i j:Nat}{a:α}(hi:l[i]?=some a)(hj:l[j]?=some a):i=j:=by
 obtain⟨i1,e1⟩:=aR.mp hi
 obtain⟨j1,e2⟩:=aR.mp hj
 by_cases c:i=j
 ·exact c
 ·exfalso
  rcases Dg c with c|c
  ·exact kR.mp h i j i1 j1 c (e1.trans e2.symm)
  ·exact kR.mp h j i j1 i1 c (e2.trans e1.symm)
end L2
set_option maxRecDepth 100000
set_option maxHeartbeats 4000000
namespace L2
open PySem PySem.Spec PyProof.Rows
section
variable{p n:Int}{O Q T:List Int}{cs cs':List aq}
def Ln(R:List (List Int)):Prop:=∀(c d:Nat) a b x y,c≠d->R[c]?=some a->R[d]?=some b->x≠y->x∈a->y∈a->x∈b->y∈b->False
theorem yT{R:List (List Int)}(hR:∀r∈R,r.Pairwise (· < ·)):Ap R↔Ln R:=by
 rw[AM hR]
 constructor
 ·intro h
  have key:∀(c d:Nat) a b x y,c<d->R[c]?=some a->R[d]?=some b->x<y->x∈a->y∈a->x∈b->y∈b->False:=fun c d a b x y hcd ea eb hxy h1 h2 h3 h4=>
   h c d a b x y hcd ea eb (vE (hR a (bh ea)) h1 h2 hxy) (vE (hR b (bh eb)) h3 h4 hxy)
  intro c d a b x y hcd ea eb hxy h1 h2 h3 h4
  rcases Dg hcd with c1|c1<;>rcases Int.lt_or_gt_of_ne hxy with c2|c2
  ·exact key c d a b x y c1 ea eb c2 h1 h2 h3 h4
  ·exact key c d a b y x c1 ea eb c2 h2 h1 h4 h3
  ·exact key d c b a x y c1 eb ea c2 h3 h4 h1 h2
  ·exact key d c b a y x c1 eb ea c2 h4 h3 h2 h1
 ·intro h c d a b x y hcd ea eb ha hb
  have h1:=ha.mem
  have h2:=hb.mem
  have:=ha.lt (hR a (bh ea))
  exact h c d a b x y (by omega) ea eb (by omega) h1.1 h1.2 h2.1 h2.2
end
end L2
set_option maxRecDepth 100000
set_option maxHeartbeats 4000000
namespace L2
open PySem PySem.Spec PyProof.Rows
section
variable{p n m:Int}{c1 c2 cs:List aq}{u w:List Int}
theorem U0{ws:List Int}(hV:fX p n cs)(hl:ws.length=n.toNat)(hw:∀x∈ws,0<=x/\x<p)(h:brk p cs ws=0):qX p cs ws n.toNat=[]:=by
  have hb:=List.countP_eq_zero.mp h
  refine List.flatMap_eq_nil_iff.mpr fun i hi=>?_
  have hi:=nv.mp hi
  unfold Ef
  have Uy:tu (bQ p cs ws (i:Int)) (ws.getD i 0)=[]:=by
    cases e:tu (bQ p cs ws (i:Int)) (ws.getD i 0) with
    |nil=>rfl
    | cons x r =>
      exfalso
      have hx:x∈tu (bQ p cs ws (i:Int)) (ws.getD i 0):=by rw[e];exact cB
      have Ep:=iP.mp (List.mem_of_mem_take hx)
      have hg:=Ep.2
      unfold Hq at hg
      rw[cN,decide_eq_true_eq] at hg
      refine hg.1 ?_
      have hm:=Ep.1
      unfold bQ at hm
      obtain⟨q,hq,rfl⟩:=dN.mp hm
      obtain⟨c,prs,f,hc,_,_,rfl⟩:=Ak (aQ _) hq
      have hz:=hb prs (bh hc)
      have hz:aU prs (ws.map some)%p=0:=by simpa using hz
      show(ws.getD (i:Int).toNat 0-aU (cs.getD (c:Int).toNat []) (ws.map some)%p*sol p f 1)%p=_
      rw[eZ,eZ,show cs.getD c []=prs by rw[cM,hc];rfl,hz,oV,vP]
      have:=hw (ws.getD i 0) (by rw[cM,aH (by omega)];exact gP _)
      exact jY this.1 this.2
  rw[Uy];rfl
inductive Way(p:Int)(cs:List aq)(n k:Nat)(ws:List Int):Prop
 |held (hb:brk p cs ws=0) (ht:qX p cs ws n=[])
 |rest (hb:brk p cs ws≠0) (ht:qX p cs ws n=[])
 |on (hb:brk p cs ws≠0) (ht:qX p cs ws n≠[])
theorem way(hV:fX p n cs){ws:List Int}(hl:ws.length=n.toNat)(hw:∀x∈ws,0<=x/\x<p)(k:Nat):Way p cs n.toNat k ws:=by
 by_cases h1:brk p cs ws=0
 ·exact .held h1 (U0 hV hl hw h1)
 by_cases h2:qX p cs ws n.toNat=[]
 ·exact .rest h1 h2
 ·exact .on h1 h2
end
end L2
set_option maxRecDepth 100000
set_option maxHeartbeats 4000000
namespace L2
open PySem PySem.Spec PyProof.Rows
structure A9(a:Addr)(as:List Addr)(Vs:List (List Int))(H:Hp):Prop where
 hl:H a=some (.lst (as.map V.ref))
 nd:(a::as).Nodup
 ln:Vs.length=as.length
 row:∀(j:Nat) b l,as[j]?=some b->Vs[j]?=some l->∃kvs,H b=some (.dK kvs)/\ji l kvs
def ldC(a:Addr)(as:List Addr)(Vs:List (List Int)):Cu where
 v:= .ref a
 F:=a::as
 f:=true
 P:=fun _ H=>A9 a as Vs H
 keep:=fun k p=>⟨k.own _ cB _ p.hl,p.nd,p.ln,fun j b l e1 e2=>by
  obtain⟨kvs,h1,h2⟩:=p.row j b l e1 e2
  exact⟨kvs,k.own _ (cX _ (bh e1)) _ h1,h2⟩⟩
 av:=fun _ p=>p
 fresh:=fun _ p=>p
theorem ji.shape{l:List Int}{kvs:List (Key×V)}(h:ji l kvs):∃ms:List Int,ms.Nodup/\(∀k,k∈ms↔k∈l)/\kvs=ms.map fun k=>((Sum.inl k:Key),V.int (l.count k)):=by
  obtain⟨ms,h1,h2,h3,h4⟩:=h
  refine⟨ms,h2,h3,?_⟩
  have hv:∀k∈ms,bV kvs (Sum.inl k)=some (.int (l.count k)):=fun k hk=>h4 k ((h3 k).mp hk)
  clear h3 h4
  induction kvs generalizing ms with
  | nil => cases ms with
    |nil=>rfl
    |cons m ms=>cases h1
  | cons q kvs ih =>
    cases ms with
    |nil=>cases h1
    | cons m ms =>
      rw[aZ,aZ] at h1
      injection h1 with e1 e2
      rw[iC] at h2
      have hm:=hv m cB
      have hq:q.2= .int (l.count m):=by
        rw[iV (show q.1=Sum.inl m from e1)] at hm
        exact gf hm
      rw[aZ,<-ih ms e2 h2.2 fun k hk=>?_]
      · congr 1
        exact Prod.ext e1 hq
      · have:=hv k (cX _ hk)
        rwa[iE (fun z=>h2.1 (by rw[e1] at z;injection z with z;rw[z];exact hk))] at this
section
variable{G:Gx}{ρ:Rh}{ta tb te tk:TE}{E:DE}{i ip iq:Nat}{K:PySem.W.Frag}{Φ:Pd}{a:Addr}{as:List Addr}{Vs:List (List Int)}
theorem Sv.QN(h:Ev G ρ te fun _ x=>∃n:Int,x= .int n/\0<=n/\n<=9999/\∀a as,E.nx (ρ.set i (.cu (ldC a as (List.replicate n.toNat []))))):
  Sv G ρ (wC i (lO (sF (br te bM)) (eN 0) nD zU [none])) E:=fun nb σ H D W KK=>
 h nb σ H _ W fun f v H1 x ⟨n,ex,n0,n1,q⟩ s1 hv=>by
  subst ex
  rw[hv.bO]
  refine⟨n,rfl,by omega,by omega,fun acc hacc=>?_⟩
  refine R.BA (fun j σ H2=>∃bs:List Addr,bs.length=j/\H2 acc=some (.lst (bs.map V.ref))/\bs.Nodup/\(∀b∈bs,H1 b=none/\H2 b=some (.dK []))/\acc∉bs/\∀b o,H1 b=some o->H2 b=some o) ?_ ?_ ?_
  ·exact⟨[],rfl,bf,mG,(fun _ z=>by cases z),(fun z=>by cases z),fun b o e=>by rw[aK (fun z=>by rw[z,hacc] at e;cases e)];exact e⟩
  ·rintro j σ H2 hj ⟨bs,kI,hA,hnd,hb,hab,hk⟩ b hb0
   have hba:b≠acc:=fun z=>by rw[z,hA] at hb0;cases hb0
   have EF:b∉bs:=fun z=>by have:=(hb b z).2;rw[hb0] at this;cases this
   have PR:H1 b=none:=by
    cases e:H1 b with
    |none=>rfl
    |some o=>rw[hk b o e] at hb0;cases hb0
   refine⟨bs.map V.ref,by rw[aK (bw hba)];exact hA,by rw[ak,kI];exact dj (show j<10000 by omega) (by decide),bs++[b],by rw[bz,kI];rfl,by rw[bf,cL];rfl,?_,?_,?_,?_⟩
   ·rw[oH]
    exact⟨hnd,by simp,fun x hx y hy z=>by rw[aT.mp hy] at z;exact EF (z▸hx)⟩
   ·intro x hx
    rcases cD.mp hx with z|z
    ·obtain⟨g1,g2⟩:=hb x z
     refine⟨g1,?_⟩
     rw[aK (fun y=>hab (by rw[<-y];exact z)),aK (fun y=>EF (by rw[<-y];exact z))];exact g2
    ·rw[aT.mp z]
     exact⟨PR,by rw[aK hba,bf]⟩
   ·intro z
    rcases cD.mp z with z|z
    ·exact hab z
    ·exact hba (aT.mp z).symm
   ·intro x o e
    have:=hk x o e
    rw[aK (fun z=>by rw[z,hacc] at e;cases e),aK (fun y=>by rw[y,hb0] at this;cases this)]
    exact this
  ·rintro σ2 H2 ⟨bs,kI,hA,hnd,hb,hab,hk⟩
   have s2:Step G.B H H2:=s1.trans (.same s1.2 hk)
   refine KK.nx _ _ _ _ (q acc bs) (W.zX (c:=ldC acc bs (List.replicate n.toNat [])) s2 (fun b hb'=>?_) (fun b hb'=>?_) ?_)
   ·rcases aP.mp hb' with z|z
    ·rw[z];exact W.none_of s1 hacc
    ·exact W.none_of s1 (hb b z).1
   ·rcases aP.mp hb' with z|z
    ·rw[z,hA];exact iU _
    ·rw[(hb b z).2];exact iU _
   ·refine⟨hA,iC.mpr ⟨hab,hnd⟩,by rw[EG,kI],fun j b l e1 e2=>?_⟩
    have el:l=[]:=by
     rw[gY] at e2
     split at e2
     ·cases e2;rfl
     ·cases e2
    subst el
    exact⟨[],(hb b (bh e1)).2,ji.nil⟩
theorem Sv.Tt{K1 K2 K3:PySem.W.Frag}{fp fq:Bool}{pl x:Int}(e:ρ[i]?=some (.cu (ldC a as Vs)))(ep:ρ[ip]?=some (.d fp (.int pl)))(eq:ρ[iq]?=some (.d fq (.int x)))(h0:0<=pl)(h1:pl<Vs.length)(hs:(Vs.getD pl.toNat []).length<9999)
  (h:E.nx (ρ.set i (.cu (ldC a as (Vs.set pl.toNat (Vs.getD pl.toNat []++[x])))))):
  Sv G ρ (gv (cU (iO fun i j=>V.int (i+j)) (jQ K1 "dict" uu (cU (cz K2) (cZ i) (cZ ip)) (br (cZ iq) (br (tC (.int 0)) bM))) (tC (.int 1))) (oK (cU (cz K3) (cZ i) (cZ ip)) (cZ iq) wB)) E:=fun nb σ H D W KK=>by
 obtain⟨xa,ea,ha1,ha2,hP⟩:=W.ok i _ e
 subst ha1
 have hP:A9 a as Vs H:=hP
 obtain⟨xp,exp,vp,SQ,wZ⟩:=W.ok ip _ ep
 subst SQ
 have wZ:=wZ.bO
 subst wZ
 obtain⟨xq,IC,vq,VM,zS⟩:=W.ok iq _ eq
 subst VM
 have zS:=zS.bO
 subst zS
 have lW:=hP.ln
 have hj:pl.toNat<as.length:=by omega
 obtain⟨b,eb⟩:∃b,as[pl.toNat]?=some b:=⟨_,aH hj⟩
 obtain⟨l,el⟩:∃l,Vs[pl.toNat]?=some l:=⟨_,aH (by omega)⟩
 obtain⟨kvs,hb,hc⟩:=hP.row _ b l eb el
 have hat:bF (as.map V.ref) pl=some (.ref b):=fS h0 (by rw[aS,eb];rfl)
 have LM:Vs.getD pl.toNat []=l:=by rw[cM,el];rfl
 rw[LM] at hs h
 have iF:kvs.length<=l.length:=by
  obtain⟨ms,g1,g2,g3,_⟩:=hc
  have:=congrArg List.length g1
  rw[ak,ak] at this
  rw[this]
  exact ou g2 fun k hk=>(g3 k).mp hk
 refine⟨.ref a,ea, .int pl,exp,a,_,pl, .ref b,rfl,rfl,aV.of hP.hl,hat, .inr (.inr (.inl ⟨rfl, .inl ⟨_,hb⟩⟩)), .int x,IC,b,kvs, .inl x, .int 0,rfl,rfl, .inl hb,?_⟩
 rw[hc.at x]
 refine⟨_,1,rfl,rfl, .ref a,ea, .int pl,exp,a,_,pl, .ref b,rfl,rfl,aV.of hP.hl,hat, .int x,IC,b,kvs, .inl x,rfl,rfl,hb,sU iF (dj hs (by decide)),?_⟩
 have Uc:b∈(ldC a as Vs).F:=cX _ (bh eb)
 refine KK.nx nb _ _ _ h (W.zP e Uc rfl (fun _ z=>z) ?_)
 have hnd:=hP.nd
 rw[iC] at hnd
 have hab:a≠b:=fun z=>hnd.1 (by rw[z];exact bh eb)
 refine⟨by rw[aK hab];exact hP.hl,hP.nd,by rw[gC];exact lW,fun j c l' e1 e2=>?_⟩
 by_cases cj:j=pl.toNat
 ·subst cj
  rw[eb] at e1;cases e1
  rw[cQ (by omega)] at e2;cases e2
  exact⟨_,bf,hc.step⟩
 ·rw[bH (bw cj)] at e2
  obtain⟨kvs',g1,g2⟩:=hP.row j c l' e1 e2
  refine⟨kvs',?_,g2⟩
  rw[aK (fun z=>cj ?_)]
  ·exact g1
  ·subst z
   obtain⟨i1,q1⟩:=aR.mp e1
   obtain⟨i2,q2⟩:=aR.mp eb
   exact(qw hnd.2).mp (q1.trans q2.symm)
def cntK(ms l:List Int):Ks:=ms.map fun k=>(k, .int (l.count k))
theorem Sv.Lp{s:TS}(i:Nat)(e:ρ[i]?=some (.cu (ldC a as Vs)))(h:∀M:List (List Int),M.length=Vs.length->(∀(j:Nat) ms l,M[j]?=some ms->Vs[j]?=some l->ms.Nodup/\∀k,k∈ms↔k∈l)->Sv G (ρ.set i (.d true (.list ((List.range Vs.length).map fun j=> .dict ((cntK (M.getD j []) (Vs.getD j [])).map ck))))) s E):Sv G ρ s E:=fun nb σ H D W K=>by
  obtain⟨xa,ea,ha1,ha2,hP⟩:=W.ok i _ e
  have hP:A9 a as Vs H:=hP
  have lW:=hP.ln
  have hM:∀j:Nat,∃ms:List Int,∀b l,as[j]?=some b->Vs[j]?=some l->ms.Nodup/\(∀k,k∈ms↔k∈l)/\H b=some (.dK (ms.map fun k=>((Sum.inl k:Key),V.int (l.count k)))):=fun j=>by
    by_cases hj:j<as.length
    · obtain⟨kvs,g1,g2⟩:=hP.row j as[j] (Vs[j]'(by omega)) (aH hj) (aH (by omega))
      obtain⟨ms,q1,q2,q3⟩:=g2.shape
      refine⟨ms,fun b l e1 e2=>?_⟩
      rw[aH hj] at e1;cases e1
      rw[aH (by omega)] at e2;cases e2
      exact⟨q1,q2,by rw[<-q3];exact g1⟩
    · exact⟨[],fun b l e1=>by rw[ie (by omega)] at e1;cases e1⟩
  obtain⟨m,hm⟩:=Classical.axiomOfChoice hM
  refine h ((List.range Vs.length).map m) (by rw[ak,kP]) (fun j ms l e1 e2=>?_) _ σ H D (W.IP e fun p hn=>?_) K
  · have hj:=(aR.mp e2).1
    rw[aS,lG hj] at e1
    cases e1
    obtain⟨q1,q2,_⟩:=hm j (as[j]'(by omega)) l (aH (by omega)) e2
    exact⟨q1,q2⟩
  · have out:∀b∈(ldC a as Vs).F,¬G.S (fun x=>nb x/\x∉(ldC a as Vs).F) true b:=fun b hb z=>by
      obtain⟨q1,q2,q3⟩:=hn b hb
      rcases z with z|z|z|z
      · exact z.2 hb
      · exact q2 z
      · exact z q3
      · exact z.2 q1
    show aj _ H _ (.ref a)
    refine .lst (out a cB) hP.hl (WS (by rw[ak,ak,kP,lW]) fun j d v e1 e2=>?_)
    rw[aS] at e1 e2
    obtain⟨j',ej,rfl⟩:=jw.mp e1
    obtain⟨b,eb,rfl⟩:=jw.mp e2
    obtain⟨hjl,E1⟩:=aR.mp ej
    rw[List.getElem_range] at E1
    subst E1
    rw[kP] at hjl
    have el:Vs[j]?=some (Vs.getD j []):=by rw[cM,aH hjl];rfl
    obtain⟨_,_,hb⟩:=hm j b _ eb el
    have em:((List.range Vs.length).map m).getD j []=m j:=by rw[cM,aS,lG hjl];rfl
    rw[em]
    unfold aj
    refine⟨b,_,rfl,out b (cX _ (bh eb)), .inl hb,?_⟩
    unfold cntK
    generalize Vs.getD j []=l
    generalize m j=ms
    induction ms with
    |nil=>simp only[oq];unfold aE;rfl
    | cons k ms ih =>
      rw[aZ,aZ,aZ]
      unfold aE
      refine⟨_,_,rfl,?_,ih⟩
      unfold dP
      exact⟨rfl, .int _⟩
end
end L2
set_option maxRecDepth 100000
set_option maxHeartbeats 4000000
namespace L2
open PySem PySem.Spec PyProof.Rows
theorem Qt{p f w R:Int}(hp:fR p)(hf:f%p≠0):sol p f (f*w-R)=(w-R*sol p f 1)%p:=by
 have p2:=hp.1
 obtain⟨k,hk⟩:=zQ (a:=1) hp hf
 obtain⟨j,hj⟩:=zQ (a:=f*w-R) hp hf
 have hr:=vI (p:=p) (b:=f) (a:=f*w-R) (by omega)
 generalize sol p f (f*w-R)=x at*
 generalize sol p f 1=s at*
 have h1:f*s=1+p*k:=by omega
 have h2:f*x=f*w-R+p*j:=by omega
 have e:w-R*s=x+p*(k*(x-w+R*s)-s*(j+R*k)):=by
  have h3:s*(f*x)=s*(f*w-R+p*j):=by rw[h2]
  have h4:(f*s)*(x-w+R*s)=(1+p*k)*(x-w+R*s):=by rw[h1]
  grind
 rw[e,BX,jY hr.1 hr.2]
noncomputable def zc(p:Int)(prs:aq)(ws:List Int)(j:Nat):Option Int->List Int
 |some f=>[(ws.getD j 0-aU prs (ws.map some)%p*sol p f 1)%p]
 |none=>[]
noncomputable def iQ(p:Int)(cs:List aq)(ws:List Int)(c j:Nat):List Int:=(fL p cs (j:Int) c).map fun q=>(ws.getD j 0-aU (cs.getD q.1.toNat []) (ws.map some)%p*q.2)%p
noncomputable def gy(p:Int)(cs:List aq)(ws:List Int)(c:Nat)(prs dn:aq)(j:Nat):List Int:=iQ p cs ws c j++zc p prs ws j (cT dn (j:Int))
section
variable{p:Int}{cs:List aq}{ws:List Int}{c j:Nat}{prs:aq}
theorem Kq:iQ p cs ws cs.length j=bQ p cs ws (j:Int):=by unfold iQ bQ;rw[eZ]
theorem Kd:gy p cs ws c prs [] j=iQ p cs ws c j:=by unfold gy;rw[Ie];exact iG _
theorem LW(h:cs[c]?=some prs):gy p cs ws c prs prs j=iQ p cs ws (c+1) j:=by
  unfold gy iQ
  rw[Cd h,cL]
  congr 1
  cases cT prs (j:Int) with
  |none=>rfl
  | some f =>
    show[_]=[_]
    dsimp only
    rw[eZ,show cs.getD c []=prs by rw[cM,h];rfl]
theorem WR:(iQ p cs ws c j).length<=c:=by unfold iQ;rw[ak];exact qH c
theorem K0{dn:aq}:(gy p cs ws c prs dn j).length<=c+1:=by
 unfold gy
 rw[bz]
 have:=WR (p:=p) (cs:=cs) (ws:=ws) (c:=c) (j:=j)
 have:(zc p prs ws j (cT dn (j:Int))).length<=1:=by cases cT dn (j:Int)<;>simp[zc]
 omega
theorem DV{dn:aq}{pr:Int×Int}(hn:pr.1∉dn.map (·.1)):gy p cs ws c prs (dn++[pr]) j=if pr.1=(j:Int) then gy p cs ws c prs dn j++[(ws.getD j 0-aU prs (ws.map some)%p*sol p pr.2 1)%p] else gy p cs ws c prs dn j:=by
 unfold gy
 rw[B5]
 by_cases e:pr.1=(j:Int)
 ·rw[if_pos e,if_pos e,vU (by rw[<-e];exact hn)]
  show _++[_]=(_++[])++[_]
  rw[iG]
 ·rw[if_neg e,if_neg e]
  cases cT dn (j:Int)<;>rfl
theorem V3{n:Nat}{dn:aq}{pr:Int×Int}(h0:0<=pr.1)(h1:pr.1<n)(hn:pr.1∉dn.map (·.1)):((List.range n).map (gy p cs ws c prs dn)).set pr.1.toNat (((List.range n).map (gy p cs ws c prs dn)).getD pr.1.toNat []++[(ws.getD pr.1.toNat 0-aU prs (ws.map some)%p*sol p pr.2 1)%p])=(List.range n).map (gy p cs ws c prs (dn++[pr])):=by
 have hk:pr.1.toNat<n:=by omega
 apply gR
 intro j
 have hg:((List.range n).map (gy p cs ws c prs dn)).getD pr.1.toNat []=gy p cs ws c prs dn pr.1.toNat:=by
  rw[cM,aS,lG hk];rfl
 rw[hg]
 by_cases e:pr.1.toNat=j
 ·subst e
  rw[cQ (by rw[ak,kP];exact hk),aS,lG hk]
  show some _=some _
  rw[DV hn,if_pos (by omega)]
 ·rw[bH e,aS,aS]
  by_cases hj:j<n
  ·rw[lG hj]
   show some _=some _
   rw[DV hn,if_neg (by omega)]
  ·rw[ie (by rw[kP];omega)];rfl
end
noncomputable def qC(p:Int)(cs:List aq)(ws:List Int)(n:Nat)(M:List (List Int)):PyData:= .list ((List.range n).map fun j=> .dict ((cntK (M.getD j []) (bQ p cs ws (j:Int))).map ck))
structure Ms(p:Int)(cs:List aq)(ws:List Int)(n:Nat)(M:List (List Int)):Prop where
 l:M.length=n
 nd:∀j,j<n->(M.getD j []).Nodup
 m:∀j,j<n->∀k,k∈M.getD j []↔k∈bQ p cs ws (j:Int)
section
variable{p:Int}{cs:List aq}{ws:List Int}{n:Nat}{M:List (List Int)}
theorem JL{j:Nat}(hj:j<n):bF ((List.range n).map fun j=>PyData.dict ((cntK (M.getD j []) (bQ p cs ws (j:Int))).map ck)) (j:Int)=some (.dict ((cntK (M.getD j []) (bQ p cs ws (j:Int))).map ck)):=
 fS (by omega) (by rw[eZ,aS,lG hj];rfl)
theorem Ea{ms l:List Int}{k:Int}(h:k∈ms):fF (cntK ms l) k=some (.int (l.count k)):=by
  unfold cntK
  induction ms with
  |nil=>cases h
  | cons m ms ih =>
    rw[aZ,nV]
    by_cases e:m=k
    · rw[if_pos e,e]
    · rw[if_neg e]
      exact ih ((aP.mp h).resolve_left fun z=>e z.symm)
theorem Q4{ms l:List Int}{k:Int}(h:k∉ms):fF (cntK ms l) k=none:=by
  unfold cntK
  induction ms with
  |nil=>rfl
  | cons m ms ih =>
    rw[aP,not_or] at h
    rw[aZ,nV,if_neg (fun z=>h.1 z.symm)]
    exact ih h.2
theorem MT{ms l:List Int}(hm:∀k,k∈ms↔k∈l)(k:Int):(fF (cntK ms l) k).getD (.int 0)= .int (l.count k):=by
 by_cases h:k∈ms
 ·rw[Ea h];rfl
 ·rw[Q4 h,wX.mpr fun z=>h ((hm k).mpr z)];rfl
end
def jM(b:Int)(s:iM):vm:=match s.2 with
 |none=>(0,-1,-1)
 |some t=>(b-s.1,t.1,t.2.1)
def ly(b:Int)(s:iM):Prop:=s.2=none->s.1=b
section
variable{p:Int}{cs:List aq}{ws:List Int}{i:Nat}{b:Int}{s:iM}{x:Int}
theorem Xf(h:ly b s):(jM b s).1=b-s.1:=by
 unfold jM
 unfold ly at h
 cases e:s.2 with
 |none=>rw[h e];show(0:Int)=_;omega
 |some t=>rfl
theorem VJ(h:ly b s):ly b (fE p cs ws i s x):=by
 unfold fE
 split
 ·intro z;cases z
 ·exact h
theorem Am:∀{xs:List Int} {s:iM},ly b s->ly b (eV p cs ws i s xs)
  |[],_,h=>h
  | x :: xs, s, h => by
    show ly b (eV p cs ws i (fE p cs ws i s x) xs)
    exact Am (VJ h)
theorem Aq:∀m,ly (brk p cs ws) (bX p cs ws m)
 |0=>fun _=>rfl
 |m+1=>by rw[oX];exact Am (Aq m)
theorem KC(h:(brk p cs (ws.set i x):Int)<s.1):jM b (fE p cs ws i s x)=(b-brk p cs (ws.set i x),(i:Int),x):=by unfold fE;rw[if_pos h];rfl
theorem Lm(h:¬(brk p cs (ws.set i x):Int)<s.1):jM b (fE p cs ws i s x)=jM b s:=by unfold fE;rw[if_neg h]
theorem DX:∀{xs:List Int} {s:iM},x∈xs->(eV p cs ws i s xs).1<=brk p cs (ws.set i x)
  | y :: xs, s, h => by
    show(eV p cs ws i (fE p cs ws i s y) xs).1<=_
    rcases aP.mp h with z|z
    · subst z
      refine sP AR ?_
      unfold fE
      split
      · exact rS _
      · omega
    · exact DX z
theorem Hy:∀{m:Nat},i<m->x∈lR p cs ws i->(bX p cs ws m).1<=brk p cs (ws.set i x)
  | m + 1, hi, hx => by
    rw[oX]
    by_cases c:i=m
    · subst c;exact DX hx
    · exact sP AR (Hy (by omega) hx)
theorem O1(hx:x∈bQ p cs ws (i:Int)):x∈lR p cs ws i:=by
  have hex:∃rs:List Int,rs.Pairwise (· < ·)/\∀k,k∈rs↔k∈bQ p cs ws (i:Int):=by
    generalize bQ p cs ws (i:Int)=L
    have key:∀L:List Int,∃rs:List Int,rs.Pairwise (· < ·)/\∀k,k∈rs↔k∈L:=fun L=>by
      induction L with
      |nil=>exact⟨[],List.Pairwise.nil,fun k=>Iff.rfl⟩
      | cons a L ih =>
        obtain⟨rs,h1,h2⟩:=ih
        by_cases c:a∈rs
        · exact⟨rs,h1,fun k=>by rw[h2 k,aP];exact⟨.inr,fun z=>z.elim (fun z=>by rw[z];exact(h2 a).mp c) id⟩⟩
        · refine⟨rs.filter (fun y=>decide (y<a))++[a]++rs.filter (fun y=>decide (a<y)),?_,fun k=>?_⟩
          · rw[mO,Im]
            refine⟨h1.filter _,?_,fun y hy z hz=>?_⟩
            · rw[List.singleton_append,Bm]
              exact⟨fun y hy=>of_decide_eq_true (iP.mp hy).2,h1.filter _⟩
            · have Ff:y<a:=of_decide_eq_true (iP.mp hy).2
              rcases cD.mp hz with q|q
              · rw[aT.mp q];exact Ff
              · have:a<z:=of_decide_eq_true (iP.mp q).2
                exact Int.lt_trans Ff this
          · rw[cD,cD,aT,iP,iP,aP,<-h2 k]
            constructor
            · rintro((z|z)|z)
              · exact .inr z.1
              · exact .inl z
              · exact .inr z.1
            · rintro(z|z)
              · exact .inl (.inr z)
              · rcases qz k a with q|q|q
                · exact .inl (.inl ⟨z,decide_eq_true q⟩)
                · exact .inl (.inr q)
                · exact .inr ⟨z,decide_eq_true q⟩
    exact key L
  obtain⟨rs,h1,h2⟩:=hex
  rw[<-w5 h1 h2]
  exact(h2 x).mpr hx
theorem Lq{n:Int}(hN:fX p n cs)(hl:ws.length=n.toNat)(hw:∀y∈ws,0<=y/\y<p)(h:(bX p cs ws n.toNat).2=none)(hi:i<n.toNat)(x0:0<=x)(x1:x<p):(brk p cs ws:Int)<=brk p cs (ws.set i x):=by
 have hb:(bX p cs ws n.toNat).1=brk p cs ws:=Aq n.toNat h
 by_cases c:x∈bQ p cs ws (i:Int)
 ·rw[<-hb];exact Hy hi (O1 c)
 ·have:=yg hN.hp (fun prs bR=>by rw[hl];exact hN.ok prs bR) (by omega) hw x0 x1 (pl:=i)
  rw[wX.mpr c] at this
  omega
end
theorem Sv.OJ{G:Gx}{ρ:Rh}{t:TA}{E:DE}{i:Nat}{n:Nat}{F:DF}{test test2:TT}{ret Wz rest:TS}{K2 K3 K4 K5:PySem.W.Frag}(hm:cG F)(hi:i<ρ.length)
  (h:Av G ρ t fun es=>es.length=n/\F (es.map (·.2)) fun f d=>f=true/\∃(as bs:List PyData),d= .tuple [.list as, .list bs]/\as.length<9000/\bs.length<9000/\Tv G (ρ.set i (.d true d)) test fun b=>b=false/\Tv G (ρ.set i (.d true d)) test2 fun b=>b=false)
  (ht:Sv G (ρ.set i .no) rest E):
  Sv G ρ (jA (gv (iS (bC n F) [] E0 t) (eN i)) (jA (o6 test ret rD) (jA (o6 test2 Wz rD) (jA (nN (jQ K2 "list" p8 (cU (bN K3) (cZ i) (tC (.int 0))) (br (tC (.int 0)) bM)))
   (jA (nN (jQ K4 "list" p8 (cU (bN K5) (cZ i) (tC (.int 1))) (br (oF (qx [0,0,0])) bM))) rest))))) E:=fun nb σ H D W KK=>by
 refine h nb σ H _ W fun es vs H1 ⟨hl,p⟩ s1 q1=>?_
 have W1:=W.step s1
 show bC n F (vs++[]) H1 _ E0
 rw[iG]
 refine⟨by rw[q1.len,hl],G.S nb (iX es),es.map (·.2),W1.kF,q1.all fun z=>z,hm _ _ _ p fun f d hp v H' sm hd=>?_⟩
 obtain⟨rfl,as,bs,rfl,hal,kI,htest⟩:=hp
 have s2:Step G.B H H':=s1.trans (.same W1.ay sm)
 have W2:Wd G nb (ρ.set i (.d true (.tuple [.list as, .list bs]))) (σ.set i (some v)) H':=(W.step s2).lz (hd.av fun a q=> .inr ⟨rfl,W1.kF a q⟩)
 have UE:=W.len
 refine htest nb _ H' _ W2 fun b MJ hb Gn=>?_
 obtain⟨hb,Xr⟩:=hb
 subst hb
 rw[if_neg cC]
 refine Xr nb _ MJ _ (W2.step Gn) fun b H2 hb Lf=>?_
 subst hb
 rw[if_neg cC]
 have s3:=Gn.trans Lf
 have lV:=s2.trans s3
 have hd2:=hd.keep (s3.but fun a z=> .inl (.inr (.inr (.inl z))))
 obtain⟨T,ys,rfl,nT,hT,hys⟩:=hd2.ofT
 unfold ah at hys
 obtain⟨v1,r1,rfl,d1,hys⟩:=hys
 unfold ah at hys
 obtain⟨v2,r2,rfl,d2,hys⟩:=hys
 unfold ah at hys
 subst hys
 obtain⟨A,zs,rfl,nA,hA,hzs⟩:=d1.eO
 obtain⟨B,ws,rfl,nB,hB,hws⟩:=d2.eO
 have Ye:=hzs.length
 have hwl:=hws.length
 have vO:H1 A=none:=kg fun q=>nA (.inr ⟨rfl,q⟩)
 have uc:H1 B=none:=kg fun q=>nB (.inr ⟨rfl,q⟩)
 have D5:(σ.set i (some (V.ref T)))[i]?=some (some (.ref T)):=cQ (by rw[UE];exact hi)
 have Nu:T≠A:=fun z=>by rw[z,hA] at hT;cases hT
 refine⟨.ref T,D5,T,_,0, .ref A,rfl,rfl, .of hT,rfl, .inl ⟨rfl,_,aV.of hA⟩,A,zs, .int 0,rfl,rfl,hA,dj (show zs.length<10000 by omega) (by decide),?_⟩
 have M3:(upd H2 A (.lst (zs++[.int 0]))) T=some (.tup [.ref A, .ref B]):=by rw[aK Nu];exact hT
 obtain⟨us,B0,XF⟩:∃us,(upd H2 A (.lst (zs++[.int 0]))) B=some (.lst us)/\us.length<9999:=by
  by_cases c:B=A
  ·subst c;exact⟨_,bf,by rw[bz,fh];omega⟩
  ·exact⟨ws,by rw[aK c];exact hB,by omega⟩
 refine⟨.ref T,D5,T,_,1, .ref B,rfl,rfl, .of M3,rfl, .inl ⟨rfl,_,aV.of B0⟩,vS rfl,fun q hq=>?_⟩
 have Nf:B≠q:=fun z=>by rw[<-z,B0] at hq;cases hq
 have MY:q≠A:=fun z=>by rw[z,bf] at hq;cases hq
 have hq2:H2 q=none:=by rw[aK MY] at hq;exact hq
 refine⟨B,us, .ref q,rfl,rfl,by rw[aK Nf];exact B0,dj (show us.length<10000 by omega) (by decide),?_⟩
 have g6:Step G.B H (upd (upd (upd H2 A (.lst (zs++[.int 0]))) q (.tup [.int 0, .int 0, .int 0])) B (.lst (us++[.ref q]))):=by
  refine⟨fun a o n e=>?_,fun b l e=>?_⟩
  ·have h3:=lV.1 a o n e
   rw[aK (fun z=>by subst z;rw[s1.1 a o n e] at uc;cases uc),aK (fun z=>by rw[z,hq2] at h3;cases h3),aK (fun z=>by subst z;rw[s1.1 a o n e] at vO;cases vO)]
   exact h3
  ·have hb1:=(W1.ay b l e).live
   have hb2:=(lV.2 b l e).live
   refine(((lV.2 b l e).upd (fun z=>hb1.1 (z▸vO)) (fun z=>hb1.2 (z▸vO))).upd (fun z=>hb2.1 (z▸hq2)) (fun z=>hb2.2 (z▸hq2))).upd (fun z=>hb1.1 (z▸uc)) (fun z=>hb1.2 (z▸uc))
 have W3:Wd G nb (ρ.set i .no) (σ.set i (some (V.ref T))) (upd (upd (upd H2 A (.lst (zs++[.int 0]))) q (.tup [.int 0, .int 0, .int 0])) B (.lst (us++[.ref q]))):=(W.step g6).set (i:=i) (s:= .no) (x:=some (V.ref T)) trivial fun _ _ _ e=>by cases e
 exact ht nb _ _ D W3 KK
theorem Vy{prs:aq}{ws:List Int}{i:Nat}{x:Int}(h0:∀pr∈prs,0<=pr.1)(h:(i:Int)∉prs.map (·.1)):aU prs ((ws.set i x).map some)=aU prs (ws.map some):=by
 unfold aU
 congr 1
 refine gn fun pr bq=>?_
 have:=h0 pr bq
 have hne:i≠pr.1.toNat:=fun z=>h (dN.mpr ⟨pr,bq,by omega⟩)
 unfold gp
 rw[aS,aS,bH hne]
theorem Pq{p n:Int}{cs:List aq}{ws:List Int}{i:Nat}{x:Int}(hN:fX p n cs):(brk p cs (ws.set i x):Int)-brk p cs ws=(brk p (cs.filter fun prs=>decide ((i:Int)∈prs.map (·.1))) (ws.set i x):Int)-brk p (cs.filter fun prs=>decide ((i:Int)∈prs.map (·.1))) ws:=by
  have h0:∀prs∈cs,∀pr∈prs,0<=pr.1:=fun prs hp pr bq=>((hN.ok prs hp).2.2 pr bq).1
  clear hN
  unfold brk
  induction cs with
  |nil=>rfl
  | cons a cs ih =>
    have ih:=ih fun prs hp=>h0 prs (cX _ hp)
    rw[m9,m9]
    by_cases c:(i:Int)∈a.map (·.1)
    · rw[Dk (by exact decide_eq_true c),m9,m9]
      omega
    · rw[xD (by simp only[decide_eq_true_eq];exact c),Vy (h0 a cB) c]
      omega
theorem Qs{p:Int}{cs:List aq}{n k:Nat}{ws:List Int}(hp:0<p)(hk:brk p cs ws<=k)(h:(runC p cs n k ws).2=[]):(runC p cs n k ws).1=ws:=by
 rcases qt (p:=p) (cs:=cs) (ws:=ws) (m:=n) hp n (aQ _) with ⟨e5,e6⟩|⟨j',y',hj',e',hlt',_,_⟩
 ·rw[pW e5]
 ·exfalso
  have es':(bX p cs ws n).2=some ((j':Int),y',(brk p cs (ws.set j' y'):Int)):=by rw[e']
  obtain⟨k2,rfl⟩:∃k2,k=k2+1:=⟨k-1,by omega⟩
  rw[vR es'] at h
  cases h
def NT(p:Int)(cs:List aq)(n:Nat)(r:List Int×List vm):Prop:=(bX p cs r.1 n).2=none/\(∀x∈r.1,0<=x/\x<p)/\∀t,r.2.getLast?=some t->t.2.2=(brk p cs r.1:Int)
theorem Sj{p:Int}{cs:List aq}{n:Nat}(hp:0<p)(k:Nat):∀{ws:List Int},brk p cs ws<=k->(∀x∈ws,0<=x/\x<p)->NT p cs n (runC p cs n k ws):=by
  induction k with
  | zero =>
    intro ws hk hw
    rcases qt (p:=p) (cs:=cs) (ws:=ws) (m:=n) hp n (aQ _) with ⟨e1,e2⟩|⟨j,y,hj,e,hlt,y0,y1⟩
    · rw[pW e1]
      exact⟨e1,hw,fun t z=>by simp at z⟩
    · omega
  | succ k ih =>
    intro ws hk hw
    rcases qt (p:=p) (cs:=cs) (ws:=ws) (m:=n) hp n (aQ _) with ⟨e1,e2⟩|⟨j,y,hj,e,hlt,y0,y1⟩
    · rw[pW e1]
      exact⟨e1,hw,fun t z=>by simp at z⟩
    · have es:(bX p cs ws n).2=some ((j:Int),y,(brk p cs (ws.set j y):Int)):=by rw[e]
      have hb:brk p cs (ws.set j y)<=k:=by omega
      have hi:=ih hb fun x hx=>(p9 hx).elim (hw x) fun z=>z▸⟨y0,y1⟩
      have MO:=Qs (n:=n) hp hb
      rw[vR es]
      dsimp only
      rw[eZ]
      obtain⟨i1,i2,i3⟩:=hi
      generalize runC p cs n k (ws.set j y)=r at*
      obtain⟨w1,s1⟩:=r
      refine⟨i1,i2,fun t ht=>?_⟩
      cases s1 with
      | nil =>
        have ht:some ((j:Int),y,(brk p cs (ws.set j y):Int))=some t:=ht
        cases ht
        have:=MO rfl
        dsimp only at this⊢
        rw[this]
      | cons a l =>
        exact i3 t (by rw[List.getLast?_cons_cons] at ht;exact ht)
end L2
set_option maxRecDepth 100000
set_option maxHeartbeats 4000000
namespace L2
open PySem PySem.Spec PyProof.Rows
def lq(q:Int):Prop:=q=2\/q=3\/q=5\/q=7
theorem PK{q d e:Int}(hq:lq q)(h:(d*e)%q=0):d%q=0\/e%q=0:=by
 rw[Int.mul_emod] at h
 rcases hq with rfl|rfl|rfl|rfl
 ·have u0:=dR d (by decide:(2:Int)≠0)
  have v0:=dR e (by decide:(2:Int)≠0)
  have u1:=dQ d (by decide:(0:Int)<2)
  have v1:=dQ e (by decide:(0:Int)<2)
  generalize d%2=u at*;generalize e%2=v at*
  rcases(by omega:u=0\/u=1) with rfl|rfl<;>omega
 ·have u0:=dR d (by decide:(3:Int)≠0)
  have v0:=dR e (by decide:(3:Int)≠0)
  have u1:=dQ d (by decide:(0:Int)<3)
  have v1:=dQ e (by decide:(0:Int)<3)
  generalize d%3=u at*;generalize e%3=v at*
  rcases(by omega:u=0\/u=1\/u=2) with rfl|rfl|rfl<;>omega
 ·have u0:=dR d (by decide:(5:Int)≠0)
  have v0:=dR e (by decide:(5:Int)≠0)
  have u1:=dQ d (by decide:(0:Int)<5)
  have v1:=dQ e (by decide:(0:Int)<5)
  generalize d%5=u at*;generalize e%5=v at*
  rcases(by omega:u=0\/u=1\/u=2\/u=3\/u=4) with rfl|rfl|rfl|rfl|rfl<;>omega
 ·have u0:=dR d (by decide:(7:Int)≠0)
  have v0:=dR e (by decide:(7:Int)≠0)
  have u1:=dQ d (by decide:(0:Int)<7)
  have v1:=dQ e (by decide:(0:Int)<7)
  generalize d%7=u at*;generalize e%7=v at*
  rcases(by omega:u=0\/u=1\/u=2\/u=3\/u=4\/u=5\/u=6) with rfl|rfl|rfl|rfl|rfl|rfl|rfl<;>omega
structure jb(q s c:Int)(r:List Int):Prop where
 s0:0<=s
 s1:s<=q
 c0:0<=c
 c1:c<q
 l:r.length=q.toNat
 e:∀(i:Nat) x,r[i]?=some x->if s=q then x=c*q+i else x=(i:Int)*q+(s*i+c)%q
section
variable{q s c s' c':Int}{r r':List Int}
theorem jb.rise(hq:0<q)(h:jb q s c r):r.Pairwise (· < ·):=kR.mpr fun i j hi hj hij=>by
 have e1:=h.e i _ (aH hi)
 have e2:=h.e j _ (aH hj)
 by_cases k:s=q
 ·rw[if_pos k] at e1 e2;omega
 ·rw[if_neg k] at e1 e2
  have a1:=dQ (s*i+c) hq
  have a2:=dR (s*j+c) (show q≠0 by omega)
  have:=tO (show((i:Int)+1)<=j by omega) (ur hq)
  rw[sE] at this
  omega
theorem jb.mem(hq:0<q)(h:jb q s c r){x:Int}(hx:x∈r):0<=x/\x<q*q/\0<=x/q/\x/q<q/\(if s=q then x/q=c else x%q=(s*(x/q)+c)%q):=by
 obtain⟨i,hi⟩:=fY hx
 have hil:=(aR.mp hi).1
 have hl:=h.l
 have e1:=h.e i x hi
 have hc0:=h.c0;have hc1:=h.c1
 have hmul:∀a:Int,0<=a->a<q->0<=a*q/\a*q+q<=q*q:=fun a h0 h1=>by
  have:=yk h0 (ur hq)
  have:=tO (show a+1<=q by omega) (ur hq)
  rw[sE] at this
  omega
 have hdiv:∀a b:Int,0<=b->b<q->(a*q+b)/q=a/\(a*q+b)%q=b:=fun a b h0 h1=>by
  refine⟨?_,?_⟩
  ·rw[Int.add_comm,Int.add_mul_ediv_right _ _ (by omega),DQ h0 h1];omega
  ·rw[Int.add_comm,Int.add_mul_emod_self_right,jY h0 h1]
 by_cases k:s=q
 ·rw[if_pos k] at e1⊢
  obtain⟨d1,d2⟩:=hdiv c i (by omega) (by omega)
  have:=hmul c hc0 hc1
  rw[e1,d1]
  exact⟨by omega,by omega,by omega,by omega,rfl⟩
 ·rw[if_neg k] at e1⊢
  have a1:=dQ (s*i+c) hq
  have a2:=dR (s*i+c) (show q≠0 by omega)
  obtain⟨d1,d2⟩:=hdiv i ((s*i+c)%q) a2 a1
  have:=hmul i (by omega) (by omega)
  rw[e1,d1,d2]
  exact⟨by omega,by omega,by omega,by omega,rfl⟩
theorem Jm{q a b:Int}(hq:0<q)(h:a%q=b%q):(a-b)%q=0:=o9 (by
 have h1:=w4 a q
 have h2:=w4 b q
 refine⟨a/q-b/q,?_⟩
 rw[pC]
 omega)
theorem jb.meet(hq:lq q)(h:jb q s c r)(h':jb q s' c' r')(hne:¬(s=s'/\c=c')){x y:Int}(hxy:x≠y)(x1:x∈r)(y1:y∈r)(x2:x∈r')(y2:y∈r'):False:=by
 have q0:0<q:=by rcases hq with rfl|rfl|rfl|rfl<;>decide
 obtain⟨_,_,YB,XN,e1⟩:=h.mem q0 x1
 obtain⟨_,_,XR,Yb,e2⟩:=h.mem q0 y1
 obtain⟨_,_,_,_,e3⟩:=h'.mem q0 x2
 obtain⟨_,_,_,_,e4⟩:=h'.mem q0 y2
 have hx:=mz x q
 have hy:=mz y q
 have hc0:=h.c0;have hc1:=h.c1;have Yx:=h'.c0;have YC:=h'.c1
 have hs0:=h.s0;have hs1:=h.s1;have Yv:=h'.s0;have X4:=h'.s1
 have small:∀{d:Int},-q<d->d<q->d%q=0->d=0:=fun{d} d0 d1 dz=>by
  obtain⟨k,hk⟩:=tT dz
  rcases qz k 0 with z|z|z
  ·have:q*k<=q*(-1):=lN (by omega) (by omega)
   omega
  ·rw[z] at hk;omega
  ·have:q*1<=q*k:=lN (by omega) (by omega)
   omega
 by_cases k:s=q
 ·rw[if_pos k] at e1 e2
  by_cases k':s'=q
  ·rw[if_pos k'] at e3
   exact hne ⟨by omega,by omega⟩
  ·rw[if_neg k'] at e3 e4
   have ea:x/q=y/q:=by omega
   rw[ea,<-e4] at e3
   exact hxy (by rw[<-hx,<-hy,ea,e3])
 ·rw[if_neg k] at e1 e2
  by_cases k':s'=q
  ·rw[if_pos k'] at e3 e4
   have ea:x/q=y/q:=by omega
   rw[ea,<-e2] at e1
   exact hxy (by rw[<-hx,<-hy,ea,e1])
  ·rw[if_neg k'] at e3 e4
   have f1:=Jm q0 (e1.symm.trans e3)
   have f2:=Jm q0 (e2.symm.trans e4)
   have f3:((s-s')*(x/q-y/q))%q=0:=by
    obtain⟨u,hu⟩:=tT f1
    obtain⟨v,hv⟩:=tT f2
    exact o9 ⟨u-v,by grind⟩
   rcases PK hq f3 with z|z
   ·have hs:=small (by omega) (by omega) z
    have es:s=s':=by omega
    rw[es,show s'*(x/q)+c-(s'*(x/q)+c')=c-c' by omega] at f1
    have hc:=small (by omega) (by omega) f1
    exact hne ⟨es,by omega⟩
   ·have ha:=small (by omega) (by omega) z
    have ea:x/q=y/q:=by omega
    rw[ea,<-e2] at e1
    exact hxy (by rw[<-hx,<-hy,ea,e1])
structure l7(q:Int)(R:List (List Int))(T:List (Int×Int)):Prop where
 l:R.length=T.length
 nd:T.Nodup
 e:∀(i:Nat) r t,R[i]?=some r->T[i]?=some t->jb q t.1 t.2 r
theorem l7.ap{R:List (List Int)}{T:List (Int×Int)}(hq:lq q)(h:l7 q R T):Ap R:=by
 have q0:0<q:=by rcases hq with rfl|rfl|rfl|rfl<;>decide
 have hat:∀(i:Nat) r,R[i]?=some r->∃t,T[i]?=some t/\jb q t.1 t.2 r:=fun i r e=>by
  have hi:i<T.length:=by have:=(aR.mp e).1;have:=h.l;omega
  exact⟨_,aH hi,h.e i r _ e (aH hi)⟩
 refine(yT fun r hr=>?_).mpr fun c d a b x y hcd ea eb hxy h1 h2 h3 h4=>?_
 ·obtain⟨i,hi⟩:=fY hr
  obtain⟨t,_,hl⟩:=hat i r hi
  exact hl.rise q0
 ·obtain⟨t,et,hl⟩:=hat c a ea
  obtain⟨t',et',hl'⟩:=hat d b eb
  refine hl.meet hq hl' (fun⟨z1,z2⟩=>hcd ?_) hxy h1 h2 h3 h4
  have:t=t':=Prod.ext z1 z2
  subst this
  exact JR h.nd et et'
theorem l7.snoc{R:List (List Int)}{T:List (Int×Int)}(h:l7 q R T)(hr:jb q s c r)(hn:(s,c)∉T):l7 q (R++[r]) (T++[(s,c)]):=by
 refine⟨by rw[bz,bz,h.l];rfl,oH.mpr ⟨h.nd,by simp,fun a ha b hb z=>hn (by rw[aT.mp hb] at z;rw[<-z];exact ha)⟩,fun i a t e1 e2=>?_⟩
 have hl:=h.l
 by_cases k:i<R.length
 ·rw[gu k] at e1
  rw[gu (by omega)] at e2
  exact h.e i a t e1 e2
 ·rw[gK (by omega)] at e1
  rw[gK (by omega)] at e2
  have:i-R.length=0:=by
   have:=(aR.mp e1).1
   simp at this;omega
  rw[this] at e1
  rw[show i-T.length=0 by omega] at e2
  cases e1;cases e2
  exact hr
end
end L2
set_option maxRecDepth 100000
set_option maxHeartbeats 8000000
namespace K56
open PySem L2
def top(i:Nat):Stmt:=PySem.Challenge.pw_fewchecks_k56_whole_calm_at_last.main.body.getD i (.Pass ⟨0,0,0,0⟩)
abbrev yt:Stmt:=top 1
abbrev zY:Stmt:=top 2
abbrev sY:Stmt:=top 4
abbrev Bo:Stmt:=top 5
abbrev vW:Stmt:=top 7
abbrev Cp:Stmt:=top 8
abbrev yo:Stmt:=top 9
abbrev wz:Stmt:=top 10
abbrev B9:Stmt:=top 11
abbrev CC:Stmt:=top 12
abbrev uD:Stmt:=top 14
abbrev yU:Stmt:=top 15
abbrev Co:Stmt:=top 16
abbrev tP:Stmt:=top 17
abbrev zZ:Stmt:=top 18
abbrev r6:Stmt:=top 19
abbrev BR:Stmt:=top 20
abbrev sQ:Stmt:=top 21
abbrev q9:Stmt:=top 22
abbrev tL:Stmt:=top 23
abbrev qJ:Stmt:=top 24
abbrev qV:Stmt:=top 25
abbrev rL:Stmt:=top 26
abbrev rV:Stmt:=top 27
abbrev rm:Stmt:=top 28
abbrev Ay:Stmt:=top 29
abbrev Ao:Stmt:=top 30
abbrev X0:Stmt:=top 31
abbrev uR:Stmt:=top 32
abbrev uU:Stmt:=top 33
abbrev uE:Stmt:=top 34
abbrev Yw:Stmt:=top 35
abbrev XH:Stmt:=top 36
abbrev u9:Stmt:=top 37
abbrev XC:Stmt:=top 38
abbrev Ci:Stmt:=top 39
abbrev xy:Stmt:=top 40
abbrev sM:Stmt:=top 41
abbrev AX:Stmt:=top 42
abbrev vB:Stmt:=top 43
abbrev lH:Stmt:=top 44
local macro_rules| `(tactic|walk_at "d0")=> `(tactic|first|omega|assumption|decide|(unfold Sm at*;omega)|(unfold v5;omega)|(unfold zm;decide)|(unfold zm;omega))
local macro_rules| `(tactic|walk_at "ds")=> `(tactic|((try dsimp only);first|walk_at "d0" |(refine And.intro ?_ ?_<;>walk_at "d0")|(refine Or.inl ?_;walk_at "d0")|(refine Or.inr (And.intro ?_ ?_)<;>walk_at "d0")))
local macro_rules| `(tactic|walk_at "s1")=> `(tactic|with_reducible first
 |refine R.seq ?_|refine R.asg ?_|refine R.setC ?_|refine R.ow ?_|refine R.ret ?_|refine R.next ?_|refine R.c ?_|refine R.op ?_|refine R.test ?_|refine R.bl ?_|refine R.tru ?_
 |refine R.and ?_|refine R.notV ?_|refine R.cb ?_|refine R.call ?_|refine R.nil ?_|refine R.cons ?_
 |refine R.lst ?_|refine R.sl ?_|refine R.V1 ?_|refine R.part ?_|refine R.Mh ?_|refine R.bm ?_|refine R.Pz ?_|refine R.JE ?_|refine R.O7 ?_|refine R.WI ?_|refine R.LG ?_|refine R.rz ?_
 |refine R.iO ?_|refine R.Uj ?_|refine R.Xm ?_|refine R.eqNI ?_|refine R.eqIN ?_|refine R.isI ?_|refine R.HS ?_|refine R.Fo ?_|refine R.bits ?_
 |refine uf ?_|refine E2 ?_|refine R.nilE ?_|refine R.isiII ?_|refine R.isiIB ?_|refine R.Lo ?_|refine R.QK ?_|refine R.iL ?_|refine R.LD ?_|refine R.comp ?_)
local macro_rules| `(tactic|walk_at "st")=> `(tactic|repeat (first
 |walk_at "s1"
 |((with_reducible refine' R.var ?h0 ?_);(case h0=>rfl))
 |((with_reducible refine' R.rI ?h1 ?_);(case h1=>walk_at "ds"))
 |((with_reducible refine' R.zu (o:= .lst []) ?h1 ?_);(case h1=>rfl))
 |((with_reducible refine' R.tZ ?h0 ?h1 ?_);(case h0=>assumption);(case h1=>rfl))
 |((with_reducible refine' R.ixTM ?h0 ?h1 ?_);(case h0=>assumption);(case h1=>rfl))
 |((with_reducible refine' R.Vt ?h1 ?_);(case h1=>rfl))
 |((with_reducible refine' R.setM ?h0 ?h1 ?_);(case h0=>assumption);(case h1=>rfl))
 |((with_reducible refine' R.QV ?h0 ?_);(case h0=>assumption))
 |((with_reducible refine' R.lenL ?h0 ?_);(case h0=>assumption))
 |((with_reducible refine' R.Od ?h0 ?h1 ?_);(case h0=>walk_at "ds");(case h1=>walk_at "ds"))
 |((with_reducible refine' R.SI ?h0 ?_);(case h0=>walk_at "ds"))
 |((with_reducible refine' R.wG ?h0 ?_);(case h0=>assumption))
 |((with_reducible refine' R.HF ?h0 ?_);(case h0=>first|exact R.dT (by omega)|exact R.EW (by omega)|decide))
 |((with_reducible refine' R.Jr ?h0 ?_);(case h0=>first|exact R.dF (by omega)|exact R.Dz (by omega)|decide))
 |(with_reducible refine R.Nm ?_)|(with_reducible refine R.MM ?_)))
local macro_rules| `(tactic|walk_at "fv")=> `(tactic|first|exact Or.inl rfl|exact Or.inr (Or.inl rfl)|exact Or.inr (Or.inr (Or.inl rfl))|exact Or.inr (Or.inr (Or.inr (Or.inl rfl)))|exact Or.inr (Or.inr (Or.inr (Or.inr rfl))))
local macro_rules| `(tactic|walk_at "d1")=> `(tactic|with_reducible first
 |refine Sv.seq ?_|refine Sv.Qn ?_|refine Sv.asg ?_|refine Sv.QA ?_|refine Sv.ow ?_|refine Sv.ret ?_|refine Sv.next ?_|refine Sv.retN ?_
 |refine Ev.int ?_|refine Ev.bl ?_|refine Ev.aL ?_|refine Ev.iO ?_|refine Ev.Qz ?_|refine Ev.rI ?_|refine Ev.rU ?_|refine Ev.eq ?_|refine Ev.ne ?_|refine Ev.is ?_|refine Ev.Ke ?_|refine Ev.EL ?_|refine Ev.Xw ?_|refine Ev.WY ?_
 |refine Ev.UA ?_|refine Ev.orV ?_|refine Ev.notV ?_|refine Ev.MP ?_|refine Tv.test ?_|refine Tv.and ?_|refine Tv.or ?_|refine Tv.not ?_|refine Tv.rz ?_|refine Tv.Nv ?_
 |refine Ev.VG ?_|refine Ev.lst ?_|refine Av.nil ?_|refine Av.cons ?_|refine Av.VP ?_|refine Ov.none ?_|refine Ov.some ?_|refine Ev.min2 ?_|refine Ev.max2 ?_|refine Ev.QS ?_
 |refine R.di ?_|refine R.db ?_|refine R.dl ?_|refine R.dt ?_|refine R.J3 ?_|refine R.J5 ?_|refine R.Ra ?_|refine R.eqni ?_|refine R.eqin ?_|refine R.eqnn ?_|refine R.T5 ?_
 |refine Gv.fK ?_|refine Gv.UK ?_|refine Gv.KD ?_|refine Gv.Tz ?_|refine Gv.pP ?_|refine Gv.NG ?_|refine Gv.Xi ?_|refine uf ?_|refine E2 ?_)
local macro_rules| `(tactic|walk_at "dt")=> `(tactic|repeat (first
 |((with_reducible refine' Sv.retOwn ?h0 ?_);(case h0=>rfl))
 |((with_reducible refine' Sv.IG ?h0 ?_);(case h0=>rfl))
 |walk_at "d1"
 |((with_reducible refine' Ev.var ?h0 ?_);(case h0=>rfl))
 |((with_reducible refine' Ev.draw ?h0 ?_);(case h0=>rfl))
 |((with_reducible refine' Ev.ixOwn ?h0 ?_);(case h0=>rfl))
 |((with_reducible refine' Ev.ME ?h0 ?_);(case h0=>rfl))
 |((with_reducible refine' Ev.listOwn ?h0 ?_);(case h0=>rfl))
 |((with_reducible refine' Ev.slOwn ?h0 ?_);(case h0=>rfl))
 |((with_reducible refine' Sv.append ?h0 ?_);(case h0=>rfl))
 |((with_reducible refine' Sv.IG ?h0 ?_);(case h0=>rfl))
 |((with_reducible refine' Sv.retOwn ?h0 ?_);(case h0=>rfl))
 |((with_reducible refine' Gv.tup ?h0 ?_);(case h0=>rfl))
 |((with_reducible refine' R.at_ ?h0 ?_);(case h0=>first|rfl|assumption))
 |(with_reducible refine Ev.VS ?_)|(with_reducible refine Ev.L6 ?_)|(with_reducible refine Ev.listOf ?_)|(with_reducible refine Ev.sl ?_)|(with_reducible refine Ev.cat ?_)|(with_reducible refine Ev.SJ ?_)
 |((with_reducible refine' Ev.NZ ?h0 ?_);(case h0=>walk_at "fv"))
 |((with_reducible refine' Ev.NV ?h0 ?h1 ?_);(case h0=>walk_at "fv");(case h1=>walk_at "fv"))
 |(with_reducible refine Ev.all ?_)|(with_reducible refine Ev.sum ?_)|(with_reducible refine Ev.zu ?_)
 |((with_reducible refine' R.Kl ?_))
 |((with_reducible refine' R.HF ?h0 ?_);(case h0=>first|exact R.dT (by omega)|exact R.EW (by omega)|rfl))
 |((with_reducible refine' R.Jr ?h0 ?_);(case h0=>first|exact R.dF (by omega)|exact R.Dz (by omega)|exact cC))
 |((with_reducible refine' R.Qq ?h0 ?_);(case h0=>first|walk_at "ds" |exact vS rfl))))
local macro_rules| `(tactic|walk_at "wk")=> `(tactic|repeat (first|exact Wk.nil|apply Wk.no|apply Wk.eq))
section
variable{P:Program}{w:World}{K:PySem.W.Frag}{mg:Str->Option Value}{base:Heap}{f:Addr}{fd:FuncData}
theorem jC:bZ ["p","b","last_rest","last_times","rest","times","quotient","next_rest","next_times"] ["p","b"] (aM yt):=⟨rfl,rfl,rfl,by decide+kernel,rfl,by decide+kernel,by decide+kernel⟩
theorem Su(F:bK K "inverse" "inverse" yt f fd):
  bD P w K mg base bI 1 f fd ["p","b"] AV:=by
 refine F.ok jC (fun vs H Q E h=>?_) (fun cdv A outer s H vs Q E hr h=>?_)
 ·obtain⟨p,b,rfl,hp,hp3,hb,q⟩:=h
  rfl
 obtain⟨p,b,rfl,hp,hp3,hb,q⟩:=h
 refine⟨_,(@ao _ _ _ _ _ (@aB _ _ (2) _ _ _ _ jC.nd rfl (Or.inl rfl) (pv 0) (by rfl) (by first|exact .inl rfl|exact .inr rfl|assumption)) (@ao _ _ _ _ _ (@aB _ _ (3) _ _ _ _ jC.nd rfl (Or.inl rfl) ai (by rfl) (by first|exact .inl rfl|exact .inr rfl|assumption)) (@ao _ _ _ _ _ (@aB _ _ (4) _ _ _ _ jC.nd rfl (Or.inl rfl) (@az _ _ _ _ _ _ _ _ iH (pv 1) (pv 0)) (by rfl) (by first|exact .inl rfl|exact .inr rfl|assumption)) (@ao _ _ _ _ _ (@aB _ _ (5) _ _ _ _ jC.nd rfl (Or.inl rfl) ai (by rfl) (by first|exact .inl rfl|exact .inr rfl|assumption)) (@ao _ _ _ _ _ (@Aw _ _ _ _ _ _ dw (@bA _ _ _ _ _ _ _ _ jD (pv 4) ai (bu _)) (@ao _ _ _ _ _ (@aB _ _ (6) _ _ _ _ jC.nd rfl (Or.inl rfl) (@az _ _ _ _ _ _ _ _ qI (pv 2) (pv 4)) (by rfl) (by first|exact .inl rfl|exact .inr rfl|assumption)) (@ao _ _ _ _ _ (@aB _ _ (7) _ _ _ _ jC.nd rfl (Or.inl rfl) (@az _ _ _ _ _ _ _ _ ic (pv 2) (@az _ _ _ _ _ _ _ _ gm (pv 6) (pv 4))) (by rfl) (by first|exact .inl rfl|exact .inr rfl|assumption)) (@ao _ _ _ _ _ (@aB _ _ (8) _ _ _ _ jC.nd rfl (Or.inl rfl) (@az _ _ _ _ _ _ _ _ ic (pv 3) (@az _ _ _ _ _ _ _ _ gm (pv 6) (pv 5))) (by rfl) (by first|exact .inl rfl|exact .inr rfl|assumption)) (@ao _ _ _ _ _ (@aB _ _ (2) _ _ _ _ jC.nd rfl (Or.inl rfl) (pv 4) (by rfl) (by first|exact .inl rfl|exact .inr rfl|assumption)) (@ao _ _ _ _ _ (@aB _ _ (3) _ _ _ _ jC.nd rfl (Or.inl rfl) (pv 5) (by rfl) (by first|exact .inl rfl|exact .inr rfl|assumption)) (@ao _ _ _ _ _ (@aB _ _ (4) _ _ _ _ jC.nd rfl (Or.inl rfl) (pv 7) (by rfl) (by first|exact .inl rfl|exact .inr rfl|assumption)) (@aA _ _ _ (@aB _ _ (5) _ _ _ _ jC.nd rfl (Or.inl rfl) (pv 8) (by rfl) (by first|exact .inl rfl|exact .inr rfl|assumption)))))))))) (@aA _ _ _ (@aY _ _ _ _ (@az _ _ _ _ _ _ _ _ iH (pv 3) (pv 0))))))))),?_⟩
 have hp2:=hp.1
 walk_at "st"
 refine Mc (fun σ H1=>H1=H/\∃(L lt r t:Int) (x6 x7 x8:Option V),σ=[some (.int p),some (.int b),some (.int L),some (.int lt),some (.int r),some (.int t),x6,x7,x8]/\Eu p b L lt r t) (fun(σ:St) (_:Hp)=>match σ[4]? with|some (some (V.int r))=>r.toNat|_=>0) ⟨rfl,_,_,_,_,_,_,_,rfl,Eu.start hp2⟩ ?_ ?_
 ·rintro σ H1 ⟨rfl,L,lt,r,t,x6,x7,x8,rfl,E⟩
  obtain⟨t1,t2⟩:=E.tb
  have e1:=E.l0
  have e2:=E.r0
  have e3:=E.lp
  have e4:=E.rp
  walk_at "st"
  refine qp (fun c=>?_) (fun c=>?_)
  ·have c:r≠0:=of_decide_eq_true c
   have hr:0<r:=by omega
   have q1:0<=L/r:=uI (by omega) (by omega)
   have q2:L/r<=L:=AF _ (by omega)
   obtain⟨N1,N2⟩:=E.next hr
   walk_at "st"
   refine⟨⟨rfl,_,_,_,_,_,_,_,rfl,N1⟩,?_⟩
   show(L-L/r*r).toNat<r.toNat
   omega
  ·have c:r=0:=by simpa using c
   subst c
   walk_at "st"
   exact q _ (dR _ (by omega)) (dQ _ (by omega)) (E.fin hp hb)
 ·exact fun σ H Q Q' h ⟨v,e,s,k,ek,z⟩=>⟨v,e,s,k,ek,h _ _ z⟩
theorem qZ:bZ ["p","pairs","word","reached","place","factor"] ["p","pairs","word"] (aM zY):=⟨rfl,rfl,rfl,by decide+kernel,rfl,by decide+kernel,by decide+kernel⟩
theorem MV(F:bK K "total" "total" zY f fd):
    bD P w K mg base bI 1 f fd ["p","pairs","word"] CM:=by
  refine F.ok qZ (fun vs H Q E h=>?_) (fun cdv A outer s H vs Q E hr h=>?_)
  · obtain⟨nb,p,va,vc,prs,wd,rfl,hA,hC,hp,h1,h2,q⟩:=h
    rfl
  obtain⟨nb,p,va,vc,prs,wd,rfl,hA,hC,hp,h1,h2,q⟩:=h
  refine⟨_,(@ao _ _ _ _ _ (@aB _ _ (3) _ _ _ _ qZ.nd rfl (Or.inl rfl) ai (by rfl) (by first|exact .inl rfl|exact .inr rfl|assumption)) (@ao _ _ _ _ _ (@dX _ _ _ _ _ _ _ _ dw rfl (@dI _ _ _ _ (pv 1)) (Hh rfl (@cO _ _ _ _ _ (aG (i:=4) qZ.nd rfl (Or.inl rfl)) (@cO _ _ _ _ _ (aG (i:=5) qZ.nd rfl (Or.inl rfl)) i7 (by rfl)) (by rfl))) (@aA _ _ _ (@dB _ _ _ _ _ _ _ _ (@bA _ _ _ _ _ _ _ _ vA (@aD _ _ _ _ _ _ _ bx (pv 2) (pv 4) (fun _ _=>rfl)) mF (bu _)) (@aA _ _ _ (@aB _ _ (3) _ _ _ _ qZ.nd rfl (Or.inl rfl) (@az _ _ _ _ _ _ _ _ iH (@az _ _ _ _ _ _ _ _ cF (pv 3) (@az _ _ _ _ _ _ _ _ gm (pv 5) (@aD _ _ _ _ _ _ _ bx (pv 2) (pv 4) (fun _ _=>rfl)))) (pv 0)) (by rfl) (by first|exact .inl rfl|exact .inr rfl|assumption))) dY)) (by intro _;rfl)) (@aA _ _ _ (@aY _ _ _ _ (pv 3))))),?_⟩
  obtain⟨a,xs,rfl,na,ha,da⟩:=hA.eO
  obtain⟨c,ws,rfl,nc,hc,dc⟩:=hC.eO
  have jv:=da.length
  rw[ak] at jv
  have ew:=Gg dc
  subst ew
  walk_at "st"
  refine R.wG (aV.of ha) ?_
  refine Ij (xs:=xs) (fun i σ H1=>H1=H/\∃(r:Int) (x y:Option V),σ=[some (.int p),some (.ref a),some (.ref c),some (.int r),x,y]/\r=aU (prs.take i) wd%p) ⟨rfl,0,none,none,rfl,by simp[aU]⟩ ?_ ?_ ?_
  · rintro i σ H1 hi ⟨rfl,_⟩
    exact aV.of ha
  · rintro i x σ H1 hx ⟨rfl,r,y,z,rfl,hr⟩
    have hi:i<prs.length:=by have:=(aR.mp hx).1;omega
    obtain⟨x',hx',dx⟩:=da.get (i:=i) (by rw[aS,aH hi];rfl)
    rw[hx] at hx';cases hx'
    obtain⟨t,rfl,nt,ht⟩:=Pn dx
    obtain⟨g1,g2,g3⟩:=h1 _ (gP hi)
    have hk:prs[i].fst.toNat<wd.length:=by omega
    have hat:bF (wd.map tK) prs[i].fst=some (tK wd[prs[i].fst.toNat]):=fS g1 (by rw[aS,aH hk];rfl)
    have xm:gp wd prs[i]=match wd[prs[i].fst.toNat] with|some x=>prs[i].snd*x|none=>0:=by
      unfold gp
      rw[aH hk]
      cases wd[prs[i].fst.toNat]<;>rfl
    have hs2:∀x,wd[prs[i].fst.toNat]=some x->Sm x:=fun x e=>h2 x (by rw[<-e];exact gP hk)
    have hd:=Jq (wd:=wd) hi
    refine R.Sa (gh.of ht) rfl ?_
    walk_at "st"
    refine R.tZ hc hat ?_
    walk_at "st"
    generalize wd[prs[i].fst.toNat]=o at hat xm hs2⊢
    cases o with
    | none =>
      refine R.Fo ?_
      walk_at "st"
      refine⟨rfl,_,_,_,rfl,?_⟩
      rw[hd,xm,hr,Int.add_zero]
    | some x =>
      have K9:=hs2 x rfl
      refine R.HS ?_
      walk_at "st"
      refine R.tZ hc hat ?_
      refine R.rI (Or.inr ⟨g3,K9⟩) ?_
      walk_at "st"
      refine⟨rfl,_,_,_,rfl,?_⟩
      rw[hd,xm,hr,Int.emod_add_emod]
  · rintro σ H1 ⟨rfl,r,x,y,rfl,hr⟩
    walk_at "st"
    rw[jv,gV] at hr
    rw[hr]
    exact q
def zb:DF:=fun ds Φ=>∃(p:Int) (prs:aq) (wd:Wo),ds=[.int p,c9 prs,j3 wd]/\0<p/\pU prs wd.length/\mY wd/\Φ true (gF (nU p prs wd))
theorem K8:cG zb:=by
 intro ds Φ Ψ hm z
 obtain⟨p,prs,wd,e,h1,h2,h3,q⟩:=hm
 exact⟨p,prs,wd,e,h1,h2,h3,z _ _ q⟩
theorem xj:bZ ["p","pairs","word","place","factor"] ["p","pairs","word"] (aM Bo):=⟨rfl,rfl,rfl,by decide+kernel,rfl,by decide+kernel,by decide+kernel⟩
theorem KL(F:bK K "sum_of" "sum_of" Bo f fd)(P6:Callee P w K mg base "total" 1 ["p","pairs","word"] CM):
    bD P w K mg base bI 2 f fd ["p","pairs","word"] (bC 3 zb):=by
  refine F.ok xj (fun vs H Q E h=>h.1) (fun cdv A outer s H vs Q E hr h=>?_)
  obtain⟨nb,ds,Φ,hlive,hds,aC,hF⟩:=iu h
  obtain⟨p,prs,wd,rfl,hp,h1,h2,q⟩:=hF
  refine⟨_,(@ao _ _ _ _ _ (@dX _ _ _ _ _ _ _ _ dw rfl (@dI _ _ _ _ (pv 1)) (@jr _ (K) _ _ _ (2) _ rfl rfl (@cO _ _ _ _ _ (aG (i:=3) xj.nd rfl (Or.inl rfl)) (@cO _ _ _ _ _ (aG (i:=4) xj.nd rfl (Or.inl rfl)) i7 (by rfl)) (by rfl)) (by rfl) (by rfl)) (@aA _ _ _ (@dB _ _ _ _ _ _ _ _ (@bA _ _ _ _ _ _ _ _ QG (@aD _ _ _ _ _ _ (cz K) bx (pv 2) (pv 3) (fun _ _=>rfl)) mF (bu _)) (@aA _ _ _ (@aY _ _ _ _ mF)) dY)) (by intro _;rfl)) (@aA _ _ _ (@aY _ _ _ _ (@aF _ _ _ _ _ _ _ _ _ _ P6 (hr.mono (by decide)) (@aa _ _ _ _ _ (pv 0) (@aa _ _ _ _ _ (pv 1) (@aa _ _ _ _ _ (pv 2) af rfl) rfl) rfl) (by rfl) (by decide) (by rfl) (by rfl))))),?_⟩
  refine Sv.iz hlive hds aC (ρ:=[.d false _, .d false _, .d false _, .no, .no]) rfl ?_
  clear aC hds
  walk_at "dt"
  refine Sv.forL (Ev.var rfl ⟨_,rfl,fun v=>?_⟩)
  refine⟨fun i ρ=>(∃x y,ρ=[.d false (.int p), .d false (c9 prs), .d false (j3 wd),x,y])/\∀pr∈prs.take i,wd[pr.1.toNat]?≠some none,⟨⟨_,_,rfl⟩,by simp⟩,?_,?_⟩
  · rintro i d ρ hd ⟨⟨x,y,rfl⟩,hI⟩
    obtain⟨pr,bq,rfl⟩:=dW hd
    obtain⟨g1,g2,g3⟩:=h1 pr (bh bq)
    obtain⟨o,ho,hat⟩:=JK (xs:=wd) gF g1 g2 rfl
    walk_at "dt"
    rw[Dv]
    cases o with
    | none =>
      walk_at "dt"
      have e:nU p prs wd=none:=if_pos ⟨pr,bh bq,ho⟩
      rw[e] at q
      exact q
    | some z =>
      walk_at "dt"
      refine⟨⟨_,_,rfl⟩,fun Ni h'=>?_⟩
      rw[take_snoc bq] at h'
      rcases cD.mp h' with h'|h'
      · exact hI Ni h'
      · rw[aT.mp h',ho];exact fun z=>by cases z
  · rintro ρ ⟨⟨x,y,rfl⟩,hI⟩
    walk_at "dt"
    refine Ev.total ?_
    walk_at "dt"
    refine⟨p,prs,wd,rfl,hp,h1,h2,?_⟩
    have e:nU p prs wd=some (aU prs wd%p):=if_neg fun⟨pr,h,e⟩=>hI pr (by rw[ak,gV];exact h) e
    rw[e] at q
    exact q
def BN:DF:=fun ds Φ=>∃(p n:Int) (cs:List aq) (wd:Wo),ds=[bW p n cs,j3 wd]/\0<p/\cs.length<=10000/\(∀prs∈cs,pU prs wd.length)/\mY wd/\Φ true (.list (cs.map fun prs=>gF (nU p prs wd)))
theorem Oz:cG BN:=by
 intro ds Φ Ψ hm z
 obtain⟨p,n,cs,wd,e,h1,h2,h3,h4,q⟩:=hm
 exact⟨p,n,cs,wd,e,h1,h2,h3,h4,z _ _ q⟩
theorem Ld:bZ ["net","word"] ["net","word"] (aM sY):=⟨rfl,rfl,rfl,by decide+kernel,rfl,by decide+kernel,by decide+kernel⟩
theorem QB(F:bK K "sums" "sums" sY f fd)(Ur:Callee P w K mg base "sum_of" 2 ["p","pairs","word"] (bC 3 zb)):
  bD P w K mg base bI 3 f fd ["net","word"] (bC 2 BN):=by
 refine F.ok Ld (fun vs H Q E h=>h.1) (fun cdv A outer s H vs Q E hr h=>?_)
 obtain⟨nb,ds,Φ,hlive,hds,aC,hF⟩:=iu h
 obtain⟨p,n,cs,wd,rfl,hp,hl,h1,h2,q⟩:=hF
 refine⟨_,(@aA _ _ _ (@aY _ _ _ _ (fW (bY.of (show dg (aM sY) ["net","word"] _ ["pairs","net","word"] [none,some 0,some 1]=true by decide+kernel)) (@dI _ _ _ _ (@aD _ _ _ _ _ _ (bN K) cA (pv 0) ai (fun _ _=>rfl))) (fun _ _ _ _=>⟨(aG (i:=0) (by show List.Nodup (["pairs","net","word"]:List Str);decide+kernel) rfl (Or.inl rfl)),fM,(@aF _ _ _ _ _ _ _ _ _ _ Ur (hr.mono (by decide)) (@aa _ _ _ _ _ (@aD _ _ _ _ _ _ (bN K) cA (pv 1) ai (fun _ _=>rfl)) (@aa _ _ _ _ _ (pv 0) (@aa _ _ _ _ _ (pv 2) af rfl) rfl) rfl) (by rfl) (by decide) (by rfl) (by rfl))⟩)))),?_⟩
 refine Sv.iz hlive hds aC (ρ:=[.d false _, .d false _]) rfl ?_
 clear aC hds
 walk_at "dt"
 refine au.ev (au.ir (by decide) rfl ?_)
 walk_at "dt"
 refine⟨by rw[ak];exact hl,fun v=>⟨true,fun i ds=>ds=(cs.take i).map fun prs=>gF (nU p prs wd),rfl,?_,?_⟩⟩
 ·rintro i d ds hd hl' rfl
  obtain⟨prs,bR,rfl⟩:=dW hd
  walk_at "dt"
  refine⟨by walk_at "wk",?_⟩
  walk_at "dt"
  refine Ev.c8 K8 ?_
  walk_at "dt"
  refine⟨rfl,p,prs,wd,rfl,hp,h1 prs (bh bR),h2,fun _=>rfl,?_⟩
  show _=List.map _ _
  rw[take_snoc bR,cL]
  rfl
 ·rintro ds hl' rfl
  rw[ak,gV]
  exact q
def AB:DF:=fun ds Φ=>∃(p n:Int) (cs:List aq) (dh:List Int),ds=[bW p n cs, .list (dh.map .int)]/\fX p n cs/\dh.Nodup/\dh.length<=1000/\
 ∀f,Φ f (.dict ((dh.map fun pl=>(pl,PyData.list ((fL p cs pl cs.length).map pairD))).map ck))
theorem Tg:cG AB:=by
 intro ds Φ Ψ hm z
 obtain⟨p,n,cs,dh,e,h1,h2,h3,q⟩:=hm
 exact⟨p,n,cs,dh,e,h1,h2,h3,fun f=>z _ _ (q f)⟩
theorem pG:bZ ["net","places","found","c","pairs","place","factor"] ["net","places"] (aM vW):=⟨rfl,rfl,rfl,by decide+kernel,rfl,by decide+kernel,by decide+kernel⟩
theorem LU(F:bK K "voices" "voices" vW f fd)(WW:Callee P w K mg base "inverse" 1 ["p","b"] AV)(Ct:mg "dict"=none)(o4:mg "enumerate"=none):
  bD P w K mg base bI 2 f fd ["net","places"] (bC 2 AB):=by
 refine F.ok pG (fun vs H Q E h=>h.1) (fun cdv A outer s H vs Q E hr h=>?_)
 obtain⟨nb,ds,Φ,hlive,hds,aC,hF⟩:=iu h
 obtain⟨p,n,cs,dh,rfl,hN,hnd,hpl,q⟩:=hF
 refine⟨_,(@ao _ _ _ _ _ (@aB _ _ (2) _ _ _ _ pG.nd rfl (Or.inl rfl) (@gb _ _ _ _ _ _ _ _ (Bq) (VI rfl) rfl Ct PyProof.Rows.boot_dict (@aa _ _ _ _ _ (fW (bY.of (show dg (aM vW) ["net","places","found","c","pairs","place","factor"] _ ["place"] [none]=true by decide+kernel)) (@dI _ _ _ _ (pv 1)) (fun _ _ _ _=>⟨(aG (i:=0) (by show List.Nodup (["place"]:List Str);decide+kernel) rfl (Or.inl rfl)),fM,(@cK _ _ _ _ _ (@aa _ _ _ _ _ (pv 0) (@aa _ _ _ _ _ (@dU _ _ _ _ af) af rfl) rfl))⟩)) af rfl) (by decide) (by decide) (by rfl) (by rfl)) (by rfl) (by first|exact .inl rfl|exact .inr rfl|assumption)) (@ao _ _ _ _ _ (@dX _ _ _ _ _ _ _ _ dw rfl (@DO _ (K) _ _ _ _ _ _ _ rfl rfl o4 (@aD _ _ _ _ _ _ (bN K) cA (pv 0) ai (fun _ _=>rfl)) (by rfl)) (@jr _ (K) _ _ _ (2) _ rfl rfl (@cO _ _ _ _ _ (aG (i:=3) pG.nd rfl (Or.inl rfl)) (@cO _ _ _ _ _ (aG (i:=4) pG.nd rfl (Or.inl rfl)) i7 (by rfl)) (by rfl)) (by rfl) (by rfl)) (@aA _ _ _ (@dX _ _ _ _ _ _ _ _ dw rfl (@dI _ _ _ _ (pv 4)) (@jr _ (K) _ _ _ (2) _ rfl rfl (@cO _ _ _ _ _ (aG (i:=5) pG.nd rfl (Or.inl rfl)) (@cO _ _ _ _ _ (aG (i:=6) pG.nd rfl (Or.inl rfl)) i7 (by rfl)) (by rfl)) (by rfl) (by rfl)) (@aA _ _ _ (@dB _ _ _ _ _ _ _ _ (@bA _ _ _ _ _ _ _ _ (E9 hr.units) (pv 5) (pv 2) (by with_unfolding_all rfl)) (@aA _ _ _ (@kB _ _ _ _ (iD jO kJ kM jU (@aD _ _ _ _ _ _ (k6) qN (pv 2) (pv 5) (fun _ _=>rfl)) (@aa _ _ _ _ _ (@cK _ _ _ _ _ (@aa _ _ _ _ _ (pv 3) (@aa _ _ _ _ _ (@aF _ _ _ _ _ _ _ _ _ _ WW (hr.mono (by decide)) (@aa _ _ _ _ _ (@aD _ _ _ _ _ _ (bN K) cA (pv 0) ai (fun _ _=>rfl)) (@aa _ _ _ _ _ (pv 6) af rfl) rfl) (by rfl) (by decide) (by rfl) (by rfl)) af rfl) rfl)) af rfl)) (by rfl))) dY)) (by intro _;rfl))) (by intro _;rfl)) (@aA _ _ _ (@aY _ _ _ _ (pv 2))))),?_⟩
 refine Sv.iz hlive hds aC (ρ:=[.d false _, .d false _, .no, .no, .no, .no, .no]) rfl ?_
 clear aC hds
 have p2:=hN.hp.1
 have eU:=hN.eU
 have n0:=hN.n0
 have n1:=hN.n1
 have hcl:=hN.cl
 have kq:(cs.map c9).length=cs.length:=ak ..
 refine Sv.seq ?_
 refine Sv.RC ?_
 walk_at "dt"
 refine⟨dh,rfl,hnd,by omega,fun A2 rows0 hr0=>?_⟩
 refine Sv.seq ?_
 refine Sv.ID ?_
 walk_at "dt"
 refine fun v=>⟨fun i ρ=>∃(rows:List fB) (f2:Bool) (x3 x4 x5 x6:Sl),(rows.map fun r=>(r.1,r.2.2))=(dh.map fun pl=>(pl,(fL p cs pl i).map pairD))/\ρ=[.d false (bW p n cs), .d false (.list (dh.map .int)), .cu (iT A2 f2 rows),x3,x4,x5,x6],⟨rows0,true,_,_,_,_,hr0,rfl⟩,?_,?_⟩
 ·rintro i d ρ ⟨e,he,rfl⟩ ⟨rows,f2,x3,x4,x5,x6,hr,rfl⟩
  obtain⟨prs,bR,rfl⟩:=dW he
  have hil:=(aR.mp bR).1
  obtain⟨g1,g2,g3⟩:=hN.ok prs (bh bR)
  walk_at "dt"
  refine Sv.forL ?_
  walk_at "dt"
  refine fun v=>⟨fun m ρ=>∃(rows:List fB) (f2:Bool) (x5 x6:Sl),(rows.map fun r=>(r.1,r.2.2))=dh.map (jg p cs i (prs.take m))/\ρ=[.d false (bW p n cs), .d false (.list (dh.map .int)), .cu (iT A2 f2 rows), .d true (.int i), .d false (c9 prs),x5,x6],⟨rows,f2,_,_,by rw[hr];exact QY,rfl⟩,?_,?_⟩
  ·rintro m d ρ hd ⟨rows,f2,x5,x6,hr,rfl⟩
   obtain⟨pr,bq,rfl⟩:=dW hd
   have hml:=(aR.mp bq).1
   obtain⟨a0,a1,a2,a3⟩:=g3 pr (bh bq)
   have hkeys:rows.map (·.1)=dh:=by
    have:=congrArg (List.map (·.1)) hr
    rw[dD,dD] at this
    have e1:((fun(x:Int×List PyData)=>x.1)∘fun(r:fB)=>(r.1,r.2.2))=fun(r:fB)=>r.1:=rfl
    have e2:((fun(x:Int×List PyData)=>x.1)∘jg p cs i (prs.take m))=id:=rfl
    rw[e1,e2,uJ] at this
    exact this
   have Ys:∀r∈rows,r.2.2.length<10000:=fun r hr'=>by
    have hm:(r.1,r.2.2)∈rows.map fun r=>(r.1,r.2.2):=jV (f:=fun r:fB=>(r.1,r.2.2)) hr'
    rw[hr] at hm
    obtain⟨pl,_,e⟩:=dN.mp hm
    have:r.2.2=(jg p cs i (prs.take m) pl).2:=by rw[e]
    rw[this]
    unfold jg
    rw[ak,bz]
    have h1:=qH (p:=p) (cs:=cs) (pl:=pl) i
    have h2:∀o,(jS p i o).length<=1:=fun o=>by cases o<;>simp[jS]
    have:=h2 (cT (prs.take m) pl)
    omega
   have hnew:pr.1∉(prs.take m).map (·.1):=fun z=>by
    rw[qB] at z
    obtain⟨j,hj⟩:=fY z
    have WX:j<m:=by have:=(aR.mp hj).1;rw[jd] at this;omega
    rw[qb WX] at hj
    obtain⟨l1,e1⟩:=aR.mp hj
    have l2:m<(prs.map (·.1)).length:=by rw[ak];exact hml
    have:=(qw (h₀:=l1) (h₁:=l2) g1).mp (by rw[e1,qY,(aR.mp bq).2])
    omega
   have hts:=take_snoc bq
   walk_at "dt"
   refine Ev.Q8 rfl ?_
   walk_at "dt"
   by_cases c:pr.1∈rows.map (·.1)
   ·rw[if_pos (by simp[c])]
    have gM:pr.2%p≠0:=by rw[jY (by omega) (by omega)];omega
    refine Sv.Sd rfl ?_
    walk_at "dt"
    refine Ev.inv ?_
    walk_at "dt"
    refine⟨p,pr.2,rfl,hN.hp,eU,gM,fun u u0 u1 hu=>?_⟩
    have eu:u=sol p pr.2 1:=Gd hN.hp gM u0 u1 (by obtain⟨k,hk⟩:=hu;exact⟨k,by rw[qM,hk];omega⟩)
    subst eu
    walk_at "dt"
    refine⟨_,_,_,_,?_,rfl⟩
    rw[hts,Vk hnew,<-hr,Ny]
    rfl
   ·rw[if_neg (by simp[c])]
    walk_at "dt"
    refine⟨rows,f2,_,_,?_,rfl⟩
    rw[hts,WO (by rw[<-hkeys];exact c)]
    exact hr
  ·rintro ρ ⟨rows,f2,x5,x6,hr,rfl⟩
   rw[ak,gV] at hr
   refine⟨rows,f2,_,_,_,_,?_,rfl⟩
   rw[hr]
   apply gn
   intro pl _
   unfold jg
   rw[Cd bR]
 ·rintro ρ ⟨rows,f2,x3,x4,x5,x6,hr,rfl⟩
  rw[kq] at hr
  refine Sv.OV 2 rfl ?_
  walk_at "dt"
  have e:(rows.map fun r=>(r.1,PyData.list r.2.2))=dh.map fun pl=>(pl,PyData.list ((fL p cs pl cs.length).map pairD)):=by
   have:=congrArg (List.map fun q:Int×List PyData=>(q.1,PyData.list q.2)) hr
   rw[dD,dD] at this
   exact this
  rw[e]
  exact q _
def zA:DF:=fun ds Φ=>∃(p n:Int) (cs:List aq),ds=[bW p n cs]/\fX p n cs/\∀f,Φ f (.dict ((oz p cs n.toNat).map ck))
theorem TR:cG zA:=by
 intro ds Φ Ψ hm z
 obtain⟨p,n,cs,e,h1,q⟩:=hm
 exact⟨p,n,cs,e,h1,fun f=>z _ _ (q f)⟩
theorem W8:bZ ["net"] ["net"] (aM Cp):=⟨rfl,rfl,rfl,by decide+kernel,rfl,by decide+kernel,by decide+kernel⟩
theorem Lg(F:bK K "all_voices" "all_voices" Cp f fd)(UR:Callee P w K mg base "voices" 2 ["net","places"] (bC 2 AB))(cE:mg "list"=none)(aO:mg "range"=none):
  bD P w K mg base bI 3 f fd ["net"] (bC 1 zA):=by
 refine F.ok W8 (fun vs H Q E h=>h.1) (fun cdv A outer s H vs Q E hr h=>?_)
 obtain⟨nb,ds,Φ,hlive,hds,aC,hF⟩:=iu h
 obtain⟨p,n,cs,rfl,hN,q⟩:=hF
 refine⟨_,(@aA _ _ _ (@aY _ _ _ _ (@aF _ _ _ _ _ _ _ _ _ _ UR (hr.mono (by decide)) (@aa _ _ _ _ _ (pv 0) (@aa _ _ _ _ _ (@gb _ _ _ _ _ _ _ _ _ (wD rfl) rfl cE ja (@aa _ _ _ _ _ (@gb _ _ _ _ _ _ _ _ _ ux rfl aO vV (@aa _ _ _ _ _ (@aD _ _ _ _ _ _ (bN K) cA (pv 0) ai (fun _ _=>rfl)) af rfl) (by decide) (by decide) (by rfl) (by rfl)) af rfl) (by decide) (by decide) (by rfl) (by rfl)) af rfl) rfl) (by rfl) (by decide) (by rfl) (by rfl)))),?_⟩
 refine Sv.iz hlive hds aC (ρ:=[.d false _]) rfl ?_
 clear aC hds
 have n0:=hN.n0
 have n1:=hN.n1
 walk_at "dt"
 refine Ev.c8 Tg ?_
 walk_at "dt"
 refine au.ev (au.sS ?_)
 walk_at "dt"
 refine⟨rfl,p,n,cs,(List.range n.toNat).map fun(i:Nat)=>(i:Int),?_,hN,?_,by rw[ak,kP];omega,fun f=>q _⟩
 ·show[_,PyData.list _]=[_,PyData.list _]
  have:((List.range n.toNat).map fun(i:Nat)=>(0:Int)+i)=(List.range n.toNat).map fun(i:Nat)=>(i:Int):=gn fun i _=>by omega
  rw[this]
 exact AO.map _ fun a b h z=>h (by omega)
def xJ:DF:=fun ds Φ=>∃(p letter:Int) (vs:List (Int×Int)) (ss:List Int),ds=[.int p, .list (vs.map pairD), .list (ss.map .int), .int letter]/\0<p/\p<10^40/\vs.length<=1000/\(∀q∈vs,0<=q.1/\q.1<ss.length/\0<=q.2/\q.2<p)/\(∀s∈ss,0<=s/\s<p)/\
 ∀ks,kr (vs.map fun q=>(letter-ss.getD q.1.toNat 0*q.2)%p) ks->ks.length<=vs.length->Φ true (.dict (ks.map ck))
theorem Vo:cG xJ:=by
 intro ds Φ Ψ hm z
 obtain⟨p,l,vs,ss,e,h1,h2,h3,h4,h5,q⟩:=hm
 exact⟨p,l,vs,ss,e,h1,h2,h3,h4,h5,fun ks a b=>z _ _ (q ks a b)⟩
theorem sO:bZ ["p","there","reached","letter","counts","c","inverted","voted_for"] ["p","there","reached","letter"] (aM yo):=⟨rfl,rfl,rfl,by decide+kernel,rfl,by decide+kernel,by decide+kernel⟩
theorem SM(F:bK K "counts_of" "counts_of" yo f fd):
  bD P w K mg base bI 1 f fd ["p","there","reached","letter"] (bC 4 xJ):=by
 refine F.ok sO (fun vs H Q E h=>h.1) (fun cdv A outer s H vs Q E hr h=>?_)
 obtain⟨nb,ds,Φ,hlive,hds,aC,hF⟩:=iu h
 obtain⟨p,letter,vs,ss,rfl,p0,eU,hvl,hvs,hss,q⟩:=hF
 refine⟨_,(@ao _ _ _ _ _ (@aB _ _ (4) _ _ _ _ sO.nd rfl (Or.inl rfl) EA (by rfl) (by first|exact .inl rfl|exact .inr rfl|assumption)) (@ao _ _ _ _ _ (@dX _ _ _ _ _ _ _ _ dw rfl (@dI _ _ _ _ (pv 1)) (@jr _ (K) _ _ _ (2) _ rfl rfl (@cO _ _ _ _ _ (aG (i:=5) sO.nd rfl (Or.inl rfl)) (@cO _ _ _ _ _ (aG (i:=6) sO.nd rfl (Or.inl rfl)) i7 (by rfl)) (by rfl)) (by rfl) (by rfl)) (@ao _ _ _ _ _ (@aB _ _ (7) _ _ _ _ sO.nd rfl (Or.inl rfl) (@az _ _ _ _ _ _ _ _ iH (@az _ _ _ _ _ _ _ _ ic (pv 3) (@az _ _ _ _ _ _ _ _ gm (@aD _ _ _ _ _ _ (cz K) bx (pv 2) (pv 5) (fun _ _=>rfl)) (pv 6))) (pv 0)) (by rfl) (by first|exact .inl rfl|exact .inr rfl|assumption)) (@aA _ _ _ (@g7 _ _ _ _ _ _ (@az _ _ _ _ _ _ _ _ cF (iD sV rB wc ug (pv 4) (@aa _ _ _ _ _ (pv 7) (@aa _ _ _ _ _ ai af rfl) rfl)) ai) (ki (pv 4) (pv 7) set_dict) (by rfl) (by rfl) (by rfl)))) (by intro _;rfl)) (@aA _ _ _ (@aY _ _ _ _ (pv 4))))),?_⟩
 refine Sv.iz hlive hds aC (ρ:=[.d false _, .d false _, .d false _, .d false _, .no, .no, .no, .no]) rfl ?_
 clear aC hds
 have Ox:(vs.map pairD).length=vs.length:=ak ..
 refine Sv.seq ?_
 refine Sv.RT (vZ.new ?_)
 intro A4
 refine Sv.seq ?_
 refine Sv.forL ?_
 refine Ev.var rfl ?_
 refine⟨_,rfl,fun v=>⟨fun i ρ=>∃(ks:Ks) (x5 x6 x7:Sl),kr ((vs.take i).map fun q=>(letter-ss.getD q.1.toNat 0*q.2)%p) ks/\ks.length<=i/\ρ=[.d false (.int p), .d false (.list (vs.map pairD)), .d false (.list (ss.map .int)), .d false (.int letter), .cY A4 true ks,x5,x6,x7],⟨[],_,_,_,kr.nil,aQ _,rfl⟩,?_,?_⟩⟩
 ·rintro i d ρ hd ⟨ks,x5,x6,x7,hK,iF,rfl⟩
  obtain⟨qq,hq,rfl⟩:=dW hd
  have hil:=(aR.mp hq).1
  obtain⟨a0,a1,a2,a3⟩:=hvs qq (bh hq)
  have hsl:qq.1.toNat<ss.length:=by omega
  have hat:bF (ss.map PyData.int) qq.1=some (.int (ss.getD qq.1.toNat 0)):=fS a0 (by rw[aS,aH hsl,cM,aH hsl];rfl)
  obtain⟨b0,b1⟩:0<=ss.getD qq.1.toNat 0/\ss.getD qq.1.toNat 0<p:=by
   rw[cM,aH hsl]
   exact hss _ (gP hsl)
  have s1:Sm (ss.getD qq.1.toNat 0):=by unfold Sm;omega
  have s2:Sm qq.2:=by unfold Sm;omega
  generalize gU:(gv _ (oK (cZ 4) _ wB):TS)=tl
  walk_at "dt"
  subst gU
  refine Sv.PL rfl ?_
  walk_at "dt"
  refine Ev.Vn rfl ?_
  walk_at "dt"
  rw[hK.get]
  walk_at "dt"
  refine⟨_,_,_,_,?_,?_,rfl⟩
  ·rw[take_snoc hq,cL]
   exact hK.put _
  ·have:=LS ks ((letter-ss.getD qq.1.toNat 0*qq.2)%p) (.int (((List.map (fun q=>(letter-ss.getD q.1.toNat 0*q.2)%p) (List.take i vs)).count ((letter-ss.getD qq.1.toNat 0*qq.2)%p):Int)+1))
   omega
 ·rintro ρ ⟨ks,x5,x6,x7,hK,iF,rfl⟩
  rw[Ox] at hK iF
  rw[gV] at hK
  refine Sv.WZ 4 rfl ?_
  walk_at "dt"
  exact q ks hK iF
def B7:DF:=fun ds Φ=>∃(ss:List Int),ds=[.list (ss.map .int)]/\ss.length<=9000/\Φ true (.int (ss.countP fun s=>decide (s≠0):Nat))
theorem Pf:cG B7:=by
 intro ds Φ Ψ hm z
 obtain⟨ss,e,h1,q⟩:=hm
 exact⟨ss,e,h1,z _ _ q⟩
theorem Pu:bZ ["reached"] ["reached"] (aM wz):=⟨rfl,rfl,rfl,by decide+kernel,rfl,by decide+kernel,by decide+kernel⟩
theorem Pw(F:bK K "broken_of" "broken_of" wz f fd)(bB:mg "len"=none):
  bD P w K mg base bI 1 f fd ["reached"] (bC 1 B7):=by
 refine F.ok Pu (fun vs H Q E h=>h.1) (fun cdv A outer s H vs Q E hr h=>?_)
 obtain⟨nb,ds,Φ,hlive,hds,aC,hF⟩:=iu h
 obtain⟨ss,rfl,hl,q⟩:=hF
 refine⟨_,(@aA _ _ _ (@aY _ _ _ _ (@bT _ _ _ _ _ _ _ _ (e7 K) gx rfl bB fV (@aa _ _ _ _ _ (fW (bY.of (show dg (aM wz) ["reached"] _ ["number"] [none]=true by decide+kernel)) (@dI _ _ _ _ (pv 0)) (fun _ _ _ _=>⟨(aG (i:=0) (by show List.Nodup (["number"]:List Str);decide+kernel) rfl (Or.inl rfl)),(lF (@bA _ _ _ _ _ _ _ _ jD (pv 0) ai (bu _))),(pv 0)⟩)) af rfl) (by decide) (by decide) (by rfl) (by rfl)))),?_⟩
 refine Sv.iz hlive hds aC (ρ:=[.d false _]) rfl ?_
 clear aC hds
 walk_at "dt"
 refine au.ev (au.ir (by decide) rfl ?_)
 walk_at "dt"
 refine⟨by rw[ak];omega,fun v=>⟨false,fun i ds=>ds.length=(ss.take i).countP fun s=>decide (s≠0),rfl,?_,?_⟩⟩
 ·rintro i d ds hd hl' hds
  obtain⟨s,hs,rfl⟩:=dW hd
  have hts:=take_snoc hs
  walk_at "dt"
  refine⟨by walk_at "wk",?_⟩
  walk_at "dt"
  by_cases c:s=0
  ·rw[if_neg (by simp[c])]
   show ds.length=(ss.take (i+1)).countP _
   rw[hds,hts,uq,vo,if_neg (by simp[c])]
   rfl
  ·rw[if_pos (by simp[c])]
   walk_at "dt"
   show(ds++[_]).length=(ss.take (i+1)).countP _
   rw[bz,fh,hds,hts,uq,vo,if_pos (by simp[c])]
 ·rintro ds hl' hds
  rw[ak,gV] at hds
  refine⟨ds, .inl rfl,?_⟩
  rw[hds]
  walk_at "dt"
  exact q
def pQ:Option (Int×Int×Int)->PyData
 |none=> .none
 |some t=>gW t
def BZ:DF:=fun ds Φ=>∃(p n:Int) (cs:List aq) (ws:List Int),ds=[bW p n cs, .dict ((oz p cs n.toNat).map ck),aJ ws]/\fX p n cs/\cs.length<=62/\ws.length=n.toNat/\(∀x∈ws,0<=x/\x<p)/\Φ true (pQ (bX p cs ws n.toNat).2)
theorem Dy:cG BZ:=by
 intro ds Φ Ψ hm z
 obtain⟨p,n,cs,ws,e,h1,h2,h3,h4,q⟩:=hm
 exact⟨p,n,cs,ws,e,h1,h2,h3,h4,z _ _ q⟩
theorem jE:bZ ["net","found","word","reached","before","fewest","best","place","old","counts","letter","behind"] ["net","found","word"] (aM B9):=⟨rfl,rfl,rfl,by decide+kernel,rfl,by decide+kernel,by decide+kernel⟩
theorem Rj(F:bK K "calming" "calming" B9 f fd)(Rz:Callee P w K mg base "sums" 3 ["net","word"] (bC 2 BN))(PF:Callee P w K mg base "broken_of" 1 ["reached"] (bC 1 B7))(LB:Callee P w K mg base "counts_of" 1 ["p","there","reached","letter"] (bC 4 xJ))(o4:mg "enumerate"=none)(fP:mg "sorted"=none):
  bD P w K mg base bI 4 f fd ["net","found","word"] (bC 3 BZ):=by
 refine F.ok jE (fun vs H Q E h=>h.1) (fun cdv A outer s H vs Q E hr h=>?_)
 obtain⟨nb,ds,Φ,hlive,hds,aC,hF⟩:=iu h
 obtain⟨p,n,cs,ws,rfl,hN,jh,hwl,hws,q⟩:=hF
 refine⟨_,(@ao _ _ _ _ _ (@aB _ _ (3) _ _ _ _ jE.nd rfl (Or.inl rfl) (@aF _ _ _ _ _ _ _ _ _ _ Rz (hr.mono (by decide)) (@aa _ _ _ _ _ (pv 0) (@aa _ _ _ _ _ (pv 2) af rfl) rfl) (by rfl) (by decide) (by rfl) (by rfl)) (by rfl) (by first|exact .inl rfl|exact .inr rfl|assumption)) (@ao _ _ _ _ _ (@aB _ _ (4) _ _ _ _ jE.nd rfl (Or.inl rfl) (@aF _ _ _ _ _ _ _ _ _ _ PF (hr.mono (by decide)) (@aa _ _ _ _ _ (pv 3) af rfl) (by rfl) (by decide) (by rfl) (by rfl)) (by rfl) (by first|exact .inl rfl|exact .inr rfl|assumption)) (@ao _ _ _ _ _ (@aB _ _ (5) _ _ _ _ jE.nd rfl (Or.inl rfl) (pv 4) (by rfl) (by first|exact .inl rfl|exact .inr rfl|assumption)) (@ao _ _ _ _ _ (@aB _ _ (6) _ _ _ _ jE.nd rfl (Or.inl rfl) mF (by rfl) (by first|exact .inl rfl|exact .inr rfl|assumption)) (@ao _ _ _ _ _ (@dX _ _ _ _ _ _ _ _ dw rfl (@DO _ (K) _ _ _ _ _ _ _ rfl rfl o4 (pv 2) (by rfl)) (@jr _ (K) _ _ _ (2) _ rfl rfl (@cO _ _ _ _ _ (aG (i:=7) jE.nd rfl (Or.inl rfl)) (@cO _ _ _ _ _ (aG (i:=8) jE.nd rfl (Or.inl rfl)) i7 (by rfl)) (by rfl)) (by rfl) (by rfl)) (@ao _ _ _ _ _ (@aB _ _ (9) _ _ _ _ jE.nd rfl (Or.inl rfl) (@aF _ _ _ _ _ _ _ _ _ _ LB (hr.mono (by decide)) (@aa _ _ _ _ _ (@aD _ _ _ _ _ _ (bN K) cA (pv 0) ai (fun _ _=>rfl)) (@aa _ _ _ _ _ (@aD _ _ _ _ _ _ (k6) qN (pv 1) (pv 7) (fun _ _=>rfl)) (@aa _ _ _ _ _ (pv 3) (@aa _ _ _ _ _ (pv 8) af rfl) rfl) rfl) rfl) (by rfl) (by decide) (by rfl) (by rfl)) (by rfl) (by first|exact .inl rfl|exact .inr rfl|assumption)) (@aA _ _ _ (@dX _ _ _ _ _ _ _ _ dw rfl (@dI _ _ _ _ (@bT _ _ _ _ _ _ _ _ (rW) (Dh rfl) rfl fP oS (@aa _ _ _ _ _ (pv 9) af rfl) (by decide) (by decide) (by rfl) (by rfl))) (aG (i:=10) jE.nd rfl (Or.inl rfl)) (@ao _ _ _ _ _ (@aB _ _ (11) _ _ _ _ jE.nd rfl (Or.inl rfl) (@az _ _ _ _ _ _ _ _ ic (@az _ _ _ _ _ _ _ _ cF (pv 4) (iD sV rB wc ug (pv 9) (@aa _ _ _ _ _ (pv 8) (@aa _ _ _ _ _ ai af rfl) rfl))) (@aD _ _ _ _ _ _ (k6) qN (pv 9) (pv 10) (fun _ _=>rfl))) (by rfl) (by first|exact .inl rfl|exact .inr rfl|assumption)) (@aA _ _ _ (@dB _ _ _ _ _ _ _ _ (@bA _ _ _ _ _ _ _ _ pM (pv 11) (pv 5) (bu _)) (@ao _ _ _ _ _ (@aB _ _ (5) _ _ _ _ jE.nd rfl (Or.inl rfl) (pv 11) (by rfl) (by first|exact .inl rfl|exact .inr rfl|assumption)) (@aA _ _ _ (@aB _ _ (6) _ _ _ _ jE.nd rfl (Or.inl rfl) (@cK _ _ _ _ _ (@aa _ _ _ _ _ (pv 7) (@aa _ _ _ _ _ (pv 10) (@aa _ _ _ _ _ (pv 11) af rfl) rfl) rfl)) (by rfl) (by first|exact .inl rfl|exact .inr rfl|assumption)))) dY))) (by intro _;rfl)))) (by intro _;rfl)) (@aA _ _ _ (@aY _ _ _ _ (pv 6)))))))),?_⟩
 refine Sv.iz hlive hds aC (ρ:=[.d false _, .d false _, .d false _, .no, .no, .no, .no, .no, .no, .no, .no, .no]) rfl ?_
 clear aC hds
 have p2:=hN.hp.1
 have eU:=hN.eU
 have n0:=hN.n0
 have n1:=hN.n1
 have hcl:=hN.cl
 have lC:(ws.map PyData.int).length=ws.length:=ak ..
 have lQ:aJ ws=j3 (ws.map some):=by show PyData.list _=PyData.list _;rw[dD];rfl
 have AL:∀prs∈cs,pU prs (ws.map some).length:=fun prs bR pr bq=>by
  obtain⟨_,_,g⟩:=hN.ok prs bR
  obtain⟨a0,a1,a2,a3⟩:=g pr bq
  exact⟨a0,by rw[ak];omega,by unfold Sm;omega⟩
 have n9:mY (ws.map some):=fun x hx=>by
  obtain⟨y,hy,e⟩:=dN.mp hx
  cases e
  obtain⟨a0,a1⟩:=hws x hy
  unfold Sm;omega
 have hsl:(iY p cs ws).length=cs.length:=by unfold iY;exact ak ..
 have C0:∀s∈iY p cs ws,0<=s/\s<p:=fun s hs=>by
  unfold iY at hs
  obtain⟨prs,_,rfl⟩:=dN.mp hs
  exact⟨dR _ (by omega),dQ _ (by omega)⟩
 have Kv:(iY p cs ws).countP (fun s=>decide (s≠0))=brk p cs ws:=by unfold iY brk;rw[List.countP_map];rfl
 walk_at "dt"
 refine Ev.c8 Oz ?_
 walk_at "dt"
 refine⟨rfl,p,n,cs,ws.map some,by show[_,_]=_;rw[lQ],by omega,by omega,AL,n9,?_⟩
 rw[VW]
 refine Gv.name ?_
 walk_at "dt"
 refine Ev.c8 Pf ?_
 walk_at "dt"
 refine⟨rfl,_,rfl,by omega,?_⟩
 rw[Kv]
 walk_at "dt"
 refine Sv.ID ?_
 walk_at "dt"
 refine fun v=>⟨fun i ρ=>∃(x7 x8 x9 cP dH:Sl),ρ=[.d false (bW p n cs), .d false (.dict ((oz p cs n.toNat).map ck)), .d false (aJ ws), .d (true||iX [(false,bW p n cs),(false,aJ ws)]) (.list ((iY p cs ws).map .int)), .d true (.int (brk p cs ws)), .d true (.int (bX p cs ws i).1), .d true (pQ (bX p cs ws i).2),x7,x8,x9,cP,dH],⟨_,_,_,_,_,rfl⟩,?_,?_⟩
 ·rintro i d ρ ⟨e,he,rfl⟩ ⟨x7,x8,x9,cP,dH,rfl⟩
  obtain⟨old,hold,rfl⟩:=dW he
  have hil:=(aR.mp hold).1
  have hin:i<n.toNat:=by omega
  have hval:=Qh (p:=p) (cs:=cs) hin
  have hog:ws.getD i 0=old:=by rw[cM,hold];rfl
  have hvl:=qH (p:=p) (cs:=cs) (pl:=(i:Int)) cs.length
  have eL:(fL p cs (i:Int) cs.length).map (fun q=>(old-(iY p cs ws).getD q.1.toNat 0*q.2)%p)=bQ p cs ws (i:Int):=by
   unfold bQ
   apply gn
   intro qq hq
   obtain⟨c,prs,ff,e1,e2,e3,rfl⟩:=Ak (aQ _) hq
   dsimp only
   rw[eZ,eZ,Vm c e2,hog]
  walk_at "dt"
  refine Ev.c8 Vo ?_
  walk_at "dt"
  refine Ev.tN ?_
  walk_at "dt"
  refine⟨_,rfl,?_⟩
  walk_at "dt"
  refine⟨_,hval,?_⟩
  walk_at "dt"
  refine⟨rfl,p,old,fL p cs (i:Int) cs.length,iY p cs ws,rfl,by omega,eU,by omega,fun qq hq=>?_,C0,fun ks hK iF=>?_⟩
  ·obtain⟨c,prs,ff,e1,e2,e3,rfl⟩:=Ak (aQ _) hq
   have hr:=vI (p:=p) (b:=ff) (a:=1) (by omega)
   exact⟨by show(0:Int)<=c;omega,by show(c:Int)<_;omega,hr.1,hr.2⟩
  rw[eL] at hK
  have HW:=hK.get old
  obtain⟨ms,nd,hm,rfl⟩:=id hK
  rw[ak] at iF
  obtain⟨VL,we⟩:∃VL,bQ p cs ws (i:Int)=VL:=⟨_,rfl⟩
  have mK:=fun x x0 x1=>yg (p:=p) (cs:=cs) (ws:=ws) (pl:=i) (x:=x) hN.hp (fun prs bR=>by rw[hwl];exact hN.ok prs bR) hil hws x0 x1
  have T6:∀x∈VL,0<=x/\x<p:=by rw[<-we];exact tY (by omega)
  rw[hog] at mK
  rw[we] at hm mK HW
  simp only[we]
  refine Gv.name ?_
  refine Sv.forL ?_
  refine au.ev (au.Cy ?_)
  walk_at "dt"
  refine⟨_,rfl,by rw[ak];omega,fun rs hrs gM=>?_⟩
  rw[dD,show((fun(x:Int×PyData)=>x.1)∘fun c=>(c,PyData.int (VL.count c)))=id from rfl,uJ] at gM
  have hrnd:rs.Nodup:=gM.nodup_iff.mpr nd
  have Tp:rs.Pairwise (· < ·):=(hrs.and hrnd).imp fun⟨x,y⟩=>by omega
  have Qp:rs=lR p cs ws i:=w5 Tp fun k=>by rw[gM.mem_iff,hm k,we]
  have hrm:(rs.map PyData.int).length=rs.length:=ak ..
  refine⟨_,rfl,fun v=>⟨fun j ρ=>∃(cP dH:Sl),ρ=[.d false (bW p n cs), .d false (.dict ((oz p cs n.toNat).map ck)), .d false (aJ ws), .d (true||iX [(false,bW p n cs),(false,aJ ws)]) (.list ((iY p cs ws).map .int)), .d true (.int (brk p cs ws)), .d true (.int (eV p cs ws i (bX p cs ws i) (rs.take j)).1), .d true (pQ (eV p cs ws i (bX p cs ws i) (rs.take j)).2), .d true (.int i), .d true (.int old), .d true (.dict ((ms.map fun c=>(c,PyData.int (VL.count c))).map ck)),cP,dH],⟨_,_,rfl⟩,?_,?_⟩⟩
  ·rintro j d ρ hd ⟨cP,dH,rfl⟩
   obtain⟨x,hx,rfl⟩:=dW hd
   have rC:x∈ms:=gM.mem_iff.mp (bh hx)
   obtain⟨x0,x1⟩:=T6 x ((hm x).mp rC)
   have hpx:=mK x x0 x1
   have hts:=take_snoc hx
   have hst:eV p cs ws i (bX p cs ws i) (rs.take (j+1))=fE p cs ws i (eV p cs ws i (bX p cs ws i) (rs.take j)) x:=by rw[hts,Hw]
   obtain⟨S,hS⟩:∃S,eV p cs ws i (bX p cs ws i) (rs.take j)=S:=⟨_,rfl⟩
   rw[hS] at hst⊢
   have TQ:(brk p cs ws:Int)+VL.count old-VL.count x=brk p cs (ws.set i x):=hpx.symm
   refine Gv.fK ?_
   walk_at "dt"
   refine Ev.Ft ?_
   walk_at "dt"
   refine⟨_,rfl,?_⟩
   walk_at "dt"
   rw[HW]
   walk_at "dt"
   refine Ev.tN ?_
   walk_at "dt"
   refine⟨_,rfl,?_⟩
   walk_at "dt"
   refine⟨_,by rw[uP,if_pos rC],?_⟩
   walk_at "dt"
   rw[TQ]
   walk_at "dt"
   by_cases c:(brk p cs (ws.set i x):Int)<S.1
   ·rw[if_pos (by simpa using c)]
    generalize gU:(gv (oF _) (eN 6):TS)=tl
    walk_at "dt"
    subst gU
    refine Sv.asg ?_
    generalize UX:(eN 6:TG)=g6
    walk_at "dt"
    subst UX
    refine Gv.name ?_
    refine⟨.d true (.int x), .d true (.int (brk p cs (ws.set i x))),?_⟩
    rw[hst]
    unfold fE
    rw[if_pos c]
    rfl
   ·rw[if_neg (by simpa using c)]
    walk_at "dt"
    refine⟨.d true (.int x), .d true (.int (brk p cs (ws.set i x))),?_⟩
    rw[hst]
    unfold fE
    rw[if_neg c]
    rfl
  ·rintro ρ ⟨cP,dH,rfl⟩
   rw[hrm,gV]
   have hts:eV p cs ws i (bX p cs ws i) rs=bX p cs ws (i+1):=by rw[oX,<-Qp]
   rw[hts]
   exact⟨_,_,_,_,_,rfl⟩
 ·rintro ρ ⟨x7,x8,x9,cP,dH,rfl⟩
  rw[lC,hwl]
  walk_at "dt"
  exact q
def wm:DF:=fun ds Φ=>∃(p n:Int) (cs:List aq) (ws:List Int),ds=[bW p n cs,aJ ws]/\fX p n cs/\cs.length<=62/\ws.length=n.toNat/\(∀x∈ws,0<=x/\x<p)/\Φ true (.tuple [aJ (runC p cs n.toNat cs.length ws).1, .list ((runC p cs n.toNat cs.length ws).2.map gW)])
theorem JY:cG wm:=by
 intro ds Φ Ψ hm z
 obtain⟨p,n,cs,ws,e,h1,h2,h3,h4,q⟩:=hm
 exact⟨p,n,cs,ws,e,h1,h2,h3,h4,z _ _ q⟩
theorem Uz(o:Option (Int×Int×Int)):pH (pQ o)=o.isNone:=by cases o<;>rfl
theorem qi:bZ ["net","word","found","told","steps","step"] ["net","word"] (aM CC):=⟨rfl,rfl,rfl,by decide+kernel,rfl,by decide+kernel,by decide+kernel⟩
theorem RX(F:bK K "calmed" "calmed" CC f fd)(O4:Callee P w K mg base "all_voices" 3 ["net"] (bC 1 zA))(D3:Callee P w K mg base "calming" 4 ["net","found","word"] (bC 3 BZ))(cE:mg "list"=none):
  bD P w K mg base bI 5 f fd ["net","word"] (bC 2 wm):=by
 refine F.ok qi (fun vs H Q E h=>h.1) (fun cdv A outer s H vs Q E hr h=>?_)
 obtain⟨nb,ds,Φ,hlive,hds,aC,hF⟩:=iu h
 obtain⟨p,n,cs,ws,rfl,hN,jh,hwl,hws,q⟩:=hF
 refine⟨_,(@ao _ _ _ _ _ (@aB _ _ (2) _ _ _ _ qi.nd rfl (Or.inl rfl) (@aF _ _ _ _ _ _ _ _ _ _ O4 (hr.mono (by decide)) (@aa _ _ _ _ _ (pv 0) af rfl) (by rfl) (by decide) (by rfl) (by rfl)) (by rfl) (by first|exact .inl rfl|exact .inr rfl|assumption)) (@ao _ _ _ _ _ (@aB _ _ (3) _ _ _ _ qi.nd rfl (Or.inl rfl) (@gb _ _ _ _ _ _ _ _ (lK K) qm rfl cE ja (@aa _ _ _ _ _ (pv 1) af rfl) (by decide) (by decide) (by rfl) (by rfl)) (by rfl) (by first|exact .inl rfl|exact .inr rfl|assumption)) (@ao _ _ _ _ _ (@aB _ _ (4) _ _ _ _ qi.nd rfl (Or.inl rfl) (@dU _ _ _ _ af) (by rfl) (by first|exact .inl rfl|exact .inr rfl|assumption)) (@ao _ _ _ _ _ (@aB _ _ (5) _ _ _ _ qi.nd rfl (Or.inl rfl) (@aF _ _ _ _ _ _ _ _ _ _ D3 (hr.mono (by decide)) (@aa _ _ _ _ _ (pv 0) (@aa _ _ _ _ _ (pv 2) (@aa _ _ _ _ _ (pv 3) af rfl) rfl) rfl) (by rfl) (by decide) (by rfl) (by rfl)) (by rfl) (by first|exact .inl rfl|exact .inr rfl|assumption)) (@ao _ _ _ _ _ (@Aw _ _ _ _ _ _ dw (@bA _ _ _ _ _ _ _ _ vA (pv 5) mF (bu _)) (@ao _ _ _ _ _ (@g7 _ _ _ _ _ _ (@aD _ _ _ _ _ _ (bN K) cA (pv 5) ai (fun _ _=>rfl)) (ki (pv 3) (@aD _ _ _ _ _ _ (bN K) cA (pv 5) ai (fun _ _=>rfl)) set_list) (by rfl) (by rfl) (by rfl)) (@ao _ _ _ _ _ (@kB _ _ _ _ (iD jO kJ kM jU (pv 4) (@aa _ _ _ _ _ (pv 5) af rfl)) (by rfl)) (@aA _ _ _ (@aB _ _ (5) _ _ _ _ qi.nd rfl (Or.inl rfl) (@aF _ _ _ _ _ _ _ _ _ _ D3 (hr.mono (by decide)) (@aa _ _ _ _ _ (pv 0) (@aa _ _ _ _ _ (pv 2) (@aa _ _ _ _ _ (pv 3) af rfl) rfl) rfl) (by rfl) (by decide) (by rfl) (by rfl)) (by rfl) (by first|exact .inl rfl|exact .inr rfl|assumption)))))) (@aA _ _ _ (@aY _ _ _ _ (@cK _ _ _ _ _ (@aa _ _ _ _ _ (pv 3) (@aa _ _ _ _ _ (pv 4) af rfl) rfl))))))))),?_⟩
 refine Sv.iz hlive hds aC (ρ:=[.d false _, .d false _, .no, .no, .no, .no]) rfl ?_
 clear aC hds
 have p2:=hN.hp.1
 have n0:=hN.n0
 have n1:=hN.n1
 walk_at "dt"
 refine Ev.c8 TR ?_
 walk_at "dt"
 refine⟨rfl,p,n,cs,rfl,hN,fun f0=>?_⟩
 refine Gv.pP ?_
 refine Sv.seq ?_
 refine Sv.pN (au.listOf ?_)
 walk_at "dt"
 intro A3
 rw[zE,vH]
 walk_at "dt"
 intro A4
 refine Sv.seq ?_
 refine Sv.asg ?_
 refine Ev.Bb ?_
 refine je.yu 3 rfl ?_
 refine je.c8 Dy ?_
 walk_at "dt"
 refine⟨rfl,p,n,cs,ws,rfl,hN,jh,hwl,hws,rfl,?_⟩
 refine Gv.name ?_
 refine Sv.seq ?_
 obtain⟨wf,hwf⟩:∃wf,(runC p cs n.toNat cs.length ws).1=wf:=⟨_,rfl⟩
 obtain⟨sf,jZ⟩:∃sf,(runC p cs n.toNat cs.length ws).2=sf:=⟨_,rfl⟩
 rw[hwf,jZ] at q
 refine Sv.JI (fun ρ=>∃(w:List Int) (st:List (Int×Int×Int)) (k:Nat),w.length=n.toNat/\(∀x∈w,0<=x/\x<p)/\brk p cs w<=k/\(runC p cs n.toNat k w).1=wf/\st++(runC p cs n.toNat k w).2=sf/\st.length+k<=cs.length/\ρ=[.d false (bW p n cs), .d false (aJ ws), .d false (.dict ((oz p cs n.toNat).map ck)), .own A3 true (w.map .int), .own A4 true (st.map gW), .d true (pQ (bX p cs w n.toNat).2)]) (fun(ρ:Rh)=>match ρ[4]? with|some (Sl.own _ _ ds)=>cs.length-ds.length|_=>0) ⟨ws,[],cs.length,hwl,hws,En,hwf,jZ,by simp,rfl⟩ ?_
 rintro ρ' ⟨w,st,k,hl,hr,hbk,h1,h2,h3,rfl⟩
 walk_at "dt"
 rw[Uz]
 rcases qt (p:=p) (cs:=cs) (ws:=w) (m:=n.toNat) (by omega) n.toNat (aQ _) with ⟨e1,e2⟩|⟨j,y,hj,e,hlt,y0,y1⟩
 ·rw[e1]
  rw[pW e1] at h1 h2
  rw[iG] at h2
  subst h1 h2
  rw[if_neg (by decide)]
  refine Sv.jz 3 rfl ?_
  refine Sv.jz 4 rfl ?_
  walk_at "dt"
  exact q
 ·have es:(bX p cs w n.toNat).2=some ((j:Int),y,(brk p cs (w.set j y):Int)):=by rw[e]
  obtain⟨k',rfl⟩:∃k',k=k'+1:=⟨k-1,by omega⟩
  rw[vR es] at h1 h2
  dsimp only at h1 h2
  rw[eZ] at h1 h2
  rw[es]
  have hix:eW (w.map PyData.int).length (j:Int)=some j:=by
   unfold eW
   rw[ak]
   repeat (first|rw[if_pos (by omega)]|rw[if_neg (by omega)])
   simp
  walk_at "dt"
  rw[show pQ (some ((j:Int),y,(brk p cs (w.set j y):Int)))=gW ((j:Int),y,(brk p cs (w.set j y):Int)) from rfl]
  generalize gU:(jA (nN _) _:TS)=tl
  walk_at "dt"
  refine⟨_,_,rfl,hix,?_⟩
  subst gU
  rw[<-qP]
  have hl2:(w.set j y).length=n.toNat:=by rw[gC];exact hl
  have hr2:∀x∈w.set j y,0<=x/\x<p:=fun x hx=>by
   rcases p9 hx with z|z
   ·exact hr x z
   ·rw[z];exact⟨y0,y1⟩
  refine Sv.seq ?_
  refine Sv.append rfl ?_
  refine Ev.var rfl ?_
  refine⟨by rw[ak];omega,?_⟩
  refine Sv.asg ?_
  refine Ev.Bb ?_
  refine je.yu 3 rfl ?_
  refine je.c8 Dy ?_
  walk_at "dt"
  refine⟨rfl,p,n,cs,w.set j y,rfl,hN,jh,hl2,hr2,rfl,?_⟩
  refine Gv.name ?_
  refine⟨⟨w.set j y,st++[((j:Int),y,(brk p cs (w.set j y):Int))],k',hl2,hr2,by omega,h1,by rw[mO];exact h2,by rw[bz,fh];omega,by rw[cL];rfl⟩,?_⟩
  show cs.length-(List.map gW st++[_]).length<cs.length-(List.map gW st).length
  rw[bz,fh,ak]
  omega
theorem ud:bZ ["script","stir","cell"] ["script"] (aM uD):=⟨rfl,rfl,rfl,by decide+kernel,rfl,by decide+kernel,by decide+kernel⟩
theorem S8(F:bK K "_law_bag" "_law_bag" uD f fd)(ym:mg "abs"=none):
  bD P w K mg base bI 1 f fd ["script"] (DL K):=by
 refine F.ok ud (fun vs H Q E h=>?_) (fun cdv A outer s H vs Q E hr h=>?_)
 ·obtain⟨a,ns,rfl,hS,hl,q⟩:=h
  rfl
 obtain⟨a,ns,rfl,hS,hl,q⟩:=h
 refine⟨_,(@ao _ _ _ _ _ (@aB _ _ (1) _ _ _ _ ud.nd rfl (Or.inl rfl) ai (by rfl) (by first|exact .inl rfl|exact .inr rfl|assumption)) (@ao _ _ _ _ _ (@dX _ _ _ _ _ _ _ _ dw rfl (@dI _ _ _ _ (@ia _ _ _ _ _ _ _ _ _ _ iB (pv 0) g8 (@iy _ _ _ ai))) (aG (i:=2) ud.nd rfl (Or.inl rfl)) (@aA _ _ _ (@aB _ _ (1) _ _ _ _ ud.nd rfl (Or.inl rfl) (@az _ _ _ _ _ _ _ _ iH (@az _ _ _ _ _ _ _ _ cF (@az _ _ _ _ _ _ _ _ cF (@az _ _ _ _ _ _ _ _ gm (pv 1) ai) (@az _ _ _ _ _ _ _ _ iH (pv 2) ai)) ai) ai) (by rfl) (by first|exact .inl rfl|exact .inr rfl|assumption))) (by intro _;rfl)) (@aA _ _ _ (@aY _ _ _ _ (@dU _ _ _ _ (@aa _ _ _ _ _ (fW (bY.of (show dg (aM uD) ["script","stir","cell"] _ ["cell"] [none]=true by decide+kernel)) (@dI _ _ _ _ (@ia _ _ _ _ _ _ _ _ _ _ iB (pv 0) g8 (@iy _ _ _ ai))) (fun _ _ _ _=>⟨(aG (i:=0) (by show List.Nodup (["cell"]:List Str);decide+kernel) rfl (Or.inl rfl)),fM,(@az _ _ _ _ _ _ _ _ iH (@bT _ _ _ _ _ _ _ _ _ P8 rfl ym PyProof.Rows.boot_abs (@aa _ _ _ _ _ (pv 0) af rfl) (by decide) (by decide) (by rfl) (by rfl)) (@az _ _ _ _ _ _ _ _ GP ai ai))⟩)) (@aa _ _ _ _ _ ai (@aa _ _ _ _ _ ai (@aa _ _ _ _ _ (pv 1) (@aa _ _ _ _ _ ai af rfl) rfl) rfl) rfl) rfl)))))),?_⟩
 have tG:lY (ns.map V.int) none (some 63)=ns.map V.int:=by
  have e:(ns.map V.int).length=ns.length:=ak _
  show List.take (min 63 (ns.map V.int).length-0) (List.drop 0 (ns.map V.int))=_
  rw[Bd]
  exact Cv (by omega)
 walk_at "st"
 refine R.JC hS fun c hc=>?_
 rw[tG]
 refine R.wG (aV.of bf) ?_
 refine Ij (xs:=ns.map V.int) (fun i σ H1=>∃(st:Int) (x:Option V),σ=[some (.ref a),some (.int st),x]/\0<=st/\st<2147483647/\H1=upd H c (.lst (ns.map V.int))) ⟨19,none,rfl,by omega,by omega,rfl⟩ ?_ ?_ ?_
 ·rintro i σ H1 hi ⟨st,x,rfl,h1,h2,rfl⟩
  exact aV.of bf
 ·rintro i x σ H1 hx ⟨st,y,rfl,h1,h2,rfl⟩
  rw[aS] at hx
  obtain⟨n,_,rfl⟩:=jw.mp hx
  walk_at "st"
  exact⟨_,_,rfl,dR _ (by decide),dQ _ (by decide),rfl⟩
 ·rintro σ H1 ⟨st,x,rfl,h1,h2,rfl⟩
  walk_at "st"
  refine R.JC ((dG hc).seq hS) fun c2 hc2=>?_
  rw[tG]
  refine R.wG (aV.of bf) ?_
  intro acc hacc
  refine R.AA (xs:=ns.map V.int) (fun i σ H2=>∃(x:Option V),σ=[x]/\H2=upd (upd (upd H c (.lst (ns.map V.int))) c2 (.lst (ns.map V.int))) acc (.lst (((ns.take i).map fun n=>(if n<0 then-n else n)%10^60).map V.int))) ⟨none,rfl,rfl⟩ ?_ ?_ ?_
  ·rintro i σ H1 hi ⟨x,rfl,rfl⟩
   refine aV.of ?_
   rw[aK (iZ bf hacc)]
   exact bf
  ·rintro i x σ H1 hx ⟨y,rfl,rfl⟩
   rw[aS] at hx
   obtain⟨n,hn,rfl⟩:=jw.mp hx
   walk_at "st"
   refine⟨_,bf,?_,_,rfl,?_⟩
   ·rw[ak,ak,jd]
    exact Ej (by omega)
   ·rw[yW,zq,hn,cL,cL]
    rfl
  ·rintro σ H1 ⟨x,rfl,rfl⟩
   walk_at "st"
   refine(show zC _ _ _ from⟨by show 5<=sizeLine;decide,fun p hp=>?_⟩)
   have hn1:=iZ (bf (H:=upd (upd H c (.lst (ns.map V.int))) c2 (.lst (ns.map V.int))) (a:=acc)) hp
   have s1:dO H (upd (upd (upd H c (.lst (ns.map V.int))) c2 (.lst (ns.map V.int))) acc (.lst (((ns.take (ns.map V.int).length).map fun n=>(if n<0 then-n else n)%10^60).map V.int))):=(dG hc).trans ((dG hc2).trans (dG hacc))
   refine q p acc _ (s1.trans (dG hp)) (s1.free hp) ⟨_,0,0,st,0,bf,by rw[aK hn1];exact bf,?_,?_,by omega,by omega,by omega,h1,h2⟩
   ·intro y hy
    obtain⟨z,_,rfl⟩:=dN.mp hy
    exact⟨dR _ (by decide),dQ _ (by decide)⟩
   ·rw[ak,jd]
    omega
theorem ue:bZ ["bag","many","found","k"] ["bag","many"] (aM yU):=⟨rfl,rfl,rfl,by decide+kernel,rfl,by decide+kernel,by decide+kernel⟩
theorem Wi(F:bK K "_law_stirred" "_law_stirred" yU f fd)(aO:mg "range"=none):
  bD P w K mg base bI 1 f fd ["bag","many"] ig:=by
 refine F.ok ue (fun vs H Q E h=>?_) (fun cdv A outer s H vs Q E hr h=>?_)
 ·obtain⟨b,l,many,rfl,hB,hm,hs,q⟩:=h
  rfl
 obtain⟨b,l,many,rfl,hB,hm,hs,q⟩:=h
 refine⟨_,(@ao _ _ _ _ _ (@aB _ _ (2) _ _ _ _ ue.nd rfl (Or.inl rfl) ai (by rfl) (by first|exact .inl rfl|exact .inr rfl|assumption)) (@ao _ _ _ _ _ (@dX _ _ _ _ _ _ _ _ dw rfl (@eX _ _ _ _ _ _ rfl aO (@aa _ _ _ _ _ (@az _ _ _ _ _ _ _ _ cF ai (@az _ _ _ _ _ _ _ _ qI (PX PySem.F.plainAttrs_int PySem.F.slot_int_bit_length PySem.F.type_int_bit_length UD (pv 1)) ai)) af rfl) (by rfl)) (aG (i:=3) ue.nd rfl (Or.inl rfl)) (@ao _ _ _ _ _ (@g7 _ _ _ _ _ _ (@az _ _ _ _ _ _ _ _ cF (@aD _ _ _ _ _ _ _ bx (pv 0) ai (fun _ _=>rfl)) ai) (ki (pv 0) ai set_list) (by rfl) (by rfl) (by rfl)) (@ao _ _ _ _ _ (@g7 _ _ _ _ _ _ (@az _ _ _ _ _ _ _ _ iH (@az _ _ _ _ _ _ _ _ cF (@az _ _ _ _ _ _ _ _ cF (@az _ _ _ _ _ _ _ _ cF (@az _ _ _ _ _ _ _ _ GP (@aD _ _ _ _ _ _ _ bx (pv 0) ai (fun _ _=>rfl)) ai) (@az _ _ _ _ _ _ _ _ gm ai (@aD _ _ _ _ _ _ _ bx (pv 0) ai (fun _ _=>rfl)))) (@az _ _ _ _ _ _ _ _ gm ai (@aD _ _ _ _ _ _ _ bx (pv 0) ai (fun _ _=>rfl)))) ai) ai) (ki (pv 0) ai set_list) (by rfl) (by rfl) (by rfl)) (@aA _ _ _ (@aB _ _ (2) _ _ _ _ ue.nd rfl (Or.inl rfl) (@az _ _ _ _ _ _ _ _ cF (@az _ _ _ _ _ _ _ _ gm (pv 2) ai) (@az _ _ _ _ _ _ _ _ qI (@aD _ _ _ _ _ _ _ bx (pv 0) ai (fun _ _=>rfl)) ai)) (by rfl) (by first|exact .inl rfl|exact .inr rfl|assumption))))) (by intro _;rfl)) (@aA _ _ _ (@aY _ _ _ _ (@az _ _ _ _ _ _ _ _ iH (pv 2) (pv 1)))))),?_⟩
 have YL:=Bv hs
 walk_at "st"
 refine w6 (fun i σ H1=>∃(fv:Int) (x:Option V),σ=[some (.ref b),some (.int many),some (.int fv),x]/\aX (Nb b) H H1/\cV H1 b l) ⟨0,none,rfl,aX.refl _ _,hB⟩ ?_ ?_
 ·rintro i σ H1 hi ⟨fv,x,rfl,bt,ns,j,c,st,n,h1,h2,h3,h4,h5,h6,h7,h8,h9⟩
  have hlb:=Gf h1 h2
  walk_at "st"
  refine⟨_,_,rfl,bt.trans (aX.set rfl),?_⟩
  exact cV.put hlb h2 h3 h4 h5 h6 h7 (dR _ (by decide)) (dQ _ (by decide))
 ·rintro σ H1 ⟨fv,x,rfl,bt,B⟩
  walk_at "st"
  exact q _ _ (dR _ (by omega)) (dQ _ hm) bt B
theorem FJ:bZ ["bag","many","found"] ["bag","many"] (aM Co):=⟨rfl,rfl,rfl,by decide+kernel,rfl,by decide+kernel,by decide+kernel⟩
theorem OP(F:bK K "_law_draw" "_law_draw" Co f fd)(Rf:Callee P w K mg base "_law_stirred" 1 ["bag","many"] ig)(bB:mg "len"=none):
  bD P w K mg base bI 2 f fd ["bag","many"] ig:=by
 refine F.ok FJ (fun vs H Q E h=>?_) (fun cdv A outer s H vs Q E hr h=>?_)
 ·obtain⟨b,l,many,rfl,hB,hm,hs,q⟩:=h
  rfl
 obtain⟨b,l,many,rfl,hB,hm,hs,q⟩:=h
 refine⟨_,(@ao _ _ _ _ _ (@dB _ _ _ _ _ _ _ _ (PW.pt (oE (@bA _ _ _ _ _ _ _ _ iR (@aD _ _ _ _ _ _ _ bx (pv 0) ai (fun _ _=>rfl)) ai (bu _)) (nI (@bA _ _ _ _ _ _ _ _ pM (@aD _ _ _ _ _ _ _ bx (pv 0) ai (fun _ _=>rfl)) (@bT _ _ _ _ _ _ _ _ _ DS rfl bB fV (@aa _ _ _ _ _ (@aD _ _ _ _ _ _ _ bx (pv 0) ai (fun _ _=>rfl)) af rfl) (by decide) (by decide) (by rfl) (by rfl)) (bu _))))) (@ao _ _ _ _ _ (@g7 _ _ _ _ _ _ (@aD _ _ _ _ _ _ _ bx (@aD _ _ _ _ _ _ _ bx (pv 0) ai (fun _ _=>rfl)) (@aD _ _ _ _ _ _ _ bx (pv 0) ai (fun _ _=>rfl)) (fun _ _=>rfl)) (ki (pv 0) ai set_list) (by rfl) (by rfl) (by rfl)) (@aA _ _ _ (@g7 _ _ _ _ _ _ (@az _ _ _ _ _ _ _ _ cF (@aD _ _ _ _ _ _ _ bx (pv 0) ai (fun _ _=>rfl)) ai) (ki (pv 0) ai set_list) (by rfl) (by rfl) (by rfl)))) (@aA _ _ _ (@dB _ _ _ _ _ _ _ _ (@bA _ _ _ _ _ _ _ _ iR (@aD _ _ _ _ _ _ _ bx (pv 0) ai (fun _ _=>rfl)) ai (bu _)) (@aA _ _ _ (@aY _ _ _ _ (@aF _ _ _ _ _ _ _ _ _ _ Rf (hr.mono (by decide)) (@aa _ _ _ _ _ (pv 0) (@aa _ _ _ _ _ (pv 1) af rfl) rfl) (by rfl) (by decide) (by rfl) (by rfl)))) dY))) (@ao _ _ _ _ _ (@aB _ _ (2) _ _ _ _ FJ.nd rfl (Or.inl rfl) (@az _ _ _ _ _ _ _ _ iH (@aD _ _ _ _ _ _ _ bx (pv 0) ai (fun _ _=>rfl)) (pv 1)) (by rfl) (by first|exact .inl rfl|exact .inr rfl|assumption)) (@ao _ _ _ _ _ (@g7 _ _ _ _ _ _ (@az _ _ _ _ _ _ _ _ qI (@aD _ _ _ _ _ _ _ bx (pv 0) ai (fun _ _=>rfl)) (pv 1)) (ki (pv 0) ai set_list) (by rfl) (by rfl) (by rfl)) (@aA _ _ _ (@aY _ _ _ _ (pv 2)))))),?_⟩
 obtain⟨ns,i,c,st,n,h1,h2,h3,h4,h5,h6,h7,h8,h9⟩:=id hB
 have hlb:=Gf h1 h2
 have fin:∀(H1:Hp) (i' c':Int),H1 b=some (.lst [.ref l, .int i', .int c', .int st, .int n])->aX (Nb b) H H1->0<=i'->0<=c'->c'<10^60->
   ∀(H2:Hp),H2=upd H1 b (.lst [.ref l, .int i', .int (c'/many), .int st, .int n])->Q (.int (c'%many)) H2:=fun H1 i' c' e1 bt g1 g2 g3 H2 e2=>by
  subst e2
  have hd1:0<=c'/many:=uI g2 (by omega)
  have hd2:c'/many<=c':=AF _ g2
  exact q _ _ (dR _ (by omega)) (dQ _ hm) (bt.trans (aX.set rfl)) (cV.put hlb (bt _ _ hlb h2) h3 h4 g1 hd1 (by omega) h8 h9)
 walk_at "st"
 refine qp (fun c1=>?_) (fun c1=>?_)
 ·have c1:c=0:=of_decide_eq_true c1
  walk_at "st"
  refine qp (fun c2=>?_) (fun c2=>?_)
  ·have c2:i<(List.map V.int ns).length:=of_decide_eq_true c2
   rw[ak] at c2
   have hi:i.toNat<ns.length:=by omega
   obtain⟨g1,g2⟩:=h3 _ (gP hi)
   walk_at "st"
   refine R.tZ h2 (v:= .int ns[i.toNat]) (fS h5 (by rw[aS,aH hi];rfl)) ?_
   walk_at "st"
   refine fin (upd H b (.lst [.ref l, .int (i+1), .int ns[i.toNat], .int st, .int n])) (i+1) ns[i.toNat] bf (aX.set rfl) (by omega) g1 g2 _ ?_
   rw[yW]
   rfl
  ·walk_at "st"
   exact⟨b,l,many,rfl,hB,hm,hs,q⟩
 ·have c1:¬c=0:=of_decide_eq_false (Bk.mpr c1)
  walk_at "st"
  exact fin H i c h1 (aX.refl _ _) h5 h6 h7 _ rfl
theorem Uq(is:List Int):PyData.eqv (.list (is.map PyData.int)) (.list [])=decide (is=[]):=by
 cases is<;>simp[PyData.eqv,PyData.eqvAll]
theorem UZ(is:List Int):SeqAt.shaped (.list (is.map PyData.int))=true:=by
 have h:PyData.depthAll (is.map PyData.int)=0/\PyData.canLayAll0 (is.map PyData.int)=true:=by
  induction is with
  |nil=>simp[PyData.depthAll,PyData.canLayAll0]
  |cons a r ih=>simp[PyData.depthAll,PyData.depth,PyData.canLayAll0,PyData.canLay0,ih.2,ih.1]
 unfold SeqAt.shaped
 simp[PyData.canLay0,PyData.depth,h.2,h.1]
theorem E7{nb:Addr->Prop}{H:Hp}:∀is:List Int,ah nb H (is.map PyData.int) (is.map V.int)
 |[]=>ah.nil
 |i::is=>ah.cons (.int i) (E7 is)
theorem Tw{r:Int}(h0:r<=10100)(h:∀d:Int,2<=d->d<102->¬(d*d<=r/\r%d=0)):uh r:=fun d d1 d2 e=>by
 by_cases hd:d<102
 ·exact h d d1 hd ⟨d2,e⟩
 ·have:102*102<=d*d:=yV (by omega) (by omega) (by omega) (by omega)
  omega
theorem GR:bZ ["number","found"] ["number"] (aM tP):=⟨rfl,rfl,rfl,by decide+kernel,rfl,by decide+kernel,by decide+kernel⟩
theorem Pj(F:bK K "_law_prime_from" "_law_prime_from" tP f fd)(aO:mg "range"=none):
  bD P w K mg base bI 1 f fd ["number"] wL:=by
 refine F.ok GR (fun vs H Q E h=>?_) (fun cdv A outer s H vs Q E hr h=>?_)
 ·obtain⟨n,rfl,hn1,hn2,q⟩:=h
  rfl
 obtain⟨n,rfl,hn1,hn2,q⟩:=h
 refine⟨_,(@ao _ _ _ _ _ (@dX _ _ _ _ _ _ _ _ dw rfl (@Gr _ _ _ _ _ _ _ rfl aO (@aa _ _ _ _ _ (pv 0) (@aa _ _ _ _ _ (@az _ _ _ _ _ _ _ _ cF (pv 0) ai) af rfl) rfl) (by rfl) (by rfl)) (aG (i:=1) GR.nd rfl (Or.inr rfl)) (@aA _ _ _ (@dB _ _ _ _ _ _ _ _ (@bA _ _ _ _ _ _ _ _ (u5 hr.units) (fW (bY.of (show dg (aM tP) ["number","found"] _ ["k","found"] [none,some 1]=true by decide+kernel)) (@Gr _ _ _ _ _ _ _ rfl aO (@aa _ _ _ _ _ ai (@aa _ _ _ _ _ ai af rfl) rfl) (by rfl) (by rfl)) (fun _ _ _ _=>⟨(aG (i:=0) (by show List.Nodup (["k","found"]:List Str);decide+kernel) rfl (Or.inl rfl)),(lF (PW.pt (oE (@bA _ _ _ _ _ _ _ _ Wy (@az _ _ _ _ _ _ _ _ gm (pv 0) (pv 0)) (pv 1) (bu _)) (nI (@bA _ _ _ _ _ _ _ _ iR (@az _ _ _ _ _ _ _ _ iH (pv 1) (pv 0)) ai (bu _)))))),(pv 0)⟩)) (@dU _ _ _ _ af) (bu _)) (@aA _ _ _ (@aY _ _ _ _ (pv 1))) dY)) (by intro _;rfl)) (@aA _ _ _ (@aY _ _ _ _ ai))),?_⟩
 walk_at "st"
 refine w6 (fun i σ H1=>dO H H1/\∃(x:Option V),σ=[some (.int n),x]) ⟨dO.refl _,none,rfl⟩ ?_ ?_
 ·rintro i σ H1 hi ⟨s1,x,rfl⟩
  have hi2:(i:Int)<60:=by omega
  walk_at "st"
  intro acc hacc
  refine R.BA (fun j σ H2=>dO H1 H2/\(∃x:Option V,σ=[x,some (.int (n+i))])/\∃is:List Int,H2 acc=some (.lst (is.map V.int))/\is.length<=j/\(is=[]->∀d:Int,2<=d->d<2+j->¬(d*d<=n+i/\(n+i)%d=0))) ?_ ?_ ?_
  ·exact⟨dG hacc,⟨none,rfl⟩,[],bf,fT _,fun _ d d1 d2=>by omega⟩
  ·rintro j σ H2 hj ⟨s2,⟨x,rfl⟩,is,e2,l2,h2⟩
   have hj2:(j:Int)<100:=by omega
   have next:∀d:Int,d<2+((j+1:Nat):Int)->d<2+j\/d=2+j:=fun d h=>by omega
   walk_at "st"
   refine qp (fun c1=>?_) (fun c1=>?_)
   ·have c1:(2+(j:Int))*(2+j)<=n+i:=of_decide_eq_true c1
    walk_at "st"
    refine qp (fun c2=>?_) (fun c2=>?_)
    ·have c2:(n+i)%(2+(j:Int))=0:=of_decide_eq_true c2
     walk_at "st"
     refine⟨_,e2,?_,?_,⟨_,rfl⟩,is++[2+(j:Int)],?_,?_,fun e=>?_⟩
     ·rw[ak];exact Ej (by omega)
     ·exact fun a o h=>by rw[aK (iZ h hacc)];exact s2 _ _ h
     ·rw[bf,cL];rfl
     ·rw[bz,fh];omega
     ·simp at e
    ·have c2:¬(n+i)%(2+(j:Int))=0:=of_decide_eq_false (Bk.mpr c2)
     refine⟨s2,⟨_,rfl⟩,is,e2,by omega,fun e d d1 d2=>?_⟩
     rcases next d d2 with h|h
     ·exact h2 e d d1 h
     ·rw[h];exact fun z=>c2 z.2
   ·have c1:¬(2+(j:Int))*(2+j)<=n+i:=of_decide_eq_false (Bk.mpr c1)
    walk_at "st"
    refine⟨s2,⟨_,rfl⟩,is,e2,by omega,fun e d d1 d2=>?_⟩
    rcases next d d2 with h|h
    ·exact h2 e d d1 h
    ·rw[h];exact fun z=>c1 z.1
  ·rintro σ H2 ⟨s2,⟨x,rfl⟩,is,e2,l2,h2⟩
   walk_at "st"
   refine R.QJ (by decide) fun p H3 s3 f3 e3=>?_
   refine⟨fun _=>False, .list (is.map PyData.int), .list [], .lst id (s3 _ _ e2) (E7 is), .lst id e3 ah.nil,UZ is,by decide,?_⟩
   rw[Uq]
   walk_at "st"
   have s:dO H H3:=s1.trans (s2.trans s3)
   refine qp (fun c=>?_) (fun c=>?_)
   ·have c:is=[]:=by simpa using c
    walk_at "st"
    exact q _ _ s (by omega) (by omega) (Tw (by omega) fun d d1 d2=>h2 c d d1 (by omega))
   ·walk_at "st"
    exact⟨s,_,rfl⟩
 ·rintro σ H1 ⟨s1,x,rfl⟩
  walk_at "st"
  refine q _ _ s1 (by omega) (by omega) fun d d1 d2=>?_
  have:2*2<=d*d:=yV d1 d1 (by omega) (by omega)
  omega
def uV:DF:=fun ds Φ=>ds=[]/\∀p:Int,fR p->p<10^40->∀f,Φ f (.int p)
theorem IT:cG uV:=by
 intro ds Φ Ψ hm z
 obtain⟨e,q⟩:=hm
 exact⟨e,fun p h1 h2 f=>z _ _ (q p h1 h2 f)⟩
theorem M8:∀x∈([2,3,5,7,2,11,101,10007,65537,1000003,998244353,1000000007,2147483647,1000000000039,1000000000000000003,18446744073709551557,2305843009213693951,618970019642690137449562111,162259276829213363391578010288127,170141183460469231731687303715884105727,1000000000000000000000000000000000000003,9999999999999999999999999999999999999983]:List Int),x∈uK/\x<10^40:=by decide+kernel
theorem pA:bZ ["bag","some","way"] ["bag"] (aM zZ):=⟨rfl,rfl,rfl,by decide+kernel,rfl,by decide+kernel,by decide+kernel⟩
theorem Ul(F:bK K "_law_prime" "_law_prime" zZ f fd)(bL:Callee P w K mg base "_law_draw" 2 ["bag","many"] ig)(N3:Callee P w K mg base "_law_prime_from" 1 ["number"] wL):
  bD P w K mg base bI 3 f fd ["bag"] (cI 1 uV):=by
 refine F.ok pA (fun vs H Q E h=>h.1) (fun cdv A outer s H vs Q E hr h=>?_)
 obtain⟨b,l,ws,nb,ds,Φ,rfl,hB,hlive,hnb,hds,aC,hF⟩:=jf h
 obtain⟨rfl,q⟩:=hF
 refine⟨_,(@ao _ _ _ _ _ (@MA _ 1 _ _ _ _ _ _ pA.nd rfl (Or.inl rfl) rfl (Or.inl rfl)) (@ao _ _ _ _ _ (@aB _ _ (1) _ _ _ _ pA.nd rfl (Or.inl rfl) (@az _ _ _ _ _ _ _ _ jn (pv 1) (@dU _ _ _ _ (@oZ _ _ _ rfl))) (by rfl) (by first|exact .inl rfl|exact .inr rfl|assumption)) (@ao _ _ _ _ _ (@aB _ _ (1) _ _ _ _ pA.nd rfl (Or.inl rfl) (@az _ _ _ _ _ _ _ _ jn (pv 1) (@dU _ _ _ _ (@aa _ _ _ _ _ ai (@aa _ _ _ _ _ ai af rfl) rfl))) (by rfl) (by first|exact .inl rfl|exact .inr rfl|assumption)) (@ao _ _ _ _ _ (@aB _ _ (1) _ _ _ _ pA.nd rfl (Or.inl rfl) (@az _ _ _ _ _ _ _ _ jn (pv 1) (@dU _ _ _ _ (@aa _ _ _ _ _ ai (@aa _ _ _ _ _ ai af rfl) rfl))) (by rfl) (by first|exact .inl rfl|exact .inr rfl|assumption)) (@ao _ _ _ _ _ (@aB _ _ (2) _ _ _ _ pA.nd rfl (Or.inl rfl) (@aF _ _ _ _ _ _ _ _ _ _ bL (hr.mono (by decide)) (@aa _ _ _ _ _ (pv 0) (@aa _ _ _ _ _ ai af rfl) rfl) (by rfl) (by decide) (by rfl) (by rfl)) (by rfl) (by first|exact .inl rfl|exact .inr rfl|assumption)) (@aA _ _ _ (@aY _ _ _ _ (@FF _ _ _ _ _ _ _ _ (@bA _ _ _ _ _ _ _ _ pM (pv 2) ai (bu _)) (@aD _ _ _ _ _ _ (cz K) bx (pv 1) (pv 2) (fun _ _=>rfl)) (@aF _ _ _ _ _ _ _ _ _ _ N3 (hr.mono (by decide)) (@aa _ _ _ _ _ (@az _ _ _ _ _ _ _ _ cF ai (@aF _ _ _ _ _ _ _ _ _ _ bL (hr.mono (by decide)) (@aa _ _ _ _ _ (pv 0) (@aa _ _ _ _ _ ai af rfl) rfl) (by rfl) (by decide) (by rfl) (by rfl))) af rfl) (by rfl) (by decide) (by rfl) (by rfl)))))))))),?_⟩
 refine Sv.i6 hB hlive hnb hds aC (ρ:=[.ay, .no, .no]) rfl ?_
 clear aC hds
 walk_at "dt"
 intro way w1 w2
 by_cases c:way<22
 ·walk_at "dt"
  obtain⟨m,em,hm1,hm2⟩:=pick (L:=[2,3,5,7,2,11,101,10007,65537,1000003,998244353,1000000007,2147483647,1000000000039,1000000000000000003,18446744073709551557,2305843009213693951,618970019642690137449562111,162259276829213363391578010288127,170141183460469231731687303715884105727,1000000000000000000000000000000000000003,9999999999999999999999999999999999999983]) (k:=way) w1 (by show _<(22:Int);omega) _ M8
  refine⟨_,em,?_⟩
  exact q m (LC m hm1) hm2 _
 ·walk_at "dt"
  intro r r1 r2
  walk_at "dt"
  exact fun r' h1 h2=>q r' h1 h2 _
def uZ:DF:=fun ds Φ=>∃p n:Int,ds=[.int p, .int n]/\DM p/\0<=n/\n<=10000/\∀os:List Int,(os.length:Int)=n->(∀x∈os,0<=x/\x<p)->Φ true (.list (os.map .int))
theorem Dl:cG uZ:=by
 intro ds Φ Ψ hm z
 obtain⟨p,n,e,h1,h2,h3,q⟩:=hm
 exact⟨p,n,e,h1,h2,h3,fun os a b=>z _ _ (q os a b)⟩
theorem GC:bZ ["bag","p","n","way"] ["bag","p","n"] (aM r6):=⟨rfl,rfl,rfl,by decide+kernel,rfl,by decide+kernel,by decide+kernel⟩
theorem PJ(F:bK K "_law_letters" "_law_letters" r6 f fd)(bL:Callee P w K mg base "_law_draw" 2 ["bag","many"] ig)(aO:mg "range"=none)(j9:mg "int"=none)(yN:mg "min"=none):
  bD P w K mg base bI 3 f fd ["bag","p","n"] (cI 3 uZ):=by
 refine F.ok GC (fun vs H Q E h=>h.1) (fun cdv A outer s H vs Q E hr h=>?_)
 obtain⟨b,l,ws,nb,ds,Φ,rfl,hB,hlive,hnb,hds,aC,hF⟩:=jf h
 obtain⟨p,n,rfl,⟨p2,Yu⟩,n0,n1,q⟩:=hF
 refine⟨_,(@ao _ _ _ _ _ (@aB _ _ (3) _ _ _ _ GC.nd rfl (Or.inr rfl) (@aF _ _ _ _ _ _ _ _ _ _ bL (hr.mono (by decide)) (@aa _ _ _ _ _ (pv 0) (@aa _ _ _ _ _ ai af rfl) rfl) (by rfl) (by decide) (by rfl) (by rfl)) (by rfl) (by first|exact .inl rfl|exact .inr rfl|assumption)) (@ao _ _ _ _ _ (@dB _ _ _ _ _ _ _ _ (@bA _ _ _ _ _ _ _ _ iR (pv 3) ai (bu _)) (@aA _ _ _ (@aY _ _ _ _ (fW (bY.of (show dg (aM r6) ["bag","p","n","way"] _ ["k","bag","p"] [none,some 0,some 1]=true by decide+kernel)) (@eX _ _ _ _ _ _ rfl aO (@aa _ _ _ _ _ (pv 2) af rfl) (by rfl)) (fun _ _ _ _=>⟨(aG (i:=0) (by show List.Nodup (["k","bag","p"]:List Str);decide+kernel) rfl (Or.inl rfl)),fM,(@az _ _ _ _ _ _ _ _ gm (@aF _ _ _ _ _ _ _ _ _ _ bL (hr.mono (by decide)) (@aa _ _ _ _ _ (pv 1) (@aa _ _ _ _ _ (pv 2) af rfl) rfl) (by rfl) (by decide) (by rfl) (by rfl)) (@gb _ _ _ _ _ _ _ _ _ Qf rfl j9 Dp (@aa _ _ _ _ _ (@rZ _ _ _ _ _ _ _ _ iR (@aF _ _ _ _ _ _ _ _ _ _ bL (hr.mono (by decide)) (@aa _ _ _ _ _ (pv 1) (@aa _ _ _ _ _ ai af rfl) rfl) (by rfl) (by decide) (by rfl) (by rfl)) ai (bu _)) af rfl) (by decide) (by decide) (by rfl) (by rfl)))⟩)))) dY) (@aA _ _ _ (@aY _ _ _ _ (fW (bY.of (show dg (aM r6) ["bag","p","n","way"] _ ["k","bag","p","way"] [none,some 0,some 1,some 3]=true by decide+kernel)) (@eX _ _ _ _ _ _ rfl aO (@aa _ _ _ _ _ (pv 2) af rfl) (by rfl)) (fun _ _ _ _=>⟨(aG (i:=0) (by show List.Nodup (["k","bag","p","way"]:List Str);decide+kernel) rfl (Or.inl rfl)),fM,(@aF _ _ _ _ _ _ _ _ _ _ bL (hr.mono (by decide)) (@aa _ _ _ _ _ (pv 1) (@aa _ _ _ _ _ (@aD _ _ _ _ _ _ (cz K) bx (@dU _ _ _ _ (@aa _ _ _ _ _ (pv 2) (@aa _ _ _ _ _ (@bT _ _ _ _ _ _ _ _ _ (RA rfl) rfl yN PyProof.Rows.boot_min (@aa _ _ _ _ _ (pv 2) (@aa _ _ _ _ _ ai af rfl) rfl) (by decide) (by decide) (by rfl) (by rfl)) af rfl) rfl)) (pv 3) (fun _ _=>rfl)) af rfl) rfl) (by rfl) (by decide) (by rfl) (by rfl))⟩)))))),?_⟩
 refine Sv.i6 hB hlive hnb hds aC (ρ:=[.ay, .d false _, .d false _, .no]) rfl ?_
 clear aC hds
 walk_at "dt"
 intro way w1 w2
 by_cases c:way=2
 ·walk_at "dt"
  refine au.ev (au.kh (by decide) rfl ?_)
  walk_at "dt"
  refine fG.ints (fun x=>0<=x/\x<p) ?_ fun os fQ hos=>q os (by omega) hos
  rintro i d ⟨hi,rfl⟩
  walk_at "dt"
  refine⟨by walk_at "wk",?_⟩
  walk_at "dt"
  intro r r1 r2
  walk_at "dt"
  intro s s1 s2
  by_cases c2:s=3
  ·walk_at "dt"
   rw[decide_eq_true c2]
   exact⟨by simp;omega,by simp;omega⟩
  ·walk_at "dt"
   rw[decide_eq_false c2]
   exact⟨by simp,by simp;omega⟩
 ·obtain⟨m,em,m1,m2⟩:∃m:Int,bF [PyData.int p, .int (if 3<p then 3 else p)] way=some (.int m)/\1<=m/\m<=p:=by
   rcases(show way=0\/way=1 by omega) with rfl|rfl
   ·exact⟨p,rfl,by omega,by omega⟩
   ·exact⟨_,rfl,by split<;>omega,by split<;>omega⟩
  walk_at "dt"
  refine au.ev (au.kh (by decide) rfl ?_)
  walk_at "dt"
  refine fG.ints (fun x=>0<=x/\x<p) ?_ fun os fQ hos=>q os (by omega) hos
  rintro i d ⟨hi,rfl⟩
  walk_at "dt"
  refine⟨by walk_at "wk",?_⟩
  walk_at "dt"
  exact fun r r1 r2=>⟨r,rfl,r1,by omega⟩
def sq:DF:=fun ds Φ=>∃p a b:Int,ds=[.int p, .int a, .int b]/\fR p/\p<10^40/\b%p≠0/\ -(10^81)<=a/\a<=10^81/\((∃k,b*sol p b a-a=p*k)->Φ true (.int (sol p b a)))
theorem Ck:cG sq:=by
 intro ds Φ Ψ hm z
 obtain⟨p,a,b,e,h1,h2,h3,h4,h5,q⟩:=hm
 exact⟨p,a,b,e,h1,h2,h3,h4,h5,fun h=>z _ _ (q h)⟩
theorem kE:bZ ["p","a","b","old","new","one","two","times"] ["p","a","b"] (aM BR):=⟨rfl,rfl,rfl,by decide+kernel,rfl,by decide+kernel,by decide+kernel⟩
theorem Lx(F:bK K "_law_over" "_law_over" BR f fd):
  bD P w K mg base bI 1 f fd ["p","a","b"] (bC 3 sq):=by
 refine F.ok kE (fun vs H Q E h=>h.1) (fun cdv A outer s H vs Q E hr h=>?_)
 obtain⟨nb,ds,Φ,hlive,hds,aC,hF⟩:=iu h
 obtain⟨p,a,b,rfl,hp,jL,hb,a0,a1,q⟩:=hF
 refine⟨_,(@ao _ _ _ _ _ (@g7 _ _ _ _ _ _ (@cK _ _ _ _ _ (@aa _ _ _ _ _ (@az _ _ _ _ _ _ _ _ iH (pv 2) (pv 0)) (@aa _ _ _ _ _ (pv 0) (@aa _ _ _ _ _ ai (@aa _ _ _ _ _ ai af rfl) rfl) rfl) rfl)) (@jr _ (K) _ _ _ (4) _ rfl rfl (@cO _ _ _ _ _ (aG (i:=3) kE.nd rfl (Or.inl rfl)) (@cO _ _ _ _ _ (aG (i:=4) kE.nd rfl (Or.inl rfl)) (@cO _ _ _ _ _ (aG (i:=5) kE.nd rfl (Or.inl rfl)) (@cO _ _ _ _ _ (aG (i:=6) kE.nd rfl (Or.inl rfl)) i7 (by rfl)) (by rfl)) (by rfl)) (by rfl)) (by rfl) (by rfl)) (by rfl) (by rfl) (by rfl)) (@ao _ _ _ _ _ (@Aw _ _ _ _ _ _ dw (@bA _ _ _ _ _ _ _ _ jD (pv 4) ai (bu _)) (@ao _ _ _ _ _ (@aB _ _ (7) _ _ _ _ kE.nd rfl (Or.inl rfl) (@az _ _ _ _ _ _ _ _ qI (pv 3) (pv 4)) (by rfl) (by first|exact .inl rfl|exact .inr rfl|assumption)) (@aA _ _ _ (@g7 _ _ _ _ _ _ (@cK _ _ _ _ _ (@aa _ _ _ _ _ (pv 4) (@aa _ _ _ _ _ (@az _ _ _ _ _ _ _ _ ic (pv 3) (@az _ _ _ _ _ _ _ _ gm (pv 7) (pv 4))) (@aa _ _ _ _ _ (pv 6) (@aa _ _ _ _ _ (@az _ _ _ _ _ _ _ _ ic (pv 5) (@az _ _ _ _ _ _ _ _ gm (pv 7) (pv 6))) af rfl) rfl) rfl) rfl)) (@jr _ (K) _ _ _ (4) _ rfl rfl (@cO _ _ _ _ _ (aG (i:=3) kE.nd rfl (Or.inl rfl)) (@cO _ _ _ _ _ (aG (i:=4) kE.nd rfl (Or.inl rfl)) (@cO _ _ _ _ _ (aG (i:=5) kE.nd rfl (Or.inl rfl)) (@cO _ _ _ _ _ (aG (i:=6) kE.nd rfl (Or.inl rfl)) i7 (by rfl)) (by rfl)) (by rfl)) (by rfl)) (by rfl) (by rfl)) (by rfl) (by rfl) (by rfl))))) (@aA _ _ _ (@aY _ _ _ _ (@az _ _ _ _ _ _ _ _ iH (@az _ _ _ _ _ _ _ _ gm (pv 1) (pv 5)) (pv 0)))))),?_⟩
 refine Sv.iz hlive hds aC (ρ:=[.d false _, .d false _, .d false _, .no, .no, .no, .no, .no]) rfl ?_
 clear aC hds
 have p2:=hp.1
 have m1:=dR b (show p≠0 by omega)
 have m2:=dQ b (show 0<p by omega)
 walk_at "dt"
 show mw _ _ _ _ [PyData.int (b%p), .int p, .int 1, .int 0] _
 walk_at "dt"
 refine Sv.JI (fun ρ=>∃(L lt r t:Int) (x6:Sl),ρ=[.d false (.int p), .d false (.int a), .d false (.int b), .d true (.int L), .d true (.int r), .d true (.int lt), .d true (.int t),x6]/\(-p<=lt/\lt<=p)/\((L=b%p/\r=p/\lt=1/\t=0)\/Eu p b L lt r t)) (fun ρ:Rh=>match ρ[4]? with|some (Sl.d _ (PyData.int r))=>r.toNat|_=>0) ⟨_,_,_,_,_,rfl,by omega, .inl ⟨rfl,rfl,rfl,rfl⟩⟩ ?_
 rintro ρ ⟨L,lt,r,t,x6,rfl,hlt,hI⟩
 by_cases c:r=0
 ·rcases hI with ⟨_,h,_,_⟩|hE
  ·omega
  subst c
  obtain⟨k,hk⟩:=hE.fin hp hb
  obtain⟨t1,t2⟩:=hE.tb
  have sa:Sm a:=by unfold Sm;omega
  have sl:Sm lt:=by unfold Sm;omega
  walk_at "dt"
  have e:=mz (a*lt) p
  have ef:=mz lt p
  have ex:∃k,b*(a*lt%p)-a=p*k:=⟨a*k+a*(lt/p)*b-a*lt/p*b,by
   generalize a*lt/p=Q1 at*
   generalize a*lt%p=R1 at*
   generalize lt/p=Q2 at*
   generalize lt%p=R2 at*
   have h1:R1=a*lt-p*Q1:=by omega
   have h2:lt=p*Q2+R2:=by omega
   rw[h1]
   have h3:a*(R2*b)=a*(1+p*k):=by rw[hk]
   grind⟩
  have es:=Gd (x:=a*lt%p) (a:=a) hp hb (dR _ (by omega)) (dQ _ (by omega)) ex
  rw[es]
  rw[es] at ex
  exact q ex
 ·rcases hI with ⟨rfl,rfl,rfl,rfl⟩|hE
  ·have e0:b%r/r=0:=DQ m1 m2
   walk_at "dt"
   show mw _ _ _ _ [PyData.int r, .int (b%r-b%r/r*r), .int 0, .int (1-b%r/r*0)] _
   rw[e0]
   walk_at "dt"
   refine⟨⟨_,_,_,_,_,rfl,by omega, .inr ?_⟩,?_⟩
   ·rw[oV,vP,wI,vP]
    exact Eu.start p2
   ·show(b%r-0*r).toNat<r.toNat
    rw[oV];omega
  ·obtain⟨t1,t2⟩:=hE.tb
   have e1:=hE.l0
   have e2:=hE.r0
   have e3:=hE.lp
   have e4:=hE.rp
   have hr:0<r:=by omega
   have q1:0<=L/r:=uI (by omega) (by omega)
   have q2:L/r<=L:=AF _ (by omega)
   obtain⟨N1,N2⟩:=hE.next hr
   walk_at "dt"
   show mw _ _ _ _ [PyData.int r, .int (L-L/r*r), .int t, .int (lt-L/r*t)] _
   walk_at "dt"
   exact⟨⟨_,_,_,_,_,rfl,⟨t1,t2⟩, .inr N1⟩,by show(L-L/r*r).toNat<r.toNat;omega⟩
def o7:DF:=fun ds Φ=>∃(p:Int) (prs:aq) (wd:Wo),ds=[.int p,c9 prs,j3 wd]/\0<p/\prs.length<=10000/\pU prs wd.length/\mY wd/\Φ true (.int (aU prs wd%p))
theorem wH:cG o7:=by
 intro ds Φ Ψ hm z
 obtain⟨p,prs,wd,e,h1,h2,h3,h4,q⟩:=hm
 exact⟨p,prs,wd,e,h1,h2,h3,h4,z _ _ q⟩
theorem P7:bZ ["p","pairs","word"] ["p","pairs","word"] (aM sQ):=⟨rfl,rfl,rfl,by decide+kernel,rfl,by decide+kernel,by decide+kernel⟩
theorem U7(F:bK K "_law_sum" "_law_sum" sQ f fd)(BG:mg "sum"=none):
    bD P w K mg base bI 1 f fd ["p","pairs","word"] (bC 3 o7):=by
  refine F.ok P7 (fun vs H Q E h=>h.1) (fun cdv A outer s H vs Q E hr h=>?_)
  obtain⟨nb,ds,Φ,hlive,hds,aC,hF⟩:=iu h
  obtain⟨p,prs,wd,rfl,hp,hl,h1,h2,q⟩:=hF
  refine⟨_,(@aA _ _ _ (@aY _ _ _ _ (@az _ _ _ _ _ _ _ _ iH (@bT _ _ _ _ _ _ _ _ (Ar K) (RZ rfl) rfl BG PyProof.Rows.boot_sum (@aa _ _ _ _ _ (fW (bY.of (show dg (aM sQ) ["p","pairs","word"] _ ["place","factor","word"] [none,none,some 2]=true by decide+kernel)) (@dI _ _ _ _ (pv 1)) (fun _ _ _ _=>⟨(@jr _ (K) _ _ _ (2) _ rfl rfl (@cO _ _ _ _ _ (aG (i:=0) (by show List.Nodup (["place","factor","word"]:List Str);decide+kernel) rfl (Or.inl rfl)) (@cO _ _ _ _ _ (aG (i:=1) (by show List.Nodup (["place","factor","word"]:List Str);decide+kernel) rfl (Or.inl rfl)) i7 (by rfl)) (by rfl)) (by rfl) (by rfl)),(lF (@bA _ _ _ _ _ _ _ _ vA (@aD _ _ _ _ _ _ (cz K) bx (pv 2) (pv 0) (fun _ _=>rfl)) mF (bu _))),(@az _ _ _ _ _ _ _ _ gm (pv 1) (@aD _ _ _ _ _ _ (cz K) bx (pv 2) (pv 0) (fun _ _=>rfl)))⟩)) af rfl) (by decide) (by decide) (by rfl) (by rfl)) (pv 0)))),?_⟩
  refine Sv.iz hlive hds aC (ρ:=[.d false _, .d false _, .d false _]) rfl ?_
  clear aC hds
  walk_at "dt"
  refine au.ev (au.ir (by decide) rfl ?_)
  walk_at "dt"
  refine⟨by rw[ak];exact hl,fun v=>⟨false,fun i ds=>∃ns:List Int,ds=ns.map .int/\ns.sum=aU (prs.take i) wd,⟨[],rfl,by simp[aU]⟩,?_,?_⟩⟩
  · rintro i d ds hd hl' ⟨ns,rfl,hs⟩
    obtain⟨pr,bq,rfl⟩:=dW hd
    obtain⟨g1,g2,g3⟩:=h1 pr (bh bq)
    obtain⟨o,ho,hat⟩:=JK (xs:=wd) gF g1 g2 rfl
    have hi:i<prs.length:=(aR.mp bq).1
    have De:=Jq (wd:=wd) hi
    have Ro:prs[i]=pr:=(aR.mp bq).2
    rw[Ro] at De
    walk_at "dt"
    refine⟨by walk_at "wk",?_⟩
    walk_at "dt"
    rw[Dv]
    cases o with
    | none =>
      walk_at "dt"
      refine⟨ns,rfl,?_⟩
      rw[De,hs]
      unfold gp
      rw[ho];simp
    | some x =>
      have hx:Sm x:=h2 x (bh ho)
      have YJ:bF (wd.map gF) pr.1=some (.int x):=hat
      walk_at "dt"
      refine⟨ns++[pr.2*x],by simp,?_⟩
      rw[De,zM,hs]
      unfold gp
      rw[ho];simp
  · rintro ds hl' ⟨ns,rfl,hs⟩
    rw[ak,gV] at hs
    refine⟨ns,rfl,?_⟩
    rw[hs]
    walk_at "dt"
    exact q
def BO:DF:=fun ds Φ=>∃(ss:List Int),ds=[.list (ss.map .int)]/\0<ss.length/\ss.length<=100/\(∀x∈ss,lq x)/\∀(f:Bool) (q:Int) (R:List (List Int)),lq q->(R.length:Int)<=(q+1)*q->(∀r∈R,∃s c,jb q s c r)->Ap R->Φ f (.tuple [.int (q*q), .list (R.map aJ)])
theorem VN:cG BO:=by
 intro ds Φ Ψ hm z
 obtain⟨ss,e,h1,h2,h3,q⟩:=hm
 exact⟨ss,e,h1,h2,h3,fun f k R a b c d=>z _ _ (q f k R a b c d)⟩
theorem lM:bZ ["bag","sides","q","thin","rows","slope","kept","c","row"] ["bag","sides"] (aM q9):=⟨rfl,rfl,rfl,by decide+kernel,rfl,by decide+kernel,by decide+kernel⟩
theorem Q3(F:bK K "_law_lines" "_law_lines" q9 f fd)(bL:Callee P w K mg base "_law_draw" 2 ["bag","many"] ig)(aO:mg "range"=none)(bB:mg "len"=none):
    bD P w K mg base bI 3 f fd ["bag","sides"] (cI 2 BO):=by
  refine F.ok lM (fun vs H Q E h=>h.1) (fun cdv A outer s H vs Q E hr h=>?_)
  obtain⟨b,l,ws,nb,ds,Φ,rfl,hB,hlive,hnb,hds,aC,hF⟩:=jf h
  obtain⟨ss,rfl,hs0,hs1,hss,qq⟩:=hF
  refine⟨_,(@ao _ _ _ _ _ (@aB _ _ (2) _ _ _ _ lM.nd rfl (Or.inr rfl) (@aD _ _ _ _ _ _ (cz K) bx (pv 1) (@aF _ _ _ _ _ _ _ _ _ _ bL (hr.mono (by decide)) (@aa _ _ _ _ _ (pv 0) (@aa _ _ _ _ _ (@bT _ _ _ _ _ _ _ _ (e7 K) gx rfl bB fV (@aa _ _ _ _ _ (pv 1) af rfl) (by decide) (by decide) (by rfl) (by rfl)) af rfl) rfl) (by rfl) (by decide) (by rfl) (by rfl)) (fun _ _=>rfl)) (by rfl) (by first|exact .inl rfl|exact .inr rfl|assumption)) (@ao _ _ _ _ _ (@aB _ _ (3) _ _ _ _ lM.nd rfl (Or.inl rfl) (@aF _ _ _ _ _ _ _ _ _ _ bL (hr.mono (by decide)) (@aa _ _ _ _ _ (pv 0) (@aa _ _ _ _ _ ai af rfl) rfl) (by rfl) (by decide) (by rfl) (by rfl)) (by rfl) (by first|exact .inl rfl|exact .inr rfl|assumption)) (@ao _ _ _ _ _ (@aB _ _ (4) _ _ _ _ lM.nd rfl (Or.inl rfl) (@dU _ _ _ _ af) (by rfl) (by first|exact .inl rfl|exact .inr rfl|assumption)) (@ao _ _ _ _ _ (@dX _ _ _ _ _ _ _ _ dw rfl (@eX _ _ _ _ _ _ rfl aO (@aa _ _ _ _ _ (@az _ _ _ _ _ _ _ _ cF (pv 2) ai) af rfl) (by rfl)) (aG (i:=5) lM.nd rfl (Or.inr rfl)) (@ao _ _ _ _ _ (@aB _ _ (6) _ _ _ _ lM.nd rfl (Or.inl rfl) (@rZ _ _ _ _ _ _ _ _ nH (@aF _ _ _ _ _ _ _ _ _ _ bL (hr.mono (by decide)) (@aa _ _ _ _ _ (pv 0) (@aa _ _ _ _ _ ai af rfl) rfl) (by rfl) (by decide) (by rfl) (by rfl)) ai (bu _)) (by rfl) (by first|exact .inl rfl|exact .inr rfl|assumption)) (@aA _ _ _ (@dX _ _ _ _ _ _ _ _ dw rfl (@eX _ _ _ _ _ _ rfl aO (@aa _ _ _ _ _ (pv 2) af rfl) (by rfl)) (aG (i:=7) lM.nd rfl (Or.inr rfl)) (@ao _ _ _ _ _ (kY (i:=8) lM.nd rfl rfl (bY.of (show dg (aM q9) ["bag","sides","q","thin","rows","slope","kept","c","row"] _ ["a","q","slope","c"] [none,some 2,some 5,some 7]=true by decide+kernel)) (@eX _ _ _ _ _ _ rfl aO (@aa _ _ _ _ _ (pv 2) af rfl) (by rfl)) (fun _ _ _ _=>⟨(aG (i:=0) (by show List.Nodup (["a","q","slope","c"]:List Str);decide+kernel) rfl (Or.inl rfl)),fM,(@az _ _ _ _ _ _ _ _ cF (@az _ _ _ _ _ _ _ _ gm (pv 0) (pv 1)) (@az _ _ _ _ _ _ _ _ iH (@az _ _ _ _ _ _ _ _ cF (@az _ _ _ _ _ _ _ _ gm (pv 2) (pv 0)) (pv 3)) (pv 1)))⟩)) (@ao _ _ _ _ _ (@dB _ _ _ _ _ _ _ _ (@bA _ _ _ _ _ _ _ _ iR (pv 5) (pv 2) (bu _)) (@aA _ _ _ (kY (i:=8) lM.nd rfl rfl (bY.of (show dg (aM q9) ["bag","sides","q","thin","rows","slope","kept","c","row"] _ ["b","q","c"] [none,some 2,some 7]=true by decide+kernel)) (@eX _ _ _ _ _ _ rfl aO (@aa _ _ _ _ _ (pv 2) af rfl) (by rfl)) (fun _ _ _ _=>⟨(aG (i:=0) (by show List.Nodup (["b","q","c"]:List Str);decide+kernel) rfl (Or.inl rfl)),fM,(@az _ _ _ _ _ _ _ _ cF (@az _ _ _ _ _ _ _ _ gm (pv 2) (pv 1)) (pv 0))⟩))) dY) (@aA _ _ _ (@dB _ _ _ _ _ _ _ _ (PW.pt (oE (@sG _ (K) _ _ rfl (pv 6) (fun _=>rfl)) (nI (PW.pt (rQ (@bA _ _ _ _ _ _ _ _ nH (pv 3) ai (bu _)) (sC (@bA _ _ _ _ _ _ _ _ nH (@aF _ _ _ _ _ _ _ _ _ _ bL (hr.mono (by decide)) (@aa _ _ _ _ _ (pv 0) (@aa _ _ _ _ _ ai af rfl) rfl) (by rfl) (by decide) (by rfl) (by rfl)) ai (bu _)))))))) (@aA _ _ _ (@kB _ _ _ _ (iD jO kJ kM jU (pv 4) (@aa _ _ _ _ _ (pv 8) af rfl)) (by rfl))) dY)))) (by intro _;rfl)))) (by intro _;rfl)) (@aA _ _ _ (@aY _ _ _ _ (@cK _ _ _ _ _ (@aa _ _ _ _ _ (@az _ _ _ _ _ _ _ _ gm (pv 2) (pv 2)) (@aa _ _ _ _ _ (pv 4) af rfl) rfl)))))))),?_⟩
  refine Sv.i6 hB hlive hnb hds aC (ρ:=[.ay, .d false _, .no, .no, .no, .no, .no, .no, .no]) rfl ?_
  clear aC hds
  have hsm:(ss.map PyData.int).length=ss.length:=ak ..
  walk_at "dt"
  intro s0 s1 s2
  have hL:s0.toNat<ss.length:=by omega
  have gk:=hss _ (gP hL)
  obtain⟨w,hw⟩:∃w,ss[s0.toNat]=w:=⟨_,rfl⟩
  rw[hw] at gk
  have w1:2<=w:=by rcases gk with rfl|rfl|rfl|rfl<;>decide
  have w2:w<=7:=by rcases gk with rfl|rfl|rfl|rfl<;>decide
  refine⟨_,rfl, .int w,fS s1 (by rw[aS,aH hL,hw];rfl),?_⟩
  walk_at "dt"
  intro th t1 t2
  walk_at "dt"
  intro A4
  refine Sv.seq ?_
  refine Sv.j7 ?_
  walk_at "dt"
  have hmul:∀i:Nat,((i+1:Nat):Int)*w=(i:Int)*w+w:=fun i=>by rw[Cs,sE];simp
  refine⟨fun i ρ=>∃(R:List (List Int)) (T:List (Int×Int)) (f4:Bool) (x5 x6 x7 x8:Sl),(R.length:Int)<=i*w/\l7 w R T/\(∀t∈T,t.1<i)/\ρ=[.ay, .d false (.list (ss.map .int)), .d true (.int w), .d true (.int th), .own A4 f4 (R.map aJ),x5,x6,x7,x8],⟨[],[],_,_,_,_,_,by simp,⟨rfl,mG,fun i r t z=>by simp at z⟩,(fun _ h=>nomatch h),rfl⟩,?_,?_⟩
  · rintro i d ρ ⟨hi,rfl⟩ ⟨R,T,f4,x5,x6,x7,x8,mQ,hR,hT,rfl⟩
    have hb:(i:Int)*w<=8*7:=by
      have:=tO (show(i:Int)<=8 by omega) (show 0<=w by omega)
      omega
    walk_at "dt"
    intro k0 k1 k2
    walk_at "dt"
    generalize decide (0<k0)=kept
    refine Sv.j7 ?_
    walk_at "dt"
    refine⟨fun j ρ=>∃(R:List (List Int)) (T:List (Int×Int)) (f4:Bool) (x7 x8:Sl),(R.length:Int)<=i*w+j/\l7 w R T/\(∀t∈T,t.1<i\/(t.1=i/\t.2<j))/\ρ=[.ay, .d false (.list (ss.map .int)), .d true (.int w), .d true (.int th), .own A4 f4 (R.map aJ), .d true (.int (0+(i:Int))), .d true (.bool kept),x7,x8],⟨R,T,_,_,_,by omega,hR,fun t ht=> .inl (hT t ht),rfl⟩,?_,?_⟩
    · rintro j d ρ ⟨hj,rfl⟩ ⟨R,T,f4,x7,x8,mQ,hR,hT,rfl⟩
      have Hv:(R.map aJ).length=R.length:=ak ..
      walk_at "dt"
      refine au.ev (au.kh (by decide) rfl ?_)
      walk_at "dt"
      refine fG.rel PyData.int true (fun a r=>r=(a:Int)*w+((0+(i:Int))*a+(0+(j:Int)))%w) ?_ fun os fQ hos=>?_
      · rintro a d ⟨ha,rfl⟩
        walk_at "dt"
        refine⟨by walk_at "wk",?_⟩
        walk_at "dt"
        rw[show(0+(a:Int))=a by omega]
      have uW:∀(os:List Int),jb w i j os->∃(R':List (List Int)) (T':List (Int×Int)),(R.map aJ)++[.list (os.map .int)]=R'.map aJ/\(R'.length:Int)<=i*w+(j+1:Nat)/\l7 w R' T'/\∀t∈T',t.1<i\/(t.1=i/\t.2<(j+1:Nat)):=fun os h=>⟨R++[os],T++[((i:Int),(j:Int))],by rw[cL];rfl,by rw[bz,fh];omega,hR.snoc h (fun z=>by have:=hT _ z;dsimp only at this;omega),fun t ht=>by
        rcases cD.mp ht with z|z
        · have:=hT t z;omega
        · rw[aT.mp z];right;exact⟨rfl,by show(j:Int)<(j+1:Nat);omega⟩⟩
      have uN:∀t∈T,t.1<i\/(t.1=i/\t.2<(j+1:Nat)):=fun t ht=>by have:=hT t ht;omega
      by_cases cs:(0+(i:Int))=w
      · walk_at "dt"
        refine au.ev (au.kh (by decide) rfl ?_)
        walk_at "dt"
        refine fG.rel PyData.int true (fun a r=>r=(0+(j:Int))*w+a) ?_ fun os fQ hos=>?_
        · rintro a d ⟨ha,rfl⟩
          walk_at "dt"
          refine⟨by walk_at "wk",?_⟩
          walk_at "dt"
          omega
        · have lW:jb w i j os:=⟨by omega,by omega,by omega,by omega,fQ,fun a x e=>by rw[if_pos (by omega),hos a x e,lg]⟩
          walk_at "dt"
          cases kept with
          | false =>
            walk_at "dt"
            exact⟨R,T,_,_,_,by omega,hR,uN,rfl⟩
          | true =>
            walk_at "dt"
            by_cases ct:0<th
            · walk_at "dt"
              obtain⟨R',T',e,hl,hr,ht⟩:=uW os lW
              rw[e]
              exact⟨R',T',_,_,_,hl,hr,ht,rfl⟩
            · walk_at "dt"
              intro g0 g1 g2
              walk_at "dt"
              by_cases cg:0<g0
              · walk_at "dt"
                obtain⟨R',T',e,hl,hr,ht⟩:=uW os lW
                rw[e]
                exact⟨R',T',_,_,_,hl,hr,ht,rfl⟩
              · walk_at "dt"
                exact⟨R,T,_,_,_,by omega,hR,uN,rfl⟩
      · have lW:jb w i j os:=⟨by omega,by omega,by omega,by omega,fQ,fun a x e=>by rw[if_neg (by omega),hos a x e,lg,lg]⟩
        · skip
          walk_at "dt"
          cases kept with
          | false =>
            walk_at "dt"
            exact⟨R,T,_,_,_,by omega,hR,uN,rfl⟩
          | true =>
            walk_at "dt"
            by_cases ct:0<th
            · walk_at "dt"
              obtain⟨R',T',e,hl,hr,ht⟩:=uW os lW
              rw[e]
              exact⟨R',T',_,_,_,hl,hr,ht,rfl⟩
            · walk_at "dt"
              intro g0 g1 g2
              walk_at "dt"
              by_cases cg:0<g0
              · walk_at "dt"
                obtain⟨R',T',e,hl,hr,ht⟩:=uW os lW
                rw[e]
                exact⟨R',T',_,_,_,hl,hr,ht,rfl⟩
              · walk_at "dt"
                exact⟨R,T,_,_,_,by omega,hR,uN,rfl⟩
    · rintro ρ ⟨R,T,f4,x7,x8,mQ,hR,hT,rfl⟩
      exact⟨R,T,_,_,_,_,_,by rw[hmul];omega,hR,fun t ht=>by have:=hT t ht;omega,rfl⟩
  rintro ρ ⟨R,T,f4,x5,x6,x7,x8,mQ,hR,hT,rfl⟩
  refine Sv.jz 4 rfl ?_
  walk_at "dt"
  refine qq _ w R gk (by rw[show(((w+1).toNat:Nat):Int)=w+1 by omega] at mQ;exact mQ) (fun r hr=>?_) (hR.ap gk)
  obtain⟨k,hk⟩:=fY hr
  have iF:k<T.length:=by have:=(aR.mp hk).1;have:=hR.l;omega
  exact⟨_,_,hR.e k r _ hk (aH iF)⟩
theorem Ek:∀{N:List Int} {m:Nat},(N.map PyData.int).eraseIdx m=(N.eraseIdx m).map .int
 |[],_=>rfl
 |_::_,0=>rfl
 |x::N,m+1=>congrArg (PyData.int x:: ·) (Ek (N:=N) (m:=m))
theorem uA{l:List Int}(h:l.Nodup){i j:Nat}{a:Int}(hi:l[i]?=some a)(hj:l[j]?=some a):i=j:=by
 obtain⟨i1,e1⟩:=aR.mp hi
 obtain⟨j1,e2⟩:=aR.mp hj
 by_cases c:i=j
 ·exact c
 ·exfalso
  rcases Dg c with c|c
  ·exact kR.mp h i j i1 j1 c (e1.trans e2.symm)
  ·exact kR.mp h j i j1 i1 c (e2.trans e1.symm)
theorem Ko{l:List Int}(h:∀(i j:Nat) (a:Int),l[i]?=some a->l[j]?=some a->i=j):l.Nodup:=kR.mpr fun i j hi hj hij z=>by
 have:=h i j l[i] (aH hi) (by rw[z];exact aH hj)
 omega
def Dq(n:Int)(r:List Int):Prop:=r.Pairwise (· < ·)/\(∀x∈r,0<=x/\x<n)/\1<=r.length/\r.length<=39
def ze:DF:=fun ds Φ=>∃(n:Int) (R:List (List Int)),ds=[.int n, .list (R.map aJ)]/\1<=n/\n<=62/\R.length<=62/\(∀r∈R,r.Nodup/\(∀x∈r,0<=x/\x<n)/\1<=r.length/\r.length<=39)/\∀(f:Bool) (R':List (List Int)),R'.length=R.length->(∀r∈R',Dq n r)->((∀r∈R,r.Pairwise (· < ·))->Ap R->Ap R')->Φ f (.list (R'.map aJ))
theorem J4:cG ze:=by
 intro ds Φ Ψ hm z
 obtain⟨n,R,e,h1,h2,h3,h4,q⟩:=hm
 exact⟨n,R,e,h1,h2,h3,h4,fun f R' a b c=>z _ _ (q f R' a b c)⟩
theorem tH:bZ ["bag","n","rows","names","order","k"] ["bag","n","rows"] (aM tL):=⟨rfl,rfl,rfl,by decide+kernel,rfl,by decide+kernel,by decide+kernel⟩
theorem Vp(F:bK K "_law_renamed" "_law_renamed" tL f fd)(bL:Callee P w K mg base "_law_draw" 2 ["bag","many"] ig)(cE:mg "list"=none)(aO:mg "range"=none)(fP:mg "sorted"=none)(bB:mg "len"=none):
  bD P w K mg base bI 3 f fd ["bag","n","rows"] (cI 3 ze):=by
 refine F.ok tH (fun vs H Q E h=>h.1) (fun cdv A outer s H vs Q E hr h=>?_)
 obtain⟨b,l,ws,nb,ds,Φ,rfl,hB,hlive,hnb,hds,aC,hF⟩:=jf h
 obtain⟨n,R,rfl,n1,n2,mQ,hR,q⟩:=hF
 refine⟨_,(@ao _ _ _ _ _ (@aB _ _ (3) _ _ _ _ tH.nd rfl (Or.inl rfl) (@gb _ _ _ _ _ _ _ _ _ (wD rfl) rfl cE ja (@aa _ _ _ _ _ (@gb _ _ _ _ _ _ _ _ _ ux rfl aO vV (@aa _ _ _ _ _ (pv 1) af rfl) (by decide) (by decide) (by rfl) (by rfl)) af rfl) (by decide) (by decide) (by rfl) (by rfl)) (by rfl) (by first|exact .inl rfl|exact .inr rfl|assumption)) (@ao _ _ _ _ _ (@aB _ _ (4) _ _ _ _ tH.nd rfl (Or.inr rfl) (@dU _ _ _ _ af) (by rfl) (by first|exact .inl rfl|exact .inr rfl|assumption)) (@ao _ _ _ _ _ (@dX _ _ _ _ _ _ _ _ dw rfl (@eX _ _ _ _ _ _ rfl aO (@aa _ _ _ _ _ (pv 1) af rfl) (by rfl)) (aG (i:=5) tH.nd rfl (Or.inl rfl)) (@aA _ _ _ (@kB _ _ _ _ (iD jO kJ kM jU (pv 4) (@aa _ _ _ _ _ (iD jO ES Iw DY (pv 3) (@aa _ _ _ _ _ (@aF _ _ _ _ _ _ _ _ _ _ bL (hr.mono (by decide)) (@aa _ _ _ _ _ (pv 0) (@aa _ _ _ _ _ (@bT _ _ _ _ _ _ _ _ (e7 K) gx rfl bB fV (@aa _ _ _ _ _ (pv 3) af rfl) (by decide) (by decide) (by rfl) (by rfl)) af rfl) rfl) (by rfl) (by decide) (by rfl) (by rfl)) af rfl)) af rfl)) (by rfl))) (by intro _;rfl)) (@aA _ _ _ (@aY _ _ _ _ (fW (bY.of (show dg (aM tL) ["bag","n","rows","names","order","k"] _ ["row","order"] [none,some 4]=true by decide+kernel)) (@dI _ _ _ _ (pv 2)) (fun _ _ _ _=>⟨(aG (i:=0) (by show List.Nodup (["row","order"]:List Str);decide+kernel) rfl (Or.inl rfl)),fM,(@bT _ _ _ _ _ _ _ _ (zT K) TF rfl fP oS (@aa _ _ _ _ _ (by(refine' Dw (bY.of (NX:=["row","order"]) (N:=["place","order"]) (mp:=[none,some 1]) ?CB) ?zW ?BW);(case zW=>exact(IB (K:=K) rfl (pv 0)));(case BW=>exact(fun _ _ _ _=>⟨(aG (i:=0) (by show List.Nodup (["place","order"]:List Str);decide+kernel) rfl (Or.inl rfl)),fM,(aD (r:=cz K) bx (pv 1) (pv 0) (fun _ _=>rfl))⟩));(case CB=>decide+kernel)) af rfl) (by decide) (by decide) (by rfl) (by rfl))⟩))))))),?_⟩
 refine Sv.i6 hB hlive hnb hds aC (ρ:=[.ay, .d false _, .d false _, .no, .no, .no]) rfl ?_
 clear aC hds
 have hrm:(R.map aJ).length=R.length:=ak ..
 refine Sv.seq ?_
 refine Sv.pN (au.sS ?_)
 walk_at "dt"
 intro A3
 walk_at "dt"
 intro A4
 obtain⟨N0,lu⟩:∃N0,(List.range n.toNat).map (fun(i:Nat)=>(0:Int)+(i:Int))=N0:=⟨_,rfl⟩
 rw[lu]
 have UO:N0.length=n.toNat:=by rw[<-lu];simp
 have zI:∀x∈N0,0<=x/\x<n:=fun x hx=>by
  rw[<-lu] at hx
  obtain⟨i,hi,rfl⟩:=dN.mp hx
  have:=nv.mp hi;omega
 have zB:N0.Nodup:=by
  rw[<-lu]
  refine List.pairwise_map.mpr (AO.imp fun h z=>h (by omega))
 refine Sv.seq ?_
 refine Sv.j7 ?_
 walk_at "dt"
 refine⟨fun i ρ=>∃(N O:List Int) (f4:Bool) (x5:Sl),(O++N).Perm N0/\O.length=i/\ρ=[.ay, .d false (.int n), .d false (.list (R.map aJ)), .own A3 true (N.map .int), .own A4 f4 (O.map .int),x5],⟨N0,[],_,_,List.Perm.refl _,rfl,rfl⟩,?_,?_⟩
 ·rintro i d ρ ⟨hi,rfl⟩ ⟨N,O,f4,x5,hp,hO,rfl⟩
  have hl:=hp.length_eq
  rw[bz] at hl
  have Mm:(N.map PyData.int).length=N.length:=ak ..
  have Yr:(O.map PyData.int).length=O.length:=ak ..
  refine Gv.fK ?_
  refine Sv.Uo (by decide) rfl rfl ?_
  walk_at "dt"
  intro r r0 r1
  obtain⟨m,rfl⟩:=rT r0
  have hm:m<N.length:=by omega
  refine⟨m, .int N[m],rfl,by omega,by rw[aS,aH hm];rfl,by omega,?_⟩
  rw[show(N.map PyData.int).eraseIdx m=(N.eraseIdx m).map .int by rw[Ek],show O.map PyData.int++[.int N[m]]=(O++[N[m]]).map .int by rw[cL];rfl]
  refine⟨N.eraseIdx m,O++[N[m]],_,_,?_,by rw[bz];simp;omega,rfl⟩
  rw[mO]
  exact(Df O (Bf (aH hm))).trans hp
 rintro ρ ⟨N,O,f4,x5,hp,hO,rfl⟩
 have hl:=hp.length_eq
 rw[bz] at hl
 have hNe:N=[]:=nj.mp (by omega)
 subst hNe
 rw[iG] at hp
 have z0:O.Nodup:=hp.nodup_iff.mpr zB
 have OX:∀x∈O,0<=x/\x<n:=fun x hx=>zI x (hp.mem_iff.mp hx)
 have Qw:O.length=n.toNat:=by omega
 refine Sv.jz 4 rfl ?_
 walk_at "dt"
 refine au.ev (au.ir (by decide) rfl ?_)
 walk_at "dt"
 refine fun v=>fG.rel aJ true (fun j r'=>Dq n r'/\∃r,R[j]?=some r/\∀y∈r',∃x∈r,0<=x/\O[x.toNat]?=some y) ?_ fun os fQ hos=>?_
 ·rintro j d hd
  obtain⟨r,hr,rfl⟩:=dW hd
  obtain⟨qh,hrr,hr1,hr2⟩:=hR r (bh hr)
  have SG:(r.map PyData.int).length=r.length:=ak ..
  unfold aJ
  walk_at "dt"
  refine⟨by walk_at "wk",?_⟩
  refine au.ev (au.Vc ?_)
  refine au.ev (au.ir (by decide) rfl ?_)
  walk_at "dt"
  refine fun v=>fG.rel PyData.int false (fun i y=>∃x,r[i]?=some x/\O[x.toNat]?=some y) ?_ fun os fQ hos=>?_
  ·rintro i d hd
   obtain⟨x,hx,rfl⟩:=dW hd
   obtain⟨x0,x1⟩:=hrr x (bh hx)
   have jv:x.toNat<O.length:=by omega
   walk_at "dt"
   refine⟨by walk_at "wk",?_⟩
   walk_at "dt"
   exact⟨.int O[x.toNat],fS x0 (by rw[aS,aH jv];rfl),(fun z=>absurd z (by decide)),_,rfl,x,hx,aH jv⟩
  rw[SG] at fQ
  have hnd:os.Nodup:=Ko fun i j a hi hj=>by
   obtain⟨x,hx,hy⟩:=hos i a hi
   obtain⟨x',hx',hy'⟩:=hos j a hj
   have:=uA z0 hy hy'
   have h1:=hrr x (bh hx)
   have h2:=hrr x' (bh hx')
   have:x=x':=by omega
   subst this
   exact uA qh hx hx'
  refine⟨os,rfl,by omega,fun rs hrs hle=>⟨fun z=>z,rs,rfl,⟨?_,fun x hx=>?_,?_,?_⟩,r,hr,fun y hy=>?_⟩⟩
  ·have nd:=hrs.nodup_iff.mpr hnd
   exact(hle.and nd).imp fun h=>by omega
  ·obtain⟨k,hk⟩:=fY (hrs.mem_iff.mp hx)
   obtain⟨y,_,hy⟩:=hos k x hk
   exact OX x (bh hy)
  ·rw[hrs.length_eq];omega
  ·rw[hrs.length_eq];omega
  ·obtain⟨k,hk⟩:=fY (hrs.mem_iff.mp hy)
   obtain⟨x,hx,hxy⟩:=hos k y hk
   exact⟨x,bh hx,(hrr x (bh hx)).1,hxy⟩
 rw[hrm] at fQ
 have hJ:∀r∈os,Dq n r:=fun r hr=>by
  obtain⟨k,hk⟩:=fY hr
  exact(hos k r hk).1
 refine q _ os fQ hJ fun Kw hap=>(yT fun r hr=>(hJ r hr).1).mpr fun c d a b x y hcd ea eb hxy h1 h2 h3 h4=>?_
 obtain⟨_,a0,Rc,ha⟩:=hos c a ea
 obtain⟨_,b0,NR,hb⟩:=hos d b eb
 obtain⟨u,hu,u0,eu⟩:=ha x h1
 obtain⟨v,hv,v0,ev⟩:=ha y h2
 obtain⟨u',NH,XQ,Vw⟩:=hb x h3
 obtain⟨v',hv',XY,ev'⟩:=hb y h4
 have e1:=uA z0 eu Vw
 have e2:=uA z0 ev ev'
 have e3:u=u':=by omega
 have e4:v=v':=by omega
 refine(yT Kw).mp hap c d a0 b0 u v hcd Rc NR (fun z=>hxy ?_) hu hv (e3▸NH) (e4▸hv')
 rw[z,ev] at eu
 exact(gf eu).symm
theorem Pe(ks:List (Int×Int))(k:Int×Int):(mL ks k).length<=ks.length+1:=by
 unfold mL
 split
 ·omega
 ·rw[bz];simp
theorem UH{ks:List (Int×Int)}{k q:Int×Int}:q∈mL ks k↔q∈ks\/q=k:=by
 unfold mL
 split
 ·rename_i h;exact⟨.inl,fun z=>z.elim id fun z=>z▸h⟩
 ·rw[cD,aT]
def pY(n:Int)(r:List Int):Prop:=r.Pairwise (· < ·)/\(∀x∈r,0<=x/\x<n)/\r≠[]/\r.length<=30
def JG(R:List (List Int))(r:List Int)(k m:Nat)(ks:List (Int×Int)):Prop:=∀x y,(x,y)∈ks↔(∃a∈R,jt a x y)\/∃l' l:Nat,l'<l/\r[l']?=some x/\r[l]?=some y/\(l<k\/(l=k/\l'<m))
theorem Tn{R:List (List Int)}{r:List Int}(hR:∀a∈R,a.Pairwise (· < ·))(hr:r.Pairwise (· < ·))(h:Ap R)(hn:∀x y,jt r x y->∀a∈R,¬jt a x y):Ap (R++[r]):=by
 refine(AM fun a ha=>?_).mpr fun c d a b x y hcd ea eb h1 h2=>?_
 ·rcases cD.mp ha with z|z
  ·exact hR a z
  ·rw[aT.mp z];exact hr
 ·have hd:=(aR.mp eb).1
  rw[bz,fh] at hd
  have hc:c<R.length:=by omega
  rw[gu hc] at ea
  by_cases e:d<R.length
  ·rw[gu e] at eb
   exact(AM hR).mp h c d a b x y hcd ea eb h1 h2
  ·have KA:d=R.length:=by omega
   subst KA
   rw[gK (aQ _),ya] at eb
   cases eb
   exact hn x y h2 a (bh ea) h1
theorem S5{R:List (List Int)}(h:Ap R)(k:Nat):Ap (R.take k):=fun c d a b hcd ea eb _=>by
 have hc:c<k:=by have:=(aR.mp ea).1;rw[jd] at this;omega
 have hd:d<k:=by have:=(aR.mp eb).1;rw[jd] at this;omega
 rw[qb hc] at ea
 rw[qb hd] at eb
 exact h c d a b hcd ea eb trivial
theorem WE{G:Gx}{ρ:Rh}{s:TS}{E:DE}{i:Nat}{A:Addr}{ds:List PyData}{s8:Sl}(h:(∃f,s8= .d f (.list ds))\/s8= .own A true ds)(hi:ρ[i]?=some s8)(k:∀f,Sv G (ρ.set i (.d f (.list ds))) s E):Sv G ρ s E:=by
 rcases h with ⟨f,rfl⟩|rfl
 ·have e:ρ.set i (.d f (.list ds))=ρ:=by
   apply gR
   intro j
   by_cases c:i=j
   ·subst c;rw[cQ (aR.mp hi).1,hi]
   ·rw[bH c]
  rw[<-e];exact k f
 ·exact Sv.jz i hi (k true)
def Bx:DF:=fun ds Φ=>∃(n many wide:Int) (R:List (List Int)),ds=[.int n, .list (R.map aJ), .int many, .int wide]/\1<=n/\n<=400/\R.length<=60/\(∀r∈R,pY n r)/\0<=many/\many<=60/\1<=wide/\wide<=29/\∀(f:Bool) (R':List (List Int)),(R'.length:Int)=R.length+many->(∀r∈R',pY n r)->(Ap R->Ap R')->Φ f (.list (R'.map aJ))
theorem Q9:cG Bx:=by
 intro ds Φ Ψ hm z
 obtain⟨a,b,c,R,e,h1,h2,h3,h4,h5,h6,h7,h8,q⟩:=hm
 exact⟨a,b,c,R,e,h1,h2,h3,h4,h5,h6,h7,h8,fun f R' h g k=>z _ _ (q f R' h g k)⟩
theorem k8:bZ ["bag","n","rows","many","wide","seen","found","c","row","place","k","one"] ["bag","n","rows","many","wide"] (aM qJ):=⟨rfl,rfl,rfl,by decide+kernel,rfl,by decide+kernel,by decide+kernel⟩
theorem M6(F:bK K "_law_added" "_law_added" qJ f fd)(bL:Callee P w K mg base "_law_draw" 2 ["bag","many"] ig)(aO:mg "range"=none)(bB:mg "len"=none)(fP:mg "sorted"=none)(l5:mg "set"=none):
  bD P w K mg base bI 3 f fd ["bag","n","rows","many","wide"] (cI 5 Bx):=by
 refine F.ok k8 (fun vs H Q E h=>h.1) (fun cdv A outer s H vs Q E hr h=>?_)
 obtain⟨b,l,ws,nb,ds,Φ,rfl,hB,hlive,hnb,hds,aC,hF⟩:=jf h
 obtain⟨n,many,wide,R,rfl,n0,n1,mQ,MX,m0,m1,w0,w1,q⟩:=hF
 refine⟨_,(@ao _ _ _ _ _ (@aB _ _ (5) _ _ _ _ k8.nd rfl (Or.inr rfl) VU (by rfl) (by first|exact .inl rfl|exact .inr rfl|assumption)) (@ao _ _ _ _ _ (@aB _ _ (6) _ _ _ _ k8.nd rfl (Or.inl rfl) (@dU _ _ _ _ af) (by rfl) (by first|exact .inl rfl|exact .inr rfl|assumption)) (@ao _ _ _ _ _ (@dX _ _ _ _ _ _ _ _ dw rfl (@eX _ _ _ _ _ _ rfl aO (@aa _ _ _ _ _ (@az _ _ _ _ _ _ _ _ cF (@bT _ _ _ _ _ _ _ _ (e7 K) gx rfl bB fV (@aa _ _ _ _ _ (pv 2) af rfl) (by decide) (by decide) (by rfl) (by rfl)) (pv 3)) af rfl) (by rfl)) (aG (i:=7) k8.nd rfl (Or.inl rfl)) (@ao _ _ _ _ _ (@aB _ _ (8) _ _ _ _ k8.nd rfl (Or.inl rfl) (@dU _ _ _ _ af) (by rfl) (by first|exact .inl rfl|exact .inr rfl|assumption)) (@ao _ _ _ _ _ (@dB _ _ _ _ _ _ _ _ (@bA _ _ _ _ _ _ _ _ pM (pv 7) (@bT _ _ _ _ _ _ _ _ (e7 K) gx rfl bB fV (@aa _ _ _ _ _ (pv 2) af rfl) (by decide) (by decide) (by rfl) (by rfl)) (bu _)) (@aA _ _ _ (@aB _ _ (8) _ _ _ _ k8.nd rfl (Or.inl rfl) (@aD _ _ _ _ _ _ (cz K) bx (pv 2) (pv 7) (fun _ _=>rfl)) (by rfl) (by first|exact .inl rfl|exact .inr rfl|assumption))) (@aA _ _ _ (@dX _ _ _ _ _ _ _ _ dw rfl (@dI _ _ _ _ (@bT _ _ _ _ _ _ _ _ (rR P w) (xY rfl) rfl fP oS (@aa _ _ _ _ _ (@gb _ _ _ _ _ _ _ _ (rO P w K) (wQ rfl) rfl l5 BY (@aa _ _ _ _ _ (fW (bY.of (show dg (aM qJ) ["bag","n","rows","many","wide","seen","found","c","row","place","k","one"] _ ["k","bag","n"] [none,some 0,some 1]=true by decide+kernel)) (@eX _ _ _ _ _ _ rfl aO (@aa _ _ _ _ _ (@az _ _ _ _ _ _ _ _ cF ai (@aF _ _ _ _ _ _ _ _ _ _ bL (hr.mono (by decide)) (@aa _ _ _ _ _ (pv 0) (@aa _ _ _ _ _ (pv 4) af rfl) rfl) (by rfl) (by decide) (by rfl) (by rfl))) af rfl) (by rfl)) (fun _ _ _ _=>⟨(aG (i:=0) (by show List.Nodup (["k","bag","n"]:List Str);decide+kernel) rfl (Or.inl rfl)),fM,(@aF _ _ _ _ _ _ _ _ _ _ bL (hr.mono (by decide)) (@aa _ _ _ _ _ (pv 1) (@aa _ _ _ _ _ (pv 2) af rfl) rfl) (by rfl) (by decide) (by rfl) (by rfl))⟩)) af rfl) (by decide) (by decide) (by rfl) (by rfl)) af rfl) (by decide) (by decide) (by rfl) (by rfl))) (aG (i:=9) k8.nd rfl (Or.inr rfl)) (@aA _ _ _ (@dB _ _ _ _ _ _ _ _ (@bA _ _ _ _ _ _ _ _ (u5 hr.units) (fW (bY.of (show dg (aM qJ) ["bag","n","rows","many","wide","seen","found","c","row","place","k","one"] _ ["one","seen","place"] [none,some 5,some 9]=true by decide+kernel)) (@dI _ _ _ _ (pv 8)) (fun _ _ _ _=>⟨(aG (i:=0) (by show List.Nodup (["one","seen","place"]:List Str);decide+kernel) rfl (Or.inl rfl)),(lF (@bA _ _ _ _ _ _ _ _ (E9 hr.units) (@cK _ _ _ _ _ (@aa _ _ _ _ _ (pv 0) (@aa _ _ _ _ _ (pv 2) af rfl) rfl)) (pv 1) (by with_unfolding_all rfl))),(pv 0)⟩)) (@dU _ _ _ _ af) (bu _)) (@aA _ _ _ (@kB _ _ _ _ (iD jO kJ kM jU (pv 8) (@aa _ _ _ _ _ (pv 9) af rfl)) (by rfl))) dY)) (by intro _;rfl)))) (@ao _ _ _ _ _ (@dX _ _ _ _ _ _ _ _ dw rfl (@eX _ _ _ _ _ _ rfl aO (@aa _ _ _ _ _ (@bT _ _ _ _ _ _ _ _ (e7 K) gx rfl bB fV (@aa _ _ _ _ _ (pv 8) af rfl) (by decide) (by decide) (by rfl) (by rfl)) af rfl) (by rfl)) (aG (i:=10) k8.nd rfl (Or.inl rfl)) (@aA _ _ _ (@dX _ _ _ _ _ _ _ _ dw rfl (@dI _ _ _ _ (@ia _ _ _ _ _ _ _ _ _ (gJ K) iB (pv 8) g8 (@iy _ _ _ (pv 10)))) (aG (i:=11) k8.nd rfl (Or.inl rfl)) (@aA _ _ _ (@g7 _ _ _ _ _ _ mP (ki (pv 5) (@cK _ _ _ _ _ (@aa _ _ _ _ _ (pv 11) (@aa _ _ _ _ _ (@aD _ _ _ _ _ _ (cz K) bx (pv 8) (pv 10) (fun _ _=>rfl)) af rfl) rfl)) (KI hr.units)) (by rfl) (by rfl) (by rfl))) (by intro _;rfl))) (by intro _;rfl)) (@aA _ _ _ (@kB _ _ _ _ (iD jO kJ kM jU (pv 6) (@aa _ _ _ _ _ (pv 8) af rfl)) (by rfl)))))) (by intro _;rfl)) (@aA _ _ _ (@aY _ _ _ _ (pv 6)))))),?_⟩
 refine Sv.i6 hB hlive hnb hds aC (ρ:=[.ay, .d false _, .d false _, .d false _, .d false _, .no, .no, .no, .no, .no, .no, .no]) rfl ?_
 clear aC hds
 have Hv:(R.map aJ).length=R.length:=ak ..
 refine Sv.seq ?_
 refine Sv.So ?_
 intro A5
 walk_at "dt"
 intro A6
 refine Sv.seq ?_
 refine Sv.j7 ?_
 walk_at "dt"
 refine⟨fun i ρ=>∃(ks:List (Int×Int)) (Q:List (List Int)) (f6:Bool) (x7 x8 x9 cP dH:Sl),ks.length<=961*i/\Q.length=i/\(∀r∈Q,pY n r)/\(∀x y,(x,y)∈ks↔∃a∈Q,jt a x y)/\(i<=R.length->Q=R.take i)/\(Ap R->Ap Q)/\ρ=[.ay, .d false (.int n), .d false (.list (R.map aJ)), .d false (.int many), .d false (.int wide), .cu (ju A5 ks), .own A6 f6 (Q.map aJ),x7,x8,x9,cP,dH],⟨[],[],_,_,_,_,_,_,fT _,rfl,(fun _ h=>nomatch h),(fun x y=>⟨(fun z=>by cases z),(fun⟨a,z,_⟩=>by cases z)⟩),(fun _=>rfl),(fun _ c d a b _ z=>by simp at z),rfl⟩,?_,?_⟩
 ·rintro i d ρ ⟨hi,rfl⟩ ⟨ks,Q,f6,x7,x8,x9,cP,dH,hk,hQl,hQk,hks,hQt,hQa,rfl⟩
  rw[lg]
  have lU:∀a∈Q,a.Pairwise (· < ·):=fun a ha=>(hQk a ha).1
  refine Gv.fK ?_
  walk_at "dt"
  intro A8
  refine Sv.seq ?_
  refine Sv.xo (fun ρ'=>∃(r:List Int) (s8 x9 cP dH:Sl),pY n r/\(i+1<=R.length->Q++[r]=R.take (i+1))/\(Ap R->Ap (Q++[r]))/\((∃f8,s8= .d f8 (.list (r.map .int)))\/s8= .own A8 true (r.map .int))/\ρ'=[.ay, .d false (.int n), .d false (.list (R.map aJ)), .d false (.int many), .d false (.int wide), .cu (ju A5 ks), .own A6 f6 (Q.map aJ), .d true (.int (i:Int)),s8,x9,cP,dH]) ?_ ?_
  ·by_cases ci:i<R.length
   ·obtain⟨r,hr⟩:∃r,R[i]?=some r:=⟨_,aH ci⟩
    have hat:bF (R.map aJ) (i:Int)=some (aJ r):=fS (by omega) (by rw[eZ,aS,hr];rfl)
    have eQ:Q++[r]=R.take (i+1):=by rw[hQt (by omega),<-take_snoc hr]
    walk_at "dt"
    exact⟨r,_,_,_,_,MX r (bh hr),fun _=>eQ,fun z=>by rw[eQ];exact S5 z _, .inl ⟨_,rfl⟩,rfl⟩
   ·refine Sv.ow ?_
    refine Tv.test ?_
    walk_at "dt"
    refine Sv.xo (fun ρ'=>∃(Lr:List Int) (x9 cP dH:Sl),pY n Lr/\(∀x y,jt Lr x y->(x,y)∉ks)/\ρ'=[.ay, .d false (.int n), .d false (.list (R.map aJ)), .d false (.int many), .d false (.int wide), .cu (ju A5 ks), .own A6 f6 (Q.map aJ), .d true (.int (i:Int)), .own A8 true (Lr.map .int),x9,cP,dH]) ?_ ?_
    ·refine Sv.forL ?_
     refine au.ev (au.yI (au.ev (au.kh (by decide) rfl ?_)))
     walk_at "dt"
     intro k0 k1 k2
     walk_at "dt"
     refine fG.ints (fun x=>0<=x/\x<n) ?_ fun os fQ hos=>⟨os,rfl,by omega,fun rs pI hmem=>?_⟩
     ·rintro i d ⟨hi,rfl⟩
      walk_at "dt"
      refine⟨by walk_at "wk",?_⟩
      walk_at "dt"
      exact fun r r1 r2=>⟨r,rfl,r1,r2⟩
     have hrs:rs.Nodup:=pI.imp fun h=>by omega
     have hrl:0<rs.length:=by
      have:0<os.length:=by omega
      obtain⟨y,hy⟩:=Ii this
      exact EM ((hmem y).mpr hy)
     have JX:rs.length<=os.length:=ou hrs fun k hk=>(hmem k).mp hk
     have hrm:(rs.map PyData.int).length=rs.length:=ak ..
     have hrr:∀x∈rs,0<=x/\x<n:=fun x hx=>hos x ((hmem x).mp hx)
     refine⟨_,rfl,fun v=>⟨fun j ρ=>∃(Lr:List Int) (x9 cP dH:Sl),Lr.Pairwise (· < ·)/\(∀x∈Lr,x∈rs.take j)/\(0<j->Lr≠[])/\Lr.length<=j/\(∀x y,jt Lr x y->(x,y)∉ks)/\ρ=[.ay, .d false (.int n), .d false (.list (R.map aJ)), .d false (.int many), .d false (.int wide), .cu (ju A5 ks), .own A6 f6 (Q.map aJ), .d true (.int (i:Int)), .own A8 true (Lr.map .int),x9,cP,dH],⟨[],_,_,_,List.Pairwise.nil,(fun _ h=>nomatch h),(fun z=>by omega),aQ _,(fun x y ⟨_,_,_,z,_⟩=>by simp at z),rfl⟩,?_,?_⟩⟩
     ·rintro j d ρ hd ⟨Lr,x9,cP,dH,hL1,hL2,hL3,hL4,hL5,rfl⟩
      obtain⟨x,hx,rfl⟩:=dW hd
      have hjl:=(aR.mp hx).1
      have Qa:(Lr.map PyData.int).length=Lr.length:=ak ..
      have hts:=take_snoc hx
      refine Gv.fK ?_
      refine Sv.ow ?_
      refine Tv.lend 8 rfl ?_
      refine Tv.test ?_
      refine Ev.EL ?_
      refine au.ev (au.ir (by decide) rfl ?_)
      walk_at "dt"
      refine fun v=>⟨true,fun m ds=>ds=((Lr.take m).filter fun y=>decide ((y,x)∈ks)).map .int,rfl,?_,?_⟩
      ·rintro m d ds hd hl' rfl
       obtain⟨y,hy,rfl⟩:=dW hd
       walk_at "dt"
       refine⟨by walk_at "wk",?_⟩
       refine Tv.test ?_
       refine Ev.WT rfl ?_
       walk_at "dt"
       refine⟨(y,x),rfl,?_⟩
       by_cases c:(y,x)∈ks
       ·rw[decide_eq_true c]
        refine⟨_,rfl,?_⟩
        rw[if_pos (by decide)]
        walk_at "dt"
        show _=List.map _ (List.filter _ (Lr.take (m+1)))
        rw[take_snoc hy,uO,show List.filter (fun y=>decide ((y,x)∈ks)) [y]=[y] from Dk (by exact decide_eq_true c),cL]
        rfl
       ·rw[decide_eq_false c]
        refine⟨_,rfl,?_⟩
        rw[if_neg (by decide)]
        show _=List.map _ (List.filter _ (Lr.take (m+1)))
        rw[take_snoc hy,uO,xD (by rw[decide_eq_false c];decide),List.filter_nil,iG]
      rintro ds hl' rfl
      rw[Qa,gV]
      obtain⟨M,hM⟩:∃M,(Lr.filter fun y=>decide ((y,x)∈ks))=M:=⟨_,rfl⟩
      rw[hM]
      walk_at "dt"
      refine⟨L2.shaped_ints M,G9,_,rfl,?_⟩
      rw[oq,show PyData.eqv (.list (M.map .int)) (.list [])=decide (M=[]) by cases M<;>simp[PyData.eqv,PyData.eqvAll]]
      by_cases c:M=[]
      ·rw[if_pos (by simp[c])]
       have hno:∀y∈Lr,(y,x)∉ks:=fun y hy z=>by
        have:y∈Lr.filter fun y=>decide ((y,x)∈ks):=iP.mpr ⟨hy,decide_eq_true z⟩
        rw[hM,c] at this;cases this
       walk_at "dt"
       refine⟨Lr++[x],_,_,_,Im.mpr ⟨hL1,List.pairwise_singleton _ _,fun y hy z hz=>?_⟩,fun y hy=>?_,fun _=>by simp,by rw[bz];simp;omega,fun u v ⟨l',l,h1,h2,h3⟩=>?_,by rw[cL];rfl⟩
       ·rw[aT.mp hz]
        obtain⟨k,hk⟩:=fY (hL2 y hy)
        have hkj:k<j:=by have:=(aR.mp hk).1;rw[jd] at this;omega
        rw[qb hkj] at hk
        obtain⟨l1,e1⟩:=aR.mp hk
        obtain⟨l2,e2⟩:=aR.mp hx
        rw[<-e1,<-e2]
        exact kR.mp pI k j l1 l2 hkj
       ·rw[hts]
        rcases cD.mp hy with z|z
        ·exact oN _ (hL2 y z)
        ·exact iI _ z
       ·have uo:=(aR.mp h3).1
        rw[bz,fh] at uo
        rw[gu (by omega)] at h2
        by_cases e:l<Lr.length
        ·rw[gu e] at h3
         exact hL5 u v ⟨l',l,h1,h2,h3⟩
        ·rw[gK (by omega),show l-Lr.length=0 by omega] at h3
         cases h3
         exact hno u (bh h2)
      ·rw[if_neg (by simp[c])]
       refine Sv.next ?_
       refine⟨Lr,_,_,_,hL1,fun y hy=>by rw[hts];exact oN _ (hL2 y hy),fun _ z=>c ?_,by omega,hL5,rfl⟩
       rw[<-hM,z];rfl
     ·rintro ρ ⟨Lr,x9,cP,dH,hL1,hL2,hL3,hL4,hL5,rfl⟩
      rw[hrm] at hL2 hL3 hL4
      rw[gV] at hL2
      exact⟨Lr,_,_,_,⟨hL1,fun x hx=>hrr x (hL2 x hx),hL3 hrl,by omega⟩,hL5,rfl⟩
    ·rintro ρ' ⟨Lr,x9,cP,dH,hL1,hL2,rfl⟩
     refine⟨Lr,_,_,_,_,hL1,(fun z=>by omega),fun z=>Tn lU hL1.1 (hQa z) fun x y h a ha h'=>hL2 x y h ((hks x y).mpr ⟨a,ha,h'⟩), .inr rfl,rfl⟩
  ·rintro ρ' ⟨r,s8,x9,cP,dH,hr,hrt,hra,hs8,rfl⟩
   have hrm:(r.map PyData.int).length=r.length:=ak ..
   have hrl:=hr.2.2.2
   have XX:(Q.map aJ).length=Q.length:=ak ..
   refine WE (i:=8) hs8 rfl fun f8=>?_
   refine Sv.seq ?_
   refine Sv.j7 ?_
   walk_at "dt"
   refine⟨fun k ρ=>∃(KS:List (Int×Int)) (x9 cP dH:Sl),JG Q r k 0 KS/\KS.length<=961*i+31*k/\ρ=[.ay, .d false (.int n), .d false (.list (R.map aJ)), .d false (.int many), .d false (.int wide), .cu (ju A5 KS), .own A6 f6 (Q.map aJ), .d true (.int (i:Int)), .d f8 (.list (r.map .int)),x9,cP,dH],⟨ks,_,_,_,?_,by omega,rfl⟩,?_,?_⟩
   ·intro x y
    rw[hks x y]
    exact⟨.inl,fun z=>z.elim id fun⟨_,l,_,_,_,h⟩=>by omega⟩
   ·rintro k d ρ ⟨hk0,rfl⟩ ⟨KS,x9,cP,dH,hSe,iF,rfl⟩
    rw[lg]
    have hj':k<r.length:=by omega
    have yr:r[k]?=some r[k]:=aH hj'
    have XD:bF (r.map PyData.int) (k:Int)=some (.int r[k]):=fS (by omega) (by rw[eZ,aS,yr];rfl)
    refine Gv.fK ?_
    refine Sv.forL ?_
    walk_at "dt"
    have pe:eE (r.map PyData.int) none (some (k:Int))=(r.take k).map .int:=by rw[z6 (by omega) (by omega),eZ,qB]
    rw[pe]
    refine fun v=>⟨fun m ρ=>∃(KS:List (Int×Int)) (x9 dH:Sl),JG Q r k m KS/\KS.length<=961*i+31*k+m/\ρ=[.ay, .d false (.int n), .d false (.list (R.map aJ)), .d false (.int many), .d false (.int wide), .cu (ju A5 KS), .own A6 f6 (Q.map aJ), .d true (.int (i:Int)), .d f8 (.list (r.map .int)),x9, .d true (.int (k:Int)),dH],⟨KS,_,_,hSe,iF,rfl⟩,?_,?_⟩
    ·rintro m d ρ hd ⟨KS,x9,dH,hSe,iF,rfl⟩
     obtain⟨u,hu,rfl⟩:=dW hd
     have hml:=(aR.mp hu).1
     rw[jd] at hml
     rw[qb (by omega)] at hu
     refine Gv.fK ?_
     refine Sv.Ri rfl ?_
     walk_at "dt"
     refine⟨rfl,?_⟩
     walk_at "dt"
     refine⟨(u,r[k]),rfl,by omega,?_⟩
     have:=Pe KS (u,r[k])
     refine⟨_,_,_,fun x y=>?_,by omega,rfl⟩
     rw[UH,hSe x y,Prod.mk.injEq]
     constructor
     ·rintro((z|⟨l',l,h1,h2,h3,h4⟩)|⟨rfl,rfl⟩)
      ·exact .inl z
      ·exact .inr ⟨l',l,h1,h2,h3,by omega⟩
      ·exact .inr ⟨m,k,by omega,hu,yr,by omega⟩
     ·rintro(z|⟨l',l,h1,h2,h3,h4⟩)
      ·exact .inl (.inl z)
      ·by_cases c:l=k/\l'=m
       ·obtain⟨rfl,rfl⟩:=c
        rw[hu] at h2;cases h2
        rw[yr] at h3
        exact .inr ⟨rfl,(gf h3).symm⟩
       ·exact .inl (.inr ⟨l',l,h1,h2,h3,by omega⟩)
    ·rintro ρ ⟨KS,x9,dH,hSe,iF,rfl⟩
     rw[ak,jd] at iF hSe
     refine⟨KS,_,_,_,fun x y=>(hSe x y).trans (or_congr Iff.rfl ⟨fun⟨l',l,h1,h2,h3,h4⟩=>⟨l',l,h1,h2,h3,by omega⟩,fun⟨l',l,h1,h2,h3,h4⟩=>⟨l',l,h1,h2,h3,by omega⟩⟩),by omega,rfl⟩
   ·rintro ρ ⟨KS,x9,cP,dH,hSe,iF,rfl⟩
    walk_at "dt"
    refine⟨KS,Q++[r],_,_,_,_,_,_,by omega,by rw[bz,hQl];rfl,fun a ha=>?_,fun x y=>(hSe x y).trans ⟨fun z=>?_,fun z=>?_⟩,hrt,hra,by rw[cL];rfl⟩
    ·rcases cD.mp ha with z|z
     ·exact hQk a z
     ·rw[aT.mp z];exact hr
    ·rcases z with ⟨a,ha,h⟩|⟨l',l,h1,h2,h3,_⟩
     ·exact⟨a,oN _ ha,h⟩
     ·exact⟨r,iI _ (aT.mpr rfl),l',l,h1,h2,h3⟩
    ·obtain⟨a,ha,h⟩:=z
     rcases cD.mp ha with z|z
     ·exact .inl ⟨a,z,h⟩
     ·rw[aT.mp z] at h
      obtain⟨l',l,h1,h2,h3⟩:=h
      exact .inr ⟨l',l,h1,h2,h3, .inl (by have:=(aR.mp h3).1;omega)⟩
 rintro ρ ⟨ks,Q,f6,x7,x8,x9,cP,dH,hk,hQl,hQk,hks,hQt,hQa,rfl⟩
 refine Sv.jz 6 rfl ?_
 walk_at "dt"
 exact q _ Q (by omega) hQk hQa
theorem AD(a b:aq)(wd:Wo):aU (a++b) wd=aU a wd+aU b wd:=by unfold aU;rw[cL,zM]
def CY:DF:=fun ds Φ=>∃(p:Int) (row ws:List Int),ds=[.int p,aJ row,aJ ws]/\fR p/\p<10^40/\row.Pairwise (· < ·)/\(∀x∈row,0<=x/\x<ws.length)/\row.length<=400/\ws.length<=400/\(∀x∈ws,0<=x/\x<p)/\∀(f:Bool) (prs:aq),iA p ws.length prs->(prs.map (·.1)).Sublist row->aU prs (ws.map some)%p=0->Φ f (c9 prs)
theorem Oo:cG CY:=by
 intro ds Φ Ψ hm z
 obtain⟨p,row,ws,e,h1,h2,h3,h4,h5,h6,h7,q⟩:=hm
 exact⟨p,row,ws,e,h1,h2,h3,h4,h5,h6,h7,fun f prs a b c=>z _ _ (q f prs a b c)⟩
theorem pD:bZ ["bag","p","row","word","pairs","some","at","rest","factor"] ["bag","p","row","word"] (aM qV):=⟨rfl,rfl,rfl,by decide+kernel,rfl,by decide+kernel,by decide+kernel⟩
theorem Mf(F:bK K "_law_true_pairs" "_law_true_pairs" qV f fd)(nZ:Callee P w K mg base "_law_sum" 1 ["p","pairs","word"] (bC 3 o7))(qT:Callee P w K mg base "_law_over" 1 ["p","a","b"] (bC 3 sq))(bL:Callee P w K mg base "_law_draw" 2 ["bag","many"] ig)(aO:mg "range"=none)(bB:mg "len"=none):
  bD P w K mg base bI 3 f fd ["bag","p","row","word"] (cI 4 CY):=by
 refine F.ok pD (fun vs H Q E h=>h.1) (fun cdv A outer s H vs Q E hr h=>?_)
 obtain⟨b,l,ws,nb,ds,Φ,rfl,hB,hlive,hnb,hds,aC,hF⟩:=jf h
 obtain⟨p,row,ws,rfl,hp,jL,hrw,hrr,hrl,hwl,hws,q⟩:=hF
 refine⟨_,(@ao _ _ _ _ _ (kY (i:=4) pD.nd rfl rfl (bY.of (show dg (aM qV) ["bag","p","row","word","pairs","some","at","rest","factor"] _ ["place","bag","p"] [none,some 0,some 1]=true by decide+kernel)) (@dI _ _ _ _ (pv 2)) (fun _ _ _ _=>⟨(aG (i:=0) (by show List.Nodup (["place","bag","p"]:List Str);decide+kernel) rfl (Or.inl rfl)),fM,(@cK _ _ _ _ _ (@aa _ _ _ _ _ (pv 0) (@aa _ _ _ _ _ (@az _ _ _ _ _ _ _ _ cF ai (@aF _ _ _ _ _ _ _ _ _ _ bL (hr.mono (by decide)) (@aa _ _ _ _ _ (pv 1) (@aa _ _ _ _ _ (@az _ _ _ _ _ _ _ _ ic (pv 2) ai) af rfl) rfl) (by rfl) (by decide) (by rfl) (by rfl))) af rfl) rfl))⟩)) (@ao _ _ _ _ _ (kY (i:=5) pD.nd rfl rfl (bY.of (show dg (aM qV) ["bag","p","row","word","pairs","some","at","rest","factor"] _ ["k","row","word"] [none,some 2,some 3]=true by decide+kernel)) (@eX _ _ _ _ _ _ rfl aO (@aa _ _ _ _ _ (@bT _ _ _ _ _ _ _ _ (e7 K) gx rfl bB fV (@aa _ _ _ _ _ (pv 2) af rfl) (by decide) (by decide) (by rfl) (by rfl)) af rfl) (by rfl)) (fun _ _ _ _=>⟨(aG (i:=0) (by show List.Nodup (["k","row","word"]:List Str);decide+kernel) rfl (Or.inl rfl)),(lF (@bA _ _ _ _ _ _ _ _ jD (@aD _ _ _ _ _ _ (cz K) bx (pv 2) (@aD _ _ _ _ _ _ (cz K) bx (pv 1) (pv 0) (fun _ _=>rfl)) (fun _ _=>rfl)) ai (bu _))),(pv 0)⟩)) (@ao _ _ _ _ _ (@dB _ _ _ _ _ _ _ _ (@bA _ _ _ _ _ _ _ _ (u5 hr.units) (pv 5) (@dU _ _ _ _ af) (bu _)) (@aA _ _ _ (@aY _ _ _ _ (pv 4))) dY) (@ao _ _ _ _ _ (@aB _ _ (6) _ _ _ _ pD.nd rfl (Or.inl rfl) (@aD _ _ _ _ _ _ (cz K) bx (pv 5) (@aF _ _ _ _ _ _ _ _ _ _ bL (hr.mono (by decide)) (@aa _ _ _ _ _ (pv 0) (@aa _ _ _ _ _ (@bT _ _ _ _ _ _ _ _ (e7 K) gx rfl bB fV (@aa _ _ _ _ _ (pv 5) af rfl) (by decide) (by decide) (by rfl) (by rfl)) af rfl) rfl) (by rfl) (by decide) (by rfl) (by rfl)) (fun _ _=>rfl)) (by rfl) (by first|exact .inl rfl|exact .inr rfl|assumption)) (@ao _ _ _ _ _ (@aB _ _ (7) _ _ _ _ pD.nd rfl (Or.inl rfl) (@aF _ _ _ _ _ _ _ _ _ _ nZ (hr.mono (by decide)) (@aa _ _ _ _ _ (pv 1) (@aa _ _ _ _ _ (@az _ _ _ _ _ _ _ _ jn (@ia _ _ _ _ _ _ _ _ _ (gJ K) iB (pv 4) g8 (@iy _ _ _ (pv 6))) (@ia _ _ _ _ _ _ _ _ _ (gJ K) iB (pv 4) (@iy _ _ _ (@az _ _ _ _ _ _ _ _ cF (pv 6) ai)) g8)) (@aa _ _ _ _ _ (pv 3) af rfl) rfl) rfl) (by rfl) (by decide) (by rfl) (by rfl)) (by rfl) (by first|exact .inl rfl|exact .inr rfl|assumption)) (@ao _ _ _ _ _ (@dB _ _ _ _ _ _ _ _ (@bA _ _ _ _ _ _ _ _ iR (pv 7) ai (bu _)) (@aA _ _ _ (@aY _ _ _ _ (@az _ _ _ _ _ _ _ _ jn (@ia _ _ _ _ _ _ _ _ _ (gJ K) iB (pv 4) g8 (@iy _ _ _ (pv 6))) (@ia _ _ _ _ _ _ _ _ _ (gJ K) iB (pv 4) (@iy _ _ _ (@az _ _ _ _ _ _ _ _ cF (pv 6) ai)) g8)))) dY) (@ao _ _ _ _ _ (@aB _ _ (8) _ _ _ _ pD.nd rfl (Or.inl rfl) (@aF _ _ _ _ _ _ _ _ _ _ qT (hr.mono (by decide)) (@aa _ _ _ _ _ (pv 1) (@aa _ _ _ _ _ (@az _ _ _ _ _ _ _ _ ic ai (pv 7)) (@aa _ _ _ _ _ (@aD _ _ _ _ _ _ (cz K) bx (pv 3) (@aD _ _ _ _ _ _ (cz K) bx (pv 2) (pv 6) (fun _ _=>rfl)) (fun _ _=>rfl)) af rfl) rfl) rfl) (by rfl) (by decide) (by rfl) (by rfl)) (by rfl) (by first|exact .inl rfl|exact .inr rfl|assumption)) (@aA _ _ _ (@aY _ _ _ _ (@az _ _ _ _ _ _ _ _ jn (@az _ _ _ _ _ _ _ _ jn (@ia _ _ _ _ _ _ _ _ _ (gJ K) iB (pv 4) g8 (@iy _ _ _ (pv 6))) (@dU _ _ _ _ (@aa _ _ _ _ _ (@cK _ _ _ _ _ (@aa _ _ _ _ _ (@aD _ _ _ _ _ _ (cz K) bx (pv 2) (pv 6) (fun _ _=>rfl)) (@aa _ _ _ _ _ (pv 8) af rfl) rfl)) af rfl))) (@ia _ _ _ _ _ _ _ _ _ (gJ K) iB (pv 4) (@iy _ _ _ (@az _ _ _ _ _ _ _ _ cF (pv 6) ai)) g8))))))))))),?_⟩
 refine Sv.i6 hB hlive hnb hds aC (ρ:=[.ay, .d false _, .d false _, .d false _, .no, .no, .no, .no, .no]) rfl ?_
 clear aC hds
 have p2:=hp.1
 have hrm:(row.map PyData.int).length=row.length:=ak ..
 have lC:(ws.map PyData.int).length=ws.length:=ak ..
 have lQ:aJ ws=j3 (ws.map some):=by show PyData.list _=PyData.list _;rw[dD];rfl
 have n9:mY (ws.map some):=fun y hy=>by
  obtain⟨z,hz,e⟩:=dN.mp hy
  cases e
  have:=hws y hz
  unfold Sm;omega
 unfold aJ
 walk_at "dt"
 refine au.ev (au.ir (by decide) rfl ?_)
 walk_at "dt"
 refine fun v=>fG.rel pairD true (fun i pr=>row[i]?=some pr.1/\1<=pr.2/\pr.2<p) ?_ fun prs hpl bR=>?_
 ·rintro i d hd
  obtain⟨x,hx,rfl⟩:=dW hd
  walk_at "dt"
  refine⟨by walk_at "wk",?_⟩
  walk_at "dt"
  intro r r1 r2
  walk_at "dt"
  exact⟨fun _=>rfl,(x,1+r),rfl,hx,by show 1<=1+r;omega,by show 1+r<p;omega⟩
 rw[hrm] at hpl
 have lA:prs.map (·.1)=row:=by
  apply gR
  intro j
  rw[aS]
  cases e:prs[j]? with
  |none=>rw[ie (by have:=p7.mp e;omega)];rfl
  |some pr=>exact(bR j pr e).1.symm
 have lU:∀pr∈prs,0<=pr.1/\pr.1<ws.length/\1<=pr.2/\pr.2<p:=fun pr bq=>by
  obtain⟨k,hk⟩:=fY bq
  have h2:=bR k pr hk
  have h1:=hrr pr.1 (bh h2.1)
  exact⟨h1.1,h1.2,h2.2⟩
 have qh:row.Nodup:=hrw.imp fun h=>Int.ne_of_lt h
 have hQ:iA p ws.length prs:=⟨by rw[lA];exact qh,by omega,lU⟩
 have gM:(prs.map pairD).length=prs.length:=ak ..
 have E6:∀k:Nat,k<row.length->bF (row.map PyData.int) (k:Int)=some (.int (row.getD k 0))/\row[k]?=some (row.getD k 0):=fun k hk=>by
  have:row[k]?=some (row.getD k 0):=by rw[cM,aH hk];rfl
  exact⟨fS (by omega) (by rw[eZ,aS,this];rfl),this⟩
 have CH:∀x:Int,0<=x->x<ws.length->bF (ws.map PyData.int) x=some (.int (ws.getD x.toNat 0))/\ws[x.toNat]?=some (ws.getD x.toNat 0):=fun x h0 h1=>by
  have:ws[x.toNat]?=some (ws.getD x.toNat 0):=by rw[cM,aH (by omega)];rfl
  exact⟨fS h0 (by rw[aS,this];rfl),this⟩
 walk_at "dt"
 refine au.ev (au.kh (by decide) rfl ?_)
 walk_at "dt"
 refine⟨true,fun i ds=>∃S:List Int,ds=S.map .int/\(∀k∈S,0<=k/\k<row.length/\ws.getD (row.getD k.toNat 0).toNat 0≠0)/\(S=[]->∀j,j<i->ws.getD (row.getD j 0).toNat 0=0)/\S.length<=i,⟨[],rfl,(fun _ z=>by cases z),(fun _ j z=>by omega),aQ _⟩,?_,?_⟩
 ·rintro i d ds ⟨hi,rfl⟩ hl' ⟨S,rfl,qS,hS2,hS3⟩
  rw[lg]
  have hi':i<row.length:=by omega
  obtain⟨g1,g2⟩:=E6 i hi'
  obtain⟨x0,x1⟩:=hrr _ (bh g2)
  obtain⟨g3,g4⟩:=CH _ x0 x1
  walk_at "dt"
  refine⟨by walk_at "wk",?_⟩
  walk_at "dt"
  generalize hc0:ws.getD (row.getD i 0).toNat 0=w0 at*
  by_cases c:w0=0
  ·rw[if_neg (by simp[c])]
   refine⟨S,rfl,qS,fun z j hj=>?_,by omega⟩
   by_cases e:j=i
   ·rw[e,hc0];exact c
   ·exact hS2 z j (by omega)
  ·rw[if_pos (by simp[c])]
   walk_at "dt"
   refine⟨S++[(i:Int)],by rw[cL];rfl,fun k hk=>?_,fun z=>by simp at z,by rw[bz,fh];omega⟩
   rcases cD.mp hk with z|z
   ·exact qS k z
   ·rw[aT.mp z]
    exact⟨by omega,by omega,by rw[eZ,hc0];exact c⟩
 rintro ds hl' ⟨S,rfl,qS,hS2,hS3⟩
 have YA:(S.map PyData.int).length=S.length:=ak ..
 walk_at "dt"
 refine⟨L2.shaped_ints S,G9,_,rfl,?_⟩
 rw[oq,show PyData.eqv (.list (S.map .int)) (.list [])=decide (S=[]) by cases S<;>simp[PyData.eqv,PyData.eqvAll]]
 have Jc:∀pr∈prs,gp (ws.map some) pr=pr.2*ws.getD pr.1.toNat 0:=fun pr bq=>by
  obtain⟨x0,x1,_⟩:=lU pr bq
  unfold gp
  rw[aS,(CH pr.1 x0 x1).2];rfl
 by_cases cS:S=[]
 ·rw[if_pos (by rw[decide_eq_true cS];rfl)]
  walk_at "dt"
  refine q _ prs hQ (by rw[lA];exact wW _) ?_
  have hz:aU prs (ws.map some)=0:=by
   unfold aU
   rw[show prs.map (gp (ws.map some))=prs.map fun _=>0 from gn fun pr bq=>?_]
   ·generalize prs=l
    induction l with
    |nil=>rfl
    |cons a l ih=>rw[aZ,List.sum_cons,ih];rfl
   ·obtain⟨k,hk⟩:=fY bq
    have iF:=(aR.mp hk).1
    have h1:=(bR k pr hk).1
    rw[Jc pr bq]
    have h2:=hS2 cS k (by omega)
    rw[cM (l:=row),h1] at h2
    have h2:ws.getD pr.1.toNat 0=0:=h2
    rw[h2,wI]
  rw[hz];rfl
 rw[if_neg (by rw[decide_eq_false cS];decide)]
 have Yl:0<S.length:=Bp.mpr cS
 walk_at "dt"
 intro r r0 r1
 have Td:r.toNat<S.length:=by omega
 obtain⟨Sf,I0⟩:∃x,S[r.toNat]?=some x:=⟨_,aH Td⟩
 obtain⟨a0,a1,a2⟩:=qS Sf (bh I0)
 obtain⟨k,rfl⟩:=rT a0
 rw[eZ] at a2
 have OE:k<row.length:=by omega
 have Sz:bF (S.map PyData.int) r=some (.int (k:Int)):=fS r0 (by rw[aS,I0];rfl)
 refine⟨_,rfl,_,Sz,?_⟩
 obtain⟨pr,hpk⟩:∃pr,prs[k]?=some pr:=⟨_,aH (by omega)⟩
 obtain⟨b0,b1,b2,b3⟩:=lU pr (bh hpk)
 obtain⟨g1,g2⟩:=E6 k OE
 have Rg:row.getD k 0=pr.1:=by have:=(bR k pr hpk).1;rw[g2] at this;exact gf this
 rw[Rg] at g1 a2
 obtain⟨g3,g4⟩:=CH pr.1 b0 b1
 have hwr:=hws (ws.getD pr.1.toNat 0) (bh g4)
 have Yp:gp (ws.map some) pr=pr.2*ws.getD pr.1.toNat 0:=Jc pr (bh hpk)
 have mK:∀f,gp (ws.map some) (pr.1,f)=f*ws.getD pr.1.toNat 0:=fun f=>by
  unfold gp
  rw[aS,g4];rfl
 generalize ws.getD pr.1.toNat 0=w0 at*
 have hc1:eE (prs.map pairD) none (some (k:Int))=(prs.take k).map pairD:=by rw[z6 (by omega) (by omega),eZ,qB]
 have hc2:eE (prs.map pairD) (some ((k:Int)+1)) none=(prs.drop (k+1)).map pairD:=by rw[Hg (by omega) (by omega),show((k:Int)+1).toNat=k+1 by omega,List.map_drop]
 have hl1:(prs.take k).length=k:=by rw[jd];omega
 have hl2:(prs.drop (k+1)).length=prs.length-(k+1):=rA ..
 have hm1:((prs.take k).map pairD).length=(prs.take k).length:=ak ..
 have hm2:((prs.drop (k+1)).map pairD).length=(prs.drop (k+1)).length:=ak ..
 have vz:prs=prs.take k++pr::prs.drop (k+1):=by
  obtain⟨hk1,hk2⟩:=aR.mp hpk
  rw[<-hk2,List.getElem_cons_drop,List.take_append_drop]
 obtain⟨P1,J0⟩:∃P1,prs.take k=P1:=⟨_,rfl⟩
 obtain⟨P2,JO⟩:∃P2,prs.drop (k+1)=P2:=⟨_,rfl⟩
 rw[J0,JO] at vz
 rw[J0] at hc1 hl1 hm1
 rw[JO] at hc2 hl2 hm2
 have vM:∀x∈P1++P2,x∈prs:=fun x hx=>by
  rw[vz]
  rcases cD.mp hx with z|z
  ·exact oN _ z
  ·exact iI _ (cX _ z)
 have hsub:(P1++P2).Sublist prs:=by
  rw[vz]
  exact(wW _).append (List.sublist_cons_self _ _)
 have AL:pU (P1++P2) (ws.map some).length:=fun x hx=>by
  obtain⟨c0,c1,c2,c3⟩:=lU x (vM x hx)
  exact⟨c0,by rw[ak];omega,by unfold Sm;omega⟩
 walk_at "dt"
 refine Ev.c8 wH ?_
 walk_at "dt"
 rw[hc1,hc2]
 refine⟨by omega,?_⟩
 rw[<-cL]
 walk_at "dt"
 refine⟨rfl,p,P1++P2,ws.map some,by show[_,_,PyData.list _]=_;rw[show PyData.list (ws.map PyData.int)=j3 (ws.map some) from lQ],by omega,by rw[bz];omega,AL,n9,?_⟩
 have R0:=dR (aU (P1++P2) (ws.map some)) (show p≠0 by omega)
 have R1:=dQ (aU (P1++P2) (ws.map some)) (show 0<p by omega)
 obtain⟨R,hR⟩:∃R,aU (P1++P2) (ws.map some)%p=R:=⟨_,rfl⟩
 rw[hR] at R0 R1⊢
 by_cases cR:R=0
 ·subst cR
  walk_at "dt"
  rw[hc1,hc2]
  refine⟨by omega,?_⟩
  rw[<-cL]
  refine q _ (P1++P2) ⟨(hsub.map _).nodup hQ.1,by rw[bz];omega,fun x hx=>lU x (vM x hx)⟩ (by rw[<-lA];exact hsub.map _) hR
 have hwp:w0%p≠0:=by rw[jY (by omega) (by omega)];exact a2
 walk_at "dt"
 refine Ev.c8 Ck ?_
 walk_at "dt"
 refine⟨rfl,p,0-R,w0,rfl,hp,jL,hwp,by omega,by omega,fun⟨j,hj⟩=>?_⟩
 have hs:=vI (p:=p) (b:=w0) (a:=0-R) (by omega)
 generalize sol p w0 (0-R)=sl at*
 have hs1:sl≠0:=fun z=>by
  subst z
  rw[wI] at hj
  have K6:R=p*j:=by omega
  rcases qz j 0 with z|z|z
  ·have:p*j<=p*(-1):=lN (by omega) (by omega)
   omega
  ·subst z;omega
  ·have:p*1<=p*j:=lN (by omega) (by omega)
   omega
 walk_at "dt"
 rw[hc1]
 refine⟨by show _+1<=_;omega,_,rfl,?_⟩
 walk_at "dt"
 rw[hc2]
 have eL:(P1++[(pr.1,sl)]++P2).map pairD=P1.map pairD++[pairD (pr.1,sl)]++P2.map pairD:=by rw[cL,cL];rfl
 refine⟨by rw[bz];show _+1+_<=_;omega,?_⟩
 show Φ _ (.list (P1.map pairD++[pairD (pr.1,sl)]++P2.map pairD))
 rw[<-eL]
 have Jh:(P1++[(pr.1,sl)]++P2).map (·.1)=row:=by
  rw[<-lA,vz]
  simp
 refine q _ (P1++[(pr.1,sl)]++P2) ⟨by rw[Jh];exact qh,by rw[bz,bz];show _+1+_<=_;omega,fun x hx=>?_⟩ (by rw[Jh];exact wW _) ?_
 ·rcases cD.mp hx with z|z
  ·rcases cD.mp z with z|z
   ·exact lU x (vM x (oN _ z))
   ·rw[aT.mp z]
    exact⟨b0,b1,by show 1<=sl;omega,hs.2⟩
  ·exact lU x (vM x (iI _ z))
 ·have hD:=AD P1 P2 (ws.map some)
  have vL:aU (P1++[(pr.1,sl)]++P2) (ws.map some)=aU (P1++P2) (ws.map some)+sl*w0:=by
   rw[AD,AD,hD]
   have:aU [(pr.1,sl)] (ws.map some)=sl*w0:=by unfold aU;rw[List.map_singleton,mK];simp
   omega
  have hE:=mz (aU (P1++P2) (ws.map some)) p
  rw[hR] at hE
  apply o9
  refine⟨j+aU (P1++P2) (ws.map some)/p,?_⟩
  rw[vL,yC,qM sl]
  omega
def zH:DF:=fun ds Φ=>∃(places many wide:Int),ds=[.int places, .int many, .int wide]/\1<=places/\places<=400/\0<=many/\many<=400/\1<=wide/\wide<=60/\∀(p n:Int) (cs:List aq) (f:Bool),fX p n cs->n<=places->(cs.length:Int)<=many->Φ f (bW p n cs)
theorem Vr:cG zH:=by
 intro ds Φ Ψ hm z
 obtain⟨a,b,c,e,h1,h2,h3,h4,h5,h6,q⟩:=hm
 exact⟨a,b,c,e,h1,h2,h3,h4,h5,h6,fun p n cs f h g k=>z _ _ (q p n cs f h g k)⟩
theorem pJ:bZ ["bag","places","many","wide","p","n","checks","c","there"] ["bag","places","many","wide"] (aM rL):=⟨rfl,rfl,rfl,by decide+kernel,rfl,by decide+kernel,by decide+kernel⟩
theorem S1(F:bK K "_law_net" "_law_net" rL f fd)(xN:Callee P w K mg base "_law_prime" 3 ["bag"] (cI 1 uV))(bL:Callee P w K mg base "_law_draw" 2 ["bag","many"] ig)(aO:mg "range"=none)(fP:mg "sorted"=none)(l5:mg "set"=none):
  bD P w K mg base bI 4 f fd ["bag","places","many","wide"] (cI 4 zH):=by
 refine F.ok pJ (fun vs H Q E h=>h.1) (fun cdv A outer s H vs Q E hr h=>?_)
 obtain⟨b,l,ws,nb,ds,Φ,rfl,hB,hlive,hnb,hds,aC,hF⟩:=jf h
 obtain⟨places,many,wide,rfl,l1,l2,m1,m2,w1,w2,q⟩:=hF
 refine⟨_,(@ao _ _ _ _ _ (@aB _ _ (4) _ _ _ _ pJ.nd rfl (Or.inr rfl) (@aF _ _ _ _ _ _ _ _ _ _ xN (hr.mono (by decide)) (@aa _ _ _ _ _ (pv 0) af rfl) (by rfl) (by decide) (by rfl) (by rfl)) (by rfl) (by first|exact .inl rfl|exact .inr rfl|assumption)) (@ao _ _ _ _ _ (@aB _ _ (5) _ _ _ _ pJ.nd rfl (Or.inr rfl) (@az _ _ _ _ _ _ _ _ cF ai (@aF _ _ _ _ _ _ _ _ _ _ bL (hr.mono (by decide)) (@aa _ _ _ _ _ (pv 0) (@aa _ _ _ _ _ (pv 1) af rfl) rfl) (by rfl) (by decide) (by rfl) (by rfl))) (by rfl) (by first|exact .inl rfl|exact .inr rfl|assumption)) (@ao _ _ _ _ _ (@aB _ _ (6) _ _ _ _ pJ.nd rfl (Or.inl rfl) (@dU _ _ _ _ af) (by rfl) (by first|exact .inl rfl|exact .inr rfl|assumption)) (@ao _ _ _ _ _ (@dX _ _ _ _ _ _ _ _ dw rfl (@eX _ _ _ _ _ _ rfl aO (@aa _ _ _ _ _ (@aF _ _ _ _ _ _ _ _ _ _ bL (hr.mono (by decide)) (@aa _ _ _ _ _ (pv 0) (@aa _ _ _ _ _ (@az _ _ _ _ _ _ _ _ cF (pv 2) ai) af rfl) rfl) (by rfl) (by decide) (by rfl) (by rfl)) af rfl) (by rfl)) (aG (i:=7) pJ.nd rfl (Or.inl rfl)) (@ao _ _ _ _ _ (@aB _ _ (8) _ _ _ _ pJ.nd rfl (Or.inl rfl) (@bT _ _ _ _ _ _ _ _ (rR P w) (xY rfl) rfl fP oS (@aa _ _ _ _ _ (@gb _ _ _ _ _ _ _ _ (rO P w K) (wQ rfl) rfl l5 BY (@aa _ _ _ _ _ (fW (bY.of (show dg (aM rL) ["bag","places","many","wide","p","n","checks","c","there"] _ ["k","bag","n"] [none,some 0,some 5]=true by decide+kernel)) (@eX _ _ _ _ _ _ rfl aO (@aa _ _ _ _ _ (@az _ _ _ _ _ _ _ _ cF ai (@aF _ _ _ _ _ _ _ _ _ _ bL (hr.mono (by decide)) (@aa _ _ _ _ _ (pv 0) (@aa _ _ _ _ _ (pv 3) af rfl) rfl) (by rfl) (by decide) (by rfl) (by rfl))) af rfl) (by rfl)) (fun _ _ _ _=>⟨(aG (i:=0) (by show List.Nodup (["k","bag","n"]:List Str);decide+kernel) rfl (Or.inl rfl)),fM,(@aF _ _ _ _ _ _ _ _ _ _ bL (hr.mono (by decide)) (@aa _ _ _ _ _ (pv 1) (@aa _ _ _ _ _ (pv 2) af rfl) rfl) (by rfl) (by decide) (by rfl) (by rfl))⟩)) af rfl) (by decide) (by decide) (by rfl) (by rfl)) af rfl) (by decide) (by decide) (by rfl) (by rfl)) (by rfl) (by first|exact .inl rfl|exact .inr rfl|assumption)) (@aA _ _ _ (@kB _ _ _ _ (iD jO kJ kM jU (pv 6) (@aa _ _ _ _ _ (fW (bY.of (show dg (aM rL) ["bag","places","many","wide","p","n","checks","c","there"] _ ["place","bag","p"] [none,some 0,some 4]=true by decide+kernel)) (@dI _ _ _ _ (pv 8)) (fun _ _ _ _=>⟨(aG (i:=0) (by show List.Nodup (["place","bag","p"]:List Str);decide+kernel) rfl (Or.inl rfl)),fM,(@cK _ _ _ _ _ (@aa _ _ _ _ _ (pv 0) (@aa _ _ _ _ _ (@az _ _ _ _ _ _ _ _ cF ai (@aF _ _ _ _ _ _ _ _ _ _ bL (hr.mono (by decide)) (@aa _ _ _ _ _ (pv 1) (@aa _ _ _ _ _ (@az _ _ _ _ _ _ _ _ ic (pv 2) ai) af rfl) rfl) (by rfl) (by decide) (by rfl) (by rfl))) af rfl) rfl))⟩)) af rfl)) (by rfl)))) (by intro _;rfl)) (@aA _ _ _ (@aY _ _ _ _ (@cK _ _ _ _ _ (@aa _ _ _ _ _ (pv 4) (@aa _ _ _ _ _ (pv 5) (@aa _ _ _ _ _ (pv 6) af rfl) rfl) rfl)))))))),?_⟩
 refine Sv.i6 hB hlive hnb hds aC (ρ:=[.ay, .d false _, .d false _, .d false _, .no, .no, .no, .no, .no]) rfl ?_
 clear aC hds
 walk_at "dt"
 refine Ev.fZ IT rfl ?_
 walk_at "dt"
 refine⟨rfl,fun p hp jL f=>?_⟩
 have p2:=hp.1
 refine Gv.fK ?_
 walk_at "dt"
 intro n n0 n1
 walk_at "dt"
 intro A6
 refine Sv.seq ?_
 refine Sv.j7 ?_
 walk_at "dt"
 intro m mm0 mm1
 walk_at "dt"
 refine⟨fun c ρ=>∃(cs:List aq) (f6:Bool) (x7 x8:Sl),cs.length<=c/\(∀prs∈cs,iA p (1+n).toNat prs)/\ρ=[.ay, .d false (.int places), .d false (.int many), .d false (.int wide), .d true (.int p), .d true (.int (1+n)), .own A6 f6 (cs.map c9),x7,x8],⟨[],_,_,_,aQ _,(fun _ h=>nomatch h),rfl⟩,?_,?_⟩
 ·rintro c d ρ ⟨hc,rfl⟩ ⟨cs,f6,x7,x8,hcl,hcs,rfl⟩
  refine Gv.fK ?_
  walk_at "dt"
  refine au.ev (au.yI (au.ev (au.kh (by decide) rfl ?_)))
  walk_at "dt"
  intro k0 k1 k2
  walk_at "dt"
  refine fG.ints (fun x=>0<=x/\x<1+n) ?_ fun os fQ hos=>⟨os,rfl,by omega,fun rs pI hmem=>?_⟩
  ·rintro i d ⟨hi,rfl⟩
   walk_at "dt"
   refine⟨by walk_at "wk",?_⟩
   walk_at "dt"
   exact fun r r1 r2=>⟨r,rfl,r1,r2⟩
  have hrs:rs.Nodup:=pI.imp fun h=>by omega
  have JX:rs.length<=os.length:=ou hrs fun k hk=>(hmem k).mp hk
  walk_at "dt"
  refine au.ev (au.ir (by decide) rfl ?_)
  walk_at "dt"
  refine⟨by rw[ak];omega,fun v=>fG.rel pairD true (fun i pr=>rs[i]?=some pr.1/\1<=pr.2/\pr.2<p) ?_ fun prs hpl bR=>?_⟩
  ·rintro i d hd
   obtain⟨x,hx,rfl⟩:=dW hd
   walk_at "dt"
   refine⟨by walk_at "wk",?_⟩
   walk_at "dt"
   intro r r1 r2
   walk_at "dt"
   exact⟨fun _=>rfl,(x,1+r),rfl,hx,by show 1<=1+r;omega,by show 1+r<p;omega⟩
  rw[ak] at hpl
  have lA:prs.map (·.1)=rs:=by
   apply gR
   intro j
   rw[aS]
   cases e:prs[j]? with
   |none=>rw[ie (by have:=p7.mp e;omega)];rfl
   |some pr=>exact(bR j pr e).1.symm
  have hQ:iA p (1+n).toNat prs:=⟨by rw[lA];exact hrs,by omega,fun pr bq=>by
   obtain⟨k,hk⟩:=fY bq
   have h2:=bR k pr hk
   have h1:=hos pr.1 ((hmem _).mp (bh h2.1))
   omega⟩
  refine⟨by rw[ak];omega,?_⟩
  refine⟨cs++[prs],_,_,_,by rw[bz,fh];omega,fun q' hq'=>?_,by rw[cL];rfl⟩
  rcases cD.mp hq' with h|h
  ·exact hcs q' h
  ·rw[aT.mp h];exact hQ
 ·rintro ρ ⟨cs,f6,x7,x8,hcl,hcs,rfl⟩
  refine Sv.jz 6 rfl ?_
  walk_at "dt"
  exact q p (1+n) cs _ ⟨hp,jL,by omega,by omega,by omega,hcs⟩ (by omega) (by omega)
def tR:Option aq->PyData
 |none=> .none
 |some prs=>c9 prs
def yZ:DF:=fun ds Φ=>∃(p wide:Int) (wd:List Int),ds=[.int p, .list (wd.map .int), .int wide]/\fR p/\p<10^40/\1<=wd.length/\wd.length<=400/\(∀x∈wd,0<=x/\x<p)/\1<=wide/\wide<=60/\∀(o:Option aq) (f:Bool),(∀prs,o=some prs->iA p wd.length prs)->Φ f (tR o)
theorem OM:cG yZ:=by
 intro ds Φ Ψ hm z
 obtain⟨p,w,wd,e,h1,h2,h3,h4,h5,h6,h7,q⟩:=hm
 exact⟨p,w,wd,e,h1,h2,h3,h4,h5,h6,h7,fun o f h=>z _ _ (q o f h)⟩
theorem pK:bZ ["bag","p","word","wide","n","places","pairs","rest","last"] ["bag","p","word","wide"] (aM rV):=⟨rfl,rfl,rfl,by decide+kernel,rfl,by decide+kernel,by decide+kernel⟩
theorem Om(F:bK K "_law_planted_check" "_law_planted_check" rV f fd)(nZ:Callee P w K mg base "_law_sum" 1 ["p","pairs","word"] (bC 3 o7))(bL:Callee P w K mg base "_law_draw" 2 ["bag","many"] ig)(qT:Callee P w K mg base "_law_over" 1 ["p","a","b"] (bC 3 sq))(bB:mg "len"=none)(fP:mg "sorted"=none)(l5:mg "set"=none)(aO:mg "range"=none):
  bD P w K mg base bI 3 f fd ["bag","p","word","wide"] (cI 4 yZ):=by
 refine F.ok pK (fun vs H Q E h=>h.1) (fun cdv A outer s H vs Q E hr h=>?_)
 obtain⟨b,l,ws,nb,ds,Φ,rfl,hB,hlive,hnb,hds,aC,hF⟩:=jf h
 obtain⟨p,wide,wd,rfl,hp,jL,w1,w2,tX,d1,d2,q⟩:=hF
 refine⟨_,(@ao _ _ _ _ _ (@aB _ _ (4) _ _ _ _ pK.nd rfl (Or.inr rfl) (@bT _ _ _ _ _ _ _ _ (e7 K) gx rfl bB fV (@aa _ _ _ _ _ (pv 2) af rfl) (by decide) (by decide) (by rfl) (by rfl)) (by rfl) (by first|exact .inl rfl|exact .inr rfl|assumption)) (@ao _ _ _ _ _ (@aB _ _ (5) _ _ _ _ pK.nd rfl (Or.inl rfl) (@bT _ _ _ _ _ _ _ _ (rR P w) (xY rfl) rfl fP oS (@aa _ _ _ _ _ (@gb _ _ _ _ _ _ _ _ (rO P w K) (wQ rfl) rfl l5 BY (@aa _ _ _ _ _ (fW (bY.of (show dg (aM rV) ["bag","p","word","wide","n","places","pairs","rest","last"] _ ["k","bag","n"] [none,some 0,some 4]=true by decide+kernel)) (@eX _ _ _ _ _ _ rfl aO (@aa _ _ _ _ _ (@az _ _ _ _ _ _ _ _ cF ai (@aF _ _ _ _ _ _ _ _ _ _ bL (hr.mono (by decide)) (@aa _ _ _ _ _ (pv 0) (@aa _ _ _ _ _ (pv 3) af rfl) rfl) (by rfl) (by decide) (by rfl) (by rfl))) af rfl) (by rfl)) (fun _ _ _ _=>⟨(aG (i:=0) (by show List.Nodup (["k","bag","n"]:List Str);decide+kernel) rfl (Or.inl rfl)),fM,(@aF _ _ _ _ _ _ _ _ _ _ bL (hr.mono (by decide)) (@aa _ _ _ _ _ (pv 1) (@aa _ _ _ _ _ (pv 2) af rfl) rfl) (by rfl) (by decide) (by rfl) (by rfl))⟩)) af rfl) (by decide) (by decide) (by rfl) (by rfl)) af rfl) (by decide) (by decide) (by rfl) (by rfl)) (by rfl) (by first|exact .inl rfl|exact .inr rfl|assumption)) (@ao _ _ _ _ _ (kY (i:=6) pK.nd rfl rfl (bY.of (show dg (aM rV) ["bag","p","word","wide","n","places","pairs","rest","last"] _ ["place","bag","p"] [none,some 0,some 1]=true by decide+kernel)) (@dI _ _ _ _ (pv 5)) (fun _ _ _ _=>⟨(aG (i:=0) (by show List.Nodup (["place","bag","p"]:List Str);decide+kernel) rfl (Or.inl rfl)),fM,(@cK _ _ _ _ _ (@aa _ _ _ _ _ (pv 0) (@aa _ _ _ _ _ (@az _ _ _ _ _ _ _ _ cF ai (@aF _ _ _ _ _ _ _ _ _ _ bL (hr.mono (by decide)) (@aa _ _ _ _ _ (pv 1) (@aa _ _ _ _ _ (@az _ _ _ _ _ _ _ _ ic (pv 2) ai) af rfl) rfl) (by rfl) (by decide) (by rfl) (by rfl))) af rfl) rfl))⟩)) (@ao _ _ _ _ _ (@aB _ _ (7) _ _ _ _ pK.nd rfl (Or.inl rfl) (@aF _ _ _ _ _ _ _ _ _ _ nZ (hr.mono (by decide)) (@aa _ _ _ _ _ (pv 1) (@aa _ _ _ _ _ (@ia _ _ _ _ _ _ _ _ _ (gJ K) iB (pv 6) g8 (@iy _ _ _ (@oQ _ _ _ _ _ _ om ai))) (@aa _ _ _ _ _ (pv 2) af rfl) rfl) rfl) (by rfl) (by decide) (by rfl) (by rfl)) (by rfl) (by first|exact .inl rfl|exact .inr rfl|assumption)) (@ao _ _ _ _ _ (@aB _ _ (8) _ _ _ _ pK.nd rfl (Or.inl rfl) (@aD _ _ _ _ _ _ (cz K) bx (pv 5) (@oQ _ _ _ _ _ _ om ai) (fun _ _=>rfl)) (by rfl) (by first|exact .inl rfl|exact .inr rfl|assumption)) (@ao _ _ _ _ _ (@dB _ _ _ _ _ _ _ _ (PW.pt (oE (@bA _ _ _ _ _ _ _ _ jD (pv 7) ai (bu _)) (nI (@bA _ _ _ _ _ _ _ _ jD (@aD _ _ _ _ _ _ (cz K) bx (pv 2) (pv 8) (fun _ _=>rfl)) ai (bu _))))) (@aA _ _ _ (@aY _ _ _ _ (@az _ _ _ _ _ _ _ _ jn (@ia _ _ _ _ _ _ _ _ _ (gJ K) iB (pv 6) g8 (@iy _ _ _ (@oQ _ _ _ _ _ _ om ai))) (@dU _ _ _ _ (@aa _ _ _ _ _ (@cK _ _ _ _ _ (@aa _ _ _ _ _ (pv 8) (@aa _ _ _ _ _ (@aF _ _ _ _ _ _ _ _ _ _ qT (hr.mono (by decide)) (@aa _ _ _ _ _ (pv 1) (@aa _ _ _ _ _ (@az _ _ _ _ _ _ _ _ ic ai (pv 7)) (@aa _ _ _ _ _ (@aD _ _ _ _ _ _ (cz K) bx (pv 2) (pv 8) (fun _ _=>rfl)) af rfl) rfl) rfl) (by rfl) (by decide) (by rfl) (by rfl)) af rfl) rfl)) af rfl))))) dY) (@ao _ _ _ _ _ (@dB _ _ _ _ _ _ _ _ (PW.pt (oE (@bA _ _ _ _ _ _ _ _ iR (pv 7) ai (bu _)) (nI (@bA _ _ _ _ _ _ _ _ iR (@aD _ _ _ _ _ _ (cz K) bx (pv 2) (pv 8) (fun _ _=>rfl)) ai (bu _))))) (@aA _ _ _ (@aY _ _ _ _ (pv 6))) dY) (@aA _ _ _ (@aY _ _ _ _ (@FF _ _ _ _ _ _ _ _ (PW.pt (oE (@bA _ _ _ _ _ _ _ _ iR (pv 7) ai (bu _)) (nI (@bA _ _ _ _ _ _ _ _ nH (@bT _ _ _ _ _ _ _ _ (e7 K) gx rfl bB fV (@aa _ _ _ _ _ (pv 6) af rfl) (by decide) (by decide) (by rfl) (by rfl)) ai (bu _))))) (@ia _ _ _ _ _ _ _ _ _ (gJ K) iB (pv 6) g8 (@iy _ _ _ (@oQ _ _ _ _ _ _ om ai))) mF)))))))))),?_⟩
 refine Sv.i6 hB hlive hnb hds aC (ρ:=[.ay, .d false _, .d false _, .d false _, .no, .no, .no, .no, .no]) rfl ?_
 clear aC hds
 have p2:=hp.1
 have IL:(wd.map PyData.int).length=wd.length:=ak ..
 have hsm:∀x:Int,0<=x->x<=p->Sm x:=fun x x0 x1=>by unfold Sm;omega
 walk_at "dt"
 refine au.ev (au.yI (au.ev (au.kh (by decide) rfl ?_)))
 walk_at "dt"
 intro k0 k1 k2
 walk_at "dt"
 refine fG.ints (fun x=>0<=x/\x<(wd.map PyData.int).length) ?_ fun os fQ hos=>⟨os,rfl,by omega,fun rs pI hmem=>?_⟩
 ·rintro i d ⟨hi,rfl⟩
  walk_at "dt"
  refine⟨by walk_at "wk",?_⟩
  walk_at "dt"
  exact fun r r1 r2=>⟨r,rfl,r1,r2⟩
 have hrs:rs.Nodup:=pI.imp fun h=>by omega
 have hrl:0<rs.length:=by
  have:0<os.length:=by omega
  obtain⟨y,hy⟩:=Ii this
  exact EM ((hmem y).mpr hy)
 have JX:rs.length<=os.length:=ou hrs fun k hk=>(hmem k).mp hk
 walk_at "dt"
 refine au.ev (au.ir (by decide) rfl ?_)
 walk_at "dt"
 refine⟨by rw[ak];omega,fun v=>fG.rel pairD true (fun i pr=>rs[i]?=some pr.1/\1<=pr.2/\pr.2<p) ?_ fun prs hpl bR=>?_⟩
 ·rintro i d hd
  obtain⟨x,hx,rfl⟩:=dW hd
  walk_at "dt"
  refine⟨by walk_at "wk",?_⟩
  walk_at "dt"
  intro r r1 r2
  walk_at "dt"
  exact⟨fun _=>rfl,(x,1+r),rfl,hx,by show 1<=1+r;omega,by show 1+r<p;omega⟩
 rw[ak] at hpl
 have lA:prs.map (·.1)=rs:=by
  apply gR
  intro j
  rw[aS]
  cases e:prs[j]? with
  |none=>rw[ie (by have:=p7.mp e;omega)];rfl
  |some pr=>exact(bR j pr e).1.symm
 have hQ:iA p wd.length prs:=⟨by rw[lA];exact hrs,by omega,fun pr bq=>by
  obtain⟨k,hk⟩:=fY bq
  have h2:=bR k pr hk
  have h1:=hos pr.1 ((hmem _).mp (bh h2.1))
  omega⟩
 have RO:(prs.map pairD).length=prs.length:=ak ..
 have pe:eE (prs.map pairD) none (some (-1))=prs.dropLast.map pairD:=by
  unfold eE HT.eB
  simp only[Bd,Nat.sub_zero]
  rw[List.dropLast_eq_take,qB,RO]
  congr 1
  first|omega|(split<;>omega)
 have hdl:prs.dropLast.length=prs.length-1:=List.length_dropLast ..
 have yM:iA p wd.length prs.dropLast:=⟨((List.dropLast_sublist prs).map _).nodup hQ.1,by omega,fun pr bq=>hQ.2.2 pr (List.dropLast_subset _ bq)⟩
 have IF:rs.length-1<rs.length:=by omega
 have U1:bF (rs.map PyData.int) (-1)=some (.int rs[rs.length-1]):=by
  unfold bF eW
  rw[if_neg (by decide),if_pos (by rw[ak];omega)]
  show(rs.map PyData.int)[_]?=_
  rw[aS,ak,show(-1+(rs.length:Int)).toNat=rs.length-1 by omega,aH IF];rfl
 obtain⟨last,mD⟩:∃x,rs[rs.length-1]=x:=⟨_,rfl⟩
 rw[mD] at U1
 have xF:0<=last/\last<wd.length:=by
  have:=hos last ((hmem _).mp (mD▸gP IF))
  omega
 have hlt:last.toNat<wd.length:=by omega
 have Yo:bF (wd.map PyData.int) last=some (.int wd[last.toNat]):=fS xF.1 (by rw[aS,aH hlt];rfl)
 have hwl:=tX _ (gP hlt)
 generalize wd[last.toNat]=wl at*
 have hD:wd.map PyData.int=(wd.map some).map gF:=by rw[dD];rfl
 have Sq:pU prs.dropLast (wd.map some).length:=fun pr bq=>by
  have:=yM.2.2 pr bq
  rw[ak]
  exact⟨this.1,this.2.1,hsm _ (by omega) (by omega)⟩
 have Ls:mY (wd.map some):=fun x hx=>by
  obtain⟨y,hy,e⟩:=dN.mp hx
  cases e
  have:=tX x hy
  exact hsm x (by omega) (by omega)
 walk_at "dt"
 refine Ev.c8 wH ?_
 walk_at "dt"
 refine⟨rfl,p,prs.dropLast,wd.map some,by show[_,PyData.list _,PyData.list _]=_;rw[pe,hD],by omega,by omega,Sq,Ls,?_⟩
 have R0:=dR (aU prs.dropLast (wd.map some)) (show p≠0 by omega)
 have R1:=dQ (aU prs.dropLast (wd.map some)) (show 0<p by omega)
 generalize aU prs.dropLast (wd.map some)%p=R at*
 walk_at "dt"
 by_cases cR:R=0
 ·walk_at "dt"
  by_cases cw:wl=0
  ·walk_at "dt"
   exact q (some prs) _ (fun _ e=>by cases e;exact hQ)
  ·walk_at "dt"
   by_cases cl:1<((prs.map pairD).length:Int)
   ·walk_at "dt"
    rw[pe]
    exact q (some prs.dropLast) _ (fun _ e=>by cases e;exact yM)
   ·walk_at "dt"
    exact q none _ (fun _ e=>by cases e)
 ·walk_at "dt"
  by_cases cw:wl=0
  ·walk_at "dt"
   exact q none _ (fun _ e=>by cases e)
  ·have hwp:wl%p≠0:=by rw[jY (by omega) (by omega)];exact cw
   walk_at "dt"
   refine Ev.c8 Ck ?_
   walk_at "dt"
   refine⟨rfl,p,0-R,wl,rfl,hp,jL,hwp,by omega,by omega,fun⟨k,hk⟩=>?_⟩
   have hs:=vI (p:=p) (b:=wl) (a:=0-R) (by omega)
   generalize sol p wl (0-R)=sl at*
   have hs1:sl≠0:=fun z=>by
    subst z
    rw[wI] at hk
    have K6:R=p*k:=by omega
    rcases qz k 0 with z|z|z
    ·have:p*k<=p*(-1):=lN (by omega) (by omega)
     omega
    ·subst z;omega
    ·have:p*1<=p*k:=lN (by omega) (by omega)
     omega
   walk_at "dt"
   refine⟨by rw[pe,ak];show _+1<=10000;omega,?_⟩
   show Φ _ (.list (eE (prs.map pairD) none (some (-1))++[pairD (last,sl)]))
   rw[pe,show(prs.dropLast.map pairD++[pairD (last,sl)])=(prs.dropLast++[(last,sl)]).map pairD by rw[cL];rfl]
   refine q (some (prs.dropLast++[(last,sl)])) _ (fun _ e=>?_)
   cases e
   have hdr:(prs.dropLast++[(last,sl)]).map (·.1)=rs:=by
    rw[cL,List.map_dropLast,lA,List.map_singleton,<-mD]
    have:=List.dropLast_concat_getLast (GL hrl)
    rw[List.getLast_eq_getElem] at this
    exact this
   refine⟨by rw[hdr];exact hrs,by rw[bz,fh];omega,fun pr bq=>?_⟩
   rcases cD.mp bq with h|h
   ·exact yM.2.2 pr h
   ·rw[aT.mp h]
    exact⟨xF.1,xF.2,by show 1<=sl;omega,hs.2⟩
def Bh:DF:=fun ds Φ=>∃(p many wide:Int) (wd:List Int),ds=[.int p, .list (wd.map .int), .int many, .int wide]/\fR p/\p<10^40/\1<=wd.length/\wd.length<=400/\(∀x∈wd,0<=x/\x<p)/\0<=many/\many<=400/\1<=wide/\wide<=60/\∀(cs:List aq) (f:Bool),(cs.length:Int)<=many->(∀prs∈cs,iA p wd.length prs)->Φ f (bW p wd.length cs)
theorem Xy:cG Bh:=by
 intro ds Φ Ψ hm z
 obtain⟨p,m,w,wd,e,h1,h2,h3,h4,h5,h6,h7,h8,h9,q⟩:=hm
 exact⟨p,m,w,wd,e,h1,h2,h3,h4,h5,h6,h7,h8,h9,fun cs f a b=>z _ _ (q cs f a b)⟩
theorem Ol(o:Option aq):pH (tR o)=o.isNone:=by cases o<;>rfl
theorem Eo:bZ ["bag","p","word","many","wide","checks"] ["bag","p","word","many","wide"] (aM rm):=⟨rfl,rfl,rfl,by decide+kernel,rfl,by decide+kernel,by decide+kernel⟩
theorem Mp(F:bK K "_law_planted" "_law_planted" rm f fd)(VT:Callee P w K mg base "_law_planted_check" 3 ["bag","p","word","wide"] (cI 4 yZ))(bB:mg "len"=none)(aO:mg "range"=none):
    bD P w K mg base bI 4 f fd ["bag","p","word","many","wide"] (cI 5 Bh):=by
  refine F.ok Eo (fun vs H Q E h=>h.1) (fun cdv A outer s H vs Q E hr h=>?_)
  obtain⟨b,l,ws,nb,ds,Φ,rfl,hB,hlive,hnb,hds,aC,hF⟩:=jf h
  obtain⟨p,many,wide,wd,rfl,hp,jL,w1,w2,tX,m1,m2,d1,d2,q⟩:=hF
  refine⟨_,(@ao _ _ _ _ _ (kY (i:=5) Eo.nd rfl rfl (bY.of (show dg (aM rm) ["bag","p","word","many","wide","checks"] _ ["c","bag","p","word","wide"] [none,some 0,some 1,some 2,some 4]=true by decide+kernel)) (@eX _ _ _ _ _ _ rfl aO (@aa _ _ _ _ _ (pv 3) af rfl) (by rfl)) (fun _ _ _ _=>⟨(aG (i:=0) (by show List.Nodup (["c","bag","p","word","wide"]:List Str);decide+kernel) rfl (Or.inl rfl)),fM,(@aF _ _ _ _ _ _ _ _ _ _ VT (hr.mono (by decide)) (@aa _ _ _ _ _ (pv 1) (@aa _ _ _ _ _ (pv 2) (@aa _ _ _ _ _ (pv 3) (@aa _ _ _ _ _ (pv 4) af rfl) rfl) rfl) rfl) (by rfl) (by decide) (by rfl) (by rfl))⟩)) (@aA _ _ _ (@aY _ _ _ _ (@cK _ _ _ _ _ (@aa _ _ _ _ _ (pv 1) (@aa _ _ _ _ _ (@bT _ _ _ _ _ _ _ _ (e7 K) gx rfl bB fV (@aa _ _ _ _ _ (pv 2) af rfl) (by decide) (by decide) (by rfl) (by rfl)) (@aa _ _ _ _ _ (fW (bY.of (show dg (aM rm) ["bag","p","word","many","wide","checks"] _ ["pairs"] [none]=true by decide+kernel)) (@dI _ _ _ _ (pv 5)) (fun _ _ _ _=>⟨(aG (i:=0) (by show List.Nodup (["pairs"]:List Str);decide+kernel) rfl (Or.inl rfl)),(lF (@bA _ _ _ _ _ _ _ _ vA (pv 0) mF (bu _))),(pv 0)⟩)) af rfl) rfl) rfl))))),?_⟩
  refine Sv.i6 hB hlive hnb hds aC (ρ:=[.ay, .d false _, .d false _, .d false _, .d false _, .no]) rfl ?_
  clear aC hds
  have IL:(wd.map PyData.int).length=wd.length:=ak ..
  walk_at "dt"
  refine au.ev (au.kh (by decide) rfl ?_)
  walk_at "dt"
  refine fG.rel tR false (fun _ o=>∀prs,o=some prs->iA p wd.length prs) ?_ fun os fQ hos=>?_
  · rintro i d ⟨hi,rfl⟩
    walk_at "dt"
    refine⟨by walk_at "wk",?_⟩
    refine Ev.fZ OM rfl ?_
    walk_at "dt"
    exact⟨rfl,p,wide,wd,rfl,hp,jL,w1,w2,tX,d1,d2,fun o f h=>⟨(fun z=>by cases z),o,rfl,h⟩⟩
  walk_at "dt"
  refine au.ev (au.ir (by decide) rfl ?_)
  walk_at "dt"
  refine⟨by rw[ak];omega,fun v=>⟨false,fun i ds=>∃es:List aq,ds=es.map c9/\es.length<=i/\∀prs∈es,iA p wd.length prs,⟨[],rfl,aQ _,(fun _ h=>nomatch h)⟩,?_,?_⟩⟩
  · rintro j d ds hd hl' ⟨es,rfl,hel,hes⟩
    obtain⟨o,ho,rfl⟩:=dW hd
    walk_at "dt"
    refine⟨by walk_at "wk",?_⟩
    walk_at "dt"
    rw[Ol]
    cases o with
    | none =>
      walk_at "dt"
      exact⟨es,rfl,by omega,hes⟩
    | some prs =>
      rw[show tR (some prs)=c9 prs from rfl]
      walk_at "dt"
      refine⟨es++[prs],by rw[cL];rfl,by simp;omega,fun q hq=>?_⟩
      rcases cD.mp hq with h|h
      · exact hes q h
      · rw[aT.mp h];exact hos j _ ho prs rfl
  rintro ds hl' ⟨es,rfl,hel,hes⟩
  walk_at "dt"
  rw[ak] at hel
  show Φ _ (.tuple [.int p, .int ((wd.map PyData.int).length:Int), .list (es.map c9)])
  rw[IL]
  exact q es _ (by omega) hes
def BC:DF:=fun ds Φ=>∃(places many wide:Int),ds=[.int places, .int many, .int wide]/\1<=places/\places<=400/\0<=many/\many<=400/\1<=wide/\wide<=60/\
 ∀(p n:Int) (cs:List aq) (ws:List Int) (f:Bool),fX p n cs->n<=places->(cs.length:Int)<=many->ws.length=n.toNat->(∀x∈ws,0<=x/\x<p)->Φ f (.tuple [bW p n cs,aJ ws])
theorem Qu:cG BC:=by
 intro ds Φ Ψ hm z
 obtain⟨a,b,c,e,h1,h2,h3,h4,h5,h6,q⟩:=hm
 exact⟨a,b,c,e,h1,h2,h3,h4,h5,h6,fun p n cs ws f h g k l m=>z _ _ (q p n cs ws f h g k l m)⟩
theorem lB:bZ ["bag","places","many","wide","way","net","p","word","k","at"] ["bag","places","many","wide"] (aM Ay):=⟨rfl,rfl,rfl,by decide+kernel,rfl,by decide+kernel,by decide+kernel⟩
theorem R5(F:bK K "_law_net_and_word" "_law_net_and_word" Ay f fd)(bL:Callee P w K mg base "_law_draw" 2 ["bag","many"] ig)(UB:Callee P w K mg base "_law_net" 4 ["bag","places","many","wide"] (cI 4 zH))(tE:Callee P w K mg base "_law_letters" 3 ["bag","p","n"] (cI 3 uZ))(Uu:Callee P w K mg base "_law_planted" 4 ["bag","p","word","many","wide"] (cI 5 Bh))(aO:mg "range"=none):
  bD P w K mg base bI 5 f fd ["bag","places","many","wide"] (cI 4 BC):=by
 refine F.ok lB (fun vs H Q E h=>h.1) (fun cdv A outer s H vs Q E hr h=>?_)
 obtain⟨b,l,ws,nb,ds,Φ,rfl,hB,hlive,hnb,hds,aC,hF⟩:=jf h
 obtain⟨places,many,wide,rfl,l1,l2,m1,m2,w1,w2,q⟩:=hF
 refine⟨_,(@ao _ _ _ _ _ (@aB _ _ (4) _ _ _ _ lB.nd rfl (Or.inl rfl) (@aF _ _ _ _ _ _ _ _ _ _ bL (hr.mono (by decide)) (@aa _ _ _ _ _ (pv 0) (@aa _ _ _ _ _ ai af rfl) rfl) (by rfl) (by decide) (by rfl) (by rfl)) (by rfl) (by first|exact .inl rfl|exact .inr rfl|assumption)) (@ao _ _ _ _ _ (@aB _ _ (5) _ _ _ _ lB.nd rfl (Or.inl rfl) (@aF _ _ _ _ _ _ _ _ _ _ UB (hr.mono (by decide)) (@aa _ _ _ _ _ (pv 0) (@aa _ _ _ _ _ (pv 1) (@aa _ _ _ _ _ (pv 2) (@aa _ _ _ _ _ (pv 3) af rfl) rfl) rfl) rfl) (by rfl) (by decide) (by rfl) (by rfl)) (by rfl) (by first|exact .inl rfl|exact .inr rfl|assumption)) (@ao _ _ _ _ _ (@aB _ _ (6) _ _ _ _ lB.nd rfl (Or.inl rfl) (@aD _ _ _ _ _ _ (bN K) cA (pv 5) ai (fun _ _=>rfl)) (by rfl) (by first|exact .inl rfl|exact .inr rfl|assumption)) (@ao _ _ _ _ _ (@aB _ _ (7) _ _ _ _ lB.nd rfl (Or.inl rfl) (@aF _ _ _ _ _ _ _ _ _ _ tE (hr.mono (by decide)) (@aa _ _ _ _ _ (pv 0) (@aa _ _ _ _ _ (pv 6) (@aa _ _ _ _ _ (@aD _ _ _ _ _ _ (bN K) cA (pv 5) ai (fun _ _=>rfl)) af rfl) rfl) rfl) (by rfl) (by decide) (by rfl) (by rfl)) (by rfl) (by first|exact .inl rfl|exact .inr rfl|assumption)) (@ao _ _ _ _ _ (@dB _ _ _ _ _ _ _ _ (@bA _ _ _ _ _ _ _ _ nH (pv 4) ai (bu _)) (@ao _ _ _ _ _ (@aB _ _ (5) _ _ _ _ lB.nd rfl (Or.inl rfl) (@aF _ _ _ _ _ _ _ _ _ _ Uu (hr.mono (by decide)) (@aa _ _ _ _ _ (pv 0) (@aa _ _ _ _ _ (pv 6) (@aa _ _ _ _ _ (pv 7) (@aa _ _ _ _ _ (pv 2) (@aa _ _ _ _ _ (pv 3) af rfl) rfl) rfl) rfl) rfl) (by rfl) (by decide) (by rfl) (by rfl)) (by rfl) (by first|exact .inl rfl|exact .inr rfl|assumption)) (@aA _ _ _ (@dX _ _ _ _ _ _ _ _ dw rfl (@eX _ _ _ _ _ _ rfl aO (@aa _ _ _ _ _ (@aF _ _ _ _ _ _ _ _ _ _ bL (hr.mono (by decide)) (@aa _ _ _ _ _ (pv 0) (@aa _ _ _ _ _ ai af rfl) rfl) (by rfl) (by decide) (by rfl) (by rfl)) af rfl) (by rfl)) (aG (i:=8) lB.nd rfl (Or.inl rfl)) (@ao _ _ _ _ _ (@aB _ _ (9) _ _ _ _ lB.nd rfl (Or.inl rfl) (@aF _ _ _ _ _ _ _ _ _ _ bL (hr.mono (by decide)) (@aa _ _ _ _ _ (pv 0) (@aa _ _ _ _ _ (@aD _ _ _ _ _ _ (bN K) cA (pv 5) ai (fun _ _=>rfl)) af rfl) rfl) (by rfl) (by decide) (by rfl) (by rfl)) (by rfl) (by first|exact .inl rfl|exact .inr rfl|assumption)) (@aA _ _ _ (@aB _ _ (7) _ _ _ _ lB.nd rfl (Or.inl rfl) (@az _ _ _ _ _ _ _ _ jn (@az _ _ _ _ _ _ _ _ jn (@ia _ _ _ _ _ _ _ _ _ (gJ K) iB (pv 7) g8 (@iy _ _ _ (pv 9))) (@dU _ _ _ _ (@aa _ _ _ _ _ (@aF _ _ _ _ _ _ _ _ _ _ bL (hr.mono (by decide)) (@aa _ _ _ _ _ (pv 0) (@aa _ _ _ _ _ (pv 6) af rfl) rfl) (by rfl) (by decide) (by rfl) (by rfl)) af rfl))) (@ia _ _ _ _ _ _ _ _ _ (gJ K) iB (pv 7) (@iy _ _ _ (@az _ _ _ _ _ _ _ _ cF (pv 9) ai)) g8)) (by rfl) (by first|exact .inl rfl|exact .inr rfl|assumption)))) (by intro _;rfl)))) dY) (@aA _ _ _ (@aY _ _ _ _ (@cK _ _ _ _ _ (@aa _ _ _ _ _ (pv 5) (@aa _ _ _ _ _ (pv 7) af rfl) rfl))))))))),?_⟩
 refine Sv.i6 hB hlive hnb hds aC (ρ:=[.ay, .d false _, .d false _, .d false _, .no, .no, .no, .no, .no, .no]) rfl ?_
 clear aC hds
 walk_at "dt"
 intro way y0 y1
 walk_at "dt"
 refine Ev.fZ Vr rfl ?_
 walk_at "dt"
 refine⟨rfl,places,many,wide,rfl,l1,l2,m1,m2,w1,w2,fun p n cs f hN hn hc=>?_⟩
 have p2:=hN.hp.1
 have eU:=hN.eU
 have n0:=hN.n0
 have n1:=hN.n1
 have hpk:DM p:=⟨by omega,by omega⟩
 refine Gv.name ?_
 walk_at "dt"
 refine Ev.fZ Dl rfl ?_
 walk_at "dt"
 refine⟨rfl,p,n,rfl,hpk,by omega,by omega,fun os fQ hos=>?_⟩
 refine Gv.name ?_
 refine Sv.seq ?_
 refine Sv.xo (fun ρ'=>∃(cs:List aq) (ws:List Int) (f5 f7:Bool) (x8 x9:Sl),fX p n cs/\(cs.length:Int)<=many/\ws.length=n.toNat/\(∀x∈ws,0<=x/\x<p)/\ρ'=[.ay, .d false (.int places), .d false (.int many), .d false (.int wide), .d true (.int way), .d f5 (bW p n cs), .d true (.int p), .d f7 (aJ ws),x8,x9]) ?_ ?_
 ·walk_at "dt"
  by_cases c:1<way
  ·rw[if_pos (by simpa using c)]
   walk_at "dt"
   refine Ev.fZ Xy rfl ?_
   walk_at "dt"
   refine⟨rfl,p,many,wide,os,rfl,hN.hp,eU,by omega,by omega,hos,m1,m2,w1,w2,fun cs' f' hcl hcs=>?_⟩
   rw[fQ]
   have Dd:fX p n cs':=⟨hN.hp,eU,n0,n1,by omega,fun prs bR=>by have:=hcs prs bR;rwa[show os.length=n.toNat by omega] at this⟩
   refine Gv.name ?_
   refine Sv.j7 ?_
   walk_at "dt"
   intro m mm0 mm1
   walk_at "dt"
   refine⟨fun i ρ=>∃(ws:List Int) (f5 f7:Bool) (x8 x9:Sl),ws.length=n.toNat/\(∀x∈ws,0<=x/\x<p)/\ρ=[.ay, .d false (.int places), .d false (.int many), .d false (.int wide), .d true (.int way), .d f5 (bW p n cs'), .d true (.int p), .d f7 (aJ ws),x8,x9],⟨os,_,_,_,_,by omega,hos,rfl⟩,?_,?_⟩
   ·rintro i d ρ ⟨hi,rfl⟩ ⟨ws,f5,f7,x8,x9,hwl,hws,rfl⟩
    have lC:(ws.map PyData.int).length=ws.length:=ak ..
    refine Gv.fK ?_
    walk_at "dt"
    intro at_ t0 t1
    walk_at "dt"
    intro x x0 x1
    have hc1:=Hi (xs:=ws.map PyData.int) (lo:=none) (hi:=some at_)
    have hc2:=Hi (xs:=ws.map PyData.int) (lo:=some (at_+1)) (hi:=none)
    have mK:=JB (xs:=ws.map PyData.int) (y:=PyData.int x) t0 (by rw[lC];omega)
    rw[<-qP] at mK
    walk_at "dt"
    refine⟨by show _+1<=10000;omega,_,rfl,?_⟩
    walk_at "dt"
    refine⟨by rw[bz];show _+1+_<=10000;omega,?_⟩
    refine Gv.name ?_
    show∃(ws:List Int) (f5 f7:Bool) (x8 x9:Sl),_
    refine⟨ws.set at_.toNat x,_,_,_,_,by rw[gC];exact hwl,fun y hy=>?_,by rw[show aJ (ws.set at_.toNat x)=PyData.list ((ws.set at_.toNat x).map PyData.int) from rfl,<-mK];rfl⟩
    rcases p9 hy with z|z
    ·exact hws y z
    ·rw[z];exact⟨x0,x1⟩
   ·rintro ρ ⟨ws,f5,f7,x8,x9,hwl,hws,rfl⟩
    exact⟨cs',ws,f5,f7,x8,x9,Dd,hcl,hwl,hws,rfl⟩
  ·rw[if_neg (by simpa using c)]
   walk_at "dt"
   exact⟨cs,os,_,_,_,_,hN,hc,by omega,hos,rfl⟩
 rintro ρ' ⟨cs',ws,f5,f7,x8,x9,Dd,hcl,hwl,hws,rfl⟩
 walk_at "dt"
 exact q p n cs' ws _ Dd hn hcl hwl hws
theorem Hf:∀{N:List Int} {m:Nat},(N.map PyData.int).eraseIdx m=(N.eraseIdx m).map .int
 |[],_=>rfl
 |_::_,0=>rfl
 |x::N,m+1=>congrArg (PyData.int x:: ·) (Hf (N:=N) (m:=m))
structure IW(p:Int)(ws xs:List Int)(O:List Int):Prop where
 l:xs.length=ws.length
 r:∀x∈xs,0<=x/\x<p
 nd:O.Nodup
 o:∀k∈O,0<=k/\k<ws.length
 e:∀i,i<ws.length->(xs.getD i 0≠ws.getD i 0↔(i:Int)∈O)
def z9:DF:=fun ds Φ=>∃(p m:Int) (ws:List Int),ds=[.int p,aJ ws, .int m]/\2<=p/\p<10^40/\ws.length<=400/\(∀x∈ws,0<=x/\x<p)/\0<=m/\m<=ws.length/\∀(f:Bool) (xs O:List Int),IW p ws xs O->(O.length:Int)=m->Φ f (aJ xs)
theorem KN:cG z9:=by
 intro ds Φ Ψ hm z
 obtain⟨p,m,ws,e,h1,h2,h3,h4,h5,h6,q⟩:=hm
 exact⟨p,m,ws,e,h1,h2,h3,h4,h5,h6,fun f xs O a b=>z _ _ (q f xs O a b)⟩
theorem rX:bZ ["bag","p","word","many","left","found","k","place"] ["bag","p","word","many"] (aM Ao):=⟨rfl,rfl,rfl,by decide+kernel,rfl,by decide+kernel,by decide+kernel⟩
theorem NN(F:bK K "_law_wrong" "_law_wrong" Ao f fd)(bL:Callee P w K mg base "_law_draw" 2 ["bag","many"] ig)(cE:mg "list"=none)(aO:mg "range"=none)(bB:mg "len"=none):
  bD P w K mg base bI 3 f fd ["bag","p","word","many"] (cI 4 z9):=by
 refine F.ok rX (fun vs H Q E h=>h.1) (fun cdv A outer s H vs Q E hr h=>?_)
 obtain⟨b,l,ws,nb,ds,Φ,rfl,hB,hlive,hnb,hds,aC,hF⟩:=jf h
 obtain⟨p,m,ws,rfl,p2,eU,hwl,hws,m0,m1,q⟩:=hF
 refine⟨_,(@ao _ _ _ _ _ (@aB _ _ (4) _ _ _ _ rX.nd rfl (Or.inl rfl) (@gb _ _ _ _ _ _ _ _ _ (wD rfl) rfl cE ja (@aa _ _ _ _ _ (@gb _ _ _ _ _ _ _ _ _ ux rfl aO vV (@aa _ _ _ _ _ (@bT _ _ _ _ _ _ _ _ (e7 K) gx rfl bB fV (@aa _ _ _ _ _ (pv 2) af rfl) (by decide) (by decide) (by rfl) (by rfl)) af rfl) (by decide) (by decide) (by rfl) (by rfl)) af rfl) (by decide) (by decide) (by rfl) (by rfl)) (by rfl) (by first|exact .inl rfl|exact .inr rfl|assumption)) (@ao _ _ _ _ _ (@aB _ _ (5) _ _ _ _ rX.nd rfl (Or.inl rfl) (@gb _ _ _ _ _ _ _ _ (lK K) qm rfl cE ja (@aa _ _ _ _ _ (pv 2) af rfl) (by decide) (by decide) (by rfl) (by rfl)) (by rfl) (by first|exact .inl rfl|exact .inr rfl|assumption)) (@ao _ _ _ _ _ (@dX _ _ _ _ _ _ _ _ dw rfl (@eX _ _ _ _ _ _ rfl aO (@aa _ _ _ _ _ (pv 3) af rfl) (by rfl)) (aG (i:=6) rX.nd rfl (Or.inl rfl)) (@ao _ _ _ _ _ (@aB _ _ (7) _ _ _ _ rX.nd rfl (Or.inl rfl) (iD jO ES Iw DY (pv 4) (@aa _ _ _ _ _ (@aF _ _ _ _ _ _ _ _ _ _ bL (hr.mono (by decide)) (@aa _ _ _ _ _ (pv 0) (@aa _ _ _ _ _ (@bT _ _ _ _ _ _ _ _ (e7 K) gx rfl bB fV (@aa _ _ _ _ _ (pv 4) af rfl) (by decide) (by decide) (by rfl) (by rfl)) af rfl) rfl) (by rfl) (by decide) (by rfl) (by rfl)) af rfl)) (by rfl) (by first|exact .inl rfl|exact .inr rfl|assumption)) (@aA _ _ _ (@g7 _ _ _ _ _ _ (@az _ _ _ _ _ _ _ _ iH (@az _ _ _ _ _ _ _ _ cF (@az _ _ _ _ _ _ _ _ cF (@aD _ _ _ _ _ _ (cz K) bx (pv 2) (pv 7) (fun _ _=>rfl)) ai) (@aF _ _ _ _ _ _ _ _ _ _ bL (hr.mono (by decide)) (@aa _ _ _ _ _ (pv 0) (@aa _ _ _ _ _ (@az _ _ _ _ _ _ _ _ ic (pv 1) ai) af rfl) rfl) (by rfl) (by decide) (by rfl) (by rfl))) (pv 1)) (ki (pv 5) (pv 7) set_list) (by rfl) (by rfl) (by rfl)))) (by intro _;rfl)) (@aA _ _ _ (@aY _ _ _ _ (pv 5)))))),?_⟩
 refine Sv.i6 hB hlive hnb hds aC (ρ:=[.ay, .d false _, .d false _, .d false _, .no, .no, .no, .no]) rfl ?_
 clear aC hds
 have lC:(ws.map PyData.int).length=ws.length:=ak ..
 unfold aJ
 refine Sv.seq ?_
 refine Sv.pN (au.sS ?_)
 walk_at "dt"
 intro A4
 obtain⟨N0,lu⟩:∃N0,(List.range ((ws.map PyData.int).length:Int).toNat).map (fun(i:Nat)=>(0:Int)+(i:Int))=N0:=⟨_,rfl⟩
 rw[lu]
 have UO:N0.length=ws.length:=by rw[<-lu];simp
 have zI:∀x∈N0,0<=x/\x<ws.length:=fun x hx=>by
  rw[<-lu] at hx
  obtain⟨i,hi,rfl⟩:=dN.mp hx
  have:=nv.mp hi;omega
 have zB:N0.Nodup:=by
  rw[<-lu]
  refine List.pairwise_map.mpr (AO.imp fun h z=>h (by omega))
 refine Sv.seq ?_
 refine Sv.pN (au.listOf ?_)
 walk_at "dt"
 intro A5
 refine Sv.seq ?_
 refine Sv.j7 ?_
 walk_at "dt"
 refine⟨fun i ρ=>∃(N O xs:List Int) (f5:Bool) (x6 x7:Sl),(O++N).Perm N0/\O.length=i/\IW p ws xs O/\ρ=[.ay, .d false (.int p), .d false (.list (ws.map .int)), .d false (.int m), .own A4 true (N.map .int), .own A5 f5 (xs.map .int),x6,x7],⟨N0,[],ws,_,_,_,List.Perm.refl _,rfl,⟨rfl,hws,mG,(fun _ z=>by cases z),fun i _=>⟨fun z=>absurd rfl z,fun z=>by cases z⟩⟩,rfl⟩,?_,?_⟩
 ·rintro i d ρ ⟨hi,rfl⟩ ⟨N,O,xs,f5,x6,x7,hp,hO,hW,rfl⟩
  have hl:=hp.length_eq
  rw[bz] at hl
  have Mm:(N.map PyData.int).length=N.length:=ak ..
  have jv:=hW.l
  have rC:(xs.map PyData.int).length=xs.length:=ak ..
  refine Gv.fK ?_
  refine Sv.seq ?_
  refine Sv.OL rfl ?_
  walk_at "dt"
  intro r r0 r1
  obtain⟨k,rfl⟩:=rT r0
  have hk:k<N.length:=by omega
  obtain⟨pl,hpl⟩:∃pl,N[k]?=some pl:=⟨_,aH hk⟩
  refine⟨k, .int pl,rfl,by omega,by rw[aS,hpl];rfl,?_⟩
  rw[Hf]
  have gM:(O++[pl]++N.eraseIdx k).Perm N0:=by
   rw[mO]
   exact(Df O (Bf hpl)).trans hp
  have Lu:pl∈N0:=hp.mem_iff.mp (iI _ (bh hpl))
  obtain⟨Jj,TU⟩:=zI pl Lu
  have Eb:(O++[pl]).Nodup:=((List.sublist_append_left _ _).nodup (gM.nodup_iff.mpr zB))
  have YD:pl∉O:=fun z=>by
   have:=oH.mp Eb
   exact this.2.2 pl z pl (aT.mpr rfl) rfl
  have Ed:pl.toNat<ws.length:=by omega
  have M5:bF (ws.map PyData.int) pl=some (.int (ws.getD pl.toNat 0)):=fS Jj (by rw[aS,cM,aH Ed];rfl)
  have hwr:=hws (ws.getD pl.toNat 0) (by rw[cM,aH Ed];exact gP _)
  have hix:eW (xs.map PyData.int).length pl=some pl.toNat:=by
   unfold eW
   rw[rC,jv]
   repeat (first|rw[if_pos (by omega)]|rw[if_neg (by omega)])
  walk_at "dt"
  intro y y0 y1
  walk_at "dt"
  refine⟨_,_,rfl,hix,?_⟩
  obtain⟨z,hz⟩:∃z,(ws.getD pl.toNat 0+1+y)%p=z:=⟨_,rfl⟩
  have Lv:0<=z/\z<p:=by rw[<-hz];exact⟨dR _ (by omega),dQ _ (by omega)⟩
  have QO:z≠ws.getD pl.toNat 0:=fun e=>by
   rw[<-hz] at e
   by_cases c:ws.getD pl.toNat 0+1+y<p
   ·rw[jY (by omega) c] at e;omega
   ·rw[show ws.getD pl.toNat 0+1+y=(ws.getD pl.toNat 0+1+y-p)+p*1 by omega,BX,jY (by omega) (by omega)] at e;omega
  rw[hz,<-qP]
  refine⟨N.eraseIdx k,O++[pl],xs.set pl.toNat z,_,_,_,gM,by rw[bz,fh];omega,⟨by rw[gC];exact jv,fun x hx=>(p9 hx).elim (hW.r x) fun e=>e▸Lv,Eb,fun j hj=>?_,fun j hj=>?_⟩,rfl⟩
  ·rcases cD.mp hj with q|q
   ·exact hW.o j q
   ·rw[aT.mp q];exact⟨Jj,TU⟩
  ·by_cases c:pl.toNat=j
   ·subst c
    rw[cM,cQ (by omega)]
    refine⟨fun _=>?_,fun _=>QO⟩
    rw[show((pl.toNat:Nat):Int)=pl by omega]
    exact iI _ (aT.mpr rfl)
   ·rw[cM,bH c,<-cM,hW.e j hj,cD,aT]
    exact⟨.inl,fun q=>q.elim id fun q=>by omega⟩
 rintro ρ ⟨N,O,xs,f5,x6,x7,hp,hO,hW,rfl⟩
 refine Sv.jz 5 rfl ?_
 walk_at "dt"
 exact q _ xs O hW (by omega)
def Au:Nat->PyData->Prop
 |0,_=>False
 |n+1,d=>jR d=true\/∃ds,(d= .list ds\/d= .tuple ds)/\ds.length<=10000/\∀e∈ds,Au n e
def pX(n:Nat):DF:=fun ds Φ=>∃d,ds=[d,d]/\Au n d/\Φ true (.bool true)
theorem ve(n:Nat):cG (pX n):=fun ds Φ Ψ ⟨d,e,h,q⟩ z=>⟨d,e,h,z _ _ q⟩
theorem Wm:∀vs H Q E,¬bC 2 (pX 0) vs H Q E:=fun vs H Q E ⟨_,_,_,_,_,d,_,h,_⟩=>h
theorem Px:bZ ["found","due"] ["found","due"] (aM uR):=⟨rfl,rfl,rfl,by decide+kernel,rfl,by decide+kernel,by decide+kernel⟩
theorem rE(n:Nat)(F:bK K "_law_alike" "_law_alike" uR f fd)(wA:Callee P w K mg base "_law_alike" (n) ["found","due"] (bC 2 (pX n)))(g9:mg "isinstance"=none)(cE:mg "list"=none)(mh:mg "tuple"=none)(oR:mg "all"=none)(bB:mg "len"=none)(l8:mg "bool"=none)(j9:mg "int"=none)(l6:mg "str"=none)(aO:mg "range"=none):
  bD P w K mg base bI (n+1) f fd ["found","due"] (bC 2 (pX (n+1))):=by
 refine F.ok Px (fun vs H Q E h=>h.1) (fun cdv A outer s H vs Q E hr h=>?_)
 obtain⟨nb,ds,Φ,hlive,hds,aC,hF⟩:=iu h
 obtain⟨d,rfl,hok,q⟩:=hF
 refine⟨_,(@ao _ _ _ _ _ (@dB _ _ _ _ _ _ _ _ (@sG _ (K) _ _ rfl (@bT _ _ _ _ _ _ _ _ (t7) G2 rfl g9 ko (@aa _ _ _ _ _ (pv 1) (@aa _ _ _ _ _ (@cK _ _ _ _ _ (@aa _ _ _ _ _ (jF (v:= .ty "list") rfl cE ja rfl) (@aa _ _ _ _ _ (jF (v:= .ty "tuple") rfl mh FW rfl) af rfl) rfl)) af rfl) rfl) (by decide) (by decide) (by rfl) (by rfl)) (fun _=>rfl)) (@ao _ _ _ _ _ (@dB _ _ _ _ _ _ _ _ (PW.pt (rQ (@EB _ _ _ _ (@sG _ (K) _ _ rfl (@bT _ _ _ _ _ _ _ _ (t7) G2 rfl g9 ko (@aa _ _ _ _ _ (pv 0) (@aa _ _ _ _ _ (@cK _ _ _ _ _ (@aa _ _ _ _ _ (jF (v:= .ty "list") rfl cE ja rfl) (@aa _ _ _ _ _ (jF (v:= .ty "tuple") rfl mh FW rfl) af rfl) rfl)) af rfl) rfl) (by decide) (by decide) (by rfl) (by rfl)) (fun _=>rfl))) (sC (@bA _ _ _ _ _ _ _ _ jD (@bT _ _ _ _ _ _ _ _ (kH K) mJ rfl g9 ko (@aa _ _ _ _ _ (pv 0) (@aa _ _ _ _ _ (jF (v:= .ty "list") rfl cE ja rfl) af rfl) rfl) (by decide) (by decide) (by rfl) (by rfl)) (@bT _ _ _ _ _ _ _ _ (kH K) mJ rfl g9 ko (@aa _ _ _ _ _ (pv 1) (@aa _ _ _ _ _ (jF (v:= .ty "list") rfl cE ja rfl) af rfl) rfl) (by decide) (by decide) (by rfl) (by rfl)) (bu _))))) (@aA _ _ _ (@aY _ _ _ _ mP)) dY) (@ao _ _ _ _ _ (@dB _ _ _ _ _ _ _ _ (@bA _ _ _ _ _ _ _ _ jD (@bT _ _ _ _ _ _ _ _ (e7 K) gx rfl bB fV (@aa _ _ _ _ _ (pv 0) af rfl) (by decide) (by decide) (by rfl) (by rfl)) (@bT _ _ _ _ _ _ _ _ (e7 K) gx rfl bB fV (@aa _ _ _ _ _ (pv 1) af rfl) (by decide) (by decide) (by rfl) (by rfl)) (bu _)) (@aA _ _ _ (@aY _ _ _ _ mP)) dY) (@aA _ _ _ (@aY _ _ _ _ (@bT _ _ _ _ _ _ _ _ (xh K) (WN rfl) rfl oR PyProof.Rows.boot_all (@aa _ _ _ _ _ (fW (bY.of (show dg (aM uR) ["found","due"] _ ["k","found","due"] [none,some 0,some 1]=true by decide+kernel)) (@eX _ _ _ _ _ _ rfl aO (@aa _ _ _ _ _ (@bT _ _ _ _ _ _ _ _ (e7 K) gx rfl bB fV (@aa _ _ _ _ _ (pv 1) af rfl) (by decide) (by decide) (by rfl) (by rfl)) af rfl) (by rfl)) (fun _ _ _ _=>⟨(aG (i:=0) (by show List.Nodup (["k","found","due"]:List Str);decide+kernel) rfl (Or.inl rfl)),fM,(@aF _ _ _ _ _ _ _ _ _ _ wA (hr.mono (aQ _)) (@aa _ _ _ _ _ (@aD _ _ _ _ _ _ (tM K) Es (pv 1) (pv 0) (fun _ _=>rfl)) (@aa _ _ _ _ _ (@aD _ _ _ _ _ _ (tM K) Es (pv 2) (pv 0) (fun _ _=>rfl)) af rfl) rfl) (by rfl) (by decide) (by rfl) (by rfl))⟩)) af rfl) (by decide) (by decide) (by rfl) (by rfl)))))) dY) (@ao _ _ _ _ _ (@dB _ _ _ _ _ _ _ _ (PW.pt (rQ (@bA _ _ _ _ _ _ _ _ jD (@bT _ _ _ _ _ _ _ _ (kH K) mJ rfl g9 ko (@aa _ _ _ _ _ (pv 0) (@aa _ _ _ _ _ (jF (v:= .ty "bool") rfl l8 Fy rfl) af rfl) rfl) (by decide) (by decide) (by rfl) (by rfl)) (@bT _ _ _ _ _ _ _ _ (kH K) mJ rfl g9 ko (@aa _ _ _ _ _ (pv 1) (@aa _ _ _ _ _ (jF (v:= .ty "bool") rfl l8 Fy rfl) af rfl) rfl) (by decide) (by decide) (by rfl) (by rfl)) (bu _)) (sC (@bA _ _ _ _ _ _ _ _ jD (@bT _ _ _ _ _ _ _ _ (kH K) mJ rfl g9 ko (@aa _ _ _ _ _ (pv 0) (@aa _ _ _ _ _ (jF (v:= .ty "int") rfl j9 Dp rfl) af rfl) rfl) (by decide) (by decide) (by rfl) (by rfl)) (@bT _ _ _ _ _ _ _ _ (kH K) mJ rfl g9 ko (@aa _ _ _ _ _ (pv 1) (@aa _ _ _ _ _ (jF (v:= .ty "int") rfl j9 Dp rfl) af rfl) rfl) (by decide) (by decide) (by rfl) (by rfl)) (bu _))))) (@aA _ _ _ (@aY _ _ _ _ mP)) dY) (@aA _ _ _ (@aY _ _ _ _ (@Gz _ _ _ _ _ _ _ (@rZ _ _ _ _ _ _ _ _ iR (@bT _ _ _ _ _ _ _ _ (kH K) mJ rfl g9 ko (@aa _ _ _ _ _ (pv 0) (@aa _ _ _ _ _ (jF (v:= .ty "str") rfl l6 EJ rfl) af rfl) rfl) (by decide) (by decide) (by rfl) (by rfl)) (@bT _ _ _ _ _ _ _ _ (kH K) mJ rfl g9 ko (@aa _ _ _ _ _ (pv 1) (@aa _ _ _ _ _ (jF (v:= .ty "str") rfl l6 EJ rfl) af rfl) rfl) (by decide) (by decide) (by rfl) (by rfl)) (bu _)) (@FY _ _ _ _ _ (@rZ _ _ _ _ _ _ _ _ iR (pv 0) (pv 1) (bu _)))))))),?_⟩
 refine Sv.iz hlive hds aC (ρ:=[.d false _, .d false _]) rfl ?_
 clear aC hds
 walk_at "dt"
 rcases hok with hs|⟨ds,hd,hl,he⟩
 ·have h1:(i8 d "list" ||i8 d "tuple")=false:=by cases d<;>first|rfl|cases hs
  rw[h1]
  walk_at "dt"
  rw[beq_self_eq_true]
  walk_at "dt"
  rw[beq_self_eq_true]
  walk_at "dt"
  rw[beq_self_eq_true]
  walk_at "dt"
  exact⟨true, .self hs,q⟩
 rcases hd with rfl|rfl
 ·rw[(GV ds).1,(GV ds).2,Bool.true_or]
  walk_at "dt"
  refine au.ev (au.kh (by decide) rfl ?_)
  walk_at "dt"
  refine⟨true,fun i es=>es=List.replicate i (.bool true),rfl,?_,?_⟩
  ·rintro i d' es ⟨hi,rfl⟩ hl' rfl
   have hi':i<ds.length:=by omega
   have hat:bF ds (0+(i:Int))=some ds[i]:=fS (by omega) (by rw[show(0+(i:Int)).toNat=i by omega];exact aH hi')
   walk_at "dt"
   refine⟨by walk_at "wk",?_⟩
   walk_at "dt"
   refine Ev.c8 (ve n) ?_
   walk_at "dt"
   refine⟨rfl,ds[i],rfl,he _ (gP hi'),fun _=>rfl,?_⟩
   show _=List.replicate (i+1) _
   rw[Gq]
  ·rintro es hl' rfl
   refine⟨List.replicate ds.length true,by simp,?_⟩
   rw[show(List.replicate ds.length true).all id=true by simp]
   exact q
 ·rw[(IZ ds).1,(IZ ds).2,rK]
  walk_at "dt"
  refine au.ev (au.kh (by decide) rfl ?_)
  walk_at "dt"
  refine⟨true,fun i es=>es=List.replicate i (.bool true),rfl,?_,?_⟩
  ·rintro i d' es ⟨hi,rfl⟩ hl' rfl
   have hi':i<ds.length:=by omega
   have hat:bF ds (0+(i:Int))=some ds[i]:=fS (by omega) (by rw[show(0+(i:Int)).toNat=i by omega];exact aH hi')
   walk_at "dt"
   refine⟨by walk_at "wk",?_⟩
   walk_at "dt"
   refine Ev.c8 (ve n) ?_
   walk_at "dt"
   refine⟨rfl,ds[i],rfl,he _ (gP hi'),fun _=>rfl,?_⟩
   show _=List.replicate (i+1) _
   rw[Gq]
  ·rintro es hl' rfl
   refine⟨List.replicate ds.length true,by simp,?_⟩
   rw[show(List.replicate ds.length true).all id=true by simp]
   exact q
def xS:DF:=fun ds Φ=>∃(p n:Int) (cs:List aq),ds=[bW p n cs]/\cs.length<=10000/\∀f,Φ f (bW p n cs)
theorem EH:cG xS:=by
 intro ds Φ Ψ hm z
 obtain⟨p,n,cs,e,h,q⟩:=hm
 exact⟨p,n,cs,e,h,fun f=>z _ _ (q f)⟩
theorem NL:bZ ["net"] ["net"] (aM uU):=⟨rfl,rfl,rfl,by decide+kernel,rfl,by decide+kernel,by decide+kernel⟩
theorem V2(F:bK K "_law_copy" "_law_copy" uU f fd)(cE:mg "list"=none):
  bD P w K mg base bI 1 f fd ["net"] (bC 1 xS):=by
 refine F.ok NL (fun vs H Q E h=>h.1) (fun cdv A outer s H vs Q E hr h=>?_)
 obtain⟨nb,ds,Φ,hlive,hds,aC,hF⟩:=iu h
 obtain⟨p,n,cs,rfl,hl,q⟩:=hF
 refine⟨_,(@aA _ _ _ (@aY _ _ _ _ (@cK _ _ _ _ _ (@aa _ _ _ _ _ (@aD _ _ _ _ _ _ (bN K) cA (pv 0) ai (fun _ _=>rfl)) (@aa _ _ _ _ _ (@aD _ _ _ _ _ _ (bN K) cA (pv 0) ai (fun _ _=>rfl)) (@aa _ _ _ _ _ (fW (bY.of (show dg (aM uU) ["net"] _ ["pairs"] [none]=true by decide+kernel)) (@dI _ _ _ _ (@aD _ _ _ _ _ _ (bN K) cA (pv 0) ai (fun _ _=>rfl))) (fun _ _ _ _=>⟨(aG (i:=0) (by show List.Nodup (["pairs"]:List Str);decide+kernel) rfl (Or.inl rfl)),fM,(@gb _ _ _ _ _ _ _ _ (lK K) qm rfl cE ja (@aa _ _ _ _ _ (pv 0) af rfl) (by decide) (by decide) (by rfl) (by rfl))⟩)) af rfl) rfl) rfl)))),?_⟩
 refine Sv.iz hlive hds aC (ρ:=[.d false _]) rfl ?_
 clear aC hds
 walk_at "dt"
 refine au.ev (au.ir (by decide) rfl ?_)
 walk_at "dt"
 refine⟨by rw[ak];exact hl,fun v=>⟨false,fun i ds=>ds=(cs.take i).map c9,rfl,?_,?_⟩⟩
 ·rintro i d ds hd hl' rfl
  obtain⟨prs,bR,rfl⟩:=dW hd
  walk_at "dt"
  refine⟨by walk_at "wk",?_⟩
  walk_at "dt"
  refine⟨fun z=>(by cases z),?_⟩
  show _=List.map _ _
  rw[take_snoc bR,cL]
  rfl
 ·rintro ds hl' rfl
  rw[ak,gV]
  walk_at "dt"
  exact q _
def vd:DF:=fun ds Φ=>∃(p n:Int) (cs:List aq) (ws:List Int),ds=[bW p n cs,aJ ws]/\fX p n cs/\ws.length=n.toNat/\(∀x∈ws,0<=x/\x<p)/\∀(M:List (List Int)) (f:Bool),Ms p cs ws n.toNat M->Φ f (qC p cs ws n.toNat M)
theorem JS:cG vd:=by
 intro ds Φ Ψ hm z
 obtain⟨p,n,cs,ws,e,h1,h2,h3,q⟩:=hm
 exact⟨p,n,cs,ws,e,h1,h2,h3,fun M f h=>z _ _ (q M f h)⟩
theorem kT:bZ ["net","word","p","n","checks","found","pairs","rest","place","factor","letter"] ["net","word"] (aM uE):=⟨rfl,rfl,rfl,by decide+kernel,rfl,by decide+kernel,by decide+kernel⟩
theorem Lz(F:bK K "_law_votes_all" "_law_votes_all" uE f fd)(nZ:Callee P w K mg base "_law_sum" 1 ["p","pairs","word"] (bC 3 o7))(qT:Callee P w K mg base "_law_over" 1 ["p","a","b"] (bC 3 sq))(aO:mg "range"=none):
  bD P w K mg base bI 2 f fd ["net","word"] (bC 2 vd):=by
 refine F.ok kT (fun vs H Q E h=>h.1) (fun cdv A outer s H vs Q E hr h=>?_)
 obtain⟨nb,ds,Φ,hlive,hds,aC,hF⟩:=iu h
 obtain⟨p,n,cs,ws,rfl,hN,hwl,hws,q⟩:=hF
 refine⟨_,(@ao _ _ _ _ _ (@g7 _ _ _ _ _ _ (pv 0) (@jr _ (K) _ _ _ (3) _ rfl rfl (@cO _ _ _ _ _ (aG (i:=2) kT.nd rfl (Or.inl rfl)) (@cO _ _ _ _ _ (aG (i:=3) kT.nd rfl (Or.inl rfl)) (@cO _ _ _ _ _ (aG (i:=4) kT.nd rfl (Or.inl rfl)) i7 (by rfl)) (by rfl)) (by rfl)) (by rfl) (by rfl)) (by rfl) (by rfl) (by rfl)) (@ao _ _ _ _ _ (kY (i:=5) kT.nd rfl rfl (bY.of (show dg (aM uE) ["net","word","p","n","checks","found","pairs","rest","place","factor","letter"] _ ["place"] [none]=true by decide+kernel)) (@eX _ _ _ _ _ _ rfl aO (@aa _ _ _ _ _ (pv 3) af rfl) (by rfl)) (fun _ _ _ _=>⟨(aG (i:=0) (by show List.Nodup (["place"]:List Str);decide+kernel) rfl (Or.inl rfl)),fM,EA⟩)) (@ao _ _ _ _ _ (@dX _ _ _ _ _ _ _ _ dw rfl (@dI _ _ _ _ (pv 4)) (aG (i:=6) kT.nd rfl (Or.inl rfl)) (@ao _ _ _ _ _ (@aB _ _ (7) _ _ _ _ kT.nd rfl (Or.inl rfl) (@aF _ _ _ _ _ _ _ _ _ _ nZ (hr.mono (by decide)) (@aa _ _ _ _ _ (pv 2) (@aa _ _ _ _ _ (pv 6) (@aa _ _ _ _ _ (pv 1) af rfl) rfl) rfl) (by rfl) (by decide) (by rfl) (by rfl)) (by rfl) (by first|exact .inl rfl|exact .inr rfl|assumption)) (@aA _ _ _ (@dX _ _ _ _ _ _ _ _ dw rfl (@dI _ _ _ _ (pv 6)) (@jr _ (K) _ _ _ (2) _ rfl rfl (@cO _ _ _ _ _ (aG (i:=8) kT.nd rfl (Or.inl rfl)) (@cO _ _ _ _ _ (aG (i:=9) kT.nd rfl (Or.inl rfl)) i7 (by rfl)) (by rfl)) (by rfl) (by rfl)) (@ao _ _ _ _ _ (@aB _ _ (10) _ _ _ _ kT.nd rfl (Or.inl rfl) (@aF _ _ _ _ _ _ _ _ _ _ qT (hr.mono (by decide)) (@aa _ _ _ _ _ (pv 2) (@aa _ _ _ _ _ (@az _ _ _ _ _ _ _ _ ic (@az _ _ _ _ _ _ _ _ gm (pv 9) (@aD _ _ _ _ _ _ (cz K) bx (pv 1) (pv 8) (fun _ _=>rfl))) (pv 7)) (@aa _ _ _ _ _ (pv 9) af rfl) rfl) rfl) (by rfl) (by decide) (by rfl) (by rfl)) (by rfl) (by first|exact .inl rfl|exact .inr rfl|assumption)) (@aA _ _ _ (@g7 _ _ _ _ _ _ (@az _ _ _ _ _ _ _ _ cF (iD sV rB wc ug (@aD _ _ _ _ _ _ (cz K) bx (pv 5) (pv 8) (fun _ _=>rfl)) (@aa _ _ _ _ _ (pv 10) (@aa _ _ _ _ _ ai af rfl) rfl)) ai) (ki (@aD _ _ _ _ _ _ (cz K) bx (pv 5) (pv 8) (fun _ _=>rfl)) (pv 10) set_dict) (by rfl) (by rfl) (by rfl)))) (by intro _;rfl)))) (by intro _;rfl)) (@aA _ _ _ (@aY _ _ _ _ (pv 5)))))),?_⟩
 refine Sv.iz hlive hds aC (ρ:=[.d false _, .d false _, .no, .no, .no, .no, .no, .no, .no, .no, .no]) rfl ?_
 clear aC hds
 have p2:=hN.hp.1
 have eU:=hN.eU
 have n0:=hN.n0
 have n1:=hN.n1
 have hcl:=hN.cl
 have kq:(cs.map c9).length=cs.length:=ak ..
 have n9:mY (ws.map some):=fun y hy=>by
  obtain⟨z,hz,e⟩:=dN.mp hy
  cases e
  have:=hws y hz
  unfold Sm;omega
 have lQ:aJ ws=j3 (ws.map some):=by show PyData.list _=PyData.list _;rw[dD];rfl
 generalize gU:(jA (wC 5 _) _:TS)=tl
 walk_at "dt"
 subst gU
 refine Sv.seq ?_
 refine Sv.QN ?_
 walk_at "dt"
 intro A as
 refine Sv.seq ?_
 refine Sv.forL ?_
 refine Ev.var rfl ?_
 refine⟨_,rfl,fun v=>⟨fun i ρ=>∃(x6 x7 x8 x9 cP:Sl),ρ=[.d false (bW p n cs), .d false (aJ ws), .d true (.int p), .d true (.int n), .d false (.list (cs.map c9)), .cu (ldC A as ((List.range n.toNat).map (iQ p cs ws i))),x6,x7,x8,x9,cP],?_,?_,?_⟩⟩
 ·refine⟨.no, .no, .no, .no, .no,?_⟩
  rw[show(List.range n.toNat).map (iQ p cs ws 0)=List.replicate n.toNat [] by
   apply gR
   intro k
   rw[aS,gY]
   by_cases hk:k<n.toNat
   ·rw[lG hk,if_pos hk];rfl
   ·rw[ie (by rw[kP];omega),if_neg hk];rfl]
  rfl
 ·rintro i d ρ hd ⟨x6,x7,x8,x9,cP,rfl⟩
  obtain⟨prs,bR,rfl⟩:=dW hd
  have hil:=(aR.mp bR).1
  obtain⟨g1,g2,g3⟩:=hN.ok prs (bh bR)
  have gM:(prs.map pairD).length=prs.length:=ak ..
  refine Gv.name ?_
  walk_at "dt"
  refine Ev.c8 wH ?_
  walk_at "dt"
  refine⟨rfl,p,prs,ws.map some,by show[_,_,_]=_;rw[lQ],by omega,by omega,fun pr bq=>?_,n9,?_⟩
  ·obtain⟨b0,b1,b2,b3⟩:=g3 pr bq
   exact⟨b0,by rw[ak];omega,by unfold Sm;omega⟩
  have R0:=dR (aU prs (ws.map some)) (show p≠0 by omega)
  have R1:=dQ (aU prs (ws.map some)) (show 0<p by omega)
  obtain⟨R,hR⟩:∃R,aU prs (ws.map some)%p=R:=⟨_,rfl⟩
  rw[hR] at R0 R1⊢
  refine Gv.fK ?_
  refine Sv.forL ?_
  refine Ev.var rfl ?_
  refine⟨_,rfl,fun v=>⟨fun k ρ=>∃(x8 x9 cP:Sl),ρ=[.d false (bW p n cs), .d false (aJ ws), .d true (.int p), .d true (.int n), .d false (.list (cs.map c9)), .cu (ldC A as ((List.range n.toNat).map (gy p cs ws i prs (prs.take k)))), .d false (c9 prs), .d true (.int R),x8,x9,cP],?_,?_,?_⟩⟩
  ·refine⟨x8,x9,cP,?_⟩
   rw[List.take_zero,show gy p cs ws i prs []=iQ p cs ws i from funext fun j=>Kd]
   rfl
  ·rintro k d ρ hd ⟨x8,x9,cP,rfl⟩
   obtain⟨pr,bq,rfl⟩:=dW hd
   obtain⟨b0,b1,b2,b3⟩:=g3 pr (bh bq)
   have hts:=take_snoc bq
   have hnot:pr.1∉(prs.take k).map (·.1):=fun z=>by
    rw[qB] at z
    obtain⟨m,hm⟩:=fY z
    have Kc:m<k:=by have:=(aR.mp hm).1;rw[jd] at this;omega
    rw[List.getElem?_take,if_pos Kc] at hm
    have:=JR g1 hm (show(prs.map (·.1))[k]?=some pr.1 by rw[aS,bq];rfl)
    omega
   have su:=V3 (p:=p) (cs:=cs) (ws:=ws) (c:=i) (prs:=prs) (n:=n.toNat) b0 (by omega) hnot
   rw[<-hts,hR] at su
   have Je:pr.1.toNat<ws.length:=by omega
   have hat:bF (ws.map PyData.int) pr.1=some (.int (ws.getD pr.1.toNat 0)):=fS b0 (by rw[aS,cM,aH Je];rfl)
   have hwr:=hws (ws.getD pr.1.toNat 0) (by rw[cM,aH Je];exact gP _)
   generalize ws.getD pr.1.toNat 0=w0 at*
   have hfp:pr.2%p≠0:=by rw[jY (by omega) b3];omega
   have Yh:0<=pr.2*w0:=yk (by omega) (by omega)
   have hpp:p*p<=10^40*10^40:=yV (by omega) (by omega) (by omega) (by decide)
   have XI:pr.2*w0<p*p:=Int.mul_lt_mul' (by omega) (by omega) (by omega) (by omega)
   unfold pairD
   walk_at "dt"
   refine Ev.c8 Ck ?_
   walk_at "dt"
   refine⟨rfl,p,pr.2*w0-R,pr.2,rfl,hN.hp,eU,hfp,by omega,by omega,fun _=>?_⟩
   rw[Qt hN.hp hfp]
   refine Gv.fK ?_
   refine Sv.Tt (pl:=pr.1) (x:=(w0-R*sol p pr.2 1)%p) rfl rfl rfl b0 (by rw[ak,kP];omega) ?_ ?_
   ·rw[cM,aS,lG (by omega)]
    have:=K0 (p:=p) (cs:=cs) (ws:=ws) (c:=i) (prs:=prs) (dn:=prs.take k) (j:=pr.1.toNat)
    show(gy p cs ws i prs (prs.take k) pr.1.toNat).length<_
    omega
   rw[su]
   exact⟨_,_,_,rfl⟩
  ·rintro ρ ⟨x8,x9,cP,rfl⟩
   rw[gM,gV,show gy p cs ws i prs prs=iQ p cs ws (i+1) from funext fun j=>LW bR]
   exact⟨_,_,_,_,_,rfl⟩
 ·rintro ρ ⟨x6,x7,x8,x9,cP,rfl⟩
  rw[kq]
  refine Sv.Lp 5 rfl fun M Ex Lw=>?_
  have hl:((List.range n.toNat).map (iQ p cs ws cs.length)).length=n.toNat:=by rw[ak,kP]
  have hg:∀j,j<n.toNat->((List.range n.toNat).map (iQ p cs ws cs.length)).getD j []=bQ p cs ws (j:Int):=fun j hj=>by
   rw[cM,aS,lG hj];exact Kq
  have N8:Ms p cs ws n.toNat M:=by
   rw[hl] at Ex
   have key:∀j,j<n.toNat->(M.getD j []).Nodup/\∀k,k∈M.getD j []↔k∈bQ p cs ws (j:Int):=fun j hj=>by
    have:=Lw j (M.getD j []) (bQ p cs ws (j:Int)) (by rw[cM,aH (by omega)];rfl) (by rw[<-hg j hj,cM,aH (by omega)];rfl)
    exact this
   exact⟨Ex,fun j hj=>(key j hj).1,fun j hj=>(key j hj).2⟩
  rw[hl]
  rw[show((List.range n.toNat).map fun j=>PyData.dict ((cntK (M.getD j []) (((List.range n.toNat).map (iQ p cs ws cs.length)).getD j [])).map ck))=(List.range n.toNat).map fun j=>PyData.dict ((cntK (M.getD j []) (bQ p cs ws (j:Int))).map ck) from gn fun j hj=>by rw[hg j (nv.mp hj)]]
  walk_at "dt"
  exact q M _ N8
def sD:DF:=fun ds Φ=>∃(p n:Int) (cs:List aq) (ws:List Int),ds=[bW p n cs,aJ ws]/\fX p n cs/\ws.length=n.toNat/\(∀x∈ws,0<=x/\x<p)/\Φ true (.int (brk p cs ws))
theorem uL:cG sD:=by
 intro ds Φ Ψ hm z
 obtain⟨p,n,cs,ws,e,h1,h2,h3,q⟩:=hm
 exact⟨p,n,cs,ws,e,h1,h2,h3,z _ _ q⟩
theorem LO:bZ ["net","word"] ["net","word"] (aM u9):=⟨rfl,rfl,rfl,by decide+kernel,rfl,by decide+kernel,by decide+kernel⟩
theorem TM(F:bK K "_law_broken" "_law_broken" u9 f fd)(nZ:Callee P w K mg base "_law_sum" 1 ["p","pairs","word"] (bC 3 o7))(bB:mg "len"=none):
  bD P w K mg base bI 2 f fd ["net","word"] (bC 2 sD):=by
 refine F.ok LO (fun vs H Q E h=>h.1) (fun cdv A outer s H vs Q E hr h=>?_)
 obtain⟨nb,ds,Φ,hlive,hds,aC,hF⟩:=iu h
 obtain⟨p,n,cs,ws,rfl,hN,hwl,hws,q⟩:=hF
 refine⟨_,(@aA _ _ _ (@aY _ _ _ _ (@bT _ _ _ _ _ _ _ _ (e7 K) gx rfl bB fV (@aa _ _ _ _ _ (fW (bY.of (show dg (aM u9) ["net","word"] _ ["pairs","net","word"] [none,some 0,some 1]=true by decide+kernel)) (@dI _ _ _ _ (@aD _ _ _ _ _ _ (bN K) cA (pv 0) ai (fun _ _=>rfl))) (fun _ _ _ _=>⟨(aG (i:=0) (by show List.Nodup (["pairs","net","word"]:List Str);decide+kernel) rfl (Or.inl rfl)),(lF (@bA _ _ _ _ _ _ _ _ jD (@aF _ _ _ _ _ _ _ _ _ _ nZ (hr.mono (by decide)) (@aa _ _ _ _ _ (@aD _ _ _ _ _ _ (bN K) cA (pv 1) ai (fun _ _=>rfl)) (@aa _ _ _ _ _ (pv 0) (@aa _ _ _ _ _ (pv 2) af rfl) rfl) rfl) (by rfl) (by decide) (by rfl) (by rfl)) ai (bu _))),(pv 0)⟩)) af rfl) (by decide) (by decide) (by rfl) (by rfl)))),?_⟩
 refine Sv.iz hlive hds aC (ρ:=[.d false _, .d false _]) rfl ?_
 clear aC hds
 have p2:=hN.hp.1
 have eU:=hN.eU
 have n0:=hN.n0
 have n1:=hN.n1
 have hcl:=hN.cl
 have kq:(cs.map c9).length=cs.length:=ak ..
 have lQ:aJ ws=j3 (ws.map some):=by show PyData.list _=PyData.list _;rw[dD];rfl
 have n9:mY (ws.map some):=fun x hx=>by
  obtain⟨y,hy,e⟩:=dN.mp hx
  cases e
  obtain⟨a0,a1⟩:=hws x hy
  unfold Sm;omega
 walk_at "dt"
 refine au.ev (au.ir (by decide) rfl ?_)
 walk_at "dt"
 refine fun v=>⟨false,fun i ds=>ds.length=brk p (cs.take i) ws,rfl,?_,?_⟩
 ·rintro i d ds hd hl' hds
  obtain⟨prs,bR,rfl⟩:=dW hd
  obtain⟨g1,g2,g3⟩:=hN.ok prs (bh bR)
  have hts:=take_snoc bR
  have hstep:brk p (cs.take (i+1)) ws=brk p (cs.take i) ws+if decide (aU prs (ws.map some)%p≠0)=true then 1 else 0:=by
   unfold brk
   rw[hts,uq,vo]
  walk_at "dt"
  refine⟨by walk_at "wk",?_⟩
  walk_at "dt"
  refine Ev.c8 wH ?_
  walk_at "dt"
  refine⟨rfl,p,prs,ws.map some,by show[_,_,_]=_;rw[lQ],by omega,by omega,fun pr bq=>?_,n9,?_⟩
  ·obtain⟨b0,b1,b2,b3⟩:=g3 pr bq
   exact⟨b0,by rw[ak];omega,by unfold Sm;omega⟩
  walk_at "dt"
  by_cases c:aU prs (ws.map some)%p=0
  ·rw[if_neg (by simp[c])]
   show ds.length=brk p (cs.take (i+1)) ws
   rw[hds,hstep,if_neg (by rw[decide_eq_false (fun z=>z c)];decide)]
   rfl
  ·rw[if_pos (by simp[c])]
   walk_at "dt"
   show(ds++[_]).length=brk p (cs.take (i+1)) ws
   rw[bz,fh,hds,hstep,if_pos (by rw[decide_eq_true c])]
 ·rintro ds hl' hds
  rw[kq,gV] at hds
  refine⟨ds, .inl rfl,?_⟩
  rw[hds]
  walk_at "dt"
  exact q
theorem Qc(ms l:List Int):(cntK ms l).map (·.1)=ms:=by unfold cntK;rw[dD];exact uJ _
def B6:DF:=fun ds Φ=>∃(p n:Int) (cs:List aq) (ws:List Int),ds=[bW p n cs,aJ ws]/\fX p n cs/\cs.length<=62/\ws.length=n.toNat/\(∀x∈ws,0<=x/\x<p)/\Φ true (gW (jM (brk p cs ws) (bX p cs ws n.toNat)))
theorem OQ:cG B6:=by
 intro ds Φ Ψ hm z
 obtain⟨p,n,cs,ws,e,h1,h2,h3,h4,q⟩:=hm
 exact⟨p,n,cs,ws,e,h1,h2,h3,h4,z _ _ q⟩
theorem nM:bZ ["net","word","there","best","place","held","letter"] ["net","word"] (aM Ci):=⟨rfl,rfl,rfl,by decide+kernel,rfl,by decide+kernel,by decide+kernel⟩
theorem RH(F:bK K "_law_best" "_law_best" Ci f fd)(yv:Callee P w K mg base "_law_votes_all" 2 ["net","word"] (bC 2 vd))(aO:mg "range"=none)(fP:mg "sorted"=none):
  bD P w K mg base bI 3 f fd ["net","word"] (bC 2 B6):=by
 refine F.ok nM (fun vs H Q E h=>h.1) (fun cdv A outer s H vs Q E hr h=>?_)
 obtain⟨nb,ds,Φ,hlive,hds,aC,hF⟩:=iu h
 obtain⟨p,n,cs,ws,rfl,hN,jh,hwl,hws,q⟩:=hF
 refine⟨_,(@ao _ _ _ _ _ (@aB _ _ (2) _ _ _ _ nM.nd rfl (Or.inl rfl) (@aF _ _ _ _ _ _ _ _ _ _ yv (hr.mono (by decide)) (@aa _ _ _ _ _ (pv 0) (@aa _ _ _ _ _ (pv 1) af rfl) rfl) (by rfl) (by decide) (by rfl) (by rfl)) (by rfl) (by first|exact .inl rfl|exact .inr rfl|assumption)) (@ao _ _ _ _ _ (@aB _ _ (3) _ _ _ _ nM.nd rfl (Or.inl rfl) (@cK _ _ _ _ _ (@aa _ _ _ _ _ ai (@aa _ _ _ _ _ (@oQ _ _ _ _ _ _ om ai) (@aa _ _ _ _ _ (@oQ _ _ _ _ _ _ om ai) af rfl) rfl) rfl)) (by rfl) (by first|exact .inl rfl|exact .inr rfl|assumption)) (@ao _ _ _ _ _ (@dX _ _ _ _ _ _ _ _ dw rfl (@eX _ _ _ _ _ _ rfl aO (@aa _ _ _ _ _ (@aD _ _ _ _ _ _ (bN K) cA (pv 0) ai (fun _ _=>rfl)) af rfl) (by rfl)) (aG (i:=4) nM.nd rfl (Or.inl rfl)) (@ao _ _ _ _ _ (@aB _ _ (5) _ _ _ _ nM.nd rfl (Or.inl rfl) (iD sV rB wc ug (@aD _ _ _ _ _ _ (cz K) bx (pv 2) (pv 4) (fun _ _=>rfl)) (@aa _ _ _ _ _ (@aD _ _ _ _ _ _ (cz K) bx (pv 1) (pv 4) (fun _ _=>rfl)) (@aa _ _ _ _ _ ai af rfl) rfl)) (by rfl) (by first|exact .inl rfl|exact .inr rfl|assumption)) (@aA _ _ _ (@dX _ _ _ _ _ _ _ _ dw rfl (@dI _ _ _ _ (@bT _ _ _ _ _ _ _ _ (rW) (Dh rfl) rfl fP oS (@aa _ _ _ _ _ (@aD _ _ _ _ _ _ (cz K) bx (pv 2) (pv 4) (fun _ _=>rfl)) af rfl) (by decide) (by decide) (by rfl) (by rfl))) (aG (i:=6) nM.nd rfl (Or.inl rfl)) (@aA _ _ _ (@dB _ _ _ _ _ _ _ _ (@bA _ _ _ _ _ _ _ _ nH (@az _ _ _ _ _ _ _ _ ic (@aD _ _ _ _ _ _ (k6) qN (@aD _ _ _ _ _ _ (cz K) bx (pv 2) (pv 4) (fun _ _=>rfl)) (pv 6) (fun _ _=>rfl)) (pv 5)) (@aD _ _ _ _ _ _ (bN K) cA (pv 3) ai (fun _ _=>rfl)) (bu _)) (@aA _ _ _ (@aB _ _ (3) _ _ _ _ nM.nd rfl (Or.inl rfl) (@cK _ _ _ _ _ (@aa _ _ _ _ _ (@az _ _ _ _ _ _ _ _ ic (@aD _ _ _ _ _ _ (k6) qN (@aD _ _ _ _ _ _ (cz K) bx (pv 2) (pv 4) (fun _ _=>rfl)) (pv 6) (fun _ _=>rfl)) (pv 5)) (@aa _ _ _ _ _ (pv 4) (@aa _ _ _ _ _ (pv 6) af rfl) rfl) rfl)) (by rfl) (by first|exact .inl rfl|exact .inr rfl|assumption))) dY)) (by intro _;rfl)))) (by intro _;rfl)) (@aA _ _ _ (@aY _ _ _ _ (pv 3)))))),?_⟩
 refine Sv.iz hlive hds aC (ρ:=[.d false _, .d false _, .no, .no, .no, .no, .no]) rfl ?_
 clear aC hds
 have p2:=hN.hp.1
 have n0:=hN.n0
 have n1:=hN.n1
 have lC:(ws.map PyData.int).length=ws.length:=ak ..
 walk_at "dt"
 refine Ev.c8 JS ?_
 walk_at "dt"
 refine⟨rfl,p,n,cs,ws,rfl,hN,hwl,hws,fun M f0 hM=>?_⟩
 refine Gv.pP ?_
 refine Sv.seq ?_
 generalize hg:(eN 3:TG)=g
 walk_at "dt"
 subst hg
 refine Gv.name ?_
 refine Sv.seq ?_
 refine Sv.j7 ?_
 walk_at "dt"
 refine⟨fun i ρ=>∃(x4 x5 x6:Sl),ρ=[.d false (bW p n cs), .d false (aJ ws), .d false (qC p cs ws n.toNat M), .d true (gW (jM (brk p cs ws) (bX p cs ws i))),x4,x5,x6],⟨_,_,_,rfl⟩,?_,?_⟩
 ·rintro i d ρ ⟨hi,rfl⟩ ⟨x4,x5,x6,rfl⟩
  rw[lg]
  have hij:i<n.toNat:=by omega
  have hat:=JL (p:=p) (cs:=cs) (ws:=ws) (M:=M) hij
  have hnd:=hM.nd i hij
  have oM:=hM.m i hij
  have hlen:(bQ p cs ws (i:Int)).length<=cs.length:=Fx
  have hwi:i<ws.length:=by omega
  have M5:bF (ws.map PyData.int) (i:Int)=some (.int (ws.getD i 0)):=fS (by omega) (by rw[eZ,aS,cM,aH hwi];rfl)
  have tB:=fun(x:Int) (x0:0<=x) (x1:x<p)=>yg hN.hp (fun prs bR=>by rw[hwl];exact hN.ok prs bR) hwi hws x0 x1 (pl:=i)
  have z5:=fun(x:Int) (h:x∈bQ p cs ws (i:Int))=>tY (show 0<p by omega) x h
  have SS:=fun(rs:List Int) (h1:rs.Pairwise (· < ·)) (h2:∀k,k∈rs↔k∈bQ p cs ws (i:Int))=>w5 h1 h2
  have hok:=Aq (p:=p) (cs:=cs) (ws:=ws) i
  generalize hL:bQ p cs ws (i:Int)=L at*
  generalize M.getD i []=ms at*
  generalize ws.getD i 0=w0 at*
  have hml:ms.length<=L.length:=ou hnd fun k hk=>(oM k).mp hk
  have hget:=MT oM w0
  refine Gv.fK ?_
  refine Sv.seq ?_
  refine Sv.asg ?_
  refine Ev.Ft ?_
  unfold aJ qC
  generalize hg:(eN 5:TG)=g
  walk_at "dt"
  refine⟨_,rfl,?_⟩
  walk_at "dt"
  subst hg
  rw[hget]
  refine Gv.fK ?_
  refine Sv.forL ?_
  refine au.ev (au.Cy ?_)
  walk_at "dt"
  refine⟨_,rfl,by unfold cntK;rw[ak];omega,fun rs hrs nX=>?_⟩
  rw[Qc] at nX
  have qh:rs.Nodup:=nX.nodup_iff.mpr hnd
  have hrm:∀k,k∈rs↔k∈L:=fun k=>nX.mem_iff.trans (oM k)
  have hrl:(rs.map PyData.int).length=rs.length:=ak ..
  have Me:=SS rs ((hrs.and qh).imp fun{a b} ⟨z1,z2⟩=>by omega) hrm
  refine⟨_,rfl,fun v=>⟨fun k ρ=>∃(x6:Sl),ρ=[.d false (bW p n cs), .d false (.list (ws.map .int)), .d false (.list ((List.range n.toNat).map fun j=> .dict ((cntK (M.getD j []) (bQ p cs ws (j:Int))).map ck))), .d true (gW (jM (brk p cs ws) (eV p cs ws i (bX p cs ws i) (rs.take k)))), .d true (.int (i:Int)), .d true (.int (L.count w0:Int)),x6],⟨x6,rfl⟩,?_,?_⟩⟩
  ·rintro k d ρ hd ⟨x6,rfl⟩
   obtain⟨y,hy,rfl⟩:=dW hd
   have Gm:=(hrm y).mp (bh hy)
   have hval:=Ea (l:=L) ((oM y).mpr Gm)
   have hts:=take_snoc hy
   have HL:=z5 y Gm
   have X7:=tB y HL.1 HL.2
   have Jd:ly (brk p cs ws) (eV p cs ws i (bX p cs ws i) (rs.take k)):=Am hok
   have hfs:=Xf Jd
   have hE:eV p cs ws i (bX p cs ws i) (rs.take (k+1))=fE p cs ws i (eV p cs ws i (bX p cs ws i) (rs.take k)) y:=by rw[hts,Hw]
   obtain⟨s,hs⟩:∃s,eV p cs ws i (bX p cs ws i) (rs.take k)=s:=⟨_,rfl⟩
   rw[hs] at hE Jd hfs⊢
   have hp1:=fun(h:(brk p cs (ws.set i y):Int)<s.1)=>KC (b:=brk p cs ws) h
   have hp2:=fun(h:¬(brk p cs (ws.set i y):Int)<s.1)=>Lm (b:=brk p cs ws) h
   obtain⟨⟨Vl,Yn,Ym⟩,ht0⟩:∃t0,jM (brk p cs ws) s=t0:=⟨_,rfl⟩
   rw[ht0] at hfs hp2⊢
   have hfs:Vl=(brk p cs ws:Int)-s.1:=hfs
   refine Gv.fK ?_
   refine Sv.ow ?_
   refine Tv.test ?_
   walk_at "dt"
   refine Ev.tN ?_
   walk_at "dt"
   refine⟨_,rfl,?_⟩
   walk_at "dt"
   refine⟨_,hval,?_⟩
   walk_at "dt"
   by_cases c:(brk p cs (ws.set i y):Int)<s.1
   ·rw[if_pos (decide_eq_true (by omega))]
    generalize hg:(eN 3:TG)=g
    walk_at "dt"
    refine Ev.tN ?_
    walk_at "dt"
    refine⟨_,rfl,?_⟩
    walk_at "dt"
    refine⟨_,hval,?_⟩
    walk_at "dt"
    subst hg
    rw[show(L.count y:Int)-(L.count w0:Int)=(brk p cs ws:Int)-brk p cs (ws.set i y) by omega]
    refine Gv.name ?_
    exact⟨_,by rw[hE,hp1 c];rfl⟩
   ·rw[if_neg (by rw[decide_eq_false (by omega)];decide)]
    refine Sv.next ?_
    exact⟨_,by rw[hE,hp2 c];rfl⟩
  ·rintro ρ ⟨x6,rfl⟩
   rw[hrl,gV,Me,<-oX]
   exact⟨_,_,_,rfl⟩
 rintro ρ ⟨x4,x5,x6,rfl⟩
 walk_at "dt"
 exact q
def xB:DF:=fun ds Φ=>∃(p n:Int) (cs:List aq) (ws:List Int),ds=[bW p n cs,aJ ws]/\fX p n cs/\cs.length<=62/\ws.length=n.toNat/\(∀x∈ws,0<=x/\x<p)/\∀f,Φ f (.tuple [aJ (runC p cs n.toNat cs.length ws).1, .list ((runC p cs n.toNat cs.length ws).2.map gW)])
theorem O8:cG xB:=by
 intro ds Φ Ψ hm z
 obtain⟨p,n,cs,ws,e,h1,h2,h3,h4,q⟩:=hm
 exact⟨p,n,cs,ws,e,h1,h2,h3,h4,fun f=>z _ _ (q f)⟩
theorem lD:bZ ["net","word","now","steps","left","k","gain","place","letter"] ["net","word"] (aM xy):=⟨rfl,rfl,rfl,by decide+kernel,rfl,by decide+kernel,by decide+kernel⟩
theorem OU(F:bK K "_law_calmed" "_law_calmed" xy f fd)(qj:Callee P w K mg base "_law_broken" 2 ["net","word"] (bC 2 sD))(Oj:Callee P w K mg base "_law_best" 3 ["net","word"] (bC 2 B6))(cE:mg "list"=none)(aO:mg "range"=none)(bB:mg "len"=none):
  bD P w K mg base bI 4 f fd ["net","word"] (bC 2 xB):=by
 refine F.ok lD (fun vs H Q E h=>h.1) (fun cdv A outer s H vs Q E hr h=>?_)
 obtain⟨nb,ds,Φ,hlive,hds,aC,hF⟩:=iu h
 obtain⟨p,n,cs,ws,rfl,hN,jh,hwl,hws,q⟩:=hF
 refine⟨_,(@ao _ _ _ _ _ (@aB _ _ (2) _ _ _ _ lD.nd rfl (Or.inl rfl) (@gb _ _ _ _ _ _ _ _ (lK K) qm rfl cE ja (@aa _ _ _ _ _ (pv 1) af rfl) (by decide) (by decide) (by rfl) (by rfl)) (by rfl) (by first|exact .inl rfl|exact .inr rfl|assumption)) (@ao _ _ _ _ _ (@aB _ _ (3) _ _ _ _ lD.nd rfl (Or.inl rfl) (@dU _ _ _ _ af) (by rfl) (by first|exact .inl rfl|exact .inr rfl|assumption)) (@ao _ _ _ _ _ (@aB _ _ (4) _ _ _ _ lD.nd rfl (Or.inl rfl) (@aF _ _ _ _ _ _ _ _ _ _ qj (hr.mono (by decide)) (@aa _ _ _ _ _ (pv 0) (@aa _ _ _ _ _ (pv 1) af rfl) rfl) (by rfl) (by decide) (by rfl) (by rfl)) (by rfl) (by first|exact .inl rfl|exact .inr rfl|assumption)) (@ao _ _ _ _ _ (@dX _ _ _ _ _ _ _ _ dw rfl (@eX _ _ _ _ _ _ rfl aO (@aa _ _ _ _ _ (@bT _ _ _ _ _ _ _ _ (e7 K) gx rfl bB fV (@aa _ _ _ _ _ (@aD _ _ _ _ _ _ (bN K) cA (pv 0) ai (fun _ _=>rfl)) af rfl) (by decide) (by decide) (by rfl) (by rfl)) af rfl) (by rfl)) (aG (i:=5) lD.nd rfl (Or.inl rfl)) (@ao _ _ _ _ _ (@g7 _ _ _ _ _ _ (@aF _ _ _ _ _ _ _ _ _ _ Oj (hr.mono (by decide)) (@aa _ _ _ _ _ (pv 0) (@aa _ _ _ _ _ (pv 2) af rfl) rfl) (by rfl) (by decide) (by rfl) (by rfl)) (@jr _ (K) _ _ _ (3) _ rfl rfl (@cO _ _ _ _ _ (aG (i:=6) lD.nd rfl (Or.inl rfl)) (@cO _ _ _ _ _ (aG (i:=7) lD.nd rfl (Or.inl rfl)) (@cO _ _ _ _ _ (aG (i:=8) lD.nd rfl (Or.inl rfl)) i7 (by rfl)) (by rfl)) (by rfl)) (by rfl) (by rfl)) (by rfl) (by rfl) (by rfl)) (@ao _ _ _ _ _ (@dB _ _ _ _ _ _ _ _ (@bA _ _ _ _ _ _ _ _ iR (pv 6) ai (bu _)) (@aA _ _ _ (@aY _ _ _ _ (@cK _ _ _ _ _ (@aa _ _ _ _ _ (pv 2) (@aa _ _ _ _ _ (pv 3) af rfl) rfl)))) dY) (@ao _ _ _ _ _ (@g7 _ _ _ _ _ _ (pv 8) (ki (pv 2) (pv 7) set_list) (by rfl) (by rfl) (by rfl)) (@ao _ _ _ _ _ (@aB _ _ (4) _ _ _ _ lD.nd rfl (Or.inl rfl) (@az _ _ _ _ _ _ _ _ ic (pv 4) (pv 6)) (by rfl) (by first|exact .inl rfl|exact .inr rfl|assumption)) (@aA _ _ _ (@kB _ _ _ _ (iD jO kJ kM jU (pv 3) (@aa _ _ _ _ _ (@cK _ _ _ _ _ (@aa _ _ _ _ _ (pv 7) (@aa _ _ _ _ _ (pv 8) (@aa _ _ _ _ _ (pv 4) af rfl) rfl) rfl)) af rfl)) (by rfl))))))) (by intro _;rfl)) (@aA _ _ _ (@aY _ _ _ _ (@cK _ _ _ _ _ (@aa _ _ _ _ _ (pv 2) (@aa _ _ _ _ _ (pv 3) af rfl) rfl)))))))),?_⟩
 refine Sv.iz hlive hds aC (ρ:=[.d false _, .d false _, .no, .no, .no, .no, .no, .no, .no]) rfl ?_
 clear aC hds
 have p2:=hN.hp.1
 have n0:=hN.n0
 have n1:=hN.n1
 have kq:(cs.map c9).length=cs.length:=ak ..
 refine Sv.seq ?_
 refine Sv.pN (au.listOf ?_)
 walk_at "dt"
 intro A2
 rw[zE,vH]
 walk_at "dt"
 intro A3
 walk_at "dt"
 refine Ev.c8 uL ?_
 walk_at "dt"
 refine⟨rfl,p,n,cs,ws,rfl,hN,hwl,hws,?_⟩
 obtain⟨wf,hwf⟩:∃wf,(runC p cs n.toNat cs.length ws).1=wf:=⟨_,rfl⟩
 obtain⟨sf,jZ⟩:∃sf,(runC p cs n.toNat cs.length ws).2=sf:=⟨_,rfl⟩
 rw[hwf,jZ] at q
 refine Gv.fK ?_
 refine Sv.seq ?_
 refine Sv.j7 ?_
 walk_at "dt"
 refine⟨fun k ρ=>∃(w:List Int) (st:List vm) (f3:Bool) (x5 x6 x7 x8:Sl),w.length=n.toNat/\(∀x∈w,0<=x/\x<p)/\st.length=k/\(runC p cs n.toNat (cs.length-k) w).1=wf/\st++(runC p cs n.toNat (cs.length-k) w).2=sf/\ρ=[.d false (bW p n cs), .d false (aJ ws), .own A2 true (w.map .int), .own A3 f3 (st.map gW), .d true (.int (brk p cs w)),x5,x6,x7,x8],⟨ws,[],_,_,_,_,_,hwl,hws,rfl,hwf,jZ,rfl⟩,?_,?_⟩
 ·rintro k d ρ ⟨hk,rfl⟩ ⟨w,st,f3,x5,x6,x7,x8,hl,hr,hst,h1,h2,rfl⟩
  obtain⟨fu,hfu⟩:∃fu,cs.length-k=fu+1:=⟨cs.length-k-1,by omega⟩
  have HZ:cs.length-(k+1)=fu:=by omega
  rw[hfu] at h1 h2
  refine Gv.fK ?_
  refine Sv.seq ?_
  refine Sv.asg ?_
  refine Ev.Bb ?_
  refine je.yu 2 rfl ?_
  refine je.c8 OQ ?_
  walk_at "dt"
  refine⟨rfl,p,n,cs,w,rfl,hN,jh,hl,hr,rfl,?_⟩
  rcases qt (p:=p) (cs:=cs) (ws:=w) (m:=n.toNat) (by omega) n.toNat (aQ _) with ⟨e1,e2⟩|⟨j,y,hj,e,hlt,y0,y1⟩
  ·rw[show jM (brk p cs w) (bX p cs w n.toNat)=(0,-1,-1) by unfold jM;rw[e1]]
   rw[pW e1] at h1 h2
   rw[iG] at h2
   subst h1 h2
   generalize gU:(jA (o6 _ _ _) _:TS)=tl
   walk_at "dt"
   subst gU
   refine Sv.jz 2 rfl ?_
   refine Sv.jz 3 rfl ?_
   walk_at "dt"
   exact q _
  ·have es:(bX p cs w n.toNat).2=some ((j:Int),y,(brk p cs (w.set j y):Int)):=by rw[e]
   rw[show jM (brk p cs w) (bX p cs w n.toNat)=((brk p cs w:Int)-brk p cs (w.set j y),(j:Int),y) by rw[e];rfl]
   rw[vR es] at h1 h2
   dsimp only at h1 h2
   rw[eZ] at h1 h2
   have hix:eW (w.map PyData.int).length (j:Int)=some j:=by
    unfold eW
    rw[ak]
    repeat (first|rw[if_pos (by omega)]|rw[if_neg (by omega)])
    simp
   have hl2:(w.set j y).length=n.toNat:=by rw[gC];exact hl
   have hr2:∀x∈w.set j y,0<=x/\x<p:=fun x hx=>(p9 hx).elim (hr x) fun z=>z▸⟨y0,y1⟩
   have YM:(st.map gW).length=st.length:=ak ..
   walk_at "dt"
   refine⟨_,_,rfl,hix,?_⟩
   rw[<-qP]
   walk_at "dt"
   rw[show(brk p cs w:Int)-((brk p cs w:Int)-brk p cs (w.set j y))=brk p cs (w.set j y) by omega]
   exact⟨w.set j y,st++[((j:Int),y,(brk p cs (w.set j y):Int))],_,_,_,_,_,hl2,hr2,by rw[bz,fh];omega,by rw[HZ];exact h1,by rw[HZ,mO];exact h2,by rw[cL];rfl⟩
 rintro ρ ⟨w,st,f3,x5,x6,x7,x8,hl,hr,hst,h1,h2,rfl⟩
 refine Sv.jz 2 rfl ?_
 refine Sv.jz 3 rfl ?_
 walk_at "dt"
 rw[show cs.length-((cs.map c9).length:Int).toNat=0 by omega] at h1 h2
 have h1:w=wf:=h1
 have h2:st++[]=sf:=h2
 rw[iG] at h2
 subst h1 h2
 exact q _
theorem UW(prs:aq):SeqAt.shaped (c9 prs)=true:=(HE prs).1
theorem Mu(prs:aq):PyData.eqv (c9 prs) (.list [])=prs.isEmpty:=by
 rw[L2.QI];cases prs<;>rfl
def xA:DF:=fun ds Φ=>ds=[]/\∀(p n:Int) (cs:List aq) (ws:List Int) (f:Bool),fX p n cs->cs.length<=62->ws.length=n.toNat->(∀x∈ws,0<=x/\x<p)->Φ f (.tuple [bW p n cs,aJ ws])
theorem OY:cG xA:=by
 intro ds Φ Ψ hm z
 obtain⟨e,q⟩:=hm
 exact⟨e,fun p n cs ws f a b c d=>z _ _ (q p n cs ws f a b c d)⟩
theorem kW:bZ ["bag","way","many","p","n","rows","word","checks","net"] ["bag"] (aM sM):=⟨rfl,rfl,rfl,by decide+kernel,rfl,by decide+kernel,by decide+kernel⟩
theorem Rn(F:bK K "_law_start" "_law_start" sM f fd)(bL:Callee P w K mg base "_law_draw" 2 ["bag","many"] ig)(xN:Callee P w K mg base "_law_prime" 3 ["bag"] (cI 1 uV))(Mg:Callee P w K mg base "_law_lines" 3 ["bag","sides"] (cI 2 BO))(SD:Callee P w K mg base "_law_renamed" 3 ["bag","n","rows"] (cI 3 ze))(tE:Callee P w K mg base "_law_letters" 3 ["bag","p","n"] (cI 3 uZ))(R9:Callee P w K mg base "_law_net_and_word" 5 ["bag","places","many","wide"] (cI 4 BC))(MZ:Callee P w K mg base "_law_added" 3 ["bag","n","rows","many","wide"] (cI 5 Bx))(Vf:Callee P w K mg base "_law_true_pairs" 3 ["bag","p","row","word"] (cI 4 CY))(Ow:Callee P w K mg base "_law_wrong" 3 ["bag","p","word","many"] (cI 4 z9)):
    bD P w K mg base bI 6 f fd ["bag"] (cI 1 xA):=by
  refine F.ok kW (fun vs H Q E h=>h.1) (fun cdv A outer s H vs Q E hr h=>?_)
  obtain⟨b,l,ws,nb,ds,Φ,rfl,hB,hlive,hnb,hds,aC,hF⟩:=jf h
  obtain⟨rfl,q⟩:=hF
  refine⟨_,(@ao _ _ _ _ _ (@aB _ _ (1) _ _ _ _ kW.nd rfl (Or.inl rfl) (@aF _ _ _ _ _ _ _ _ _ _ bL (hr.mono (by decide)) (@aa _ _ _ _ _ (pv 0) (@aa _ _ _ _ _ ai af rfl) rfl) (by rfl) (by decide) (by rfl) (by rfl)) (by rfl) (by first|exact .inl rfl|exact .inr rfl|assumption)) (@ao _ _ _ _ _ (@aB _ _ (2) _ _ _ _ kW.nd rfl (Or.inl rfl) (@aF _ _ _ _ _ _ _ _ _ _ bL (hr.mono (by decide)) (@aa _ _ _ _ _ (pv 0) (@aa _ _ _ _ _ ai af rfl) rfl) (by rfl) (by decide) (by rfl) (by rfl)) (by rfl) (by first|exact .inl rfl|exact .inr rfl|assumption)) (@ao _ _ _ _ _ (@dB _ _ _ _ _ _ _ _ (@bA _ _ _ _ _ _ _ _ iR (pv 1) ai (bu _)) (@aA _ _ _ (@aY _ _ _ _ (@aF _ _ _ _ _ _ _ _ _ _ R9 (hr.mono (by decide)) (@aa _ _ _ _ _ (pv 0) (@aa _ _ _ _ _ ai (@aa _ _ _ _ _ ai (@aa _ _ _ _ _ ai af rfl) rfl) rfl) rfl) (by rfl) (by decide) (by rfl) (by rfl)))) dY) (@ao _ _ _ _ _ (@aB _ _ (3) _ _ _ _ kW.nd rfl (Or.inr rfl) (@aF _ _ _ _ _ _ _ _ _ _ xN (hr.mono (by decide)) (@aa _ _ _ _ _ (pv 0) af rfl) (by rfl) (by decide) (by rfl) (by rfl)) (by rfl) (by first|exact .inl rfl|exact .inr rfl|assumption)) (@ao _ _ _ _ _ (@g7 _ _ _ _ _ _ (@aF _ _ _ _ _ _ _ _ _ _ Mg (hr.mono (by decide)) (@aa _ _ _ _ _ (pv 0) (@aa _ _ _ _ _ (@aD _ _ _ _ _ _ (cz K) bx (@dU _ _ _ _ (@aa _ _ _ _ _ (@dU _ _ _ _ (@oZ _ _ _ rfl)) (@aa _ _ _ _ _ (@dU _ _ _ _ (@oZ _ _ _ rfl)) (@aa _ _ _ _ _ (@dU _ _ _ _ (@oZ _ _ _ rfl)) af rfl) rfl) rfl)) (pv 1) (fun _ _=>rfl)) af rfl) rfl) (by rfl) (by decide) (by rfl) (by rfl)) (@jr _ (K) _ _ _ (2) _ rfl rfl (@cO _ _ _ _ _ (aG (i:=4) kW.nd rfl (Or.inl rfl)) (@cO _ _ _ _ _ (aG (i:=5) kW.nd rfl (Or.inl rfl)) i7 (by rfl)) (by rfl)) (by rfl) (by rfl)) (by rfl) (by rfl) (by rfl)) (@ao _ _ _ _ _ (@aB _ _ (5) _ _ _ _ kW.nd rfl (Or.inl rfl) (@aF _ _ _ _ _ _ _ _ _ _ SD (hr.mono (by decide)) (@aa _ _ _ _ _ (pv 0) (@aa _ _ _ _ _ (pv 4) (@aa _ _ _ _ _ (@aF _ _ _ _ _ _ _ _ _ _ MZ (hr.mono (by decide)) (@aa _ _ _ _ _ (pv 0) (@aa _ _ _ _ _ (pv 4) (@aa _ _ _ _ _ (pv 5) (@aa _ _ _ _ _ (@aF _ _ _ _ _ _ _ _ _ _ bL (hr.mono (by decide)) (@aa _ _ _ _ _ (pv 0) (@aa _ _ _ _ _ ai af rfl) rfl) (by rfl) (by decide) (by rfl) (by rfl)) (@aa _ _ _ _ _ ai af rfl) rfl) rfl) rfl) rfl) (by rfl) (by decide) (by rfl) (by rfl)) af rfl) rfl) rfl) (by rfl) (by decide) (by rfl) (by rfl)) (by rfl) (by first|exact .inl rfl|exact .inr rfl|assumption)) (@ao _ _ _ _ _ (@aB _ _ (6) _ _ _ _ kW.nd rfl (Or.inr rfl) (@aF _ _ _ _ _ _ _ _ _ _ tE (hr.mono (by decide)) (@aa _ _ _ _ _ (pv 0) (@aa _ _ _ _ _ (pv 3) (@aa _ _ _ _ _ (pv 4) af rfl) rfl) rfl) (by rfl) (by decide) (by rfl) (by rfl)) (by rfl) (by first|exact .inl rfl|exact .inr rfl|assumption)) (@ao _ _ _ _ _ (kY (i:=7) kW.nd rfl rfl (bY.of (show dg (aM sM) ["bag","way","many","p","n","rows","word","checks","net"] _ ["row","bag","p","word"] [none,some 0,some 3,some 6]=true by decide+kernel)) (@dI _ _ _ _ (pv 5)) (fun _ _ _ _=>⟨(aG (i:=0) (by show List.Nodup (["row","bag","p","word"]:List Str);decide+kernel) rfl (Or.inl rfl)),fM,(@aF _ _ _ _ _ _ _ _ _ _ Vf (hr.mono (by decide)) (@aa _ _ _ _ _ (pv 1) (@aa _ _ _ _ _ (pv 2) (@aa _ _ _ _ _ (pv 0) (@aa _ _ _ _ _ (pv 3) af rfl) rfl) rfl) rfl) (by rfl) (by decide) (by rfl) (by rfl))⟩)) (@ao _ _ _ _ _ (@aB _ _ (8) _ _ _ _ kW.nd rfl (Or.inl rfl) (@cK _ _ _ _ _ (@aa _ _ _ _ _ (pv 3) (@aa _ _ _ _ _ (pv 4) (@aa _ _ _ _ _ (fW (bY.of (show dg (aM sM) ["bag","way","many","p","n","rows","word","checks","net"] _ ["pairs"] [none]=true by decide+kernel)) (@dI _ _ _ _ (pv 7)) (fun _ _ _ _=>⟨(aG (i:=0) (by show List.Nodup (["pairs"]:List Str);decide+kernel) rfl (Or.inl rfl)),(lF (@bA _ _ _ _ _ _ _ _ (JP hr.units) (pv 0) (@dU _ _ _ _ af) (bu _))),(pv 0)⟩)) af rfl) rfl) rfl)) (by rfl) (by first|exact .inl rfl|exact .inr rfl|assumption)) (@ao _ _ _ _ _ (@dB _ _ _ _ _ _ _ _ (@bA _ _ _ _ _ _ _ _ iR (pv 1) ai (bu _)) (@aA _ _ _ (@aY _ _ _ _ (@cK _ _ _ _ _ (@aa _ _ _ _ _ (pv 8) (@aa _ _ _ _ _ (@aF _ _ _ _ _ _ _ _ _ _ tE (hr.mono (by decide)) (@aa _ _ _ _ _ (pv 0) (@aa _ _ _ _ _ (pv 3) (@aa _ _ _ _ _ (pv 4) af rfl) rfl) rfl) (by rfl) (by decide) (by rfl) (by rfl)) af rfl) rfl)))) dY) (@aA _ _ _ (@aY _ _ _ _ (@cK _ _ _ _ _ (@aa _ _ _ _ _ (pv 8) (@aa _ _ _ _ _ (@aF _ _ _ _ _ _ _ _ _ _ Ow (hr.mono (by decide)) (@aa _ _ _ _ _ (pv 0) (@aa _ _ _ _ _ (pv 3) (@aa _ _ _ _ _ (pv 6) (@aa _ _ _ _ _ (pv 2) af rfl) rfl) rfl) rfl) (by rfl) (by decide) (by rfl) (by rfl)) af rfl) rfl)))))))))))))),?_⟩
  refine Sv.i6 hB hlive hnb hds aC (ρ:=[.ay, .no, .no, .no, .no, .no, .no, .no, .no]) rfl ?_
  clear aC hds
  walk_at "dt"
  intro way y0 y1
  walk_at "dt"
  intro many m0 m1
  by_cases cw:way=3
  · walk_at "dt"
    refine Ev.fZ Qu rfl ?_
    walk_at "dt"
    exact⟨14,20,7,rfl,by omega,by omega,by omega,by omega,by omega,by omega,fun p n cs ws f hN hn hc hwl hws=>q p n cs ws _ hN (by omega) hwl hws⟩
  walk_at "dt"
  refine Ev.fZ IT rfl ?_
  walk_at "dt"
  refine⟨rfl,fun p hp jL f0=>?_⟩
  have p2:=hp.1
  refine Gv.fK ?_
  have VD:way=0\/way=1\/way=2:=by omega
  obtain⟨ss,hss,hsl,C0⟩:∃ss:List Int,bF [PyData.list ([3,2,5,3].map .int), .list ([3,2,5,3].map .int), .list ([3,2,3,3].map .int)] way=some (.list (ss.map .int))/\ss.length=4/\∀x∈ss,lq x/\x<=5:=by
    rcases VD with rfl|rfl|rfl
    · exact⟨[3,2,5,3],rfl,rfl,by unfold lq;decide⟩
    · exact⟨[3,2,5,3],rfl,rfl,by unfold lq;decide⟩
    · exact⟨[3,2,3,3],rfl,rfl,by unfold lq;decide⟩
  walk_at "dt"
  refine Ev.fZ VN rfl ?_
  walk_at "dt"
  refine⟨rfl,ss,rfl,by omega,by omega,fun x hx=>(C0 x hx).1,fun f1 w R gk mQ hR _=>?_⟩
  have w1:2<=w:=by rcases gk with rfl|rfl|rfl|rfl<;>decide
  have w2:w<=7:=by rcases gk with rfl|rfl|rfl|rfl<;>decide
  have ww:4<=w*w/\w*w<=49:=by rcases gk with rfl|rfl|rfl|rfl<;>decide
  have XS:(w+1)*w<=56:=by rcases gk with rfl|rfl|rfl|rfl<;>decide
  have Hv:(R.map aJ).length=R.length:=ak ..
  have DU:∀r∈R,pY (w*w) r:=fun r hr=>by
    obtain⟨s,c,h⟩:=hR r hr
    have hl:=h.l
    refine⟨h.rise (by omega),fun x hx=>⟨(h.mem (by omega) hx).1,(h.mem (by omega) hx).2.1⟩,GL (by omega),by omega⟩
  obtain⟨n,hn⟩:∃n,w*w=n:=⟨_,rfl⟩
  rw[hn] at ww DU⊢
  walk_at "dt"
  refine Ev.fZ J4 rfl ?_
  walk_at "dt"
  refine Ev.fZ Q9 rfl ?_
  walk_at "dt"
  intro ad ad0 ad1
  walk_at "dt"
  refine⟨rfl,n,ad,5,R,rfl,by omega,by omega,by omega,DU,by omega,by omega,by omega,by omega,fun f2 R2 XO Wu _=>?_⟩
  walk_at "dt"
  refine⟨rfl,n,R2,rfl,by omega,by omega,by omega,fun r hr=>?_,fun f3 R3 Yt QM _=>?_⟩
  · obtain⟨h1,h2,h3,h4⟩:=Wu r hr
    exact⟨h1.imp fun z=>Int.ne_of_lt z,h2,Bp.mpr h3,by omega⟩
  have Wj:(R3.map aJ).length=R3.length:=ak ..
  refine Gv.pP ?_
  walk_at "dt"
  refine Ev.fZ Dl rfl ?_
  walk_at "dt"
  refine⟨rfl,p,n,rfl,⟨by omega,by omega⟩,by omega,by omega,fun ws hwl hws=>?_⟩
  have xO:ws.length=n.toNat:=by omega
  walk_at "dt"
  refine au.ev (au.ir (by decide) rfl ?_)
  walk_at "dt"
  refine fun v=>fG.rel c9 false (fun _ prs=>iA p n.toNat prs) ?_ fun cs hcl hcs=>?_
  · rintro j d hd
    obtain⟨r,hr,rfl⟩:=dW hd
    obtain⟨h1,h2,h3,h4⟩:=QM r (bh hr)
    walk_at "dt"
    refine⟨by walk_at "wk",?_⟩
    refine Ev.fZ Oo rfl ?_
    walk_at "dt"
    exact⟨rfl,p,r,ws,rfl,hp,jL,h1,fun x hx=>by have:=h2 x hx;omega,by omega,by omega,hws,fun f4 prs g1 g2 g3=>⟨fun z=>absurd z (by decide),prs,rfl,by rw[<-xO];exact g1⟩⟩
  have kq:(cs.map c9).length=cs.length:=ak ..
  rw[Wj] at hcl
  walk_at "dt"
  refine au.ev (au.ir (by decide) rfl ?_)
  walk_at "dt"
  refine fun v=>⟨false,fun i ds=>∃es:List aq,ds=es.map c9/\es.length<=i/\∀prs∈es,iA p n.toNat prs,⟨[],rfl,aQ _,(fun _ h=>nomatch h)⟩,?_,?_⟩
  · rintro j d ds hd hl' ⟨es,rfl,hel,hes⟩
    obtain⟨prs,bR,rfl⟩:=dW hd
    walk_at "dt"
    refine⟨by walk_at "wk",?_⟩
    walk_at "dt"
    refine⟨UW prs,by decide,?_⟩
    show∃b,PyData.bool (PyData.eqv (c9 prs) (.list []) !=true)= .bool b/\_
    rw[Mu]
    cases hc:prs with
    | nil =>
      walk_at "dt"
      exact⟨es,rfl,by omega,hes⟩
    | cons pr r =>
      walk_at "dt"
      refine⟨es++[prs],by rw[hc];simp,by simp;omega,fun q hq=>?_⟩
      rcases cD.mp hq with h|h
      · exact hes q h
      · rw[aT.mp h];exact hcs j prs bR
  rintro ds hl' ⟨es,rfl,hel,hes⟩
  rw[kq] at hel
  have hV:fX p n es:=⟨hp,jL,by omega,by omega,by omega,hes⟩
  by_cases c2:way=2
  · walk_at "dt"
    refine Ev.fZ Dl rfl ?_
    walk_at "dt"
    refine⟨rfl,p,n,rfl,⟨by omega,by omega⟩,by omega,by omega,fun Mv YI Xs=>?_⟩
    walk_at "dt"
    exact q p n es Mv _ hV (by omega) (by omega) Xs
  · walk_at "dt"
    refine Ev.fZ KN rfl ?_
    walk_at "dt"
    refine⟨rfl,p,many,ws,rfl,p2,jL,by omega,hws,by omega,by omega,fun f5 xs O hW Qw=>?_⟩
    walk_at "dt"
    exact q p n es xs _ hV (by omega) (by rw[hW.l];exact xO) hW.r
theorem VH(ms l:List Int):(cntK ms l).map (·.1)=ms:=by unfold cntK;rw[dD];exact uJ _
def Ai:DF:=fun ds Φ=>∃(p n:Int) (cs:List aq) (ms L:List Int),ds=[bW p n cs, .dict ((cntK ms L).map ck)]/\2<=p/\p<10^40/\ms.length<64/\(∀x∈ms,0<=x/\x<p)/\∀(f:Bool) (xs:List Int),(∀x∈xs,0<=x/\x<p)->xs.length<=100->Φ f (aJ xs)
theorem NY:cG Ai:=by
 intro ds Φ Ψ hm z
 obtain⟨p,n,cs,ms,L,e,h1,h2,h3,h4,q⟩:=hm
 exact⟨p,n,cs,ms,L,e,h1,h2,h3,h4,fun f xs a b=>z _ _ (q f xs a b)⟩
theorem MC:bZ ["bag","net","there"] ["bag","net","there"] (aM AX):=⟨rfl,rfl,rfl,by decide+kernel,rfl,by decide+kernel,by decide+kernel⟩
theorem Ka(F:bK K "_law_tried" "_law_tried" AX f fd)(bL:Callee P w K mg base "_law_draw" 2 ["bag","many"] ig)(cE:mg "list"=none)(fP:mg "sorted"=none)(aO:mg "range"=none):
  bD P w K mg base bI 3 f fd ["bag","net","there"] (cI 3 Ai):=by
 refine F.ok MC (fun vs H Q E h=>h.1) (fun cdv A outer s H vs Q E hr h=>?_)
 obtain⟨b,l,ws,nb,ds,Φ,rfl,hB,hlive,hnb,hds,aC,hF⟩:=jf h
 obtain⟨p,n,cs,ms,L,rfl,p2,eU,hml,hmr,q⟩:=hF
 refine⟨_,(@ao _ _ _ _ _ (@dB _ _ _ _ _ _ _ _ (@bA _ _ _ _ _ _ _ _ pM (@aD _ _ _ _ _ _ (bN K) cA (pv 1) ai (fun _ _=>rfl)) ai (bu _)) (@aA _ _ _ (@aY _ _ _ _ (@gb _ _ _ _ _ _ _ _ _ (wD rfl) rfl cE ja (@aa _ _ _ _ _ (@gb _ _ _ _ _ _ _ _ _ ux rfl aO vV (@aa _ _ _ _ _ (@aD _ _ _ _ _ _ (bN K) cA (pv 1) ai (fun _ _=>rfl)) af rfl) (by decide) (by decide) (by rfl) (by rfl)) af rfl) (by decide) (by decide) (by rfl) (by rfl)))) dY) (@aA _ _ _ (@aY _ _ _ _ (@az _ _ _ _ _ _ _ _ jn (@bT _ _ _ _ _ _ _ _ (rW) (Dh rfl) rfl fP oS (@aa _ _ _ _ _ (pv 2) af rfl) (by decide) (by decide) (by rfl) (by rfl)) (@dU _ _ _ _ (@aa _ _ _ _ _ (@aF _ _ _ _ _ _ _ _ _ _ bL (hr.mono (by decide)) (@aa _ _ _ _ _ (pv 0) (@aa _ _ _ _ _ (@aD _ _ _ _ _ _ (bN K) cA (pv 1) ai (fun _ _=>rfl)) af rfl) rfl) (by rfl) (by decide) (by rfl) (by rfl)) af rfl)))))),?_⟩
 refine Sv.i6 hB hlive hnb hds aC (ρ:=[.ay, .d false _, .d false _]) rfl ?_
 clear aC hds
 by_cases c:p<13
 ·walk_at "dt"
  refine au.ev (au.sS ?_)
  walk_at "dt"
  refine q _ _ (fun x hx=>?_) (by simp;omega)
  obtain⟨i,hi,rfl⟩:=dN.mp hx
  have:=nv.mp hi;omega
 ·walk_at "dt"
  refine au.ev (au.Cy ?_)
  walk_at "dt"
  refine⟨_,rfl,by unfold cntK;rw[ak];exact hml,fun rs hrs nX=>?_⟩
  rw[VH] at nX
  have hrl:=nX.length_eq
  have hrm:(rs.map PyData.int).length=rs.length:=ak ..
  walk_at "dt"
  intro y y0 y1
  walk_at "dt"
  refine⟨by show _+1<=_;omega,?_⟩
  show Φ _ (.list (rs.map .int++[.int y]))
  rw[show rs.map PyData.int++[.int y]=(rs++[y]).map .int by rw[cL];rfl]
  refine q _ (rs++[y]) (fun x hx=>?_) (by rw[bz,fh];omega)
  rcases cD.mp hx with z|z
  ·exact hmr x (nX.mem_iff.mp z)
  ·rw[aT.mp z];exact⟨y0,y1⟩
def Ds:DF:=fun ds Φ=>∃(p n:Int) (cs:List aq) (ws:List Int),ds=[bW p n cs,aJ ws]/\fX p n cs/\cs.length<=62/\ws.length=n.toNat/\(∀x∈ws,0<=x/\x<p)/\(bX p cs ws n.toNat).2=none/\∀f,Φ f (.bool false)
theorem FQ:cG Ds:=by
 intro ds Φ Ψ hm z
 obtain⟨p,n,cs,ws,e,h1,h2,h3,h4,h5,q⟩:=hm
 exact⟨p,n,cs,ws,e,h1,h2,h3,h4,h5,fun f=>z _ _ (q f)⟩
theorem nQ:bZ ["bag","net","word","there","place","some","part","left","letter"] ["bag","net","word"] (aM vB):=⟨rfl,rfl,rfl,by decide+kernel,rfl,by decide+kernel,by decide+kernel⟩
theorem R6(F:bK K "_law_better" "_law_better" vB f fd)(yv:Callee P w K mg base "_law_votes_all" 2 ["net","word"] (bC 2 vd))(qj:Callee P w K mg base "_law_broken" 2 ["net","word"] (bC 2 sD))(R7:Callee P w K mg base "_law_tried" 3 ["bag","net","there"] (cI 3 Ai))(aO:mg "range"=none):
  bD P w K mg base bI 4 f fd ["bag","net","word"] (cI 3 Ds):=by
 refine F.ok nQ (fun vs H Q E h=>h.1) (fun cdv A outer s H vs Q E hr h=>?_)
 obtain⟨b,l,ws,nb,ds,Φ,rfl,hB,hlive,hnb,hds,aC,hF⟩:=jf h
 obtain⟨p,n,cs,ws,rfl,hN,jh,hwl,hws,hno,q⟩:=hF
 refine⟨_,(@ao _ _ _ _ _ (@aB _ _ (3) _ _ _ _ nQ.nd rfl (Or.inl rfl) (@aF _ _ _ _ _ _ _ _ _ _ yv (hr.mono (by decide)) (@aa _ _ _ _ _ (pv 1) (@aa _ _ _ _ _ (pv 2) af rfl) rfl) (by rfl) (by decide) (by rfl) (by rfl)) (by rfl) (by first|exact .inl rfl|exact .inr rfl|assumption)) (@ao _ _ _ _ _ (@dX _ _ _ _ _ _ _ _ dw rfl (@eX _ _ _ _ _ _ rfl aO (@aa _ _ _ _ _ (@aD _ _ _ _ _ _ (bN K) cA (pv 1) ai (fun _ _=>rfl)) af rfl) (by rfl)) (aG (i:=4) nQ.nd rfl (Or.inr rfl)) (@ao _ _ _ _ _ (kY (i:=5) nQ.nd rfl rfl (bY.of (show dg (aM vB) ["bag","net","word","there","place","some","part","left","letter"] _ ["pairs","place"] [none,some 4]=true by decide+kernel)) (@dI _ _ _ _ (@aD _ _ _ _ _ _ (bN K) cA (pv 1) ai (fun _ _=>rfl))) (fun _ _ _ _=>⟨(aG (i:=0) (by show List.Nodup (["pairs","place"]:List Str);decide+kernel) rfl (Or.inl rfl)),(lF (bA (Ly (K:=K) (by rfl)) (pv 1) (by(refine' Dw (bY.of (NX:=["pairs","place"]) (N:=["pair"]) (mp:=[none]) ?CB) ?zW ?BW);(case zW=>exact(IB (K:=K) rfl (pv 0)));(case BW=>exact(fun _ _ _ _=>⟨(aG (i:=0) (by show List.Nodup (["pair"]:List Str);decide+kernel) rfl (Or.inl rfl)),fM,(aD (r:=bN K) cA (pv 0) ai (fun _ _=>rfl))⟩));(case CB=>decide+kernel)) (by with_unfolding_all rfl))),(pv 0)⟩)) (@ao _ _ _ _ _ (@aB _ _ (6) _ _ _ _ nQ.nd rfl (Or.inl rfl) (@cK _ _ _ _ _ (@aa _ _ _ _ _ (@aD _ _ _ _ _ _ (bN K) cA (pv 1) ai (fun _ _=>rfl)) (@aa _ _ _ _ _ (@aD _ _ _ _ _ _ (bN K) cA (pv 1) ai (fun _ _=>rfl)) (@aa _ _ _ _ _ (pv 5) af rfl) rfl) rfl)) (by rfl) (by first|exact .inl rfl|exact .inr rfl|assumption)) (@ao _ _ _ _ _ (@aB _ _ (7) _ _ _ _ nQ.nd rfl (Or.inl rfl) (@aF _ _ _ _ _ _ _ _ _ _ qj (hr.mono (by decide)) (@aa _ _ _ _ _ (pv 6) (@aa _ _ _ _ _ (pv 2) af rfl) rfl) (by rfl) (by decide) (by rfl) (by rfl)) (by rfl) (by first|exact .inl rfl|exact .inr rfl|assumption)) (@aA _ _ _ (@dX _ _ _ _ _ _ _ _ dw rfl (@dI _ _ _ _ (@aF _ _ _ _ _ _ _ _ _ _ R7 (hr.mono (by decide)) (@aa _ _ _ _ _ (pv 0) (@aa _ _ _ _ _ (pv 1) (@aa _ _ _ _ _ (@aD _ _ _ _ _ _ (cz K) bx (pv 3) (pv 4) (fun _ _=>rfl)) af rfl) rfl) rfl) (by rfl) (by decide) (by rfl) (by rfl))) (aG (i:=8) nQ.nd rfl (Or.inl rfl)) (@aA _ _ _ (@dB _ _ _ _ _ _ _ _ (@bA _ _ _ _ _ _ _ _ pM (@aF _ _ _ _ _ _ _ _ _ _ qj (hr.mono (by decide)) (@aa _ _ _ _ _ (pv 6) (@aa _ _ _ _ _ (@az _ _ _ _ _ _ _ _ jn (@az _ _ _ _ _ _ _ _ jn (@ia _ _ _ _ _ _ _ _ _ (gJ K) iB (pv 2) g8 (@iy _ _ _ (pv 4))) (@dU _ _ _ _ (@aa _ _ _ _ _ (pv 8) af rfl))) (@ia _ _ _ _ _ _ _ _ _ (gJ K) iB (pv 2) (@iy _ _ _ (@az _ _ _ _ _ _ _ _ cF (pv 4) ai)) g8)) af rfl) rfl) (by rfl) (by decide) (by rfl) (by rfl)) (pv 7) (bu _)) (@aA _ _ _ (@aY _ _ _ _ mP)) dY)) (by intro _;rfl)))))) (by intro _;rfl)) (@aA _ _ _ (@aY _ _ _ _ mP)))),?_⟩
 refine Sv.i6 hB hlive hnb hds aC (ρ:=[.ay, .d false _, .d false _, .no, .no, .no, .no, .no, .no]) rfl ?_
 clear aC hds
 have p2:=hN.hp.1
 have eU:=hN.eU
 have n0:=hN.n0
 have n1:=hN.n1
 have lC:(ws.map PyData.int).length=ws.length:=ak ..
 have kq:(cs.map c9).length=cs.length:=ak ..
 walk_at "dt"
 refine Ev.c8 JS ?_
 walk_at "dt"
 refine⟨rfl,p,n,cs,ws,rfl,hN,hwl,hws,fun M f0 hM=>?_⟩
 refine Gv.pP ?_
 refine Sv.seq ?_
 refine Sv.j7 ?_
 walk_at "dt"
 refine⟨fun i ρ=>∃(x4 x5 x6 x7 x8:Sl),ρ=[.ay, .d false (bW p n cs), .d false (aJ ws), .d false (qC p cs ws n.toNat M),x4,x5,x6,x7,x8],⟨_,_,_,_,_,rfl⟩,?_,?_⟩
 ·rintro i d ρ ⟨hi,rfl⟩ ⟨x4,x5,x6,x7,x8,rfl⟩
  rw[lg]
  have hij:i<n.toNat:=by omega
  have hat:=JL (p:=p) (cs:=cs) (ws:=ws) (M:=M) hij
  have hnd:=hM.nd i hij
  have oM:=hM.m i hij
  have hlen:(bQ p cs ws (i:Int)).length<=cs.length:=Fx
  have hml:(M.getD i []).length<=(bQ p cs ws (i:Int)).length:=ou hnd fun k hk=>(oM k).mp hk
  have z5:=fun(x:Int) (h:x∈M.getD i [])=>tY (show 0<p by omega) x ((oM x).mp h)
  have hwi:i<ws.length:=by omega
  obtain⟨sb,vK⟩:∃sb,(cs.filter fun prs=>decide ((i:Int)∈prs.map (·.1)))=sb:=⟨_,rfl⟩
  have tB:=fun(x:Int)=>Pq (ws:=ws) (i:=i) (x:=x) hN
  rw[vK] at tB
  have JW:fX p n sb:=by
   refine⟨hN.hp,eU,n0,n1,?_,fun prs hp=>?_⟩
   ·rw[<-vK];exact eK (List.length_filter_le _ _) hN.cl
   ·rw[<-vK] at hp;exact hN.ok prs (iP.mp hp).1
  refine Gv.fK ?_
  walk_at "dt"
  refine au.ev (au.ir (by decide) rfl ?_)
  walk_at "dt"
  refine fun v=>⟨false,fun k ds=>ds=((cs.take k).filter fun prs=>decide ((i:Int)∈prs.map (·.1))).map c9,rfl,?_,?_⟩
  ·rintro k d ds hd hl' rfl
   obtain⟨prs,bR,rfl⟩:=dW hd
   have hts:=take_snoc bR
   obtain⟨g1,g2,g3⟩:=hN.ok prs (bh bR)
   have gM:(prs.map pairD).length=prs.length:=ak ..
   walk_at "dt"
   refine⟨by walk_at "wk",?_⟩
   walk_at "dt"
   refine au.ev (au.ir (by decide) rfl ?_)
   walk_at "dt"
   refine fun v=>fG.rel PyData.int false (fun m x=>∃pr,prs[m]?=some pr/\x=pr.1) ?_ fun os fQ hos=>?_
   ·rintro m d hd
    obtain⟨pr,bq,rfl⟩:=dW hd
    unfold pairD
    walk_at "dt"
    refine⟨by walk_at "wk",?_⟩
    walk_at "dt"
    exact⟨pr,bq,rfl⟩
   rw[gM] at fQ
   have ON:os=prs.map (·.1):=by
    apply gR
    intro k
    rw[aS]
    by_cases hk:k<prs.length
    ·obtain⟨t,e1,e2⟩:=hos k os[k] (aH (by omega))
     rw[e1,aH (by omega),e2];rfl
    ·rw[ie (by omega),ie (by omega)];rfl
   subst ON
   refine⟨_,rfl,_,rfl,?_⟩
   by_cases c:(i:Int)∈prs.map (·.1)
   ·rw[if_pos (by rw[decide_eq_true c];rfl)]
    walk_at "dt"
    show _=List.map _ (List.filter _ (cs.take (k+1)))
    rw[hts,uO,show List.filter (fun prs:aq=>decide ((i:Int)∈prs.map (·.1))) [prs]=[prs] from Dk (by exact decide_eq_true c),cL]
    rfl
   ·rw[if_neg (by rw[decide_eq_false c];decide)]
    show _=List.map _ (List.filter _ (cs.take (k+1)))
    rw[hts,uO,show List.filter (fun prs:aq=>decide ((i:Int)∈prs.map (·.1))) [prs]=[] from xD (by simp only[decide_eq_true_eq];exact c),iG]
  rintro ds hl' rfl
  rw[kq,gV,vK]
  walk_at "dt"
  refine Ev.c8 uL ?_
  walk_at "dt"
  refine⟨rfl,p,n,sb,ws,rfl,JW,hwl,hws,?_⟩
  refine Gv.fK ?_
  refine Sv.forL ?_
  refine Ev.fZ NY rfl ?_
  unfold qC
  walk_at "dt"
  refine⟨rfl,p,n,cs,M.getD i [],bQ p cs ws (i:Int),rfl,p2,eU,by omega,z5,fun f9 xs hxs jv=>?_⟩
  have rC:(xs.map PyData.int).length=xs.length:=ak ..
  refine⟨_,rfl,fun v=>⟨fun k ρ=>∃(x8:Sl),ρ=[.ay, .d false (bW p n cs), .d false (aJ ws), .d false (.list ((List.range n.toNat).map fun j=> .dict ((cntK (M.getD j []) (bQ p cs ws (j:Int))).map ck))), .d true (.int (i:Int)), .d false (.list (sb.map c9)), .d false (bW p n sb), .d true (.int (brk p sb ws)),x8],⟨x8,rfl⟩,?_,?_⟩⟩
  ·rintro k d ρ hd ⟨x8,rfl⟩
   obtain⟨y,hy,rfl⟩:=dW hd
   obtain⟨y0,y1⟩:=hxs y (bh hy)
   have hle:=Lq hN hwl hws hno hij y0 y1
   have XU:=tB y
   have hc1:=Jl (xs:=ws.map PyData.int) (lo:=none) (hi:=some (i:Int))
   have hc2:=Jl (xs:=ws.map PyData.int) (lo:=some ((i:Int)+1)) (hi:=none)
   have tG:eE (ws.map PyData.int) none (some (i:Int))++[.int y]++eE (ws.map PyData.int) (some ((i:Int)+1)) none=(ws.set i y).map .int:=by
    rw[JB (by omega) (by rw[lC];omega),eZ,qP]
   have hl2:(ws.set i y).length=n.toNat:=by rw[gC];exact hwl
   have hr2:∀x∈ws.set i y,0<=x/\x<p:=fun x hx=>(p9 hx).elim (hws x) fun z=>z▸⟨y0,y1⟩
   refine Gv.name ?_
   refine Sv.ow ?_
   refine Tv.test ?_
   unfold aJ
   walk_at "dt"
   refine Ev.c8 uL ?_
   walk_at "dt"
   refine⟨by show _+1<=_;omega,_,rfl,?_⟩
   walk_at "dt"
   refine⟨by rw[bz];show _+1+_<=_;omega,?_⟩
   walk_at "dt"
   refine⟨rfl,p,n,sb,ws.set i y,by show[_,PyData.list (_++[PyData.int y]++_)]=_;rw[tG],JW,hl2,hr2,?_⟩
   walk_at "dt"
   exact⟨_,rfl⟩
  ·rintro ρ ⟨x8,rfl⟩
   exact⟨_,_,_,_,_,rfl⟩
 rintro ρ ⟨x4,x5,x6,x7,x8,rfl⟩
 walk_at "dt"
 exact q _
theorem DP{p:Int}{cs:List aq}{n:Nat}:∀{k:Nat} {ws:List Int},(runC p cs n k ws).1.length=ws.length
  |0,_=>rfl
  | k + 1, ws => by
    unfold runC
    split
    · rfl
    · rw[DP (k:=k),gC]
theorem GX{p:Int}{cs:List aq}{n:Nat}:∀{k:Nat} {ws:List Int},(runC p cs n k ws).2.length<=k
  |0,_=>aQ _
  | k + 1, ws => by
    unfold runC
    split
    · exact fT _
    · exact Nat.succ_le_succ (GX (k:=k))
theorem nP:bZ ["script","bag","net","word","handed","due","found"] ["script"] (aM lH):=⟨rfl,rfl,rfl,by decide+kernel,rfl,by decide+kernel,by decide+kernel⟩
theorem QZ(F:bK K "law" "law" lH f fd)(SH:Callee P w K mg base "_law_bag" 1 ["script"] (DL K))(Mt:Callee P w K mg base "_law_start" 6 ["bag"] (cI 1 xA))(M1:Callee P w K mg base "_law_calmed" 4 ["net","word"] (bC 2 xB))(FN:Callee P w K mg base "calmed" 5 ["net","word"] (bC 2 wm))(Ig:Callee P w K mg base "_law_copy" 1 ["net"] (bC 1 xS))(RG:Callee P w K mg base "_law_better" 4 ["bag","net","word"] (cI 3 Ds))(wA:Callee P w K mg base "_law_alike" 5 ["found","due"] (bC 2 (pX 5)))(qj:Callee P w K mg base "_law_broken" 2 ["net","word"] (bC 2 sD))(cE:mg "list"=none)(bB:mg "len"=none):
  bD P w K mg base bI 7 f fd ["script"] (tQ K):=by
 refine F.ok nP (fun vs H Q E h=>?_) (fun cdv A outer s H vs Q E hr h=>?_)
 ·obtain⟨a,ns,rfl,hS,hl,q⟩:=h
  rfl
 obtain⟨a,ns,rfl,hS,hl,q⟩:=h
 refine⟨_,(@ao _ _ _ _ _ (@aB _ _ (1) _ _ _ _ nP.nd rfl (Or.inl rfl) (@aF _ _ _ _ _ _ _ _ _ _ SH (hr.mono (by decide)) (@aa _ _ _ _ _ (pv 0) af rfl) (by rfl) (by decide) (by rfl) (by rfl)) (by rfl) (by first|exact .inl rfl|exact .inr rfl|assumption)) (@ao _ _ _ _ _ (@g7 _ _ _ _ _ _ (@aF _ _ _ _ _ _ _ _ _ _ Mt (hr.mono (by decide)) (@aa _ _ _ _ _ (pv 1) af rfl) (by rfl) (by decide) (by rfl) (by rfl)) (@jr _ (K) _ _ _ (2) _ rfl rfl (@cO _ _ _ _ _ (aG (i:=2) nP.nd rfl (Or.inl rfl)) (@cO _ _ _ _ _ (aG (i:=3) nP.nd rfl (Or.inl rfl)) i7 (by rfl)) (by rfl)) (by rfl) (by rfl)) (by rfl) (by rfl) (by rfl)) (@ao _ _ _ _ _ (@aB _ _ (4) _ _ _ _ nP.nd rfl (Or.inl rfl) (@cK _ _ _ _ _ (@aa _ _ _ _ _ (@aF _ _ _ _ _ _ _ _ _ _ Ig (hr.mono (by decide)) (@aa _ _ _ _ _ (pv 2) af rfl) (by rfl) (by decide) (by rfl) (by rfl)) (@aa _ _ _ _ _ (@gb _ _ _ _ _ _ _ _ (lK K) qm rfl cE ja (@aa _ _ _ _ _ (pv 3) af rfl) (by decide) (by decide) (by rfl) (by rfl)) af rfl) rfl)) (by rfl) (by first|exact .inl rfl|exact .inr rfl|assumption)) (@ao _ _ _ _ _ (@aB _ _ (5) _ _ _ _ nP.nd rfl (Or.inl rfl) (@aF _ _ _ _ _ _ _ _ _ _ M1 (hr.mono (by decide)) (@aa _ _ _ _ _ (pv 2) (@aa _ _ _ _ _ (pv 3) af rfl) rfl) (by rfl) (by decide) (by rfl) (by rfl)) (by rfl) (by first|exact .inl rfl|exact .inr rfl|assumption)) (@ao _ _ _ _ _ (@aB _ _ (6) _ _ _ _ nP.nd rfl (Or.inl rfl) (@aF _ _ _ _ _ _ _ _ _ _ FN (hr.mono (by decide)) (@aa _ _ _ _ _ (@aD _ _ _ _ _ _ (bN K) cA (pv 4) ai (fun _ _=>rfl)) (@aa _ _ _ _ _ (@aD _ _ _ _ _ _ (bN K) cA (pv 4) ai (fun _ _=>rfl)) af rfl) rfl) (by rfl) (by decide) (by rfl) (by rfl)) (by rfl) (by first|exact .inl rfl|exact .inr rfl|assumption)) (@ao _ _ _ _ _ (@dB _ _ _ _ _ _ _ _ (PW.pt (rQ (@EB _ _ _ _ (@sG _ (K) _ _ rfl (@aF _ _ _ _ _ _ _ _ _ _ wA (hr.mono (by decide)) (@aa _ _ _ _ _ (pv 6) (@aa _ _ _ _ _ (pv 5) af rfl) rfl) (by rfl) (by decide) (by rfl) (by rfl)) (fun _=>rfl))) (sC (@bA _ _ _ _ _ _ _ _ (JP hr.units) (pv 4) (@cK _ _ _ _ _ (@aa _ _ _ _ _ (pv 2) (@aa _ _ _ _ _ (pv 3) af rfl) rfl)) (bu _))))) (@aA _ _ _ (@aY _ _ _ _ mP)) dY) (@ao _ _ _ _ _ (@dB _ _ _ _ _ _ _ _ (PW.pt (rQ (PW.pt (oE (@bA _ _ _ _ _ _ _ _ nH (@bT _ _ _ _ _ _ _ _ (e7 K) gx rfl bB fV (@aa _ _ _ _ _ (@aD _ _ _ _ _ _ (bN K) cA (pv 5) ai (fun _ _=>rfl)) af rfl) (by decide) (by decide) (by rfl) (by rfl)) ai (bu _)) (nI (@bA _ _ _ _ _ _ _ _ jD (@aD _ _ _ _ _ _ (bN K) cA (@aD _ _ _ _ _ _ (cz K) bx (@aD _ _ _ _ _ _ (bN K) cA (pv 5) ai (fun _ _=>rfl)) (@oQ _ _ _ _ _ _ om ai) (fun _ _=>rfl)) ai (fun _ _=>rfl)) (@aF _ _ _ _ _ _ _ _ _ _ qj (hr.mono (by decide)) (@aa _ _ _ _ _ (pv 2) (@aa _ _ _ _ _ (@aD _ _ _ _ _ _ (bN K) cA (pv 5) ai (fun _ _=>rfl)) af rfl) rfl) (by rfl) (by decide) (by rfl) (by rfl)) (bu _))))) (sC (@sG _ (K) _ _ rfl (@aF _ _ _ _ _ _ _ _ _ _ RG (hr.mono (by decide)) (@aa _ _ _ _ _ (pv 1) (@aa _ _ _ _ _ (pv 2) (@aa _ _ _ _ _ (@aD _ _ _ _ _ _ (bN K) cA (pv 5) ai (fun _ _=>rfl)) af rfl) rfl) rfl) (by rfl) (by decide) (by rfl) (by rfl)) (fun _=>rfl))))) (@aA _ _ _ (@aY _ _ _ _ mP)) dY) (@ao _ _ _ _ _ (@kB _ _ _ _ (iD jO kJ kM jU (@aD _ _ _ _ _ _ (bN K) cA (pv 6) ai (fun _ _=>rfl)) (@aa _ _ _ _ _ ai af rfl)) (by rfl)) (@ao _ _ _ _ _ (@kB _ _ _ _ (iD jO kJ kM jU (@aD _ _ _ _ _ _ (bN K) cA (pv 6) ai (fun _ _=>rfl)) (@aa _ _ _ _ _ (@cK _ _ _ _ _ (@oZ _ _ _ rfl)) af rfl)) (by rfl)) (@aA _ _ _ (@aY _ _ _ _ (@Gz _ _ _ _ _ _ _ (@rZ _ _ _ _ _ _ _ _ (u5 hr.units) (pv 4) (@cK _ _ _ _ _ (@aa _ _ _ _ _ (pv 2) (@aa _ _ _ _ _ (pv 3) af rfl) rfl)) (bu _)) (@FY _ _ _ _ _ (@aF _ _ _ _ _ _ _ _ _ _ wA (hr.mono (by decide)) (@aa _ _ _ _ _ (@aF _ _ _ _ _ _ _ _ _ _ FN (hr.mono (by decide)) (@aa _ _ _ _ _ (@aF _ _ _ _ _ _ _ _ _ _ Ig (hr.mono (by decide)) (@aa _ _ _ _ _ (pv 2) af rfl) (by rfl) (by decide) (by rfl) (by rfl)) (@aa _ _ _ _ _ (@gb _ _ _ _ _ _ _ _ (lK K) qm rfl cE ja (@aa _ _ _ _ _ (@aD _ _ _ _ _ _ (bN K) cA (pv 5) ai (fun _ _=>rfl)) af rfl) (by decide) (by decide) (by rfl) (by rfl)) af rfl) rfl) (by rfl) (by decide) (by rfl) (by rfl)) (@aa _ _ _ _ _ (@cK _ _ _ _ _ (@aa _ _ _ _ _ (@aD _ _ _ _ _ _ (bN K) cA (pv 5) ai (fun _ _=>rfl)) (@aa _ _ _ _ _ (@dU _ _ _ _ af) af rfl) rfl)) af rfl) rfl) (by rfl) (by decide) (by rfl) (by rfl))))))))))))))),?_⟩
 walk_at "st"
 refine⟨a,ns,rfl,hS,hl,fun b l H1 s1 f1 B1=>?_⟩
 have qS:=s1.seq hS
 have key:∀(t:TS) (D:Ends),(∀H,D.rt (.bl true) H)->Sv (yf b l H1) [.raw (.ref a), .ay, .no, .no, .no, .no, .no] t {nx:=fun _=>False,rt:=fun _ d=>d= .bool true}->t D [some (.ref a),some (.ref b),none,none,none,none,none] H1:=fun t D d2 h=>h _ _ _ D (SK (m:=5) B1) (T9 d2)
 refine R.JE ?_
 dsimp only
 refine key _ _ (fun H=>?_) ?_
 ·exact q _
 generalize gU:(jA (gv (iS (bC 2 wm) _ _ _) _) _:TS)=tl
 walk_at "dt"
 refine Ev.fZ OY rfl ?_
 walk_at "dt"
 refine⟨rfl,fun p n cs ws f hN jh hwl hws=>?_⟩
 have p2:=hN.hp.1
 have eU:=hN.eU
 have n0:=hN.n0
 have n1:=hN.n1
 have hcl:=hN.cl
 have lQ:aJ ws=j3 (ws.map some):=by show PyData.list _=PyData.list _;rw[dD];rfl
 have hsh:SeqAt.shaped (.tuple [bW p n cs,aJ ws])=true:=by rw[lQ];exact Rl p n cs (ws.map some)
 have hee:PyData.eqv (.tuple [bW p n cs,aJ ws]) (.tuple [bW p n cs,aJ ws])=true:=eqv_refl _ (.inl hsh)
 walk_at "dt"
 refine Ev.c8 EH ?_
 walk_at "dt"
 refine⟨rfl,p,n,cs,rfl,by omega,fun fc=>?_⟩
 walk_at "dt"
 refine Ev.c8 O8 ?_
 walk_at "dt"
 refine⟨rfl,p,n,cs,ws,rfl,hN,jh,hwl,hws,fun fd=>?_⟩
 refine Gv.pP ?_
 subst gU
 obtain⟨qO,qU,Ah⟩:=Sj (cs:=cs) (n:=n.toNat) (show 0<p by omega) cs.length (ws:=ws) En hws
 obtain⟨wf,hwf⟩:∃wf,(runC p cs n.toNat cs.length ws).1=wf:=⟨_,rfl⟩
 obtain⟨sf,jZ⟩:∃sf,(runC p cs n.toNat cs.length ws).2=sf:=⟨_,rfl⟩
 have xO:wf.length=ws.length:=by rw[<-hwf];exact DP
 have Yd:sf.length<=cs.length:=by rw[<-jZ];exact GX
 have hend:runC p cs n.toNat cs.length wf=(wf,[]):=by rw[hwf] at qO;exact pW qO
 rw[hwf] at qO qU Ah
 rw[jZ] at Ah
 rw[hwf,jZ]
 have hsm:(sf.map gW).length=sf.length:=ak ..
 have lC:(wf.map PyData.int).length=wf.length:=ak ..
 have hal:∀sf:List vm,sf.length<=400->Au 5 (.tuple [aJ wf, .list (sf.map gW)]):=fun sf hs=>by
  refine .inr ⟨_, .inr rfl,by show 2<=10000;omega,fun e he=>?_⟩
  simp only[aP,cJ,or_false] at he
  rcases he with rfl|rfl
  ·refine .inr ⟨_, .inl rfl,by rw[ak];omega,fun e he=>?_⟩
   obtain⟨x,_,rfl⟩:=dN.mp he
   exact .inl rfl
  ·refine .inr ⟨_, .inl rfl,by rw[ak];omega,fun e he=>?_⟩
   obtain⟨t,_,rfl⟩:=dN.mp he
   refine .inr ⟨_, .inr rfl,by show 3<=10000;omega,fun e he=>?_⟩
   simp only[aP,cJ,or_false] at he
   rcases he with rfl|rfl|rfl<;>exact .inl rfl
 refine Sv.OJ JY (vS rfl) ?_ ?_
 ·walk_at "dt"
  refine⟨rfl,p,n,cs,ws,rfl,hN,jh,hwl,hws,rfl,_,_,rfl,by rw[ak,hwf];omega,by rw[ak,jZ];omega,?_⟩
  rw[hwf,jZ]
  walk_at "dt"
  refine Ev.c8 (ve 5) ?_
  walk_at "dt"
  refine⟨rfl,_,rfl,hal sf (by omega),?_⟩
  walk_at "dt"
  have hne:(PyData.eqv (.tuple [bW p n cs, .list (ws.map .int)]) (.tuple [bW p n cs,aJ ws]) !=true)=false:=by rw[show PyData.eqv _ _=true from hee];rfl
  refine⟨hne,?_⟩
  by_cases Dm:sf=[]
  ·subst Dm
   walk_at "dt"
   refine Ev.fZ FQ rfl ?_
   walk_at "dt"
   refine⟨rfl,p,n,cs,wf,rfl,hN,jh,by omega,qU,qO,fun _=>?_⟩
   walk_at "dt"
   rfl
  ·obtain⟨t,ht⟩:∃t,sf.getLast?=some t:=⟨_,List.getLast?_eq_some_getLast Dm⟩
   have hpos:0<sf.length:=Bp.mpr Dm
   have mD:=Ah t ht
   have XM:bF (sf.map gW) (-1)=some (gW t):=by
    unfold bF eW
    rw[if_neg (by decide),if_pos (by rw[hsm];omega)]
    show(sf.map gW)[_]?=_
    rw[aS,hsm,show(-1+(sf.length:Int)).toNat=sf.length-1 by omega,<-List.getLast?_eq_getElem?,ht];rfl
   obtain⟨t1,t2,t3⟩:=t
   have mD:t3=(brk p cs wf:Int):=mD
   subst mD
   walk_at "dt"
   refine Ev.c8 uL ?_
   walk_at "dt"
   refine⟨rfl,p,n,cs,wf,rfl,hN,by omega,qU,?_⟩
   walk_at "dt"
   refine Ev.fZ FQ rfl ?_
   walk_at "dt"
   refine⟨rfl,p,n,cs,wf,rfl,hN,jh,by omega,qU,qO,fun _=>?_⟩
   walk_at "dt"
   rfl
 ·walk_at "dt"
  rw[if_pos (by exact congrArg (fun b:Bool=>(b !=false)) hee)]
  refine Ev.c8 (ve 5) ?_
  walk_at "dt"
  refine Ev.c8 JY ?_
  walk_at "dt"
  refine Ev.c8 EH ?_
  walk_at "dt"
  refine⟨rfl,p,n,cs,rfl,by omega,fun f9=>?_⟩
  unfold aJ
  walk_at "dt"
  refine⟨rfl,p,n,cs,wf,rfl,hN,jh,by omega,qU,?_⟩
  rw[hend]
  walk_at "dt"
  refine⟨rfl,_,rfl,hal [] (fT _),?_⟩
  rfl
end
local macro_rules| `(tactic|walk_at "bn")=> `(tactic|(intro _ _ _ _ _ _ us hl;first|(obtain⟨_,h⟩:=D6 hl;subst h;rfl)|(obtain⟨_,_,h⟩:=ln2 hl;subst h;rfl)|(obtain⟨_,_,_,h⟩:=Jg hl;subst h;rfl)|(obtain⟨_,_,_,_,h⟩:=Ei hl;subst h;rfl)|(obtain⟨_,_,_,_,_,h⟩:=Ss hl;subst h;rfl)|(obtain⟨_,_,_,_,_,_,h⟩:=ln6 hl;subst h;rfl)|(obtain⟨_,_,_,_,_,_,_,h⟩:=ln7 hl;subst h;rfl)))
theorem all_mk{l:PySem.W.OpenLaw}{w:World}{K:PySem.W.Frag}{h:Heap}{mg:Str->Option Value}{fa:Addr}{f0 f1 f2 f3 f4 f5 f6 f7 f8 f9 QF Us NP RJ QD Xu MD OZ Qm Na KW Ml S6 Nz Wg L7 SR Tc Kh TH RM UM f32 Wb Oa Ua Ag:Addr}(X:K.In h)(G:h.Ns mainGlobals mg)(KQ:mg "law"=some (.ref fa))
  {Qo Fg:Option Addr} {Ll:Array (Option Value)} {Ob GI EV EY Br EK:Value}
  (d0:aN K "inverse" "inverse" yt f0)
  (d1:aN K "total" "total" zY f1)
  (d2:aN K "sums" "sums" sY f2)
  (d3:aN K "sum_of" "sum_of" Bo f3)
  (d4:aN K "voices" "voices" vW f4)
  (d5:aN K "all_voices" "all_voices" Cp f5)
  (d6:aN K "counts_of" "counts_of" yo f6)
  (d7:aN K "broken_of" "broken_of" wz f7)
  (d8:aN K "calming" "calming" B9 f8)
  (d9:aN K "calmed" "calmed" CC f9)
  (AU:aN K "_law_bag" "_law_bag" uD QF)
  (zg:aN K "_law_stirred" "_law_stirred" yU Us)
  (B3:aN K "_law_draw" "_law_draw" Co NP)
  (xW:aN K "_law_prime_from" "_law_prime_from" tP RJ)
  (wO:aN K "_law_prime" "_law_prime" zZ QD)
  (yd:aN K "_law_letters" "_law_letters" r6 Xu)
  (Dc:aN K "_law_over" "_law_over" BR MD)
  (CO:aN K "_law_sum" "_law_sum" sQ OZ)
  (Cm:aN K "_law_lines" "_law_lines" q9 Qm)
  (yq:aN K "_law_renamed" "_law_renamed" tL Na)
  (zK:aN K "_law_added" "_law_added" qJ KW)
  (A1:aN K "_law_true_pairs" "_law_true_pairs" qV Ml)
  (zF:aN K "_law_net" "_law_net" rL S6)
  (xZ:aN K "_law_planted_check" "_law_planted_check" rV Nz)
  (BK:aN K "_law_planted" "_law_planted" rm Wg)
  (CA:aN K "_law_net_and_word" "_law_net_and_word" Ay L7)
  (zO:aN K "_law_wrong" "_law_wrong" Ao SR)
  (B4:aN K "_law_alike" "_law_alike" uR Tc)
  (AY:aN K "_law_copy" "_law_copy" uU Kh)
  (Cf:aN K "_law_votes_all" "_law_votes_all" uE TH)
  (Aa:aN K "_law_broken" "_law_broken" u9 RM)
  (zJ:aN K "_law_best" "_law_best" Ci UM)
  (Ae:aN K "_law_calmed" "_law_calmed" xy f32)
  (C8:aN K "_law_start" "_law_start" sM Wb)
  (Af:aN K "_law_tried" "_law_tried" AX Oa)
  (yD:aN K "_law_better" "_law_better" vB Ua)
  (Ab:PySem.W.nsIn K mainGlobals "law"=some (some (.ref Ag))) (Dr:K.lookup Ag=some ⟨Ob,Qo, .func (PySem.W.fnOf "law" "law" (oA lH) (m5 lH) (aM lH) .none GI EV EY Fg Br EK),Ll⟩) (AE:PySem.W.codeIn K Br "law"=true) (xV:PySem.W.keepIn K (.ref Ag)=true)
  (zD:PySem.W.nsIn K mainGlobals "abs"=some none)
  (BJ:PySem.W.nsIn K mainGlobals "all"=some none)
  (yX:PySem.W.nsIn K mainGlobals "bool"=some none)
  (za:PySem.W.nsIn K mainGlobals "dict"=some none)
  (BD:PySem.W.nsIn K mainGlobals "enumerate"=some none)
  (CZ:PySem.W.nsIn K mainGlobals "int"=some none)
  (xC:PySem.W.nsIn K mainGlobals "isinstance"=some none)
  (zl:PySem.W.nsIn K mainGlobals "len"=some none)
  (z7:PySem.W.nsIn K mainGlobals "list"=some none)
  (yY:PySem.W.nsIn K mainGlobals "min"=some none)
  (wY:PySem.W.nsIn K mainGlobals "range"=some none)
  (As:PySem.W.nsIn K mainGlobals "set"=some none)
  (Aj:PySem.W.nsIn K mainGlobals "sorted"=some none)
  (Bu:PySem.W.nsIn K mainGlobals "str"=some none)
  (CG:PySem.W.nsIn K mainGlobals "sum"=some none)
  (xK:PySem.W.nsIn K mainGlobals "tuple"=some none)
  :∃fd:FuncData,(∀(s:Shared) (v:Value),BindsTo s fd ⟨[v],[]⟩ [("script",v)])/\∀base:Heap,K.In base->base.Ns mainGlobals mg->bD l.prog w K mg base bI 7 fa fd ["script"] (tQ K):=by
 have e:=KQ.symm.trans (bP X G Ab)
 cases e
 obtain⟨a0,_,F0⟩:=d0
 have b0:=F0.binds (ps:=["p","b"]) (by walk_at "bn")
 obtain⟨a1,_,F1⟩:=d1
 have b1:=F1.binds (ps:=["p","pairs","word"]) (by walk_at "bn")
 obtain⟨a2,_,F2⟩:=d2
 have b2:=F2.binds (ps:=["net","word"]) (by walk_at "bn")
 obtain⟨a3,_,F3⟩:=d3
 have b3:=F3.binds (ps:=["p","pairs","word"]) (by walk_at "bn")
 obtain⟨a4,_,F4⟩:=d4
 have b4:=F4.binds (ps:=["net","places"]) (by walk_at "bn")
 obtain⟨a5,_,F5⟩:=d5
 have b5:=F5.binds (ps:=["net"]) (by walk_at "bn")
 obtain⟨a6,_,F6⟩:=d6
 have b6:=F6.binds (ps:=["p","there","reached","letter"]) (by walk_at "bn")
 obtain⟨a7,_,F7⟩:=d7
 have b7:=F7.binds (ps:=["reached"]) (by walk_at "bn")
 obtain⟨a8,_,F8⟩:=d8
 have b8:=F8.binds (ps:=["net","found","word"]) (by walk_at "bn")
 obtain⟨a9,_,F9⟩:=d9
 have b9:=F9.binds (ps:=["net","word"]) (by walk_at "bn")
 obtain⟨Uv,_,yL⟩:=AU
 have OD:=yL.binds (ps:=["script"]) (by walk_at "bn")
 obtain⟨SV,_,yy⟩:=zg
 have TN:=yy.binds (ps:=["bag","many"]) (by walk_at "bn")
 obtain⟨O2,_,zw⟩:=B3
 have NI:=zw.binds (ps:=["bag","many"]) (by walk_at "bn")
 obtain⟨Lh,_,zz⟩:=xW
 have Wl:=zz.binds (ps:=["number"]) (by walk_at "bn")
 obtain⟨VB,_,Ax⟩:=wO
 have KU:=Ax.binds (ps:=["bag"]) (by walk_at "bn")
 obtain⟨SY,_,yP⟩:=yd
 have SX:=yP.binds (ps:=["bag","p","n"]) (by walk_at "bn")
 obtain⟨NK,_,AW⟩:=Dc
 have Rq:=AW.binds (ps:=["p","a","b"]) (by walk_at "bn")
 obtain⟨Sy,_,yQ⟩:=CO
 have TL:=yQ.binds (ps:=["p","pairs","word"]) (by walk_at "bn")
 obtain⟨V8,_,C7⟩:=Cm
 have Vz:=C7.binds (ps:=["bag","sides"]) (by walk_at "bn")
 obtain⟨M4,_,BP⟩:=yq
 have Uh:=BP.binds (ps:=["bag","n","rows"]) (by walk_at "bn")
 obtain⟨Mw,_,wK⟩:=zK
 have US:=wK.binds (ps:=["bag","n","rows","many","wide"]) (by walk_at "bn")
 obtain⟨Xp,_,xu⟩:=A1
 have Te:=xu.binds (ps:=["bag","p","row","word"]) (by walk_at "bn")
 obtain⟨Rw,_,C3⟩:=zF
 have NU:=C3.binds (ps:=["bag","places","many","wide"]) (by walk_at "bn")
 obtain⟨Qj,_,zj⟩:=xZ
 have Rv:=zj.binds (ps:=["bag","p","word","wide"]) (by walk_at "bn")
 obtain⟨Xk,_,Bs⟩:=BK
 have Nc:=Bs.binds (ps:=["bag","p","word","many","wide"]) (by walk_at "bn")
 obtain⟨RD,_,yH⟩:=CA
 have Kn:=yH.binds (ps:=["bag","places","many","wide"]) (by walk_at "bn")
 obtain⟨W6,_,xQ⟩:=zO
 have Vg:=xQ.binds (ps:=["bag","p","word","many"]) (by walk_at "bn")
 obtain⟨qf,_,jJ⟩:=B4
 have pO:=jJ.binds (ps:=["found","due"]) (by walk_at "bn")
 obtain⟨Q5,_,wJ⟩:=AY
 have RN:=wJ.binds (ps:=["net"]) (by walk_at "bn")
 obtain⟨Po,_,yO⟩:=Cf
 have Li:=yO.binds (ps:=["net","word"]) (by walk_at "bn")
 obtain⟨PV,_,xH⟩:=Aa
 have Sb:=xH.binds (ps:=["net","word"]) (by walk_at "bn")
 obtain⟨Km,_,xr⟩:=zJ
 have RB:=xr.binds (ps:=["net","word"]) (by walk_at "bn")
 obtain⟨a32,_,wV⟩:=Ae
 have Nj:=wV.binds (ps:=["net","word"]) (by walk_at "bn")
 obtain⟨Mb,_,yb⟩:=C8
 have J8:=yb.binds (ps:=["bag"]) (by walk_at "bn")
 obtain⟨LK,_,BS⟩:=Af
 have Rr:=BS.binds (ps:=["bag","net","there"]) (by walk_at "bn")
 obtain⟨Pb,_,CL⟩:=yD
 have Pk:=CL.binds (ps:=["bag","net","word"]) (by walk_at "bn")
 have OS:=Gj (st:=lH) Dr AE xV
 have ym:=iw X G zD
 have oR:=iw X G BJ
 have l8:=iw X G yX
 have Ct:=iw X G za
 have o4:=iw X G BD
 have j9:=iw X G CZ
 have g9:=iw X G xC
 have bB:=iw X G zl
 have cE:=iw X G z7
 have yN:=iw X G yY
 have aO:=iw X G wY
 have l5:=iw X G As
 have fP:=iw X G Aj
 have l6:=iw X G Bu
 have BG:=iw X G CG
 have mh:=iw X G xK
 refine⟨PySem.W.fnOf "law" "law" (oA lH) (m5 lH) (aM lH) .none GI EV EY Fg Br EK,fun s v=> .of_eq rfl,fun base _ _=>?_⟩
 have LQ:=Callee.mk' F0 (Su (P:=l.prog) (w:=w) (base:=base) F0) b0 (bP X G a0)
 have Qk:=Callee.mk' F1 (MV (P:=l.prog) (w:=w) (base:=base) F1) b1 (bP X G a1)
 have To:=Callee.mk' F3 (KL (P:=l.prog) (w:=w) (base:=base) F3 Qk) b3 (bP X G a3)
 have LY:=Callee.mk' F2 (QB (P:=l.prog) (w:=w) (base:=base) F2 To) b2 (bP X G a2)
 have N4:=Callee.mk' F4 (LU (P:=l.prog) (w:=w) (base:=base) F4 LQ Ct o4) b4 (bP X G a4)
 have RL:=Callee.mk' F5 (Lg (P:=l.prog) (w:=w) (base:=base) F5 N4 cE aO) b5 (bP X G a5)
 have LI:=Callee.mk' F6 (SM (P:=l.prog) (w:=w) (base:=base) F6) b6 (bP X G a6)
 have KG:=Callee.mk' F7 (Pw (P:=l.prog) (w:=w) (base:=base) F7 bB) b7 (bP X G a7)
 have SN:=Callee.mk' F8 (Rj (P:=l.prog) (w:=w) (base:=base) F8 LY KG LI o4 fP) b8 (bP X G a8)
 have MQ:=Callee.mk' F9 (RX (P:=l.prog) (w:=w) (base:=base) F9 RL SN cE) b9 (bP X G a9)
 have VR:=Callee.mk' yL (S8 (P:=l.prog) (w:=w) (base:=base) yL ym) OD (bP X G Uv)
 have V5:=Callee.mk' yy (Wi (P:=l.prog) (w:=w) (base:=base) yy aO) TN (bP X G SV)
 have jI:=Callee.mk' zw (OP (P:=l.prog) (w:=w) (base:=base) zw V5 bB) NI (bP X G O2)
 have TY:=Callee.mk' zz (Pj (P:=l.prog) (w:=w) (base:=base) zz aO) Wl (bP X G Lh)
 have EI:=Callee.mk' Ax (Ul (P:=l.prog) (w:=w) (base:=base) Ax jI TY) KU (bP X G VB)
 have EX:=Callee.mk' yP (PJ (P:=l.prog) (w:=w) (base:=base) yP jI aO j9 yN) SX (bP X G SY)
 have yh:=Callee.mk' AW (Lx (P:=l.prog) (w:=w) (base:=base) AW) Rq (bP X G NK)
 have sR:=Callee.mk' yQ (U7 (P:=l.prog) (w:=w) (base:=base) yQ BG) TL (bP X G Sy)
 have NF:=Callee.mk' C7 (Q3 (P:=l.prog) (w:=w) (base:=base) C7 jI aO bB) Vz (bP X G V8)
 have Xg:=Callee.mk' BP (Vp (P:=l.prog) (w:=w) (base:=base) BP jI cE aO fP bB) Uh (bP X G M4)
 have Lk:=Callee.mk' wK (M6 (P:=l.prog) (w:=w) (base:=base) wK jI aO bB fP l5) US (bP X G Mw)
 have RU:=Callee.mk' xu (Mf (P:=l.prog) (w:=w) (base:=base) xu sR yh jI aO bB) Te (bP X G Xp)
 have PN:=Callee.mk' C3 (S1 (P:=l.prog) (w:=w) (base:=base) C3 EI jI aO fP l5) NU (bP X G Rw)
 have KR:=Callee.mk' zj (Om (P:=l.prog) (w:=w) (base:=base) zj sR jI yh bB fP l5 aO) Rv (bP X G Qj)
 have RS:=Callee.mk' Bs (Mp (P:=l.prog) (w:=w) (base:=base) Bs KR bB aO) Nc (bP X G Xk)
 have L1:=Callee.mk' yH (R5 (P:=l.prog) (w:=w) (base:=base) yH jI PN EX RS aO) Kn (bP X G RD)
 have WG:=Callee.mk' xQ (NN (P:=l.prog) (w:=w) (base:=base) xQ jI cE aO bB) Vg (bP X G W6)
 have Lb:=Callee.void (P:=l.prog) (w:=w) (base:=base) (k:=0) (sp:=bC 2 (pX 0)) jJ pO (bP X G qf) Wm
 have Nk:=Callee.mk' jJ (rE (P:=l.prog) (w:=w) (base:=base) 0 jJ Lb g9 cE mh oR bB l8 j9 l6 aO) pO (bP X G qf)
 have LF:=Callee.mk' jJ (rE (P:=l.prog) (w:=w) (base:=base) 1 jJ Nk g9 cE mh oR bB l8 j9 l6 aO) pO (bP X G qf)
 have Oh:=Callee.mk' jJ (rE (P:=l.prog) (w:=w) (base:=base) 2 jJ LF g9 cE mh oR bB l8 j9 l6 aO) pO (bP X G qf)
 have Pp:=Callee.mk' jJ (rE (P:=l.prog) (w:=w) (base:=base) 3 jJ Oh g9 cE mh oR bB l8 j9 l6 aO) pO (bP X G qf)
 have RY:=Callee.mk' jJ (rE (P:=l.prog) (w:=w) (base:=base) 4 jJ Pp g9 cE mh oR bB l8 j9 l6 aO) pO (bP X G qf)
 have UT:=RY
 have LN:=Callee.mk' wJ (V2 (P:=l.prog) (w:=w) (base:=base) wJ cE) RN (bP X G Q5)
 have ER:=Callee.mk' yO (Lz (P:=l.prog) (w:=w) (base:=base) yO sR yh aO) Li (bP X G Po)
 have zN:=Callee.mk' xH (TM (P:=l.prog) (w:=w) (base:=base) xH sR bB) Sb (bP X G PV)
 have PB:=Callee.mk' xr (RH (P:=l.prog) (w:=w) (base:=base) xr ER aO fP) RB (bP X G Km)
 have WV:=Callee.mk' wV (OU (P:=l.prog) (w:=w) (base:=base) wV zN PB cE aO bB) Nj (bP X G a32)
 have Vv:=Callee.mk' yb (Rn (P:=l.prog) (w:=w) (base:=base) yb jI EI NF Xg EX L1 Lk RU WG) J8 (bP X G Mb)
 have TV:=Callee.mk' BS (Ka (P:=l.prog) (w:=w) (base:=base) BS jI cE fP aO) Rr (bP X G LK)
 have KP:=Callee.mk' CL (R6 (P:=l.prog) (w:=w) (base:=base) CL ER zN TV aO) Pk (bP X G Pb)
 exact QZ OS VR Vv WV MQ LN KP UT zN cE bB
theorem walk{l:PySem.W.OpenLaw}{q:Program}{loose:List Str}{XP:(Str->Option Value)->Heap->Prop}{YP:World->Heap->Prop}{d:DefRec}{K:Params->PySem.W.Frag}(hn:l.most=some 63)(hdf:d.params.defaults=[])
  (hY:∀(w:World) (h:Heap),YP w h->(K w.params).In h)
  (F : ∀ (w : World) (mg : Str -> Option Value) (fa : Addr) (h : Heap), (K w.params).In h -> h.Ns mainGlobals mg -> mg d.name = some (.ref fa) ->
   ∃fd:FuncData,(∀(s:Shared) (u:Value),BindsTo s fd ⟨[u],[]⟩ [("script",u)])/\∀base:Heap,(K w.params).In base->base.Ns mainGlobals mg->bD l.prog w (K w.params) mg base bI 7 fa fd ["script"] (tQ (K w.params))):
  PySem.W.WalkO q loose XP YP l.row.toRowW d [] (fun f vs=>PySem.call f vs):=
 L2.Ui (n:=63) (k:=7) (x:="script") (CX:=fun _=>bI) (sp:=fun w=>tQ (K w.params)) hn (by decide) hdf ⟨rfl,by decide,by decide⟩ hY F (fun _ _ a ns hl _ hS=>⟨a,ns,rfl,hS,hl,fun _=>rfl⟩) fun _ _ _ _ _ z=>z
def view:Program:={PySem.Challenge.pw_fewchecks_k56_whole_calm_at_last with main:={PySem.Challenge.pw_fewchecks_k56_whole_calm_at_last.main with body:=[top 1,top 2,top 4,top 5,top 7,top 8,top 9,top 10,top 11,top 12,top 14,top 15,top 16,top 17,top 18,top 19,top 20,top 21,top 22,top 23,top 24,top 25,top 26,top 27,top 28,top 29,top 30,top 31,top 32,top 33,top 34,top 35,top 36,top 37,top 38,top 39,top 40,top 41,top 42,top 43,top 44]}}
end K56
open PySem PySem.W PyProof.Rows
local macro_rules| `(tactic|o_head $H:term)=> `(tactic|
 (refine holds_open (q:=K56.view) (loose:=[])
    (Xt:=fun s=>xlAt K56.view [] s && recOk [] s) (XP:=XL K56.view []) (Yf:=Hook.obs $H)
    (Ya:=Hook.val $H) (YP:=Hook.says $H) (N:=100000) ?hl (Hook.of $H)
    (Hook.keeps $H) (fun s e=>xl_of s (Js.mp e).1) XL.keeps
    rfl rfl rfl (fun s e=>recFacts_of (Js.mp e).2) rfl
    (by assumption) (by decide+kernel) ⟨rfl,rfl,rfl,rfl,rfl,by decide+kernel⟩ ?hw ?hc;(case hl=>exact fun w=>by kernel_rfl)))
set_option maxRecDepth 100000 in
set_option maxHeartbeats 0 in
theorem PySem.Challenge.cw_fewchecks_k56_whole_calm_at_last_holds : PySem.Challenge.rw_fewchecks_k56_whole_calm_at_last.Holds := by
 w_on
 refine holds_law sd0 fun said=>?_
 k_head
 (case hw=>w_witness2)
 k_fill
 refine K56.walk (l:=PySem.Challenge.rw_fewchecks_k56_whole_calm_at_last) rfl rfl (fun w h Y=>PySem.W.kIn_of Y) ?F
 case F=>
  intro w mg fa h KX G hmg
  refine' K56.all_mk KX G hmg ?d0 ?d1 ?d2 ?d3 ?d4 ?d5 ?d6 ?d7 ?d8 ?d9 ?AU ?zg ?B3 ?xW ?wO ?yd ?Dc ?CO ?Cm ?yq ?zK ?A1 ?zF ?xZ ?BK ?CA ?zO ?B4 ?AY ?Cf ?Aa ?zJ ?Ae ?C8 ?Af ?yD ?Ab ?Dr ?AE ?xV ?zD ?BJ ?yX ?za ?BD ?CZ ?xC ?zl ?z7 ?yY ?wY ?As ?Aj ?Bu ?CG ?xK
  (case d0=>refine' L2.aN.mk ?a ?l ?c ?k;(case a=>k_is);(case l=>k_is);(case c=>k_is);(case k=>k_is))
  (case d1=>refine' L2.aN.mk ?a ?l ?c ?k;(case a=>k_is);(case l=>k_is);(case c=>k_is);(case k=>k_is))
  (case d2=>refine' L2.aN.mk ?a ?l ?c ?k;(case a=>k_is);(case l=>k_is);(case c=>k_is);(case k=>k_is))
  (case d3=>refine' L2.aN.mk ?a ?l ?c ?k;(case a=>k_is);(case l=>k_is);(case c=>k_is);(case k=>k_is))
  (case d4=>refine' L2.aN.mk ?a ?l ?c ?k;(case a=>k_is);(case l=>k_is);(case c=>k_is);(case k=>k_is))
  (case d5=>refine' L2.aN.mk ?a ?l ?c ?k;(case a=>k_is);(case l=>k_is);(case c=>k_is);(case k=>k_is))
  (case d6=>refine' L2.aN.mk ?a ?l ?c ?k;(case a=>k_is);(case l=>k_is);(case c=>k_is);(case k=>k_is))
  (case d7=>refine' L2.aN.mk ?a ?l ?c ?k;(case a=>k_is);(case l=>k_is);(case c=>k_is);(case k=>k_is))
  (case d8=>refine' L2.aN.mk ?a ?l ?c ?k;(case a=>k_is);(case l=>k_is);(case c=>k_is);(case k=>k_is))
  (case d9=>refine' L2.aN.mk ?a ?l ?c ?k;(case a=>k_is);(case l=>k_is);(case c=>k_is);(case k=>k_is))
  (case AU=>refine' L2.aN.mk ?a ?l ?c ?k;(case a=>k_is);(case l=>k_is);(case c=>k_is);(case k=>k_is))
  (case zg=>refine' L2.aN.mk ?a ?l ?c ?k;(case a=>k_is);(case l=>k_is);(case c=>k_is);(case k=>k_is))
  (case B3=>refine' L2.aN.mk ?a ?l ?c ?k;(case a=>k_is);(case l=>k_is);(case c=>k_is);(case k=>k_is))
  (case xW=>refine' L2.aN.mk ?a ?l ?c ?k;(case a=>k_is);(case l=>k_is);(case c=>k_is);(case k=>k_is))
  (case wO=>refine' L2.aN.mk ?a ?l ?c ?k;(case a=>k_is);(case l=>k_is);(case c=>k_is);(case k=>k_is))
  (case yd=>refine' L2.aN.mk ?a ?l ?c ?k;(case a=>k_is);(case l=>k_is);(case c=>k_is);(case k=>k_is))
  (case Dc=>refine' L2.aN.mk ?a ?l ?c ?k;(case a=>k_is);(case l=>k_is);(case c=>k_is);(case k=>k_is))
  (case CO=>refine' L2.aN.mk ?a ?l ?c ?k;(case a=>k_is);(case l=>k_is);(case c=>k_is);(case k=>k_is))
  (case Cm=>refine' L2.aN.mk ?a ?l ?c ?k;(case a=>k_is);(case l=>k_is);(case c=>k_is);(case k=>k_is))
  (case yq=>refine' L2.aN.mk ?a ?l ?c ?k;(case a=>k_is);(case l=>k_is);(case c=>k_is);(case k=>k_is))
  (case zK=>refine' L2.aN.mk ?a ?l ?c ?k;(case a=>k_is);(case l=>k_is);(case c=>k_is);(case k=>k_is))
  (case A1=>refine' L2.aN.mk ?a ?l ?c ?k;(case a=>k_is);(case l=>k_is);(case c=>k_is);(case k=>k_is))
  (case zF=>refine' L2.aN.mk ?a ?l ?c ?k;(case a=>k_is);(case l=>k_is);(case c=>k_is);(case k=>k_is))
  (case xZ=>refine' L2.aN.mk ?a ?l ?c ?k;(case a=>k_is);(case l=>k_is);(case c=>k_is);(case k=>k_is))
  (case BK=>refine' L2.aN.mk ?a ?l ?c ?k;(case a=>k_is);(case l=>k_is);(case c=>k_is);(case k=>k_is))
  (case CA=>refine' L2.aN.mk ?a ?l ?c ?k;(case a=>k_is);(case l=>k_is);(case c=>k_is);(case k=>k_is))
  (case zO=>refine' L2.aN.mk ?a ?l ?c ?k;(case a=>k_is);(case l=>k_is);(case c=>k_is);(case k=>k_is))
  (case B4=>refine' L2.aN.mk ?a ?l ?c ?k;(case a=>k_is);(case l=>k_is);(case c=>k_is);(case k=>k_is))
  (case AY=>refine' L2.aN.mk ?a ?l ?c ?k;(case a=>k_is);(case l=>k_is);(case c=>k_is);(case k=>k_is))
  (case Cf=>refine' L2.aN.mk ?a ?l ?c ?k;(case a=>k_is);(case l=>k_is);(case c=>k_is);(case k=>k_is))
  (case Aa=>refine' L2.aN.mk ?a ?l ?c ?k;(case a=>k_is);(case l=>k_is);(case c=>k_is);(case k=>k_is))
  (case zJ=>refine' L2.aN.mk ?a ?l ?c ?k;(case a=>k_is);(case l=>k_is);(case c=>k_is);(case k=>k_is))
  (case Ae=>refine' L2.aN.mk ?a ?l ?c ?k;(case a=>k_is);(case l=>k_is);(case c=>k_is);(case k=>k_is))
  (case C8=>refine' L2.aN.mk ?a ?l ?c ?k;(case a=>k_is);(case l=>k_is);(case c=>k_is);(case k=>k_is))
  (case Af=>refine' L2.aN.mk ?a ?l ?c ?k;(case a=>k_is);(case l=>k_is);(case c=>k_is);(case k=>k_is))
  (case yD=>refine' L2.aN.mk ?a ?l ?c ?k;(case a=>k_is);(case l=>k_is);(case c=>k_is);(case k=>k_is))
  (case Ab=>k_is)
  (case Dr=>k_is)
  (case AE=>k_is)
  (case xV=>k_is)
  (case zD=>k_is)
  (case BJ=>k_is)
  (case yX=>k_is)
  (case za=>k_is)
  (case BD=>k_is)
  (case CZ=>k_is)
  (case xC=>k_is)
  (case zl=>k_is)
  (case z7=>k_is)
  (case yY=>k_is)
  (case wY=>k_is)
  (case As=>k_is)
  (case Aj=>k_is)
  (case Bu=>k_is)
  (case CG=>k_is)
  (case xK=>k_is)
